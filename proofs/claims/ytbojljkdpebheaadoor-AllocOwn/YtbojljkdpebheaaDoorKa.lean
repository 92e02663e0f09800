/-
  A memory's words, said plainly: no program in sight.
-/
import Derived.Test.YtbojljkdpebheaaDoorKp
namespace Go.Proofs.YtbojljkdpebheaaDoor
set_option linter.unusedVariables false
open S.Plain (t0 t1 tw nx bw b0 b1 b2 b3)
open H.Plain (hw pL)
namespace St
variable {s : St} {a b x o : Int}
/-- an address of the memory -/
def In (s : St) (a : Int) : Prop := 0 ≤ a ∧ a < s.ws.length
theorem In.is1 (h : s.In a) : s.is1 a = true := by
  simp only [St.is1, Bool.and_eq_true, decide_eq_true_eq]; exact h
theorem In.got (h : s.In a) : s.got a = s.word a := by simp [St.got, h.is1]
theorem word_put (ha : s.In a) (hb : s.In b) : (s.put a x).word b = if a = b then x else s.word b := by
  obtain ⟨i, rfl⟩ : ∃ i : Nat, a = i := ⟨a.toNat, by have := ha.1; omega⟩
  obtain ⟨j, rfl⟩ : ∃ j : Nat, b = j := ⟨b.toNat, by have := hb.1; omega⟩
  have hj : j < s.ws.length := by have := hb.2; omega
  have hi : i < s.ws.length := by have := ha.2; omega
  simp only [St.word, St.put, Int.toNat_natCast, List.getD_eq_getElem?_getD, List.getElem?_set]
  by_cases e : i = j
  · subst e; simp [hi]
  · simp [e]; omega
theorem t_load' (h : s.In a) : (s.load a).t = s.t := by simp [St.load, St.tell, h.is1]
theorem t_store' (h : s.In a) : (s.store a x).t = s.t := by simp [St.store, St.tell, St.put, h.is1]
theorem t_cas' (h : s.In a) : (s.cas a o x).t = s.t := by unfold St.cas; split <;> simp [St.tell, St.put, h.is1]
theorem word_load' (s : St) (a b : Int) : (s.load a).word b = s.word b := rfl
theorem word_store' (ha : s.In a) (hb : s.In b) : (s.store a x).word b = if a = b then x else s.word b := by
  rw [← word_put ha hb]; simp only [St.store, ha.is1, if_true]; rfl
theorem ok1_iff' (ha : s.In a) (o : Int) : s.ok1 a o = (s.word a == o) := by simp [St.ok1, ha.is1]
theorem word_cas_ok' (ha : s.In a) (hb : s.In b) (ho : s.word a = o) : (s.cas a o x).word b = if a = b then x else s.word b := by
  rw [← word_put ha hb]; simp only [St.cas, ok1_iff' ha, ho, beq_self_eq_true, if_true]; rfl
theorem word_cas_no' (ha : s.In a) (ho : s.word a ≠ o) : (s.cas a o x).word b = s.word b := by
  simp only [St.cas, ok1_iff' ha, beq_eq_false_iff_ne.2 ho, Bool.false_eq_true, if_false]; rfl
theorem In.len {s' : St} (h : s.In a) (e : s'.ws.length = s.ws.length) : s'.In a := ⟨h.1, by rw [e]; exact h.2⟩
end St
/-- two words that stand in different places: a write to one is not seen in the other -/
theorem word_other {s : St} {a b x : Int} (ha : s.In a) (hb : s.In b) (h : a ≠ b) : (s.store a x).word b = s.word b := by rw [St.word_store' ha hb, if_neg h]
theorem cas_other {s : St} {a b x o : Int} (ha : s.In a) (hb : s.In b) (h : a ≠ b) : (s.cas a o x).word b = s.word b := by
  by_cases e : s.word a = o
  · rw [St.word_cas_ok' ha hb e, if_neg h]
  · rw [St.word_cas_no' ha e]
/-- only the words matter -/
theorem got_ws {s s' : St} (h : s'.ws = s.ws) (a : Int) : s'.got a = s.got a := by
  have e1 : s'.is1 a = s.is1 a := by simp only [St.is1, h]
  have e2 : s'.word a = s.word a := by simp only [St.word, h]
  unfold St.got; rw [e1, e2]
theorem ok1_ws {s s' : St} (h : s'.ws = s.ws) (a o : Int) : s'.ok1 a o = s.ok1 a o := by simp only [St.ok1, St.is1, St.word, h]
theorem load_ws {s s' : St} (h : s'.ws = s.ws) (a : Int) : (s'.load a).ws = (s.load a).ws := h
theorem store_ws {s s' : St} (h : s'.ws = s.ws) (a x : Int) : (s'.store a x).ws = (s.store a x).ws := by
  have e : s'.is1 a = s.is1 a := by simp only [St.is1, h]
  simp only [St.store, e, St.tell]
  split
  · simp only [St.put, h]
  · exact h
theorem cas_ws {s s' : St} (h : s'.ws = s.ws) (a o x : Int) : (s'.cas a o x).ws = (s.cas a o x).ws := by
  simp only [St.cas, ok1_ws h, St.tell]
  split
  · simp only [St.put, h]
  · exact h
theorem PushS.next_ws {s s' : St} (h : s'.ws = s.ws) (x : PushS) : x.next s' = x.next s := by unfold PushS.next; simp only [got_ws h, ok1_ws h]
theorem PushS.mem_ws {s s' : St} (h : s'.ws = s.ws) (x : PushS) : (x.mem s').ws = (x.mem s).ws := by
  unfold PushS.mem; split
  · exact load_ws h _
  · exact store_ws h _ _
  · exact cas_ws h _ _ _
  · exact h
theorem TakeS.next_ws {s s' : St} (h : s'.ws = s.ws) (x : TakeS) : x.next s' = x.next s := by unfold TakeS.next; simp only [got_ws h, ok1_ws h, PushS.next_ws h]
theorem TakeS.mem_ws {s s' : St} (h : s'.ws = s.ws) (x : TakeS) : (x.mem s').ws = (x.mem s).ws := by
  unfold TakeS.mem; split
  · exact load_ws h _
  · exact load_ws h _
  · exact cas_ws h _ _ _
  · exact store_ws h _ _
  · exact store_ws h _ _
  · exact PushS.mem_ws h _
  · exact h
theorem GiveS.next_ws {s s' : St} (h : s'.ws = s.ws) (x : GiveS) : x.next s' = x.next s := by unfold GiveS.next; simp only [got_ws h, ok1_ws h]
theorem GiveS.mem_ws {s s' : St} (h : s'.ws = s.ws) (x : GiveS) : (x.mem s').ws = (x.mem s).ws := by
  unfold GiveS.mem; split
  · exact load_ws h _
  · exact store_ws h _ _
  · exact cas_ws h _ _ _
  · exact h
end Go.Proofs.YtbojljkdpebheaaDoor
