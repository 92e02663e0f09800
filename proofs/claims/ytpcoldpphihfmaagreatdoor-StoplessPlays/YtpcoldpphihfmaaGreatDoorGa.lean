import Derived.Test.YtpcoldpphihfmaaGreatDoorGc
namespace Go.Proofs.YtpcoldpphihfmaaGreatDoor
set_option linter.unusedVariables false
open S.Plain (t0 t1 tw nx)
open H.Plain (hw pL)
def In (a : Int) : Prop := 0 ≤ a ∧ a < 160
section
variable {s : St} {a b x : Int}
theorem In.is1 (h : s.ws.length = 160) (ha : In a) : s.is1 a = true := by
 simp only [St.is1, Bool.and_eq_true, decide_eq_true_eq]; rw [h]; exact ⟨ha.1, by have := ha.2; omega⟩
theorem In.got (h : s.ws.length = 160) (ha : In a) : s.got a = s.word a := by simp [St.got, ha.is1 h]
theorem word_put (h : s.ws.length = 160) (ha : In a) (hb : In b) : (s.put a x).word b = if a = b then x else s.word b := by
 obtain ⟨i, rfl⟩ : ∃ i : Nat, a = i := ⟨a.toNat, by have := ha.1; omega⟩
 obtain ⟨j, rfl⟩ : ∃ j : Nat, b = j := ⟨b.toNat, by have := hb.1; omega⟩
 have hj : j < s.ws.length := by have := hb.2; omega
 have hi : i < s.ws.length := by have := ha.2; omega
 simp only [St.word, St.put, Int.toNat_natCast, List.getD_eq_getElem?_getD, List.getElem?_set]
 by_cases e : i = j
 ·subst e; simp [hi]
 ·simp [e]; omega
theorem t_tell (h : s.ws.length = 160) (ha : In a) (op : Int) (ok : Bool) : (s.tell op a (s.is1 a) ok).t = s.t := by simp [St.tell, ha.is1 h]
theorem t_load (h : s.ws.length = 160) (ha : In a) : (s.load a).t = s.t := t_tell h ha _ _
theorem t_store (h : s.ws.length = 160) (ha : In a) : (s.store a x).t = s.t := by simp [St.store, St.tell, St.put, ha.is1 h]
theorem t_cas (h : s.ws.length = 160) (ha : In a) (o : Int) : (s.cas a o x).t = s.t := by unfold St.cas; split <;> simp [St.tell, St.put, ha.is1 h]
theorem word_store (h : s.ws.length = 160) (ha : In a) (hb : In b) : (s.store a x).word b = if a = b then x else s.word b := by
 rw [← word_put h ha hb]; simp only [St.store, ha.is1 h, if_true]; rfl
theorem ok1_iff (h : s.ws.length = 160) (ha : In a) (o : Int) : s.ok1 a o = (s.word a == o) := by simp [St.ok1, ha.is1 h]
theorem word_cas_ok (h : s.ws.length = 160) (ha : In a) (hb : In b) {o : Int} (ho : s.word a = o) : (s.cas a o x).word b = if a = b then x else s.word b := by
 rw [← word_put h ha hb]; simp only [St.cas, ok1_iff h ha, ho, beq_self_eq_true, if_true]; rfl
end
theorem n_store' {s : St} (h : s.ws.length = 160) (a x : Int) : (s.store a x).ws.length = 160 := by rw [St.n_store]; exact h
theorem n_cas' {s : St} (h : s.ws.length = 160) (a o x : Int) : (s.cas a o x).ws.length = 160 := by rw [St.n_cas]; exact h
end Go.Proofs.YtpcoldpphihfmaaGreatDoor
