/-
  A memory's words, said plainly: no program in sight.
-/
import Derived.Test.YtoablodmodnamaaDoorGpq
namespace Go.Proofs.YtoablodmodnamaaDoor
set_option linter.unusedVariables false
open S.Plain (t0 t1 tw nx)
open H.Plain (hw pL)

/-- an address of a memory of 160 words -/
def In (a : Int) : Prop := 0 ≤ a ∧ a < 160
section
variable {s : St} {a b x : Int}
theorem In.is1 (h : s.ws.length = 160) (ha : In a) : s.is1 a = true := by
  simp only [St.is1, Bool.and_eq_true, decide_eq_true_eq]; rw [h]; exact ⟨ha.1, by have := ha.2; omega⟩
theorem In.got (h : s.ws.length = 160) (ha : In a) : s.got a = s.word a := by simp [St.got, ha.is1 h]
theorem word_put (h : s.ws.length = 160) (ha : In a) (hb : In b) : (s.put a x).word b = if a = b then x else s.word b := by
  obtain ⟨i, rfl⟩ : ∃ i : Nat, a = i := ⟨a.toNat, by have := ha.1; omega⟩
  obtain ⟨j, rfl⟩ : ∃ j : Nat, b = j := ⟨b.toNat, by have := hb.1; omega⟩
  have hj : j < s.ws.length := by have := hb.2; omega
  have hi : i < s.ws.length := by have := ha.2; omega
  simp only [St.word, St.put, Int.toNat_natCast, List.getD_eq_getElem?_getD, List.getElem?_set]
  by_cases e : i = j
  · subst e; simp [hi]
  · simp [e]; omega
theorem t_tell (h : s.ws.length = 160) (ha : In a) (op : Int) (ok : Bool) : (s.tell op a (s.is1 a) ok).t = s.t := by simp [St.tell, ha.is1 h]
theorem t_load (h : s.ws.length = 160) (ha : In a) : (s.load a).t = s.t := t_tell h ha _ _
theorem t_store (h : s.ws.length = 160) (ha : In a) : (s.store a x).t = s.t := by simp [St.store, St.tell, St.put, ha.is1 h]
theorem t_cas (h : s.ws.length = 160) (ha : In a) (o : Int) : (s.cas a o x).t = s.t := by unfold St.cas; split <;> simp [St.tell, St.put, ha.is1 h]
theorem word_load (s : St) (a b : Int) : (s.load a).word b = s.word b := rfl
theorem word_store (h : s.ws.length = 160) (ha : In a) (hb : In b) : (s.store a x).word b = if a = b then x else s.word b := by
  rw [← word_put h ha hb]; simp only [St.store, ha.is1 h, if_true]; rfl
theorem ok1_iff (h : s.ws.length = 160) (ha : In a) (o : Int) : s.ok1 a o = (s.word a == o) := by simp [St.ok1, ha.is1 h]
theorem word_cas_ok (h : s.ws.length = 160) (ha : In a) (hb : In b) {o : Int} (ho : s.word a = o) : (s.cas a o x).word b = if a = b then x else s.word b := by
  rw [← word_put h ha hb]; simp only [St.cas, ok1_iff h ha, ho, beq_self_eq_true, if_true]; rfl
theorem word_cas_no (h : s.ws.length = 160) (ha : In a) {o : Int} (ho : s.word a ≠ o) : (s.cas a o x).word b = s.word b := by
  simp only [St.cas, ok1_iff h ha, beq_eq_false_iff_ne.2 ho, Bool.false_eq_true, if_false]; rfl
end

theorem t0_tw' {c v : Int} (h : 0 ≤ c) (h' : c < 160) : t0 (tw c v) = c := by rw [S.Plain.t0_tw]; omega
theorem t1_tw' {c : Int} {v : Nat} (h : v < 1099511627776) : t1 (tw c v) = v := by rw [S.Plain.t1_tw]; omega
theorem tw_inj {c d : Int} {v u : Nat} (hv : v < 1099511627776) (hu : u < 1099511627776) (h : tw c v = tw d u) : v = u := by
  have := congrArg t1 h
  rw [t1_tw' hv, t1_tw' hu] at this
  omega
theorem nx_tw {c d : Int} {v : Nat} (h : v < 1099511627776) : nx (tw c v) d = tw d ((v + 1 : Nat) : Int) := by
  unfold S.Plain.nx; rw [t1_tw' h]; rfl
theorem In1 : In 1 := ⟨by omega, by omega⟩
theorem n_len {s : St} (h : s.ws.length = 160) (a : Int) : (s.load a).ws.length = 160 := h
theorem n_store' {s : St} (h : s.ws.length = 160) (a x : Int) : (s.store a x).ws.length = 160 := by rw [St.n_store]; exact h
theorem n_cas' {s : St} (h : s.ws.length = 160) (a o x : Int) : (s.cas a o x).ws.length = 160 := by rw [St.n_cas]; exact h
/-- a header's seven numbers, read again -/
theorem Hd.of_w (h : Hd) (hS : 0 ≤ h.S ∧ h.S < 4) (hC : 0 ≤ h.C ∧ h.C < 4) (hN : 0 ≤ h.N ∧ h.N < 8) (hM : 0 ≤ h.M ∧ h.M < 2) (hG : 0 ≤ h.G ∧ h.G < 2) (hT : 0 ≤ h.T ∧ h.T < 8) (hL : 0 ≤ h.L ∧ h.L < 4096) : Hd.of h.w = h := by
  obtain ⟨a, b, c, d, e, f, g⟩ := h
  simp only at hS hC hN hM hG hT hL
  simp only [Hd.of, Hd.w, H.Plain.hw, H.Plain.pS, H.Plain.pC, H.Plain.pN, H.Plain.pM, H.Plain.pG, H.Plain.pT, H.Plain.pL, Hd.mk.injEq]
  refine ⟨?_, ?_, ?_, ?_, ?_, ?_, ?_⟩ <;> omega
theorem Hd.of_bounds (a : Int) : (0 ≤ (Hd.of a).S ∧ (Hd.of a).S < 4) ∧ (0 ≤ (Hd.of a).C ∧ (Hd.of a).C < 4) ∧ (0 ≤ (Hd.of a).N ∧ (Hd.of a).N < 8) ∧ (0 ≤ (Hd.of a).M ∧ (Hd.of a).M < 2) ∧ (0 ≤ (Hd.of a).G ∧ (Hd.of a).G < 2) ∧ (0 ≤ (Hd.of a).T ∧ (Hd.of a).T < 8) ∧ (0 ≤ (Hd.of a).L ∧ (Hd.of a).L < 4096) := by
  simp only [Hd.of, H.Plain.pS, H.Plain.pC, H.Plain.pN, H.Plain.pM, H.Plain.pG, H.Plain.pT, H.Plain.pL]
  refine ⟨?_, ?_, ?_, ?_, ?_, ?_, ?_⟩ <;> omega
end Go.Proofs.YtoablodmodnamaaDoor
