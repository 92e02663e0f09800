/-
  What is laid, word by word: no program in sight.
-/
import Derived.Test.YtgakmpfmckikgaaDoorDl
namespace Go.Proofs.YtgakmpfmckikgaaDoor
set_option linter.unusedVariables false
set_option maxRecDepth 100000
open H.Plain (hw pS pC pN pM pG pT pL mv)

theorem of_w {v : Vl} (hk : 0 ≤ v.k ∧ v.k < 4) (hn : 0 ≤ v.n ∧ v.n < 2305843009213693952) : Vl.of v.w = v := by
  obtain ⟨k, n⟩ := v
  simp only at hk hn
  simp only [Vl.of, Vl.w, F.Plain.kind, F.Plain.num, F.Plain.word, Vl.mk.injEq]
  constructor <;> omega
/-- what a law's field may have -/
structure Vl.Good (v : Vl) : Prop where
  k : v.k = 0 ∨ v.k = 1
  n0 : 0 ≤ v.n
  n1 : v.n < 1000
  far : v.far = true → ∃ i : Nat, i < 16 ∧ v.n = 96 + 4 * (i : Int)
theorem Vl.Good.of {v : Vl} (h : v.Good) : Vl.of v.w = v := of_w (by rcases h.k with h | h <;> omega) ⟨h.n0, by have := h.n1; omega⟩
theorem good_zero : Vl.zero.Good := ⟨.inl rfl, by decide, by decide, fun h => by simp [Vl.far, Vl.zero] at h⟩
theorem good_valP (v : Vl) : (valP v).Good := by
  have a2 := kd_lt v.n 1000 (by decide)
  have a3 := kd_lt v.n 17 (by decide)
  unfold valP
  split
  · exact ⟨.inl rfl, a2.1, a2.2, fun h => by simp [Vl.far] at h⟩
  · split
    · exact ⟨.inr rfl, by simp, by simp, fun h => by simp [Vl.far] at h⟩
    · rename_i h1 h2
      refine ⟨.inr rfl, by simp only; omega, by simp only; omega, fun _ => ⟨(kd v.n 17).toNat, by omega, by simp only; omega⟩⟩
theorem good_fldP (ll : Nat) (zl : Nat → Vl) (j : Nat) : (fldP ll zl j).Good := by
  unfold fldP; split
  · exact good_valP _
  · exact good_zero
section
variable {t : Nat → Bool} {l : Nat → Vl}
theorem laidF_len {s : St} (h : s.ws.length = 160) (i f : Nat) : (laidF s t l i f).ws.length = 160 := by
  induction f with
  | zero => exact n_store' h _ _
  | succ f ih => exact n_store' ih _ _
theorem laid_len (j : Nat) : (laidO t l j).ws.length = 160 := by
  induction j with
  | zero => simp [laidO, St.new]
  | succ j ih => exact laidF_len ih _ _
/-- behind j objects -/
theorem laid_words (j : Nat) (hj : j ≤ 16) : (∀ a, In a → 96 + 4 * (j : Int) ≤ a ∨ a < 96 → (laidO t l j).word a = 0) ∧
    ∀ i : Nat, i < j → (laidO t l j).word (96 + 4 * (i : Int)) = hdrW t i ∧ ∀ f : Nat, f < 3 → (laidO t l j).word (97 + 4 * (i : Int) + (f : Int)) = (l (3 * i + f)).w := by
  induction j with
  | zero =>
    refine ⟨fun a ha _ => ?_, fun i hi => by omega⟩
    simp only [laidO, St.word, St.new]
    rw [List.getD_eq_getElem?_getD, List.getElem?_replicate]
    split <;> rfl
  | succ j ih =>
    obtain ⟨h0, h1⟩ := ih (by omega)
    have hl := laid_len (t := t) (l := l) j
    have key : ∀ a, In a → (laidO t l (j + 1)).word a = if 97 + 4 * (j : Int) + ((2 : Nat) : Int) = a then (l (3 * j + 2)).w else if 97 + 4 * (j : Int) + ((1 : Nat) : Int) = a then (l (3 * j + 1)).w else if 97 + 4 * (j : Int) + ((0 : Nat) : Int) = a then (l (3 * j + 0)).w else if 96 + 4 * (j : Int) = a then hdrW t j else (laidO t l j).word a := by
      intro a ha
      have I0 : In (96 + 4 * (j : Int)) := ⟨by omega, by omega⟩
      have I1 : In (97 + 4 * (j : Int) + ((0 : Nat) : Int)) := ⟨by omega, by omega⟩
      have I2 : In (97 + 4 * (j : Int) + ((1 : Nat) : Int)) := ⟨by omega, by omega⟩
      have I3 : In (97 + 4 * (j : Int) + ((2 : Nat) : Int)) := ⟨by omega, by omega⟩
      have l0 := n_store' hl (96 + 4 * (j : Int)) (hdrW t j)
      have l1 := n_store' l0 (97 + 4 * (j : Int) + ((0 : Nat) : Int)) (F.Plain.word (l (3 * j + 0)).k (l (3 * j + 0)).n)
      have l2 := n_store' l1 (97 + 4 * (j : Int) + ((1 : Nat) : Int)) (F.Plain.word (l (3 * j + 1)).k (l (3 * j + 1)).n)
      simp only [laidO, laidF]
      rw [word_store l2 I3 ha, word_store l1 I2 ha, word_store l0 I1 ha, word_store hl I0 ha]
      rfl
    refine ⟨fun a ha hb => ?_, fun i hi => ⟨?_, fun f hf => ?_⟩⟩
    · rw [key a ha, if_neg (by omega), if_neg (by omega), if_neg (by omega), if_neg (by omega)]
      exact h0 a ha (by omega)
    · rw [key _ ⟨by omega, by omega⟩, if_neg (by omega), if_neg (by omega), if_neg (by omega)]
      by_cases e : i = j
      · subst e; rw [if_pos rfl]
      · rw [if_neg (by omega)]; exact (h1 i (by omega)).1
    · by_cases e : i = j
      · subst e
        rw [key _ ⟨by omega, by omega⟩]
        match f, hf with
        | 0, _ => rw [if_neg (by omega), if_neg (by omega), if_pos (by omega)]
        | 1, _ => rw [if_neg (by omega), if_pos (by omega)]
        | 2, _ => rw [if_pos (by omega)]
      · rw [key _ ⟨by omega, by omega⟩, if_neg (by omega), if_neg (by omega), if_neg (by omega), if_neg (by omega)]
        exact (h1 i (by omega)).2 f hf
theorem laid_hdr {i : Nat} (hi : i < 16) : (laidO t l 16).word (96 + 4 * (i : Int)) = hdrW t i := ((laid_words (t := t) (l := l) 16 (Nat.le_refl _)).2 i hi).1
theorem laid_fld {i f : Nat} (hi : i < 16) (hf : f < 3) : (laidO t l 16).word (97 + 4 * (i : Int) + (f : Int)) = (l (3 * i + f)).w := ((laid_words (t := t) (l := l) 16 (Nat.le_refl _)).2 i hi).2 f hf
theorem laid_low {a : Int} (h0 : 0 ≤ a) (h1 : a < 96) : (laidO t l 16).word a = 0 := (laid_words (t := t) (l := l) 16 (Nat.le_refl _)).1 a ⟨h0, by omega⟩ (.inr h1)
/-- a header that was laid -/
theorem hdr_parts (t : Nat → Bool) (ht : ∀ i, t i = true → i < 8) {i : Nat} : pS (hdrW t i) = 1 ∧ pN (hdrW t i) = 3 ∧ pM (hdrW t i) = 0 ∧ pT (hdrW t i) = tgP t i ∧ pL (hdrW t i) = lkP t i := by
  unfold hdrW tgP lkP H.Plain.hw H.Plain.pS H.Plain.pN H.Plain.pM H.Plain.pT H.Plain.pL
  rcases h : t i with _ | _
  · simp
  · have := ht i h
    simp only [if_true]
    refine ⟨?_, ?_, ?_, ?_, ?_⟩ <;> omega
end
theorem tagP_lt (lt : Nat) (zt : Nat → Int) (i : Nat) (h : tagP lt zt i = true) : i < 8 := by
  unfold tagP at h
  simp only [Bool.and_eq_true, decide_eq_true_eq] at h
  exact h.1
end Go.Proofs.YtgakmpfmckikgaaDoor
