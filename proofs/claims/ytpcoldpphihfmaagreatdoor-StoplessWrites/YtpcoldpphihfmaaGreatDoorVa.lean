/-
  The words from 96 to 119, plainly: what each access of them comes to.
-/
import Derived.Test.YtpcoldpphihfmaaGreatDoorGa
import Derived.Test.YtpcoldpphihfmaaGreatDoorVx
namespace Go.Proofs.YtpcoldpphihfmaaGreatDoor
set_option linter.unusedVariables false
set_option linter.unusedSimpArgs false
set_option maxRecDepth 100000

def updN {α : Type} (f : Nat → α) (k : Nat) (v : α) : Nat → α := fun j => if j = k then v else f j
theorem updN_at {α : Type} (f : Nat → α) (k : Nat) (v : α) : updN f k v k = v := if_pos rfl
theorem updN_ne {α : Type} (f : Nat → α) {k j : Nat} (v : α) (h : j ≠ k) : updN f k v j = f j := if_neg h
section
variable {s : St} {a b : Int}
theorem is2_in (h : s.ws.length = 160) (h0 : 0 ≤ a) (h1 : a < 159) (h2 : a % 2 = 0) : s.is2 a = true := by unfold St.is2; rw [h]; simp [h0, h2]; omega
theorem ok2_iff (h : s.ws.length = 160) (h0 : 0 ≤ a) (h1 : a < 159) (h2 : a % 2 = 0) (o0 o1 : Int) : s.ok2 a o0 o1 = (s.word a == o0 && s.word (a + 1) == o1) := by unfold St.ok2; rw [is2_in h h0 h1 h2]; simp
theorem t_cas2 (h : s.ws.length = 160) (h0 : 0 ≤ a) (h1 : a < 159) (h2 : a % 2 = 0) (o0 o1 x0 x1 : Int) : (s.cas2 a o0 o1 x0 x1).t = s.t := by unfold St.cas2; rw [is2_in h h0 h1 h2]; split <;> rfl
theorem n_cas2' (h : s.ws.length = 160) (a o0 o1 x0 x1 : Int) : (s.cas2 a o0 o1 x0 x1).ws.length = 160 := by rw [St.n_cas2]; exact h
theorem word_putW (h : s.ws.length = 160) (ha : In a) (hb : In b) (x : Int) : (s.put a x).word b = if a = b then x else s.word b := by
  have e := word_store (x := x) h ha hb
  unfold St.store at e
  rw [if_pos (ha.is1 h)] at e
  exact e
theorem word_cas2_ok (h : s.ws.length = 160) (h0 : 0 ≤ a) (h1 : a < 159) (h2 : a % 2 = 0) (hb : In b) {o0 o1 : Int} (e0 : s.word a = o0) (e1 : s.word (a + 1) = o1) (x0 x1 : Int) : (s.cas2 a o0 o1 x0 x1).word b = if a + 1 = b then x1 else if a = b then x0 else s.word b := by
  have ok : s.ok2 a o0 o1 = true := by rw [ok2_iff h h0 h1 h2, e0, e1]; simp
  have l1 : (s.put a x0).ws.length = 160 := by simp [St.put, h]
  unfold St.cas2
  rw [ok, if_pos rfl]
  show ((s.put a x0).put (a + 1) x1).word b = _
  rw [word_putW l1 ⟨by omega, by omega⟩ hb, word_putW h ⟨by omega, by omega⟩ hb]
theorem word_cas2_no (h : s.ws.length = 160) (h0 : 0 ≤ a) (h1 : a < 159) (h2 : a % 2 = 0) {o0 o1 : Int} (e : ¬ (s.word a = o0 ∧ s.word (a + 1) = o1)) (x0 x1 : Int) : s.ok2 a o0 o1 = false ∧ (s.cas2 a o0 o1 x0 x1).word b = s.word b := by
  have ok : s.ok2 a o0 o1 = false := by rw [ok2_iff h h0 h1 h2]; simpa using e
  refine ⟨ok, ?_⟩
  unfold St.cas2
  rw [ok, if_neg (by simp)]
  rfl
end
/-- the words from 96 on -/
structure MW (s : St) (g : Nat → Int) : Prop where
  len : s.ws.length = 160
  t : s.t = 0
  at_ : ∀ i : Nat, i < 24 → s.word (96 + (i : Int)) = g i
section
variable {s : St} {g : Nat → Int} {i : Nat} {o o0 o1 : Int}
theorem inW (hi : i < 24) : In (96 + (i : Int)) := ⟨by omega, by omega⟩
theorem MW.got (M : MW s g) (hi : i < 24) : s.got (96 + (i : Int)) = g i := by rw [(inW hi).got M.len]; exact M.at_ i hi
theorem MW.load (M : MW s g) {x : Int} (hx : In x) : MW (s.load x) g := ⟨M.len, by rw [t_load M.len hx]; exact M.t, M.at_⟩
theorem MW.store (M : MW s g) (hi : i < 24) (v : Int) : MW (s.store (96 + (i : Int)) v) (updN g i v) := by
  refine ⟨n_store' M.len _ _, by rw [t_store M.len (inW hi)]; exact M.t, fun j hj => ?_⟩
  rw [word_store M.len (inW hi) (inW hj)]
  unfold updN
  by_cases e : j = i
  · subst e; rw [if_pos rfl, if_pos rfl]
  · rw [if_neg (by omega), if_neg e]; exact M.at_ j hj
theorem MW.cas (M : MW s g) (hi : i < 24) (h : g i = o) (v : Int) : s.ok1 (96 + (i : Int)) o = true ∧ MW (s.cas (96 + (i : Int)) o v) (updN g i v) := by
  have hw : s.word (96 + (i : Int)) = o := (M.at_ i hi).trans h
  refine ⟨by rw [ok1_iff M.len (inW hi), hw]; simp, n_cas' M.len _ _ _, by rw [t_cas M.len (inW hi)]; exact M.t, fun j hj => ?_⟩
  rw [word_cas_ok M.len (inW hi) (inW hj) hw]
  unfold updN
  by_cases e : j = i
  · subst e; rw [if_pos rfl, if_pos rfl]
  · rw [if_neg (by omega), if_neg e]; exact M.at_ j hj
theorem MW.casN (M : MW s g) (hi : i < 24) (h : g i ≠ o) (v : Int) : s.ok1 (96 + (i : Int)) o = false ∧ MW (s.cas (96 + (i : Int)) o v) g := by
  have hw : s.word (96 + (i : Int)) ≠ o := by rw [M.at_ i hi]; exact h
  refine ⟨by rw [ok1_iff M.len (inW hi)]; simpa using hw, n_cas' M.len _ _ _, by rw [t_cas M.len (inW hi)]; exact M.t, fun j hj => ?_⟩
  rw [word_cas_no M.len (inW hi) hw]
  exact M.at_ j hj
theorem MW.cas2 (M : MW s g) (hi : i + 1 < 24) (h2 : i % 2 = 0) (e0 : g i = o0) (e1 : g (i + 1) = o1) (v0 v1 : Int) : s.ok2 (96 + (i : Int)) o0 o1 = true ∧ MW (s.cas2 (96 + (i : Int)) o0 o1 v0 v1) (updN (updN g i v0) (i + 1) v1) := by
  have w0 : s.word (96 + (i : Int)) = o0 := (M.at_ i (by omega)).trans e0
  have w1 : s.word (96 + (i : Int) + 1) = o1 := by rw [show (96 : Int) + (i : Int) + 1 = 96 + ((i + 1 : Nat) : Int) by omega]; exact (M.at_ (i + 1) hi).trans e1
  refine ⟨by rw [ok2_iff M.len (by omega) (by omega) (by omega), w0, w1]; simp, n_cas2' M.len _ _ _ _ _, by rw [t_cas2 M.len (by omega) (by omega) (by omega)]; exact M.t, fun j hj => ?_⟩
  rw [word_cas2_ok M.len (by omega) (by omega) (by omega) (inW hj) w0 w1]
  unfold updN
  by_cases e : j = i + 1
  · subst e; rw [if_pos (by omega), if_pos rfl]
  · rw [if_neg (by omega), if_neg e]
    by_cases e' : j = i
    · subst e'; rw [if_pos rfl, if_pos rfl]
    · rw [if_neg (by omega), if_neg e']; exact M.at_ j hj
theorem MW.cas2N (M : MW s g) (hi : i + 1 < 24) (h2 : i % 2 = 0) (e : ¬ (g i = o0 ∧ g (i + 1) = o1)) (v0 v1 : Int) : s.ok2 (96 + (i : Int)) o0 o1 = false ∧ MW (s.cas2 (96 + (i : Int)) o0 o1 v0 v1) g := by
  have e' : ¬ (s.word (96 + (i : Int)) = o0 ∧ s.word (96 + (i : Int) + 1) = o1) := by
    rw [M.at_ i (by omega), show (96 : Int) + (i : Int) + 1 = 96 + ((i + 1 : Nat) : Int) by omega, M.at_ (i + 1) hi]
    exact e
  refine ⟨(word_cas2_no (b := 0) M.len (by omega) (by omega) (by omega) e' v0 v1).1, n_cas2' M.len _ _ _ _ _, by rw [t_cas2 M.len (by omega) (by omega) (by omega)]; exact M.t, fun j hj => ?_⟩
  rw [(word_cas2_no M.len (by omega) (by omega) (by omega) e' v0 v1).2]
  exact M.at_ j hj
end
end Go.Proofs.YtpcoldpphihfmaaGreatDoor
