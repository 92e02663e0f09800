/-
  An access beside others, plainly: what it knows, and what each of its steps comes to, whatever the others have done between.
-/
import Derived.Test.YtpcoldpphihfmaaGreatDoorVa
import Derived.Test.YtpcoldpphihfmaaGreatDoorCv
namespace Go.Proofs.YtpcoldpphihfmaaGreatDoor
set_option linter.unusedVariables false
set_option linter.unusedSimpArgs false
set_option maxRecDepth 100000
open H.Plain (hw pS pC pN pM pG pT pL mv)

def HW : Int := hw 1 0 3 0 0 3 104
def HWd : Int := hw 2 1 3 0 0 0 112
def H3 : Int := hw 1 0 3 0 0 0 0
theorem h_W : pN HW = 3 ∧ pT HW = 3 ∧ pL HW = 104 ∧ pL HWd = 112 := by decide
/-! ### the words of a good value -/
section
variable {v y : Vl} {w : Int}
theorem good_form (h : v.Good) : ∃ k n : Int, (k = 0 ∨ k = 1) ∧ 0 ≤ n ∧ n < 1000 ∧ v.w = k + 8 * n := by
  obtain ⟨hk, h0, h1, _⟩ := h
  refine ⟨v.k, v.n, hk, h0, h1, ?_⟩
  unfold Vl.w F.Plain.word
  omega
theorem froz_iff (a : Int) : F.Plain.froz a = true ↔ a / 4 % 2 = 1 := by unfold F.Plain.froz; simp
theorem good_nf (h : v.Good) : F.Plain.froz v.w = false := by
  obtain ⟨k, n, hk, h0, h1, e⟩ := good_form h
  rw [Bool.eq_false_iff, ne_eq, froz_iff, e]
  omega
theorem good_fz (h : v.Good) : F.Plain.froz (F.Plain.fz v.w) = true ∧ F.Plain.th (F.Plain.fz v.w) = v.w ∧ Vl.of (F.Plain.fz v.w) = v := by
  obtain ⟨k, n, hk, h0, h1, e⟩ := good_form h
  have e2 : F.Plain.fz v.w = v.w + 4 := by unfold F.Plain.fz; omega
  refine ⟨by rw [froz_iff, e2, e]; omega, by rw [e2]; unfold F.Plain.th; omega, ?_⟩
  refine Eq.trans ?_ h.of
  rw [e2]
  simp only [Vl.of, F.Plain.kind, F.Plain.num, Vl.mk.injEq]
  constructor <;> omega
theorem good_ne2 (h : v.Good) : v.w ≠ 2 := by
  obtain ⟨k, n, hk, h0, h1, e⟩ := good_form h
  omega
theorem good_inj (h : v.Good) (h' : y.Good) (e : v.w = y.w) : v = y := by rw [← h.of, ← h'.of, e]
end
/-- a field: the original's word, the status, the pair's word, the final copy's; and what it has -/
def Fd (o st p f : Int) (v : Vl) : Prop :=
  (st = 0 ∧ p = 0 ∧ f = 2 ∧ (o = v.w ∨ o = F.Plain.fz v.w)) ∨ (st = 1 ∧ p = v.w ∧ f = 2 ∧ F.Plain.froz o = true) ∨
  (st = 2 ∧ p = v.w ∧ (f = 2 ∨ f = v.w) ∧ F.Plain.froz o = true) ∨ (st = 3 ∧ f = v.w ∧ F.Plain.froz o = true)
def Fg (g : Nat → Int) (k : Nat) (v : Vl) : Prop := Fd (g (1 + k)) (g (10 + 2 * k)) (g (11 + 2 * k)) (g (17 + k)) v
/-- the object -/
structure Ob (s : St) (g : Nat → Int) (v : Nat → Vl) : Prop where
  m : MW s g
  h0 : g 0 = HW
  h4 : g 4 = H3
  h8 : g 8 = HWd
  h16 : g 16 = H3
  fd : ∀ k, k < 3 → Fg g k (v k)
  ok : ∀ k, k < 3 → (v k).Good
/-- what is never taken back -/
def Le (g g' : Nat → Int) : Prop := ∀ k, k < 3 → g (10 + 2 * k) ≤ g' (10 + 2 * k) ∧ (F.Plain.froz (g (1 + k)) = true → g' (1 + k) = g (1 + k)) ∧ (2 ≤ g (10 + 2 * k) → g' (11 + 2 * k) = g (11 + 2 * k)) ∧ (g (17 + k) ≠ 2 → g' (17 + k) ≠ 2)
theorem Le.refl (g : Nat → Int) : Le g g := fun k _ => ⟨Int.le_refl _, fun _ => rfl, fun _ => rfl, id⟩
theorem Le.trans {g g' g'' : Nat → Int} (h : Le g g') (h' : Le g' g'') : Le g g'' := fun k hk => by
  obtain ⟨a1, a2, a3, a4⟩ := h k hk
  obtain ⟨b1, b2, b3, b4⟩ := h' k hk
  refine ⟨Int.le_trans a1 b1, fun e => ?_, fun e => ?_, fun e => b4 (a4 e)⟩
  · rw [b2 (by rw [a2 e]; exact e), a2 e]
  · rw [b3 (Int.le_trans e a1), a3 e]
theorem updN_self {α : Type} (f : Nat → α) (k : Nat) : updN f k (f k) = f := by
  funext j
  unfold updN
  split
  · rename_i e; rw [e]
  · rfl
section
variable {s s' : St} {g g' : Nat → Int} {v : Nat → Vl} {k : Nat} {w : Int} {y : Vl}
theorem Ob.load (O : Ob s g v) {x : Int} (hx : In x) : Ob (s.load x) g v := ⟨O.m.load hx, O.h0, O.h4, O.h8, O.h16, O.fd, O.ok⟩
/-- what is no word of the field k is as it was -/
def Off (k : Nat) (g g' : Nat → Int) : Prop := ∀ i, i ≠ 1 + k → i ≠ 10 + 2 * k → i ≠ 11 + 2 * k → i ≠ 17 + k → g' i = g i
theorem Ob.fld (O : Ob s g v) (hk : k < 3) (M : MW s' g') (e : Off k g g') (F' : Fg g' k y) (hy : y.Good) : Ob s' g' (updN v k y) := by
  refine ⟨M, (e 0 (by omega) (by omega) (by omega) (by omega)).trans O.h0, (e 4 (by omega) (by omega) (by omega) (by omega)).trans O.h4, (e 8 (by omega) (by omega) (by omega) (by omega)).trans O.h8, (e 16 (by omega) (by omega) (by omega) (by omega)).trans O.h16, fun j hj => ?_, fun j hj => ?_⟩
  · by_cases ej : j = k
    · subst ej; rw [updN_at]; exact F'
    · rw [updN_ne _ _ ej]
      have q := O.fd j hj
      unfold Fg at q ⊢
      rw [e (1 + j) (by omega) (by omega) (by omega) (by omega), e (10 + 2 * j) (by omega) (by omega) (by omega) (by omega), e (11 + 2 * j) (by omega) (by omega) (by omega) (by omega), e (17 + j) (by omega) (by omega) (by omega) (by omega)]
      exact q
  · by_cases ej : j = k
    · subst ej; rw [updN_at]; exact hy
    · rw [updN_ne _ _ ej]; exact O.ok j hj
theorem Ob.fld0 (O : Ob s g v) (hk : k < 3) (M : MW s' g') (e : Off k g g') (F' : Fg g' k (v k)) : Ob s' g' v := by
  have q := O.fld hk M e F' (O.ok k hk)
  rw [updN_self] at q
  exact q
theorem Le.of (hk : k < 3) (e : Off k g g') (h1 : g (10 + 2 * k) ≤ g' (10 + 2 * k)) (h2 : F.Plain.froz (g (1 + k)) = true → g' (1 + k) = g (1 + k)) (h3 : 2 ≤ g (10 + 2 * k) → g' (11 + 2 * k) = g (11 + 2 * k)) (h4 : g (17 + k) ≠ 2 → g' (17 + k) ≠ 2) : Le g g' := fun j hj => by
  by_cases ej : j = k
  · subst ej; exact ⟨h1, h2, h3, h4⟩
  · rw [e (1 + j) (by omega) (by omega) (by omega) (by omega), e (10 + 2 * j) (by omega) (by omega) (by omega) (by omega), e (11 + 2 * j) (by omega) (by omega) (by omega) (by omega), e (17 + j) (by omega) (by omega) (by omega) (by omega)]
    exact ⟨Int.le_refl _, fun _ => rfl, fun _ => rfl, id⟩
theorem off1 {i : Nat} {x : Int} (h : i = 1 + k ∨ i = 10 + 2 * k ∨ i = 11 + 2 * k ∨ i = 17 + k) : Off k g (updN g i x) := fun j h1 h2 h3 h4 => updN_ne _ _ (by omega)
theorem off2 {x0 x1 : Int} : Off k g (updN (updN g (10 + 2 * k) x0) (10 + 2 * k + 1) x1) := fun j h1 h2 h3 h4 => by rw [updN_ne _ _ (by omega), updN_ne _ _ (by omega)]
/-! ### the original's word -/
theorem eO (k : Nat) : (97 : Int) + (k : Int) = 96 + ((1 + k : Nat) : Int) := by omega
theorem eP (k : Nat) : (106 : Int) + 2 * (k : Int) = 96 + ((10 + 2 * k : Nat) : Int) := by omega
theorem eF (k : Nat) : (113 : Int) + (k : Int) = 96 + ((17 + k : Nat) : Int) := by omega
theorem Ob.gotO (O : Ob s g v) (hk : k < 3) : s.got (97 + (k : Int)) = g (1 + k) := by rw [eO]; exact O.m.got (by omega)
theorem Ob.gotS (O : Ob s g v) (hk : k < 3) : s.got (106 + 2 * (k : Int)) = g (10 + 2 * k) := by rw [eP]; exact O.m.got (by omega)
theorem Ob.gotP (O : Ob s g v) (hk : k < 3) : s.got (106 + 2 * (k : Int) + 1) = g (11 + 2 * k) := by rw [show (106 : Int) + 2 * (k : Int) + 1 = 96 + ((11 + 2 * k : Nat) : Int) by omega]; exact O.m.got (by omega)
theorem Ob.gotF (O : Ob s g v) (hk : k < 3) : s.got (113 + (k : Int)) = g (17 + k) := by rw [eF]; exact O.m.got (by omega)
/-- an original's word that is not frozen is what the field has, and nothing has been moved -/
theorem Ob.open_ (O : Ob s g v) (hk : k < 3) (h : F.Plain.froz (g (1 + k)) = false) : g (1 + k) = (v k).w ∧ g (10 + 2 * k) = 0 ∧ g (11 + 2 * k) = 0 ∧ g (17 + k) = 2 := by
  have f := O.fd k hk
  unfold Fg Fd at f
  rcases f with ⟨h1, h2, h3, h4 | h4⟩ | ⟨_, _, _, h4⟩ | ⟨_, _, _, h4⟩ | ⟨_, _, h4⟩
  · exact ⟨h4, h1, h2, h3⟩
  · rw [h4, (good_fz (O.ok k hk)).1] at h; cases h
  · rw [h4] at h; cases h
  · rw [h4] at h; cases h
  · rw [h4] at h; cases h
theorem at1 {x : Int} : updN g (1 + k) x (1 + k) = x ∧ updN g (1 + k) x (10 + 2 * k) = g (10 + 2 * k) ∧ updN g (1 + k) x (11 + 2 * k) = g (11 + 2 * k) ∧ updN g (1 + k) x (17 + k) = g (17 + k) := ⟨updN_at _ _ _, updN_ne _ _ (by omega), updN_ne _ _ (by omega), updN_ne _ _ (by omega)⟩
theorem at4 {x : Int} (hk : k < 3) : updN g (17 + k) x (1 + k) = g (1 + k) ∧ updN g (17 + k) x (10 + 2 * k) = g (10 + 2 * k) ∧ updN g (17 + k) x (11 + 2 * k) = g (11 + 2 * k) ∧ updN g (17 + k) x (17 + k) = x := ⟨updN_ne _ _ (by omega), updN_ne _ _ (by omega), updN_ne _ _ (by omega), updN_at _ _ _⟩
theorem at23 {x0 x1 : Int} (hk : k < 3) : updN (updN g (10 + 2 * k) x0) (10 + 2 * k + 1) x1 (1 + k) = g (1 + k) ∧ updN (updN g (10 + 2 * k) x0) (10 + 2 * k + 1) x1 (10 + 2 * k) = x0 ∧ updN (updN g (10 + 2 * k) x0) (10 + 2 * k + 1) x1 (11 + 2 * k) = x1 ∧ updN (updN g (10 + 2 * k) x0) (10 + 2 * k + 1) x1 (17 + k) = g (17 + k) := by
  refine ⟨(updN_ne _ _ (show 1 + k ≠ 10 + 2 * k + 1 by omega)).trans (updN_ne _ _ (show 1 + k ≠ 10 + 2 * k by omega)), (updN_ne _ _ (show 10 + 2 * k ≠ 10 + 2 * k + 1 by omega)).trans (updN_at _ _ _), ?_, (updN_ne _ _ (show 17 + k ≠ 10 + 2 * k + 1 by omega)).trans (updN_ne _ _ (show 17 + k ≠ 10 + 2 * k by omega))⟩
  rw [show 11 + 2 * k = 10 + 2 * k + 1 by omega, updN_at]
/-- a write there -/
theorem Ob.oCas (O : Ob s g v) (hk : k < 3) (hw : F.Plain.froz w = false) (hy : y.Good) (e : g (1 + k) = w) : s.ok1 (97 + (k : Int)) w = true ∧ (v k).w = w ∧ ∃ g', Ob (s.cas (97 + (k : Int)) w y.w) g' (updN v k y) ∧ Le g g' := by
  obtain ⟨h1, h2, h3, h4⟩ := O.open_ hk (by rw [e]; exact hw)
  obtain ⟨q1, q2⟩ := O.m.cas (i := 1 + k) (by omega) e y.w
  rw [← eO] at q1 q2
  obtain ⟨a1, a2, a3, a4⟩ := at1 (g := g) (k := k) (x := y.w)
  refine ⟨q1, by rw [← h1, e], _, O.fld hk q2 (off1 (by omega)) (.inl ⟨by rw [a2]; exact h2, by rw [a3]; exact h3, by rw [a4]; exact h4, .inl a1⟩) hy, Le.of hk (off1 (by omega)) (by rw [a2]; exact Int.le_refl _) (fun f => ?_) (fun f => a3) (fun f => by rw [a4]; exact f)⟩
  rw [e, hw] at f
  cases f
theorem Ob.oNo (O : Ob s g v) (hk : k < 3) (x : Int) (e : g (1 + k) ≠ w) : s.ok1 (97 + (k : Int)) w = false ∧ Ob (s.cas (97 + (k : Int)) w x) g v := by
  obtain ⟨q1, q2⟩ := O.m.casN (i := 1 + k) (by omega) e x
  rw [← eO] at q1 q2
  exact ⟨q1, q2, O.h0, O.h4, O.h8, O.h16, O.fd, O.ok⟩
/-- it is frozen -/
theorem Ob.oFrz (O : Ob s g v) (hk : k < 3) (hw : F.Plain.froz w = false) : ∃ g', Ob (s.cas (97 + (k : Int)) w (F.Plain.fz w)) g' v ∧ Le g g' ∧ (g (1 + k) = w → F.Plain.froz (g' (1 + k)) = true) ∧ (g (1 + k) ≠ w → g' = g) := by
  by_cases e : g (1 + k) = w
  · obtain ⟨h1, h2, h3, h4⟩ := O.open_ hk (by rw [e]; exact hw)
    obtain ⟨q1, q2⟩ := O.m.cas (i := 1 + k) (by omega) e (F.Plain.fz w)
    rw [← eO] at q1 q2
    obtain ⟨a1, a2, a3, a4⟩ := at1 (g := g) (k := k) (x := F.Plain.fz w)
    refine ⟨_, O.fld0 hk q2 (off1 (by omega)) (.inl ⟨by rw [a2]; exact h2, by rw [a3]; exact h3, by rw [a4]; exact h4, .inr (by rw [a1, ← h1, e])⟩), Le.of hk (off1 (by omega)) (by rw [a2]; exact Int.le_refl _) (fun f => ?_) (fun f => a3) (fun f => by rw [a4]; exact f), fun _ => by rw [a1, ← e, h1]; exact (good_fz (O.ok k hk)).1, fun h => absurd e h⟩
    rw [e, hw] at f
    cases f
  · exact ⟨g, (O.oNo hk _ e).2, Le.refl g, fun h => absurd h e, fun _ => rfl⟩
/-! ### the pair -/
theorem Ob.pNo (O : Ob s g v) (hk : k < 3) {o0 o1 : Int} (x0 x1 : Int) (e : ¬ (g (10 + 2 * k) = o0 ∧ g (11 + 2 * k) = o1)) : s.ok2 (106 + 2 * (k : Int)) o0 o1 = false ∧ Ob (s.cas2 (106 + 2 * (k : Int)) o0 o1 x0 x1) g v := by
  obtain ⟨q1, q2⟩ := O.m.cas2N (i := 10 + 2 * k) (by omega) (by omega) (o0 := o0) (o1 := o1) (by rw [show 10 + 2 * k + 1 = 11 + 2 * k by omega]; exact e) x0 x1
  rw [← eP] at q1 q2
  exact ⟨q1, q2, O.h0, O.h4, O.h8, O.h16, O.fd, O.ok⟩
theorem Ob.pYes (O : Ob s g v) (hk : k < 3) {o0 o1 : Int} (x0 x1 : Int) (e0 : g (10 + 2 * k) = o0) (e1 : g (11 + 2 * k) = o1) : s.ok2 (106 + 2 * (k : Int)) o0 o1 = true ∧ MW (s.cas2 (106 + 2 * (k : Int)) o0 o1 x0 x1) (updN (updN g (10 + 2 * k) x0) (10 + 2 * k + 1) x1) := by
  obtain ⟨q1, q2⟩ := O.m.cas2 (i := 10 + 2 * k) (by omega) (by omega) e0 (show g (10 + 2 * k + 1) = o1 by rw [show 10 + 2 * k + 1 = 11 + 2 * k by omega]; exact e1) x0 x1
  rw [← eP] at q1 q2
  exact ⟨q1, q2⟩
/-- what is frozen goes into it -/
theorem Ob.pIn (O : Ob s g v) (hk : k < 3) (hw : F.Plain.froz w = true) (e : g (1 + k) = w) : ∃ g', Ob (s.cas2 (106 + 2 * (k : Int)) 0 0 1 (F.Plain.th w)) g' v ∧ Le g g' ∧ 1 ≤ g' (10 + 2 * k) := by
  have f := O.fd k hk
  unfold Fg Fd at f
  have gd := O.ok k hk
  by_cases h0 : g (10 + 2 * k) = 0
  · have f0 : g (11 + 2 * k) = 0 ∧ g (17 + k) = 2 ∧ g (1 + k) = F.Plain.fz (v k).w := by
      rcases f with ⟨_, h2, h3, h4 | h4⟩ | ⟨h1, _⟩ | ⟨h1, _⟩ | ⟨h1, _⟩
      · rw [← e, h4, good_nf gd] at hw; cases hw
      · exact ⟨h2, h3, h4⟩
      · omega
      · omega
      · omega
    obtain ⟨f1, f2, f3⟩ := f0
    obtain ⟨q1, q2⟩ := O.pYes hk 1 (F.Plain.th w) h0 f1
    obtain ⟨a1, a2, a3, a4⟩ := at23 (g := g) (x0 := 1) (x1 := F.Plain.th w) hk
    refine ⟨_, O.fld0 hk q2 off2 (.inr (.inl ⟨a2, by rw [a3, ← e, f3, (good_fz gd).2.1], by rw [a4]; exact f2, by rw [a1, e]; exact hw⟩)), Le.of hk off2 (by rw [a2, h0]; decide) (fun _ => a1) (fun f => by omega) (fun f => by rw [a4]; exact f), by rw [a2]; decide⟩
  · refine ⟨g, (O.pNo hk 1 _ (fun h => h0 h.1)).2, Le.refl g, ?_⟩
    rcases f with ⟨h1, _⟩ | ⟨h1, _⟩ | ⟨h1, _⟩ | ⟨h1, _⟩ <;> omega
/-- a write there -/
theorem Ob.pW (O : Ob s g v) (hk : k < 3) (hy : y.Good) (e0 : g (10 + 2 * k) = 1) (e1 : g (11 + 2 * k) = w) : s.ok2 (106 + 2 * (k : Int)) 1 w = true ∧ (v k).w = w ∧ ∃ g', Ob (s.cas2 (106 + 2 * (k : Int)) 1 w 1 y.w) g' (updN v k y) ∧ Le g g' := by
  have f := O.fd k hk
  unfold Fg Fd at f
  have f0 : g (11 + 2 * k) = (v k).w ∧ g (17 + k) = 2 ∧ F.Plain.froz (g (1 + k)) = true := by
    rcases f with ⟨h1, _⟩ | ⟨_, h2, h3, h4⟩ | ⟨h1, _⟩ | ⟨h1, _⟩
    · omega
    · exact ⟨h2, h3, h4⟩
    · omega
    · omega
  obtain ⟨f1, f2, f3⟩ := f0
  obtain ⟨q1, q2⟩ := O.pYes hk 1 y.w e0 e1
  obtain ⟨a1, a2, a3, a4⟩ := at23 (g := g) (x0 := 1) (x1 := y.w) hk
  exact ⟨q1, by rw [← f1, e1], _, O.fld hk q2 off2 (.inr (.inl ⟨a2, a3, by rw [a4]; exact f2, by rw [a1]; exact f3⟩)) hy, Le.of hk off2 (by rw [a2, e0]; exact Int.le_refl _) (fun _ => a1) (fun f => by omega) (fun f => by rw [a4]; exact f)⟩
/-- it is shut -/
theorem Ob.pShut (O : Ob s g v) (hk : k < 3) (w : Int) : ∃ g', Ob (s.cas2 (106 + 2 * (k : Int)) 1 w 2 w) g' v ∧ Le g g' ∧ (g (10 + 2 * k) = 1 ∧ g (11 + 2 * k) = w → g' (10 + 2 * k) = 2) ∧ (¬ (g (10 + 2 * k) = 1 ∧ g (11 + 2 * k) = w) → g' = g) := by
  by_cases e : g (10 + 2 * k) = 1 ∧ g (11 + 2 * k) = w
  · obtain ⟨e0, e1⟩ := e
    have f := O.fd k hk
    unfold Fg Fd at f
    have f0 : g (11 + 2 * k) = (v k).w ∧ g (17 + k) = 2 ∧ F.Plain.froz (g (1 + k)) = true := by
      rcases f with ⟨h1, _⟩ | ⟨_, h2, h3, h4⟩ | ⟨h1, _⟩ | ⟨h1, _⟩
      · omega
      · exact ⟨h2, h3, h4⟩
      · omega
      · omega
    obtain ⟨f1, f2, f3⟩ := f0
    obtain ⟨q1, q2⟩ := O.pYes hk 2 w e0 e1
    obtain ⟨a1, a2, a3, a4⟩ := at23 (g := g) (x0 := 2) (x1 := w) hk
    exact ⟨_, O.fld0 hk q2 off2 (.inr (.inr (.inl ⟨a2, by rw [a3, ← e1]; exact f1, .inl (by rw [a4]; exact f2), by rw [a1]; exact f3⟩))), Le.of hk off2 (by rw [a2, e0]; decide) (fun _ => a1) (fun f => by omega) (fun f => by rw [a4]; exact f), fun _ => a2, fun h => absurd ⟨e0, e1⟩ h⟩
  · exact ⟨g, (O.pNo hk 2 w e).2, Le.refl g, fun h => absurd h e, fun _ => rfl⟩
/-! ### the final copy's -/
/-- it is laid down -/
theorem Ob.fCas (O : Ob s g v) (hk : k < 3) (h2 : 2 ≤ g (10 + 2 * k)) (e : g (11 + 2 * k) = w) : ∃ g', Ob (s.cas (113 + (k : Int)) 2 w) g' v ∧ Le g g' ∧ g' (17 + k) ≠ 2 ∧ g' (10 + 2 * k) = g (10 + 2 * k) := by
  have f := O.fd k hk
  unfold Fg Fd at f
  have gd := O.ok k hk
  by_cases e2 : g (17 + k) = 2
  · have f0 : g (10 + 2 * k) = 2 ∧ g (11 + 2 * k) = (v k).w ∧ F.Plain.froz (g (1 + k)) = true := by
      rcases f with ⟨h1, _⟩ | ⟨h1, _⟩ | ⟨h1, h3, _, h4⟩ | ⟨h1, h3, _⟩
      · omega
      · omega
      · exact ⟨h1, h3, h4⟩
      · rw [e2] at h3; exact absurd h3.symm (good_ne2 gd)
    obtain ⟨f1, f2, f3⟩ := f0
    obtain ⟨q1, q2⟩ := O.m.cas (i := 17 + k) (by omega) e2 w
    rw [← eF] at q1 q2
    obtain ⟨a1, a2, a3, a4⟩ := at4 (g := g) (x := w) hk
    have hw : w = (v k).w := by rw [← e]; exact f2
    exact ⟨_, O.fld0 hk q2 (off1 (by omega)) (.inr (.inr (.inl ⟨by rw [a2]; exact f1, by rw [a3]; exact f2, .inr (by rw [a4]; exact hw), by rw [a1]; exact f3⟩))), Le.of hk (off1 (by omega)) (by rw [a2]; exact Int.le_refl _) (fun _ => a1) (fun _ => a3) (fun f => absurd e2 f), by rw [a4, hw]; exact good_ne2 gd, a2⟩
  · obtain ⟨q1, q2⟩ := O.m.casN (i := 17 + k) (by omega) e2 w
    rw [← eF] at q2
    exact ⟨g, ⟨q2, O.h0, O.h4, O.h8, O.h16, O.fd, O.ok⟩, Le.refl g, e2, rfl⟩
/-- the field is there -/
theorem Ob.fFin (O : Ob s g v) (hk : k < 3) (h2 : g (17 + k) ≠ 2) (w : Int) : ∃ g', Ob (s.cas2 (106 + 2 * (k : Int)) 2 w 3 w) g' v ∧ Le g g' ∧ (g (10 + 2 * k) = 2 ∧ g (11 + 2 * k) = w → g' (10 + 2 * k) = 3) := by
  by_cases e : g (10 + 2 * k) = 2 ∧ g (11 + 2 * k) = w
  · obtain ⟨e0, e1⟩ := e
    have f := O.fd k hk
    unfold Fg Fd at f
    have f0 : g (17 + k) = (v k).w ∧ F.Plain.froz (g (1 + k)) = true := by
      rcases f with ⟨h1, _⟩ | ⟨h1, _⟩ | ⟨_, h3, h4 | h4, h5⟩ | ⟨h1, h3, _⟩
      · omega
      · omega
      · exact absurd h4 h2
      · exact ⟨h4, h5⟩
      · omega
    obtain ⟨f1, f2⟩ := f0
    obtain ⟨q1, q2⟩ := O.pYes hk 3 w e0 e1
    obtain ⟨a1, a2, a3, a4⟩ := at23 (g := g) (x0 := 3) (x1 := w) hk
    exact ⟨_, O.fld0 hk q2 off2 (.inr (.inr (.inr ⟨a2, by rw [a4]; exact f1, by rw [a1]; exact f2⟩))), Le.of hk off2 (by rw [a2, e0]; decide) (fun _ => a1) (fun f => by rw [a3, e1]) (fun f => by rw [a4]; exact f), fun _ => a2⟩
  · exact ⟨g, (O.pNo hk 3 w e).2, Le.refl g, fun h => absurd h e⟩
/-- how it stands when it is there -/
theorem Ob.at3 (O : Ob s g v) (hk : k < 3) (h3 : 3 ≤ g (10 + 2 * k)) : g (10 + 2 * k) = 3 ∧ g (17 + k) = (v k).w ∧ F.Plain.froz (g (1 + k)) = true := by
  have f := O.fd k hk
  unfold Fg Fd at f
  rcases f with ⟨h1, _⟩ | ⟨h1, _⟩ | ⟨h1, _⟩ | h
  · omega
  · omega
  · omega
  · exact h
/-- its status -/
theorem Ob.st (O : Ob s g v) (hk : k < 3) : g (10 + 2 * k) = 0 ∨ g (10 + 2 * k) = 1 ∨ g (10 + 2 * k) = 2 ∨ g (10 + 2 * k) = 3 := by
  have f := O.fd k hk
  unfold Fg Fd at f
  rcases f with ⟨h, _⟩ | ⟨h, _⟩ | ⟨h, _⟩ | ⟨h, _⟩
  · exact .inl h
  · exact .inr (.inl h)
  · exact .inr (.inr (.inl h))
  · exact .inr (.inr (.inr h))
theorem Ob.fPut (O : Ob s g v) (hk : k < 3) (h3 : 3 ≤ g (10 + 2 * k)) (hy : y.Good) (M : MW s' (updN g (17 + k) y.w)) : Ob s' (updN g (17 + k) y.w) (updN v k y) ∧ Le g (updN g (17 + k) y.w) := by
  obtain ⟨f1, f2, f3⟩ := O.at3 hk h3
  obtain ⟨a1, a2, a3, a4⟩ := at4 (g := g) (x := y.w) hk
  exact ⟨O.fld hk M (off1 (by omega)) (.inr (.inr (.inr ⟨by rw [a2]; exact f1, a4, by rw [a1]; exact f3⟩))) hy, Le.of hk (off1 (by omega)) (by rw [a2]; exact Int.le_refl _) (fun _ => a1) (fun _ => a3) (fun _ => by rw [a4]; exact good_ne2 hy)⟩
theorem Ob.fStore (O : Ob s g v) (hk : k < 3) (h3 : 3 ≤ g (10 + 2 * k)) (hy : y.Good) : ∃ g', Ob (s.store (113 + (k : Int)) y.w) g' (updN v k y) ∧ Le g g' := by
  have q := O.m.store (i := 17 + k) (by omega) y.w
  rw [← eF] at q
  exact ⟨_, O.fPut hk h3 hy q⟩
theorem Ob.fSwap (O : Ob s g v) (hk : k < 3) (h3 : 3 ≤ g (10 + 2 * k)) (hy : y.Good) (e : (v k).w = w) : s.ok1 (113 + (k : Int)) w = true ∧ ∃ g', Ob (s.cas (113 + (k : Int)) w y.w) g' (updN v k y) ∧ Le g g' := by
  obtain ⟨q1, q2⟩ := O.m.cas (i := 17 + k) (by omega) ((O.at3 hk h3).2.1.trans e) y.w
  rw [← eF] at q1 q2
  exact ⟨q1, _, O.fPut hk h3 hy q2⟩
theorem Ob.fNo (O : Ob s g v) (hk : k < 3) (h3 : 3 ≤ g (10 + 2 * k)) (x : Int) (e : (v k).w ≠ w) : s.ok1 (113 + (k : Int)) w = false ∧ Ob (s.cas (113 + (k : Int)) w x) g v := by
  obtain ⟨q1, q2⟩ := O.m.casN (i := 17 + k) (by omega) (show g (17 + k) ≠ w by rw [(O.at3 hk h3).2.1]; exact e) x
  rw [← eF] at q1 q2
  exact ⟨q1, q2, O.h0, O.h4, O.h8, O.h16, O.fd, O.ok⟩
end
end Go.Proofs.YtpcoldpphihfmaaGreatDoor

namespace Go.Proofs.YtpcoldpphihfmaaGreatDoor
set_option linter.unusedVariables false
set_option linter.unusedSimpArgs false
set_option maxRecDepth 100000
open H.Plain (hw pS pC pN pM pG pT pL mv)

/-- it is an access of the field k of the object 96 -/
structure Abt (q : Wq) (k : Nat) : Prop where
  at_ : q.r.at_ = 96
  fd : q.r.fd = (k : Int)
  lt : k < 3
  op : q.r.op = 1 ∨ q.r.op = 2 ∨ q.r.op = 3
  x : q.r.x.Good
  y : q.r.y.Good
  fx : q.fx = false
/-- where a Direct stands at the final copy's field (P: what is true of a word that is told) -/
def DK (P : Int → Prop) (q : Wq) (k : Nat) (x : Sx) : Prop :=
  q.r.op = 1 ∧ x.k = some (.read (113 + (k : Int)) false) ∨ q.r.op = 2 ∧ x.k = some (.store (113 + (k : Int)) q.r.y) ∨
  q.r.op = 3 ∧ (x.k = some (.swap (113 + (k : Int)) q.r (hwC false)) ∨ x.k = some (.exch (113 + (k : Int)) q.r.x.w q.r (hwC false)) ∨
    ∃ (u : Vl) (K : K), u.Good ∧ u ≠ q.r.x ∧ u.far = true ∧ q.r.x.far = true ∧ P u.w ∧ (x.k = some (.compS u.n q.r.x.n K) ∨ x.k = some (.comp2S u.n q.r.x.n K)))
/-- what an access knows -/
def Kn (P : Int → Prop) (q : Wq) (k : Nat) (g : Nat → Int) : Cw → Prop
  | .fin _ _ => True
  | .hd q' => q' = q
  | .a2 q' wd => q' = q ∧ wd = 104
  | .a3 q' wd => q' = q ∧ wd = 104
  | .a4 q' wd w => q' = q ∧ wd = 104 ∧ F.Plain.froz w = false ∧ ¬ Cw.told q w
  | .a5 q' wd w => q' = q ∧ wd = 104 ∧ F.Plain.froz w = true ∧ g (1 + k) = w
  | .a6 q' wd st => q' = q ∧ wd = 104 ∧ (st = 1 ∨ st = 2) ∧ st ≤ g (10 + 2 * k)
  | .a7 q' wd st w => q' = q ∧ wd = 104 ∧ (st = 1 ∨ st = 2) ∧ Cw.told q w ∧ (P w ∨ st < g (10 + 2 * k)) ∧ st ≤ g (10 + 2 * k)
  | .a9 q' wd w => q' = q ∧ wd = 104 ∧ ¬ Cw.told q w ∧ 1 ≤ g (10 + 2 * k)
  | .a11 q' wd => q' = q ∧ wd = 104 ∧ 3 ≤ g (10 + 2 * k)
  | .a12 q' wd w => q' = q ∧ wd = 104 ∧ 2 ≤ g (10 + 2 * k) ∧ g (11 + 2 * k) = w ∧ ¬ Cw.told q w
  | .a13 q' wd w l => q' = q ∧ wd = 104 ∧ 2 ≤ g (10 + 2 * k) ∧ g (11 + 2 * k) = w ∧ ¬ Cw.told q w ∧ l = 112
  | .a14 q' wd w => q' = q ∧ wd = 104 ∧ 2 ≤ g (10 + 2 * k) ∧ g (11 + 2 * k) = w ∧ ¬ Cw.told q w ∧ g (17 + k) ≠ 2
  | .pl _ => False
  | .dr _ x => 3 ≤ g (10 + 2 * k) ∧ x.o = Ou.zero ∧ DK P q k x
section
variable {P P' : Int → Prop} {q : Wq} {k : Nat} {g g' : Nat → Int} {v v' : Nat → Vl} {s : St} {x : Cw}
theorem DK.imp (hP : ∀ w, P w → P' w) {x : Sx} (h : DK P q k x) : DK P' q k x := by
  rcases h with h | h | ⟨h3, h | h | ⟨u, K, h1, h2, h4, h5, h6, h7⟩⟩
  · exact .inl h
  · exact .inr (.inl h)
  · exact .inr (.inr ⟨h3, .inl h⟩)
  · exact .inr (.inr ⟨h3, .inr (.inl h)⟩)
  · exact .inr (.inr ⟨h3, .inr (.inr ⟨u, K, h1, h2, h4, h5, hP _ h6, h7⟩)⟩)
/-- it knows so still, whatever the others do -/
theorem Kn.le (K : Kn P q k g x) (hk : k < 3) (L : Le g g') (hP : ∀ w, P w → P' w) : Kn P' q k g' x := by
  obtain ⟨l1, l2, l3, l4⟩ := L k hk
  cases x with
  | fin b o => trivial
  | hd q' => exact K
  | a2 q' wd => exact K
  | a3 q' wd => exact K
  | a4 q' wd w => exact K
  | a5 q' wd w => exact ⟨K.1, K.2.1, K.2.2.1, (l2 (by rw [K.2.2.2]; exact K.2.2.1)).trans K.2.2.2⟩
  | a6 q' wd st => exact ⟨K.1, K.2.1, K.2.2.1, Int.le_trans K.2.2.2 l1⟩
  | a7 q' wd st w => exact ⟨K.1, K.2.1, K.2.2.1, K.2.2.2.1, K.2.2.2.2.1.imp (hP w) (fun h => Int.lt_of_lt_of_le h l1), Int.le_trans K.2.2.2.2.2 l1⟩
  | a9 q' wd w => exact ⟨K.1, K.2.1, K.2.2.1, Int.le_trans K.2.2.2 l1⟩
  | a11 q' wd => exact ⟨K.1, K.2.1, Int.le_trans K.2.2 l1⟩
  | a12 q' wd w => exact ⟨K.1, K.2.1, Int.le_trans K.2.2.1 l1, (l3 K.2.2.1).trans K.2.2.2.1, K.2.2.2.2⟩
  | a13 q' wd w l => exact ⟨K.1, K.2.1, Int.le_trans K.2.2.1 l1, (l3 K.2.2.1).trans K.2.2.2.1, K.2.2.2.2.1, K.2.2.2.2.2⟩
  | a14 q' wd w => exact ⟨K.1, K.2.1, Int.le_trans K.2.2.1 l1, (l3 K.2.2.1).trans K.2.2.2.1, K.2.2.2.2.1, l4 K.2.2.2.2.2⟩
  | pl x => exact K
  | dr b x => exact ⟨Int.le_trans K.1 l1, K.2.1, K.2.2.imp hP⟩
/-- what a step comes to: it goes on; it tells; it has written -/
def Eff (P : Int → Prop) (q : Wq) (k : Nat) (v v' : Nat → Vl) (x' : Cw) : Prop :=
  (v' = v ∧ x'.done = false) ∨ (v' = v ∧ ∃ b w, Cw.told q w ∧ P w ∧ x' = Cw.tells b q w) ∨ (v' = updN v k q.r.y ∧ q.r.op ≠ 1 ∧ (q.r.op = 3 → v k = q.r.x) ∧ x' = Cw.wrote q)
theorem e_fa (A : Abt q k) : Cw.fa q = 97 + (k : Int) := by unfold Cw.fa; rw [A.at_, A.fd]; omega
theorem e_pa (A : Abt q k) : Cw.pa q 104 = 106 + 2 * (k : Int) := by unfold Cw.pa pairP; rw [A.fd]; omega
theorem in160 {a : Int} (h0 : 0 ≤ a) (h1 : a < 160) : In a := ⟨h0, h1⟩
/-- on by a status -/
theorem kn_by (A : Abt q k) (O : Ob s g v) : Kn P q k g (Cw.by_ q 104 (g (10 + 2 * k))) ∧ (Cw.by_ q 104 (g (10 + 2 * k))).done = false := by
  have f := O.fd k A.lt
  unfold Fg Fd at f
  unfold Cw.by_
  by_cases h0 : g (10 + 2 * k) = 0
  · rw [if_pos h0]; exact ⟨⟨rfl, rfl⟩, rfl⟩
  · rw [if_neg h0]
    by_cases h1 : g (10 + 2 * k) = 1
    · rw [if_pos h1]; exact ⟨⟨rfl, rfl, .inl rfl, by rw [h1]; exact Int.le_refl _⟩, rfl⟩
    · rw [if_neg h1]
      by_cases h2 : g (10 + 2 * k) = 2
      · rw [if_pos h2]; exact ⟨⟨rfl, rfl, .inr rfl, by rw [h2]; exact Int.le_refl _⟩, rfl⟩
      · rw [if_neg h2]
        refine ⟨⟨rfl, rfl, ?_⟩, rfl⟩
        rcases f with ⟨h, _⟩ | ⟨h, _⟩ | ⟨h, _⟩ | ⟨h, _⟩ <;> omega
/-- who is not told by a word: it is what a Swap expects -/
theorem not_told3 (A : Abt q k) {w : Int} (h : ¬ Cw.told q w) : q.r.op ≠ 1 ∧ (q.r.op = 3 → Vl.of w = q.r.x) := ⟨fun e => h (.inl e), fun e => Classical.byContradiction fun e' => h (.inr ⟨e, e'⟩)⟩
theorem of_w_eq {u y : Vl} (hu : u.Good) {w : Int} (e : u.w = w) (h : Vl.of w = y) : u = y := by rw [← h, ← e, hu.of]
/-- the word of a good value that is told of is the value's -/
theorem mv_vals : mv HW 96 = 96 ∧ mv H3 100 = 100 ∧ mv H3 112 = 112 := by decide
theorem Ob.mvn (O : Ob s g v) {u : Vl} (h : u.Good) (hf : u.far = true) : In u.n ∧ mv (s.got u.n) u.n = u.n := by
  have g0 : s.got 96 = HW := by have := O.m.got (i := 0) (by omega); exact this.trans O.h0
  have g4 : s.got 100 = H3 := by have := O.m.got (i := 4) (by omega); exact this.trans O.h4
  have g16 : s.got 112 = H3 := by have := O.m.got (i := 16) (by omega); exact this.trans O.h16
  rcases h.far hf with e | e | e
  · rw [e, g0]; exact ⟨⟨by decide, by decide⟩, mv_vals.1⟩
  · rw [e, g4]; exact ⟨⟨by decide, by decide⟩, mv_vals.2.1⟩
  · rw [e, g16]; exact ⟨⟨by decide, by decide⟩, mv_vals.2.2⟩
theorem far_n {u y : Vl} (hu : u.Good) (hy : y.Good) (h1 : u.far = true) (h2 : y.far = true) (h : u ≠ y) : u.n ≠ y.n := fun e => by
  obtain ⟨uk, un⟩ := u
  obtain ⟨yk, yn⟩ := y
  simp [Vl.far] at h1 h2 e
  exact h (by rw [h1.1, h2.1, e])
/-! ### how many of its own steps are left, whatever the others do -/
def opn (g : Nat → Int) (k : Nat) : Bool := !F.Plain.froz (g (1 + k))
def Bq (op : Bool) (st : Int) : Nat := if st ≤ 0 then (if op then 20 else 18) else if st = 1 then 15 else if st = 2 then 12 else 7
def rk (st : Int) (op : Bool) : Cw → Nat
  | .fin _ _ => 0
  | .hd _ => 21
  | .a2 _ _ => Bq op st
  | .a3 _ _ => if st ≤ 0 then (if op then 19 else 17) else Bq op st + 2
  | .a4 _ _ _ => if st ≤ 0 then 18 else Bq op st + 3
  | .a5 _ _ _ => if st ≤ 0 then 16 else Bq op st + 1
  | .a6 _ _ t => if t = 1 then (if st ≤ 1 then 14 else Bq op st + 2) else 11
  | .a7 _ _ t _ => if t = 1 then (if st ≤ 1 then 13 else Bq op st) else (if st ≤ 2 then 10 else Bq op st)
  | .a9 _ _ _ => if st ≤ 1 then 13 else Bq op st + 1
  | .a11 _ _ => 6
  | .a12 _ _ _ => 10
  | .a13 _ _ _ _ => 9
  | .a14 _ _ _ => 8
  | .pl _ => 0
  | .dr _ x => match x.k with
    | none => 0
    | some (.swap _ _ _) => 5
    | some (.exch _ _ _ _) => 4
    | some (.compS _ _ _) => 2
    | some _ => 1
/-- what it saw is no more what the field has -/
def mis (q : Wq) (k : Nat) (g : Nat → Int) (v : Nat → Vl) : Cw → Bool
  | .a4 _ _ w => opn g k && decide (w ≠ (v k).w)
  | .a9 _ _ w => decide (g (10 + 2 * k) ≤ 1) && decide (w ≠ (v k).w)
  | .dr _ x => match x.k with
    | some (.exch _ _ _ _) => decide ((v k).w ≠ q.r.x.w)
    | _ => false
  | _ => false
def Rk (q : Wq) (k : Nat) (g : Nat → Int) (v : Nat → Vl) (x : Cw) : Nat := rk (g (10 + 2 * k)) (opn g k) x + (if mis q k g v x then 3 else 0)
theorem Rk_le (q : Wq) (k : Nat) (g : Nat → Int) (v : Nat → Vl) (x : Cw) : Rk q k g v x ≤ 24 := by
  have h : rk (g (10 + 2 * k)) (opn g k) x ≤ 21 := by
    have hB : Bq (opn g k) (g (10 + 2 * k)) ≤ 20 ∧ (¬ g (10 + 2 * k) ≤ 0 → Bq (opn g k) (g (10 + 2 * k)) ≤ 15) ∧ (¬ g (10 + 2 * k) ≤ 1 → Bq (opn g k) (g (10 + 2 * k)) ≤ 12) := by
      unfold Bq
      refine ⟨?_, fun h => ?_, fun h => ?_⟩ <;> (repeat' split) <;> omega
    cases x with
    | dr b x => simp only [rk]; split <;> omega
    | _ => simp only [rk] <;> (repeat' split) <;> omega
  unfold Rk
  split <;> omega
theorem B_le (op : Bool) (st : Int) : Bq op st ≤ 20 ∧ (0 < st → Bq op st ≤ 15) ∧ (1 < st → Bq op st ≤ 12) ∧ (2 < st → Bq op st = 7) ∧ 7 ≤ Bq op st := by
  unfold Bq
  refine ⟨?_, fun h => ?_, fun h => ?_, fun h => ?_, ?_⟩ <;> (repeat' split) <;> omega
theorem B_mono {op op' : Bool} {st st' : Int} (h1 : 1 ≤ st) (h : st ≤ st') : Bq op' st' ≤ Bq op st := by
  unfold Bq
  (repeat' split) <;> omega
theorem R_fin (b : Bool) (o : Ou) : Rk q k g v (.fin b o) = 0 := rfl
theorem R_a2 (q' : Wq) (wd : Int) : Rk q k g v (.a2 q' wd) = Bq (opn g k) (g (10 + 2 * k)) := rfl
theorem R_pos (K : Kn P q k g x) (hd : x.done = false) : 1 ≤ Rk q k g v x := by
  obtain ⟨_, _, _, _, b⟩ := B_le (opn g k) (g (10 + 2 * k))
  have h : 1 ≤ rk (g (10 + 2 * k)) (opn g k) x := by
    cases x with
    | fin b o => cases hd
    | pl x => exact K.elim
    | dr b x =>
      obtain ⟨_, _, D⟩ := K
      rcases D with ⟨_, D⟩ | ⟨_, D⟩ | ⟨_, D | D | ⟨u, T, _, _, _, _, _, D | D⟩⟩ <;> simp [rk, D]
    | _ => simp only [rk] <;> (repeat' split) <;> omega
  unfold Rk
  omega
/-! a read's -/
def Br (st : Int) : Nat := if st ≤ 0 then 10 else if st = 1 then 7 else if st = 2 then 5 else 3
def rr (st : Int) : Cw → Nat
  | .fin _ _ => 0
  | .hd _ => 11
  | .a2 _ _ => Br st
  | .a3 _ _ => if st ≤ 0 then 9 else Br st + 2
  | .a5 _ _ _ => if st ≤ 0 then 8 else Br st + 1
  | .a6 _ _ t => if t = 1 then (if st ≤ 1 then 6 else Br st + 1) else 4
  | .a7 _ _ t _ => if t = 1 then (if st ≤ 1 then 5 else Br st) else 3
  | .a11 _ _ => 2
  | .dr _ x => match x.k with
    | none => 0
    | some _ => 1
  | _ => 0
theorem rr_le (st : Int) (x : Cw) : rr st x ≤ 11 := by
  have h : Br st ≤ 10 ∧ (0 < st → Br st ≤ 7) := by
    unfold Br
    refine ⟨?_, fun h => ?_⟩ <;> (repeat' split) <;> omega
  cases x with
  | dr b x => simp only [rr]; split <;> omega
  | _ => simp only [rr] <;> (repeat' split) <;> omega
theorem rr_mono {st st' : Int} (h : st ≤ st') (x : Cw) : rr st' x ≤ rr st x := by
  cases x with
  | dr b x => exact Nat.le_refl _
  | _ => simp only [rr, Br] <;> (repeat' split) <;> omega
theorem rr_by (O : Ob s g v) (hk : k < 3) (q' : Wq) (wd : Int) : rr (g (10 + 2 * k)) (Cw.by_ q' wd (g (10 + 2 * k))) + 1 ≤ Br (g (10 + 2 * k)) := by
  rcases O.st hk with e | e | e | e <;> simp [e, Cw.by_, rr, Br]
theorem R_by (O : Ob s g v) (hk : k < 3) (q' : Wq) (wd : Int) : Rk q k g v (Cw.by_ q' wd (g (10 + 2 * k))) + 1 ≤ Bq (opn g k) (g (10 + 2 * k)) := by
  rcases O.st hk with e | e | e | e <;> (rw [e]; simp [Cw.by_, Rk, rk, mis, Bq, e])
  split <;> omega
/-- a step -/
theorem acc (A : Abt q k) (O : Ob s g v) (Kx : Kn P q k g x) (hd : x.done = false) (hP : Cw.told q (v k).w → P (v k).w) :
    ∃ g' v', Ob (x.mem s) g' v' ∧ Le g g' ∧ Kn P q k g' (x.next s) ∧ Eff P q k v v' (x.next s) ∧ Rk q k g' v' (x.next s) + 1 ≤ Rk q k g v x ∧ (q.r.op = 1 → rr (g' (10 + 2 * k)) (x.next s) + 1 ≤ rr (g (10 + 2 * k)) x) := by
  have hk := A.lt
  have fa := e_fa A
  have pa := e_pa A
  have gd := O.ok k hk
  have rp := R_pos (v := v) Kx hd
  have rfin : ∀ (g' : Nat → Int) (v' : Nat → Vl) (b : Bool) (o : Ou), Rk q k g' v' (.fin b o) + 1 ≤ Rk q k g v x := fun _ _ _ _ => by rw [R_fin]; exact rp
  have go_ : ∀ b, Cw.go b q 112 = .dr b (Sx.new (113 + (k : Int)) q.r (hwC false)) := fun b => by unfold Cw.go; rw [A.fd, A.fx, show (112 : Int) + 1 + (k : Int) = 113 + (k : Int) by omega]
  have knd : ∀ b, 3 ≤ g (10 + 2 * k) → Kn P q k g (Cw.go b q 112) ∧ Rk q k g v (Cw.go b q 112) ≤ 5 := fun b h3 => by
    rw [go_]
    rcases A.op with e | e | e
    · exact ⟨⟨h3, rfl, .inl ⟨e, by simp [Sx.new, firstK, e, hwC]⟩⟩, by simp [Rk, rk, mis, Sx.new, firstK, e]⟩
    · exact ⟨⟨h3, rfl, .inr (.inl ⟨e, by simp [Sx.new, firstK, e, hwC]⟩)⟩, by simp [Rk, rk, mis, Sx.new, firstK, e, hwC]⟩
    · exact ⟨⟨h3, rfl, .inr (.inr ⟨e, .inl (by simp [Sx.new, firstK, e])⟩)⟩, by simp [Rk, rk, mis, Sx.new, firstK, e]⟩
  obtain ⟨bb, b1, b2, b3, b7⟩ := B_le (opn g k) (g (10 + 2 * k))
  have hst := O.st hk
  cases x with
  | fin b o => cases hd
  | pl x => exact Kx.elim
  | hd q' =>
    obtain rfl : q' = q := Kx
    have e0 : s.got q'.r.at_ = HW := by rw [A.at_]; exact (O.m.got (i := 0) (by omega)).trans O.h0
    have en : (Cw.hd q').next s = .a2 q' 104 := by
      simp only [Cw.next, e0, h_W.1, h_W.2.1, h_W.2.2.1]
      rw [if_neg (by have := A.fd; omega), if_neg (by decide), if_pos trivial]
    rw [en]
    refine ⟨g, v, O.load (by rw [A.at_]; exact ⟨by decide, by decide⟩), Le.refl g, ⟨rfl, rfl⟩, .inl ⟨rfl, rfl⟩, ?_, fun _ => ?_⟩
    · rw [R_a2]
      show _ ≤ 21 + 0
      omega
    · rcases hst with e | e | e | e <;> simp [e, rr, Br]
  | a2 q' wd =>
    obtain ⟨rfl, rfl⟩ := Kx
    have en : (Cw.a2 q' 104).next s = Cw.by_ q' 104 (g (10 + 2 * k)) := by simp only [Cw.next]; rw [pa, O.gotS hk]
    rw [en]
    refine ⟨g, v, ?_, Le.refl g, (kn_by A O).1, .inl ⟨rfl, (kn_by (P := P) A O).2⟩, R_by O hk _ _, fun _ => rr_by O hk _ _⟩
    simp only [Cw.mem]
    exact O.load (by rw [pa]; exact in160 (by omega) (by omega))
  | a3 q' wd =>
    obtain ⟨rfl, rfl⟩ := Kx
    have em : Ob ((Cw.a3 q' 104).mem s) g v := by simp only [Cw.mem]; exact O.load (by rw [fa]; exact in160 (by omega) (by omega))
    refine ⟨g, v, em, Le.refl g, ?_⟩
    simp only [Cw.next]
    rw [fa, O.gotO hk]
    rcases hf : F.Plain.froz (g (1 + k)) with _ | _
    · obtain ⟨ho, h0, _⟩ := O.open_ hk hf
      rw [if_neg (by simp)]
      by_cases ht : Cw.told q' (g (1 + k))
      · rw [if_pos ht]
        exact ⟨trivial, .inr (.inl ⟨rfl, true, _, ht, by rw [ho]; exact hP (by rw [← ho]; exact ht), rfl⟩), rfin _ _ _ _, fun _ => by rw [h0]; exact (by decide : 1 ≤ 9)⟩
      · rw [if_neg ht]
        exact ⟨⟨rfl, rfl, hf, ht⟩, .inl ⟨rfl, rfl⟩, by simp [Rk, rk, mis, opn, h0, ho, good_nf gd], fun e => absurd (.inl e) ht⟩
    · rw [if_pos rfl]
      refine ⟨⟨rfl, rfl, hf, rfl⟩, .inl ⟨rfl, rfl⟩, ?_, fun _ => ?_⟩
      · simp only [Rk, rk, mis, opn, hf]
        rcases hst with e | e | e | e <;> simp [e, Bq]
      · rcases hst with e | e | e | e <;> simp [e, rr, Br]
  | a4 q' wd w =>
    obtain ⟨rfl, rfl, hf, ht⟩ := Kx
    obtain ⟨n1, n3⟩ := not_told3 A ht
    have rno : g (1 + k) ≠ w → Rk q' k g v (.a3 q' 104) + 1 ≤ Rk q' k g v (.a4 q' 104 w) := fun e => by
      rcases hf' : F.Plain.froz (g (1 + k)) with _ | _
      · obtain ⟨ho, h0, _⟩ := O.open_ hk hf'
        have : w ≠ (v k).w := fun h => e (by rw [ho, h])
        simp [Rk, rk, mis, opn, hf', h0, this]
      · simp only [Rk, rk, mis, opn, hf']
        rcases hst with e | e | e | e <;> simp [e, Bq]
    rcases hl : q'.lo with _ | _
    · obtain ⟨g', O', L, w1, w2⟩ := O.oFrz hk hf
      refine ⟨g', v, by simp only [Cw.mem, hl]; rw [fa]; exact O', L, ?_⟩
      simp only [Cw.next, hl]
      refine ⟨⟨rfl, rfl⟩, .inl ⟨rfl, rfl⟩, ?_, fun e => absurd e n1⟩
      by_cases e : g (1 + k) = w
      · have h0 := (O.open_ hk (by rw [e]; exact hf)).2.1
        have hf2 := w1 e
        obtain ⟨_, c1, _, _, c7⟩ := B_le (opn g' k) (g' (10 + 2 * k))
        have r1 : 18 ≤ Rk q' k g v (.a4 q' 104 w) := by simp [Rk, rk, h0]
        have r2 : Rk q' k g' v (.a3 q' 104) ≤ 17 := by
          simp only [Rk, rk, mis, opn, hf2]
          split
          · simp
          · simp only [opn, hf2] at c1
            have := c1 (by omega)
            simp only [Bool.not_true] at this ⊢
            simp
            omega
        simp only [if_false, Bool.false_eq_true] at r2 ⊢
        omega
      · rw [w2 e]
        exact rno e
    · by_cases e : g (1 + k) = w
      · obtain ⟨q1, q2, g', O', L⟩ := O.oCas hk hf A.y e
        refine ⟨g', _, by simp only [Cw.mem, hl]; rw [fa]; exact O', L, ?_⟩
        simp only [Cw.next, hl]
        rw [fa, q1]
        exact ⟨trivial, .inr (.inr ⟨rfl, n1, fun e3 => of_w_eq gd q2 (n3 e3), rfl⟩), rfin _ _ _ _, fun e => absurd e n1⟩
      · obtain ⟨q1, q2⟩ := O.oNo hk q'.r.y.w e
        refine ⟨g, v, by simp only [Cw.mem, hl]; rw [fa]; exact q2, Le.refl g, ?_⟩
        simp only [Cw.next, hl]
        rw [fa, q1]
        exact ⟨⟨rfl, rfl⟩, .inl ⟨rfl, rfl⟩, rno e, fun e => absurd e n1⟩
  | a5 q' wd w =>
    obtain ⟨rfl, rfl, hf, ho⟩ := Kx
    obtain ⟨g', O', L, h1'⟩ := O.pIn hk hf ho
    refine ⟨g', v, by simp only [Cw.mem]; rw [pa]; exact O', L, ⟨rfl, rfl⟩, .inl ⟨rfl, rfl⟩, ?_, fun _ => ?_⟩
    · rw [show (Cw.a5 q' 104 w).next s = .a2 q' 104 from rfl, R_a2]
      obtain ⟨_, c1, _, _, _⟩ := B_le (opn g' k) (g' (10 + 2 * k))
      have := c1 (by omega)
      simp only [Rk, rk, mis]
      split
      · simp; omega
      · have := B_mono (op := opn g k) (op' := opn g' k) (show 1 ≤ g (10 + 2 * k) by omega) (L k hk).1
        simp
        omega
    · have hl := (L k hk).1
      have hs' := O'.st hk
      rw [show (Cw.a5 q' 104 w).next s = .a2 q' 104 from rfl]
      simp only [rr, Br]
      (repeat' split) <;> omega
  | a6 q' wd st =>
    obtain ⟨rfl, rfl, hs1, hle⟩ := Kx
    have em : Ob ((Cw.a6 q' 104 st).mem s) g v := by simp only [Cw.mem]; exact O.load (by rw [pa]; exact in160 (by omega) (by omega))
    refine ⟨g, v, em, Le.refl g, ?_⟩
    simp only [Cw.next]
    rw [pa, O.gotP hk]
    have f := O.fd k hk
    unfold Fg Fd at f
    have hp : g (10 + 2 * k) = st → g (11 + 2 * k) = (v k).w := fun e => by
      rcases f with ⟨h, _⟩ | ⟨_, h, _⟩ | ⟨_, h, _⟩ | ⟨h, _⟩
      · omega
      · exact h
      · exact h
      · omega
    by_cases ht : Cw.told q' (g (11 + 2 * k))
    · rw [if_pos ht]
      refine ⟨⟨rfl, rfl, hs1, ht, ?_, hle⟩, .inl ⟨rfl, rfl⟩, ?_, fun _ => ?_⟩
      · by_cases e : g (10 + 2 * k) = st
        · left; rw [hp e]; exact hP (by rw [← hp e]; exact ht)
        · right; omega
      · rcases hs1 with rfl | rfl
        · simp only [Rk, rk, mis, if_true]
          split <;> simp
        · by_cases e3 : g (10 + 2 * k) ≤ 2
          · simp [Rk, rk, mis, e3]
          · simp [Rk, rk, mis, e3, b3 (by omega)]
      · rcases hs1 with rfl | rfl
        · simp only [rr, if_true]; split <;> omega
        · simp [rr]
    · rw [if_neg ht]
      rcases hs1 with rfl | rfl
      · rw [if_pos rfl]
        refine ⟨⟨rfl, rfl, ht, hle⟩, .inl ⟨rfl, rfl⟩, ?_, fun e => absurd (.inl e) ht⟩
        by_cases e : g (10 + 2 * k) = 1
        · simp [Rk, rk, mis, e, hp e]
        · simp [Rk, rk, mis, show ¬ g (10 + 2 * k) ≤ 1 by omega]
      · rw [if_neg (by decide)]
        exact ⟨⟨rfl, rfl, hle, rfl, ht⟩, .inl ⟨rfl, rfl⟩, by simp [Rk, rk, mis], fun e => absurd (.inl e) ht⟩
  | a7 q' wd st w =>
    obtain ⟨rfl, rfl, hs1, ht, hp, hle⟩ := Kx
    refine ⟨g, v, by simp only [Cw.mem]; exact O.load (by rw [pa]; exact in160 (by omega) (by omega)), Le.refl g, ?_⟩
    simp only [Cw.next]
    rw [pa, O.gotS hk]
    by_cases e : g (10 + 2 * k) = st
    · rw [if_pos e]
      exact ⟨trivial, .inr (.inl ⟨rfl, false, w, ht, hp.resolve_right (by omega), rfl⟩), rfin _ _ _ _, fun _ => by rw [e]; rcases hs1 with rfl | rfl <;> simp [Cw.tells, rr]⟩
    · rw [if_neg e]
      refine ⟨(kn_by A O).1, .inl ⟨rfl, (kn_by (P := P) A O).2⟩, ?_, fun _ => ?_⟩
      · have h1 := R_by (q := q') O hk q' 104
        refine Nat.le_trans h1 ?_
        rcases hs1 with rfl | rfl
        · simp [Rk, rk, mis, show ¬ g (10 + 2 * k) ≤ 1 by omega]
        · simp [Rk, rk, mis, show ¬ g (10 + 2 * k) ≤ 2 by omega]
      · refine Nat.le_trans (rr_by O hk q' 104) ?_
        rcases hs1 with rfl | rfl
        · simp [rr, show ¬ g (10 + 2 * k) ≤ 1 by omega]
        · rw [show g (10 + 2 * k) = 3 by omega]; simp [rr, Br]
  | a9 q' wd w =>
    obtain ⟨rfl, rfl, ht, h1⟩ := Kx
    obtain ⟨n1, n3⟩ := not_told3 A ht
    have f := O.fd k hk
    unfold Fg Fd at f
    have rno : ¬ (g (10 + 2 * k) = 1 ∧ g (11 + 2 * k) = w) → Rk q' k g v (.a2 q' 104) + 1 ≤ Rk q' k g v (.a9 q' 104 w) := fun e => by
      rw [R_a2]
      by_cases e1 : g (10 + 2 * k) = 1
      · have hp : g (11 + 2 * k) = (v k).w := by
          rcases f with ⟨h, _⟩ | ⟨_, h, _⟩ | ⟨h, _⟩ | ⟨h, _⟩
          · omega
          · exact h
          · omega
          · omega
        have : w ≠ (v k).w := fun h => e ⟨e1, by rw [hp, h]⟩
        simp [Rk, rk, mis, e1, this, Bq]
      · simp only [Rk, rk, mis]
        rw [if_neg (by omega)]
        omega
    rcases hl : q'.lo with _ | _
    · obtain ⟨g', O', L, w1, w2⟩ := O.pShut hk w
      refine ⟨g', v, by simp only [Cw.mem, hl]; rw [pa]; exact O', L, ?_⟩
      simp only [Cw.next, hl]
      refine ⟨⟨rfl, rfl⟩, .inl ⟨rfl, rfl⟩, ?_, fun e => absurd e n1⟩
      by_cases e : g (10 + 2 * k) = 1 ∧ g (11 + 2 * k) = w
      · have e2 := w1 e
        simp only [if_false, Bool.false_eq_true]
        rw [R_a2, e2]
        simp [Rk, rk, e.1, Bq]
      · rw [w2 e]
        exact rno e
    · by_cases e : g (10 + 2 * k) = 1 ∧ g (11 + 2 * k) = w
      · obtain ⟨q1, q2, g', O', L⟩ := O.pW hk A.y e.1 e.2
        refine ⟨g', _, by simp only [Cw.mem, hl]; rw [pa]; exact O', L, ?_⟩
        simp only [Cw.next, hl]
        rw [pa, q1]
        exact ⟨trivial, .inr (.inr ⟨rfl, n1, fun e3 => of_w_eq gd q2 (n3 e3), rfl⟩), rfin _ _ _ _, fun e => absurd e n1⟩
      · obtain ⟨q1, q2⟩ := O.pNo hk 1 q'.r.y.w e
        refine ⟨g, v, by simp only [Cw.mem, hl]; rw [pa]; exact q2, Le.refl g, ?_⟩
        simp only [Cw.next, hl]
        rw [pa, q1]
        exact ⟨⟨rfl, rfl⟩, .inl ⟨rfl, rfl⟩, rno e, fun e => absurd e n1⟩
  | a11 q' wd =>
    obtain ⟨rfl, rfl, h3⟩ := Kx
    have e8 : s.got 104 = HWd := (O.m.got (i := 8) (by omega)).trans O.h8
    have en : (Cw.a11 q' 104).next s = Cw.go false q' 112 := by simp only [Cw.next, e8, h_W.2.2.2]
    rw [en]
    refine ⟨g, v, by simp only [Cw.mem]; exact O.load (in160 (by decide) (by decide)), Le.refl g, (knd _ h3).1, .inl ⟨rfl, rfl⟩, ?_, fun e => ?_⟩
    · have := (knd false h3).2
      show _ ≤ 6 + 0
      omega
    · rw [go_]; simp [rr, Sx.new, firstK, e]
  | a12 q' wd w =>
    obtain ⟨rfl, rfl, h2, hw, ht⟩ := Kx
    have e8 : s.got 104 = HWd := (O.m.got (i := 8) (by omega)).trans O.h8
    have en : (Cw.a12 q' 104 w).next s = .a13 q' 104 w 112 := by simp only [Cw.next, e8, h_W.2.2.2]
    rw [en]
    exact ⟨g, v, by simp only [Cw.mem]; exact O.load (in160 (by decide) (by decide)), Le.refl g, ⟨rfl, rfl, h2, hw, ht, rfl⟩, .inl ⟨rfl, rfl⟩, Nat.le_refl _, fun e => absurd (.inl e) ht⟩
  | a13 q' wd w l =>
    obtain ⟨rfl, rfl, h2, hw, ht, rfl⟩ := Kx
    obtain ⟨g', O', L, h17, _⟩ := O.fCas hk h2 hw
    refine ⟨g', v, ?_, L, ⟨rfl, rfl, Int.le_trans h2 (L k hk).1, ((L k hk).2.2.1 h2).trans hw, ht, h17⟩, .inl ⟨rfl, rfl⟩, Nat.le_refl _, fun e => absurd (.inl e) ht⟩
    simp only [Cw.mem, empW]
    rw [A.fd, show (112 : Int) + 1 + (k : Int) = 113 + (k : Int) by omega]
    exact O'
  | a14 q' wd w =>
    obtain ⟨rfl, rfl, h2, hw, ht, h17⟩ := Kx
    obtain ⟨g', O', L, w1⟩ := O.fFin hk h17 w
    refine ⟨g', v, by simp only [Cw.mem]; rw [pa]; exact O', L, ⟨rfl, rfl⟩, .inl ⟨rfl, rfl⟩, ?_, fun e => absurd (.inl e) ht⟩
    rw [show (Cw.a14 q' 104 w).next s = .a2 q' 104 from rfl, R_a2]
    have h3 : 2 < g' (10 + 2 * k) := by
      have := (L k hk).1
      by_cases e : g (10 + 2 * k) = 2
      · have := w1 ⟨e, hw⟩; omega
      · omega
    have := (B_le (opn g' k) (g' (10 + 2 * k))).2.2.2.1 h3
    show _ ≤ 8 + 0
    omega
  | dr b x =>
    obtain ⟨h3, ho, D⟩ := Kx
    obtain ⟨xk, xh, xo⟩ := x
    simp only at ho
    subst ho
    obtain ⟨f1, f2, f3⟩ := O.at3 hk h3
    have fw : s.got (113 + (k : Int)) = (v k).w := (O.gotF hk).trans f2
    rcases D with ⟨op, D⟩ | ⟨op, D⟩ | ⟨op, D | D | ⟨u, T, hu, hne, hf1, hf2, hPu, D | D⟩⟩ <;> (simp only at D; subst D)
    · refine ⟨g, v, O.load (in160 (by omega) (by omega)), Le.refl g, ?_⟩
      have en : (Cw.dr b ⟨some (.read (113 + (k : Int)) false), xh, Ou.zero⟩).next s = Cw.tells true q (v k).w := by
        show Cw.onD ⟨none, true, ⟨0, Vl.of (s.got (113 + (k : Int))), false⟩⟩ = _
        rw [fw]
        simp [Cw.onD, Sx.done, Cw.tells, op]
      rw [en]
      exact ⟨trivial, .inr (.inl ⟨rfl, true, (v k).w, .inl op, hP (.inl op), rfl⟩), rfin _ _ _ _, fun _ => Nat.le_refl _⟩
    · obtain ⟨g', O', L⟩ := O.fStore hk h3 A.y
      refine ⟨g', _, O', L, ?_⟩
      have en : (Cw.dr b ⟨some (.store (113 + (k : Int)) q.r.y), xh, Ou.zero⟩).next s = Cw.wrote q := by
        show Cw.onD ⟨none, true, Ou.zero⟩ = _
        simp [Cw.onD, Sx.done, Cw.wrote, op, Ou.zero]
      rw [en]
      exact ⟨trivial, .inr (.inr ⟨rfl, by omega, fun e => by omega, rfl⟩), rfin _ _ _ _, fun e => by omega⟩
    · refine ⟨g, v, O.load (in160 (by omega) (by omega)), Le.refl g, ?_⟩
      have ev : Vl.of (v k).w = v k := gd.of
      by_cases hx : v k = q.r.x
      · have en : (Cw.dr b ⟨some (.swap (113 + (k : Int)) q.r (hwC false)), xh, Ou.zero⟩).next s = .dr true ⟨some (.exch (113 + (k : Int)) q.r.x.w q.r (hwC false)), true, Ou.zero⟩ := by
          simp only [Cw.next, Sx.next, K.next, fw, ev, if_pos hx]
          simp [Cw.onD, Sx.done, behind, shadeK, hwC, hx]
        rw [en]
        exact ⟨⟨h3, rfl, .inr (.inr ⟨op, .inr (.inl rfl)⟩)⟩, .inl ⟨rfl, rfl⟩, by simp [Rk, rk, mis, hx], fun e => by omega⟩
      · have ht : Cw.told q (v k).w := .inr ⟨op, by rw [ev]; exact hx⟩
        by_cases hf : ((v k).far && q.r.x.far) = true
        · have hf' := hf
          simp only [Bool.and_eq_true] at hf'
          have en : (Cw.dr b ⟨some (.swap (113 + (k : Int)) q.r (hwC false)), xh, Ou.zero⟩).next s = .dr true ⟨some (.compS (v k).n q.r.x.n (behind (113 + (k : Int)) (v k).w q.r (hwC false))), true, Ou.zero⟩ := by
            simp only [Cw.next, Sx.next, K.next, fw, ev, if_neg hx]
            rw [if_pos (by simpa [hwC] using hf')]
            rfl
          rw [en]
          exact ⟨⟨h3, rfl, .inr (.inr ⟨op, .inr (.inr ⟨v k, _, gd, hx, hf'.1, hf'.2, hP ht, .inl rfl⟩)⟩)⟩, .inl ⟨rfl, rfl⟩, by simp [Rk, rk, mis], fun e => by omega⟩
        · have en : (Cw.dr b ⟨some (.swap (113 + (k : Int)) q.r (hwC false)), xh, Ou.zero⟩).next s = Cw.tells true q (v k).w := by
            simp only [Cw.next, Sx.next, K.next, fw, ev, if_neg hx]
            rw [if_neg (by simpa [hwC] using hf)]
            simp [Cw.onD, Sx.done, Cw.tells, op]
          rw [en]
          exact ⟨trivial, .inr (.inl ⟨rfl, true, _, ht, hP ht, rfl⟩), rfin _ _ _ _, fun e => by omega⟩
    · by_cases hx : (v k).w = q.r.x.w
      · obtain ⟨q1, g', O', L⟩ := O.fSwap hk h3 A.y hx
        refine ⟨g', _, O', L, ?_⟩
        have en : (Cw.dr b ⟨some (.exch (113 + (k : Int)) q.r.x.w q.r (hwC false)), xh, Ou.zero⟩).next s = Cw.wrote q := by
          simp only [Cw.next, Sx.next, K.next, q1]
          simp [Cw.onD, Sx.done, Cw.wrote, op]
        rw [en]
        exact ⟨trivial, .inr (.inr ⟨rfl, by omega, fun _ => good_inj gd A.x hx, rfl⟩), rfin _ _ _ _, fun e => by omega⟩
      · obtain ⟨q1, q2⟩ := O.fNo hk h3 q.r.y.w hx
        refine ⟨g, v, q2, Le.refl g, ?_⟩
        have en : (Cw.dr b ⟨some (.exch (113 + (k : Int)) q.r.x.w q.r (hwC false)), xh, Ou.zero⟩).next s = .dr false ⟨some (.swap (113 + (k : Int)) q.r (hwC false)), false, Ou.zero⟩ := by
          simp only [Cw.next, Sx.next, K.next, q1]
          rfl
        rw [en]
        exact ⟨⟨h3, rfl, .inr (.inr ⟨op, .inl rfl⟩)⟩, .inl ⟨rfl, rfl⟩, by simp [Rk, rk, mis, hx], fun e => by omega⟩
    · obtain ⟨i1, m1⟩ := O.mvn hu hf1
      refine ⟨g, v, O.load i1, Le.refl g, ?_⟩
      have en : (Cw.dr b ⟨some (.compS u.n q.r.x.n T), xh, Ou.zero⟩).next s = .dr false ⟨some (.comp2S u.n q.r.x.n T), false, Ou.zero⟩ := by
        simp only [Cw.next, Sx.next, K.next, m1]
        rfl
      rw [en]
      exact ⟨⟨h3, rfl, .inr (.inr ⟨op, .inr (.inr ⟨u, T, hu, hne, hf1, hf2, hPu, .inr rfl⟩)⟩)⟩, .inl ⟨rfl, rfl⟩, by simp [Rk, rk, mis], fun e => by omega⟩
    · obtain ⟨i1, m1⟩ := O.mvn A.x hf2
      refine ⟨g, v, O.load i1, Le.refl g, ?_⟩
      have en : (Cw.dr b ⟨some (.comp2S u.n q.r.x.n T), xh, Ou.zero⟩).next s = Cw.tells false q u.w := by
        simp only [Cw.next, Sx.next, K.next, m1]
        rw [if_neg (far_n hu A.x hf1 hf2 hne)]
        simp [Cw.onD, Sx.done, Cw.tells, op]
      rw [en]
      exact ⟨trivial, .inr (.inl ⟨rfl, false, u.w, .inr ⟨op, by rw [hu.of]; exact hne⟩, hPu, rfl⟩), rfin _ _ _ _, fun e => by omega⟩
end
end Go.Proofs.YtpcoldpphihfmaaGreatDoor
