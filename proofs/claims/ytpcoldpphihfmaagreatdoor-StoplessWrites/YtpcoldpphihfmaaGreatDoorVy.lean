/-
  An access alone: where a read looks, and where a write is in the end; plainly.
-/
import Derived.Test.YtpcoldpphihfmaaGreatDoorVr
namespace Go.Proofs.YtpcoldpphihfmaaGreatDoor
set_option linter.unusedVariables false
set_option linter.unusedSimpArgs false
set_option maxRecDepth 100000
open H.Plain (hw pS pC pN pM pG pT pL mv)

/-- what is no word of the field's pair is as it was -/
def Fx (k : Nat) (s s' : St) : Prop := ∀ a : Int, 0 ≤ a → a < 160 → a / 2 ≠ 53 + (k : Int) → s'.word a = s.word a
section
variable {s s' s'' : St} {g : Nat → Int} {v : Nat → Vl} {k : Nat} {q : Wq} {y : Vl} {lo fx : Bool}
theorem Fx.trans (h : Fx k s s') (h' : Fx k s' s'') : Fx k s s'' := fun a h0 h1 h2 => (h' a h0 h1 h2).trans (h a h0 h1 h2)
theorem fx_load (a : Int) : Fx k s (s.load a) := fun _ _ _ _ => rfl
theorem fx_cas2 (M : MW s g) (hk : k < 3) (o0 o1 x0 x1 : Int) : Fx k s (s.cas2 (106 + 2 * (k : Int)) o0 o1 x0 x1) := fun a h0 h1 h2 => by
  by_cases e : s.word (106 + 2 * (k : Int)) = o0 ∧ s.word (106 + 2 * (k : Int) + 1) = o1
  · rw [word_cas2_ok M.len (by omega) (by omega) (by omega) ⟨h0, h1⟩ e.1 e.2, if_neg (by omega), if_neg (by omega)]
  · exact (word_cas2_no M.len (by omega) (by omega) (by omega) e x0 x1).2
theorem Ob.ld (O : Ob s g v) {a : Int} (h0 : 0 ≤ a) (h1 : a < 160) : Ob (s.load a) g v := O.load ⟨h0, h1⟩
/-! ### a read -/
/-- of the final copy -/
theorem read_dr (hk : k < 3) (O : Ob s g v) (h3 : g (10 + 2 * k) = 3) (b fx : Bool) : ∃ d bt s', d ≤ 2 ∧ Run (.dr b (Sx.new (113 + (k : Int)) (rqR k) (hwC fx))) s d (.fin bt ⟨0, v k, false⟩) s' ∧ Fx k s s' := by
  obtain ⟨_, f2, _⟩ := O.at3 hk (by omega)
  have gd := O.ok k hk
  have fw : s.got (113 + (k : Int)) = (v k).w := (O.gotF hk).trans f2
  have ev : Vl.of (v k).w = v k := gd.of
  have e0 : Sx.new (113 + (k : Int)) (rqR k) (hwC fx) = ⟨some (.read (113 + (k : Int)) fx), false, Ou.zero⟩ := rfl
  rw [e0]
  by_cases hf : (fx && (v k).far) = true
  · have hf' := hf
    simp only [Bool.and_eq_true] at hf'
    have O1 := O.ld (a := 113 + (k : Int)) (by omega) (by omega)
    obtain ⟨i1, m1⟩ := O1.mvn gd hf'.2
    have hv : (⟨1, (v k).n⟩ : Vl) = v k := by
      obtain ⟨vk, hvk⟩ : ∃ u, v k = u := ⟨_, rfl⟩
      rw [hvk] at hf' ⊢
      obtain ⟨a1, a2⟩ := vk
      have := hf'.2
      simp [Vl.far] at this
      rw [this.1]
    refine ⟨2, false, (s.load (113 + (k : Int))).load (v k).n, Nat.le_refl _, Run.step rfl (x' := .dr true ⟨some (.follow (v k).n), true, Ou.zero⟩) (s' := s.load (113 + (k : Int))) ?_ rfl (Run.step rfl (x' := .fin false ⟨0, v k, false⟩) ?_ rfl (Run.refl _ _)), fun _ _ _ _ => rfl⟩
    · simp only [Cw.next, Sx.next, K.next, fw, ev]
      rw [if_pos hf]
      rfl
    · simp only [Cw.next, Sx.next, K.next, m1, hv]
      rfl
  · refine ⟨1, true, s.load (113 + (k : Int)), by decide, Run.step rfl (x' := .fin true ⟨0, v k, false⟩) ?_ rfl (Run.refl _ _), fun _ _ _ _ => rfl⟩
    simp only [Cw.next, Sx.next, K.next, fw, ev]
    rw [if_neg hf]
    rfl
/-- of the pair, or of the final copy -/
theorem read_a2 (hk : k < 3) (O : Ob s g v) (h1 : 1 ≤ g (10 + 2 * k)) (lo fx : Bool) : ∃ d bt s', d ≤ 4 ∧ Run (.a2 ⟨rqR k, lo, fx⟩ 104) s d (.fin bt ⟨0, v k, false⟩) s' ∧ Fx k s s' := by
  have gd := O.ok k hk
  have O1 := O.ld (a := 106 + 2 * (k : Int)) (by omega) (by omega)
  have O2 := O1.ld (a := 106 + 2 * (k : Int) + 1) (by omega) (by omega)
  have f := O.fd k hk
  unfold Fg Fd at f
  obtain ⟨n2, m2⟩ := go_a2 (q := ⟨rqR k, lo, fx⟩) rfl hk O
  have two (st : Int) (hst : st = 1 ∨ st = 2) (e : g (10 + 2 * k) = st) (hp : g (11 + 2 * k) = (v k).w) : ∃ d bt s', d ≤ 4 ∧ Run (.a2 ⟨rqR k, lo, fx⟩ 104) s d (.fin bt ⟨0, v k, false⟩) s' ∧ Fx k s s' := by
    obtain ⟨n6, m6⟩ := go_a6 (q := ⟨rqR k, lo, fx⟩) rfl hk O1 st
    obtain ⟨n7, m7⟩ := go_a7 (q := ⟨rqR k, lo, fx⟩) rfl hk O2 (v k).w
    rw [e] at n7 m7
    have e7 : Cw.tells false ⟨rqR k, lo, fx⟩ (v k).w = .fin false ⟨0, v k, false⟩ := by simp [Cw.tells, rqR, gd.of]
    refine ⟨3, false, _, by decide, Run.step rfl (x' := .a6 ⟨rqR k, lo, fx⟩ 104 st) (n2.trans ?_) m2 (Run.step rfl (x' := .a7 ⟨rqR k, lo, fx⟩ 104 st (v k).w) (n6.trans ?_) m6 (Run.step rfl (n7.trans e7) m7 (Run.refl _ _))), fun _ _ _ _ => rfl⟩
    · rw [e]; rcases hst with rfl | rfl <;> simp [Cw.by_]
    · rw [if_pos (.inl rfl), hp]
  rcases f with ⟨e, _⟩ | ⟨e, hp, _⟩ | ⟨e, hp, _⟩ | ⟨e, _⟩
  · omega
  · exact two 1 (.inl rfl) e hp
  · exact two 2 (.inr rfl) e hp
  · obtain ⟨n3, m3⟩ := go_a11 (q := ⟨rqR k, lo, fx⟩) rfl O1
    obtain ⟨d, bt, s', hd, R, hF⟩ := read_dr hk (O1.ld (a := 104) (by decide) (by decide)) e false fx
    refine ⟨d + 1 + 1, bt, s', by omega, Run.step rfl (x' := .a11 ⟨rqR k, lo, fx⟩ 104) (n2.trans ?_) m2 (Run.step rfl n3 m3 R), fun a h0 h1 h2 => hF a h0 h1 h2⟩
    rw [e]; simp [Cw.by_]
/-- a read alone tells what the field has, and changes nothing but its pair -/
theorem where_runs (hk : k < 3) (O : Ob s g v) (lo fx : Bool) : ∃ d bt s', d ≤ 11 ∧ Run (.hd ⟨rqR k, lo, fx⟩) s d (.fin bt ⟨0, v k, false⟩) s' ∧ Fx k s s' := by
  have gd := O.ok k hk
  obtain ⟨n1, m1⟩ := go_hd (q := ⟨rqR k, lo, fx⟩) rfl rfl hk O
  have O1 := O.ld (a := 96) (by decide) (by decide)
  by_cases h1 : 1 ≤ g (10 + 2 * k)
  · obtain ⟨d, bt, s', hd, R, hF⟩ := read_a2 hk O1 h1 lo fx
    exact ⟨d + 1, bt, s', by omega, Run.step rfl n1 m1 R, fun a h0 h1 h2 => hF a h0 h1 h2⟩
  · have e : g (10 + 2 * k) = 0 := by rcases O.st hk with e | e | e | e <;> omega
    obtain ⟨n2, m2⟩ := go_a2 (q := ⟨rqR k, lo, fx⟩) rfl hk O1
    have O2 := O1.ld (a := 106 + 2 * (k : Int)) (by omega) (by omega)
    have O3 := O2.ld (a := 97 + (k : Int)) (by omega) (by omega)
    have n2' : (Cw.a2 ⟨rqR k, lo, fx⟩ 104).next (s.load 96) = .a3 ⟨rqR k, lo, fx⟩ 104 := n2.trans (by rw [e]; simp [Cw.by_])
    rcases hz : F.Plain.froz (g (1 + k)) with _ | _
    · obtain ⟨n3, m3⟩ := go_a3o (q := ⟨rqR k, lo, fx⟩) rfl rfl hk O2 (O2.open_ hk hz).1
      refine ⟨3, true, _, by decide, Run.step rfl n1 m1 (Run.step rfl n2' m2 (Run.step rfl (x' := .fin true ⟨0, v k, false⟩) (n3.trans ?_) m3 (Run.refl _ _))), fun _ _ _ _ => rfl⟩
      rw [if_pos (.inl rfl)]
      simp [Cw.tells, rqR, gd.of]
    · obtain ⟨n3, m3⟩ := go_a3f (q := ⟨rqR k, lo, fx⟩) rfl rfl hk O2 hz
      obtain ⟨g', O4, _, h1'⟩ := O3.pIn hk hz rfl
      obtain ⟨d, bt, s', hd, R, hF⟩ := read_a2 hk O4 h1' lo fx
      have m5 : (Cw.a5 ⟨rqR k, lo, fx⟩ 104 (g (1 + k))).mem (((s.load 96).load (106 + 2 * (k : Int))).load (97 + (k : Int))) = (((s.load 96).load (106 + 2 * (k : Int))).load (97 + (k : Int))).cas2 (106 + 2 * (k : Int)) 0 0 1 (F.Plain.th (g (1 + k))) := by
        simp only [Cw.mem, e_pa' (q := ⟨rqR k, lo, fx⟩) (k := k) rfl]
      refine ⟨d + 1 + 1 + 1 + 1, bt, s', by omega, Run.step rfl n1 m1 (Run.step rfl n2' m2 (Run.step rfl n3 m3 (Run.step rfl rfl m5 R))), ?_⟩
      have := (fx_cas2 O3.m hk 0 0 1 (F.Plain.th (g (1 + k)))).trans hF
      exact fun a h0 h1 h2 => this a h0 h1 h2
/-! ### a write -/
def rqU (k : Nat) (y : Vl) : Rq := ⟨2, 96, (k : Int), Vl.zero, y⟩
def EndF (k : Nat) (y : Vl) (s' : St) : Prop := s'.word (106 + 2 * (k : Int)) = 3 ∧ s'.word (113 + (k : Int)) = y.w
def EndP (k : Nat) (y : Vl) (s' : St) : Prop := s'.word (106 + 2 * (k : Int)) = 1 ∧ s'.word (107 + 2 * (k : Int)) = y.w
def EndO (k : Nat) (y : Vl) (s' : St) : Prop := s'.word (106 + 2 * (k : Int)) = 0 ∧ s'.word (97 + (k : Int)) = y.w
theorem untold (w : Int) (lo : Bool) : ¬ Cw.told ⟨rqU k y, lo, false⟩ w := fun h => by rcases h with h | ⟨h, _⟩ <;> simp [rqU] at h
/-- it is in the final copy already -/
theorem write3 (hk : k < 3) (O : Ob s g v) (h3 : g (10 + 2 * k) = 3) (y : Vl) (lo : Bool) : ∃ d s', d ≤ 3 ∧ Run (.a2 ⟨rqU k y, lo, false⟩ 104) s d (Cw.wrote ⟨rqU k y, lo, false⟩) s' ∧ EndF k y s' := by
  have O1 := O.ld (a := 106 + 2 * (k : Int)) (by omega) (by omega)
  have O2 := O1.ld (a := 104) (by decide) (by decide)
  have M := O2.m.store (i := 17 + k) (by omega) y.w
  rw [← eF] at M
  obtain ⟨n2, m2⟩ := go_a2 (q := ⟨rqU k y, lo, false⟩) rfl hk O
  obtain ⟨n3, m3⟩ := go_a11 (q := ⟨rqU k y, lo, false⟩) rfl O1
  refine ⟨3, _, Nat.le_refl _, Run.step rfl (x' := .a11 ⟨rqU k y, lo, false⟩ 104) (n2.trans ?_) m2 (Run.step rfl n3 m3 (Run.step rfl (x' := Cw.wrote ⟨rqU k y, lo, false⟩) (s' := ((s.load (106 + 2 * (k : Int))).load 104).store (113 + (k : Int)) y.w) ?_ rfl (Run.refl _ _))), ?_, ?_⟩
  · rw [h3]; simp [Cw.by_]
  · show Cw.onD ⟨none, true, Ou.zero⟩ = _
    simp [Cw.onD, Sx.done, Cw.wrote, rqU, Ou.zero]
  · have := M.at_ (10 + 2 * k) (by omega)
    rw [← eP, updN_ne _ _ (by omega), h3] at this
    exact this
  · have := M.at_ (17 + k) (by omega)
    rw [← eF, updN_at] at this
    exact this
/-- it is shut -/
theorem write2 (hk : k < 3) (O : Ob s g v) (h2 : g (10 + 2 * k) = 2) (y : Vl) (lo : Bool) : ∃ d s', d ≤ 8 ∧ Run (.a2 ⟨rqU k y, lo, false⟩ 104) s d (Cw.wrote ⟨rqU k y, lo, false⟩) s' ∧ EndF k y s' := by
  have O1 := O.ld (a := 106 + 2 * (k : Int)) (by omega) (by omega)
  have O2 := O1.ld (a := 106 + 2 * (k : Int) + 1) (by omega) (by omega)
  have O3 := O2.ld (a := 104) (by decide) (by decide)
  obtain ⟨n2, m2⟩ := go_a2 (q := ⟨rqU k y, lo, false⟩) rfl hk O
  obtain ⟨n6, m6⟩ := go_a6 (q := ⟨rqU k y, lo, false⟩) rfl hk O1 2
  obtain ⟨w, hw⟩ : ∃ w, g (11 + 2 * k) = w := ⟨_, rfl⟩
  rw [hw] at n6
  obtain ⟨g4, O4, L4, h17, h10⟩ := O3.fCas hk (by omega) hw
  obtain ⟨g5, O5, L5, h3⟩ := O4.fFin hk h17 w
  have h5 := h3 ⟨h10.trans h2, ((L4 k hk).2.2.1 (by omega)).trans hw⟩
  obtain ⟨d, s', hd, R, E⟩ := write3 hk O5 h5 y lo
  have e8 : ((s.load (106 + 2 * (k : Int))).load (106 + 2 * (k : Int) + 1)).got 104 = HWd := (O2.m.got (i := 8) (by omega)).trans O.h8
  refine ⟨d + 1 + 1 + 1 + 1 + 1, s', by omega, Run.step rfl (x' := .a6 ⟨rqU k y, lo, false⟩ 104 2) (n2.trans ?_) m2 (Run.step rfl (x' := .a12 ⟨rqU k y, lo, false⟩ 104 w) (n6.trans ?_) m6 (Run.step rfl (x' := .a13 ⟨rqU k y, lo, false⟩ 104 w 112) ?_ rfl (Run.step rfl (x' := .a14 ⟨rqU k y, lo, false⟩ 104 w) (s' := (((s.load (106 + 2 * (k : Int))).load (106 + 2 * (k : Int) + 1)).load 104).cas (113 + (k : Int)) 2 w) rfl ?_ (Run.step rfl rfl ?_ R)))), E⟩
  · rw [h2]; simp [Cw.by_]
  · rw [if_neg (untold w lo), if_neg (by decide)]
  · simp only [Cw.next, e8, h_W.2.2.2]
  · simp only [Cw.mem, empW]
    rw [show (112 : Int) + 1 + (rqU k y).fd = 113 + (k : Int) by simp only [rqU]; omega]
  · simp only [Cw.mem, e_pa' (q := ⟨rqU k y, lo, false⟩) (k := k) rfl]
/-- it is in the pair: from ModeClose on it is shut first -/
theorem write1c (hk : k < 3) (O : Ob s g v) (h1 : g (10 + 2 * k) = 1) (y : Vl) : ∃ d s', d ≤ 11 ∧ Run (.a2 ⟨rqU k y, false, false⟩ 104) s d (Cw.wrote ⟨rqU k y, false, false⟩) s' ∧ EndF k y s' := by
  have O1 := O.ld (a := 106 + 2 * (k : Int)) (by omega) (by omega)
  have O2 := O1.ld (a := 106 + 2 * (k : Int) + 1) (by omega) (by omega)
  obtain ⟨n2, m2⟩ := go_a2 (q := ⟨rqU k y, false, false⟩) rfl hk O
  obtain ⟨n6, m6⟩ := go_a6 (q := ⟨rqU k y, false, false⟩) rfl hk O1 1
  obtain ⟨w, hw⟩ : ∃ w, g (11 + 2 * k) = w := ⟨_, rfl⟩
  rw [hw] at n6
  obtain ⟨g4, O4, L4, w1, _⟩ := O2.pShut hk w
  obtain ⟨d, s', hd, R, E⟩ := write2 hk O4 (w1 ⟨h1, hw⟩) y false
  refine ⟨d + 1 + 1 + 1, s', by omega, Run.step rfl (x' := .a6 ⟨rqU k y, false, false⟩ 104 1) (n2.trans ?_) m2 (Run.step rfl (x' := .a9 ⟨rqU k y, false, false⟩ 104 w) (n6.trans ?_) m6 (Run.step rfl (x' := .a2 ⟨rqU k y, false, false⟩ 104) ?_ ?_ R)), E⟩
  · rw [h1]; simp [Cw.by_]
  · rw [if_neg (untold w false), if_pos rfl]
  · simp [Cw.next]
  · simp only [Cw.mem, e_pa' (q := ⟨rqU k y, false, false⟩) (k := k) rfl]
    simp
/-- below, it stays in the pair -/
theorem write1l (hk : k < 3) (O : Ob s g v) (h1 : g (10 + 2 * k) = 1) (y : Vl) : ∃ d s', d ≤ 3 ∧ Run (.a2 ⟨rqU k y, true, false⟩ 104) s d (Cw.wrote ⟨rqU k y, true, false⟩) s' ∧ EndP k y s' := by
  have O1 := O.ld (a := 106 + 2 * (k : Int)) (by omega) (by omega)
  have O2 := O1.ld (a := 106 + 2 * (k : Int) + 1) (by omega) (by omega)
  obtain ⟨n2, m2⟩ := go_a2 (q := ⟨rqU k y, true, false⟩) rfl hk O
  obtain ⟨n6, m6⟩ := go_a6 (q := ⟨rqU k y, true, false⟩) rfl hk O1 1
  obtain ⟨w, hw⟩ : ∃ w, g (11 + 2 * k) = w := ⟨_, rfl⟩
  rw [hw] at n6
  obtain ⟨q1, M⟩ := O2.pYes hk 1 y.w h1 hw
  refine ⟨3, _, by omega, Run.step rfl (x' := .a6 ⟨rqU k y, true, false⟩ 104 1) (n2.trans ?_) m2 (Run.step rfl (x' := .a9 ⟨rqU k y, true, false⟩ 104 w) (n6.trans ?_) m6 (Run.step rfl (x' := Cw.wrote ⟨rqU k y, true, false⟩) (s' := ((s.load (106 + 2 * (k : Int))).load (106 + 2 * (k : Int) + 1)).cas2 (106 + 2 * (k : Int)) 1 w 1 y.w) ?_ ?_ (Run.refl _ _))), ?_, ?_⟩
  · rw [h1]; simp [Cw.by_]
  · rw [if_neg (untold w true), if_pos rfl]
  · simp only [Cw.next, e_pa' (q := ⟨rqU k y, true, false⟩) (k := k) rfl]
    rw [q1]
    simp
  · simp only [Cw.mem, e_pa' (q := ⟨rqU k y, true, false⟩) (k := k) rfl]
    simp [rqU]
  · have := M.at_ (10 + 2 * k) (by omega)
    rw [← eP, updN_ne _ _ (by omega), updN_at] at this
    exact this
  · have := M.at_ (10 + 2 * k + 1) (by omega)
    rw [updN_at] at this
    rw [show (107 : Int) + 2 * (k : Int) = 96 + ((10 + 2 * k + 1 : Nat) : Int) by omega]
    exact this
/-- what is frozen goes into the pair -/
theorem in0 (hk : k < 3) (O : Ob s g v) (h0 : g (10 + 2 * k) = 0) (hz : F.Plain.froz (g (1 + k)) = true) (q : Wq) (ha : q.r.at_ = 96) (hf : q.r.fd = (k : Int)) : ∃ s1 g1, Ob s1 g1 v ∧ g1 (10 + 2 * k) = 1 ∧ ∀ d x s', Run (.a2 q 104) s1 d x s' → Run (.a3 q 104) s (d + 2) x s' := by
  have gd := O.ok k hk
  have f := O.fd k hk
  unfold Fg Fd at f
  have O1 := O.ld (a := 97 + (k : Int)) (by omega) (by omega)
  obtain ⟨n3, m3⟩ := go_a3f ha hf hk O hz
  obtain ⟨f1, f2, f3⟩ : g (11 + 2 * k) = 0 ∧ g (17 + k) = 2 ∧ g (1 + k) = F.Plain.fz (v k).w := by
    rcases f with ⟨_, h2, h3, h4 | h4⟩ | ⟨h1, _⟩ | ⟨h1, _⟩ | ⟨h1, _⟩
    · rw [h4, good_nf gd] at hz; cases hz
    · exact ⟨h2, h3, h4⟩
    · omega
    · omega
    · omega
  obtain ⟨q1, q2⟩ := O1.pYes hk 1 (F.Plain.th (g (1 + k))) h0 f1
  obtain ⟨a1, a2, a3, a4⟩ := at23 (g := g) (x0 := 1) (x1 := F.Plain.th (g (1 + k))) hk
  refine ⟨_, _, O1.fld0 hk q2 off2 (.inr (.inl ⟨a2, by rw [a3, f3, (good_fz gd).2.1], by rw [a4]; exact f2, by rw [a1]; exact hz⟩)), a2, fun d x s' R => Run.step rfl n3 m3 (Run.step rfl rfl ?_ R)⟩
  simp only [Cw.mem, e_pa' hf]
/-- from ModeClose on what is open is frozen first -/
theorem frz0 (hk : k < 3) (O : Ob s g v) (h0 : g (10 + 2 * k) = 0) (hz : F.Plain.froz (g (1 + k)) = false) (y : Vl) : ∃ s1 g1, Ob s1 g1 v ∧ g1 (10 + 2 * k) = 0 ∧ F.Plain.froz (g1 (1 + k)) = true ∧ ∀ d x s', Run (.a3 ⟨rqU k y, false, false⟩ 104) s1 d x s' → Run (.a3 ⟨rqU k y, false, false⟩ 104) s (d + 2) x s' := by
  have gd := O.ok k hk
  obtain ⟨h1, _, h3, h4⟩ := O.open_ hk hz
  have O1 := O.ld (a := 97 + (k : Int)) (by omega) (by omega)
  obtain ⟨n3, m3⟩ := go_a3o (q := ⟨rqU k y, false, false⟩) rfl rfl hk O h1
  rw [if_neg (untold _ false)] at n3
  obtain ⟨q1, q2⟩ := O1.m.cas (i := 1 + k) (by omega) h1 (F.Plain.fz (v k).w)
  rw [← eO] at q1 q2
  obtain ⟨a1, a2, a3, a4⟩ := at1 (g := g) (k := k) (x := F.Plain.fz (v k).w)
  refine ⟨_, _, O1.fld0 hk q2 (off1 (by omega)) (.inl ⟨by rw [a2]; exact h0, by rw [a3]; exact h3, by rw [a4]; exact h4, .inr a1⟩), by rw [a2]; exact h0, by rw [a1]; exact (good_fz gd).1, fun d x s' R => Run.step rfl n3 m3 (Run.step rfl (x' := .a3 ⟨rqU k y, false, false⟩ 104) ?_ ?_ R)⟩
  · simp [Cw.next]
  · simp only [Cw.mem, e_fa' (q := ⟨rqU k y, false, false⟩) (k := k) rfl rfl]
    simp
/-- below, what is open is written in the original -/
theorem open0 (hk : k < 3) (O : Ob s g v) (h0 : g (10 + 2 * k) = 0) (hz : F.Plain.froz (g (1 + k)) = false) (y : Vl) : ∃ s', Run (.a3 ⟨rqU k y, true, false⟩ 104) s 2 (Cw.wrote ⟨rqU k y, true, false⟩) s' ∧ EndO k y s' := by
  obtain ⟨h1, _, h3, h4⟩ := O.open_ hk hz
  have O1 := O.ld (a := 97 + (k : Int)) (by omega) (by omega)
  obtain ⟨n3, m3⟩ := go_a3o (q := ⟨rqU k y, true, false⟩) rfl rfl hk O h1
  rw [if_neg (untold _ true)] at n3
  obtain ⟨q1, q2⟩ := O1.m.cas (i := 1 + k) (by omega) h1 y.w
  rw [← eO] at q1 q2
  refine ⟨(s.load (97 + (k : Int))).cas (97 + (k : Int)) (v k).w y.w, Run.step rfl n3 m3 (Run.step rfl (x' := Cw.wrote ⟨rqU k y, true, false⟩) ?_ ?_ (Run.refl _ _)), ?_, ?_⟩
  · simp only [Cw.next, e_fa' (q := ⟨rqU k y, true, false⟩) (k := k) rfl rfl]
    rw [q1]
    simp
  · simp only [Cw.mem, e_fa' (q := ⟨rqU k y, true, false⟩) (k := k) rfl rfl]
    simp [rqU]
  · have := q2.at_ (10 + 2 * k) (by omega)
    rw [← eP, updN_ne _ _ (by omega), h0] at this
    exact this
  · have := q2.at_ (1 + k) (by omega)
    rw [← eO, updN_at] at this
    exact this
/-- a write alone comes to its end, and where it is then -/
theorem write_runs (hk : k < 3) (O : Ob s g v) (y : Vl) (lo : Bool) : ∃ d s', d ≤ 20 ∧ Run (.hd ⟨rqU k y, lo, false⟩) s d (Cw.wrote ⟨rqU k y, lo, false⟩) s' ∧
    ((lo = true ∧ F.Plain.froz (g (1 + k)) = false ∧ EndO k y s') ∨ ((lo = false ∨ F.Plain.froz (g (1 + k)) = true) ∧ (g (10 + 2 * k) = 3 ∨ g (10 + 2 * k) = 2 ∨ lo = false) ∧ EndF k y s') ∨
      (F.Plain.froz (g (1 + k)) = true ∧ g (10 + 2 * k) ≠ 3 ∧ g (10 + 2 * k) ≠ 2 ∧ lo = true ∧ EndP k y s')) := by
  obtain ⟨n1, m1⟩ := go_hd (q := ⟨rqU k y, lo, false⟩) rfl rfl hk O
  have O1 := O.ld (a := 96) (by decide) (by decide)
  have f := O.fd k hk
  unfold Fg Fd at f
  rcases f with ⟨e, _⟩ | ⟨e, _, _, hz⟩ | ⟨e, _, _, hz⟩ | ⟨e, _, hz⟩
  · obtain ⟨n2, m2⟩ := go_a2 (q := ⟨rqU k y, lo, false⟩) rfl hk O1
    have O2 := O1.ld (a := 106 + 2 * (k : Int)) (by omega) (by omega)
    have n2' : (Cw.a2 ⟨rqU k y, lo, false⟩ 104).next (s.load 96) = .a3 ⟨rqU k y, lo, false⟩ 104 := n2.trans (by rw [e]; simp [Cw.by_])
    rcases hz : F.Plain.froz (g (1 + k)) with _ | _
    · cases lo with
      | true =>
        obtain ⟨s', R, E⟩ := open0 hk O2 e hz y
        exact ⟨2 + 1 + 1, s', by omega, Run.step rfl n1 m1 (Run.step rfl n2' m2 R), .inl ⟨rfl, rfl, E⟩⟩
      | false =>
        obtain ⟨s1, g1, O3, e1, z1, T1⟩ := frz0 hk O2 e hz y
        obtain ⟨s2, g2, O4, e2, T2⟩ := in0 hk O3 e1 z1 ⟨rqU k y, false, false⟩ rfl rfl
        obtain ⟨d, s', hd, R, E⟩ := write1c hk O4 e2 y
        exact ⟨d + 2 + 2 + 1 + 1, s', by omega, Run.step rfl n1 m1 (Run.step rfl n2' m2 (T1 _ _ _ (T2 _ _ _ R))), .inr (.inl ⟨.inl rfl, .inr (.inr rfl), E⟩)⟩
    · cases lo with
      | true =>
        obtain ⟨s2, g2, O4, e2, T2⟩ := in0 hk O2 e hz ⟨rqU k y, true, false⟩ rfl rfl
        obtain ⟨d, s', hd, R, E⟩ := write1l hk O4 e2 y
        exact ⟨d + 2 + 1 + 1, s', by omega, Run.step rfl n1 m1 (Run.step rfl n2' m2 (T2 _ _ _ R)), .inr (.inr ⟨rfl, by omega, by omega, rfl, E⟩)⟩
      | false =>
        obtain ⟨s2, g2, O4, e2, T2⟩ := in0 hk O2 e hz ⟨rqU k y, false, false⟩ rfl rfl
        obtain ⟨d, s', hd, R, E⟩ := write1c hk O4 e2 y
        exact ⟨d + 2 + 1 + 1, s', by omega, Run.step rfl n1 m1 (Run.step rfl n2' m2 (T2 _ _ _ R)), .inr (.inl ⟨.inl rfl, .inr (.inr rfl), E⟩)⟩
  · cases lo with
    | true =>
      obtain ⟨d, s', hd, R, E⟩ := write1l hk O1 e y
      exact ⟨d + 1, s', by omega, Run.step rfl n1 m1 R, .inr (.inr ⟨hz, by omega, by omega, rfl, E⟩)⟩
    | false =>
      obtain ⟨d, s', hd, R, E⟩ := write1c hk O1 e y
      exact ⟨d + 1, s', by omega, Run.step rfl n1 m1 R, .inr (.inl ⟨.inl rfl, .inr (.inr rfl), E⟩)⟩
  · obtain ⟨d, s', hd, R, E⟩ := write2 hk O1 e y lo
    exact ⟨d + 1, s', by omega, Run.step rfl n1 m1 R, .inr (.inl ⟨.inr hz, .inr (.inl e), E⟩)⟩
  · obtain ⟨d, s', hd, R, E⟩ := write3 hk O1 e y lo
    exact ⟨d + 1, s', by omega, Run.step rfl n1 m1 R, .inr (.inl ⟨.inr hz, .inl e, E⟩)⟩
end
end Go.Proofs.YtpcoldpphihfmaaGreatDoor
