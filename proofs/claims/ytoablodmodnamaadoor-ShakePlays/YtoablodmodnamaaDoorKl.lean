/-
  The memories that the laws lay; the roots of a thread.
-/
import Derived.Test.YtoablodmodnamaaDoorKu
import Derived.Test.YtoablodmodnamaaDoorOi
import Derived.Deep.Cut
namespace Go.Proofs.YtoablodmodnamaaDoor
set_option linter.unusedVariables false
set_option linter.unusedSimpArgs false
set_option maxRecDepth 100000
open Go.ChangeShapes Go.WideShapes Go.RowKit
open H.Plain (hw pS pC pN pM pG pT pL mv)

def tagP (lt : Nat) (zt : Nat → Int) (i : Nat) : Bool := decide (i < 8) && (decide (i < lt) && (kd (zt i) 3 == 2))
def tgP (t : Nat → Bool) (i : Nat) : Int := if t i then 2 else 0
def lkP (t : Nat → Bool) (i : Nat) : Int := if t i then 96 + 4 * ((i : Int) + 8) else 0
def hdrW (t : Nat → Bool) (i : Nat) : Int := hw 1 0 3 0 0 (tgP t i) (lkP t i)
def laidO (t : Nat → Bool) : Nat → St
  | 0 => St.new 160
  | i + 1 => (laidO t i).store (96 + 4 * (i : Int)) (hdrW t i)
def laidS (t : Nat → Bool) (al : Int) : St := (laidO t 16).store 9 (IntKind.u64.wrap al)
theorem kd_lt (c n : Int) (h : 0 < n) : 0 ≤ kd c n ∧ kd c n < n := kd_bounds c n h
set_option maxHeartbeats 2000000 in
/-- the two memories -/
theorem cLaid (w : World) (W : H.Wid w) {at_ : Option Addr} {lt ct : Nat} {zt : Nat → Int} (ci : CameI w at_ lt zt) {al : Int} (a0 : -9223372036854775808 ≤ al) (a1 : al ≤ 9223372036854775807) :
    Calls Tryd.prog 7 #[.slice at_ lt ct, .int .i64 al] w fun e w' => ∃ b y, e = .returned (.tuple #[.pointer (some ⟨b, 0, none⟩), .pointer (some ⟨y, 0, none⟩)]) ∧ Two w w' b y (laidS (tagP lt zt) (kd al 1000)) (laidS (tagP lt zt) (kd al 1000)) 34 := by
  obtain ⟨t, ht⟩ : ∃ t, tagP lt zt = t := ⟨_, rfl⟩
  rw [ht]
  obtain ⟨ka, hka⟩ : ∃ ka, kd al 1000 = ka := ⟨_, rfl⟩
  rw [hka]
  unfold laidS
  obtain ⟨u, hu⟩ : ∃ u, IntKind.u64.wrap ka = u := ⟨_, rfl⟩
  have hUu : U64 u := hu ▸ u64_wrap _
  rw [hu]
  go_enter Tryd.func7, Tryd.ntmps7
  go_upto_region 2 with (go_at_call 8; refine (cPlan34 _).mono ?_; rintro e w0 ⟨rfl, hb0⟩)
  have hbp : Below w.heap.size w (w0.alloc (.cells #[.int .i64 3, .int .i64 4, .int .i64 13, .int .i64 32, .int .i64 160] 32)) := hb0.alloc hb0.size _
  have Bp : Blk w (w0.alloc (.cells #[.int .i64 3, .int .i64 4, .int .i64 13, .int .i64 32, .int .i64 160] 32)) w0.heap.size 32 #[.int .i64 3, .int .i64 4, .int .i64 13, .int .i64 32, .int .i64 160] := Blk.new hb0.size _ (by decide)
  generalize w0.alloc (.cells #[.int .i64 3, .int .i64 4, .int .i64 13, .int .i64 32, .int .i64 160] 32) = wp at hbp Bp ⊢
  generalize w0.heap.size = qp at Bp ⊢
  have s4 : wp.cell? ⟨qp, 4, none⟩ = some (.int .i64 160) := Bp.cell 4
  have sl := Bp.lt
  go_upto_region 4 with (first
    | (go_at_call 35; refine (hNew _ 160 (by decide) (by decide) (Below.refl _ _) (W.on hbp)).mono ?_; rintro e w1 ⟨b, rfl, h1⟩; have r4 : w1.cell? ⟨qp, 4, none⟩ = some (.int .i64 160) := (h1.bel.cell sl).trans s4; have rl := Nat.lt_of_lt_of_le sl h1.bel.size)
    | (go_at_call 36; refine (yNew h1 160 (by decide) (by decide)).mono ?_; rintro e w2 ⟨y, rfl, h2'⟩))
  have h2 := h2'.lift hbp W
  clear s4 sl r4 rl Bp hbp h2' h1
  go_wp2_with (fail)
  go_loopw [12] (fun i wr => ∃ j : Nat, j ≤ 16 ∧ i = .int .i64 j ∧ Two w wr b y (laidO t j) (laidO t j) (2 * j)) (fun i _ => 16 - (intOf i).toNat)
  case atStart => exact ⟨0, Nat.zero_le _, rfl, h2⟩
  case round =>
    obtain ⟨j, hj, rfl, q1⟩ := hrel
    clear h2
    by_cases hj8 : j < 16
    case pos =>
      have hj16 : (j : Int) < 16 := by omega
      obtain ⟨a, ha⟩ : ∃ a : Int, 96 + 4 * (j : Int) = a := ⟨_, rfl⟩
      by_cases hA : j < 8
      · by_cases hB : j < lt
        · by_cases hC : kd (zt j) 3 = 2
          · have htj : t j = true := by rw [← ht, tagP]; simp [hA, hB, hC]
            obtain ⟨vt, off', rfl, hvt, hzt⟩ : ∃ b off, at_ = some ⟨b, off, none⟩ ∧ b < wr.heap.size ∧ ∀ j, j < lt → wr.cell? ⟨b, off + j, none⟩ = some (.int .i64 (zt j)) ∧ -9223372036854775808 ≤ zt j ∧ zt j ≤ 9223372036854775807 := (ci.on q1.bel).resolve_left (by omega)
            obtain ⟨dt, k0, k1⟩ := hzt j hB
            obtain ⟨zj, hzj⟩ : ∃ zj, zt j = zj := ⟨_, rfl⟩
            rw [hzj] at dt k0 k1 hC
            obtain ⟨kk, hkk⟩ : ∃ kk, kd zj 3 = kk := ⟨_, rfl⟩
            rw [hkk] at hC
            have hA' : (j : Int) < 8 := by omega
            have hB' : (j : Int) < (lt : Int) := by omega
            clear hzt hzj
            have hC' : (kk == 2) = true := by simpa using hC
            clear hC
            obtain ⟨lk, hlk⟩ : ∃ lk : Int, 96 + 4 * ((j : Int) + 8) = lk := ⟨_, rfl⟩
            have hdw : hdrW t j = hw 1 0 3 0 0 2 lk := by rw [hdrW, tgP, lkP, htj, ← hlk]; rfl
            clear ht
            go_upto_region 13 with (go_at_call 12; refine (cKind _ zj 3 k0 k1 (by decide)).mono ?_; rintro e wk ⟨rfl, hwk⟩; rw [hwk, hkk]; clear hwk wk)
            have q2 := q1.alloc (.cells #[.int .i64 1, .int .i64 0, .int .i64 3, .int .i64 0, .int .i64 0, .int .i64 2, .int .i64 lk] 74)
            have B2 : Blk w (wr.alloc (.cells #[.int .i64 1, .int .i64 0, .int .i64 3, .int .i64 0, .int .i64 0, .int .i64 2, .int .i64 lk] 74)) wr.heap.size 74 #[.int .i64 1, .int .i64 0, .int .i64 3, .int .i64 0, .int .i64 0, .int .i64 2, .int .i64 lk] := Blk.new q1.bel.size _ (by decide)
            generalize wr.alloc (.cells #[.int .i64 1, .int .i64 0, .int .i64 3, .int .i64 0, .int .i64 0, .int .i64 2, .int .i64 lk] 74) = w2' at q2 B2 ⊢
            generalize wr.heap.size = hb at B2 ⊢
            have c0 : w2'.cell? ⟨hb, 0, none⟩ = some (.int .i64 1) := B2.cell 0
            have c1 : w2'.cell? ⟨hb, 1, none⟩ = some (.int .i64 0) := B2.cell 1
            have c2 : w2'.cell? ⟨hb, 2, none⟩ = some (.int .i64 3) := B2.cell 2
            have c3 : w2'.cell? ⟨hb, 3, none⟩ = some (.int .i64 0) := B2.cell 3
            have c4 : w2'.cell? ⟨hb, 4, none⟩ = some (.int .i64 0) := B2.cell 4
            have c5 : w2'.cell? ⟨hb, 5, none⟩ = some (.int .i64 2) := B2.cell 5
            have c6 : w2'.cell? ⟨hb, 6, none⟩ = some (.int .i64 lk) := B2.cell 6
            have cl := B2.lt
            have hU := u64_hw 1 0 3 0 0 2 lk
            obtain ⟨wd, hwd⟩ : ∃ wd, hw 1 0 3 0 0 2 lk = wd := ⟨_, rfl⟩
            rw [hwd] at hU
            have hwe := hwd
            rw [hwd] at hdw
            go_wp2_with (first
              | (have hh := q4; go_at_call 38; refine (H.rWord _ _ _ _ _ _ _ _).mono ?_; rintro e w5 ⟨rfl, hw5⟩; rw [hwe]; have hb5 : Below w4.heap.size w4 w5 := (by rw [hw5]; go_grown); have q5 := q4.below hb5; clear hw5)
              | (go_at_call 38; refine (H.rWord _ _ _ _ _ _ _ _).mono ?_; rintro e w3 ⟨rfl, hw3⟩; rw [hwe]; have hb3 : Below w2'.heap.size w2' w3 := (by rw [hw3]; go_grown); have q3 := q2.below hb3; have B3 := B2.below hb3; clear hw3)
              | (go_at_call 37; refine (tStore q3 (by omega) a hU).mono ?_; rintro e w4 ⟨rfl, q4, o4⟩; have B4 := B3.oth o4 (by simp); have x0 : w4.cell? ⟨hb, 0, none⟩ = some (.int .i64 1) := B4.cell 0; have x1 : w4.cell? ⟨hb, 1, none⟩ = some (.int .i64 0) := B4.cell 1; have x2 : w4.cell? ⟨hb, 2, none⟩ = some (.int .i64 3) := B4.cell 2; have x3 : w4.cell? ⟨hb, 3, none⟩ = some (.int .i64 0) := B4.cell 3; have x4 : w4.cell? ⟨hb, 4, none⟩ = some (.int .i64 0) := B4.cell 4; have x5 : w4.cell? ⟨hb, 5, none⟩ = some (.int .i64 2) := B4.cell 5; have x6 : w4.cell? ⟨hb, 6, none⟩ = some (.int .i64 lk) := B4.cell 6; have xl := B4.lt)
              | (go_at_call 39; refine (yStore q5 (by omega) a hU).mono ?_; rintro e w6 ⟨rfl, q6, _⟩))
            go_roundw
            case rel => exact ⟨j + 1, by omega, by go_num, by rw [show 2 * (j + 1) = 2 * j + 1 + 1 by omega]; simp only [laidO, hdw, ha]; exact q6⟩
            case measure => simp [intOf]; omega
          · have htj : t j = false := by rw [← ht, tagP]; simp [hA, hB]; exact hC
            obtain ⟨vt, off', rfl, hvt, hzt⟩ : ∃ b off, at_ = some ⟨b, off, none⟩ ∧ b < wr.heap.size ∧ ∀ j, j < lt → wr.cell? ⟨b, off + j, none⟩ = some (.int .i64 (zt j)) ∧ -9223372036854775808 ≤ zt j ∧ zt j ≤ 9223372036854775807 := (ci.on q1.bel).resolve_left (by omega)
            obtain ⟨dt, k0, k1⟩ := hzt j hB
            obtain ⟨zj, hzj⟩ : ∃ zj, zt j = zj := ⟨_, rfl⟩
            rw [hzj] at dt k0 k1 hC
            obtain ⟨kk, hkk⟩ : ∃ kk, kd zj 3 = kk := ⟨_, rfl⟩
            rw [hkk] at hC
            have hA' : (j : Int) < 8 := by omega
            have hB' : (j : Int) < (lt : Int) := by omega
            clear hzt hzj
            have hC' : (kk == 2) = false := by simpa using hC
            clear hC
            have hdw : hdrW t j = hw 1 0 3 0 0 0 0 := by rw [hdrW, tgP, lkP, htj]; rfl
            clear ht
            go_upto_region 13 with (go_at_call 12; refine (cKind _ zj 3 k0 k1 (by decide)).mono ?_; rintro e wk ⟨rfl, hwk⟩; rw [hwk, hkk]; clear hwk wk)
            have q2 := q1.alloc (.cells #[.int .i64 1, .int .i64 0, .int .i64 3, .int .i64 0, .int .i64 0, .int .i64 0, .int .i64 0] 74)
            have B2 : Blk w (wr.alloc (.cells #[.int .i64 1, .int .i64 0, .int .i64 3, .int .i64 0, .int .i64 0, .int .i64 0, .int .i64 0] 74)) wr.heap.size 74 #[.int .i64 1, .int .i64 0, .int .i64 3, .int .i64 0, .int .i64 0, .int .i64 0, .int .i64 0] := Blk.new q1.bel.size _ (by decide)
            generalize wr.alloc (.cells #[.int .i64 1, .int .i64 0, .int .i64 3, .int .i64 0, .int .i64 0, .int .i64 0, .int .i64 0] 74) = w2' at q2 B2 ⊢
            generalize wr.heap.size = hb at B2 ⊢
            have c0 : w2'.cell? ⟨hb, 0, none⟩ = some (.int .i64 1) := B2.cell 0
            have c1 : w2'.cell? ⟨hb, 1, none⟩ = some (.int .i64 0) := B2.cell 1
            have c2 : w2'.cell? ⟨hb, 2, none⟩ = some (.int .i64 3) := B2.cell 2
            have c3 : w2'.cell? ⟨hb, 3, none⟩ = some (.int .i64 0) := B2.cell 3
            have c4 : w2'.cell? ⟨hb, 4, none⟩ = some (.int .i64 0) := B2.cell 4
            have c5 : w2'.cell? ⟨hb, 5, none⟩ = some (.int .i64 0) := B2.cell 5
            have c6 : w2'.cell? ⟨hb, 6, none⟩ = some (.int .i64 0) := B2.cell 6
            have cl := B2.lt
            have hU := u64_hw 1 0 3 0 0 0 0
            obtain ⟨wd, hwd⟩ : ∃ wd, hw 1 0 3 0 0 0 0 = wd := ⟨_, rfl⟩
            rw [hwd] at hU
            have hwe := hwd
            rw [hwd] at hdw
            go_wp2_with (first
              | (have hh := q4; go_at_call 38; refine (H.rWord _ _ _ _ _ _ _ _).mono ?_; rintro e w5 ⟨rfl, hw5⟩; rw [hwe]; have hb5 : Below w4.heap.size w4 w5 := (by rw [hw5]; go_grown); have q5 := q4.below hb5; clear hw5)
              | (go_at_call 38; refine (H.rWord _ _ _ _ _ _ _ _).mono ?_; rintro e w3 ⟨rfl, hw3⟩; rw [hwe]; have hb3 : Below w2'.heap.size w2' w3 := (by rw [hw3]; go_grown); have q3 := q2.below hb3; have B3 := B2.below hb3; clear hw3)
              | (go_at_call 37; refine (tStore q3 (by omega) a hU).mono ?_; rintro e w4 ⟨rfl, q4, o4⟩; have B4 := B3.oth o4 (by simp); have x0 : w4.cell? ⟨hb, 0, none⟩ = some (.int .i64 1) := B4.cell 0; have x1 : w4.cell? ⟨hb, 1, none⟩ = some (.int .i64 0) := B4.cell 1; have x2 : w4.cell? ⟨hb, 2, none⟩ = some (.int .i64 3) := B4.cell 2; have x3 : w4.cell? ⟨hb, 3, none⟩ = some (.int .i64 0) := B4.cell 3; have x4 : w4.cell? ⟨hb, 4, none⟩ = some (.int .i64 0) := B4.cell 4; have x5 : w4.cell? ⟨hb, 5, none⟩ = some (.int .i64 0) := B4.cell 5; have x6 : w4.cell? ⟨hb, 6, none⟩ = some (.int .i64 0) := B4.cell 6; have xl := B4.lt)
              | (go_at_call 39; refine (yStore q5 (by omega) a hU).mono ?_; rintro e w6 ⟨rfl, q6, _⟩))
            go_roundw
            case rel => exact ⟨j + 1, by omega, by go_num, by rw [show 2 * (j + 1) = 2 * j + 1 + 1 by omega]; simp only [laidO, hdw, ha]; exact q6⟩
            case measure => simp [intOf]; omega
        · have htj : t j = false := by rw [← ht, tagP]; simp [hA, hB]
          have hA' : (j : Int) < 8 := by omega
          have hB' : decide ((j : Int) < (lt : Int)) = false := by simp; omega
          have hdw : hdrW t j = hw 1 0 3 0 0 0 0 := by rw [hdrW, tgP, lkP, htj]; rfl
          clear ht
          go_upto_region 13 with (fail)
          have q2 := q1.alloc (.cells #[.int .i64 1, .int .i64 0, .int .i64 3, .int .i64 0, .int .i64 0, .int .i64 0, .int .i64 0] 74)
          have B2 : Blk w (wr.alloc (.cells #[.int .i64 1, .int .i64 0, .int .i64 3, .int .i64 0, .int .i64 0, .int .i64 0, .int .i64 0] 74)) wr.heap.size 74 #[.int .i64 1, .int .i64 0, .int .i64 3, .int .i64 0, .int .i64 0, .int .i64 0, .int .i64 0] := Blk.new q1.bel.size _ (by decide)
          generalize wr.alloc (.cells #[.int .i64 1, .int .i64 0, .int .i64 3, .int .i64 0, .int .i64 0, .int .i64 0, .int .i64 0] 74) = w2' at q2 B2 ⊢
          generalize wr.heap.size = hb at B2 ⊢
          have c0 : w2'.cell? ⟨hb, 0, none⟩ = some (.int .i64 1) := B2.cell 0
          have c1 : w2'.cell? ⟨hb, 1, none⟩ = some (.int .i64 0) := B2.cell 1
          have c2 : w2'.cell? ⟨hb, 2, none⟩ = some (.int .i64 3) := B2.cell 2
          have c3 : w2'.cell? ⟨hb, 3, none⟩ = some (.int .i64 0) := B2.cell 3
          have c4 : w2'.cell? ⟨hb, 4, none⟩ = some (.int .i64 0) := B2.cell 4
          have c5 : w2'.cell? ⟨hb, 5, none⟩ = some (.int .i64 0) := B2.cell 5
          have c6 : w2'.cell? ⟨hb, 6, none⟩ = some (.int .i64 0) := B2.cell 6
          have cl := B2.lt
          have hU := u64_hw 1 0 3 0 0 0 0
          obtain ⟨wd, hwd⟩ : ∃ wd, hw 1 0 3 0 0 0 0 = wd := ⟨_, rfl⟩
          rw [hwd] at hU
          have hwe := hwd
          rw [hwd] at hdw
          go_wp2_with (first
            | (have hh := q4; go_at_call 38; refine (H.rWord _ _ _ _ _ _ _ _).mono ?_; rintro e w5 ⟨rfl, hw5⟩; rw [hwe]; have hb5 : Below w4.heap.size w4 w5 := (by rw [hw5]; go_grown); have q5 := q4.below hb5; clear hw5)
            | (go_at_call 38; refine (H.rWord _ _ _ _ _ _ _ _).mono ?_; rintro e w3 ⟨rfl, hw3⟩; rw [hwe]; have hb3 : Below w2'.heap.size w2' w3 := (by rw [hw3]; go_grown); have q3 := q2.below hb3; have B3 := B2.below hb3; clear hw3)
            | (go_at_call 37; refine (tStore q3 (by omega) a hU).mono ?_; rintro e w4 ⟨rfl, q4, o4⟩; have B4 := B3.oth o4 (by simp); have x0 : w4.cell? ⟨hb, 0, none⟩ = some (.int .i64 1) := B4.cell 0; have x1 : w4.cell? ⟨hb, 1, none⟩ = some (.int .i64 0) := B4.cell 1; have x2 : w4.cell? ⟨hb, 2, none⟩ = some (.int .i64 3) := B4.cell 2; have x3 : w4.cell? ⟨hb, 3, none⟩ = some (.int .i64 0) := B4.cell 3; have x4 : w4.cell? ⟨hb, 4, none⟩ = some (.int .i64 0) := B4.cell 4; have x5 : w4.cell? ⟨hb, 5, none⟩ = some (.int .i64 0) := B4.cell 5; have x6 : w4.cell? ⟨hb, 6, none⟩ = some (.int .i64 0) := B4.cell 6; have xl := B4.lt)
            | (go_at_call 39; refine (yStore q5 (by omega) a hU).mono ?_; rintro e w6 ⟨rfl, q6, _⟩))
          go_roundw
          case rel => exact ⟨j + 1, by omega, by go_num, by rw [show 2 * (j + 1) = 2 * j + 1 + 1 by omega]; simp only [laidO, hdw, ha]; exact q6⟩
          case measure => simp [intOf]; omega
      · have htj : t j = false := by rw [← ht, tagP]; simp [hA]
        have hA' : decide ((j : Int) < 8) = false := by simp; omega
        have hdw : hdrW t j = hw 1 0 3 0 0 0 0 := by rw [hdrW, tgP, lkP, htj]; rfl
        clear ht
        go_upto_region 13 with (fail)
        have q2 := q1.alloc (.cells #[.int .i64 1, .int .i64 0, .int .i64 3, .int .i64 0, .int .i64 0, .int .i64 0, .int .i64 0] 74)
        have B2 : Blk w (wr.alloc (.cells #[.int .i64 1, .int .i64 0, .int .i64 3, .int .i64 0, .int .i64 0, .int .i64 0, .int .i64 0] 74)) wr.heap.size 74 #[.int .i64 1, .int .i64 0, .int .i64 3, .int .i64 0, .int .i64 0, .int .i64 0, .int .i64 0] := Blk.new q1.bel.size _ (by decide)
        generalize wr.alloc (.cells #[.int .i64 1, .int .i64 0, .int .i64 3, .int .i64 0, .int .i64 0, .int .i64 0, .int .i64 0] 74) = w2' at q2 B2 ⊢
        generalize wr.heap.size = hb at B2 ⊢
        have c0 : w2'.cell? ⟨hb, 0, none⟩ = some (.int .i64 1) := B2.cell 0
        have c1 : w2'.cell? ⟨hb, 1, none⟩ = some (.int .i64 0) := B2.cell 1
        have c2 : w2'.cell? ⟨hb, 2, none⟩ = some (.int .i64 3) := B2.cell 2
        have c3 : w2'.cell? ⟨hb, 3, none⟩ = some (.int .i64 0) := B2.cell 3
        have c4 : w2'.cell? ⟨hb, 4, none⟩ = some (.int .i64 0) := B2.cell 4
        have c5 : w2'.cell? ⟨hb, 5, none⟩ = some (.int .i64 0) := B2.cell 5
        have c6 : w2'.cell? ⟨hb, 6, none⟩ = some (.int .i64 0) := B2.cell 6
        have cl := B2.lt
        have hU := u64_hw 1 0 3 0 0 0 0
        obtain ⟨wd, hwd⟩ : ∃ wd, hw 1 0 3 0 0 0 0 = wd := ⟨_, rfl⟩
        rw [hwd] at hU
        have hwe := hwd
        rw [hwd] at hdw
        go_wp2_with (first
          | (have hh := q4; go_at_call 38; refine (H.rWord _ _ _ _ _ _ _ _).mono ?_; rintro e w5 ⟨rfl, hw5⟩; rw [hwe]; have hb5 : Below w4.heap.size w4 w5 := (by rw [hw5]; go_grown); have q5 := q4.below hb5; clear hw5)
          | (go_at_call 38; refine (H.rWord _ _ _ _ _ _ _ _).mono ?_; rintro e w3 ⟨rfl, hw3⟩; rw [hwe]; have hb3 : Below w2'.heap.size w2' w3 := (by rw [hw3]; go_grown); have q3 := q2.below hb3; have B3 := B2.below hb3; clear hw3)
          | (go_at_call 37; refine (tStore q3 (by omega) a hU).mono ?_; rintro e w4 ⟨rfl, q4, o4⟩; have B4 := B3.oth o4 (by simp); have x0 : w4.cell? ⟨hb, 0, none⟩ = some (.int .i64 1) := B4.cell 0; have x1 : w4.cell? ⟨hb, 1, none⟩ = some (.int .i64 0) := B4.cell 1; have x2 : w4.cell? ⟨hb, 2, none⟩ = some (.int .i64 3) := B4.cell 2; have x3 : w4.cell? ⟨hb, 3, none⟩ = some (.int .i64 0) := B4.cell 3; have x4 : w4.cell? ⟨hb, 4, none⟩ = some (.int .i64 0) := B4.cell 4; have x5 : w4.cell? ⟨hb, 5, none⟩ = some (.int .i64 0) := B4.cell 5; have x6 : w4.cell? ⟨hb, 6, none⟩ = some (.int .i64 0) := B4.cell 6; have xl := B4.lt)
          | (go_at_call 39; refine (yStore q5 (by omega) a hU).mono ?_; rintro e w6 ⟨rfl, q6, _⟩))
        go_roundw
        case rel => exact ⟨j + 1, by omega, by go_num, by rw [show 2 * (j + 1) = 2 * j + 1 + 1 by omega]; simp only [laidO, hdw, ha]; exact q6⟩
        case measure => simp [intOf]; omega
    case neg =>
      obtain rfl : j = 16 := by omega
      have ha0 : -9223372036854775808 ≤ al := a0
      go_wp2_with (first
        | (go_at_call 12; refine (cKind _ al 1000 a0 a1 (by decide)).mono ?_; rintro e wk ⟨rfl, hwk⟩; rw [hwk, hka]; clear hwk wk)
        | (go_at_call 37; refine (tStore q1 (by omega) 9 hUu).mono ?_; rintro e w8 ⟨rfl, q8, _⟩)
        | (go_at_call 39; refine (yStore q8 (by omega) 9 hUu).mono ?_; rintro e w9 ⟨rfl, q9, _⟩))
      go_ret2
      exact ⟨b, y, rfl, q9⟩
end Go.Proofs.YtoablodmodnamaaDoor
