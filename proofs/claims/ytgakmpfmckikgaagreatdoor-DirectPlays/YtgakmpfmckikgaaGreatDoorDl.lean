/-
  The memories that the laws lay: sixteen objects of three fields, some of them moved.
-/
import Derived.Test.YtgakmpfmckikgaaGreatDoorD2
import Derived.Test.YtgakmpfmckikgaaGreatDoorDv
import Derived.Deep.Cut
namespace Go.Proofs.YtgakmpfmckikgaaGreatDoor
set_option linter.unusedVariables false
set_option maxRecDepth 100000
open Go.ChangeShapes Go.WideShapes Go.RowKit
open H.Plain (hw pS pC pN pM pG pT pL mv)

def tagP (lt : Nat) (zt : Nat → Int) (i : Nat) : Bool := decide (i < 8) && (decide (i < lt) && (kd (zt i) 3 == 2))
def fldP (ll : Nat) (zl : Nat → Vl) (j : Nat) : Vl := if j < ll then valP (zl j) else Vl.zero
def tgP (t : Nat → Bool) (i : Nat) : Int := if t i then 2 else 0
def lkP (t : Nat → Bool) (i : Nat) : Int := if t i then 96 + 4 * ((i : Int) + 8) else 0
def hdrW (t : Nat → Bool) (i : Nat) : Int := hw 1 0 3 0 0 (tgP t i) (lkP t i)
def laidF (s : St) (t : Nat → Bool) (l : Nat → Vl) (i : Nat) : Nat → St
  | 0 => s.store (96 + 4 * (i : Int)) (hdrW t i)
  | f + 1 => (laidF s t l i f).store (97 + 4 * (i : Int) + (f : Int)) (F.Plain.word (l (3 * i + f)).k (l (3 * i + f)).n)
def laidO (t : Nat → Bool) (l : Nat → Vl) : Nat → St
  | 0 => St.new 160
  | i + 1 => laidF (laidO t l i) t l i 3
section
set_option maxHeartbeats 2000000
/-- the two memories -/
theorem cLaid (w : World) (W : H.Wid w) {at_ av : Option Addr} {lt ll ct cv' : Nat} {zt : Nat → Int} {zl : Nat → Vl} (ci : CameI w at_ lt zt) (cv : CameV w av ll zl) :
    Calls Tryz.prog 5 #[.slice at_ lt ct, .slice av ll cv'] w fun e w' => ∃ b y, e = .returned (.tuple #[.pointer (some ⟨b, 0, none⟩), .pointer (some ⟨y, 0, none⟩)]) ∧ Two w w' b y (laidO (tagP lt zt) (fldP ll zl) 16) (laidO (tagP lt zt) (fldP ll zl) 16) 128 := by
  obtain ⟨t, ht⟩ : ∃ t, tagP lt zt = t := ⟨_, rfl⟩
  obtain ⟨l, hl⟩ : ∃ l, fldP ll zl = l := ⟨_, rfl⟩
  rw [ht, hl]
  go_enter Tryz.func5, Tryz.ntmps5
  go_wp2_with (first
    | (go_at_call 20; refine (hNew _ 160 (by decide) (by decide) (Below.refl _ _) W).mono ?_; rintro e w1 ⟨b, rfl, h1⟩)
    | (go_at_call 21; refine (yNew h1 160 (by decide) (by decide)).mono ?_; rintro e w2 ⟨y, rfl, h2⟩))
  go_loopw [10] (fun i wr => ∃ j : Nat, j ≤ 16 ∧ i = .int .i64 j ∧ Two w wr b y (laidO t l j) (laidO t l j) (8 * j)) (fun i _ => 16 - (intOf i).toNat)
  case atStart => exact ⟨0, Nat.zero_le _, rfl, h2⟩
  case round =>
    obtain ⟨j, hj, rfl, q1⟩ := hrel
    by_cases hj8 : j < 16
    case pos =>
      by_cases hA : j < 8
      · by_cases hB : j < lt
        · by_cases hC : kd (zt j) 3 = 2
          · skip
            have htj : t j = true := by rw [← ht, tagP]; simp [hA, hB, hC]
            have ci1 := ci.on q1.bel
            obtain ⟨vt, off', rfl, hvt, hzt⟩ : ∃ b off, at_ = some ⟨b, off, none⟩ ∧ b < wr.heap.size ∧ ∀ j, j < lt → wr.cell? ⟨b, off + j, none⟩ = some (.int .i64 (zt j)) ∧ -9223372036854775808 ≤ zt j ∧ zt j ≤ 9223372036854775807 := ci1.resolve_left (by omega)
            obtain ⟨dt, k0, k1⟩ := hzt j hB
            obtain ⟨zj, hzj⟩ : ∃ zj, zt j = zj := ⟨_, rfl⟩
            rw [hzj] at dt k0 k1 hC
            obtain ⟨kk, hkk⟩ : ∃ kk, kd zj 3 = kk := ⟨_, rfl⟩
            rw [hkk] at hC
            have hA' : (j : Int) < 8 := by omega
            have hB' : (j : Int) < (lt : Int) := by omega
            have hC' : (kk == 2) = true := by simpa using hC
            obtain ⟨lk, hlk⟩ : ∃ lk : Int, 96 + 4 * ((j : Int) + 8) = lk := ⟨_, rfl⟩
            have hdw : hdrW t j = hw 1 0 3 0 0 2 lk := by rw [hdrW, tgP, lkP, htj, ← hlk]; rfl
            obtain ⟨a, ha⟩ : ∃ a : Int, 96 + 4 * (j : Int) = a := ⟨_, rfl⟩
            go_upto_region 10 with (go_at_call 6; refine (cKind _ zj 3 k0 k1 (by decide)).mono ?_; rintro e wk ⟨rfl, hwk⟩; rw [hwk, hkk]; clear hwk wk)
            have q2 := q1.alloc (.cells #[.int .i64 1, .int .i64 0, .int .i64 3, .int .i64 0, .int .i64 0, .int .i64 2, .int .i64 lk] 71)
            have B2 : Blk w (wr.alloc (.cells #[.int .i64 1, .int .i64 0, .int .i64 3, .int .i64 0, .int .i64 0, .int .i64 2, .int .i64 lk] 71)) wr.heap.size 71 #[.int .i64 1, .int .i64 0, .int .i64 3, .int .i64 0, .int .i64 0, .int .i64 2, .int .i64 lk] := Blk.new q1.bel.size _ (by decide)
            generalize wr.alloc (.cells #[.int .i64 1, .int .i64 0, .int .i64 3, .int .i64 0, .int .i64 0, .int .i64 2, .int .i64 lk] 71) = w2' at q2 B2 ⊢
            generalize wr.heap.size = hb at B2 ⊢
            have c0 : w2'.cell? ⟨hb, 0, none⟩ = some (.int .i64 1) := B2.cell 0
            have c1 : w2'.cell? ⟨hb, 1, none⟩ = some (.int .i64 0) := B2.cell 1
            have c2 : w2'.cell? ⟨hb, 2, none⟩ = some (.int .i64 3) := B2.cell 2
            have c3 : w2'.cell? ⟨hb, 3, none⟩ = some (.int .i64 0) := B2.cell 3
            have c4 : w2'.cell? ⟨hb, 4, none⟩ = some (.int .i64 0) := B2.cell 4
            have c5 : w2'.cell? ⟨hb, 5, none⟩ = some (.int .i64 2) := B2.cell 5
            have c6 : w2'.cell? ⟨hb, 6, none⟩ = some (.int .i64 lk) := B2.cell 6
            have cl := B2.lt
            have hU := u64_hw 1 0 3 0 0 2 lk
            obtain ⟨wd, hwd⟩ : ∃ wd, hw 1 0 3 0 0 2 lk = wd := ⟨_, rfl⟩
            rw [hwd] at hU
            have hwe := hwd
            rw [hwd] at hdw
            go_upto_region 12 with (first
              | (have hh := q4; go_at_call 23; refine (H.rWord _ _ _ _ _ _ _ _).mono ?_; rintro e w5 ⟨rfl, hw5⟩; rw [hwe]; have hb5 : Below w4.heap.size w4 w5 := (by rw [hw5]; go_grown); have q5 := q4.below hb5; clear hw5)
              | (go_at_call 23; refine (H.rWord _ _ _ _ _ _ _ _).mono ?_; rintro e w3 ⟨rfl, hw3⟩; rw [hwe]; have hb3 : Below w2'.heap.size w2' w3 := (by rw [hw3]; go_grown); have q3 := q2.below hb3; have B3 := B2.below hb3; clear hw3)
              | (go_at_call 22; refine (tStore q3 (by omega) a hU).mono ?_; rintro e w4 ⟨rfl, q4, o4⟩; have B4 := B3.oth o4 (by simp); have x0 : w4.cell? ⟨hb, 0, none⟩ = some (.int .i64 1) := B4.cell 0; have x1 : w4.cell? ⟨hb, 1, none⟩ = some (.int .i64 0) := B4.cell 1; have x2 : w4.cell? ⟨hb, 2, none⟩ = some (.int .i64 3) := B4.cell 2; have x3 : w4.cell? ⟨hb, 3, none⟩ = some (.int .i64 0) := B4.cell 3; have x4 : w4.cell? ⟨hb, 4, none⟩ = some (.int .i64 0) := B4.cell 4; have x5 : w4.cell? ⟨hb, 5, none⟩ = some (.int .i64 2) := B4.cell 5; have x6 : w4.cell? ⟨hb, 6, none⟩ = some (.int .i64 lk) := B4.cell 6; have xl := B4.lt)
              | (go_at_call 24; refine (yStore q5 (by omega) a hU).mono ?_; rintro e w6 ⟨rfl, q6, _⟩))
            go_wp2
            go_loopw [12] (fun f wr => ∃ g : Nat, g ≤ 3 ∧ f = .int .i64 g ∧ Two w wr b y (laidF (laidO t l j) t l j g) (laidF (laidO t l j) t l j g) (8 * j + 2 + 2 * g)) (fun f _ => 3 - (intOf f).toNat)
            case atStart => exact ⟨0, Nat.zero_le _, rfl, (by simp only [laidF, hdw, ha]; exact q6.mono (by omega))⟩
            case round =>
              obtain ⟨g, hg, rfl, p1⟩ := hrel
              by_cases hg3 : g < 3
              case pos =>
                have cv1 := cv.on p1.bel
                obtain ⟨a2, ha2⟩ : ∃ a2 : Int, 97 + 4 * (j : Int) + (g : Int) = a2 := ⟨_, rfl⟩
                by_cases hin : 3 * j + g < ll
                · obtain ⟨vb, off, rfl, hvb, hz⟩ : ∃ b off, av = some ⟨b, off, none⟩ ∧ b < wr.heap.size ∧ ∀ j, j < ll → wr.cell? ⟨b, off + j * 2, none⟩ = some (.int .i64 (zl j).k) ∧ wr.cell? ⟨b, off + (j * 2 + 1), none⟩ = some (.int .i64 (zl j).n) ∧ (zl j).Fit := (cv1.resolve_left (by omega))
                  obtain ⟨d0, d1, df⟩ := hz (3 * j + g) hin
                  obtain ⟨qv, hqv⟩ : ∃ qv, zl (3 * j + g) = qv := ⟨_, rfl⟩
                  obtain ⟨ix, hix⟩ : ∃ ix, 3 * j + g = ix := ⟨_, rfl⟩
                  rw [hqv] at d0 d1 df
                  have hl1 : l (3 * j + g) = valP qv := by rw [← hl, fldP, if_pos hin, hqv]
                  obtain ⟨lx, hlx⟩ : ∃ lx, l (3 * j + g) = lx := ⟨_, rfl⟩
                  rw [hlx] at hl1
                  obtain ⟨u, hu⟩ : ∃ u, valP qv = u := ⟨_, rfl⟩
                  rw [hu] at hl1
                  rw [hl1] at hlx
                  clear hl1
                  rw [hix] at d0 d1 hin
                  have hixi : 3 * (j : Int) + (g : Int) = (ix : Int) := by omega
                  have hini : (ix : Int) < (ll : Int) := by omega
                  rw [← Nat.add_assoc] at d1
                  clear hix hz hqv
                  go_upto_region 18 with (go_at_call 25; refine (cVal qv df _).mono ?_; rintro e w7 ⟨rfl, hb7⟩; rw [hu]; have p7 := (p1.alloc (.cells #[.int .i64 0, .int .i64 0] 45)).below hb7; have B7 : Blk w w7 wr.heap.size 45 #[.int .i64 0, .int .i64 0] := (Blk.new p1.bel.size _ (by decide)).below hb7; have e0 : w7.cell? ⟨wr.heap.size, 0, none⟩ = some (.int .i64 0) := B7.cell 0; have e1 : w7.cell? ⟨wr.heap.size, 1, none⟩ = some (.int .i64 0) := B7.cell 1; have f0 := B7.free 0; have f1 := B7.free 1)
                  have B8 : Blk w ((w7.setCell ⟨wr.heap.size, 0, none⟩ (.int .i64 u.k)).setCell ⟨wr.heap.size, 1, none⟩ (.int .i64 u.n)) wr.heap.size 45 #[.int .i64 u.k, .int .i64 u.n] := (B7.set 0 _).set 1 _
                  have p8 := (p7.set B7 0 (.int .i64 u.k)).set (B7.set 0 (.int .i64 u.k)) 1 (.int .i64 u.n)
                  clear e0 e1 f0 f1
                  generalize (w7.setCell ⟨wr.heap.size, 0, none⟩ (.int .i64 u.k)).setCell ⟨wr.heap.size, 1, none⟩ (.int .i64 u.n) = w8 at B8 p8 ⊢
                  generalize wr.heap.size = hv8 at B8 ⊢
                  have x0 : w8.cell? ⟨hv8, 0, none⟩ = some (.int .i64 u.k) := B8.cell 0
                  have x1 : w8.cell? ⟨hv8, 1, none⟩ = some (.int .i64 u.n) := B8.cell 1
                  have xl := B8.lt
                  have hU2 := u64_word u.k u.n
                  obtain ⟨wd2, hwd2⟩ : ∃ wd2, F.Plain.word u.k u.n = wd2 := ⟨_, rfl⟩
                  rw [hwd2] at hU2
                  go_wp2_with (first
                    | (have hh := p11; go_at_call 26; refine (F.rWord u.k u.n _).mono ?_; rintro e w12 ⟨rfl, m12, hw12⟩; rw [hwd2]; have hb12 : Below w11.heap.size w11 w12 := (by rw [hw12]; exact F.bdr ((Below.refl _ _).alloc (Nat.le_refl _) _) _); have p12 := p11.below hb12; clear hw12)
                    | (go_at_call 26; refine (F.rWord u.k u.n _).mono ?_; rintro e w10 ⟨rfl, m10, hw10⟩; rw [hwd2]; have hb10 : Below w8.heap.size w8 w10 := (by rw [hw10]; exact F.bdr ((Below.refl _ _).alloc (Nat.le_refl _) _) _); have p10 := p8.below hb10; have B10 := B8.below hb10; clear hw10)
                    | (go_at_call 22; refine (tStore p10 (by omega) a2 hU2).mono ?_; rintro e w11 ⟨rfl, p11, o11⟩; have B11 := B10.oth o11 (by simp); have y0 : w11.cell? ⟨hv8, 0, none⟩ = some (.int .i64 u.k) := B11.cell 0; have y1 : w11.cell? ⟨hv8, 1, none⟩ = some (.int .i64 u.n) := B11.cell 1; have yl := B11.lt)
                    | (go_at_call 24; refine (yStore p12 (by omega) a2 hU2).mono ?_; rintro e w13 ⟨rfl, p13, _⟩))
                  go_roundw
                  case rel => exact ⟨g + 1, by omega, by go_num, (by rw [← hwd2, ← ha2] at p13; simp only [laidF, hlx]; exact p13.mono (by omega))⟩
                  case measure => simp [intOf]; omega
                · have hlx : l (3 * j + g) = Vl.zero := by rw [← hl, fldP, if_neg hin]
                  have hixi : ¬ 3 * (j : Int) + (g : Int) < (ll : Int) := by omega
                  obtain ⟨u, hu⟩ : ∃ u, Vl.zero = u := ⟨_, rfl⟩
                  rw [hu] at hlx
                  have p8 := p1.alloc (.cells #[.int .i64 0, .int .i64 0] 45)
                  have B8 : Blk w (wr.alloc (.cells #[.int .i64 0, .int .i64 0] 45)) wr.heap.size 45 #[.int .i64 u.k, .int .i64 u.n] := (by rw [← hu]; exact Blk.new p1.bel.size _ (by decide))
                  go_upto_region 18 with (fail)
                  generalize wr.alloc (.cells #[.int .i64 0, .int .i64 0] 45) = w8 at B8 p8 ⊢
                  generalize wr.heap.size = hv8 at B8 ⊢
                  have x0 : w8.cell? ⟨hv8, 0, none⟩ = some (.int .i64 u.k) := B8.cell 0
                  have x1 : w8.cell? ⟨hv8, 1, none⟩ = some (.int .i64 u.n) := B8.cell 1
                  have xl := B8.lt
                  have hU2 := u64_word u.k u.n
                  obtain ⟨wd2, hwd2⟩ : ∃ wd2, F.Plain.word u.k u.n = wd2 := ⟨_, rfl⟩
                  rw [hwd2] at hU2
                  go_wp2_with (first
                    | (have hh := p11; go_at_call 26; refine (F.rWord u.k u.n _).mono ?_; rintro e w12 ⟨rfl, m12, hw12⟩; rw [hwd2]; have hb12 : Below w11.heap.size w11 w12 := (by rw [hw12]; exact F.bdr ((Below.refl _ _).alloc (Nat.le_refl _) _) _); have p12 := p11.below hb12; clear hw12)
                    | (go_at_call 26; refine (F.rWord u.k u.n _).mono ?_; rintro e w10 ⟨rfl, m10, hw10⟩; rw [hwd2]; have hb10 : Below w8.heap.size w8 w10 := (by rw [hw10]; exact F.bdr ((Below.refl _ _).alloc (Nat.le_refl _) _) _); have p10 := p8.below hb10; have B10 := B8.below hb10; clear hw10)
                    | (go_at_call 22; refine (tStore p10 (by omega) a2 hU2).mono ?_; rintro e w11 ⟨rfl, p11, o11⟩; have B11 := B10.oth o11 (by simp); have y0 : w11.cell? ⟨hv8, 0, none⟩ = some (.int .i64 u.k) := B11.cell 0; have y1 : w11.cell? ⟨hv8, 1, none⟩ = some (.int .i64 u.n) := B11.cell 1; have yl := B11.lt)
                    | (go_at_call 24; refine (yStore p12 (by omega) a2 hU2).mono ?_; rintro e w13 ⟨rfl, p13, _⟩))
                  go_roundw
                  case rel => exact ⟨g + 1, by omega, by go_num, (by rw [← hwd2, ← ha2] at p13; simp only [laidF, hlx]; exact p13.mono (by omega))⟩
                  case measure => simp [intOf]; omega
              case neg =>
                obtain rfl : g = 3 := by omega
                go_wp2
                go_roundw
                case rel => exact ⟨j + 1, by omega, by go_num, p1.mono (by omega)⟩
                case measure => simp [intOf]; omega
          · skip
            have htj : t j = false := by rw [← ht, tagP]; simp [hA, hB]; exact hC
            have ci1 := ci.on q1.bel
            obtain ⟨vt, off', rfl, hvt, hzt⟩ : ∃ b off, at_ = some ⟨b, off, none⟩ ∧ b < wr.heap.size ∧ ∀ j, j < lt → wr.cell? ⟨b, off + j, none⟩ = some (.int .i64 (zt j)) ∧ -9223372036854775808 ≤ zt j ∧ zt j ≤ 9223372036854775807 := ci1.resolve_left (by omega)
            obtain ⟨dt, k0, k1⟩ := hzt j hB
            obtain ⟨zj, hzj⟩ : ∃ zj, zt j = zj := ⟨_, rfl⟩
            rw [hzj] at dt k0 k1 hC
            obtain ⟨kk, hkk⟩ : ∃ kk, kd zj 3 = kk := ⟨_, rfl⟩
            rw [hkk] at hC
            have hA' : (j : Int) < 8 := by omega
            have hB' : (j : Int) < (lt : Int) := by omega
            have hC' : (kk == 2) = false := by simpa using hC
            have hdw : hdrW t j = hw 1 0 3 0 0 0 0 := by rw [hdrW, tgP, lkP, htj]; rfl
            obtain ⟨a, ha⟩ : ∃ a : Int, 96 + 4 * (j : Int) = a := ⟨_, rfl⟩
            go_upto_region 10 with (go_at_call 6; refine (cKind _ zj 3 k0 k1 (by decide)).mono ?_; rintro e wk ⟨rfl, hwk⟩; rw [hwk, hkk]; clear hwk wk)
            have q2 := q1.alloc (.cells #[.int .i64 1, .int .i64 0, .int .i64 3, .int .i64 0, .int .i64 0, .int .i64 0, .int .i64 0] 71)
            have B2 : Blk w (wr.alloc (.cells #[.int .i64 1, .int .i64 0, .int .i64 3, .int .i64 0, .int .i64 0, .int .i64 0, .int .i64 0] 71)) wr.heap.size 71 #[.int .i64 1, .int .i64 0, .int .i64 3, .int .i64 0, .int .i64 0, .int .i64 0, .int .i64 0] := Blk.new q1.bel.size _ (by decide)
            generalize wr.alloc (.cells #[.int .i64 1, .int .i64 0, .int .i64 3, .int .i64 0, .int .i64 0, .int .i64 0, .int .i64 0] 71) = w2' at q2 B2 ⊢
            generalize wr.heap.size = hb at B2 ⊢
            have c0 : w2'.cell? ⟨hb, 0, none⟩ = some (.int .i64 1) := B2.cell 0
            have c1 : w2'.cell? ⟨hb, 1, none⟩ = some (.int .i64 0) := B2.cell 1
            have c2 : w2'.cell? ⟨hb, 2, none⟩ = some (.int .i64 3) := B2.cell 2
            have c3 : w2'.cell? ⟨hb, 3, none⟩ = some (.int .i64 0) := B2.cell 3
            have c4 : w2'.cell? ⟨hb, 4, none⟩ = some (.int .i64 0) := B2.cell 4
            have c5 : w2'.cell? ⟨hb, 5, none⟩ = some (.int .i64 0) := B2.cell 5
            have c6 : w2'.cell? ⟨hb, 6, none⟩ = some (.int .i64 0) := B2.cell 6
            have cl := B2.lt
            have hU := u64_hw 1 0 3 0 0 0 0
            obtain ⟨wd, hwd⟩ : ∃ wd, hw 1 0 3 0 0 0 0 = wd := ⟨_, rfl⟩
            rw [hwd] at hU
            have hwe := hwd
            rw [hwd] at hdw
            go_upto_region 12 with (first
              | (have hh := q4; go_at_call 23; refine (H.rWord _ _ _ _ _ _ _ _).mono ?_; rintro e w5 ⟨rfl, hw5⟩; rw [hwe]; have hb5 : Below w4.heap.size w4 w5 := (by rw [hw5]; go_grown); have q5 := q4.below hb5; clear hw5)
              | (go_at_call 23; refine (H.rWord _ _ _ _ _ _ _ _).mono ?_; rintro e w3 ⟨rfl, hw3⟩; rw [hwe]; have hb3 : Below w2'.heap.size w2' w3 := (by rw [hw3]; go_grown); have q3 := q2.below hb3; have B3 := B2.below hb3; clear hw3)
              | (go_at_call 22; refine (tStore q3 (by omega) a hU).mono ?_; rintro e w4 ⟨rfl, q4, o4⟩; have B4 := B3.oth o4 (by simp); have x0 : w4.cell? ⟨hb, 0, none⟩ = some (.int .i64 1) := B4.cell 0; have x1 : w4.cell? ⟨hb, 1, none⟩ = some (.int .i64 0) := B4.cell 1; have x2 : w4.cell? ⟨hb, 2, none⟩ = some (.int .i64 3) := B4.cell 2; have x3 : w4.cell? ⟨hb, 3, none⟩ = some (.int .i64 0) := B4.cell 3; have x4 : w4.cell? ⟨hb, 4, none⟩ = some (.int .i64 0) := B4.cell 4; have x5 : w4.cell? ⟨hb, 5, none⟩ = some (.int .i64 0) := B4.cell 5; have x6 : w4.cell? ⟨hb, 6, none⟩ = some (.int .i64 0) := B4.cell 6; have xl := B4.lt)
              | (go_at_call 24; refine (yStore q5 (by omega) a hU).mono ?_; rintro e w6 ⟨rfl, q6, _⟩))
            go_wp2
            go_loopw [12] (fun f wr => ∃ g : Nat, g ≤ 3 ∧ f = .int .i64 g ∧ Two w wr b y (laidF (laidO t l j) t l j g) (laidF (laidO t l j) t l j g) (8 * j + 2 + 2 * g)) (fun f _ => 3 - (intOf f).toNat)
            case atStart => exact ⟨0, Nat.zero_le _, rfl, (by simp only [laidF, hdw, ha]; exact q6.mono (by omega))⟩
            case round =>
              obtain ⟨g, hg, rfl, p1⟩ := hrel
              by_cases hg3 : g < 3
              case pos =>
                have cv1 := cv.on p1.bel
                obtain ⟨a2, ha2⟩ : ∃ a2 : Int, 97 + 4 * (j : Int) + (g : Int) = a2 := ⟨_, rfl⟩
                by_cases hin : 3 * j + g < ll
                · obtain ⟨vb, off, rfl, hvb, hz⟩ : ∃ b off, av = some ⟨b, off, none⟩ ∧ b < wr.heap.size ∧ ∀ j, j < ll → wr.cell? ⟨b, off + j * 2, none⟩ = some (.int .i64 (zl j).k) ∧ wr.cell? ⟨b, off + (j * 2 + 1), none⟩ = some (.int .i64 (zl j).n) ∧ (zl j).Fit := (cv1.resolve_left (by omega))
                  obtain ⟨d0, d1, df⟩ := hz (3 * j + g) hin
                  obtain ⟨qv, hqv⟩ : ∃ qv, zl (3 * j + g) = qv := ⟨_, rfl⟩
                  obtain ⟨ix, hix⟩ : ∃ ix, 3 * j + g = ix := ⟨_, rfl⟩
                  rw [hqv] at d0 d1 df
                  have hl1 : l (3 * j + g) = valP qv := by rw [← hl, fldP, if_pos hin, hqv]
                  obtain ⟨lx, hlx⟩ : ∃ lx, l (3 * j + g) = lx := ⟨_, rfl⟩
                  rw [hlx] at hl1
                  obtain ⟨u, hu⟩ : ∃ u, valP qv = u := ⟨_, rfl⟩
                  rw [hu] at hl1
                  rw [hl1] at hlx
                  clear hl1
                  rw [hix] at d0 d1 hin
                  have hixi : 3 * (j : Int) + (g : Int) = (ix : Int) := by omega
                  have hini : (ix : Int) < (ll : Int) := by omega
                  rw [← Nat.add_assoc] at d1
                  clear hix hz hqv
                  go_upto_region 18 with (go_at_call 25; refine (cVal qv df _).mono ?_; rintro e w7 ⟨rfl, hb7⟩; rw [hu]; have p7 := (p1.alloc (.cells #[.int .i64 0, .int .i64 0] 45)).below hb7; have B7 : Blk w w7 wr.heap.size 45 #[.int .i64 0, .int .i64 0] := (Blk.new p1.bel.size _ (by decide)).below hb7; have e0 : w7.cell? ⟨wr.heap.size, 0, none⟩ = some (.int .i64 0) := B7.cell 0; have e1 : w7.cell? ⟨wr.heap.size, 1, none⟩ = some (.int .i64 0) := B7.cell 1; have f0 := B7.free 0; have f1 := B7.free 1)
                  have B8 : Blk w ((w7.setCell ⟨wr.heap.size, 0, none⟩ (.int .i64 u.k)).setCell ⟨wr.heap.size, 1, none⟩ (.int .i64 u.n)) wr.heap.size 45 #[.int .i64 u.k, .int .i64 u.n] := (B7.set 0 _).set 1 _
                  have p8 := (p7.set B7 0 (.int .i64 u.k)).set (B7.set 0 (.int .i64 u.k)) 1 (.int .i64 u.n)
                  clear e0 e1 f0 f1
                  generalize (w7.setCell ⟨wr.heap.size, 0, none⟩ (.int .i64 u.k)).setCell ⟨wr.heap.size, 1, none⟩ (.int .i64 u.n) = w8 at B8 p8 ⊢
                  generalize wr.heap.size = hv8 at B8 ⊢
                  have x0 : w8.cell? ⟨hv8, 0, none⟩ = some (.int .i64 u.k) := B8.cell 0
                  have x1 : w8.cell? ⟨hv8, 1, none⟩ = some (.int .i64 u.n) := B8.cell 1
                  have xl := B8.lt
                  have hU2 := u64_word u.k u.n
                  obtain ⟨wd2, hwd2⟩ : ∃ wd2, F.Plain.word u.k u.n = wd2 := ⟨_, rfl⟩
                  rw [hwd2] at hU2
                  go_wp2_with (first
                    | (have hh := p11; go_at_call 26; refine (F.rWord u.k u.n _).mono ?_; rintro e w12 ⟨rfl, m12, hw12⟩; rw [hwd2]; have hb12 : Below w11.heap.size w11 w12 := (by rw [hw12]; exact F.bdr ((Below.refl _ _).alloc (Nat.le_refl _) _) _); have p12 := p11.below hb12; clear hw12)
                    | (go_at_call 26; refine (F.rWord u.k u.n _).mono ?_; rintro e w10 ⟨rfl, m10, hw10⟩; rw [hwd2]; have hb10 : Below w8.heap.size w8 w10 := (by rw [hw10]; exact F.bdr ((Below.refl _ _).alloc (Nat.le_refl _) _) _); have p10 := p8.below hb10; have B10 := B8.below hb10; clear hw10)
                    | (go_at_call 22; refine (tStore p10 (by omega) a2 hU2).mono ?_; rintro e w11 ⟨rfl, p11, o11⟩; have B11 := B10.oth o11 (by simp); have y0 : w11.cell? ⟨hv8, 0, none⟩ = some (.int .i64 u.k) := B11.cell 0; have y1 : w11.cell? ⟨hv8, 1, none⟩ = some (.int .i64 u.n) := B11.cell 1; have yl := B11.lt)
                    | (go_at_call 24; refine (yStore p12 (by omega) a2 hU2).mono ?_; rintro e w13 ⟨rfl, p13, _⟩))
                  go_roundw
                  case rel => exact ⟨g + 1, by omega, by go_num, (by rw [← hwd2, ← ha2] at p13; simp only [laidF, hlx]; exact p13.mono (by omega))⟩
                  case measure => simp [intOf]; omega
                · have hlx : l (3 * j + g) = Vl.zero := by rw [← hl, fldP, if_neg hin]
                  have hixi : ¬ 3 * (j : Int) + (g : Int) < (ll : Int) := by omega
                  obtain ⟨u, hu⟩ : ∃ u, Vl.zero = u := ⟨_, rfl⟩
                  rw [hu] at hlx
                  have p8 := p1.alloc (.cells #[.int .i64 0, .int .i64 0] 45)
                  have B8 : Blk w (wr.alloc (.cells #[.int .i64 0, .int .i64 0] 45)) wr.heap.size 45 #[.int .i64 u.k, .int .i64 u.n] := (by rw [← hu]; exact Blk.new p1.bel.size _ (by decide))
                  go_upto_region 18 with (fail)
                  generalize wr.alloc (.cells #[.int .i64 0, .int .i64 0] 45) = w8 at B8 p8 ⊢
                  generalize wr.heap.size = hv8 at B8 ⊢
                  have x0 : w8.cell? ⟨hv8, 0, none⟩ = some (.int .i64 u.k) := B8.cell 0
                  have x1 : w8.cell? ⟨hv8, 1, none⟩ = some (.int .i64 u.n) := B8.cell 1
                  have xl := B8.lt
                  have hU2 := u64_word u.k u.n
                  obtain ⟨wd2, hwd2⟩ : ∃ wd2, F.Plain.word u.k u.n = wd2 := ⟨_, rfl⟩
                  rw [hwd2] at hU2
                  go_wp2_with (first
                    | (have hh := p11; go_at_call 26; refine (F.rWord u.k u.n _).mono ?_; rintro e w12 ⟨rfl, m12, hw12⟩; rw [hwd2]; have hb12 : Below w11.heap.size w11 w12 := (by rw [hw12]; exact F.bdr ((Below.refl _ _).alloc (Nat.le_refl _) _) _); have p12 := p11.below hb12; clear hw12)
                    | (go_at_call 26; refine (F.rWord u.k u.n _).mono ?_; rintro e w10 ⟨rfl, m10, hw10⟩; rw [hwd2]; have hb10 : Below w8.heap.size w8 w10 := (by rw [hw10]; exact F.bdr ((Below.refl _ _).alloc (Nat.le_refl _) _) _); have p10 := p8.below hb10; have B10 := B8.below hb10; clear hw10)
                    | (go_at_call 22; refine (tStore p10 (by omega) a2 hU2).mono ?_; rintro e w11 ⟨rfl, p11, o11⟩; have B11 := B10.oth o11 (by simp); have y0 : w11.cell? ⟨hv8, 0, none⟩ = some (.int .i64 u.k) := B11.cell 0; have y1 : w11.cell? ⟨hv8, 1, none⟩ = some (.int .i64 u.n) := B11.cell 1; have yl := B11.lt)
                    | (go_at_call 24; refine (yStore p12 (by omega) a2 hU2).mono ?_; rintro e w13 ⟨rfl, p13, _⟩))
                  go_roundw
                  case rel => exact ⟨g + 1, by omega, by go_num, (by rw [← hwd2, ← ha2] at p13; simp only [laidF, hlx]; exact p13.mono (by omega))⟩
                  case measure => simp [intOf]; omega
              case neg =>
                obtain rfl : g = 3 := by omega
                go_wp2
                go_roundw
                case rel => exact ⟨j + 1, by omega, by go_num, p1.mono (by omega)⟩
                case measure => simp [intOf]; omega
        · skip
          have htj : t j = false := by rw [← ht, tagP]; simp [hB]
          have hA' : (j : Int) < 8 := by omega
          have hB' : ¬ (j : Int) < (lt : Int) := by omega
          have hdw : hdrW t j = hw 1 0 3 0 0 0 0 := by rw [hdrW, tgP, lkP, htj]; rfl
          obtain ⟨a, ha⟩ : ∃ a : Int, 96 + 4 * (j : Int) = a := ⟨_, rfl⟩
          go_upto_region 10 with (fail)
          have q2 := q1.alloc (.cells #[.int .i64 1, .int .i64 0, .int .i64 3, .int .i64 0, .int .i64 0, .int .i64 0, .int .i64 0] 71)
          have B2 : Blk w (wr.alloc (.cells #[.int .i64 1, .int .i64 0, .int .i64 3, .int .i64 0, .int .i64 0, .int .i64 0, .int .i64 0] 71)) wr.heap.size 71 #[.int .i64 1, .int .i64 0, .int .i64 3, .int .i64 0, .int .i64 0, .int .i64 0, .int .i64 0] := Blk.new q1.bel.size _ (by decide)
          generalize wr.alloc (.cells #[.int .i64 1, .int .i64 0, .int .i64 3, .int .i64 0, .int .i64 0, .int .i64 0, .int .i64 0] 71) = w2' at q2 B2 ⊢
          generalize wr.heap.size = hb at B2 ⊢
          have c0 : w2'.cell? ⟨hb, 0, none⟩ = some (.int .i64 1) := B2.cell 0
          have c1 : w2'.cell? ⟨hb, 1, none⟩ = some (.int .i64 0) := B2.cell 1
          have c2 : w2'.cell? ⟨hb, 2, none⟩ = some (.int .i64 3) := B2.cell 2
          have c3 : w2'.cell? ⟨hb, 3, none⟩ = some (.int .i64 0) := B2.cell 3
          have c4 : w2'.cell? ⟨hb, 4, none⟩ = some (.int .i64 0) := B2.cell 4
          have c5 : w2'.cell? ⟨hb, 5, none⟩ = some (.int .i64 0) := B2.cell 5
          have c6 : w2'.cell? ⟨hb, 6, none⟩ = some (.int .i64 0) := B2.cell 6
          have cl := B2.lt
          have hU := u64_hw 1 0 3 0 0 0 0
          obtain ⟨wd, hwd⟩ : ∃ wd, hw 1 0 3 0 0 0 0 = wd := ⟨_, rfl⟩
          rw [hwd] at hU
          have hwe := hwd
          rw [hwd] at hdw
          go_upto_region 12 with (first
            | (have hh := q4; go_at_call 23; refine (H.rWord _ _ _ _ _ _ _ _).mono ?_; rintro e w5 ⟨rfl, hw5⟩; rw [hwe]; have hb5 : Below w4.heap.size w4 w5 := (by rw [hw5]; go_grown); have q5 := q4.below hb5; clear hw5)
            | (go_at_call 23; refine (H.rWord _ _ _ _ _ _ _ _).mono ?_; rintro e w3 ⟨rfl, hw3⟩; rw [hwe]; have hb3 : Below w2'.heap.size w2' w3 := (by rw [hw3]; go_grown); have q3 := q2.below hb3; have B3 := B2.below hb3; clear hw3)
            | (go_at_call 22; refine (tStore q3 (by omega) a hU).mono ?_; rintro e w4 ⟨rfl, q4, o4⟩; have B4 := B3.oth o4 (by simp); have x0 : w4.cell? ⟨hb, 0, none⟩ = some (.int .i64 1) := B4.cell 0; have x1 : w4.cell? ⟨hb, 1, none⟩ = some (.int .i64 0) := B4.cell 1; have x2 : w4.cell? ⟨hb, 2, none⟩ = some (.int .i64 3) := B4.cell 2; have x3 : w4.cell? ⟨hb, 3, none⟩ = some (.int .i64 0) := B4.cell 3; have x4 : w4.cell? ⟨hb, 4, none⟩ = some (.int .i64 0) := B4.cell 4; have x5 : w4.cell? ⟨hb, 5, none⟩ = some (.int .i64 0) := B4.cell 5; have x6 : w4.cell? ⟨hb, 6, none⟩ = some (.int .i64 0) := B4.cell 6; have xl := B4.lt)
            | (go_at_call 24; refine (yStore q5 (by omega) a hU).mono ?_; rintro e w6 ⟨rfl, q6, _⟩))
          go_wp2
          go_loopw [12] (fun f wr => ∃ g : Nat, g ≤ 3 ∧ f = .int .i64 g ∧ Two w wr b y (laidF (laidO t l j) t l j g) (laidF (laidO t l j) t l j g) (8 * j + 2 + 2 * g)) (fun f _ => 3 - (intOf f).toNat)
          case atStart => exact ⟨0, Nat.zero_le _, rfl, (by simp only [laidF, hdw, ha]; exact q6.mono (by omega))⟩
          case round =>
            obtain ⟨g, hg, rfl, p1⟩ := hrel
            by_cases hg3 : g < 3
            case pos =>
              have cv1 := cv.on p1.bel
              obtain ⟨a2, ha2⟩ : ∃ a2 : Int, 97 + 4 * (j : Int) + (g : Int) = a2 := ⟨_, rfl⟩
              by_cases hin : 3 * j + g < ll
              · obtain ⟨vb, off, rfl, hvb, hz⟩ : ∃ b off, av = some ⟨b, off, none⟩ ∧ b < wr.heap.size ∧ ∀ j, j < ll → wr.cell? ⟨b, off + j * 2, none⟩ = some (.int .i64 (zl j).k) ∧ wr.cell? ⟨b, off + (j * 2 + 1), none⟩ = some (.int .i64 (zl j).n) ∧ (zl j).Fit := (cv1.resolve_left (by omega))
                obtain ⟨d0, d1, df⟩ := hz (3 * j + g) hin
                obtain ⟨qv, hqv⟩ : ∃ qv, zl (3 * j + g) = qv := ⟨_, rfl⟩
                obtain ⟨ix, hix⟩ : ∃ ix, 3 * j + g = ix := ⟨_, rfl⟩
                rw [hqv] at d0 d1 df
                have hl1 : l (3 * j + g) = valP qv := by rw [← hl, fldP, if_pos hin, hqv]
                obtain ⟨lx, hlx⟩ : ∃ lx, l (3 * j + g) = lx := ⟨_, rfl⟩
                rw [hlx] at hl1
                obtain ⟨u, hu⟩ : ∃ u, valP qv = u := ⟨_, rfl⟩
                rw [hu] at hl1
                rw [hl1] at hlx
                clear hl1
                rw [hix] at d0 d1 hin
                have hixi : 3 * (j : Int) + (g : Int) = (ix : Int) := by omega
                have hini : (ix : Int) < (ll : Int) := by omega
                rw [← Nat.add_assoc] at d1
                clear hix hz hqv
                go_upto_region 18 with (go_at_call 25; refine (cVal qv df _).mono ?_; rintro e w7 ⟨rfl, hb7⟩; rw [hu]; have p7 := (p1.alloc (.cells #[.int .i64 0, .int .i64 0] 45)).below hb7; have B7 : Blk w w7 wr.heap.size 45 #[.int .i64 0, .int .i64 0] := (Blk.new p1.bel.size _ (by decide)).below hb7; have e0 : w7.cell? ⟨wr.heap.size, 0, none⟩ = some (.int .i64 0) := B7.cell 0; have e1 : w7.cell? ⟨wr.heap.size, 1, none⟩ = some (.int .i64 0) := B7.cell 1; have f0 := B7.free 0; have f1 := B7.free 1)
                have B8 : Blk w ((w7.setCell ⟨wr.heap.size, 0, none⟩ (.int .i64 u.k)).setCell ⟨wr.heap.size, 1, none⟩ (.int .i64 u.n)) wr.heap.size 45 #[.int .i64 u.k, .int .i64 u.n] := (B7.set 0 _).set 1 _
                have p8 := (p7.set B7 0 (.int .i64 u.k)).set (B7.set 0 (.int .i64 u.k)) 1 (.int .i64 u.n)
                clear e0 e1 f0 f1
                generalize (w7.setCell ⟨wr.heap.size, 0, none⟩ (.int .i64 u.k)).setCell ⟨wr.heap.size, 1, none⟩ (.int .i64 u.n) = w8 at B8 p8 ⊢
                generalize wr.heap.size = hv8 at B8 ⊢
                have x0 : w8.cell? ⟨hv8, 0, none⟩ = some (.int .i64 u.k) := B8.cell 0
                have x1 : w8.cell? ⟨hv8, 1, none⟩ = some (.int .i64 u.n) := B8.cell 1
                have xl := B8.lt
                have hU2 := u64_word u.k u.n
                obtain ⟨wd2, hwd2⟩ : ∃ wd2, F.Plain.word u.k u.n = wd2 := ⟨_, rfl⟩
                rw [hwd2] at hU2
                go_wp2_with (first
                  | (have hh := p11; go_at_call 26; refine (F.rWord u.k u.n _).mono ?_; rintro e w12 ⟨rfl, m12, hw12⟩; rw [hwd2]; have hb12 : Below w11.heap.size w11 w12 := (by rw [hw12]; exact F.bdr ((Below.refl _ _).alloc (Nat.le_refl _) _) _); have p12 := p11.below hb12; clear hw12)
                  | (go_at_call 26; refine (F.rWord u.k u.n _).mono ?_; rintro e w10 ⟨rfl, m10, hw10⟩; rw [hwd2]; have hb10 : Below w8.heap.size w8 w10 := (by rw [hw10]; exact F.bdr ((Below.refl _ _).alloc (Nat.le_refl _) _) _); have p10 := p8.below hb10; have B10 := B8.below hb10; clear hw10)
                  | (go_at_call 22; refine (tStore p10 (by omega) a2 hU2).mono ?_; rintro e w11 ⟨rfl, p11, o11⟩; have B11 := B10.oth o11 (by simp); have y0 : w11.cell? ⟨hv8, 0, none⟩ = some (.int .i64 u.k) := B11.cell 0; have y1 : w11.cell? ⟨hv8, 1, none⟩ = some (.int .i64 u.n) := B11.cell 1; have yl := B11.lt)
                  | (go_at_call 24; refine (yStore p12 (by omega) a2 hU2).mono ?_; rintro e w13 ⟨rfl, p13, _⟩))
                go_roundw
                case rel => exact ⟨g + 1, by omega, by go_num, (by rw [← hwd2, ← ha2] at p13; simp only [laidF, hlx]; exact p13.mono (by omega))⟩
                case measure => simp [intOf]; omega
              · have hlx : l (3 * j + g) = Vl.zero := by rw [← hl, fldP, if_neg hin]
                have hixi : ¬ 3 * (j : Int) + (g : Int) < (ll : Int) := by omega
                obtain ⟨u, hu⟩ : ∃ u, Vl.zero = u := ⟨_, rfl⟩
                rw [hu] at hlx
                have p8 := p1.alloc (.cells #[.int .i64 0, .int .i64 0] 45)
                have B8 : Blk w (wr.alloc (.cells #[.int .i64 0, .int .i64 0] 45)) wr.heap.size 45 #[.int .i64 u.k, .int .i64 u.n] := (by rw [← hu]; exact Blk.new p1.bel.size _ (by decide))
                go_upto_region 18 with (fail)
                generalize wr.alloc (.cells #[.int .i64 0, .int .i64 0] 45) = w8 at B8 p8 ⊢
                generalize wr.heap.size = hv8 at B8 ⊢
                have x0 : w8.cell? ⟨hv8, 0, none⟩ = some (.int .i64 u.k) := B8.cell 0
                have x1 : w8.cell? ⟨hv8, 1, none⟩ = some (.int .i64 u.n) := B8.cell 1
                have xl := B8.lt
                have hU2 := u64_word u.k u.n
                obtain ⟨wd2, hwd2⟩ : ∃ wd2, F.Plain.word u.k u.n = wd2 := ⟨_, rfl⟩
                rw [hwd2] at hU2
                go_wp2_with (first
                  | (have hh := p11; go_at_call 26; refine (F.rWord u.k u.n _).mono ?_; rintro e w12 ⟨rfl, m12, hw12⟩; rw [hwd2]; have hb12 : Below w11.heap.size w11 w12 := (by rw [hw12]; exact F.bdr ((Below.refl _ _).alloc (Nat.le_refl _) _) _); have p12 := p11.below hb12; clear hw12)
                  | (go_at_call 26; refine (F.rWord u.k u.n _).mono ?_; rintro e w10 ⟨rfl, m10, hw10⟩; rw [hwd2]; have hb10 : Below w8.heap.size w8 w10 := (by rw [hw10]; exact F.bdr ((Below.refl _ _).alloc (Nat.le_refl _) _) _); have p10 := p8.below hb10; have B10 := B8.below hb10; clear hw10)
                  | (go_at_call 22; refine (tStore p10 (by omega) a2 hU2).mono ?_; rintro e w11 ⟨rfl, p11, o11⟩; have B11 := B10.oth o11 (by simp); have y0 : w11.cell? ⟨hv8, 0, none⟩ = some (.int .i64 u.k) := B11.cell 0; have y1 : w11.cell? ⟨hv8, 1, none⟩ = some (.int .i64 u.n) := B11.cell 1; have yl := B11.lt)
                  | (go_at_call 24; refine (yStore p12 (by omega) a2 hU2).mono ?_; rintro e w13 ⟨rfl, p13, _⟩))
                go_roundw
                case rel => exact ⟨g + 1, by omega, by go_num, (by rw [← hwd2, ← ha2] at p13; simp only [laidF, hlx]; exact p13.mono (by omega))⟩
                case measure => simp [intOf]; omega
            case neg =>
              obtain rfl : g = 3 := by omega
              go_wp2
              go_roundw
              case rel => exact ⟨j + 1, by omega, by go_num, p1.mono (by omega)⟩
              case measure => simp [intOf]; omega
      · skip
        have htj : t j = false := by rw [← ht, tagP]; simp [hA]
        have hA' : ¬ (j : Int) < 8 := by omega
        have hdw : hdrW t j = hw 1 0 3 0 0 0 0 := by rw [hdrW, tgP, lkP, htj]; rfl
        obtain ⟨a, ha⟩ : ∃ a : Int, 96 + 4 * (j : Int) = a := ⟨_, rfl⟩
        go_upto_region 10 with (fail)
        have q2 := q1.alloc (.cells #[.int .i64 1, .int .i64 0, .int .i64 3, .int .i64 0, .int .i64 0, .int .i64 0, .int .i64 0] 71)
        have B2 : Blk w (wr.alloc (.cells #[.int .i64 1, .int .i64 0, .int .i64 3, .int .i64 0, .int .i64 0, .int .i64 0, .int .i64 0] 71)) wr.heap.size 71 #[.int .i64 1, .int .i64 0, .int .i64 3, .int .i64 0, .int .i64 0, .int .i64 0, .int .i64 0] := Blk.new q1.bel.size _ (by decide)
        generalize wr.alloc (.cells #[.int .i64 1, .int .i64 0, .int .i64 3, .int .i64 0, .int .i64 0, .int .i64 0, .int .i64 0] 71) = w2' at q2 B2 ⊢
        generalize wr.heap.size = hb at B2 ⊢
        have c0 : w2'.cell? ⟨hb, 0, none⟩ = some (.int .i64 1) := B2.cell 0
        have c1 : w2'.cell? ⟨hb, 1, none⟩ = some (.int .i64 0) := B2.cell 1
        have c2 : w2'.cell? ⟨hb, 2, none⟩ = some (.int .i64 3) := B2.cell 2
        have c3 : w2'.cell? ⟨hb, 3, none⟩ = some (.int .i64 0) := B2.cell 3
        have c4 : w2'.cell? ⟨hb, 4, none⟩ = some (.int .i64 0) := B2.cell 4
        have c5 : w2'.cell? ⟨hb, 5, none⟩ = some (.int .i64 0) := B2.cell 5
        have c6 : w2'.cell? ⟨hb, 6, none⟩ = some (.int .i64 0) := B2.cell 6
        have cl := B2.lt
        have hU := u64_hw 1 0 3 0 0 0 0
        obtain ⟨wd, hwd⟩ : ∃ wd, hw 1 0 3 0 0 0 0 = wd := ⟨_, rfl⟩
        rw [hwd] at hU
        have hwe := hwd
        rw [hwd] at hdw
        go_upto_region 12 with (first
          | (have hh := q4; go_at_call 23; refine (H.rWord _ _ _ _ _ _ _ _).mono ?_; rintro e w5 ⟨rfl, hw5⟩; rw [hwe]; have hb5 : Below w4.heap.size w4 w5 := (by rw [hw5]; go_grown); have q5 := q4.below hb5; clear hw5)
          | (go_at_call 23; refine (H.rWord _ _ _ _ _ _ _ _).mono ?_; rintro e w3 ⟨rfl, hw3⟩; rw [hwe]; have hb3 : Below w2'.heap.size w2' w3 := (by rw [hw3]; go_grown); have q3 := q2.below hb3; have B3 := B2.below hb3; clear hw3)
          | (go_at_call 22; refine (tStore q3 (by omega) a hU).mono ?_; rintro e w4 ⟨rfl, q4, o4⟩; have B4 := B3.oth o4 (by simp); have x0 : w4.cell? ⟨hb, 0, none⟩ = some (.int .i64 1) := B4.cell 0; have x1 : w4.cell? ⟨hb, 1, none⟩ = some (.int .i64 0) := B4.cell 1; have x2 : w4.cell? ⟨hb, 2, none⟩ = some (.int .i64 3) := B4.cell 2; have x3 : w4.cell? ⟨hb, 3, none⟩ = some (.int .i64 0) := B4.cell 3; have x4 : w4.cell? ⟨hb, 4, none⟩ = some (.int .i64 0) := B4.cell 4; have x5 : w4.cell? ⟨hb, 5, none⟩ = some (.int .i64 0) := B4.cell 5; have x6 : w4.cell? ⟨hb, 6, none⟩ = some (.int .i64 0) := B4.cell 6; have xl := B4.lt)
          | (go_at_call 24; refine (yStore q5 (by omega) a hU).mono ?_; rintro e w6 ⟨rfl, q6, _⟩))
        go_wp2
        go_loopw [12] (fun f wr => ∃ g : Nat, g ≤ 3 ∧ f = .int .i64 g ∧ Two w wr b y (laidF (laidO t l j) t l j g) (laidF (laidO t l j) t l j g) (8 * j + 2 + 2 * g)) (fun f _ => 3 - (intOf f).toNat)
        case atStart => exact ⟨0, Nat.zero_le _, rfl, (by simp only [laidF, hdw, ha]; exact q6.mono (by omega))⟩
        case round =>
          obtain ⟨g, hg, rfl, p1⟩ := hrel
          by_cases hg3 : g < 3
          case pos =>
            have cv1 := cv.on p1.bel
            obtain ⟨a2, ha2⟩ : ∃ a2 : Int, 97 + 4 * (j : Int) + (g : Int) = a2 := ⟨_, rfl⟩
            by_cases hin : 3 * j + g < ll
            · obtain ⟨vb, off, rfl, hvb, hz⟩ : ∃ b off, av = some ⟨b, off, none⟩ ∧ b < wr.heap.size ∧ ∀ j, j < ll → wr.cell? ⟨b, off + j * 2, none⟩ = some (.int .i64 (zl j).k) ∧ wr.cell? ⟨b, off + (j * 2 + 1), none⟩ = some (.int .i64 (zl j).n) ∧ (zl j).Fit := (cv1.resolve_left (by omega))
              obtain ⟨d0, d1, df⟩ := hz (3 * j + g) hin
              obtain ⟨qv, hqv⟩ : ∃ qv, zl (3 * j + g) = qv := ⟨_, rfl⟩
              obtain ⟨ix, hix⟩ : ∃ ix, 3 * j + g = ix := ⟨_, rfl⟩
              rw [hqv] at d0 d1 df
              have hl1 : l (3 * j + g) = valP qv := by rw [← hl, fldP, if_pos hin, hqv]
              obtain ⟨lx, hlx⟩ : ∃ lx, l (3 * j + g) = lx := ⟨_, rfl⟩
              rw [hlx] at hl1
              obtain ⟨u, hu⟩ : ∃ u, valP qv = u := ⟨_, rfl⟩
              rw [hu] at hl1
              rw [hl1] at hlx
              clear hl1
              rw [hix] at d0 d1 hin
              have hixi : 3 * (j : Int) + (g : Int) = (ix : Int) := by omega
              have hini : (ix : Int) < (ll : Int) := by omega
              rw [← Nat.add_assoc] at d1
              clear hix hz hqv
              go_upto_region 18 with (go_at_call 25; refine (cVal qv df _).mono ?_; rintro e w7 ⟨rfl, hb7⟩; rw [hu]; have p7 := (p1.alloc (.cells #[.int .i64 0, .int .i64 0] 45)).below hb7; have B7 : Blk w w7 wr.heap.size 45 #[.int .i64 0, .int .i64 0] := (Blk.new p1.bel.size _ (by decide)).below hb7; have e0 : w7.cell? ⟨wr.heap.size, 0, none⟩ = some (.int .i64 0) := B7.cell 0; have e1 : w7.cell? ⟨wr.heap.size, 1, none⟩ = some (.int .i64 0) := B7.cell 1; have f0 := B7.free 0; have f1 := B7.free 1)
              have B8 : Blk w ((w7.setCell ⟨wr.heap.size, 0, none⟩ (.int .i64 u.k)).setCell ⟨wr.heap.size, 1, none⟩ (.int .i64 u.n)) wr.heap.size 45 #[.int .i64 u.k, .int .i64 u.n] := (B7.set 0 _).set 1 _
              have p8 := (p7.set B7 0 (.int .i64 u.k)).set (B7.set 0 (.int .i64 u.k)) 1 (.int .i64 u.n)
              clear e0 e1 f0 f1
              generalize (w7.setCell ⟨wr.heap.size, 0, none⟩ (.int .i64 u.k)).setCell ⟨wr.heap.size, 1, none⟩ (.int .i64 u.n) = w8 at B8 p8 ⊢
              generalize wr.heap.size = hv8 at B8 ⊢
              have x0 : w8.cell? ⟨hv8, 0, none⟩ = some (.int .i64 u.k) := B8.cell 0
              have x1 : w8.cell? ⟨hv8, 1, none⟩ = some (.int .i64 u.n) := B8.cell 1
              have xl := B8.lt
              have hU2 := u64_word u.k u.n
              obtain ⟨wd2, hwd2⟩ : ∃ wd2, F.Plain.word u.k u.n = wd2 := ⟨_, rfl⟩
              rw [hwd2] at hU2
              go_wp2_with (first
                | (have hh := p11; go_at_call 26; refine (F.rWord u.k u.n _).mono ?_; rintro e w12 ⟨rfl, m12, hw12⟩; rw [hwd2]; have hb12 : Below w11.heap.size w11 w12 := (by rw [hw12]; exact F.bdr ((Below.refl _ _).alloc (Nat.le_refl _) _) _); have p12 := p11.below hb12; clear hw12)
                | (go_at_call 26; refine (F.rWord u.k u.n _).mono ?_; rintro e w10 ⟨rfl, m10, hw10⟩; rw [hwd2]; have hb10 : Below w8.heap.size w8 w10 := (by rw [hw10]; exact F.bdr ((Below.refl _ _).alloc (Nat.le_refl _) _) _); have p10 := p8.below hb10; have B10 := B8.below hb10; clear hw10)
                | (go_at_call 22; refine (tStore p10 (by omega) a2 hU2).mono ?_; rintro e w11 ⟨rfl, p11, o11⟩; have B11 := B10.oth o11 (by simp); have y0 : w11.cell? ⟨hv8, 0, none⟩ = some (.int .i64 u.k) := B11.cell 0; have y1 : w11.cell? ⟨hv8, 1, none⟩ = some (.int .i64 u.n) := B11.cell 1; have yl := B11.lt)
                | (go_at_call 24; refine (yStore p12 (by omega) a2 hU2).mono ?_; rintro e w13 ⟨rfl, p13, _⟩))
              go_roundw
              case rel => exact ⟨g + 1, by omega, by go_num, (by rw [← hwd2, ← ha2] at p13; simp only [laidF, hlx]; exact p13.mono (by omega))⟩
              case measure => simp [intOf]; omega
            · have hlx : l (3 * j + g) = Vl.zero := by rw [← hl, fldP, if_neg hin]
              have hixi : ¬ 3 * (j : Int) + (g : Int) < (ll : Int) := by omega
              obtain ⟨u, hu⟩ : ∃ u, Vl.zero = u := ⟨_, rfl⟩
              rw [hu] at hlx
              have p8 := p1.alloc (.cells #[.int .i64 0, .int .i64 0] 45)
              have B8 : Blk w (wr.alloc (.cells #[.int .i64 0, .int .i64 0] 45)) wr.heap.size 45 #[.int .i64 u.k, .int .i64 u.n] := (by rw [← hu]; exact Blk.new p1.bel.size _ (by decide))
              go_upto_region 18 with (fail)
              generalize wr.alloc (.cells #[.int .i64 0, .int .i64 0] 45) = w8 at B8 p8 ⊢
              generalize wr.heap.size = hv8 at B8 ⊢
              have x0 : w8.cell? ⟨hv8, 0, none⟩ = some (.int .i64 u.k) := B8.cell 0
              have x1 : w8.cell? ⟨hv8, 1, none⟩ = some (.int .i64 u.n) := B8.cell 1
              have xl := B8.lt
              have hU2 := u64_word u.k u.n
              obtain ⟨wd2, hwd2⟩ : ∃ wd2, F.Plain.word u.k u.n = wd2 := ⟨_, rfl⟩
              rw [hwd2] at hU2
              go_wp2_with (first
                | (have hh := p11; go_at_call 26; refine (F.rWord u.k u.n _).mono ?_; rintro e w12 ⟨rfl, m12, hw12⟩; rw [hwd2]; have hb12 : Below w11.heap.size w11 w12 := (by rw [hw12]; exact F.bdr ((Below.refl _ _).alloc (Nat.le_refl _) _) _); have p12 := p11.below hb12; clear hw12)
                | (go_at_call 26; refine (F.rWord u.k u.n _).mono ?_; rintro e w10 ⟨rfl, m10, hw10⟩; rw [hwd2]; have hb10 : Below w8.heap.size w8 w10 := (by rw [hw10]; exact F.bdr ((Below.refl _ _).alloc (Nat.le_refl _) _) _); have p10 := p8.below hb10; have B10 := B8.below hb10; clear hw10)
                | (go_at_call 22; refine (tStore p10 (by omega) a2 hU2).mono ?_; rintro e w11 ⟨rfl, p11, o11⟩; have B11 := B10.oth o11 (by simp); have y0 : w11.cell? ⟨hv8, 0, none⟩ = some (.int .i64 u.k) := B11.cell 0; have y1 : w11.cell? ⟨hv8, 1, none⟩ = some (.int .i64 u.n) := B11.cell 1; have yl := B11.lt)
                | (go_at_call 24; refine (yStore p12 (by omega) a2 hU2).mono ?_; rintro e w13 ⟨rfl, p13, _⟩))
              go_roundw
              case rel => exact ⟨g + 1, by omega, by go_num, (by rw [← hwd2, ← ha2] at p13; simp only [laidF, hlx]; exact p13.mono (by omega))⟩
              case measure => simp [intOf]; omega
          case neg =>
            obtain rfl : g = 3 := by omega
            go_wp2
            go_roundw
            case rel => exact ⟨j + 1, by omega, by go_num, p1.mono (by omega)⟩
            case measure => simp [intOf]; omega
    case neg =>
      obtain rfl : j = 16 := by omega
      go_wp2
      go_ret2
      exact ⟨b, y, rfl, q1⟩
end
end Go.Proofs.YtgakmpfmckikgaaGreatDoor
