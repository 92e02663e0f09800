/-
  The walk of the law on two addresses.
-/
import Derived.Test.YtgakmpfmckikgaaDoorDt
import Derived.Deep.Cut
import Derived.Deep.RegionHeld3
namespace Go.Proofs.YtgakmpfmckikgaaDoor
set_option linter.unusedVariables false
set_option maxRecDepth 100000
open Go.ChangeShapes Go.WideShapes Go.RowKit
open H.Plain (hw pS pC pN pM pG pT pL mv)

theorem addrP (a : Int) : (valP ⟨1, a⟩).n = 0 ∨ ∃ i : Nat, i < 16 ∧ (valP ⟨1, a⟩).n = 96 + 4 * (i : Int) := by
  have a3 := kd_lt a 17 (by decide)
  have e : kd 1 2 = 1 := by decide
  unfold valP
  simp only [e]
  rw [if_neg (by decide)]
  split
  · exact .inl rfl
  · exact .inr ⟨(kd a 17).toNat, by omega, by simp only; omega⟩
set_option maxHeartbeats 2000000 in
theorem wDirectSame (at_ : Option Addr) (lt ct : Nat) (zt : Nat → Int) (a1 a2 : Int) (h10 : -9223372036854775808 ≤ a1) (h11 : a1 ≤ 9223372036854775807) (h20 : -9223372036854775808 ≤ a2) (h21 : a2 ≤ 9223372036854775807) (w : World) (W : H.Wid w) (ci : CameI w at_ lt zt) :
    Calls Tryd.prog 7 #[.slice at_ lt ct, .int .i64 a1, .int .i64 a2] w fun e w' => e = .returned (.bool true) ∧ Below w.heap.size w w' := by
  have A1 := addrP a1
  have A2 := addrP a2
  obtain ⟨v1, hv1⟩ : ∃ v, valP ⟨1, a1⟩ = v := ⟨_, rfl⟩
  obtain ⟨v2, hv2⟩ : ∃ v, valP ⟨1, a2⟩ = v := ⟨_, rfl⟩
  rw [hv1] at A1
  rw [hv2] at A2
  obtain ⟨k1, pp⟩ := v1
  obtain ⟨k2, qq⟩ := v2
  simp only at A1 A2
  obtain ⟨S, hS⟩ : ∃ S, laidO (tagP lt zt) (fldP 0 fun _ => Vl.zero) 16 = S := ⟨_, rfl⟩
  have hSl : S.ws.length = 160 := by rw [← hS]; exact laid_len 16
  obtain ⟨x1, s1, z1, s2, x2, s3, z2, s4, e1, e2, e3, e4, e5, e6, e7, e8, f1, f2, f3, f4, f5⟩ := same_two S pp qq
  have fv := fVal1
  go_enter Tryd.func7, Tryd.ntmps7
  go_upto_region 7 with (first
    | (go_at_call 8; refine (cShown w W).mono ?_; rintro e w1 ⟨rfl, hb1⟩)
    | (go_at_call 9; refine (cLaid (av := none) (ll := 0) (cv' := 0) (zl := fun _ => Vl.zero) w1 (W.on hb1) (ci.on hb1) (.inl rfl)).mono ?_; rintro e w2 ⟨b, y, rfl, h2⟩; have h3 := h2.lift hb1 W; rw [hS] at h3; clear h2)
    | (have hh := h4; go_at_call 18; refine (cVal ⟨1, a2⟩ ⟨by simp, by simp, h20, h21⟩ _).mono ?_; rintro e w4 ⟨rfl, hb4⟩; rw [hv2]; have h5 := h4.below hb4; clear hb4)
    | (go_at_call 18; refine (cVal ⟨1, a1⟩ ⟨by simp, by simp, h10, h11⟩ _).mono ?_; rintro e w3 ⟨rfl, hb3⟩; rw [hv1]; have h4 := h3.below hb3; clear hb3))
  go_upto_region 8 with (go_at_call 21; refine (cNewSame pp qq _).mono ?_; rintro e w5 ⟨px, rfl, M5⟩; have h6 := h5.below M5.bel; have X0 : Mx w w5 px 102 (Sx.same pp qq) := M5.mx h5.bel.size (by decide) (by decide) (Sx.ok_same _ _); clear M5)
  go_upto_region 9 with (go_at_call 21; refine (cNewSame qq pp _).mono ?_; rintro e w6 ⟨pz, rfl, M6⟩; have h7 := h6.below M6.bel; have Z0 : Mx w w6 pz 102 (Sx.same qq pp) := M6.mx h6.bel.size (by decide) (by decide) (Sx.ok_same _ _); have nxz : px ≠ pz := (by have := X0.lt; have := M6.new; omega); have X1 := X0.below M6.bel; clear M6)
  go_wp2_with (fail)
  refine wp_loop_rounds 3 ?_
  rw [rounds_succ]
  go_wp2_with (first
    | (go_at_call_of 22 (pt px); refine (tS h7 X1 (by decide)).mono ?_; rintro e w7 ⟨rfl, h8, X2, o7⟩; rw [e1] at X2 ⊢; rw [e2] at h8; obtain ⟨vx, Bx'⟩ := X1.blk; have Z1 := Z0.oth1 o7 Bx' (by decide) (Ne.symm nxz); clear Bx' o7)
    | (go_at_call_of 22 (pt pz); refine (tS h8 Z1 (by decide)).mono ?_; rintro e w8 ⟨rfl, h9, Z2, o8⟩; rw [e3] at Z2 ⊢; rw [e4] at h9; obtain ⟨vz, Bz'⟩ := Z1.blk; have X3 := X2.oth1 o8 Bz' (by decide) nxz; clear Bz' o8))
  rw [rounds_succ]
  go_wp2_with (first
    | (go_at_call_of 22 (pt px); refine (tS h9 X3 (by decide)).mono ?_; rintro e w9 ⟨rfl, h10', X4, o9⟩; rw [e5] at X4 ⊢; rw [e6] at h10'; obtain ⟨vx, Bx'⟩ := X3.blk; have Z3 := Z2.oth1 o9 Bx' (by decide) (Ne.symm nxz); clear Bx' o9)
    | (go_at_call_of 22 (pt pz); refine (tS h10' Z3 (by decide)).mono ?_; rintro e w10 ⟨rfl, h11', Z4, o10⟩; rw [e7] at Z4 ⊢; rw [e8] at h11'; obtain ⟨vz, Bz'⟩ := Z3.blk; have X5 := X4.oth1 o10 Bz' (by decide) nxz; clear Bz' o10))
  rw [rounds_succ]
  obtain ⟨g, cp, hs⟩ := h11'.seen
  clear h10' h9 h8 h7 h6 h5 h4 h3
  by_cases hp : pp = 0 ∨ qq = 0
  · have hY : sameP S pp qq = (pp == qq) := by rw [sameP, if_neg (by omega)]
    obtain ⟨yy, hyy⟩ : ∃ yy, (pp == qq) = yy := ⟨_, rfl⟩
    rw [hY, hyy] at f1 f2
    have nb1 : (binOp .eql 4 (.bool yy) (.bool yy)) = (binOp .eql 4 (.bool yy) (.bool yy)) := rfl
    have beq : ∀ w, (binOp .eql 4 (.bool yy) (.bool yy)).run Tryd.prog w = .ok (.bool true) w := fun w => by cases yy <;> kernel_rfl
    obtain ⟨vx, Bx'⟩ := X5.blk
    obtain ⟨vz, Bz'⟩ := Z4.blk
    rcases hp0 : (pp != 0) with _ | _
    · go_wp2_with (first
        | (go_at_call_of 23 (pt px); refine (cYes Bx').mono ?_; rintro e wx ⟨rfl, hwx⟩; rw [hwx, f1]; clear hwx wx)
        | (go_at_call_of 23 (pt pz); refine (cYes Bz').mono ?_; rintro e wx ⟨rfl, hwx⟩; rw [hwx, f2]; clear hwx wx)
        | (go_at_call 22; refine (tS h11' X5 (by decide)).mono ?_; rintro e w11 ⟨rfl, h12, _, _⟩; rw [f3, f5]))
      go_ret
      exact ⟨rfl, h12.bel⟩
    · have hq0 : (qq != 0) = false := by
        rcases hp with h | h
        · simp [h] at hp0
        · simp [h]
      go_wp2_with (first
        | (go_at_call_of 23 (pt px); refine (cYes Bx').mono ?_; rintro e wx ⟨rfl, hwx⟩; rw [hwx, f1]; clear hwx wx)
        | (go_at_call_of 23 (pt pz); refine (cYes Bz').mono ?_; rintro e wx ⟨rfl, hwx⟩; rw [hwx, f2]; clear hwx wx)
        | (go_at_call 22; refine (tS h11' X5 (by decide)).mono ?_; rintro e w11 ⟨rfl, h12, _, _⟩; rw [f3, f5]))
      go_ret
      exact ⟨rfl, h12.bel⟩
  · have hY : sameP S pp qq = (movP S pp == movP S qq) := by rw [sameP, if_pos (by omega)]
    have hp0 : (pp != 0) = true := by simp; omega
    have hq0 : (qq != 0) = true := by simp; omega
    obtain ⟨i1, hi1, ei1⟩ := A1.resolve_left (by omega)
    obtain ⟨i2, hi2, ei2⟩ := A2.resolve_left (by omega)
    obtain ⟨n1, hn1⟩ : ∃ n : Nat, 96 + 4 * i1 = n := ⟨_, rfl⟩
    obtain ⟨n2, hn2⟩ : ∃ n : Nat, 96 + 4 * i2 = n := ⟨_, rfl⟩
    obtain rfl : pp = (n1 : Int) := by omega
    obtain rfl : qq = (n2 : Int) := by omega
    have g1 : S.got (n1 : Int) = S.word n1 := In.got hSl ⟨by omega, by omega⟩
    have g2 : S.got (n2 : Int) = S.word n2 := In.got hSl ⟨by omega, by omega⟩
    have r1 := h11'.rng2.got (n1 : Int)
    have r2 := h11'.rng2.got (n2 : Int)
    rw [g1] at r1
    rw [g2] at r2
    have c0 := hs.c0
    rw [hSl] at c0
    have c1 := hs.at hSl n1 (by omega)
    have c2 := hs.at hSl n2 (by omega)
    have ly := hs.ly
    have lg := hs.lg
    obtain ⟨u1, hu1⟩ : ∃ u, S.word (n1 : Int) = u := ⟨_, rfl⟩
    obtain ⟨u2, hu2⟩ : ∃ u, S.word (n2 : Int) = u := ⟨_, rfl⟩
    have hm1 : movP S n1 = mv u1 n1 := by rw [movP, g1, hu1]
    have hm2 : movP S n2 = mv u2 n2 := by rw [movP, g2, hu2]
    rw [hu1] at r1 c1
    rw [hu2] at r2 c2
    obtain ⟨m1, hmm1⟩ : ∃ m, mv u1 (n1 : Int) = m := ⟨_, rfl⟩
    obtain ⟨m2, hmm2⟩ : ∃ m, mv u2 (n2 : Int) = m := ⟨_, rfl⟩
    rw [hmm1] at hm1
    rw [hmm2] at hm2
    rw [hY, hm1, hm2] at f1 f2
    obtain ⟨yy, hyy⟩ : ∃ yy, (m1 == m2) = yy := ⟨_, rfl⟩
    rw [hyy] at f1 f2
    have beq : ∀ w, (binOp .eql 4 (.bool yy) (.bool yy)).run Tryd.prog w = .ok (.bool true) w := fun w => by cases yy <;> kernel_rfl
    have b1 : (n1 : Int) < 160 := by omega
    have b2 : (n2 : Int) < 160 := by omega
    have b3 : (0 : Int) ≤ (n1 : Int) := by omega
    have b4 : (0 : Int) ≤ (n2 : Int) := by omega
    clear hu1 hu2 g1 g2 hm1 hm2 ei1 ei2 hn1 hn2
    go_upto_region 18 with (fail)
    have keep : ∀ w', Below w10.heap.size w10 w' → w'.cell? ⟨y, 0, none⟩ = some (.slice (some ⟨g, 0, none⟩) 160 cp) ∧ w'.cell? ⟨g, n1, none⟩ = some (.int .u64 u1) ∧ w'.cell? ⟨g, n2, none⟩ = some (.int .u64 u2) := fun w' hb => ⟨bcell hb ly c0, bcell hb lg c1, bcell hb lg c2⟩
    have hbd : Below w10.heap.size w10 w10.drew := (Below.refl w10.heap.size w10).drew
    have RD := keep _ hbd
    go_region_held3 (fun w' => w'.cell? ⟨y, 0, none⟩ = some (.slice (some ⟨g, 0, none⟩) 160 cp) ∧ w'.cell? ⟨g, n1, none⟩ = some (.int .u64 u1) ∧ w'.cell? ⟨g, n2, none⟩ = some (.int .u64 u2)) (first | assumption | exact RD | exact keep _ (by assumption))
      (first
        | (have hh := hb12; go_at_call 20; refine (H.rMoved u2 n2 r2.1 r2.2 _).mono ?_; rintro e w13 ⟨rfl, hw13⟩; rw [hmm2]; have hb13 : Below w10.heap.size w10 w13 := (by rw [hw13]; exact (hb12.alloc hb12.size _).alloc (Nat.le_trans hb12.size (by simp)) _); clear hw13)
        | (go_at_call 20; refine (H.rMoved u1 n1 r1.1 r1.2 _).mono ?_; rintro e w12 ⟨rfl, hw12⟩; rw [hmm1]; have hb12 : Below w10.heap.size w10 w12 := (by rw [hw12]; exact (hbd.alloc hbd.size _).alloc (Nat.le_trans hbd.size (by simp)) _); clear hw12))
    clear keep RD
    have h13 := h11'.below hb13
    have X6 := X5.below hb13
    have Z6 := Z4.below hb13
    obtain ⟨vx, Bx'⟩ := X6.blk
    obtain ⟨vz, Bz'⟩ := Z6.blk
    go_wp2_with (first
      | (go_at_call_of 23 (pt px); refine (cYes Bx').mono ?_; rintro e wx ⟨rfl, hwx⟩; rw [hwx, f1]; clear hwx wx)
      | (go_at_call_of 23 (pt pz); refine (cYes Bz').mono ?_; rintro e wx ⟨rfl, hwx⟩; rw [hwx, f2]; clear hwx wx)
      | (go_at_call 22; refine (tS h13 X6 (by decide)).mono ?_; rintro e w14 ⟨rfl, h14, _, _⟩; rw [f3, f5]))
    go_ret
    exact ⟨rfl, h14.bel⟩
end Go.Proofs.YtgakmpfmckikgaaDoor
