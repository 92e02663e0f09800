/-
  The document's examples.
-/
import Derived.Test.YtgakmpfmckikgaaDoorDl
import Derived.Test.YtgakmpfmckikgaaDoorDs3
import Derived.Test.YtgakmpfmckikgaaDoorDeq2
namespace Go.Proofs.YtgakmpfmckikgaaDoor
set_option linter.unusedVariables false
set_option maxRecDepth 100000
open Go.ChangeShapes Go.WideShapes Go.RowKit

def shS : St := laidO (tagP 0 fun _ => 0) (fldP 1 fun _ => ⟨0, 5⟩) 16
def shX : Sx := Sx.new (96 + 1 + 0) ⟨1, 96, 0, ⟨0, 0⟩, ⟨0, 0⟩⟩ ⟨false, false, false, 0⟩
def shY : Sx := Sx.plain ⟨2, 96, 3, ⟨0, 0⟩, ⟨0, 0⟩⟩ ⟨0, 0, 0⟩
theorem shown_plain : ∃ x1 s1 y2 s2 u3 s3 u4 s4, shX.next shS = x1 ∧ shX.mem shS = s1 ∧ shY.next s1 = y2 ∧ shY.mem s1 = s2 ∧ (Sx.same 96 100).next s2 = u3 ∧ (Sx.same 96 100).mem s2 = s3 ∧ u3.next s3 = u4 ∧ u3.mem s3 = s4 ∧ x1.done = true ∧ x1.hit = true ∧ x1.o = ⟨0, ⟨0, 5⟩, false⟩ ∧ y2.done = true ∧ y2.o.c = 15 ∧ (Sx.same 96 96).o.y = true ∧ u4.done = true ∧ u4.o.y = false ∧ u3.done = false :=
  ⟨_, _, _, _, _, _, _, _, rfl, rfl, rfl, rfl, rfl, rfl, rfl, rfl, by kernel_rfl, by kernel_rfl, by kernel_rfl, by kernel_rfl, by kernel_rfl, by kernel_rfl, by kernel_rfl, by kernel_rfl, by kernel_rfl⟩
set_option maxHeartbeats 2000000 in
theorem cShown (w : World) (W : H.Wid w) :
    Calls Tryd.prog 8 #[] w fun e w' => e = .returned (.bool true) ∧ Below w.heap.size w w' := by
  obtain ⟨x1, s1, y2, s2, u3, s3, u4, s4, e0, e1, e2, e3, e4, e5, e6, e7, f0, f1, f2, f3, f4, f5, f6, f7, f8⟩ := shown_plain
  go_enter Tryd.func8, Tryd.ntmps8
  go_upto_region 2 with (go_at_call 9; refine (cLaid (at_ := none) (lt := 0) (ct := 0) (zt := fun _ => 0) (zl := fun _ => ⟨0, 5⟩) _ (W.on (by go_grown)) (.inl rfl) (.inr ⟨w.heap.size, 0, rfl, by simp, fun j hj => by obtain rfl : j = 0 := (by omega); exact ⟨by go_cell, by go_cell, ⟨by decide, by decide, by decide, by decide⟩⟩⟩)).mono ?_; rintro e w1 ⟨b, y, rfl, h1⟩; have h2 : Hand w w1 b shS 128 := h1.one.lift (by go_grown) W; clear h1)
  go_upto_region 3 with (go_at_call_of 19 (Value.int IntKind.i64 96); refine (cNewDirect 96 ⟨1, 96, 0, ⟨0, 0⟩, ⟨0, 0⟩⟩ ⟨false, false, false, 0⟩ _ (by decide) (by decide) (by decide) (by decide)).mono ?_; rintro e wnx ⟨px, rfl, MMx⟩; have H_x := h2.below MMx.bel; have x_0 : Mx w wnx px 94 shX := MMx.mx h2.bel.size (by decide) (by decide) (Sx.ok_new _ _ _); clear MMx h2)
  go_upto_region 4 with (go_at_call 24; refine (cNewPlain ⟨2, 96, 3, ⟨0, 0⟩, ⟨0, 0⟩⟩ ⟨0, 0, 0⟩ _).mono ?_; rintro e wny ⟨py, rfl, MMy⟩; have H_y := H_x.below MMy.bel; have y_0 : Mx w wny py 95 shY := MMy.mx H_x.bel.size (by decide) (by decide) (Sx.ok_plain _ (by decide) (by decide)); have nxy : px ≠ py := (by have := x_0.lt; have := MMy.new; omega); have x_0y := x_0.below MMy.bel; clear MMy H_x x_0)
  go_upto_region 5 with (go_at_call 21; refine (cNewSame 96 96 _).mono ?_; rintro e wnz ⟨pz, rfl, MMz⟩; have H_z := H_y.below MMz.bel; have z_0 : Mx w wnz pz 102 (Sx.same 96 96) := MMz.mx H_y.bel.size (by decide) (by decide) (Sx.ok_same _ _); have nxz : px ≠ pz := (by have := x_0y.lt; have := MMz.new; omega); have x_0yz := x_0y.below MMz.bel; have nyz : py ≠ pz := (by have := y_0.lt; have := MMz.new; omega); have y_0z := y_0.below MMz.bel; clear MMz H_y x_0y y_0)
  go_upto_region 6 with (go_at_call 21; refine (cNewSame 96 100 _).mono ?_; rintro e wnu ⟨pu, rfl, MMu⟩; have H_u := H_z.below MMu.bel; have u_0 : Mx w wnu pu 102 (Sx.same 96 100) := MMu.mx H_z.bel.size (by decide) (by decide) (Sx.ok_same _ _); have nxu : px ≠ pu := (by have := x_0yz.lt; have := MMu.new; omega); have x_0yzu := x_0yz.below MMu.bel; have nyu : py ≠ pu := (by have := y_0z.lt; have := MMu.new; omega); have y_0zu := y_0z.below MMu.bel; have nzu : pz ≠ pu := (by have := z_0.lt; have := MMu.new; omega); have z_0u := z_0.below MMu.bel; clear MMu H_z x_0yz y_0z z_0)
  go_upto_region 8 with (fail)
  go_upto_region 9 with (go_at_call_of 12 (pt px); refine (hDStep H_u x_0yzu (by decide)).mono ?_; rintro e v1 ⟨rfl, G1, X1, o1⟩; rw [e0] at X1 ⊢; rw [e1] at G1; rw [f0]; obtain ⟨vv1, Bv1⟩ := x_0yzu.blk; have y_v1 := y_0zu.oth1 o1 Bv1 (by decide) (Ne.symm nxy); have z_v1 := z_0u.oth1 o1 Bv1 (by decide) (Ne.symm nxz); have u_v1 := u_0.oth1 o1 Bv1 (by decide) (Ne.symm nxu); have x_v1 := X1; clear o1 X1 H_u Bv1 x_0yzu y_0zu z_0u u_0)
  go_upto_region 10 with (go_at_call_of 13 (pt py); refine (hPStep G1 y_v1 (by decide)).mono ?_; rintro e v2 ⟨rfl, G2, X2, o2⟩; rw [e2] at X2 ⊢; rw [e3] at G2; rw [f3]; obtain ⟨vv2, Bv2⟩ := y_v1.blk; have x_v2 := x_v1.oth1 o2 Bv2 (by decide) nxy; have z_v2 := z_v1.oth1 o2 Bv2 (by decide) (Ne.symm nyz); have u_v2 := u_v1.oth1 o2 Bv2 (by decide) (Ne.symm nyu); have y_v2 := X2; clear o2 X2 G1 Bv2 x_v1 y_v1 z_v1 u_v1)
  obtain ⟨vz, Bz⟩ := z_v2.blk
  go_upto_region 11 with (go_at_call 23; refine (cYes Bz).mono ?_; rintro e wx ⟨rfl, hwx⟩; rw [hwx, f5]; clear hwx wx)
  clear Bz
  go_upto_region 12 with (go_at_call_of 22 (pt pu); refine (hSStep G2 u_v2 (by decide)).mono ?_; rintro e v3 ⟨rfl, G3, X3, o3⟩; rw [e4] at X3 ⊢; rw [e5] at G3; rw [f8]; obtain ⟨vv3, Bv3⟩ := u_v2.blk; have x_v3 := x_v2.oth1 o3 Bv3 (by decide) nxu; have y_v3 := y_v2.oth1 o3 Bv3 (by decide) nyu; have z_v3 := z_v2.oth1 o3 Bv3 (by decide) nzu; have u_v3 := X3; clear o3 X3 G2 Bv3 x_v2 y_v2 z_v2 u_v2)
  go_upto_region 13 with (go_at_call_of 22 (pt pu); refine (hSStep G3 u_v3 (by decide)).mono ?_; rintro e v4 ⟨rfl, G4, X4, o4⟩; rw [e6] at X4 ⊢; rw [e7] at G4; rw [f6]; obtain ⟨vv4, Bv4⟩ := u_v3.blk; have x_v4 := x_v3.oth1 o4 Bv4 (by decide) nxu; have y_v4 := y_v3.oth1 o4 Bv4 (by decide) nyu; have z_v4 := z_v3.oth1 o4 Bv4 (by decide) nzu; have u_v4 := X4; clear o4 X4 G3 Bv4 x_v3 y_v3 z_v3 u_v3)
  obtain ⟨vx, Bx'⟩ := x_v4.blk
  obtain ⟨vy, By⟩ := y_v4.blk
  obtain ⟨vu, Bu⟩ := u_v4.blk
  have q0 := fOut0
  have q1 : ∀ w, (binOp .eql 45 (.agg #[.int .i64 0, .int .i64 0, .int .i64 5, .bool false]) (.agg #[.int .i64 0, .int .i64 0, .int .i64 5, .bool false])).run Tryd.prog w = .ok (.bool true) w := fun w => eqOut ⟨0, ⟨0, 5⟩, false⟩ ⟨0, ⟨0, 5⟩, false⟩ w
  have hx : x1.o.val = .agg #[.int .i64 0, .int .i64 0, .int .i64 5, .bool false] := by rw [f2]; rfl
  have hy : y2.o.val = .agg #[.int .i64 15, .int .i64 y2.o.v.k, .int .i64 y2.o.v.n, .bool y2.o.y] := by rw [← f4]; rfl
  go_wp2_with (first
    | (go_at_call 25; refine (cDHit Bx').mono ?_; rintro e wx ⟨rfl, hwx⟩; rw [hwx, f1]; clear hwx wx)
    | (go_at_call 14; refine (cDResult Bx').mono ?_; rintro e r1 ⟨rfl, hb1⟩; rw [hx]; have K1 := G4.below hb1; have By1 := By.below hb1; have Bu1 := Bu.below hb1)
    | (go_at_call 15; refine (cPResult By1).mono ?_; rintro e r2 ⟨rfl, hb2⟩; rw [hy]; have K2 := K1.below hb2; have Bu2 := Bu1.below hb2)
    | (go_at_call 23; refine (cYes Bu2).mono ?_; rintro e wx ⟨rfl, hwx⟩; rw [hwx, f7]; clear hwx wx))
  go_ret
  exact ⟨rfl, K2.bel⟩
end Go.Proofs.YtgakmpfmckikgaaDoor
