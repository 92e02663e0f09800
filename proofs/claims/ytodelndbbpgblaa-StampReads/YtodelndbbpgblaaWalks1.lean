/-
  The walks of three laws of layer 3: each returns true, and writes nothing that was there.
-/
import Derived.Test.YtodelndbbpgblaaRefs
namespace Go.Proofs.Ytodelndbbpgblaa
open Go.ChangeShapes Go.WideShapes Go.ChangeAt Go.RowKit
open Plain

theorem wReads (a x : Int) (h : 0 ≤ a) (h' : a ≤ 18446744073709551615) (w : World) :
    Calls Try.prog 4 #[.int .u64 a, .int .i64 x] w fun e w' => e = .returned (.bool true) ∧ Below w.heap.size w w' := by
  go_enter Try.func4, Try.ntmps4
  go_wp2_with (first
    | (go_at_call 9; refine (cShown _).mono ?_; rintro e w1 ⟨rfl, hb1⟩; have hs := hb1.size)
    | (go_at_call 16; refine (cOfTop a h h' _).mono ?_; rintro e w2 ⟨rfl, rfl⟩)
    | (go_at_call 17; refine (rOfTop a h h' _).mono ?_; rintro e w2 ⟨rfl, rfl⟩)
    | (go_at_call 18; refine (cOfPhase a h h' _).mono ?_; rintro e w2 ⟨rfl, rfl⟩)
    | (go_at_call 19; refine (rOfPhase a h h' _).mono ?_; rintro e w2 ⟨rfl, rfl⟩)
    | (go_at_call 20; refine (cOfBlock a h h' _).mono ?_; rintro e w2 ⟨rfl, rfl⟩)
    | (go_at_call 21; refine (rOfBlock a h h' _).mono ?_; rintro e w2 ⟨rfl, rfl⟩)
    | (go_at_call 22; refine (gNext a x h h' _).mono ?_; rintro e w3 ⟨rfl, hb3⟩)
    | (go_at_call 23; refine (hNext a x h h' _).mono ?_; rintro e w4 ⟨rfl, hb4⟩))
  go_ret
  exact ⟨rfl, bt (bt (bt hb1 (by go_grown)) hb3) hb4⟩

theorem low1 (a : Int) : tw (t0 a) (t1 a) = a % 4503599627370496 := by unfold tw t0 t1; omega
theorem low2 (a : Int) : pw (p0 a) (p1 a) (p2 a) (p3 a) = a % 70368744177664 := by unfold pw p0 p1 p2 p3; omega
theorem low3 (a : Int) : bw (b0 a) (b1 a) (b2 a) (b3 a) = a % 4096 := by unfold bw b0 b1 b2 b3; omega

theorem wLow (a : Int) (h : 0 ≤ a) (h' : a ≤ 18446744073709551615) (w : World) :
    Calls Try.prog 7 #[.int .u64 a] w fun e w' => e = .returned (.bool true) ∧ Below w.heap.size w w' := by
  have e1 : a.tmod 4503599627370496 = a % 4503599627370496 := Int.tmod_eq_emod_of_nonneg h
  have e2 : a.tmod 70368744177664 = a % 70368744177664 := Int.tmod_eq_emod_of_nonneg h
  have e3 : a.tmod 4096 = a % 4096 := Int.tmod_eq_emod_of_nonneg h
  have l1 := low1 a
  have l2 := low2 a
  have l3 := low3 a
  go_enter Try.func7, Try.ntmps7
  go_wp2_with (first
    | (go_at_call 9; refine (cShown _).mono ?_; rintro e w1 ⟨rfl, hb1⟩; have hs := hb1.size)
    | (go_at_call 16; refine (cOfTop a h h' _).mono ?_; rintro e w2 ⟨rfl, rfl⟩)
    | (go_at_call 18; refine (cOfPhase a h h' _).mono ?_; rintro e w2 ⟨rfl, rfl⟩)
    | (go_at_call 20; refine (cOfBlock a h h' _).mono ?_; rintro e w2 ⟨rfl, rfl⟩)
    | (go_at_call 10; refine (gTop _ _ _).mono ?_; rintro e w3 ⟨rfl, hb3⟩)
    | (go_at_call 12; refine (gPhase _ _ _ _ _).mono ?_; rintro e w4 ⟨rfl, hb4⟩)
    | (go_at_call 14; refine (gBlock _ _ _ _ _).mono ?_; rintro e w5 ⟨rfl, hb5⟩))
  go_ret
  exact ⟨rfl, bt (bal (bt (bal (bt (bal hb1 _) hb3) _) hb4) _) hb5⟩
end Go.Proofs.Ytodelndbbpgblaa
