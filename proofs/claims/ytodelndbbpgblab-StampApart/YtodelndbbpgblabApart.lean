/-
  The walk of the law on two heads and two phases: it returns true, and writes nothing that was there.
-/
import Derived.Test.YtodelndbbpgblabApart0
import Derived.Test.YtodelndbbpgblabEqFields
import Derived.Deep.RegionHeld3
namespace Go.Proofs.Ytodelndbbpgblab
open Go.ChangeShapes Go.WideShapes Go.ChangeAt Go.RowKit
open Plain

set_option maxHeartbeats 800000 in
theorem wApartAt (a0 a1 b0 b1 p q r s p' q' r' s' x0 x1 y0 y1 u0 u1 u2 u3 v0 v1 v2 v3 : Int) (hx0 : t0 (tw a0 a1) = x0) (hx1 : t1 (tw a0 a1) = x1) (hy0 : t0 (tw b0 b1) = y0) (hy1 : t1 (tw b0 b1) = y1) (hu0 : p0 (pw p q r s) = u0) (hu1 : p1 (pw p q r s) = u1) (hu2 : p2 (pw p q r s) = u2) (hu3 : p3 (pw p q r s) = u3) (hv0 : p0 (pw p' q' r' s') = v0) (hv1 : p1 (pw p' q' r' s') = v1) (hv2 : p2 (pw p' q' r' s') = v2) (hv3 : p3 (pw p' q' r' s') = v3) (f k : Bool) (e1 : (tw x0 x1 == tw y0 y1) = f) (e2 : ∀ w : World, (binOp .eql 29 (.agg #[.int .i64 x0, .int .i64 x1]) (.agg #[.int .i64 y0, .int .i64 y1])).run Try.prog w = .ok (.bool f) w) (e3 : (pw u0 u1 u2 u3 == pw v0 v1 v2 v3) = k) (e4 : ∀ w : World, (binOp .eql 26 (.agg #[.int .i64 u0, .int .i64 u1, .int .i64 u2, .int .i64 u3]) (.agg #[.int .i64 v0, .int .i64 v1, .int .i64 v2, .int .i64 v3])).run Try.prog w = .ok (.bool k) w) (w : World) :
    Calls Try.prog 3 #[.agg #[.int .i64 a0, .int .i64 a1, .int .i64 b0, .int .i64 b1], .agg #[.int .i64 p, .int .i64 q, .int .i64 r, .int .i64 s], .agg #[.int .i64 p', .int .i64 q', .int .i64 r', .int .i64 s']] w fun e w' => e = .returned (.bool true) ∧ Below w.heap.size w w' := by
  have K0 := ((((Kept.nil w).four a0 a1 b0 b1 24).four p q r s 26).four p' q' r' s' 26)
  simp at K0
  have c0 := tw_pos a0 a1; have c1 := tw_le a0 a1; have c2 := tw_pos b0 b1; have c3 := tw_le b0 b1
  have c4 := pw_pos p q r s; have c5 := pw_le p q r s; have c6 := pw_pos p' q' r' s'; have c7 := pw_le p' q' r' s'
  go_enter Try.func3, Try.ntmps3
  go_wp2_with (go_at_call 4; refine (cShown _).mono ?_; rintro e w1 ⟨rfl, hb1⟩; have B1 := bt (bal (bal (bal (Below.refl w.heap.size w) _) _) _) hb1; have K1 := K0.on hb1; clear hb1 K0; have d0 : w1.cell? ⟨w.heap.size, 0, none⟩ = some (.int .i64 a0) := (K1 (w.heap.size, 0, a0) (by simp)).2; have d1 : w1.cell? ⟨w.heap.size, 1, none⟩ = some (.int .i64 a1) := (K1 (w.heap.size, 1, a1) (by simp)).2)
  go_at_call 6
  refine (gTop a0 a1 _).mono ?_
  rintro e w2 ⟨rfl, hb⟩
  have B2 := bt B1 hb
  have K2 := K1.on hb
  clear hb K1 B1 d0 d1
  have d0 : w2.cell? ⟨w.heap.size, 2, none⟩ = some (.int .i64 b0) := (K2 (w.heap.size, 2, b0) (by simp)).2
  have d1 : w2.cell? ⟨w.heap.size, 3, none⟩ = some (.int .i64 b1) := (K2 (w.heap.size, 3, b1) (by simp)).2
  have l0 : w.heap.size < w2.heap.size := (K2 (w.heap.size, 0, a0) (by simp)).1
  have l1 : w.heap.size < w2.heap.size + 1 := Nat.lt_succ_of_lt l0
  go_wp2_with (go_at_call 5; refine (cOfTop _ c0 c1 _).mono ?_; rintro e wx ⟨rfl, rfl⟩)
  have K := (K2.alloc (.cells #[.int .i64 x0, .int .i64 x1] 29)).two x0 x1 29
  have B := bal (bal B2 (.cells #[.int .i64 x0, .int .i64 x1] 29)) (.cells #[.int .i64 x0, .int .i64 x1] 29)
  simp at K
  go_at_call 6
  refine (gTop b0 b1 _).mono ?_
  rintro e w3 ⟨rfl, hb⟩
  have B3 := bt B hb
  have K3 := K.on hb
  clear hb K B d0 d1 l0 l1 K2 B2
  have d0 : w3.cell? ⟨w.heap.size + 1, 0, none⟩ = some (.int .i64 p) := (K3 (w.heap.size + 1, 0, p) (by simp)).2
  have d1 : w3.cell? ⟨w.heap.size + 1, 1, none⟩ = some (.int .i64 q) := (K3 (w.heap.size + 1, 1, q) (by simp)).2
  have d2 : w3.cell? ⟨w.heap.size + 1, 2, none⟩ = some (.int .i64 r) := (K3 (w.heap.size + 1, 2, r) (by simp)).2
  have d3 : w3.cell? ⟨w.heap.size + 1, 3, none⟩ = some (.int .i64 s) := (K3 (w.heap.size + 1, 3, s) (by simp)).2
  have l0 : w.heap.size + 1 < w3.heap.size := (K3 (w.heap.size + 1, 0, p) (by simp)).1
  have l1 : w.heap.size + 1 < w3.heap.size + 1 := Nat.lt_succ_of_lt l0
  go_wp2_with (go_at_call 5; refine (cOfTop _ c2 c3 _).mono ?_; rintro e wx ⟨rfl, rfl⟩)
  have K := (K3.alloc (.cells #[.int .i64 y0, .int .i64 y1] 29)).two y0 y1 29
  have B := bal (bal B3 (.cells #[.int .i64 y0, .int .i64 y1] 29)) (.cells #[.int .i64 y0, .int .i64 y1] 29)
  simp at K
  go_at_call 8
  refine (gPhase p q r s _).mono ?_
  rintro e w4 ⟨rfl, hb⟩
  have B4 := bt B hb
  have K4 := K.on hb
  clear hb K B d0 d1 d2 d3 l0 l1 K3 B3
  have d0 : w4.cell? ⟨w.heap.size + 1 + 1, 0, none⟩ = some (.int .i64 p') := (K4 (w.heap.size + 1 + 1, 0, p') (by simp)).2
  have d1 : w4.cell? ⟨w.heap.size + 1 + 1, 1, none⟩ = some (.int .i64 q') := (K4 (w.heap.size + 1 + 1, 1, q') (by simp)).2
  have d2 : w4.cell? ⟨w.heap.size + 1 + 1, 2, none⟩ = some (.int .i64 r') := (K4 (w.heap.size + 1 + 1, 2, r') (by simp)).2
  have d3 : w4.cell? ⟨w.heap.size + 1 + 1, 3, none⟩ = some (.int .i64 s') := (K4 (w.heap.size + 1 + 1, 3, s') (by simp)).2
  have l0 : w.heap.size + 1 + 1 < w4.heap.size := (K4 (w.heap.size + 1 + 1, 0, p') (by simp)).1
  have l1 : w.heap.size + 1 + 1 < w4.heap.size + 1 := Nat.lt_succ_of_lt l0
  go_wp2_with (go_at_call 7; refine (cOfPhase _ c4 c5 _).mono ?_; rintro e wx ⟨rfl, rfl⟩)
  have K := (K4.alloc (.cells #[.int .i64 u0, .int .i64 u1, .int .i64 u2, .int .i64 u3] 26)).four u0 u1 u2 u3 26
  have B := bal (bal B4 (.cells #[.int .i64 u0, .int .i64 u1, .int .i64 u2, .int .i64 u3] 26)) (.cells #[.int .i64 u0, .int .i64 u1, .int .i64 u2, .int .i64 u3] 26)
  simp at K
  go_at_call 8
  refine (gPhase p' q' r' s' _).mono ?_
  rintro e w5 ⟨rfl, hb⟩
  have B5 := bt B hb
  have K5 := K.on hb
  clear hb K B d0 d1 d2 d3 l0 l1 K4 B4
  go_wp2_with (go_at_call 7; refine (cOfPhase _ c6 c7 _).mono ?_; rintro e wx ⟨rfl, rfl⟩)
  have K := (K5.alloc (.cells #[.int .i64 v0, .int .i64 v1, .int .i64 v2, .int .i64 v3] 26)).four v0 v1 v2 v3 26
  have B := bal (bal B5 (.cells #[.int .i64 v0, .int .i64 v1, .int .i64 v2, .int .i64 v3] 26)) (.cells #[.int .i64 v0, .int .i64 v1, .int .i64 v2, .int .i64 v3] 26)
  simp at K
  clear K5 B5
  have hS : Below w.heap.size w ((w5.alloc (.cells #[.int .i64 v0, .int .i64 v1, .int .i64 v2, .int .i64 v3] 26)).alloc (.cells #[.int .i64 v0, .int .i64 v1, .int .i64 v2, .int .i64 v3] 26)) ∧ w2.heap.size + 1 < ((w5.alloc (.cells #[.int .i64 v0, .int .i64 v1, .int .i64 v2, .int .i64 v3] 26)).alloc (.cells #[.int .i64 v0, .int .i64 v1, .int .i64 v2, .int .i64 v3] 26)).heap.size ∧ w3.heap.size + 1 < ((w5.alloc (.cells #[.int .i64 v0, .int .i64 v1, .int .i64 v2, .int .i64 v3] 26)).alloc (.cells #[.int .i64 v0, .int .i64 v1, .int .i64 v2, .int .i64 v3] 26)).heap.size ∧ w4.heap.size + 1 < ((w5.alloc (.cells #[.int .i64 v0, .int .i64 v1, .int .i64 v2, .int .i64 v3] 26)).alloc (.cells #[.int .i64 v0, .int .i64 v1, .int .i64 v2, .int .i64 v3] 26)).heap.size ∧ w5.heap.size + 1 < ((w5.alloc (.cells #[.int .i64 v0, .int .i64 v1, .int .i64 v2, .int .i64 v3] 26)).alloc (.cells #[.int .i64 v0, .int .i64 v1, .int .i64 v2, .int .i64 v3] 26)).heap.size ∧ ((w5.alloc (.cells #[.int .i64 v0, .int .i64 v1, .int .i64 v2, .int .i64 v3] 26)).alloc (.cells #[.int .i64 v0, .int .i64 v1, .int .i64 v2, .int .i64 v3] 26)).cell? ⟨w2.heap.size + 1, 0, none⟩ = some (.int .i64 x0) ∧ ((w5.alloc (.cells #[.int .i64 v0, .int .i64 v1, .int .i64 v2, .int .i64 v3] 26)).alloc (.cells #[.int .i64 v0, .int .i64 v1, .int .i64 v2, .int .i64 v3] 26)).cell? ⟨w2.heap.size + 1, 1, none⟩ = some (.int .i64 x1) ∧ ((w5.alloc (.cells #[.int .i64 v0, .int .i64 v1, .int .i64 v2, .int .i64 v3] 26)).alloc (.cells #[.int .i64 v0, .int .i64 v1, .int .i64 v2, .int .i64 v3] 26)).cell? ⟨w3.heap.size + 1, 0, none⟩ = some (.int .i64 y0) ∧ ((w5.alloc (.cells #[.int .i64 v0, .int .i64 v1, .int .i64 v2, .int .i64 v3] 26)).alloc (.cells #[.int .i64 v0, .int .i64 v1, .int .i64 v2, .int .i64 v3] 26)).cell? ⟨w3.heap.size + 1, 1, none⟩ = some (.int .i64 y1) ∧ ((w5.alloc (.cells #[.int .i64 v0, .int .i64 v1, .int .i64 v2, .int .i64 v3] 26)).alloc (.cells #[.int .i64 v0, .int .i64 v1, .int .i64 v2, .int .i64 v3] 26)).cell? ⟨w4.heap.size + 1, 0, none⟩ = some (.int .i64 u0) ∧ ((w5.alloc (.cells #[.int .i64 v0, .int .i64 v1, .int .i64 v2, .int .i64 v3] 26)).alloc (.cells #[.int .i64 v0, .int .i64 v1, .int .i64 v2, .int .i64 v3] 26)).cell? ⟨w4.heap.size + 1, 1, none⟩ = some (.int .i64 u1) ∧ ((w5.alloc (.cells #[.int .i64 v0, .int .i64 v1, .int .i64 v2, .int .i64 v3] 26)).alloc (.cells #[.int .i64 v0, .int .i64 v1, .int .i64 v2, .int .i64 v3] 26)).cell? ⟨w4.heap.size + 1, 2, none⟩ = some (.int .i64 u2) ∧ ((w5.alloc (.cells #[.int .i64 v0, .int .i64 v1, .int .i64 v2, .int .i64 v3] 26)).alloc (.cells #[.int .i64 v0, .int .i64 v1, .int .i64 v2, .int .i64 v3] 26)).cell? ⟨w4.heap.size + 1, 3, none⟩ = some (.int .i64 u3) ∧ ((w5.alloc (.cells #[.int .i64 v0, .int .i64 v1, .int .i64 v2, .int .i64 v3] 26)).alloc (.cells #[.int .i64 v0, .int .i64 v1, .int .i64 v2, .int .i64 v3] 26)).cell? ⟨w5.heap.size + 1, 0, none⟩ = some (.int .i64 v0) ∧ ((w5.alloc (.cells #[.int .i64 v0, .int .i64 v1, .int .i64 v2, .int .i64 v3] 26)).alloc (.cells #[.int .i64 v0, .int .i64 v1, .int .i64 v2, .int .i64 v3] 26)).cell? ⟨w5.heap.size + 1, 1, none⟩ = some (.int .i64 v1) ∧ ((w5.alloc (.cells #[.int .i64 v0, .int .i64 v1, .int .i64 v2, .int .i64 v3] 26)).alloc (.cells #[.int .i64 v0, .int .i64 v1, .int .i64 v2, .int .i64 v3] 26)).cell? ⟨w5.heap.size + 1, 2, none⟩ = some (.int .i64 v2) ∧ ((w5.alloc (.cells #[.int .i64 v0, .int .i64 v1, .int .i64 v2, .int .i64 v3] 26)).alloc (.cells #[.int .i64 v0, .int .i64 v1, .int .i64 v2, .int .i64 v3] 26)).cell? ⟨w5.heap.size + 1, 3, none⟩ = some (.int .i64 v3) := ⟨B, (K (w2.heap.size + 1, 0, x0) (by simp)).1, (K (w3.heap.size + 1, 0, y0) (by simp)).1, (K (w4.heap.size + 1, 0, u0) (by simp)).1, (K (w5.heap.size + 1, 0, v0) (by simp)).1, (K (w2.heap.size + 1, 0, x0) (by simp)).2, (K (w2.heap.size + 1, 1, x1) (by simp)).2, (K (w3.heap.size + 1, 0, y0) (by simp)).2, (K (w3.heap.size + 1, 1, y1) (by simp)).2, (K (w4.heap.size + 1, 0, u0) (by simp)).2, (K (w4.heap.size + 1, 1, u1) (by simp)).2, (K (w4.heap.size + 1, 2, u2) (by simp)).2, (K (w4.heap.size + 1, 3, u3) (by simp)).2, (K (w5.heap.size + 1, 0, v0) (by simp)).2, (K (w5.heap.size + 1, 1, v1) (by simp)).2, (K (w5.heap.size + 1, 2, v2) (by simp)).2, (K (w5.heap.size + 1, 3, v3) (by simp)).2⟩
  clear K B
  have hD := held_on hS (Below.refl _ _).drew
  go_region_held3 (fun w' => Below w.heap.size w w' ∧ w2.heap.size + 1 < w'.heap.size ∧ w3.heap.size + 1 < w'.heap.size ∧ w4.heap.size + 1 < w'.heap.size ∧ w5.heap.size + 1 < w'.heap.size ∧ w'.cell? ⟨w2.heap.size + 1, 0, none⟩ = some (.int .i64 x0) ∧ w'.cell? ⟨w2.heap.size + 1, 1, none⟩ = some (.int .i64 x1) ∧ w'.cell? ⟨w3.heap.size + 1, 0, none⟩ = some (.int .i64 y0) ∧ w'.cell? ⟨w3.heap.size + 1, 1, none⟩ = some (.int .i64 y1) ∧ w'.cell? ⟨w4.heap.size + 1, 0, none⟩ = some (.int .i64 u0) ∧ w'.cell? ⟨w4.heap.size + 1, 1, none⟩ = some (.int .i64 u1) ∧ w'.cell? ⟨w4.heap.size + 1, 2, none⟩ = some (.int .i64 u2) ∧ w'.cell? ⟨w4.heap.size + 1, 3, none⟩ = some (.int .i64 u3) ∧ w'.cell? ⟨w5.heap.size + 1, 0, none⟩ = some (.int .i64 v0) ∧ w'.cell? ⟨w5.heap.size + 1, 1, none⟩ = some (.int .i64 v1) ∧ w'.cell? ⟨w5.heap.size + 1, 2, none⟩ = some (.int .i64 v2) ∧ w'.cell? ⟨w5.heap.size + 1, 3, none⟩ = some (.int .i64 v3)) (first | assumption | exact held_on (by assumption) (by assumption))
    (first
      | (go_at_call 6; refine (gTop _ _ _).mono ?_; rintro e w' ⟨rfl, hb⟩)
      | (go_at_call 8; refine (gPhase _ _ _ _ _).mono ?_; rintro e w' ⟨rfl, hb⟩))
  all_goals go_wp2
  all_goals go_ret
  all_goals exact ⟨rfl, by rename_i h; exact h.1⟩

theorem tw_eq (x0 x1 y0 y1 : Int) (h0 : 0 ≤ x0 ∧ x0 < 4096) (h1 : 0 ≤ x1 ∧ x1 < 1099511627776) (h2 : 0 ≤ y0 ∧ y0 < 4096) (h3 : 0 ≤ y1 ∧ y1 < 1099511627776) : (tw x0 x1 == tw y0 y1) = (x0 == y0 && x1 == y1) := by
  rw [Bool.eq_iff_iff]
  simp only [Bool.and_eq_true, beq_iff_eq]
  unfold tw
  omega
theorem pw_eq (u0 u1 u2 u3 v0 v1 v2 v3 : Int) (hu0 : 0 ≤ u0 ∧ u0 < 1099511627776) (hu1 : 0 ≤ u1 ∧ u1 < 16) (hu2 : 0 ≤ u2 ∧ u2 < 2) (hu3 : 0 ≤ u3 ∧ u3 < 2) (hv0 : 0 ≤ v0 ∧ v0 < 1099511627776) (hv1 : 0 ≤ v1 ∧ v1 < 16) (hv2 : 0 ≤ v2 ∧ v2 < 2) (hv3 : 0 ≤ v3 ∧ v3 < 2) : (pw u0 u1 u2 u3 == pw v0 v1 v2 v3) = (u0 == v0 && u1 == v1 && u2 == v2 && u3 == v3) := by
  rw [Bool.eq_iff_iff]
  simp only [Bool.and_eq_true, beq_iff_eq]
  unfold pw
  omega

theorem wApart (a0 a1 b0 b1 p q r s p' q' r' s' : Int) (w : World) :
    Calls Try.prog 3 #[.agg #[.int .i64 a0, .int .i64 a1, .int .i64 b0, .int .i64 b1], .agg #[.int .i64 p, .int .i64 q, .int .i64 r, .int .i64 s], .agg #[.int .i64 p', .int .i64 q', .int .i64 r', .int .i64 s']] w fun e w' => e = .returned (.bool true) ∧ Below w.heap.size w w' :=
  wApartAt a0 a1 b0 b1 p q r s p' q' r' s' _ _ _ _ _ _ _ _ _ _ _ _ rfl rfl rfl rfl rfl rfl rfl rfl rfl rfl rfl rfl _ _
    (tw_eq _ _ _ _ (by unfold t0; omega) (by unfold t1; omega) (by unfold t0; omega) (by unfold t1; omega)) (eqTop _ _ _ _)
    (pw_eq _ _ _ _ _ _ _ _ (by unfold p0; omega) (by unfold p1; omega) (by unfold p2; omega) (by unfold p3; omega) (by unfold p0; omega) (by unfold p1; omega) (by unfold p2; omega) (by unfold p3; omega)) (eqPhase _ _ _ _ _ _ _ _) w
end Go.Proofs.Ytodelndbbpgblab
