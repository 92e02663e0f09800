/-
  The walk of the law on a head that is replaced again and again: it returns true, and writes nothing that was there.
-/
import Derived.Test.YtodelndbbpgblaaVersParts
import Derived.OwnWalk
namespace Go.Proofs.Ytodelndbbpgblaa
open Go.ChangeShapes Go.WideShapes Go.ChangeAt Go.RowKit
open Plain

theorem info64 : (Try.prog.info? 29).map (fun i => (i.zero, i.size, i.bytes)) = some (some (.int .u64 0), 1, 8) := by kernel_rfl

/-- the next head, called while a row of the call's own lies there -/
theorem rNext (a : Int) (z : Nat → Int) (k B : Nat) (h : 0 ≤ a) (h' : a ≤ 18446744073709551615) (v : Value) (w w0 : World) (hnx : Below B w0 w) (hB : B ≤ w.heap.size) (hown : w.ownsRow B 29 1 v (k + 1) (row a z k)) :
    Calls Try.prog 22 #[.int .u64 (sq a z k), .int .i64 (z k)] w fun e w' => e = .returned (.int .u64 (nx (sq a z k) (z k))) ∧ Below B w0 w' ∧ B ≤ w'.heap.size ∧ w'.ownsRow B 29 1 v (k + 1) (row a z k) :=
  (gNext _ _ (sq_bounds h h' z k).1 (sq_bounds h h' z k).2 w).mono fun _ _ ⟨he, hb⟩ => ⟨he, hnx.trans (hb.mono hB), Nat.le_trans hB hb.size, own_on hown hb⟩

theorem rOf (a : Int) (z : Nat → Int) (k B : Nat) (v : Value) (w w0 : World) (hnx : Below B w0 w) (hB : B ≤ w.heap.size) (hown : w.ownsRow B 29 1 v (k + 1) (row a z k)) :
    Calls Try.prog 16 #[.int .u64 (nx (sq a z k) (z k))] w fun e w' => e = .returned (.agg #[.int .i64 (t0 (nx (sq a z k) (z k))), .int .i64 (t1 (nx (sq a z k) (z k)))]) ∧ Below B w0 w' ∧ B ≤ w'.heap.size ∧ w'.ownsRow B 29 1 v (k + 1) (row a z k) :=
  (cOfTop _ (nx_pos _ _) (nx_le _ _) w).mono fun _ _ ⟨he, hw⟩ => ⟨he, hw ▸ hnx.alloc hB _, hw ▸ (by simp; omega), hw ▸ hown.alloc _⟩

theorem rel_next {a : Int} {z : Nat → Int} {k B : Nat} {w wr w1 : World} {v v' : Value} {o : Obj} (hB : B ≤ wr.heap.size) (hown : wr.ownsRow B 29 1 v (k + 1) (row a z k)) (hnx : Below B w wr)
    (hown' : w1.ownsRow B 29 1 v' (k + 1 + 1) (row a z k ++ [.int .u64 (nx (sq a z k) (z k))])) (hgrow : (wr.alloc o).grownBy w1 v.ownBlock) :
    w1.ownsRow B 29 1 v' (k + 1 + 1) (row a z (k + 1)) ∧ Below B w w1 :=
  ⟨by rw [row_succ]; exact hown', (hnx.alloc hB o).grown hgrow (by simp; omega) fun j hj => (hown.lt j hj).1⟩

set_option maxRecDepth 100000 in
set_option maxHeartbeats 800000 in
theorem wVers (a : Int) (h : 0 ≤ a) (h' : a ≤ 18446744073709551615) (b off len cap : Nat) (z : Nat → Int) (w : World) (hbB : b < w.heap.size)
    (hc : ∀ j, j < len → w.cell? ⟨b, off + j, none⟩ = some (.int .i64 (z j))) :
    Calls Try.prog 8 #[.int .u64 a, .slice (some ⟨b, off, none⟩) len cap] w fun e w' => e = .returned (.bool true) ∧ Below w.heap.size w w' := by
  obtain ⟨i0, hi, hz0, hz1, hz2⟩ := info_parts info64
  have f1 := field1 (t0 a) (t1 a)
  go_enter Try.func8, Try.ntmps8
  go_wp2_with (first
    | (go_at_call 9; refine (cShown _).mono ?_; rintro e w1 ⟨rfl, hb1⟩; have hs1 := hb1.size)
    | (go_at_call 16; refine (cOfTop a h h' _).mono ?_; rintro e w2 ⟨rfl, rfl⟩))
  go_loopw [0, 6, 7, 8] (fun u v n i wr => ∃ k : Nat, k ≤ 40 ∧ k ≤ len ∧ u = .int .u64 (sq a z k) ∧ n = .int .i64 (t1 (sq a z k)) ∧ i = .int .i64 k ∧ wr.ownsRow w.heap.size 29 1 v (k + 1) (row a z k) ∧ Below w.heap.size w wr)
    (fun _ _ _ i _ => 40 - (intOf i).toNat)
  case atStart => exact ⟨0, by omega, Nat.zero_le _, rfl, rfl, rfl, (own_first w1 w.heap.size a z 29 hs1).alloc _, bal (bal hb1 _) _⟩
  case round =>
    obtain ⟨k, hk, hkl, rfl, rfl, rfl, hown, hnx⟩ := hrel
    obtain ⟨g, cp, rfl, hg0, hg1, hgc⟩ := own_open hown
    obtain ⟨wo, rfl⟩ : ∃ wo : World, wo = wr := ⟨_, rfl⟩
    have hB : w.heap.size ≤ wo.heap.size := hnx.size
    by_cases hlt : k < len
    case neg =>
      go_wp2
      go_ret
      exact ⟨rfl, hnx⟩
    by_cases h40 : k < 40
    case neg =>
      go_wp2
      go_ret
      exact ⟨rfl, hnx⟩
    have hcl : wo.cell? ⟨b, off + k, none⟩ = some (.int .i64 (z k)) := (hnx.cell hbB).trans (hc k hlt)
    have n0 := nx_pos (sq a z k) (z k)
    have n1 := nx_le (sq a z k) (z k)
    have v0 := (t1_bounds (sq a z k)).1
    have v1 := (t1_bounds (sq a z k)).2
    have nv := next_ver (sq a z k) (z k)
    have f2 := field1 (t0 (nx (sq a z k) (z k))) (t1 (nx (sq a z k) (z k)))
    go_wp2_with (first
      | (go_at_call 22; refine (rNext a z k w.heap.size h h' _ wo w hnx hB hown).mono ?_; rintro e w2 ⟨rfl, hb2, hs2, hown2⟩)
      | (go_at_call 16; refine (rOf a z k w.heap.size _ w2 w hb2 hs2 hown2).mono ?_; rintro e w3 ⟨rfl, hb3, hs3, hown3⟩))
    obtain ⟨g', cp', e', _, hg3, hgc3⟩ := own_open hown3
    simp only [Value.slice.injEq, Option.some.injEq, Addr.mk.injEq] at e'
    obtain ⟨⟨rfl, _⟩, _, rfl⟩ := e'
    go_loop [9] (fun q => ∃ j : Nat, j ≤ k + 1 ∧ q = .int .i64 j) (fun q => k + 1 - (intOf q).toNat)
    case atStart => exact ⟨0, Nat.zero_le _, rfl⟩
    case round =>
      obtain ⟨j, hj, rfl⟩ := hrel
      by_cases hjk : j < k + 1
      · have hcj := hgc3 j hjk
        have ne : (sq a z j == nx (sq a z k) (z k)) = false := sq_apart a z j (k + 1) hjk (by omega)
        go_wp2
        go_round
        case rel => exact ⟨j + 1, by omega, by go_num⟩
        case measure => simp [intOf]; omega
      · go_wp2_with (at_builtin; refine wpList_append_own _ rfl _ _ 41 rfl w.heap.size 29 i0 (.int .u64 0) 1 8 Try.underlying41 hi hz0 hz1 hz2 rfl (by decide) _ _ _ rfl (hown3.alloc _) ⟨w3.heap.size, 0, none⟩ 1 1 [.int .u64 (nx (sq a z k) (z k))] rfl rfl ?c1 ?c2 ?c3 ?c4 ?c5 ?_)
        case c2 => rfl
        case c3 => unfold maxLen; omega
        case c4 => omega
        case c5 => omega
        intro v' w4 hown' hgrow _
        have R := rel_next hs3 hown3 hb3 hown' hgrow
        clear hown' hgrow hown hown2 hown3
        go_wp2
        go_roundw
        case rel => exact ⟨k + 1, by omega, by omega, rfl, rfl, by go_num, R.1, R.2⟩
        case measure => simp [intOf]; omega

theorem wVers0 (a : Int) (h : 0 ≤ a) (h' : a ≤ 18446744073709551615) (ao : Option Addr) (cap : Nat) (w : World) :
    Calls Try.prog 8 #[.int .u64 a, .slice ao 0 cap] w fun e w' => e = .returned (.bool true) ∧ Below w.heap.size w w' := by
  have f1 := field1 (t0 a) (t1 a)
  go_enter Try.func8, Try.ntmps8
  go_wp2_with (first
    | (go_at_call 9; refine (cShown _).mono ?_; rintro e w1 ⟨rfl, hb1⟩)
    | (go_at_call 16; refine (cOfTop a h h' _).mono ?_; rintro e w2 ⟨rfl, rfl⟩))
  refine wp_loop_rounds 1 ?_
  rw [rounds_succ]
  go_wp2
  go_ret
  exact ⟨rfl, bal (bal hb1 _) _⟩

/-- what a slice of numbers that came in is good for -/
def Came (w : World) (ao : Option Addr) (len : Nat) (z : Nat → Int) : Prop := len = 0 ∨ ∃ b off, ao = some ⟨b, off, none⟩ ∧ b < w.heap.size ∧ ∀ j, j < len → w.cell? ⟨b, off + j, none⟩ = some (.int .i64 (z j))

theorem wVersions (a : Int) (ao : Option Addr) (len cap : Nat) (z : Nat → Int) (h : 0 ≤ a) (h' : a ≤ 18446744073709551615) (w : World) (hl : Came w ao len z) :
    Calls Try.prog 8 #[.int .u64 a, .slice ao len cap] w fun e w' => e = .returned (.bool true) ∧ Below w.heap.size w w' := by
  rcases hl with rfl | ⟨b, off, rfl, hb, hc⟩
  · exact wVers0 a h h' ao cap w
  · exact wVers a h h' b off len cap z w hb hc
end Go.Proofs.Ytodelndbbpgblaa
