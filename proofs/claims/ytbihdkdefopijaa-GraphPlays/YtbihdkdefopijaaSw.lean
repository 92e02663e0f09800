/-
  The examples.
-/
import Derived.Test.YtbihdkdefopijaaOw
namespace Go.Proofs.Ytbihdkdefopijaa
set_option linter.unusedVariables false
set_option linter.unusedSimpArgs false
open Go.ChangeShapes Go.WideShapes Go.ChangeAt Go.RowKit

def gx1 : Gr := ⟨[[1]], [[(0, 0), (0, 0)]]⟩
def gx2 : Gr := ⟨[[1]], [[(0, 0), (1, 1)]]⟩
def gx3 : Gr := ⟨[[1]], [[(1, 0), (1, 1)]]⟩
theorem eqVb (a b : Int × Int) (f : Bool) (h : decide (a = b) = f) (w : World) : (binOp .eql 37 (vv a) (vv b)).run Try.prog w = .ok (.bool f) w := by
  rw [run_eql_struct, eqV, h]
  rfl
/-- a row of one row, as it is written out -/
theorem row_lit {w : World} {T e : TypeId} {size n b1 b2 : Nat} {cs : Array Value} (hT : w.heap[b2]? = some (.cells #[.slice (some ⟨b1, 0, none⟩) n n] T (0, 0))) (he : w.heap[b1]? = some (.cells cs e (0, 0))) (hs : cs.size = n * size) (hn : n ≤ maxLen) :
    RowR w T e size (.slice (some ⟨b2, 0, none⟩) 1 1) [(n, cs.toList)] fun _ => True := by
  refine ⟨fun _ _ => trivial, [.slice (some ⟨b1, 0, none⟩) n n], rfl, ⟨rfl, .inr ⟨b2, 1, _, rfl, Nat.zero_le _, hT, Nat.le_refl _, by decide, rfl, rfl⟩⟩, fun i x hi => ?_⟩
  obtain rfl : i = 0 := by
    have := (List.getElem?_eq_some_iff.1 hi).1
    simp at this
    exact this
  simp at hi
  subst hi
  refine ⟨_, rfl, ⟨by simp [hs], .inr ⟨b1, n, cs, rfl, Nat.zero_le _, he, Nat.le_refl _, hn, hs, ?_⟩⟩, fun _ _ => trivial⟩
  rw [List.take_of_length_le (by simp [hs])]

/-- the example's shape, as it is written out -/
theorem litSame (w5 : World) (vr vl : Value) {p p' : Nat → Prop} (r5 : RowsI w5 vr [[1]] p) (s5 : RowsV w5 vl [[(0, 0), (1, 1)]] p') :
    Calls Try.prog 30 #[.agg #[vr, vl], .agg #[.slice (some ⟨w5.heap.size + 1, 0, none⟩) 1 1, .slice (some ⟨w5.heap.size + 1 + 1 + 1, 0, none⟩) 1 1]] ((((w5.alloc (.cells #[.int .i64 1] 3)).alloc (.cells #[.slice (some ⟨w5.heap.size, 0, none⟩) 1 1] 53)).alloc (.cells #[.int .i64 0, .int .i64 0, .int .i64 1, .int .i64 1] 37)).alloc (.cells #[.slice (some ⟨w5.heap.size + 1 + 1, 0, none⟩) 2 2] 60)) fun e w' => e = .returned (.bool true) ∧ Below w5.heap.size w5 w' := by
  have hB : Below w5.heap.size w5 ((((w5.alloc (.cells #[.int .i64 1] 3)).alloc (.cells #[.slice (some ⟨w5.heap.size, 0, none⟩) 1 1] 53)).alloc (.cells #[.int .i64 0, .int .i64 0, .int .i64 1, .int .i64 1] 37)).alloc (.cells #[.slice (some ⟨w5.heap.size + 1 + 1, 0, none⟩) 2 2] 60)) := bal (bal (bal (bal (Below.refl _ _) _) _) _) _
  have e1 : ((((w5.alloc (.cells #[.int .i64 1] 3)).alloc (.cells #[.slice (some ⟨w5.heap.size, 0, none⟩) 1 1] 53)).alloc (.cells #[.int .i64 0, .int .i64 0, .int .i64 1, .int .i64 1] 37)).alloc (.cells #[.slice (some ⟨w5.heap.size + 1 + 1, 0, none⟩) 2 2] 60)).heap[w5.heap.size]? = some (.cells #[.int .i64 1] 3 (0, 0)) := (Below.heap_alloc _ _ _ (by simp; omega)).trans ((Below.heap_alloc _ _ _ (by simp; omega)).trans ((Below.heap_alloc _ _ _ (by simp)).trans (heap_alloc_new w5 _)))
  have n2 := heap_alloc_new (w5.alloc (.cells #[.int .i64 1] 3)) (.cells #[.slice (some ⟨w5.heap.size, 0, none⟩) 1 1] 53)
  have n3 := heap_alloc_new ((w5.alloc (.cells #[.int .i64 1] 3)).alloc (.cells #[.slice (some ⟨w5.heap.size, 0, none⟩) 1 1] 53)) (.cells #[.int .i64 0, .int .i64 0, .int .i64 1, .int .i64 1] 37)
  have n4 := heap_alloc_new (((w5.alloc (.cells #[.int .i64 1] 3)).alloc (.cells #[.slice (some ⟨w5.heap.size, 0, none⟩) 1 1] 53)).alloc (.cells #[.int .i64 0, .int .i64 0, .int .i64 1, .int .i64 1] 37)) (.cells #[.slice (some ⟨w5.heap.size + 1 + 1, 0, none⟩) 2 2] 60)
  simp only [World.size_alloc] at n2 n3 n4
  have e2 : ((((w5.alloc (.cells #[.int .i64 1] 3)).alloc (.cells #[.slice (some ⟨w5.heap.size, 0, none⟩) 1 1] 53)).alloc (.cells #[.int .i64 0, .int .i64 0, .int .i64 1, .int .i64 1] 37)).alloc (.cells #[.slice (some ⟨w5.heap.size + 1 + 1, 0, none⟩) 2 2] 60)).heap[w5.heap.size + 1]? = some (.cells #[.slice (some ⟨w5.heap.size, 0, none⟩) 1 1] 53 (0, 0)) := (Below.heap_alloc _ _ _ (by simp)).trans ((Below.heap_alloc _ _ _ (by simp)).trans n2)
  have e3 : ((((w5.alloc (.cells #[.int .i64 1] 3)).alloc (.cells #[.slice (some ⟨w5.heap.size, 0, none⟩) 1 1] 53)).alloc (.cells #[.int .i64 0, .int .i64 0, .int .i64 1, .int .i64 1] 37)).alloc (.cells #[.slice (some ⟨w5.heap.size + 1 + 1, 0, none⟩) 2 2] 60)).heap[w5.heap.size + 1 + 1]? = some (.cells #[.int .i64 0, .int .i64 0, .int .i64 1, .int .i64 1] 37 (0, 0)) := (Below.heap_alloc _ _ _ (by simp)).trans n3
  have R1 := row_lit (size := 1) (n := 1) e2 e1 rfl (by decide)
  have R2 := row_lit (size := 2) (n := 2) n4 e3 rfl (by decide)
  refine (cSame (w := ((((w5.alloc (.cells #[.int .i64 1] 3)).alloc (.cells #[.slice (some ⟨w5.heap.size, 0, none⟩) 1 1] 53)).alloc (.cells #[.int .i64 0, .int .i64 0, .int .i64 1, .int .i64 1] 37)).alloc (.cells #[.slice (some ⟨w5.heap.size + 1 + 1, 0, none⟩) 2 2] 60))) vr vl _ _ [[1]] [[(0, 0), (1, 1)]] (r5.on fun k cs T' hb _ hp => ⟨hB.block k (lt_of_block hb), hp⟩) (s5.on fun k cs T' hb _ hp => ⟨hB.block k (lt_of_block hb), hp⟩) R1 R2 (by decide) (by decide) (by decide) (by decide)).mono ?_
  rintro e w' ⟨rfl, hb⟩
  exact ⟨rfl, bt hB hb⟩

set_option maxRecDepth 100000 in
set_option maxHeartbeats 800000 in
theorem cShown (w : World) : Calls Try.prog 9 #[] w fun e w' => e = .returned (.bool true) ∧ Below w.heap.size w w' := by
  have hE := eqVb (1, 1) (1, 1) true (by decide)
  go_enter Try.func9, Try.ntmps9
  go_wp2_with (first
    | (go_at_call 10; refine (oNew _ 1 (by decide) (by decide) (Below.refl w.heap.size w)).mono ?_; rintro e w1 ⟨b, rfl, o1, -⟩)
    | (go_at_call 13; refine (oAlloc o1 (by decide) 0 2).mono ?_; rintro e w2 ⟨rfl, o2, -⟩; rw [show Gr.allocE (Gr.new 1) 0 2 = 0 from rfl]; rw [show Gr.alloc (Gr.new 1) 0 2 = gx1 from rfl] at o2)
    | (go_at_call 19; refine (oWrite o2 0 0 1 1 0).mono ?_; rintro e w3 ⟨rfl, o3, -⟩; rw [show Gr.writeE gx1 0 0 1 (1, 0) = 0 from rfl]; rw [show Gr.write gx1 0 0 1 (1, 0) = gx2 from rfl] at o3)
    | (go_at_call_of 15 (Value.int .i64 2); refine (oLook o7 0 0 2).mono ?_; rintro e w8 ⟨rfl, o8, h8⟩; rw [show Gr.lookE gx3 0 0 2 = 15 from rfl, show Gr.lookV gx3 0 0 2 = (0, 0) from rfl]; have v8 := (h8.block w4.heap.size (lt_of_block v7)).trans v7; have l8 : w4.heap.size < w8.heap.size := lt_of_block v8; have x0 : w8.cell? ⟨w4.heap.size, 0, none⟩ = some (.int .i64 1) := (by rw [cell_of_row w8 _ _ _ _ _ v8]; rfl); have x1 : w8.cell? ⟨w4.heap.size, 1, none⟩ = some (.int .i64 1) := (by rw [cell_of_row w8 _ _ _ _ _ v8]; rfl))
    | (go_at_call 15; refine (oLook o3 0 0 1).mono ?_; rintro e w4 ⟨rfl, o4, -⟩; rw [show Gr.lookE gx2 0 0 1 = 0 from rfl, show Gr.lookV gx2 0 0 1 = (1, 1) from rfl])
    | (go_at_call 31; refine (oShape (o4.alloc _)).mono ?_; rintro e w5 ⟨vr, vl, rfl, o5, h5, r5, s5⟩; have v5 := (h5.block w4.heap.size (by simp)).trans (heap_alloc_new w4 (.cells #[.int .i64 1, .int .i64 1] 37)); rw [show Sh.roots gx2 = [[1]] from rfl] at r5; rw [show Sh.objs gx2 = [[(0, 0), (1, 1)]] from rfl] at s5)
    | (go_at_call 30; refine (litSame w5 vr vl r5 s5).mono ?_; rintro e w6 ⟨rfl, h6⟩; have o6 := o5.below h6; have v6 := (h6.block w4.heap.size (lt_of_block v5)).trans v5)
    | (go_at_call 21; have q := v65; refine (oSwap o65 0 0 0 0 0 2 0).mono ?_; rintro e w66 ⟨rfl, o66, hO⟩; rw [show Gr.swapE gx3 0 0 0 (0, 0) (2, 0) = 0 from rfl, show Gr.swapY gx3 0 0 0 (0, 0) (2, 0) = false from rfl]; rw [show Gr.swap gx3 0 0 0 (0, 0) (2, 0) = gx3 from rfl] at o66; have v66 := hO _ _ _ _ (by decide) v65)
    | (go_at_call 21; refine (oSwap o6 0 0 0 0 0 2 0).mono ?_; rintro e w65 ⟨rfl, o65, hO⟩; rw [show Gr.swapE gx2 0 0 0 (0, 0) (2, 0) = 0 from rfl, show Gr.swapY gx2 0 0 0 (0, 0) (2, 0) = true from rfl]; rw [show Gr.swap gx2 0 0 0 (0, 0) (2, 0) = gx3 from rfl] at o65; have v65 := hO _ _ _ _ (by decide) v6)
    | (go_at_call 23; refine (oEq o66 0 0 0).mono ?_; rintro e w7 ⟨rfl, o7, h7⟩; rw [show Gr.eqE gx3 0 0 0 = 0 from rfl, show Gr.eqY gx3 0 0 0 = true from rfl]; have v7 := (h7.block w4.heap.size (lt_of_block v66)).trans v66))
  go_ret
  exact ⟨rfl, bal o8.bel _⟩
end Go.Proofs.Ytbihdkdefopijaa
