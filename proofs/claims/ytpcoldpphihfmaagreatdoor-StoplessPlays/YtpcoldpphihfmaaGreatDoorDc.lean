import Derived.Test.YtpcoldpphihfmaaGreatDoorDm
import Derived.Test.YtpcoldpphihfmaaGreatDoorGc
import Derived.Laws.StructEq
namespace Go.Proofs.YtpcoldpphihfmaaGreatDoor
set_option linter.unusedVariables false
set_option maxRecDepth 100000
open Go.ChangeShapes Go.WideShapes Go.RowKit
open H.Plain (hw pS pC pN pM pG pT pL mv)
theorem bcell {w w1 : World} {n b i : Nat} {x : Value} (hb : Below n w w1) (h : b < n) (e : w.cell? ⟨b, i, none⟩ = some x) : w1.cell? ⟨b, i, none⟩ = some x := (hb.cell h).trans e
theorem sh_cells {w : World} {p : Nat} {y : ShadeS} {T : TypeId} (h : w.heap[p]? = some (.cells y.cells T (0, 0))) : w.cell? ⟨p, 0, none⟩ = some (.int .i64 y.cell) ∧ w.cell? ⟨p, 1, none⟩ = some (.int .i64 y.mark) ∧ w.cell? ⟨p, 2, none⟩ = some (.int .i64 y.pc) ∧ w.cell? ⟨p, 3, none⟩ = some (.int .u64 y.found) ∧ w.cell? ⟨p, 4, none⟩ = some (.int .i64 y.h.S) ∧ w.cell? ⟨p, 5, none⟩ = some (.int .i64 y.h.C) ∧ w.cell? ⟨p, 6, none⟩ = some (.int .i64 y.h.N) ∧ w.cell? ⟨p, 7, none⟩ = some (.int .i64 y.h.M) ∧ w.cell? ⟨p, 8, none⟩ = some (.int .i64 y.h.G) ∧ w.cell? ⟨p, 9, none⟩ = some (.int .i64 y.h.T) ∧ w.cell? ⟨p, 10, none⟩ = some (.int .i64 y.h.L) ∧ w.cell? ⟨p, 11, none⟩ = some (.int .u64 y.list) := by
 have c := fun i => cell_of_row w p i _ _ _ h
 exact ⟨c 0, c 1, c 2, c 3, c 4, c 5, c 6, c 7, c 8, c 9, c 10, c 11⟩
theorem cRefers (v : Vl) (w : World) :
  Calls Tryz.prog 113 #[.agg #[.int .i64 v.k, .int .i64 v.n]] w fun e w' => e = .returned (.bool v.far) ∧ Below w.heap.size w w' := by
 obtain ⟨k, n⟩ := v
 unfold Vl.far
 rcases h1 : (k == 1) with _ | _
 ·go_enter Tryz.func113, Tryz.ntmps113
  go_wp2
  go_ret
  exact ⟨by simp, by go_grown⟩
 ·rcases h2 : (n != 0) with _ | _
  ·go_enter Tryz.func113, Tryz.ntmps113
   go_wp2
   go_ret
   exact ⟨rfl, by go_grown⟩
  ·go_enter Tryz.func113, Tryz.ntmps113
   go_wp2
   go_ret
   exact ⟨rfl, by go_grown⟩
theorem cRead (f : Int) (fx : Bool) (w : World) :
  Calls Tryz.prog 108 #[.int .i64 f, .bool fx] w fun e w' => ∃ v, e = .returned v ∧ Rep w' (.read f fx) v ∧ Below w.heap.size w w' := by
 go_enter Tryz.func108, Tryz.ntmps108
 go_wp2
 go_ret
 exact ⟨_, rfl, ⟨_, _, rfl, ⟨by (first | exact newAt (by simp) | exact oldAt (newAt (by simp)) | exact oldAt (oldAt (newAt (by simp))) | exact oldAt (oldAt (oldAt (newAt (by simp)))) | exact oldAt (oldAt (oldAt (oldAt (newAt (by simp)))))), by decide, fun h => absurd h (by decide)⟩, ⟨by (first | exact newAt (by simp) | exact oldAt (newAt (by simp)) | exact oldAt (oldAt (newAt (by simp))) | exact oldAt (oldAt (oldAt (newAt (by simp)))) | exact oldAt (oldAt (oldAt (oldAt (newAt (by simp)))))), by decide, fun h => absurd h (by decide)⟩⟩, by go_grown⟩
theorem cFollow (a : Int) (w : World) :
  Calls Tryz.prog 114 #[.int .i64 a] w fun e w' => ∃ v, e = .returned v ∧ Rep w' (.follow a) v ∧ Below w.heap.size w w' := by
 go_enter Tryz.func114, Tryz.ntmps114
 go_wp2
 go_ret
 exact ⟨_, rfl, ⟨_, rfl, ⟨by (first | exact newAt (by simp) | exact oldAt (newAt (by simp)) | exact oldAt (oldAt (newAt (by simp))) | exact oldAt (oldAt (oldAt (newAt (by simp)))) | exact oldAt (oldAt (oldAt (oldAt (newAt (by simp)))))), by decide, fun h => absurd h (by decide)⟩⟩, by go_grown⟩
theorem cSwapK (f : Int) (r : Rq) (h : Hw) (w : World) :
  Calls Tryz.prog 110 #[.int .i64 f, .agg #[.int .i64 r.op, .int .i64 r.at_, .int .i64 r.fd, .int .i64 r.x.k, .int .i64 r.x.n, .int .i64 r.y.k, .int .i64 r.y.n], .agg #[.bool h.sh, .bool h.ca, .bool h.fx, .int .i64 h.mr]] w fun e w' => ∃ v, e = .returned v ∧ Rep w' (.swap f r h) v ∧ Below w.heap.size w w' := by
 go_enter Tryz.func110, Tryz.ntmps110
 go_wp2
 go_ret
 exact ⟨_, rfl, ⟨_, _, _, rfl, ⟨by (first | exact newAt (by simp) | exact oldAt (newAt (by simp)) | exact oldAt (oldAt (newAt (by simp))) | exact oldAt (oldAt (oldAt (newAt (by simp)))) | exact oldAt (oldAt (oldAt (oldAt (newAt (by simp)))))), by decide, fun h => absurd h (by decide)⟩, ⟨by (first | exact newAt (by simp) | exact oldAt (newAt (by simp)) | exact oldAt (oldAt (newAt (by simp))) | exact oldAt (oldAt (oldAt (newAt (by simp)))) | exact oldAt (oldAt (oldAt (oldAt (newAt (by simp)))))), by decide, fun h => absurd h (by decide)⟩, ⟨by (first | exact newAt (by simp) | exact oldAt (newAt (by simp)) | exact oldAt (oldAt (newAt (by simp))) | exact oldAt (oldAt (oldAt (newAt (by simp)))) | exact oldAt (oldAt (oldAt (oldAt (newAt (by simp)))))), by decide, fun h => absurd h (by decide)⟩⟩, by go_grown⟩
theorem cExchange (f z : Int) (r : Rq) (h : Hw) (w : World) :
  Calls Tryz.prog 119 #[.int .i64 f, .int .u64 z, .agg #[.int .i64 r.op, .int .i64 r.at_, .int .i64 r.fd, .int .i64 r.x.k, .int .i64 r.x.n, .int .i64 r.y.k, .int .i64 r.y.n], .agg #[.bool h.sh, .bool h.ca, .bool h.fx, .int .i64 h.mr]] w fun e w' => ∃ v, e = .returned v ∧ Rep w' (.exch f z r h) v ∧ Below w.heap.size w w' := by
 go_enter Tryz.func119, Tryz.ntmps119
 go_wp2
 go_ret
 exact ⟨_, rfl, ⟨_, _, _, _, rfl, ⟨by (first | exact newAt (by simp) | exact oldAt (newAt (by simp)) | exact oldAt (oldAt (newAt (by simp))) | exact oldAt (oldAt (oldAt (newAt (by simp)))) | exact oldAt (oldAt (oldAt (oldAt (newAt (by simp)))))), by decide, fun h => absurd h (by decide)⟩, ⟨by (first | exact newAt (by simp) | exact oldAt (newAt (by simp)) | exact oldAt (oldAt (newAt (by simp))) | exact oldAt (oldAt (oldAt (newAt (by simp)))) | exact oldAt (oldAt (oldAt (oldAt (newAt (by simp)))))), by decide, fun _ => rfl⟩, ⟨by (first | exact newAt (by simp) | exact oldAt (newAt (by simp)) | exact oldAt (oldAt (newAt (by simp))) | exact oldAt (oldAt (oldAt (newAt (by simp)))) | exact oldAt (oldAt (oldAt (oldAt (newAt (by simp)))))), by decide, fun h => absurd h (by decide)⟩, ⟨by (first | exact newAt (by simp) | exact oldAt (newAt (by simp)) | exact oldAt (oldAt (newAt (by simp))) | exact oldAt (oldAt (oldAt (newAt (by simp)))) | exact oldAt (oldAt (oldAt (oldAt (newAt (by simp)))))), by decide, fun h => absurd h (by decide)⟩⟩, by go_grown⟩
theorem cWrite (f : Int) (x : Vl) (h : Hw) (w : World) :
  Calls Tryz.prog 109 #[.int .i64 f, .agg #[.int .i64 x.k, .int .i64 x.n], .agg #[.bool h.sh, .bool h.ca, .bool h.fx, .int .i64 h.mr]] w fun e w' => ∃ v, e = .returned v ∧ Rep w' (if h.sh then .load f x h else .store f x) v ∧ Below w.heap.size w w' := by
 obtain ⟨sh, ca, fx, mr⟩ := h
 cases sh with
 | false =>
  go_enter Tryz.func109, Tryz.ntmps109
  go_wp2
  go_ret
  exact ⟨_, rfl, ⟨_, _, rfl, ⟨by (first | exact newAt (by simp) | exact oldAt (newAt (by simp)) | exact oldAt (oldAt (newAt (by simp))) | exact oldAt (oldAt (oldAt (newAt (by simp)))) | exact oldAt (oldAt (oldAt (oldAt (newAt (by simp)))))), by decide, fun h => absurd h (by decide)⟩, ⟨by (first | exact newAt (by simp) | exact oldAt (newAt (by simp)) | exact oldAt (oldAt (newAt (by simp))) | exact oldAt (oldAt (oldAt (newAt (by simp)))) | exact oldAt (oldAt (oldAt (oldAt (newAt (by simp)))))), by decide, fun h => absurd h (by decide)⟩⟩, by go_grown⟩
 | true =>
  go_enter Tryz.func109, Tryz.ntmps109
  go_wp2
  go_ret
  exact ⟨_, rfl, ⟨_, _, _, _, rfl, ⟨by (first | exact newAt (by simp) | exact oldAt (newAt (by simp)) | exact oldAt (oldAt (newAt (by simp))) | exact oldAt (oldAt (oldAt (newAt (by simp)))) | exact oldAt (oldAt (oldAt (oldAt (newAt (by simp)))))), by decide, fun h => absurd h (by decide)⟩, ⟨by (first | exact newAt (by simp) | exact oldAt (newAt (by simp)) | exact oldAt (oldAt (newAt (by simp))) | exact oldAt (oldAt (oldAt (newAt (by simp)))) | exact oldAt (oldAt (oldAt (oldAt (newAt (by simp)))))), by decide, fun h => absurd h (by decide)⟩, ⟨by (first | exact newAt (by simp) | exact oldAt (newAt (by simp)) | exact oldAt (oldAt (newAt (by simp))) | exact oldAt (oldAt (oldAt (newAt (by simp)))) | exact oldAt (oldAt (oldAt (oldAt (newAt (by simp)))))), by decide, fun h => absurd h (by decide)⟩, ⟨by (first | exact newAt (by simp) | exact oldAt (newAt (by simp)) | exact oldAt (oldAt (newAt (by simp))) | exact oldAt (oldAt (oldAt (newAt (by simp)))) | exact oldAt (oldAt (oldAt (oldAt (newAt (by simp)))))), by decide, fun h => absurd h (by decide)⟩⟩, by go_grown⟩
theorem cShading (x : ShadeS) (k : K) (u : Value) (w : World) (R : Rep w k u) :
  Calls Tryz.prog 125 #[.agg x.cells, u] w fun e w' => ∃ v, e = .returned v ∧ Rep w' (.shade x k) v ∧ Below w.heap.size w w' := by
 obtain ⟨n, cs, rfl⟩ := R.fn
 unfold ShadeS.cells
 go_enter Tryz.func125, Tryz.ntmps125
 go_wp2
 go_ret
 exact ⟨_, rfl, ⟨_, _, _, rfl, ⟨by (first | exact newAt (by simp) | exact oldAt (newAt (by simp)) | exact oldAt (oldAt (newAt (by simp))) | exact oldAt (oldAt (oldAt (newAt (by simp)))) | exact oldAt (oldAt (oldAt (oldAt (newAt (by simp)))))), by decide, fun h => absurd h (by decide)⟩, ⟨by (first | exact newAt (by simp) | exact oldAt (newAt (by simp)) | exact oldAt (oldAt (newAt (by simp))) | exact oldAt (oldAt (oldAt (newAt (by simp)))) | exact oldAt (oldAt (oldAt (oldAt (newAt (by simp)))))), by decide, fun h => absurd h (by decide)⟩, R.below (by go_grown)⟩, by go_grown⟩
theorem cShade' (v : Vl) (h : Hw) (k : K) (u : Value) (w : World) (R : Rep w k u) :
  Calls Tryz.prog 117 #[.agg #[.int .i64 v.k, .int .i64 v.n], .agg #[.bool h.sh, .bool h.ca, .bool h.fx, .int .i64 h.mr], u] w fun e w' => ∃ z, e = .returned z ∧ Rep w' (shadeK v h k) z ∧ Below w.heap.size w w' := by
 obtain ⟨sh, ca, fx, mr⟩ := h
 cases sh with
 | false =>
  go_enter Tryz.func117, Tryz.ntmps117
  go_wp2
  go_ret
  exact ⟨_, rfl, R.below (by go_grown), by go_grown⟩
 | true =>
  rcases hf : v.far with _ | _
  ·go_enter Tryz.func117, Tryz.ntmps117
   go_wp2_with (go_at_call 113; refine (cRefers v _).mono ?_; rintro e w1 ⟨rfl, hb1⟩; rw [hf]; have hb2 : Below w.heap.size w w1 := bel_trans (by go_grown) hb1; clear hb1)
   go_ret
   refine ⟨_, rfl, ?_, hb2⟩
   simp only [shadeK, hf, Bool.true_and, Bool.false_eq_true, if_false]
   exact R.below hb2
  ·obtain ⟨y, hy⟩ : ∃ y, ShadeS.new v.n mr = y := ⟨_, rfl⟩
   go_enter Tryz.func117, Tryz.ntmps117
   go_wp2_with (first
    | (go_at_call 113; refine (cRefers v _).mono ?_; rintro e w1 ⟨rfl, hb1⟩; rw [hf]; have hb2 : Below w.heap.size w w1 := bel_trans (by go_grown) hb1; have x1 : w1.cell? ⟨w.heap.size, 1, none⟩ = some (.int .i64 v.n) := bcell hb1 (by first | (simp; done) | (simp; omega)) (by go_cell); have x2 : w1.cell? ⟨w.heap.size + 1, 3, none⟩ = some (.int .i64 mr) := bcell hb1 (by first | (simp; done) | (simp; omega)) (by go_cell); clear hb1)
    | (go_at_call 126; refine (cNewShade v.n mr _).mono ?_; rintro e w2 ⟨rfl, M2⟩; have hb3 := bel_trans hb2 M2.bel; rw [hy] at M2; obtain ⟨k0, k1, k2, k3, k4, k5, k6, k7, k8, k9, k10, k11⟩ := sh_cells M2.blk; have R2 := R.below hb3)
    | (go_at_call 125; refine (cShading y k u _ R2).mono ?_; rintro e w3 ⟨z, rfl, R3, hb4⟩))
   go_ret
   refine ⟨_, rfl, ?_, bel_trans hb3 hb4⟩
   simp only [shadeK, hf, Bool.true_and, if_true, hy]
   exact R3
end Go.Proofs.YtpcoldpphihfmaaGreatDoor
