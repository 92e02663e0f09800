import Derived.Test.YtpcoldpphihfmaaGreatDoorVco
import Derived.Test.YtpcoldpphihfmaaGreatDoorHand
import Derived.Deep.Cut
namespace Go.Proofs.YtpcoldpphihfmaaGreatDoor
set_option linter.unusedVariables false
set_option linter.unusedSimpArgs false
set_option maxRecDepth 100000
open Go.ChangeShapes Go.WideShapes Go.RowKit
def atP (io : Nat) : Int := match io with | 0 => 96 | 1 => 96 | 2 => 100 | _ => 0
def reqP (q : Op15) : Rq := ⟨1 + kd q.ac 4 % 3, atP (kd q.ob 4).toNat, kd q.fd 4, valP q.x, valP q.y⟩
theorem sl_cell {w0 w : World} {n io : Nat} (N : Blk w0 w n 3 #[.int .i64 96, .int .i64 96, .int .i64 100, .int .i64 0]) (h : io < 4) : w.cell? ⟨n, io, none⟩ = some (.int .i64 (atP io)) := by
 rw [N.cell io]
 rcases (show io = 0 ∨ io = 1 ∨ io = 2 ∨ io = 3 by omega) with rfl | rfl | rfl | rfl <;> rfl
theorem rq_held {w0 w1 : World} {ob rb : Nat} {q : Op15} {op at_ f4 : Int} {vx vy : Vl} (C : Blk w0 w1 ob 42 q.cells) (R : Blk w0 w1 rb 48 #[.int .i64 0, .int .i64 0, .int .i64 0, .int .i64 0, .int .i64 0, .int .i64 0, .int .i64 0]) : (((((((w1.setCell ⟨rb, 0, none⟩ (.int .i64 op)).setCell ⟨rb, 1, none⟩ (.int .i64 at_)).setCell ⟨rb, 2, none⟩ (.int .i64 f4)).setCell ⟨rb, 3, none⟩ (.int .i64 vx.k)).setCell ⟨rb, 4, none⟩ (.int .i64 vx.n)).setCell ⟨rb, 5, none⟩ (.int .i64 vy.k)).setCell ⟨rb, 6, none⟩ (.int .i64 vy.n)).cell? ⟨ob, 0, none⟩ = some (.int .i64 q.ob) ∧ (((((((w1.setCell ⟨rb, 0, none⟩ (.int .i64 op)).setCell ⟨rb, 1, none⟩ (.int .i64 at_)).setCell ⟨rb, 2, none⟩ (.int .i64 f4)).setCell ⟨rb, 3, none⟩ (.int .i64 vx.k)).setCell ⟨rb, 4, none⟩ (.int .i64 vx.n)).setCell ⟨rb, 5, none⟩ (.int .i64 vy.k)).setCell ⟨rb, 6, none⟩ (.int .i64 vy.n)).cell? ⟨ob, 1, none⟩ = some (.int .i64 q.fd) ∧ (((((((w1.setCell ⟨rb, 0, none⟩ (.int .i64 op)).setCell ⟨rb, 1, none⟩ (.int .i64 at_)).setCell ⟨rb, 2, none⟩ (.int .i64 f4)).setCell ⟨rb, 3, none⟩ (.int .i64 vx.k)).setCell ⟨rb, 4, none⟩ (.int .i64 vx.n)).setCell ⟨rb, 5, none⟩ (.int .i64 vy.k)).setCell ⟨rb, 6, none⟩ (.int .i64 vy.n)).cell? ⟨ob, 2, none⟩ = some (.int .i64 q.ac) ∧ (((((((w1.setCell ⟨rb, 0, none⟩ (.int .i64 op)).setCell ⟨rb, 1, none⟩ (.int .i64 at_)).setCell ⟨rb, 2, none⟩ (.int .i64 f4)).setCell ⟨rb, 3, none⟩ (.int .i64 vx.k)).setCell ⟨rb, 4, none⟩ (.int .i64 vx.n)).setCell ⟨rb, 5, none⟩ (.int .i64 vy.k)).setCell ⟨rb, 6, none⟩ (.int .i64 vy.n)).cell? ⟨ob, 4, none⟩ = some (.int .i64 q.x.k) ∧ (((((((w1.setCell ⟨rb, 0, none⟩ (.int .i64 op)).setCell ⟨rb, 1, none⟩ (.int .i64 at_)).setCell ⟨rb, 2, none⟩ (.int .i64 f4)).setCell ⟨rb, 3, none⟩ (.int .i64 vx.k)).setCell ⟨rb, 4, none⟩ (.int .i64 vx.n)).setCell ⟨rb, 5, none⟩ (.int .i64 vy.k)).setCell ⟨rb, 6, none⟩ (.int .i64 vy.n)).cell? ⟨ob, 5, none⟩ = some (.int .i64 q.x.n) ∧ (((((((w1.setCell ⟨rb, 0, none⟩ (.int .i64 op)).setCell ⟨rb, 1, none⟩ (.int .i64 at_)).setCell ⟨rb, 2, none⟩ (.int .i64 f4)).setCell ⟨rb, 3, none⟩ (.int .i64 vx.k)).setCell ⟨rb, 4, none⟩ (.int .i64 vx.n)).setCell ⟨rb, 5, none⟩ (.int .i64 vy.k)).setCell ⟨rb, 6, none⟩ (.int .i64 vy.n)).cell? ⟨ob, 6, none⟩ = some (.int .i64 q.y.k) ∧ (((((((w1.setCell ⟨rb, 0, none⟩ (.int .i64 op)).setCell ⟨rb, 1, none⟩ (.int .i64 at_)).setCell ⟨rb, 2, none⟩ (.int .i64 f4)).setCell ⟨rb, 3, none⟩ (.int .i64 vx.k)).setCell ⟨rb, 4, none⟩ (.int .i64 vx.n)).setCell ⟨rb, 5, none⟩ (.int .i64 vy.k)).setCell ⟨rb, 6, none⟩ (.int .i64 vy.n)).cell? ⟨ob, 7, none⟩ = some (.int .i64 q.y.n) := by
 have K : Oth [rb] w1 (((((((w1.setCell ⟨rb, 0, none⟩ (.int .i64 op)).setCell ⟨rb, 1, none⟩ (.int .i64 at_)).setCell ⟨rb, 2, none⟩ (.int .i64 f4)).setCell ⟨rb, 3, none⟩ (.int .i64 vx.k)).setCell ⟨rb, 4, none⟩ (.int .i64 vx.n)).setCell ⟨rb, 5, none⟩ (.int .i64 vy.k)).setCell ⟨rb, 6, none⟩ (.int .i64 vy.n)) := (((((((Oth.set w1 rb 0 _ (by simp)).trans (Oth.set _ rb 1 _ (by simp))).trans (Oth.set _ rb 2 _ (by simp))).trans (Oth.set _ rb 3 _ (by simp))).trans (Oth.set _ rb 4 _ (by simp))).trans (Oth.set _ rb 5 _ (by simp))).trans (Oth.set _ rb 6 _ (by simp)))
 have C' := C.oth K (by simpa using C.ne R (by decide))
 exact ⟨C'.cell 0, C'.cell 1, C'.cell 2, C'.cell 4, C'.cell 5, C'.cell 6, C'.cell 7⟩
theorem rq_oth (w1 : World) (rb : Nat) (op at_ f4 : Int) (vx vy : Vl) : Kept [rb] w1 (((((((w1.setCell ⟨rb, 0, none⟩ (.int .i64 op)).setCell ⟨rb, 1, none⟩ (.int .i64 at_)).setCell ⟨rb, 2, none⟩ (.int .i64 f4)).setCell ⟨rb, 3, none⟩ (.int .i64 vx.k)).setCell ⟨rb, 4, none⟩ (.int .i64 vx.n)).setCell ⟨rb, 5, none⟩ (.int .i64 vy.k)).setCell ⟨rb, 6, none⟩ (.int .i64 vy.n)) := (((((((Kept.setCell [rb] w1 ⟨rb, 0, none⟩ _ (by simp)).trans (Kept.setCell [rb] _ ⟨rb, 1, none⟩ _ (by simp)) (fun _ h => .inl h)).trans (Kept.setCell [rb] _ ⟨rb, 2, none⟩ _ (by simp)) (fun _ h => .inl h)).trans (Kept.setCell [rb] _ ⟨rb, 3, none⟩ _ (by simp)) (fun _ h => .inl h)).trans (Kept.setCell [rb] _ ⟨rb, 4, none⟩ _ (by simp)) (fun _ h => .inl h)).trans (Kept.setCell [rb] _ ⟨rb, 5, none⟩ _ (by simp)) (fun _ h => .inl h)).trans (Kept.setCell [rb] _ ⟨rb, 6, none⟩ _ (by simp)) (fun _ h => .inl h))
theorem rq_put {w0 w1 : World} {rb : Nat} (R : Blk w0 w1 rb 48 #[.int .i64 0, .int .i64 0, .int .i64 0, .int .i64 0, .int .i64 0, .int .i64 0, .int .i64 0]) (op at_ f4 : Int) (vx vy : Vl) : Blk w0 (((((((w1.setCell ⟨rb, 0, none⟩ (.int .i64 op)).setCell ⟨rb, 1, none⟩ (.int .i64 at_)).setCell ⟨rb, 2, none⟩ (.int .i64 f4)).setCell ⟨rb, 3, none⟩ (.int .i64 vx.k)).setCell ⟨rb, 4, none⟩ (.int .i64 vx.n)).setCell ⟨rb, 5, none⟩ (.int .i64 vy.k)).setCell ⟨rb, 6, none⟩ (.int .i64 vy.n)) rb 48 #[.int .i64 op, .int .i64 at_, .int .i64 f4, .int .i64 vx.k, .int .i64 vx.n, .int .i64 vy.k, .int .i64 vy.n] := by
 have B0 : Blk w0 (w1.setCell ⟨rb, 0, none⟩ (.int .i64 op)) rb 48 #[.int .i64 op, .int .i64 0, .int .i64 0, .int .i64 0, .int .i64 0, .int .i64 0, .int .i64 0] := R.set 0 _
 have B1 : Blk w0 ((w1.setCell ⟨rb, 0, none⟩ (.int .i64 op)).setCell ⟨rb, 1, none⟩ (.int .i64 at_)) rb 48 #[.int .i64 op, .int .i64 at_, .int .i64 0, .int .i64 0, .int .i64 0, .int .i64 0, .int .i64 0] := B0.set 1 _
 have B2 : Blk w0 (((w1.setCell ⟨rb, 0, none⟩ (.int .i64 op)).setCell ⟨rb, 1, none⟩ (.int .i64 at_)).setCell ⟨rb, 2, none⟩ (.int .i64 f4)) rb 48 #[.int .i64 op, .int .i64 at_, .int .i64 f4, .int .i64 0, .int .i64 0, .int .i64 0, .int .i64 0] := B1.set 2 _
 have B3 : Blk w0 ((((w1.setCell ⟨rb, 0, none⟩ (.int .i64 op)).setCell ⟨rb, 1, none⟩ (.int .i64 at_)).setCell ⟨rb, 2, none⟩ (.int .i64 f4)).setCell ⟨rb, 3, none⟩ (.int .i64 vx.k)) rb 48 #[.int .i64 op, .int .i64 at_, .int .i64 f4, .int .i64 vx.k, .int .i64 0, .int .i64 0, .int .i64 0] := B2.set 3 _
 have B4 : Blk w0 (((((w1.setCell ⟨rb, 0, none⟩ (.int .i64 op)).setCell ⟨rb, 1, none⟩ (.int .i64 at_)).setCell ⟨rb, 2, none⟩ (.int .i64 f4)).setCell ⟨rb, 3, none⟩ (.int .i64 vx.k)).setCell ⟨rb, 4, none⟩ (.int .i64 vx.n)) rb 48 #[.int .i64 op, .int .i64 at_, .int .i64 f4, .int .i64 vx.k, .int .i64 vx.n, .int .i64 0, .int .i64 0] := B3.set 4 _
 have B5 : Blk w0 ((((((w1.setCell ⟨rb, 0, none⟩ (.int .i64 op)).setCell ⟨rb, 1, none⟩ (.int .i64 at_)).setCell ⟨rb, 2, none⟩ (.int .i64 f4)).setCell ⟨rb, 3, none⟩ (.int .i64 vx.k)).setCell ⟨rb, 4, none⟩ (.int .i64 vx.n)).setCell ⟨rb, 5, none⟩ (.int .i64 vy.k)) rb 48 #[.int .i64 op, .int .i64 at_, .int .i64 f4, .int .i64 vx.k, .int .i64 vx.n, .int .i64 vy.k, .int .i64 0] := B4.set 5 _
 have B6 : Blk w0 (((((((w1.setCell ⟨rb, 0, none⟩ (.int .i64 op)).setCell ⟨rb, 1, none⟩ (.int .i64 at_)).setCell ⟨rb, 2, none⟩ (.int .i64 f4)).setCell ⟨rb, 3, none⟩ (.int .i64 vx.k)).setCell ⟨rb, 4, none⟩ (.int .i64 vx.n)).setCell ⟨rb, 5, none⟩ (.int .i64 vy.k)).setCell ⟨rb, 6, none⟩ (.int .i64 vy.n)) rb 48 #[.int .i64 op, .int .i64 at_, .int .i64 f4, .int .i64 vx.k, .int .i64 vx.n, .int .i64 vy.k, .int .i64 vy.n] := B5.set 6 _
 exact B6
theorem rq_bel {w0 w1 : World} {rb : Nat} (R : Blk w0 w1 rb 48 #[.int .i64 0, .int .i64 0, .int .i64 0, .int .i64 0, .int .i64 0, .int .i64 0, .int .i64 0]) (hb : Below w0.heap.size w0 w1) (op at_ f4 : Int) (vx vy : Vl) : Below w0.heap.size w0 (((((((w1.setCell ⟨rb, 0, none⟩ (.int .i64 op)).setCell ⟨rb, 1, none⟩ (.int .i64 at_)).setCell ⟨rb, 2, none⟩ (.int .i64 f4)).setCell ⟨rb, 3, none⟩ (.int .i64 vx.k)).setCell ⟨rb, 4, none⟩ (.int .i64 vx.n)).setCell ⟨rb, 5, none⟩ (.int .i64 vy.k)).setCell ⟨rb, 6, none⟩ (.int .i64 vy.n)) :=
 hb.trans ((rq_oth w1 rb op at_ f4 vx vy).below (fun j hj => by simp at hj; subst hj; exact R.old) hb.size)
theorem rq_al {w0 w1 : World} {ob : Nat} {q : Op15} (C : Blk w0 w1 ob 42 q.cells) : (w1.alloc (.cells #[.int .i64 96, .int .i64 96, .int .i64 100, .int .i64 0] 3)).cell? ⟨ob, 0, none⟩ = some (.int .i64 q.ob) ∧ (w1.alloc (.cells #[.int .i64 96, .int .i64 96, .int .i64 100, .int .i64 0] 3)).cell? ⟨ob, 1, none⟩ = some (.int .i64 q.fd) ∧ (w1.alloc (.cells #[.int .i64 96, .int .i64 96, .int .i64 100, .int .i64 0] 3)).cell? ⟨ob, 2, none⟩ = some (.int .i64 q.ac) ∧ (w1.alloc (.cells #[.int .i64 96, .int .i64 96, .int .i64 100, .int .i64 0] 3)).cell? ⟨ob, 4, none⟩ = some (.int .i64 q.x.k) ∧ (w1.alloc (.cells #[.int .i64 96, .int .i64 96, .int .i64 100, .int .i64 0] 3)).cell? ⟨ob, 5, none⟩ = some (.int .i64 q.x.n) ∧ (w1.alloc (.cells #[.int .i64 96, .int .i64 96, .int .i64 100, .int .i64 0] 3)).cell? ⟨ob, 6, none⟩ = some (.int .i64 q.y.k) ∧ (w1.alloc (.cells #[.int .i64 96, .int .i64 96, .int .i64 100, .int .i64 0] 3)).cell? ⟨ob, 7, none⟩ = some (.int .i64 q.y.n) := ⟨(C.below ((Below.refl _ w1).alloc (Nat.le_refl _) _)).cell 0, (C.below ((Below.refl _ w1).alloc (Nat.le_refl _) _)).cell 1, (C.below ((Below.refl _ w1).alloc (Nat.le_refl _) _)).cell 2, (C.below ((Below.refl _ w1).alloc (Nat.le_refl _) _)).cell 4, (C.below ((Below.refl _ w1).alloc (Nat.le_refl _) _)).cell 5, (C.below ((Below.refl _ w1).alloc (Nat.le_refl _) _)).cell 6, (C.below ((Below.refl _ w1).alloc (Nat.le_refl _) _)).cell 7⟩
theorem rq_z {w0 w1 : World} {rb : Nat} (R : Blk w0 w1 rb 48 #[.int .i64 0, .int .i64 0, .int .i64 0, .int .i64 0, .int .i64 0, .int .i64 0, .int .i64 0]) : w1.cell? ⟨rb, 0, none⟩ = some (.int .i64 0) ∧ w1.cell? ⟨rb, 1, none⟩ = some (.int .i64 0) ∧ w1.cell? ⟨rb, 2, none⟩ = some (.int .i64 0) ∧ w1.cell? ⟨rb, 3, none⟩ = some (.int .i64 0) ∧ w1.cell? ⟨rb, 4, none⟩ = some (.int .i64 0) ∧ w1.cell? ⟨rb, 5, none⟩ = some (.int .i64 0) ∧ w1.cell? ⟨rb, 6, none⟩ = some (.int .i64 0) := ⟨R.cell 0, R.cell 1, R.cell 2, R.cell 3, R.cell 4, R.cell 5, R.cell 6⟩
theorem rq_f {w0 w1 : World} {rb : Nat} {c : Array Value} (R : Blk w0 w1 rb 48 c) : w1.frozen? ⟨rb, 0, none⟩ = false ∧ w1.frozen? ⟨rb, 1, none⟩ = false ∧ w1.frozen? ⟨rb, 2, none⟩ = false ∧ w1.frozen? ⟨rb, 3, none⟩ = false ∧ w1.frozen? ⟨rb, 4, none⟩ = false ∧ w1.frozen? ⟨rb, 5, none⟩ = false ∧ w1.frozen? ⟨rb, 6, none⟩ = false := ⟨R.free 0, R.free 1, R.free 2, R.free 3, R.free 4, R.free 5, R.free 6⟩
theorem rq_u {w0 w1 : World} {rb : Nat} {op at_ f4 : Int} {vx vy : Vl} (R : Blk w0 w1 rb 48 #[.int .i64 op, .int .i64 at_, .int .i64 f4, .int .i64 vx.k, .int .i64 vx.n, .int .i64 vy.k, .int .i64 vy.n]) : w1.cell? ⟨rb, 0, none⟩ = some (.int .i64 op) ∧ w1.cell? ⟨rb, 1, none⟩ = some (.int .i64 at_) ∧ w1.cell? ⟨rb, 2, none⟩ = some (.int .i64 f4) ∧ w1.cell? ⟨rb, 3, none⟩ = some (.int .i64 vx.k) ∧ w1.cell? ⟨rb, 4, none⟩ = some (.int .i64 vx.n) ∧ w1.cell? ⟨rb, 5, none⟩ = some (.int .i64 vy.k) ∧ w1.cell? ⟨rb, 6, none⟩ = some (.int .i64 vy.n) := ⟨R.cell 0, R.cell 1, R.cell 2, R.cell 3, R.cell 4, R.cell 5, R.cell 6⟩
set_option maxHeartbeats 8000000 in
theorem cReq (q : Op15) (fit : q.Fit) (w : World) :
  Calls Tryz.prog 16 #[.agg q.cells] w fun e w' => e = .returned (.agg (reqP q).cells) ∧ Below w.heap.size w w' := by
 have k0 := kd_lt q.ac 4 (by decide)
 have k1 := kd_lt q.ob 4 (by decide)
 obtain ⟨m, hm⟩ : ∃ m, kd q.ac 4 = m := ⟨_, rfl⟩
 obtain ⟨io, hio⟩ : ∃ io : Nat, kd q.ob 4 = (io : Int) := ⟨(kd q.ob 4).toNat, by omega⟩
 obtain ⟨f4, hf4⟩ : ∃ f4, kd q.fd 4 = f4 := ⟨_, rfl⟩
 obtain ⟨vx, hvx⟩ : ∃ v, valP q.x = v := ⟨_, rfl⟩
 obtain ⟨vy, hvy⟩ : ∃ v, valP q.y = v := ⟨_, rfl⟩
 obtain ⟨m3, hm3⟩ : ∃ m3, m % 3 = m3 := ⟨_, rfl⟩
 obtain ⟨op, hop⟩ : ∃ op, 1 + m3 = op := ⟨_, rfl⟩
 obtain ⟨at_, hat⟩ : ∃ a, atP io = a := ⟨_, rfl⟩
 have hr : (reqP q).cells = #[.int .i64 op, .int .i64 at_, .int .i64 f4, .int .i64 vx.k, .int .i64 vx.n, .int .i64 vy.k, .int .i64 vy.n] := by
  unfold reqP Rq.cells
  simp only [hm, hm3, hop, hio, Int.toNat_natCast, hat, hf4, hvx, hvy]
 rw [hr]
 rw [hm] at k0
 have hio4 : io < 4 := by omega
 have hio4i : (io : Int) < 4 := by omega
 have e3 : m.tmod 3 = m3 := by rw [Int.tmod_eq_emod_of_nonneg (by omega)]; exact hm3
 have e3w : IntKind.i64.wrap m3 = m3 := by rw [IntKind.wrap_i64]; omega
 have e4w : IntKind.i64.wrap op = op := by rw [IntKind.wrap_i64]; omega
 clear hr k0 k1
 have a0 : Below w.heap.size w (w.alloc (.cells q.cells 42)) := (Below.refl _ _).alloc (Nat.le_refl _) _
 have C0 : Blk w (w.alloc (.cells q.cells 42)) w.heap.size 42 q.cells := Blk.new (Nat.le_refl _) _ (by decide)
 have a1 : Below (w.alloc (.cells q.cells 42)).heap.size (w.alloc (.cells q.cells 42)) ((w.alloc (.cells q.cells 42)).alloc (.cells #[.int .i64 0, .int .i64 0, .int .i64 0, .int .i64 0, .int .i64 0, .int .i64 0, .int .i64 0] 48)) := (Below.refl _ _).alloc (Nat.le_refl _) _
 have C1' := C0.below a1
 have H1' := bel_trans a0 a1
 have R1' : Blk w ((w.alloc (.cells q.cells 42)).alloc (.cells #[.int .i64 0, .int .i64 0, .int .i64 0, .int .i64 0, .int .i64 0, .int .i64 0, .int .i64 0] 48)) (w.heap.size + 1) 48 #[.int .i64 0, .int .i64 0, .int .i64 0, .int .i64 0, .int .i64 0, .int .i64 0, .int .i64 0] := ⟨newAt (by simp), by omega, by decide⟩
 go_enter Tryz.func16, Tryz.ntmps16
 unfold Op15.cells at C1' H1' R1' ⊢
 go_upto_region 1 with (fail)
 obtain ⟨ob, hob⟩ : ∃ ob, w.heap.size = ob := ⟨_, rfl⟩
 obtain ⟨rb, hrb⟩ : ∃ rb, ob + 1 = rb := ⟨_, rfl⟩
 rw [hob] at C1' R1' ⊢
 rw [hrb] at R1' ⊢
 have C0' : Blk w _ ob 42 q.cells := C1'
 generalize (w.alloc _).alloc _ = wa at C0' R1' H1' ⊢
 clear C1' C0 a0 a1
 have C1 := C0'.below (Below.refl _ wa).drew
 have R1 := R1'.below (Below.refl _ wa).drew
 have H1 := bel_trans H1' (Below.refl _ wa).drew
 refine wp_region_noPanic ?_
 refine wp_region_held_drew (S := fun w' => w'.cell? ⟨ob, 0, none⟩ = some (.int .i64 q.ob) ∧ w'.cell? ⟨ob, 1, none⟩ = some (.int .i64 q.fd) ∧ w'.cell? ⟨ob, 2, none⟩ = some (.int .i64 q.ac) ∧ w'.cell? ⟨ob, 4, none⟩ = some (.int .i64 q.x.k) ∧ w'.cell? ⟨ob, 5, none⟩ = some (.int .i64 q.x.n) ∧ w'.cell? ⟨ob, 6, none⟩ = some (.int .i64 q.y.k) ∧ w'.cell? ⟨ob, 7, none⟩ = some (.int .i64 q.y.n)) (by kernel_rfl) ⟨C1.cell 0, C1.cell 1, C1.cell 2, C1.cell 4, C1.cell 5, C1.cell 6, C1.cell 7⟩ (fun hHeld => ?_)
 generalize wa.drew = w1 at C1 R1 H1 hHeld ⊢
 refine tkH (i := 0) 3 (.pointer (some ⟨ob, 2, none⟩)) rfl rfl ?_
 simp only [sA1, sA2, sA3]
 refine tkH (i := 1) 4 (.int .i64 q.ac) rfl rfl ?_
 simp only [sA1, sA2, sA3]
 refine tkH (i := 6) 9 (pt ob) rfl rfl ?_
 simp only [sA1, sA2, sA3]
 refine tkH (i := 7) 10 (.int .i64 q.ob) rfl rfl ?_
 simp only [sA1, sA2, sA3]
 refine tkH (i := 11) 14 (.pointer (some ⟨ob, 1, none⟩)) rfl rfl ?_
 simp only [sA1, sA2, sA3]
 refine tkH (i := 12) 15 (.int .i64 q.fd) rfl rfl ?_
 simp only [sA1, sA2, sA3]
 refine tkH (i := 14) 17 (.pointer (some ⟨ob, 4, none⟩)) rfl rfl ?_
 simp only [sA1, sA2, sA3]
 refine tkH (i := 15) 18 (.agg #[.int .i64 q.x.k, .int .i64 q.x.n]) rfl rfl ?_
 simp only [sA1, sA2, sA3]
 refine tkH (i := 17) 20 (.pointer (some ⟨ob, 6, none⟩)) rfl rfl ?_
 simp only [sA1, sA2, sA3]
 refine tkH (i := 18) 21 (.agg #[.int .i64 q.y.k, .int .i64 q.y.n]) rfl rfl ?_
 simp only [sA1, sA2, sA3]
 refine rd2 2 5 rfl rfl (fun K hK => ?_) (fun K hK => ?_)
 ·go_simp
  refine (cKind _ q.ac 4 fit.ac.1 fit.ac.2 (by decide)).mono ?_
  rintro e wk ⟨rfl, hwk⟩
  rw [hwk, hm]
  clear hwk wk
  refine hK.out _ _ ⟨C1.cell 0, C1.cell 1, C1.cell 2, C1.cell 4, C1.cell 5, C1.cell 6, C1.cell 7⟩ (fun hHeld => ?_)
  clear hK K
  try simp only [Act.put, sA1, sA2, sA3]
  refine tkH (i := 3) 6 (.int .i64 m3) rfl rfl ?_
  simp only [sA1, sA2, sA3]
  refine tkH (i := 4) 7 (.int .i64 op) rfl rfl ?_
  simp only [sA1, sA2, sA3]
  refine rd2 5 8 rfl rfl (fun K hK => ?_) (fun K hK => ?_)
  ·go_simp
   refine hK.out _ _ (rq_al C1) (fun hHeld => ?_)
   clear hK K
   try simp only [Act.put, sA1, sA2, sA3]
   have a2 : Below w1.heap.size w1 (w1.alloc (.cells #[.int .i64 96, .int .i64 96, .int .i64 100, .int .i64 0] 3)) := (Below.refl _ _).alloc (Nat.le_refl _) _
   have C2 := C1.below a2
   have R2 := R1.below a2
   have H2 : Below w.heap.size w (w1.alloc (.cells #[.int .i64 96, .int .i64 96, .int .i64 100, .int .i64 0] 3)) := bel_trans H1 a2
   have N2 : Blk w (w1.alloc (.cells #[.int .i64 96, .int .i64 96, .int .i64 100, .int .i64 0] 3)) w1.heap.size 3 #[.int .i64 96, .int .i64 96, .int .i64 100, .int .i64 0] := Blk.new H1.size _ (by decide)
   clear a2
   generalize w1.alloc (.cells #[.int .i64 96, .int .i64 96, .int .i64 100, .int .i64 0] 3) = w2 at C2 R2 H2 N2 hHeld ⊢
   generalize w1.heap.size = nb2 at N2 ⊢
   refine rd1 8 rfl fun K hK => ?_
   go_simp
   refine (cKind _ q.ob 4 fit.ob.1 fit.ob.2 (by decide)).mono ?_
   rintro e wk ⟨rfl, hwk⟩
   rw [hwk, hio]
   clear hwk wk
   refine hK.out _ _ ⟨C2.cell 0, C2.cell 1, C2.cell 2, C2.cell 4, C2.cell 5, C2.cell 6, C2.cell 7⟩ (fun hHeld => ?_)
   clear hK K
   try simp only [Act.put, sA1, sA2, sA3]
   refine tkH (i := 9) 12 (.pointer (some ⟨nb2, io, none⟩)) rfl rfl ?_
   simp only [sA1, sA2, sA3]
   have cl : w2.cell? ⟨nb2, io, none⟩ = some (.int .i64 at_) := hat ▸ sl_cell N2 hio4
   refine rd2 10 13 rfl rfl (fun K hK => ?_) (fun K hK => ?_)
   ·go_simp
    refine hK.out _ _ ⟨C2.cell 0, C2.cell 1, C2.cell 2, C2.cell 4, C2.cell 5, C2.cell 6, C2.cell 7⟩ (fun hHeld => ?_)
    clear hK K
    try simp only [Act.put, sA1, sA2, sA3]
    refine rd1 13 rfl fun K hK => ?_
    go_simp
    refine (cKind _ q.fd 4 fit.fd.1 fit.fd.2 (by decide)).mono ?_
    rintro e wk ⟨rfl, hwk⟩
    rw [hwk, hf4]
    clear hwk wk
    refine hK.out _ _ ⟨C2.cell 0, C2.cell 1, C2.cell 2, C2.cell 4, C2.cell 5, C2.cell 6, C2.cell 7⟩ (fun hHeld => ?_)
    clear hK K
    try simp only [Act.put, sA1, sA2, sA3]
    refine rd1 16 rfl fun K hK => ?_
    go_simp
    refine (cVal q.x fit.x _).mono ?_
    rintro e w3 ⟨rfl, hb3⟩
    rw [hvx]
    have C3 := C2.below hb3
    have R3 := R2.below hb3
    have H3 : Below w.heap.size w w3 := bel_trans H2 hb3
    have N3 := N2.below hb3
    clear hb3
    refine hK.out _ _ ⟨C3.cell 0, C3.cell 1, C3.cell 2, C3.cell 4, C3.cell 5, C3.cell 6, C3.cell 7⟩ (fun hHeld => ?_)
    clear hK K
    try simp only [Act.put, sA1, sA2, sA3]
    refine rd1 19 rfl fun K hK => ?_
    go_simp
    refine (cVal q.y fit.y _).mono ?_
    rintro e w4 ⟨rfl, hb4⟩
    rw [hvy]
    have C4 := C3.below hb4
    have R4 := R3.below hb4
    have H4 : Below w.heap.size w w4 := bel_trans H3 hb4
    have N4 := N3.below hb4
    clear hb4
    refine hK.out _ _ ⟨C4.cell 0, C4.cell 1, C4.cell 2, C4.cell 4, C4.cell 5, C4.cell 6, C4.cell 7⟩ (fun hHeld => ?_)
    clear hK K
    try simp only [Act.put, sA1, sA2, sA3]
    refine tkH (i := 20) 23 (.agg #[.int .i64 op, .int .i64 at_, .int .i64 f4, .int .i64 vx.k, .int .i64 vx.n, .int .i64 vy.k, .int .i64 vy.n]) rfl rfl ?_
    simp only [sA1, sA2, sA3]
    obtain ⟨z0, z1, z2, z3, z4, z5, z6⟩ := rq_z R4
    obtain ⟨zf0, zf1, zf2, zf3, zf4, zf5, zf6⟩ := rq_f R4
    refine rd1 21 rfl fun K hK => ?_
    go_simp
    refine hK.out _ _ (rq_held C4 R4) (fun hHeld => ?_)
    clear hK K
    try simp only [Act.put, sA1, sA2, sA3]
    refine wpAnyH_done (by kernel_rfl) ?_ _
    refine NoPanic.normal ?_
    have B9 := rq_put R4 op at_ f4 vx vy
    have H9 := rq_bel R4 H4 op at_ f4 vx vy
    generalize ((World.setCell _ _ _).setCell _ _).setCell _ _ = wz at B9 H9 ⊢
    obtain ⟨u0, u1, u2, u3, u4, u5, u6⟩ := rq_u B9
    go_wp2
    exact bodyPost_ret (v := .agg #[.int .i64 op, .int .i64 at_, .int .i64 f4, .int .i64 vx.k, .int .i64 vx.n, .int .i64 vy.k, .int .i64 vy.n]) (by simp [results, Tryz.results16, go_sem, u0, u1, u2, u3, u4, u5, u6]) rfl ⟨rfl, H9⟩
   ·go_simp
    refine (cKind _ q.fd 4 fit.fd.1 fit.fd.2 (by decide)).mono ?_
    rintro e wk ⟨rfl, hwk⟩
    rw [hwk, hf4]
    clear hwk wk
    refine hK.out _ _ ⟨C2.cell 0, C2.cell 1, C2.cell 2, C2.cell 4, C2.cell 5, C2.cell 6, C2.cell 7⟩ (fun hHeld => ?_)
    clear hK K
    try simp only [Act.put, sA1, sA2, sA3]
    have cl : w2.cell? ⟨nb2, io, none⟩ = some (.int .i64 at_) := hat ▸ sl_cell N2 hio4
    refine rd2 10 16 rfl rfl (fun K hK => ?_) (fun K hK => ?_)
    ·go_simp
     refine hK.out _ _ ⟨C2.cell 0, C2.cell 1, C2.cell 2, C2.cell 4, C2.cell 5, C2.cell 6, C2.cell 7⟩ (fun hHeld => ?_)
     clear hK K
     try simp only [Act.put, sA1, sA2, sA3]
     refine rd1 16 rfl fun K hK => ?_
     go_simp
     refine (cVal q.x fit.x _).mono ?_
     rintro e w5 ⟨rfl, hb5⟩
     rw [hvx]
     have C5 := C2.below hb5
     have R5 := R2.below hb5
     have H5 : Below w.heap.size w w5 := bel_trans H2 hb5
     have N5 := N2.below hb5
     clear hb5
     refine hK.out _ _ ⟨C5.cell 0, C5.cell 1, C5.cell 2, C5.cell 4, C5.cell 5, C5.cell 6, C5.cell 7⟩ (fun hHeld => ?_)
     clear hK K
     try simp only [Act.put, sA1, sA2, sA3]
     refine rd1 19 rfl fun K hK => ?_
     go_simp
     refine (cVal q.y fit.y _).mono ?_
     rintro e w6 ⟨rfl, hb6⟩
     rw [hvy]
     have C6 := C5.below hb6
     have R6 := R5.below hb6
     have H6 : Below w.heap.size w w6 := bel_trans H5 hb6
     have N6 := N5.below hb6
     clear hb6
     refine hK.out _ _ ⟨C6.cell 0, C6.cell 1, C6.cell 2, C6.cell 4, C6.cell 5, C6.cell 6, C6.cell 7⟩ (fun hHeld => ?_)
     clear hK K
     try simp only [Act.put, sA1, sA2, sA3]
     refine tkH (i := 20) 23 (.agg #[.int .i64 op, .int .i64 at_, .int .i64 f4, .int .i64 vx.k, .int .i64 vx.n, .int .i64 vy.k, .int .i64 vy.n]) rfl rfl ?_
     simp only [sA1, sA2, sA3]
     obtain ⟨z0, z1, z2, z3, z4, z5, z6⟩ := rq_z R6
     obtain ⟨zf0, zf1, zf2, zf3, zf4, zf5, zf6⟩ := rq_f R6
     refine rd1 21 rfl fun K hK => ?_
     go_simp
     refine hK.out _ _ (rq_held C6 R6) (fun hHeld => ?_)
     clear hK K
     try simp only [Act.put, sA1, sA2, sA3]
     refine wpAnyH_done (by kernel_rfl) ?_ _
     refine NoPanic.normal ?_
     have B9 := rq_put R6 op at_ f4 vx vy
     have H9 := rq_bel R6 H6 op at_ f4 vx vy
     generalize ((World.setCell _ _ _).setCell _ _).setCell _ _ = wz at B9 H9 ⊢
     obtain ⟨u0, u1, u2, u3, u4, u5, u6⟩ := rq_u B9
     go_wp2
     exact bodyPost_ret (v := .agg #[.int .i64 op, .int .i64 at_, .int .i64 f4, .int .i64 vx.k, .int .i64 vx.n, .int .i64 vy.k, .int .i64 vy.n]) (by simp [results, Tryz.results16, go_sem, u0, u1, u2, u3, u4, u5, u6]) rfl ⟨rfl, H9⟩
    ·go_simp
     refine (cVal q.x fit.x _).mono ?_
     rintro e w7 ⟨rfl, hb7⟩
     rw [hvx]
     have C7 := C2.below hb7
     have R7 := R2.below hb7
     have H7 : Below w.heap.size w w7 := bel_trans H2 hb7
     have N7 := N2.below hb7
     clear hb7
     refine hK.out _ _ ⟨C7.cell 0, C7.cell 1, C7.cell 2, C7.cell 4, C7.cell 5, C7.cell 6, C7.cell 7⟩ (fun hHeld => ?_)
     clear hK K
     try simp only [Act.put, sA1, sA2, sA3]
     have cl : w7.cell? ⟨nb2, io, none⟩ = some (.int .i64 at_) := hat ▸ sl_cell N7 hio4
     refine rd2 10 19 rfl rfl (fun K hK => ?_) (fun K hK => ?_)
     ·go_simp
      refine hK.out _ _ ⟨C7.cell 0, C7.cell 1, C7.cell 2, C7.cell 4, C7.cell 5, C7.cell 6, C7.cell 7⟩ (fun hHeld => ?_)
      clear hK K
      try simp only [Act.put, sA1, sA2, sA3]
      refine rd1 19 rfl fun K hK => ?_
      go_simp
      refine (cVal q.y fit.y _).mono ?_
      rintro e w8 ⟨rfl, hb8⟩
      rw [hvy]
      have C8 := C7.below hb8
      have R8 := R7.below hb8
      have H8 : Below w.heap.size w w8 := bel_trans H7 hb8
      have N8 := N7.below hb8
      clear hb8
      refine hK.out _ _ ⟨C8.cell 0, C8.cell 1, C8.cell 2, C8.cell 4, C8.cell 5, C8.cell 6, C8.cell 7⟩ (fun hHeld => ?_)
      clear hK K
      try simp only [Act.put, sA1, sA2, sA3]
      refine tkH (i := 20) 23 (.agg #[.int .i64 op, .int .i64 at_, .int .i64 f4, .int .i64 vx.k, .int .i64 vx.n, .int .i64 vy.k, .int .i64 vy.n]) rfl rfl ?_
      simp only [sA1, sA2, sA3]
      obtain ⟨z0, z1, z2, z3, z4, z5, z6⟩ := rq_z R8
      obtain ⟨zf0, zf1, zf2, zf3, zf4, zf5, zf6⟩ := rq_f R8
      refine rd1 21 rfl fun K hK => ?_
      go_simp
      refine hK.out _ _ (rq_held C8 R8) (fun hHeld => ?_)
      clear hK K
      try simp only [Act.put, sA1, sA2, sA3]
      refine wpAnyH_done (by kernel_rfl) ?_ _
      refine NoPanic.normal ?_
      have B9 := rq_put R8 op at_ f4 vx vy
      have H9 := rq_bel R8 H8 op at_ f4 vx vy
      generalize ((World.setCell _ _ _).setCell _ _).setCell _ _ = wz at B9 H9 ⊢
      obtain ⟨u0, u1, u2, u3, u4, u5, u6⟩ := rq_u B9
      go_wp2
      exact bodyPost_ret (v := .agg #[.int .i64 op, .int .i64 at_, .int .i64 f4, .int .i64 vx.k, .int .i64 vx.n, .int .i64 vy.k, .int .i64 vy.n]) (by simp [results, Tryz.results16, go_sem, u0, u1, u2, u3, u4, u5, u6]) rfl ⟨rfl, H9⟩
     ·go_simp
      refine (cVal q.y fit.y _).mono ?_
      rintro e w9 ⟨rfl, hb9⟩
      rw [hvy]
      have C9 := C7.below hb9
      have R9 := R7.below hb9
      have H9 : Below w.heap.size w w9 := bel_trans H7 hb9
      have N9 := N7.below hb9
      clear hb9
      refine hK.out _ _ ⟨C9.cell 0, C9.cell 1, C9.cell 2, C9.cell 4, C9.cell 5, C9.cell 6, C9.cell 7⟩ (fun hHeld => ?_)
      clear hK K
      try simp only [Act.put, sA1, sA2, sA3]
      have cl : w9.cell? ⟨nb2, io, none⟩ = some (.int .i64 at_) := hat ▸ sl_cell N9 hio4
      refine rd1 10 rfl fun K hK => ?_
      go_simp
      refine hK.out _ _ ⟨C9.cell 0, C9.cell 1, C9.cell 2, C9.cell 4, C9.cell 5, C9.cell 6, C9.cell 7⟩ (fun hHeld => ?_)
      clear hK K
      try simp only [Act.put, sA1, sA2, sA3]
      refine tkH (i := 20) 23 (.agg #[.int .i64 op, .int .i64 at_, .int .i64 f4, .int .i64 vx.k, .int .i64 vx.n, .int .i64 vy.k, .int .i64 vy.n]) rfl rfl ?_
      simp only [sA1, sA2, sA3]
      obtain ⟨z0, z1, z2, z3, z4, z5, z6⟩ := rq_z R9
      obtain ⟨zf0, zf1, zf2, zf3, zf4, zf5, zf6⟩ := rq_f R9
      refine rd1 21 rfl fun K hK => ?_
      go_simp
      refine hK.out _ _ (rq_held C9 R9) (fun hHeld => ?_)
      clear hK K
      try simp only [Act.put, sA1, sA2, sA3]
      refine wpAnyH_done (by kernel_rfl) ?_ _
      refine NoPanic.normal ?_
      have B9 := rq_put R9 op at_ f4 vx vy
      have H9 := rq_bel R9 H9 op at_ f4 vx vy
      generalize ((World.setCell _ _ _).setCell _ _).setCell _ _ = wz at B9 H9 ⊢
      obtain ⟨u0, u1, u2, u3, u4, u5, u6⟩ := rq_u B9
      go_wp2
      exact bodyPost_ret (v := .agg #[.int .i64 op, .int .i64 at_, .int .i64 f4, .int .i64 vx.k, .int .i64 vx.n, .int .i64 vy.k, .int .i64 vy.n]) (by simp [results, Tryz.results16, go_sem, u0, u1, u2, u3, u4, u5, u6]) rfl ⟨rfl, H9⟩
  ·go_simp
   refine (cKind _ q.ob 4 fit.ob.1 fit.ob.2 (by decide)).mono ?_
   rintro e wk ⟨rfl, hwk⟩
   rw [hwk, hio]
   clear hwk wk
   refine hK.out _ _ ⟨C1.cell 0, C1.cell 1, C1.cell 2, C1.cell 4, C1.cell 5, C1.cell 6, C1.cell 7⟩ (fun hHeld => ?_)
   clear hK K
   try simp only [Act.put, sA1, sA2, sA3]
   refine rd2 5 13 rfl rfl (fun K hK => ?_) (fun K hK => ?_)
   ·go_simp
    refine hK.out _ _ (rq_al C1) (fun hHeld => ?_)
    clear hK K
    try simp only [Act.put, sA1, sA2, sA3]
    have a10 : Below w1.heap.size w1 (w1.alloc (.cells #[.int .i64 96, .int .i64 96, .int .i64 100, .int .i64 0] 3)) := (Below.refl _ _).alloc (Nat.le_refl _) _
    have C10 := C1.below a10
    have R10 := R1.below a10
    have H10 : Below w.heap.size w (w1.alloc (.cells #[.int .i64 96, .int .i64 96, .int .i64 100, .int .i64 0] 3)) := bel_trans H1 a10
    have N10 : Blk w (w1.alloc (.cells #[.int .i64 96, .int .i64 96, .int .i64 100, .int .i64 0] 3)) w1.heap.size 3 #[.int .i64 96, .int .i64 96, .int .i64 100, .int .i64 0] := Blk.new H1.size _ (by decide)
    clear a10
    generalize w1.alloc (.cells #[.int .i64 96, .int .i64 96, .int .i64 100, .int .i64 0] 3) = w10 at C10 R10 H10 N10 hHeld ⊢
    generalize w1.heap.size = nb10 at N10 ⊢
    refine tkH (i := 9) 12 (.pointer (some ⟨nb10, io, none⟩)) rfl rfl ?_
    simp only [sA1, sA2, sA3]
    have cl : w10.cell? ⟨nb10, io, none⟩ = some (.int .i64 at_) := hat ▸ sl_cell N10 hio4
    refine rd2 10 13 rfl rfl (fun K hK => ?_) (fun K hK => ?_)
    ·go_simp
     refine hK.out _ _ ⟨C10.cell 0, C10.cell 1, C10.cell 2, C10.cell 4, C10.cell 5, C10.cell 6, C10.cell 7⟩ (fun hHeld => ?_)
     clear hK K
     try simp only [Act.put, sA1, sA2, sA3]
     refine rd1 13 rfl fun K hK => ?_
     go_simp
     refine (cKind _ q.fd 4 fit.fd.1 fit.fd.2 (by decide)).mono ?_
     rintro e wk ⟨rfl, hwk⟩
     rw [hwk, hf4]
     clear hwk wk
     refine hK.out _ _ ⟨C10.cell 0, C10.cell 1, C10.cell 2, C10.cell 4, C10.cell 5, C10.cell 6, C10.cell 7⟩ (fun hHeld => ?_)
     clear hK K
     try simp only [Act.put, sA1, sA2, sA3]
     refine rd1 16 rfl fun K hK => ?_
     go_simp
     refine (cVal q.x fit.x _).mono ?_
     rintro e w11 ⟨rfl, hb11⟩
     rw [hvx]
     have C11 := C10.below hb11
     have R11 := R10.below hb11
     have H11 : Below w.heap.size w w11 := bel_trans H10 hb11
     have N11 := N10.below hb11
     clear hb11
     refine hK.out _ _ ⟨C11.cell 0, C11.cell 1, C11.cell 2, C11.cell 4, C11.cell 5, C11.cell 6, C11.cell 7⟩ (fun hHeld => ?_)
     clear hK K
     try simp only [Act.put, sA1, sA2, sA3]
     refine rd1 19 rfl fun K hK => ?_
     go_simp
     refine (cVal q.y fit.y _).mono ?_
     rintro e w12 ⟨rfl, hb12⟩
     rw [hvy]
     have C12 := C11.below hb12
     have R12 := R11.below hb12
     have H12 : Below w.heap.size w w12 := bel_trans H11 hb12
     have N12 := N11.below hb12
     clear hb12
     refine hK.out _ _ ⟨C12.cell 0, C12.cell 1, C12.cell 2, C12.cell 4, C12.cell 5, C12.cell 6, C12.cell 7⟩ (fun hHeld => ?_)
     clear hK K
     try simp only [Act.put, sA1, sA2, sA3]
     refine tkH (i := 20) 23 (.agg #[.int .i64 op, .int .i64 at_, .int .i64 f4, .int .i64 vx.k, .int .i64 vx.n, .int .i64 vy.k, .int .i64 vy.n]) rfl rfl ?_
     simp only [sA1, sA2, sA3]
     obtain ⟨z0, z1, z2, z3, z4, z5, z6⟩ := rq_z R12
     obtain ⟨zf0, zf1, zf2, zf3, zf4, zf5, zf6⟩ := rq_f R12
     refine rd1 21 rfl fun K hK => ?_
     go_simp
     refine hK.out _ _ (rq_held C12 R12) (fun hHeld => ?_)
     clear hK K
     try simp only [Act.put, sA1, sA2, sA3]
     refine wpAnyH_done (by kernel_rfl) ?_ _
     refine NoPanic.normal ?_
     have B9 := rq_put R12 op at_ f4 vx vy
     have H9 := rq_bel R12 H12 op at_ f4 vx vy
     generalize ((World.setCell _ _ _).setCell _ _).setCell _ _ = wz at B9 H9 ⊢
     obtain ⟨u0, u1, u2, u3, u4, u5, u6⟩ := rq_u B9
     go_wp2
     exact bodyPost_ret (v := .agg #[.int .i64 op, .int .i64 at_, .int .i64 f4, .int .i64 vx.k, .int .i64 vx.n, .int .i64 vy.k, .int .i64 vy.n]) (by simp [results, Tryz.results16, go_sem, u0, u1, u2, u3, u4, u5, u6]) rfl ⟨rfl, H9⟩
    ·go_simp
     refine (cKind _ q.fd 4 fit.fd.1 fit.fd.2 (by decide)).mono ?_
     rintro e wk ⟨rfl, hwk⟩
     rw [hwk, hf4]
     clear hwk wk
     refine hK.out _ _ ⟨C10.cell 0, C10.cell 1, C10.cell 2, C10.cell 4, C10.cell 5, C10.cell 6, C10.cell 7⟩ (fun hHeld => ?_)
     clear hK K
     try simp only [Act.put, sA1, sA2, sA3]
     have cl : w10.cell? ⟨nb10, io, none⟩ = some (.int .i64 at_) := hat ▸ sl_cell N10 hio4
     refine rd2 10 16 rfl rfl (fun K hK => ?_) (fun K hK => ?_)
     ·go_simp
      refine hK.out _ _ ⟨C10.cell 0, C10.cell 1, C10.cell 2, C10.cell 4, C10.cell 5, C10.cell 6, C10.cell 7⟩ (fun hHeld => ?_)
      clear hK K
      try simp only [Act.put, sA1, sA2, sA3]
      refine rd1 16 rfl fun K hK => ?_
      go_simp
      refine (cVal q.x fit.x _).mono ?_
      rintro e w13 ⟨rfl, hb13⟩
      rw [hvx]
      have C13 := C10.below hb13
      have R13 := R10.below hb13
      have H13 : Below w.heap.size w w13 := bel_trans H10 hb13
      have N13 := N10.below hb13
      clear hb13
      refine hK.out _ _ ⟨C13.cell 0, C13.cell 1, C13.cell 2, C13.cell 4, C13.cell 5, C13.cell 6, C13.cell 7⟩ (fun hHeld => ?_)
      clear hK K
      try simp only [Act.put, sA1, sA2, sA3]
      refine rd1 19 rfl fun K hK => ?_
      go_simp
      refine (cVal q.y fit.y _).mono ?_
      rintro e w14 ⟨rfl, hb14⟩
      rw [hvy]
      have C14 := C13.below hb14
      have R14 := R13.below hb14
      have H14 : Below w.heap.size w w14 := bel_trans H13 hb14
      have N14 := N13.below hb14
      clear hb14
      refine hK.out _ _ ⟨C14.cell 0, C14.cell 1, C14.cell 2, C14.cell 4, C14.cell 5, C14.cell 6, C14.cell 7⟩ (fun hHeld => ?_)
      clear hK K
      try simp only [Act.put, sA1, sA2, sA3]
      refine tkH (i := 20) 23 (.agg #[.int .i64 op, .int .i64 at_, .int .i64 f4, .int .i64 vx.k, .int .i64 vx.n, .int .i64 vy.k, .int .i64 vy.n]) rfl rfl ?_
      simp only [sA1, sA2, sA3]
      obtain ⟨z0, z1, z2, z3, z4, z5, z6⟩ := rq_z R14
      obtain ⟨zf0, zf1, zf2, zf3, zf4, zf5, zf6⟩ := rq_f R14
      refine rd1 21 rfl fun K hK => ?_
      go_simp
      refine hK.out _ _ (rq_held C14 R14) (fun hHeld => ?_)
      clear hK K
      try simp only [Act.put, sA1, sA2, sA3]
      refine wpAnyH_done (by kernel_rfl) ?_ _
      refine NoPanic.normal ?_
      have B9 := rq_put R14 op at_ f4 vx vy
      have H9 := rq_bel R14 H14 op at_ f4 vx vy
      generalize ((World.setCell _ _ _).setCell _ _).setCell _ _ = wz at B9 H9 ⊢
      obtain ⟨u0, u1, u2, u3, u4, u5, u6⟩ := rq_u B9
      go_wp2
      exact bodyPost_ret (v := .agg #[.int .i64 op, .int .i64 at_, .int .i64 f4, .int .i64 vx.k, .int .i64 vx.n, .int .i64 vy.k, .int .i64 vy.n]) (by simp [results, Tryz.results16, go_sem, u0, u1, u2, u3, u4, u5, u6]) rfl ⟨rfl, H9⟩
     ·go_simp
      refine (cVal q.x fit.x _).mono ?_
      rintro e w15 ⟨rfl, hb15⟩
      rw [hvx]
      have C15 := C10.below hb15
      have R15 := R10.below hb15
      have H15 : Below w.heap.size w w15 := bel_trans H10 hb15
      have N15 := N10.below hb15
      clear hb15
      refine hK.out _ _ ⟨C15.cell 0, C15.cell 1, C15.cell 2, C15.cell 4, C15.cell 5, C15.cell 6, C15.cell 7⟩ (fun hHeld => ?_)
      clear hK K
      try simp only [Act.put, sA1, sA2, sA3]
      have cl : w15.cell? ⟨nb10, io, none⟩ = some (.int .i64 at_) := hat ▸ sl_cell N15 hio4
      refine rd2 10 19 rfl rfl (fun K hK => ?_) (fun K hK => ?_)
      ·go_simp
       refine hK.out _ _ ⟨C15.cell 0, C15.cell 1, C15.cell 2, C15.cell 4, C15.cell 5, C15.cell 6, C15.cell 7⟩ (fun hHeld => ?_)
       clear hK K
       try simp only [Act.put, sA1, sA2, sA3]
       refine rd1 19 rfl fun K hK => ?_
       go_simp
       refine (cVal q.y fit.y _).mono ?_
       rintro e w16 ⟨rfl, hb16⟩
       rw [hvy]
       have C16 := C15.below hb16
       have R16 := R15.below hb16
       have H16 : Below w.heap.size w w16 := bel_trans H15 hb16
       have N16 := N15.below hb16
       clear hb16
       refine hK.out _ _ ⟨C16.cell 0, C16.cell 1, C16.cell 2, C16.cell 4, C16.cell 5, C16.cell 6, C16.cell 7⟩ (fun hHeld => ?_)
       clear hK K
       try simp only [Act.put, sA1, sA2, sA3]
       refine tkH (i := 20) 23 (.agg #[.int .i64 op, .int .i64 at_, .int .i64 f4, .int .i64 vx.k, .int .i64 vx.n, .int .i64 vy.k, .int .i64 vy.n]) rfl rfl ?_
       simp only [sA1, sA2, sA3]
       obtain ⟨z0, z1, z2, z3, z4, z5, z6⟩ := rq_z R16
       obtain ⟨zf0, zf1, zf2, zf3, zf4, zf5, zf6⟩ := rq_f R16
       refine rd1 21 rfl fun K hK => ?_
       go_simp
       refine hK.out _ _ (rq_held C16 R16) (fun hHeld => ?_)
       clear hK K
       try simp only [Act.put, sA1, sA2, sA3]
       refine wpAnyH_done (by kernel_rfl) ?_ _
       refine NoPanic.normal ?_
       have B9 := rq_put R16 op at_ f4 vx vy
       have H9 := rq_bel R16 H16 op at_ f4 vx vy
       generalize ((World.setCell _ _ _).setCell _ _).setCell _ _ = wz at B9 H9 ⊢
       obtain ⟨u0, u1, u2, u3, u4, u5, u6⟩ := rq_u B9
       go_wp2
       exact bodyPost_ret (v := .agg #[.int .i64 op, .int .i64 at_, .int .i64 f4, .int .i64 vx.k, .int .i64 vx.n, .int .i64 vy.k, .int .i64 vy.n]) (by simp [results, Tryz.results16, go_sem, u0, u1, u2, u3, u4, u5, u6]) rfl ⟨rfl, H9⟩
      ·go_simp
       refine (cVal q.y fit.y _).mono ?_
       rintro e w17 ⟨rfl, hb17⟩
       rw [hvy]
       have C17 := C15.below hb17
       have R17 := R15.below hb17
       have H17 : Below w.heap.size w w17 := bel_trans H15 hb17
       have N17 := N15.below hb17
       clear hb17
       refine hK.out _ _ ⟨C17.cell 0, C17.cell 1, C17.cell 2, C17.cell 4, C17.cell 5, C17.cell 6, C17.cell 7⟩ (fun hHeld => ?_)
       clear hK K
       try simp only [Act.put, sA1, sA2, sA3]
       have cl : w17.cell? ⟨nb10, io, none⟩ = some (.int .i64 at_) := hat ▸ sl_cell N17 hio4
       refine rd1 10 rfl fun K hK => ?_
       go_simp
       refine hK.out _ _ ⟨C17.cell 0, C17.cell 1, C17.cell 2, C17.cell 4, C17.cell 5, C17.cell 6, C17.cell 7⟩ (fun hHeld => ?_)
       clear hK K
       try simp only [Act.put, sA1, sA2, sA3]
       refine tkH (i := 20) 23 (.agg #[.int .i64 op, .int .i64 at_, .int .i64 f4, .int .i64 vx.k, .int .i64 vx.n, .int .i64 vy.k, .int .i64 vy.n]) rfl rfl ?_
       simp only [sA1, sA2, sA3]
       obtain ⟨z0, z1, z2, z3, z4, z5, z6⟩ := rq_z R17
       obtain ⟨zf0, zf1, zf2, zf3, zf4, zf5, zf6⟩ := rq_f R17
       refine rd1 21 rfl fun K hK => ?_
       go_simp
       refine hK.out _ _ (rq_held C17 R17) (fun hHeld => ?_)
       clear hK K
       try simp only [Act.put, sA1, sA2, sA3]
       refine wpAnyH_done (by kernel_rfl) ?_ _
       refine NoPanic.normal ?_
       have B9 := rq_put R17 op at_ f4 vx vy
       have H9 := rq_bel R17 H17 op at_ f4 vx vy
       generalize ((World.setCell _ _ _).setCell _ _).setCell _ _ = wz at B9 H9 ⊢
       obtain ⟨u0, u1, u2, u3, u4, u5, u6⟩ := rq_u B9
       go_wp2
       exact bodyPost_ret (v := .agg #[.int .i64 op, .int .i64 at_, .int .i64 f4, .int .i64 vx.k, .int .i64 vx.n, .int .i64 vy.k, .int .i64 vy.n]) (by simp [results, Tryz.results16, go_sem, u0, u1, u2, u3, u4, u5, u6]) rfl ⟨rfl, H9⟩
   ·go_simp
    refine (cKind _ q.fd 4 fit.fd.1 fit.fd.2 (by decide)).mono ?_
    rintro e wk ⟨rfl, hwk⟩
    rw [hwk, hf4]
    clear hwk wk
    refine hK.out _ _ ⟨C1.cell 0, C1.cell 1, C1.cell 2, C1.cell 4, C1.cell 5, C1.cell 6, C1.cell 7⟩ (fun hHeld => ?_)
    clear hK K
    try simp only [Act.put, sA1, sA2, sA3]
    refine rd2 5 16 rfl rfl (fun K hK => ?_) (fun K hK => ?_)
    ·go_simp
     refine hK.out _ _ (rq_al C1) (fun hHeld => ?_)
     clear hK K
     try simp only [Act.put, sA1, sA2, sA3]
     have a18 : Below w1.heap.size w1 (w1.alloc (.cells #[.int .i64 96, .int .i64 96, .int .i64 100, .int .i64 0] 3)) := (Below.refl _ _).alloc (Nat.le_refl _) _
     have C18 := C1.below a18
     have R18 := R1.below a18
     have H18 : Below w.heap.size w (w1.alloc (.cells #[.int .i64 96, .int .i64 96, .int .i64 100, .int .i64 0] 3)) := bel_trans H1 a18
     have N18 : Blk w (w1.alloc (.cells #[.int .i64 96, .int .i64 96, .int .i64 100, .int .i64 0] 3)) w1.heap.size 3 #[.int .i64 96, .int .i64 96, .int .i64 100, .int .i64 0] := Blk.new H1.size _ (by decide)
     clear a18
     generalize w1.alloc (.cells #[.int .i64 96, .int .i64 96, .int .i64 100, .int .i64 0] 3) = w18 at C18 R18 H18 N18 hHeld ⊢
     generalize w1.heap.size = nb18 at N18 ⊢
     refine tkH (i := 9) 12 (.pointer (some ⟨nb18, io, none⟩)) rfl rfl ?_
     simp only [sA1, sA2, sA3]
     have cl : w18.cell? ⟨nb18, io, none⟩ = some (.int .i64 at_) := hat ▸ sl_cell N18 hio4
     refine rd2 10 16 rfl rfl (fun K hK => ?_) (fun K hK => ?_)
     ·go_simp
      refine hK.out _ _ ⟨C18.cell 0, C18.cell 1, C18.cell 2, C18.cell 4, C18.cell 5, C18.cell 6, C18.cell 7⟩ (fun hHeld => ?_)
      clear hK K
      try simp only [Act.put, sA1, sA2, sA3]
      refine rd1 16 rfl fun K hK => ?_
      go_simp
      refine (cVal q.x fit.x _).mono ?_
      rintro e w19 ⟨rfl, hb19⟩
      rw [hvx]
      have C19 := C18.below hb19
      have R19 := R18.below hb19
      have H19 : Below w.heap.size w w19 := bel_trans H18 hb19
      have N19 := N18.below hb19
      clear hb19
      refine hK.out _ _ ⟨C19.cell 0, C19.cell 1, C19.cell 2, C19.cell 4, C19.cell 5, C19.cell 6, C19.cell 7⟩ (fun hHeld => ?_)
      clear hK K
      try simp only [Act.put, sA1, sA2, sA3]
      refine rd1 19 rfl fun K hK => ?_
      go_simp
      refine (cVal q.y fit.y _).mono ?_
      rintro e w20 ⟨rfl, hb20⟩
      rw [hvy]
      have C20 := C19.below hb20
      have R20 := R19.below hb20
      have H20 : Below w.heap.size w w20 := bel_trans H19 hb20
      have N20 := N19.below hb20
      clear hb20
      refine hK.out _ _ ⟨C20.cell 0, C20.cell 1, C20.cell 2, C20.cell 4, C20.cell 5, C20.cell 6, C20.cell 7⟩ (fun hHeld => ?_)
      clear hK K
      try simp only [Act.put, sA1, sA2, sA3]
      refine tkH (i := 20) 23 (.agg #[.int .i64 op, .int .i64 at_, .int .i64 f4, .int .i64 vx.k, .int .i64 vx.n, .int .i64 vy.k, .int .i64 vy.n]) rfl rfl ?_
      simp only [sA1, sA2, sA3]
      obtain ⟨z0, z1, z2, z3, z4, z5, z6⟩ := rq_z R20
      obtain ⟨zf0, zf1, zf2, zf3, zf4, zf5, zf6⟩ := rq_f R20
      refine rd1 21 rfl fun K hK => ?_
      go_simp
      refine hK.out _ _ (rq_held C20 R20) (fun hHeld => ?_)
      clear hK K
      try simp only [Act.put, sA1, sA2, sA3]
      refine wpAnyH_done (by kernel_rfl) ?_ _
      refine NoPanic.normal ?_
      have B9 := rq_put R20 op at_ f4 vx vy
      have H9 := rq_bel R20 H20 op at_ f4 vx vy
      generalize ((World.setCell _ _ _).setCell _ _).setCell _ _ = wz at B9 H9 ⊢
      obtain ⟨u0, u1, u2, u3, u4, u5, u6⟩ := rq_u B9
      go_wp2
      exact bodyPost_ret (v := .agg #[.int .i64 op, .int .i64 at_, .int .i64 f4, .int .i64 vx.k, .int .i64 vx.n, .int .i64 vy.k, .int .i64 vy.n]) (by simp [results, Tryz.results16, go_sem, u0, u1, u2, u3, u4, u5, u6]) rfl ⟨rfl, H9⟩
     ·go_simp
      refine (cVal q.x fit.x _).mono ?_
      rintro e w21 ⟨rfl, hb21⟩
      rw [hvx]
      have C21 := C18.below hb21
      have R21 := R18.below hb21
      have H21 : Below w.heap.size w w21 := bel_trans H18 hb21
      have N21 := N18.below hb21
      clear hb21
      refine hK.out _ _ ⟨C21.cell 0, C21.cell 1, C21.cell 2, C21.cell 4, C21.cell 5, C21.cell 6, C21.cell 7⟩ (fun hHeld => ?_)
      clear hK K
      try simp only [Act.put, sA1, sA2, sA3]
      have cl : w21.cell? ⟨nb18, io, none⟩ = some (.int .i64 at_) := hat ▸ sl_cell N21 hio4
      refine rd2 10 19 rfl rfl (fun K hK => ?_) (fun K hK => ?_)
      ·go_simp
       refine hK.out _ _ ⟨C21.cell 0, C21.cell 1, C21.cell 2, C21.cell 4, C21.cell 5, C21.cell 6, C21.cell 7⟩ (fun hHeld => ?_)
       clear hK K
       try simp only [Act.put, sA1, sA2, sA3]
       refine rd1 19 rfl fun K hK => ?_
       go_simp
       refine (cVal q.y fit.y _).mono ?_
       rintro e w22 ⟨rfl, hb22⟩
       rw [hvy]
       have C22 := C21.below hb22
       have R22 := R21.below hb22
       have H22 : Below w.heap.size w w22 := bel_trans H21 hb22
       have N22 := N21.below hb22
       clear hb22
       refine hK.out _ _ ⟨C22.cell 0, C22.cell 1, C22.cell 2, C22.cell 4, C22.cell 5, C22.cell 6, C22.cell 7⟩ (fun hHeld => ?_)
       clear hK K
       try simp only [Act.put, sA1, sA2, sA3]
       refine tkH (i := 20) 23 (.agg #[.int .i64 op, .int .i64 at_, .int .i64 f4, .int .i64 vx.k, .int .i64 vx.n, .int .i64 vy.k, .int .i64 vy.n]) rfl rfl ?_
       simp only [sA1, sA2, sA3]
       obtain ⟨z0, z1, z2, z3, z4, z5, z6⟩ := rq_z R22
       obtain ⟨zf0, zf1, zf2, zf3, zf4, zf5, zf6⟩ := rq_f R22
       refine rd1 21 rfl fun K hK => ?_
       go_simp
       refine hK.out _ _ (rq_held C22 R22) (fun hHeld => ?_)
       clear hK K
       try simp only [Act.put, sA1, sA2, sA3]
       refine wpAnyH_done (by kernel_rfl) ?_ _
       refine NoPanic.normal ?_
       have B9 := rq_put R22 op at_ f4 vx vy
       have H9 := rq_bel R22 H22 op at_ f4 vx vy
       generalize ((World.setCell _ _ _).setCell _ _).setCell _ _ = wz at B9 H9 ⊢
       obtain ⟨u0, u1, u2, u3, u4, u5, u6⟩ := rq_u B9
       go_wp2
       exact bodyPost_ret (v := .agg #[.int .i64 op, .int .i64 at_, .int .i64 f4, .int .i64 vx.k, .int .i64 vx.n, .int .i64 vy.k, .int .i64 vy.n]) (by simp [results, Tryz.results16, go_sem, u0, u1, u2, u3, u4, u5, u6]) rfl ⟨rfl, H9⟩
      ·go_simp
       refine (cVal q.y fit.y _).mono ?_
       rintro e w23 ⟨rfl, hb23⟩
       rw [hvy]
       have C23 := C21.below hb23
       have R23 := R21.below hb23
       have H23 : Below w.heap.size w w23 := bel_trans H21 hb23
       have N23 := N21.below hb23
       clear hb23
       refine hK.out _ _ ⟨C23.cell 0, C23.cell 1, C23.cell 2, C23.cell 4, C23.cell 5, C23.cell 6, C23.cell 7⟩ (fun hHeld => ?_)
       clear hK K
       try simp only [Act.put, sA1, sA2, sA3]
       have cl : w23.cell? ⟨nb18, io, none⟩ = some (.int .i64 at_) := hat ▸ sl_cell N23 hio4
       refine rd1 10 rfl fun K hK => ?_
       go_simp
       refine hK.out _ _ ⟨C23.cell 0, C23.cell 1, C23.cell 2, C23.cell 4, C23.cell 5, C23.cell 6, C23.cell 7⟩ (fun hHeld => ?_)
       clear hK K
       try simp only [Act.put, sA1, sA2, sA3]
       refine tkH (i := 20) 23 (.agg #[.int .i64 op, .int .i64 at_, .int .i64 f4, .int .i64 vx.k, .int .i64 vx.n, .int .i64 vy.k, .int .i64 vy.n]) rfl rfl ?_
       simp only [sA1, sA2, sA3]
       obtain ⟨z0, z1, z2, z3, z4, z5, z6⟩ := rq_z R23
       obtain ⟨zf0, zf1, zf2, zf3, zf4, zf5, zf6⟩ := rq_f R23
       refine rd1 21 rfl fun K hK => ?_
       go_simp
       refine hK.out _ _ (rq_held C23 R23) (fun hHeld => ?_)
       clear hK K
       try simp only [Act.put, sA1, sA2, sA3]
       refine wpAnyH_done (by kernel_rfl) ?_ _
       refine NoPanic.normal ?_
       have B9 := rq_put R23 op at_ f4 vx vy
       have H9 := rq_bel R23 H23 op at_ f4 vx vy
       generalize ((World.setCell _ _ _).setCell _ _).setCell _ _ = wz at B9 H9 ⊢
       obtain ⟨u0, u1, u2, u3, u4, u5, u6⟩ := rq_u B9
       go_wp2
       exact bodyPost_ret (v := .agg #[.int .i64 op, .int .i64 at_, .int .i64 f4, .int .i64 vx.k, .int .i64 vx.n, .int .i64 vy.k, .int .i64 vy.n]) (by simp [results, Tryz.results16, go_sem, u0, u1, u2, u3, u4, u5, u6]) rfl ⟨rfl, H9⟩
    ·go_simp
     refine (cVal q.x fit.x _).mono ?_
     rintro e w24 ⟨rfl, hb24⟩
     rw [hvx]
     have C24 := C1.below hb24
     have R24 := R1.below hb24
     have H24 : Below w.heap.size w w24 := bel_trans H1 hb24
     clear hb24
     refine hK.out _ _ ⟨C24.cell 0, C24.cell 1, C24.cell 2, C24.cell 4, C24.cell 5, C24.cell 6, C24.cell 7⟩ (fun hHeld => ?_)
     clear hK K
     try simp only [Act.put, sA1, sA2, sA3]
     refine rd2 5 19 rfl rfl (fun K hK => ?_) (fun K hK => ?_)
     ·go_simp
      refine hK.out _ _ (rq_al C24) (fun hHeld => ?_)
      clear hK K
      try simp only [Act.put, sA1, sA2, sA3]
      have a25 : Below w24.heap.size w24 (w24.alloc (.cells #[.int .i64 96, .int .i64 96, .int .i64 100, .int .i64 0] 3)) := (Below.refl _ _).alloc (Nat.le_refl _) _
      have C25 := C24.below a25
      have R25 := R24.below a25
      have H25 : Below w.heap.size w (w24.alloc (.cells #[.int .i64 96, .int .i64 96, .int .i64 100, .int .i64 0] 3)) := bel_trans H24 a25
      have N25 : Blk w (w24.alloc (.cells #[.int .i64 96, .int .i64 96, .int .i64 100, .int .i64 0] 3)) w24.heap.size 3 #[.int .i64 96, .int .i64 96, .int .i64 100, .int .i64 0] := Blk.new H24.size _ (by decide)
      clear a25
      generalize w24.alloc (.cells #[.int .i64 96, .int .i64 96, .int .i64 100, .int .i64 0] 3) = w25 at C25 R25 H25 N25 hHeld ⊢
      generalize w24.heap.size = nb25 at N25 ⊢
      refine tkH (i := 9) 12 (.pointer (some ⟨nb25, io, none⟩)) rfl rfl ?_
      simp only [sA1, sA2, sA3]
      have cl : w25.cell? ⟨nb25, io, none⟩ = some (.int .i64 at_) := hat ▸ sl_cell N25 hio4
      refine rd2 10 19 rfl rfl (fun K hK => ?_) (fun K hK => ?_)
      ·go_simp
       refine hK.out _ _ ⟨C25.cell 0, C25.cell 1, C25.cell 2, C25.cell 4, C25.cell 5, C25.cell 6, C25.cell 7⟩ (fun hHeld => ?_)
       clear hK K
       try simp only [Act.put, sA1, sA2, sA3]
       refine rd1 19 rfl fun K hK => ?_
       go_simp
       refine (cVal q.y fit.y _).mono ?_
       rintro e w26 ⟨rfl, hb26⟩
       rw [hvy]
       have C26 := C25.below hb26
       have R26 := R25.below hb26
       have H26 : Below w.heap.size w w26 := bel_trans H25 hb26
       have N26 := N25.below hb26
       clear hb26
       refine hK.out _ _ ⟨C26.cell 0, C26.cell 1, C26.cell 2, C26.cell 4, C26.cell 5, C26.cell 6, C26.cell 7⟩ (fun hHeld => ?_)
       clear hK K
       try simp only [Act.put, sA1, sA2, sA3]
       refine tkH (i := 20) 23 (.agg #[.int .i64 op, .int .i64 at_, .int .i64 f4, .int .i64 vx.k, .int .i64 vx.n, .int .i64 vy.k, .int .i64 vy.n]) rfl rfl ?_
       simp only [sA1, sA2, sA3]
       obtain ⟨z0, z1, z2, z3, z4, z5, z6⟩ := rq_z R26
       obtain ⟨zf0, zf1, zf2, zf3, zf4, zf5, zf6⟩ := rq_f R26
       refine rd1 21 rfl fun K hK => ?_
       go_simp
       refine hK.out _ _ (rq_held C26 R26) (fun hHeld => ?_)
       clear hK K
       try simp only [Act.put, sA1, sA2, sA3]
       refine wpAnyH_done (by kernel_rfl) ?_ _
       refine NoPanic.normal ?_
       have B9 := rq_put R26 op at_ f4 vx vy
       have H9 := rq_bel R26 H26 op at_ f4 vx vy
       generalize ((World.setCell _ _ _).setCell _ _).setCell _ _ = wz at B9 H9 ⊢
       obtain ⟨u0, u1, u2, u3, u4, u5, u6⟩ := rq_u B9
       go_wp2
       exact bodyPost_ret (v := .agg #[.int .i64 op, .int .i64 at_, .int .i64 f4, .int .i64 vx.k, .int .i64 vx.n, .int .i64 vy.k, .int .i64 vy.n]) (by simp [results, Tryz.results16, go_sem, u0, u1, u2, u3, u4, u5, u6]) rfl ⟨rfl, H9⟩
      ·go_simp
       refine (cVal q.y fit.y _).mono ?_
       rintro e w27 ⟨rfl, hb27⟩
       rw [hvy]
       have C27 := C25.below hb27
       have R27 := R25.below hb27
       have H27 : Below w.heap.size w w27 := bel_trans H25 hb27
       have N27 := N25.below hb27
       clear hb27
       refine hK.out _ _ ⟨C27.cell 0, C27.cell 1, C27.cell 2, C27.cell 4, C27.cell 5, C27.cell 6, C27.cell 7⟩ (fun hHeld => ?_)
       clear hK K
       try simp only [Act.put, sA1, sA2, sA3]
       have cl : w27.cell? ⟨nb25, io, none⟩ = some (.int .i64 at_) := hat ▸ sl_cell N27 hio4
       refine rd1 10 rfl fun K hK => ?_
       go_simp
       refine hK.out _ _ ⟨C27.cell 0, C27.cell 1, C27.cell 2, C27.cell 4, C27.cell 5, C27.cell 6, C27.cell 7⟩ (fun hHeld => ?_)
       clear hK K
       try simp only [Act.put, sA1, sA2, sA3]
       refine tkH (i := 20) 23 (.agg #[.int .i64 op, .int .i64 at_, .int .i64 f4, .int .i64 vx.k, .int .i64 vx.n, .int .i64 vy.k, .int .i64 vy.n]) rfl rfl ?_
       simp only [sA1, sA2, sA3]
       obtain ⟨z0, z1, z2, z3, z4, z5, z6⟩ := rq_z R27
       obtain ⟨zf0, zf1, zf2, zf3, zf4, zf5, zf6⟩ := rq_f R27
       refine rd1 21 rfl fun K hK => ?_
       go_simp
       refine hK.out _ _ (rq_held C27 R27) (fun hHeld => ?_)
       clear hK K
       try simp only [Act.put, sA1, sA2, sA3]
       refine wpAnyH_done (by kernel_rfl) ?_ _
       refine NoPanic.normal ?_
       have B9 := rq_put R27 op at_ f4 vx vy
       have H9 := rq_bel R27 H27 op at_ f4 vx vy
       generalize ((World.setCell _ _ _).setCell _ _).setCell _ _ = wz at B9 H9 ⊢
       obtain ⟨u0, u1, u2, u3, u4, u5, u6⟩ := rq_u B9
       go_wp2
       exact bodyPost_ret (v := .agg #[.int .i64 op, .int .i64 at_, .int .i64 f4, .int .i64 vx.k, .int .i64 vx.n, .int .i64 vy.k, .int .i64 vy.n]) (by simp [results, Tryz.results16, go_sem, u0, u1, u2, u3, u4, u5, u6]) rfl ⟨rfl, H9⟩
     ·go_simp
      refine (cVal q.y fit.y _).mono ?_
      rintro e w28 ⟨rfl, hb28⟩
      rw [hvy]
      have C28 := C24.below hb28
      have R28 := R24.below hb28
      have H28 : Below w.heap.size w w28 := bel_trans H24 hb28
      clear hb28
      refine hK.out _ _ ⟨C28.cell 0, C28.cell 1, C28.cell 2, C28.cell 4, C28.cell 5, C28.cell 6, C28.cell 7⟩ (fun hHeld => ?_)
      clear hK K
      try simp only [Act.put, sA1, sA2, sA3]
      refine rd1 5 rfl fun K hK => ?_
      go_simp
      refine hK.out _ _ (rq_al C28) (fun hHeld => ?_)
      clear hK K
      try simp only [Act.put, sA1, sA2, sA3]
      have a29 : Below w28.heap.size w28 (w28.alloc (.cells #[.int .i64 96, .int .i64 96, .int .i64 100, .int .i64 0] 3)) := (Below.refl _ _).alloc (Nat.le_refl _) _
      have C29 := C28.below a29
      have R29 := R28.below a29
      have H29 : Below w.heap.size w (w28.alloc (.cells #[.int .i64 96, .int .i64 96, .int .i64 100, .int .i64 0] 3)) := bel_trans H28 a29
      have N29 : Blk w (w28.alloc (.cells #[.int .i64 96, .int .i64 96, .int .i64 100, .int .i64 0] 3)) w28.heap.size 3 #[.int .i64 96, .int .i64 96, .int .i64 100, .int .i64 0] := Blk.new H28.size _ (by decide)
      clear a29
      generalize w28.alloc (.cells #[.int .i64 96, .int .i64 96, .int .i64 100, .int .i64 0] 3) = w29 at C29 R29 H29 N29 hHeld ⊢
      generalize w28.heap.size = nb29 at N29 ⊢
      refine tkH (i := 9) 12 (.pointer (some ⟨nb29, io, none⟩)) rfl rfl ?_
      simp only [sA1, sA2, sA3]
      have cl : w29.cell? ⟨nb29, io, none⟩ = some (.int .i64 at_) := hat ▸ sl_cell N29 hio4
      refine rd1 10 rfl fun K hK => ?_
      go_simp
      refine hK.out _ _ ⟨C29.cell 0, C29.cell 1, C29.cell 2, C29.cell 4, C29.cell 5, C29.cell 6, C29.cell 7⟩ (fun hHeld => ?_)
      clear hK K
      try simp only [Act.put, sA1, sA2, sA3]
      refine tkH (i := 20) 23 (.agg #[.int .i64 op, .int .i64 at_, .int .i64 f4, .int .i64 vx.k, .int .i64 vx.n, .int .i64 vy.k, .int .i64 vy.n]) rfl rfl ?_
      simp only [sA1, sA2, sA3]
      obtain ⟨z0, z1, z2, z3, z4, z5, z6⟩ := rq_z R29
      obtain ⟨zf0, zf1, zf2, zf3, zf4, zf5, zf6⟩ := rq_f R29
      refine rd1 21 rfl fun K hK => ?_
      go_simp
      refine hK.out _ _ (rq_held C29 R29) (fun hHeld => ?_)
      clear hK K
      try simp only [Act.put, sA1, sA2, sA3]
      refine wpAnyH_done (by kernel_rfl) ?_ _
      refine NoPanic.normal ?_
      have B9 := rq_put R29 op at_ f4 vx vy
      have H9 := rq_bel R29 H29 op at_ f4 vx vy
      generalize ((World.setCell _ _ _).setCell _ _).setCell _ _ = wz at B9 H9 ⊢
      obtain ⟨u0, u1, u2, u3, u4, u5, u6⟩ := rq_u B9
      go_wp2
      exact bodyPost_ret (v := .agg #[.int .i64 op, .int .i64 at_, .int .i64 f4, .int .i64 vx.k, .int .i64 vx.n, .int .i64 vy.k, .int .i64 vy.n]) (by simp [results, Tryz.results16, go_sem, u0, u1, u2, u3, u4, u5, u6]) rfl ⟨rfl, H9⟩
 ·go_simp
  refine hK.out _ _ (rq_al C1) (fun hHeld => ?_)
  clear hK K
  try simp only [Act.put, sA1, sA2, sA3]
  have a30 : Below w1.heap.size w1 (w1.alloc (.cells #[.int .i64 96, .int .i64 96, .int .i64 100, .int .i64 0] 3)) := (Below.refl _ _).alloc (Nat.le_refl _) _
  have C30 := C1.below a30
  have R30 := R1.below a30
  have H30 : Below w.heap.size w (w1.alloc (.cells #[.int .i64 96, .int .i64 96, .int .i64 100, .int .i64 0] 3)) := bel_trans H1 a30
  have N30 : Blk w (w1.alloc (.cells #[.int .i64 96, .int .i64 96, .int .i64 100, .int .i64 0] 3)) w1.heap.size 3 #[.int .i64 96, .int .i64 96, .int .i64 100, .int .i64 0] := Blk.new H1.size _ (by decide)
  clear a30
  generalize w1.alloc (.cells #[.int .i64 96, .int .i64 96, .int .i64 100, .int .i64 0] 3) = w30 at C30 R30 H30 N30 hHeld ⊢
  generalize w1.heap.size = nb30 at N30 ⊢
  refine rd1 2 rfl fun K hK => ?_
  go_simp
  refine (cKind _ q.ac 4 fit.ac.1 fit.ac.2 (by decide)).mono ?_
  rintro e wk ⟨rfl, hwk⟩
  rw [hwk, hm]
  clear hwk wk
  refine hK.out _ _ ⟨C30.cell 0, C30.cell 1, C30.cell 2, C30.cell 4, C30.cell 5, C30.cell 6, C30.cell 7⟩ (fun hHeld => ?_)
  clear hK K
  try simp only [Act.put, sA1, sA2, sA3]
  refine tkH (i := 3) 6 (.int .i64 m3) rfl rfl ?_
  simp only [sA1, sA2, sA3]
  refine tkH (i := 4) 7 (.int .i64 op) rfl rfl ?_
  simp only [sA1, sA2, sA3]
  refine rd1 8 rfl fun K hK => ?_
  go_simp
  refine (cKind _ q.ob 4 fit.ob.1 fit.ob.2 (by decide)).mono ?_
  rintro e wk ⟨rfl, hwk⟩
  rw [hwk, hio]
  clear hwk wk
  refine hK.out _ _ ⟨C30.cell 0, C30.cell 1, C30.cell 2, C30.cell 4, C30.cell 5, C30.cell 6, C30.cell 7⟩ (fun hHeld => ?_)
  clear hK K
  try simp only [Act.put, sA1, sA2, sA3]
  refine tkH (i := 9) 12 (.pointer (some ⟨nb30, io, none⟩)) rfl rfl ?_
  simp only [sA1, sA2, sA3]
  have cl : w30.cell? ⟨nb30, io, none⟩ = some (.int .i64 at_) := hat ▸ sl_cell N30 hio4
  refine rd2 10 13 rfl rfl (fun K hK => ?_) (fun K hK => ?_)
  ·go_simp
   refine hK.out _ _ ⟨C30.cell 0, C30.cell 1, C30.cell 2, C30.cell 4, C30.cell 5, C30.cell 6, C30.cell 7⟩ (fun hHeld => ?_)
   clear hK K
   try simp only [Act.put, sA1, sA2, sA3]
   refine rd1 13 rfl fun K hK => ?_
   go_simp
   refine (cKind _ q.fd 4 fit.fd.1 fit.fd.2 (by decide)).mono ?_
   rintro e wk ⟨rfl, hwk⟩
   rw [hwk, hf4]
   clear hwk wk
   refine hK.out _ _ ⟨C30.cell 0, C30.cell 1, C30.cell 2, C30.cell 4, C30.cell 5, C30.cell 6, C30.cell 7⟩ (fun hHeld => ?_)
   clear hK K
   try simp only [Act.put, sA1, sA2, sA3]
   refine rd1 16 rfl fun K hK => ?_
   go_simp
   refine (cVal q.x fit.x _).mono ?_
   rintro e w31 ⟨rfl, hb31⟩
   rw [hvx]
   have C31 := C30.below hb31
   have R31 := R30.below hb31
   have H31 : Below w.heap.size w w31 := bel_trans H30 hb31
   have N31 := N30.below hb31
   clear hb31
   refine hK.out _ _ ⟨C31.cell 0, C31.cell 1, C31.cell 2, C31.cell 4, C31.cell 5, C31.cell 6, C31.cell 7⟩ (fun hHeld => ?_)
   clear hK K
   try simp only [Act.put, sA1, sA2, sA3]
   refine rd1 19 rfl fun K hK => ?_
   go_simp
   refine (cVal q.y fit.y _).mono ?_
   rintro e w32 ⟨rfl, hb32⟩
   rw [hvy]
   have C32 := C31.below hb32
   have R32 := R31.below hb32
   have H32 : Below w.heap.size w w32 := bel_trans H31 hb32
   have N32 := N31.below hb32
   clear hb32
   refine hK.out _ _ ⟨C32.cell 0, C32.cell 1, C32.cell 2, C32.cell 4, C32.cell 5, C32.cell 6, C32.cell 7⟩ (fun hHeld => ?_)
   clear hK K
   try simp only [Act.put, sA1, sA2, sA3]
   refine tkH (i := 20) 23 (.agg #[.int .i64 op, .int .i64 at_, .int .i64 f4, .int .i64 vx.k, .int .i64 vx.n, .int .i64 vy.k, .int .i64 vy.n]) rfl rfl ?_
   simp only [sA1, sA2, sA3]
   obtain ⟨z0, z1, z2, z3, z4, z5, z6⟩ := rq_z R32
   obtain ⟨zf0, zf1, zf2, zf3, zf4, zf5, zf6⟩ := rq_f R32
   refine rd1 21 rfl fun K hK => ?_
   go_simp
   refine hK.out _ _ (rq_held C32 R32) (fun hHeld => ?_)
   clear hK K
   try simp only [Act.put, sA1, sA2, sA3]
   refine wpAnyH_done (by kernel_rfl) ?_ _
   refine NoPanic.normal ?_
   have B9 := rq_put R32 op at_ f4 vx vy
   have H9 := rq_bel R32 H32 op at_ f4 vx vy
   generalize ((World.setCell _ _ _).setCell _ _).setCell _ _ = wz at B9 H9 ⊢
   obtain ⟨u0, u1, u2, u3, u4, u5, u6⟩ := rq_u B9
   go_wp2
   exact bodyPost_ret (v := .agg #[.int .i64 op, .int .i64 at_, .int .i64 f4, .int .i64 vx.k, .int .i64 vx.n, .int .i64 vy.k, .int .i64 vy.n]) (by simp [results, Tryz.results16, go_sem, u0, u1, u2, u3, u4, u5, u6]) rfl ⟨rfl, H9⟩
  ·go_simp
   refine (cKind _ q.fd 4 fit.fd.1 fit.fd.2 (by decide)).mono ?_
   rintro e wk ⟨rfl, hwk⟩
   rw [hwk, hf4]
   clear hwk wk
   refine hK.out _ _ ⟨C30.cell 0, C30.cell 1, C30.cell 2, C30.cell 4, C30.cell 5, C30.cell 6, C30.cell 7⟩ (fun hHeld => ?_)
   clear hK K
   try simp only [Act.put, sA1, sA2, sA3]
   have cl : w30.cell? ⟨nb30, io, none⟩ = some (.int .i64 at_) := hat ▸ sl_cell N30 hio4
   refine rd2 10 16 rfl rfl (fun K hK => ?_) (fun K hK => ?_)
   ·go_simp
    refine hK.out _ _ ⟨C30.cell 0, C30.cell 1, C30.cell 2, C30.cell 4, C30.cell 5, C30.cell 6, C30.cell 7⟩ (fun hHeld => ?_)
    clear hK K
    try simp only [Act.put, sA1, sA2, sA3]
    refine rd1 16 rfl fun K hK => ?_
    go_simp
    refine (cVal q.x fit.x _).mono ?_
    rintro e w33 ⟨rfl, hb33⟩
    rw [hvx]
    have C33 := C30.below hb33
    have R33 := R30.below hb33
    have H33 : Below w.heap.size w w33 := bel_trans H30 hb33
    have N33 := N30.below hb33
    clear hb33
    refine hK.out _ _ ⟨C33.cell 0, C33.cell 1, C33.cell 2, C33.cell 4, C33.cell 5, C33.cell 6, C33.cell 7⟩ (fun hHeld => ?_)
    clear hK K
    try simp only [Act.put, sA1, sA2, sA3]
    refine rd1 19 rfl fun K hK => ?_
    go_simp
    refine (cVal q.y fit.y _).mono ?_
    rintro e w34 ⟨rfl, hb34⟩
    rw [hvy]
    have C34 := C33.below hb34
    have R34 := R33.below hb34
    have H34 : Below w.heap.size w w34 := bel_trans H33 hb34
    have N34 := N33.below hb34
    clear hb34
    refine hK.out _ _ ⟨C34.cell 0, C34.cell 1, C34.cell 2, C34.cell 4, C34.cell 5, C34.cell 6, C34.cell 7⟩ (fun hHeld => ?_)
    clear hK K
    try simp only [Act.put, sA1, sA2, sA3]
    refine tkH (i := 20) 23 (.agg #[.int .i64 op, .int .i64 at_, .int .i64 f4, .int .i64 vx.k, .int .i64 vx.n, .int .i64 vy.k, .int .i64 vy.n]) rfl rfl ?_
    simp only [sA1, sA2, sA3]
    obtain ⟨z0, z1, z2, z3, z4, z5, z6⟩ := rq_z R34
    obtain ⟨zf0, zf1, zf2, zf3, zf4, zf5, zf6⟩ := rq_f R34
    refine rd1 21 rfl fun K hK => ?_
    go_simp
    refine hK.out _ _ (rq_held C34 R34) (fun hHeld => ?_)
    clear hK K
    try simp only [Act.put, sA1, sA2, sA3]
    refine wpAnyH_done (by kernel_rfl) ?_ _
    refine NoPanic.normal ?_
    have B9 := rq_put R34 op at_ f4 vx vy
    have H9 := rq_bel R34 H34 op at_ f4 vx vy
    generalize ((World.setCell _ _ _).setCell _ _).setCell _ _ = wz at B9 H9 ⊢
    obtain ⟨u0, u1, u2, u3, u4, u5, u6⟩ := rq_u B9
    go_wp2
    exact bodyPost_ret (v := .agg #[.int .i64 op, .int .i64 at_, .int .i64 f4, .int .i64 vx.k, .int .i64 vx.n, .int .i64 vy.k, .int .i64 vy.n]) (by simp [results, Tryz.results16, go_sem, u0, u1, u2, u3, u4, u5, u6]) rfl ⟨rfl, H9⟩
   ·go_simp
    refine (cVal q.x fit.x _).mono ?_
    rintro e w35 ⟨rfl, hb35⟩
    rw [hvx]
    have C35 := C30.below hb35
    have R35 := R30.below hb35
    have H35 : Below w.heap.size w w35 := bel_trans H30 hb35
    have N35 := N30.below hb35
    clear hb35
    refine hK.out _ _ ⟨C35.cell 0, C35.cell 1, C35.cell 2, C35.cell 4, C35.cell 5, C35.cell 6, C35.cell 7⟩ (fun hHeld => ?_)
    clear hK K
    try simp only [Act.put, sA1, sA2, sA3]
    have cl : w35.cell? ⟨nb30, io, none⟩ = some (.int .i64 at_) := hat ▸ sl_cell N35 hio4
    refine rd2 10 19 rfl rfl (fun K hK => ?_) (fun K hK => ?_)
    ·go_simp
     refine hK.out _ _ ⟨C35.cell 0, C35.cell 1, C35.cell 2, C35.cell 4, C35.cell 5, C35.cell 6, C35.cell 7⟩ (fun hHeld => ?_)
     clear hK K
     try simp only [Act.put, sA1, sA2, sA3]
     refine rd1 19 rfl fun K hK => ?_
     go_simp
     refine (cVal q.y fit.y _).mono ?_
     rintro e w36 ⟨rfl, hb36⟩
     rw [hvy]
     have C36 := C35.below hb36
     have R36 := R35.below hb36
     have H36 : Below w.heap.size w w36 := bel_trans H35 hb36
     have N36 := N35.below hb36
     clear hb36
     refine hK.out _ _ ⟨C36.cell 0, C36.cell 1, C36.cell 2, C36.cell 4, C36.cell 5, C36.cell 6, C36.cell 7⟩ (fun hHeld => ?_)
     clear hK K
     try simp only [Act.put, sA1, sA2, sA3]
     refine tkH (i := 20) 23 (.agg #[.int .i64 op, .int .i64 at_, .int .i64 f4, .int .i64 vx.k, .int .i64 vx.n, .int .i64 vy.k, .int .i64 vy.n]) rfl rfl ?_
     simp only [sA1, sA2, sA3]
     obtain ⟨z0, z1, z2, z3, z4, z5, z6⟩ := rq_z R36
     obtain ⟨zf0, zf1, zf2, zf3, zf4, zf5, zf6⟩ := rq_f R36
     refine rd1 21 rfl fun K hK => ?_
     go_simp
     refine hK.out _ _ (rq_held C36 R36) (fun hHeld => ?_)
     clear hK K
     try simp only [Act.put, sA1, sA2, sA3]
     refine wpAnyH_done (by kernel_rfl) ?_ _
     refine NoPanic.normal ?_
     have B9 := rq_put R36 op at_ f4 vx vy
     have H9 := rq_bel R36 H36 op at_ f4 vx vy
     generalize ((World.setCell _ _ _).setCell _ _).setCell _ _ = wz at B9 H9 ⊢
     obtain ⟨u0, u1, u2, u3, u4, u5, u6⟩ := rq_u B9
     go_wp2
     exact bodyPost_ret (v := .agg #[.int .i64 op, .int .i64 at_, .int .i64 f4, .int .i64 vx.k, .int .i64 vx.n, .int .i64 vy.k, .int .i64 vy.n]) (by simp [results, Tryz.results16, go_sem, u0, u1, u2, u3, u4, u5, u6]) rfl ⟨rfl, H9⟩
    ·go_simp
     refine (cVal q.y fit.y _).mono ?_
     rintro e w37 ⟨rfl, hb37⟩
     rw [hvy]
     have C37 := C35.below hb37
     have R37 := R35.below hb37
     have H37 : Below w.heap.size w w37 := bel_trans H35 hb37
     have N37 := N35.below hb37
     clear hb37
     refine hK.out _ _ ⟨C37.cell 0, C37.cell 1, C37.cell 2, C37.cell 4, C37.cell 5, C37.cell 6, C37.cell 7⟩ (fun hHeld => ?_)
     clear hK K
     try simp only [Act.put, sA1, sA2, sA3]
     have cl : w37.cell? ⟨nb30, io, none⟩ = some (.int .i64 at_) := hat ▸ sl_cell N37 hio4
     refine rd1 10 rfl fun K hK => ?_
     go_simp
     refine hK.out _ _ ⟨C37.cell 0, C37.cell 1, C37.cell 2, C37.cell 4, C37.cell 5, C37.cell 6, C37.cell 7⟩ (fun hHeld => ?_)
     clear hK K
     try simp only [Act.put, sA1, sA2, sA3]
     refine tkH (i := 20) 23 (.agg #[.int .i64 op, .int .i64 at_, .int .i64 f4, .int .i64 vx.k, .int .i64 vx.n, .int .i64 vy.k, .int .i64 vy.n]) rfl rfl ?_
     simp only [sA1, sA2, sA3]
     obtain ⟨z0, z1, z2, z3, z4, z5, z6⟩ := rq_z R37
     obtain ⟨zf0, zf1, zf2, zf3, zf4, zf5, zf6⟩ := rq_f R37
     refine rd1 21 rfl fun K hK => ?_
     go_simp
     refine hK.out _ _ (rq_held C37 R37) (fun hHeld => ?_)
     clear hK K
     try simp only [Act.put, sA1, sA2, sA3]
     refine wpAnyH_done (by kernel_rfl) ?_ _
     refine NoPanic.normal ?_
     have B9 := rq_put R37 op at_ f4 vx vy
     have H9 := rq_bel R37 H37 op at_ f4 vx vy
     generalize ((World.setCell _ _ _).setCell _ _).setCell _ _ = wz at B9 H9 ⊢
     obtain ⟨u0, u1, u2, u3, u4, u5, u6⟩ := rq_u B9
     go_wp2
     exact bodyPost_ret (v := .agg #[.int .i64 op, .int .i64 at_, .int .i64 f4, .int .i64 vx.k, .int .i64 vx.n, .int .i64 vy.k, .int .i64 vy.n]) (by simp [results, Tryz.results16, go_sem, u0, u1, u2, u3, u4, u5, u6]) rfl ⟨rfl, H9⟩
end Go.Proofs.YtpcoldpphihfmaaGreatDoor
