/-
  What a thread knows, as the laws have it; two answers that are the same.
-/
import Derived.Test.YtmlgohknbjfciaaGreatDoorCo
import Derived.Test.YtmlgohknbjfciaaGreatDoorHand
import Derived.Test.YtmlgohknbjfciaaGreatDoorCd
import Derived.Deep.Cut
namespace Go.Proofs.YtmlgohknbjfciaaGreatDoor
set_option linter.unusedVariables false
set_option linter.unusedSimpArgs false
set_option maxRecDepth 100000
open Go.ChangeShapes Go.WideShapes Go.RowKit

theorem neOut (a : Ou) (w : World) : (binOp .neq 63 (.agg #[.int .i64 a.c, .int .i64 a.v.k, .int .i64 a.v.n, .bool a.y]) (.agg #[.int .i64 a.c, .int .i64 a.v.k, .int .i64 a.v.n, .bool a.y])).run Tryz.prog w = .ok (.bool false) w := by
  obtain ⟨x0, ⟨x1, x2⟩, x3⟩ := a
  have u3 := Tryz.underlying61
  have a3 := Tryz.isAgg61
  have z3 := Tryz.sizeOf61
  have u4 := Tryz.underlying4
  have a4 := Tryz.isAgg4
  have z4 := Tryz.sizeOf4
  have a5 := Tryz.isAgg38
  have z5 := Tryz.sizeOf38
  have hS : Tryz.prog.underlying 63 = some (.struct (Tryz.prog.fieldsOf 63)) := by kernel_rfl
  have hp : Tryz.prog.stoodInHeld 63 = false := by kernel_rfl
  rw [run_neq_struct, show (10000 : Nat) = 9999 + 1 from rfl, run_equalIn_agg w 9999 63 _ _ hS hp]
  simp only [Program.fieldsOf, Tryz.underlying63]
  go_simp
theorem neBool (a : Bool) (w : World) : (binOp .neq 4 (.bool a) (.bool a)).run Tryz.prog w = .ok (.bool false) w := by cases a <;> kernel_rfl

def envP (q : Op15) : En := ⟨kd q.md 9, kd q.md 2, 9⟩
set_option maxHeartbeats 2500000 in
theorem cEnv (q : Op15) (fit : q.Fit) (w : World) :
    Calls Tryz.prog 16 #[.agg q.cells] w fun e w' => e = .returned (.agg #[.int .i64 (envP q).md, .int .i64 (envP q).mr, .int .i64 (envP q).al]) ∧ Below w.heap.size w w' := by
  obtain ⟨m9, h9⟩ : ∃ m, kd q.md 9 = m := ⟨_, rfl⟩
  obtain ⟨m2, h2⟩ : ∃ m, kd q.md 2 = m := ⟨_, rfl⟩
  have hr : (#[.int .i64 (envP q).md, .int .i64 (envP q).mr, .int .i64 (envP q).al] : Array Value) = #[.int .i64 m9, .int .i64 m2, .int .i64 9] := by unfold envP; simp only [h9, h2]
  rw [hr]
  clear hr
  have a0 : Below w.heap.size w (w.alloc (.cells q.cells 42)) := (Below.refl _ _).alloc (Nat.le_refl _) _
  have C0 : Blk w (w.alloc (.cells q.cells 42)) w.heap.size 42 q.cells := Blk.new (Nat.le_refl _) _ (by decide)
  have a1 : Below (w.alloc (.cells q.cells 42)).heap.size (w.alloc (.cells q.cells 42)) ((w.alloc (.cells q.cells 42)).alloc (.cells #[.int .i64 0, .int .i64 0, .int .i64 0] 54)) := (Below.refl _ _).alloc (Nat.le_refl _) _
  have C1' := C0.below a1
  have H1' := bel_trans a0 a1
  have R1' : Blk w ((w.alloc (.cells q.cells 42)).alloc (.cells #[.int .i64 0, .int .i64 0, .int .i64 0] 54)) (w.heap.size + 1) 54 #[.int .i64 0, .int .i64 0, .int .i64 0] := ⟨newAt (by simp), by omega, by decide⟩
  go_enter Tryz.func16, Tryz.ntmps16
  unfold Op15.cells at C1' H1' R1' ⊢
  go_upto_region 1 with (fail)
  obtain ⟨ob, hob⟩ : ∃ ob, w.heap.size = ob := ⟨_, rfl⟩
  obtain ⟨rb, hrb⟩ : ∃ rb, ob + 1 = rb := ⟨_, rfl⟩
  rw [hob] at C1' R1' ⊢
  rw [hrb] at R1' ⊢
  have C0' : Blk w _ ob 42 q.cells := C1'
  generalize (w.alloc _).alloc _ = wa at C0' R1' H1' ⊢
  clear C1' C0 a0 a1
  have C1 := C0'.below (Below.refl _ wa).drew
  have R1 := R1'.below (Below.refl _ wa).drew
  have H1 := bel_trans H1' (Below.refl _ wa).drew
  have K9 : ∀ w1 : World, Kept [rb] w1 (((w1.setCell ⟨rb, 0, none⟩ (.int .i64 m9)).setCell ⟨rb, 1, none⟩ (.int .i64 m2)).setCell ⟨rb, 2, none⟩ (.int .i64 9)) := fun w1 => ((Kept.setCell [rb] w1 ⟨rb, 0, none⟩ _ (by simp)).trans (Kept.setCell [rb] _ ⟨rb, 1, none⟩ _ (by simp)) (fun _ h => .inl h)).trans (Kept.setCell [rb] _ ⟨rb, 2, none⟩ _ (by simp)) (fun _ h => .inl h)
  refine wp_region_noPanic ?_
  refine wp_region_held_drew (S := fun w' => w'.cell? ⟨ob, 3, none⟩ = some (.int .i64 q.md)) (by kernel_rfl) (C1.cell 3) (fun hHeld => ?_)
  generalize wa.drew = w1 at C1 R1 H1 hHeld ⊢
  have B9 : Blk w (((w1.setCell ⟨rb, 0, none⟩ (.int .i64 m9)).setCell ⟨rb, 1, none⟩ (.int .i64 m2)).setCell ⟨rb, 2, none⟩ (.int .i64 9)) rb 54 #[.int .i64 m9, .int .i64 m2, .int .i64 9] := ((R1.set 0 _).set 1 _).set 2 _
  have C9 := C1.oth (Oth.kept (K9 w1)) (by simpa using C1.ne R1 (by decide))
  have H9 : Below w.heap.size w (((w1.setCell ⟨rb, 0, none⟩ (.int .i64 m9)).setCell ⟨rb, 1, none⟩ (.int .i64 m2)).setCell ⟨rb, 2, none⟩ (.int .i64 9)) := H1.trans ((K9 w1).below (fun j hj => by simp at hj; subst hj; exact R1.old) H1.size)
  refine tkH (i := 0) 3 (.pointer (some ⟨ob, 3, none⟩)) rfl rfl ?_
  simp only [sA1, sA2, sA3]
  refine tkH (i := 1) 4 (.int .i64 q.md) rfl rfl ?_
  simp only [sA1, sA2, sA3]
  refine tkH (i := 3) 6 (.pointer (some ⟨ob, 3, none⟩)) rfl rfl ?_
  simp only [sA1, sA2, sA3]
  refine tkH (i := 4) 7 (.int .i64 q.md) rfl rfl ?_
  simp only [sA1, sA2, sA3]
  refine rd1 2 rfl fun K hK => ?_
  go_simp
  refine (cKind _ q.md 9 fit.md.1 fit.md.2 (by decide)).mono ?_
  rintro e wk ⟨rfl, hwk⟩
  rw [hwk, h9]
  clear hwk wk
  refine hK.out _ _ (C1.cell 3) (fun hHeld => ?_)
  clear hK K
  try simp only [Act.put, sA1, sA2, sA3]
  refine rd1 5 rfl fun K hK => ?_
  go_simp
  refine (cKind _ q.md 2 fit.md.1 fit.md.2 (by decide)).mono ?_
  rintro e wk ⟨rfl, hwk⟩
  rw [hwk, h2]
  clear hwk wk
  refine hK.out _ _ (C1.cell 3) (fun hHeld => ?_)
  clear hK K
  try simp only [Act.put, sA1, sA2, sA3]
  refine tkH (i := 6) 9 (.agg #[.int .i64 m9, .int .i64 m2, .int .i64 9]) rfl rfl ?_
  simp only [sA1, sA2, sA3]
  have z0 : w1.cell? ⟨rb, 0, none⟩ = some (.int .i64 0) := R1.cell 0
  have zf0 := R1.free 0
  have z1 : w1.cell? ⟨rb, 1, none⟩ = some (.int .i64 0) := R1.cell 1
  have zf1 := R1.free 1
  have z2 : w1.cell? ⟨rb, 2, none⟩ = some (.int .i64 0) := R1.cell 2
  have zf2 := R1.free 2
  refine rd1 7 rfl fun K hK => ?_
  go_simp
  refine hK.out _ _ (C9.cell 3) (fun hHeld => ?_)
  clear hK K
  try simp only [Act.put, sA1, sA2, sA3]
  refine wpAnyH_done (by kernel_rfl) ?_ _
  refine NoPanic.normal ?_
  clear z0 z1 z2 zf0 zf1 zf2 hHeld
  generalize (((w1.setCell ⟨rb, 0, none⟩ (.int .i64 m9)).setCell ⟨rb, 1, none⟩ (.int .i64 m2)).setCell ⟨rb, 2, none⟩ (.int .i64 9)) = wz at B9 H9 C9 ⊢
  have u0 : wz.cell? ⟨rb, 0, none⟩ = some (.int .i64 m9) := B9.cell 0
  have u1 : wz.cell? ⟨rb, 1, none⟩ = some (.int .i64 m2) := B9.cell 1
  have u2 : wz.cell? ⟨rb, 2, none⟩ = some (.int .i64 9) := B9.cell 2
  go_wp2
  exact bodyPost_ret (v := .agg #[.int .i64 m9, .int .i64 m2, .int .i64 9]) (by simp [results, Tryz.results16, go_sem, u0, u1, u2]) rfl ⟨rfl, H9⟩
  
end Go.Proofs.YtmlgohknbjfciaaGreatDoor
