import Derived.Test.YtpcoldpphihfmaaGreatDoorVco
import Derived.Test.YtpcoldpphihfmaaGreatDoorHand
import Derived.Test.YtpcoldpphihfmaaGreatDoorVd
import Derived.Deep.Cut
namespace Go.Proofs.YtpcoldpphihfmaaGreatDoor
set_option linter.unusedVariables false
set_option linter.unusedSimpArgs false
set_option maxRecDepth 100000
open Go.ChangeShapes Go.WideShapes Go.RowKit
theorem neOut (a : Ou) (w : World) : (binOp .neq 60 (.agg #[.int .i64 a.c, .int .i64 a.v.k, .int .i64 a.v.n, .bool a.y]) (.agg #[.int .i64 a.c, .int .i64 a.v.k, .int .i64 a.v.n, .bool a.y])).run Tryz.prog w = .ok (.bool false) w := by
 obtain ⟨x0, ⟨x1, x2⟩, x3⟩ := a
 have u3 := Tryz.underlying58
 have a3 := Tryz.isAgg58
 have z3 := Tryz.sizeOf58
 have u4 := Tryz.underlying4
 have a4 := Tryz.isAgg4
 have z4 := Tryz.sizeOf4
 have a5 := Tryz.isAgg38
 have z5 := Tryz.sizeOf38
 have hS : Tryz.prog.underlying 60 = some (.struct (Tryz.prog.fieldsOf 60)) := by kernel_rfl
 have hp : Tryz.prog.stoodInHeld 60 = false := by kernel_rfl
 rw [run_neq_struct, show (10000 : Nat) = 9999 + 1 from rfl, run_equalIn_agg w 9999 60 _ _ hS hp]
 simp only [Program.fieldsOf, Tryz.underlying60]
 go_simp
theorem neBool (a : Bool) (w : World) : (binOp .neq 4 (.bool a) (.bool a)).run Tryz.prog w = .ok (.bool false) w := by cases a <;> kernel_rfl
def envP (q : Op15) : En := ⟨kd q.md 9, kd q.md 2, 9⟩
set_option maxHeartbeats 2500000 in
theorem cEnv (q : Op15) (fit : q.Fit) (w : World) :
  Calls Tryz.prog 17 #[.agg q.cells] w fun e w' => e = .returned (.agg #[.int .i64 (envP q).md, .int .i64 (envP q).mr, .int .i64 (envP q).al]) ∧ Below w.heap.size w w' := by
 obtain ⟨m9, h9⟩ : ∃ m, kd q.md 9 = m := ⟨_, rfl⟩
 obtain ⟨m2, h2⟩ : ∃ m, kd q.md 2 = m := ⟨_, rfl⟩
 have hr : (#[.int .i64 (envP q).md, .int .i64 (envP q).mr, .int .i64 (envP q).al] : Array Value) = #[.int .i64 m9, .int .i64 m2, .int .i64 9] := by unfold envP; simp only [h9, h2]
 rw [hr]
 clear hr
 have a0 : Below w.heap.size w (w.alloc (.cells q.cells 42)) := (Below.refl _ _).alloc (Nat.le_refl _) _
 have C0 : Blk w (w.alloc (.cells q.cells 42)) w.heap.size 42 q.cells := Blk.new (Nat.le_refl _) _ (by decide)
 have a1 : Below (w.alloc (.cells q.cells 42)).heap.size (w.alloc (.cells q.cells 42)) ((w.alloc (.cells q.cells 42)).alloc (.cells #[.int .i64 0, .int .i64 0, .int .i64 0] 51)) := (Below.refl _ _).alloc (Nat.le_refl _) _
 have C1' := C0.below a1
 have H1' := bel_trans a0 a1
 have R1' : Blk w ((w.alloc (.cells q.cells 42)).alloc (.cells #[.int .i64 0, .int .i64 0, .int .i64 0] 51)) (w.heap.size + 1) 51 #[.int .i64 0, .int .i64 0, .int .i64 0] := ⟨newAt (by simp), by omega, by decide⟩
 go_enter Tryz.func17, Tryz.ntmps17
 unfold Op15.cells at C1' H1' R1' ⊢
 go_upto_region 1 with (fail)
 obtain ⟨ob, hob⟩ : ∃ ob, w.heap.size = ob := ⟨_, rfl⟩
 obtain ⟨rb, hrb⟩ : ∃ rb, ob + 1 = rb := ⟨_, rfl⟩
 rw [hob] at C1' R1' ⊢
 rw [hrb] at R1' ⊢
 have C0' : Blk w _ ob 42 q.cells := C1'
 generalize (w.alloc _).alloc _ = wa at C0' R1' H1' ⊢
 clear C1' C0 a0 a1
 have C1 := C0'.below (Below.refl _ wa).drew
 have R1 := R1'.below (Below.refl _ wa).drew
 have H1 := bel_trans H1' (Below.refl _ wa).drew
 have K9 : ∀ w1 : World, Kept [rb] w1 (((w1.setCell ⟨rb, 0, none⟩ (.int .i64 m9)).setCell ⟨rb, 1, none⟩ (.int .i64 m2)).setCell ⟨rb, 2, none⟩ (.int .i64 9)) := fun w1 => ((Kept.setCell [rb] w1 ⟨rb, 0, none⟩ _ (by simp)).trans (Kept.setCell [rb] _ ⟨rb, 1, none⟩ _ (by simp)) (fun _ h => .inl h)).trans (Kept.setCell [rb] _ ⟨rb, 2, none⟩ _ (by simp)) (fun _ h => .inl h)
 refine wp_region_noPanic ?_
 refine wp_region_held_drew (S := fun w' => w'.cell? ⟨ob, 3, none⟩ = some (.int .i64 q.md)) (by kernel_rfl) (C1.cell 3) (fun hHeld => ?_)
 generalize wa.drew = w1 at C1 R1 H1 hHeld ⊢
 have B9 : Blk w (((w1.setCell ⟨rb, 0, none⟩ (.int .i64 m9)).setCell ⟨rb, 1, none⟩ (.int .i64 m2)).setCell ⟨rb, 2, none⟩ (.int .i64 9)) rb 51 #[.int .i64 m9, .int .i64 m2, .int .i64 9] := ((R1.set 0 _).set 1 _).set 2 _
 have C9 := C1.oth (Oth.kept (K9 w1)) (by simpa using C1.ne R1 (by decide))
 have H9 : Below w.heap.size w (((w1.setCell ⟨rb, 0, none⟩ (.int .i64 m9)).setCell ⟨rb, 1, none⟩ (.int .i64 m2)).setCell ⟨rb, 2, none⟩ (.int .i64 9)) := H1.trans ((K9 w1).below (fun j hj => by simp at hj; subst hj; exact R1.old) H1.size)
 refine tkH (i := 0) 3 (.pointer (some ⟨ob, 3, none⟩)) rfl rfl ?_
 simp only [sA1, sA2, sA3]
 refine tkH (i := 1) 4 (.int .i64 q.md) rfl rfl ?_
 simp only [sA1, sA2, sA3]
 refine tkH (i := 3) 6 (.pointer (some ⟨ob, 3, none⟩)) rfl rfl ?_
 simp only [sA1, sA2, sA3]
 refine tkH (i := 4) 7 (.int .i64 q.md) rfl rfl ?_
 simp only [sA1, sA2, sA3]
 refine rd1 2 rfl fun K hK => ?_
 go_simp
 refine (cKind _ q.md 9 fit.md.1 fit.md.2 (by decide)).mono ?_
 rintro e wk ⟨rfl, hwk⟩
 rw [hwk, h9]
 clear hwk wk
 refine hK.out _ _ (C1.cell 3) (fun hHeld => ?_)
 clear hK K
 try simp only [Act.put, sA1, sA2, sA3]
 refine rd1 5 rfl fun K hK => ?_
 go_simp
 refine (cKind _ q.md 2 fit.md.1 fit.md.2 (by decide)).mono ?_
 rintro e wk ⟨rfl, hwk⟩
 rw [hwk, h2]
 clear hwk wk
 refine hK.out _ _ (C1.cell 3) (fun hHeld => ?_)
 clear hK K
 try simp only [Act.put, sA1, sA2, sA3]
 refine tkH (i := 6) 9 (.agg #[.int .i64 m9, .int .i64 m2, .int .i64 9]) rfl rfl ?_
 simp only [sA1, sA2, sA3]
 have z0 : w1.cell? ⟨rb, 0, none⟩ = some (.int .i64 0) := R1.cell 0
 have zf0 := R1.free 0
 have z1 : w1.cell? ⟨rb, 1, none⟩ = some (.int .i64 0) := R1.cell 1
 have zf1 := R1.free 1
 have z2 : w1.cell? ⟨rb, 2, none⟩ = some (.int .i64 0) := R1.cell 2
 have zf2 := R1.free 2
 refine rd1 7 rfl fun K hK => ?_
 go_simp
 refine hK.out _ _ (C9.cell 3) (fun hHeld => ?_)
 clear hK K
 try simp only [Act.put, sA1, sA2, sA3]
 refine wpAnyH_done (by kernel_rfl) ?_ _
 refine NoPanic.normal ?_
 clear z0 z1 z2 zf0 zf1 zf2 hHeld
 generalize (((w1.setCell ⟨rb, 0, none⟩ (.int .i64 m9)).setCell ⟨rb, 1, none⟩ (.int .i64 m2)).setCell ⟨rb, 2, none⟩ (.int .i64 9)) = wz at B9 H9 C9 ⊢
 have u0 : wz.cell? ⟨rb, 0, none⟩ = some (.int .i64 m9) := B9.cell 0
 have u1 : wz.cell? ⟨rb, 1, none⟩ = some (.int .i64 m2) := B9.cell 1
 have u2 : wz.cell? ⟨rb, 2, none⟩ = some (.int .i64 9) := B9.cell 2
 go_wp2
 exact bodyPost_ret (v := .agg #[.int .i64 m9, .int .i64 m2, .int .i64 9]) (by simp [results, Tryz.results17, go_sem, u0, u1, u2]) rfl ⟨rfl, H9⟩
end Go.Proofs.YtpcoldpphihfmaaGreatDoor
namespace Go.Proofs.YtpcoldpphihfmaaGreatDoor
set_option linter.unusedVariables false
set_option linter.unusedSimpArgs false
set_option maxRecDepth 100000
open Go.ChangeShapes Go.WideShapes Go.ChangeAt Go.RowKit Go.Joins Go.Deep
structure OpsO (w : World) (b off len : Nat) (z : Nat → Op15) : Prop where
 lt : b < w.heap.size
 fit : ∀ j, j < len → (z j).Fit
 c0 : ∀ j, j < len → w.cell? ⟨b, off + j * 15, none⟩ = some (.int .i64 (z j).ob)
 c1 : ∀ j, j < len → w.cell? ⟨b, off + j * 15 + 1, none⟩ = some (.int .i64 (z j).fd)
 c2 : ∀ j, j < len → w.cell? ⟨b, off + j * 15 + 2, none⟩ = some (.int .i64 (z j).ac)
 c3 : ∀ j, j < len → w.cell? ⟨b, off + j * 15 + 3, none⟩ = some (.int .i64 (z j).md)
 c4 : ∀ j, j < len → w.cell? ⟨b, off + j * 15 + 4, none⟩ = some (.int .i64 (z j).x.k)
 c5 : ∀ j, j < len → w.cell? ⟨b, off + j * 15 + 5, none⟩ = some (.int .i64 (z j).x.n)
 c6 : ∀ j, j < len → w.cell? ⟨b, off + j * 15 + 6, none⟩ = some (.int .i64 (z j).y.k)
 c7 : ∀ j, j < len → w.cell? ⟨b, off + j * 15 + 7, none⟩ = some (.int .i64 (z j).y.n)
 c8 : ∀ j, j < len → w.cell? ⟨b, off + j * 15 + 8, none⟩ = some (.int .i64 (z j).hS)
 c9 : ∀ j, j < len → w.cell? ⟨b, off + j * 15 + 9, none⟩ = some (.int .i64 (z j).hC)
 c10 : ∀ j, j < len → w.cell? ⟨b, off + j * 15 + 10, none⟩ = some (.int .i64 (z j).hN)
 c11 : ∀ j, j < len → w.cell? ⟨b, off + j * 15 + 11, none⟩ = some (.int .i64 (z j).hM)
 c12 : ∀ j, j < len → w.cell? ⟨b, off + j * 15 + 12, none⟩ = some (.int .i64 (z j).hG)
 c13 : ∀ j, j < len → w.cell? ⟨b, off + j * 15 + 13, none⟩ = some (.int .i64 (z j).hT)
 c14 : ∀ j, j < len → w.cell? ⟨b, off + j * 15 + 14, none⟩ = some (.int .i64 (z j).hL)
theorem OpsO.on {w w' : World} {b off len : Nat} {z : Nat → Op15} (h : OpsO w b off len z) (k : Below w.heap.size w w') : OpsO w' b off len z :=
 ⟨Nat.lt_of_lt_of_le h.lt k.size, h.fit, fun j hj => (k.cell h.lt).trans (h.c0 j hj), fun j hj => (k.cell h.lt).trans (h.c1 j hj), fun j hj => (k.cell h.lt).trans (h.c2 j hj), fun j hj => (k.cell h.lt).trans (h.c3 j hj), fun j hj => (k.cell h.lt).trans (h.c4 j hj), fun j hj => (k.cell h.lt).trans (h.c5 j hj), fun j hj => (k.cell h.lt).trans (h.c6 j hj), fun j hj => (k.cell h.lt).trans (h.c7 j hj), fun j hj => (k.cell h.lt).trans (h.c8 j hj), fun j hj => (k.cell h.lt).trans (h.c9 j hj), fun j hj => (k.cell h.lt).trans (h.c10 j hj), fun j hj => (k.cell h.lt).trans (h.c11 j hj), fun j hj => (k.cell h.lt).trans (h.c12 j hj), fun j hj => (k.cell h.lt).trans (h.c13 j hj), fun j hj => (k.cell h.lt).trans (h.c14 j hj)⟩
def CameO (w : World) (ao : Option Addr) (len : Nat) (z : Nat → Op15) : Prop := len = 0 ∨ ∃ b off, ao = some ⟨b, off, none⟩ ∧ OpsO w b off len z
theorem cells15 : Tryz.prog.cellsOf 42 = 15 := by kernel_rfl
theorem open_ops {H : Type} {enc : TypeId × Value → H} {w : World} {base : Nat} {held : Bool} {r : Reach} {b0 : Nat} {v : Value} {d : DataW H} {p : List MemPlace}
  (hv : Value.okWide Tryz.prog w r b0 26 v) (h : DataW.Trod enc Tryz.prog w base (fun _ => true) held 26 v d p) :
  ∃ ao len cap z, v = .slice ao len cap ∧ CameO w ao len z := by
 obtain ⟨a0, len, cap, rfl⟩ := okWide_slice Tryz.underlying26 hv
 obtain ⟨fuel, hf⟩ := h
 rcases Deep.open_slice Tryz.underlying26 hf with ⟨hcs, hx⟩ | ⟨a, len', cap', m, n, D, Pl, hcs, _, hl, _, hm, hx, hall⟩
 ·simp [Value.cells] at hcs
  obtain ⟨rfl, rfl, rfl⟩ := hcs
  exact ⟨_, _, _, fun _ => ⟨0, 0, 0, 0, Vl.zero, Vl.zero, 0, 0, 0, 0, 0, 0, 0⟩, rfl, Or.inl rfl⟩
 ·simp [Value.cells] at hcs
  obtain ⟨rfl, rfl, rfl⟩ := hcs
  rw [cells15] at hall
  simp only [if_true] at hm
  by_cases hl0 : len = 0
  ·exact ⟨_, _, _, fun _ => ⟨0, 0, 0, 0, Vl.zero, Vl.zero, 0, 0, 0, 0, 0, 0, 0⟩, rfl, Or.inl hl0⟩
  have each : ∀ i, i < len → ∃ q : Op15, q.Fit ∧ w.cell? (a.add (i * 15 + 0)) = some (.int .i64 q.ob) ∧ w.cell? (a.add (i * 15 + 1)) = some (.int .i64 q.fd) ∧ w.cell? (a.add (i * 15 + 2)) = some (.int .i64 q.ac) ∧ w.cell? (a.add (i * 15 + 3)) = some (.int .i64 q.md) ∧ w.cell? (a.add (i * 15 + 4)) = some (.int .i64 q.x.k) ∧ w.cell? (a.add (i * 15 + 5)) = some (.int .i64 q.x.n) ∧ w.cell? (a.add (i * 15 + 6)) = some (.int .i64 q.y.k) ∧ w.cell? (a.add (i * 15 + 7)) = some (.int .i64 q.y.n) ∧ w.cell? (a.add (i * 15 + 8)) = some (.int .i64 q.hS) ∧ w.cell? (a.add (i * 15 + 9)) = some (.int .i64 q.hC) ∧ w.cell? (a.add (i * 15 + 10)) = some (.int .i64 q.hN) ∧ w.cell? (a.add (i * 15 + 11)) = some (.int .i64 q.hM) ∧ w.cell? (a.add (i * 15 + 12)) = some (.int .i64 q.hG) ∧ w.cell? (a.add (i * 15 + 13)) = some (.int .i64 q.hT) ∧ w.cell? (a.add (i * 15 + 14)) = some (.int .i64 q.hL) := by
   intro i hi
   obtain ⟨cs', h1, h2⟩ := hall i (by omega)
   obtain ⟨q, hq, e0, e1, e2, e3, e4, e5, e6, e7, e8, e9, e10, e11, e12, e13, e14⟩ := open_op h2
   have hc := World.cells?_some h1
   simp only [Deep.add_add] at hc
   refine ⟨q, hq, ?_, ?_, ?_, ?_, ?_, ?_, ?_, ?_, ?_, ?_, ?_, ?_, ?_, ?_, ?_⟩
   ·rw [hc.2.2 0 (by decide)]; exact e0
   ·rw [hc.2.2 1 (by decide)]; exact e1
   ·rw [hc.2.2 2 (by decide)]; exact e2
   ·rw [hc.2.2 3 (by decide)]; exact e3
   ·rw [hc.2.2 4 (by decide)]; exact e4
   ·rw [hc.2.2 5 (by decide)]; exact e5
   ·rw [hc.2.2 6 (by decide)]; exact e6
   ·rw [hc.2.2 7 (by decide)]; exact e7
   ·rw [hc.2.2 8 (by decide)]; exact e8
   ·rw [hc.2.2 9 (by decide)]; exact e9
   ·rw [hc.2.2 10 (by decide)]; exact e10
   ·rw [hc.2.2 11 (by decide)]; exact e11
   ·rw [hc.2.2 12 (by decide)]; exact e12
   ·rw [hc.2.2 13 (by decide)]; exact e13
   ·rw [hc.2.2 14 (by decide)]; exact e14
  haveI : Inhabited Op15 := ⟨⟨0, 0, 0, 0, Vl.zero, Vl.zero, 0, 0, 0, 0, 0, 0, 0⟩⟩
  obtain ⟨z, hz⟩ := Deep.choose_lt each
  obtain ⟨b, off, spot⟩ := a
  have hspot : spot = none := by simpa [Addr.add] using World.cell?_spot (hz 0 (by omega)).2.1
  subst hspot
  simp only [add_plain] at hz
  refine ⟨_, _, _, z, rfl, Or.inr ⟨b, off, rfl, ⟨World.block_lt_of_cell? _ _ (hz 0 (by omega)).2.1, fun j hj => (hz j hj).1, fun j hj => (hz j hj).2.1, fun j hj => ?_, fun j hj => ?_, fun j hj => ?_, fun j hj => ?_, fun j hj => ?_, fun j hj => ?_, fun j hj => ?_, fun j hj => ?_, fun j hj => ?_, fun j hj => ?_, fun j hj => ?_, fun j hj => ?_, fun j hj => ?_, fun j hj => ?_⟩⟩⟩
  ·rw [Nat.add_assoc]; exact (hz j hj).2.2.1
  ·rw [Nat.add_assoc]; exact (hz j hj).2.2.2.1
  ·rw [Nat.add_assoc]; exact (hz j hj).2.2.2.2.1
  ·rw [Nat.add_assoc]; exact (hz j hj).2.2.2.2.2.1
  ·rw [Nat.add_assoc]; exact (hz j hj).2.2.2.2.2.2.1
  ·rw [Nat.add_assoc]; exact (hz j hj).2.2.2.2.2.2.2.1
  ·rw [Nat.add_assoc]; exact (hz j hj).2.2.2.2.2.2.2.2.1
  ·rw [Nat.add_assoc]; exact (hz j hj).2.2.2.2.2.2.2.2.2.1
  ·rw [Nat.add_assoc]; exact (hz j hj).2.2.2.2.2.2.2.2.2.2.1
  ·rw [Nat.add_assoc]; exact (hz j hj).2.2.2.2.2.2.2.2.2.2.2.1
  ·rw [Nat.add_assoc]; exact (hz j hj).2.2.2.2.2.2.2.2.2.2.2.2.1
  ·rw [Nat.add_assoc]; exact (hz j hj).2.2.2.2.2.2.2.2.2.2.2.2.2.1
  ·rw [Nat.add_assoc]; exact (hz j hj).2.2.2.2.2.2.2.2.2.2.2.2.2.2.1
  ·rw [Nat.add_assoc]; exact (hz j hj).2.2.2.2.2.2.2.2.2.2.2.2.2.2.2
end Go.Proofs.YtpcoldpphihfmaaGreatDoor
