/-
  The reference's access, one theorem a way.
-/
import Derived.Test.YtmlgohknbjfciaaGreatDoorRt
import Derived.Test.YtmlgohknbjfciaaGreatDoorCu
import Derived.WalkMore
import Derived.BigQuiet
namespace Go.Proofs.YtmlgohknbjfciaaGreatDoor
set_option linter.unusedVariables false
set_option linter.unusedSimpArgs false
set_option maxRecDepth 100000
open Go.ChangeShapes Go.WideShapes Go.RowKit
open H.Plain (hw pS pC pN pM pG pT pL mv)

/-- a header as the reference has it -/
structure H7 where
  h0 : Int
  h1 : Int
  h2 : Int
  h3 : Int
  h4 : Int
  h5 : Int
  h6 : Int
def H7.of (z : Int) : H7 := ⟨pS z, pC z, pN z, pM z, pG z, pT z, pL z⟩
/-- the reference's access as its block has it -/
structure RC where
  n : Pn
  r : Rq
  e : En
  pc : Int
  w : Int
  h : H7
  x : Value
  y : Value
  sh : Bool
  o : Ou
def RC.cells (d : RC) : Array Value := #[.int .i64 d.n.t, .int .i64 d.n.b, .int .i64 d.n.tb, .int .i64 d.n.hp, .int .i64 d.n.sz, .int .i64 d.r.op, .int .i64 d.r.at_, .int .i64 d.r.fd, .int .i64 d.r.x.k, .int .i64 d.r.x.n, .int .i64 d.r.y.k, .int .i64 d.r.y.n, .int .i64 d.e.md, .int .i64 d.e.mr, .int .i64 d.e.al, .int .i64 d.pc, .int .u64 d.w, .int .i64 d.h.h0, .int .i64 d.h.h1, .int .i64 d.h.h2, .int .i64 d.h.h3, .int .i64 d.h.h4, .int .i64 d.h.h5, .int .i64 d.h.h6, d.x, d.y, .bool d.sh, .int .i64 d.o.c, .int .i64 d.o.v.k, .int .i64 d.o.v.n, .bool d.o.y]
theorem neValT {a b : Vl} (h : a = b) (w : World) : (binOp .neq 38 (.agg #[.int .i64 a.k, .int .i64 a.n]) (.agg #[.int .i64 b.k, .int .i64 b.n])).run Tryz.prog w = .ok (.bool false) w := by
  subst h
  obtain ⟨x0, x1⟩ := a
  have u3 := Tryz.underlying3
  have a3 := Tryz.isAgg3
  have z3 := Tryz.sizeOf3
  have hS : Tryz.prog.underlying 38 = some (.struct (Tryz.prog.fieldsOf 38)) := by kernel_rfl
  have hp : Tryz.prog.stoodInHeld 38 = false := by kernel_rfl
  rw [run_neq_struct, show (10000 : Nat) = 9999 + 1 from rfl, run_equalIn_agg w 9999 38 _ _ hS hp]
  simp only [Program.fieldsOf, Tryz.underlying38]
  go_simp
theorem neValF {a b : Vl} (h : a ≠ b) (w : World) : (binOp .neq 38 (.agg #[.int .i64 a.k, .int .i64 a.n]) (.agg #[.int .i64 b.k, .int .i64 b.n])).run Tryz.prog w = .ok (.bool true) w := by
  obtain ⟨x0, x1⟩ := a
  obtain ⟨y0, y1⟩ := b
  have u3 := Tryz.underlying3
  have a3 := Tryz.isAgg3
  have z3 := Tryz.sizeOf3
  have hS : Tryz.prog.underlying 38 = some (.struct (Tryz.prog.fieldsOf 38)) := by kernel_rfl
  have hp : Tryz.prog.stoodInHeld 38 = false := by kernel_rfl
  rw [run_neq_struct, show (10000 : Nat) = 9999 + 1 from rfl, run_equalIn_agg w 9999 38 _ _ hS hp]
  simp only [Program.fieldsOf, Tryz.underlying38]
  go_simp
  by_cases h1 : x0 = y0 <;> by_cases h2 : x1 = y1 <;> simp_all
section
variable {w0 w w' : World} {b y p : Nat} {s1 s2 : St} {N : Nat} {d : RC}
theorem Blk.r_pc (B : Blk w0 w p 65 d.cells) (v : Int) : Blk w0 (w.setCell ⟨p, 15, none⟩ (.int .i64 v)) p 65 ({ d with pc := v } : RC).cells := B.set 15 _
theorem Blk.r_w (B : Blk w0 w p 65 d.cells) (v : Int) : Blk w0 (w.setCell ⟨p, 16, none⟩ (.int .u64 v)) p 65 ({ d with w := v } : RC).cells := B.set 16 _
theorem Blk.r_x (B : Blk w0 w p 65 d.cells) (v : Value) : Blk w0 (w.setCell ⟨p, 24, none⟩ (v)) p 65 ({ d with x := v } : RC).cells := B.set 24 _
theorem Blk.r_y (B : Blk w0 w p 65 d.cells) (v : Value) : Blk w0 (w.setCell ⟨p, 25, none⟩ (v)) p 65 ({ d with y := v } : RC).cells := B.set 25 _
theorem Blk.r_sh (B : Blk w0 w p 65 d.cells) (v : Bool) : Blk w0 (w.setCell ⟨p, 26, none⟩ (.bool v)) p 65 ({ d with sh := v } : RC).cells := B.set 26 _
theorem Blk.r_h0 (B : Blk w0 w p 65 d.cells) (v : Int) : Blk w0 (w.setCell ⟨p, 17, none⟩ (.int .i64 v)) p 65 ({ d with h := { d.h with h0 := v } } : RC).cells := B.set 17 _
theorem Blk.r_h1 (B : Blk w0 w p 65 d.cells) (v : Int) : Blk w0 (w.setCell ⟨p, 18, none⟩ (.int .i64 v)) p 65 ({ d with h := { d.h with h1 := v } } : RC).cells := B.set 18 _
theorem Blk.r_h2 (B : Blk w0 w p 65 d.cells) (v : Int) : Blk w0 (w.setCell ⟨p, 19, none⟩ (.int .i64 v)) p 65 ({ d with h := { d.h with h2 := v } } : RC).cells := B.set 19 _
theorem Blk.r_h3 (B : Blk w0 w p 65 d.cells) (v : Int) : Blk w0 (w.setCell ⟨p, 20, none⟩ (.int .i64 v)) p 65 ({ d with h := { d.h with h3 := v } } : RC).cells := B.set 20 _
theorem Blk.r_h4 (B : Blk w0 w p 65 d.cells) (v : Int) : Blk w0 (w.setCell ⟨p, 21, none⟩ (.int .i64 v)) p 65 ({ d with h := { d.h with h4 := v } } : RC).cells := B.set 21 _
theorem Blk.r_h5 (B : Blk w0 w p 65 d.cells) (v : Int) : Blk w0 (w.setCell ⟨p, 22, none⟩ (.int .i64 v)) p 65 ({ d with h := { d.h with h5 := v } } : RC).cells := B.set 22 _
theorem Blk.r_h6 (B : Blk w0 w p 65 d.cells) (v : Int) : Blk w0 (w.setCell ⟨p, 23, none⟩ (.int .i64 v)) p 65 ({ d with h := { d.h with h6 := v } } : RC).cells := B.set 23 _
theorem Blk.r_h (B : Blk w0 w p 65 d.cells) (q0 q1 q2 q3 q4 q5 q6 : Int) : Blk w0 (((((((w.setCell ⟨p, 17, none⟩ (.int .i64 q0)).setCell ⟨p, 18, none⟩ (.int .i64 q1)).setCell ⟨p, 19, none⟩ (.int .i64 q2)).setCell ⟨p, 20, none⟩ (.int .i64 q3)).setCell ⟨p, 21, none⟩ (.int .i64 q4)).setCell ⟨p, 22, none⟩ (.int .i64 q5)).setCell ⟨p, 23, none⟩ (.int .i64 q6)) p 65 ({ d with h := ⟨q0, q1, q2, q3, q4, q5, q6⟩ } : RC).cells := ((((((B.r_h0 q0).r_h1 q1).r_h2 q2).r_h3 q3).r_h4 q4).r_h5 q5).r_h6 q6
theorem kept7 (w : World) (p : Nat) (q0 q1 q2 q3 q4 q5 q6 : Int) : Kept [p] w (((((((w.setCell ⟨p, 17, none⟩ (.int .i64 q0)).setCell ⟨p, 18, none⟩ (.int .i64 q1)).setCell ⟨p, 19, none⟩ (.int .i64 q2)).setCell ⟨p, 20, none⟩ (.int .i64 q3)).setCell ⟨p, 21, none⟩ (.int .i64 q4)).setCell ⟨p, 22, none⟩ (.int .i64 q5)).setCell ⟨p, 23, none⟩ (.int .i64 q6)) := ((((((Kept.setCell [p] _ _ _ (by simp)).tr (Kept.setCell [p] _ _ _ (by simp))).tr (Kept.setCell [p] _ _ _ (by simp))).tr (Kept.setCell [p] _ _ _ (by simp))).tr (Kept.setCell [p] _ _ _ (by simp))).tr (Kept.setCell [p] _ _ _ (by simp))).tr (Kept.setCell [p] _ _ _ (by simp))
theorem Blk.r_oc (B : Blk w0 w p 65 d.cells) (v : Int) : Blk w0 (w.setCell ⟨p, 27, none⟩ (.int .i64 v)) p 65 ({ d with o := ⟨v, d.o.v, d.o.y⟩ } : RC).cells := B.set 27 _
theorem Blk.r_ov (B : Blk w0 w p 65 d.cells) (v : Vl) : Blk w0 ((w.setCell ⟨p, 28, none⟩ (.int .i64 v.k)).setCell ⟨p, 29, none⟩ (.int .i64 v.n)) p 65 ({ d with o := ⟨d.o.c, v, d.o.y⟩ } : RC).cells := (B.set 28 _).set 29 _
theorem Blk.r_oy (B : Blk w0 w p 65 d.cells) (v : Bool) : Blk w0 (w.setCell ⟨p, 30, none⟩ (.bool v)) p 65 ({ d with o := ⟨d.o.c, d.o.v, v⟩ } : RC).cells := B.set 30 _
theorem Blk.r_o (B : Blk w0 w p 65 d.cells) (v : Ou) : Blk w0 ((((w.setCell ⟨p, 27, none⟩ (.int .i64 v.c)).setCell ⟨p, 28, none⟩ (.int .i64 v.v.k)).setCell ⟨p, 29, none⟩ (.int .i64 v.v.n)).setCell ⟨p, 30, none⟩ (.bool v.y)) p 65 ({ d with o := v } : RC).cells := (((B.set 27 _).set 28 _).set 29 _).set 30 _
theorem kept4 (w : World) (p i j k l : Nat) (v0 v1 v2 v3 : Value) : Kept [p] w ((((w.setCell ⟨p, i, none⟩ v0).setCell ⟨p, j, none⟩ v1).setCell ⟨p, k, none⟩ v2).setCell ⟨p, l, none⟩ v3) := (((Kept.setCell [p] _ _ _ (by simp)).tr (Kept.setCell [p] _ _ _ (by simp))).tr (Kept.setCell [p] _ _ _ (by simp))).tr (Kept.setCell [p] _ _ _ (by simp))
theorem kept2 (w : World) (p i j : Nat) (v0 v1 : Value) : Kept [p] w ((w.setCell ⟨p, i, none⟩ v0).setCell ⟨p, j, none⟩ v1) := (Kept.setCell [p] _ _ _ (by simp)).tr (Kept.setCell [p] _ _ _ (by simp))
theorem kept3 (w : World) (p i j k : Nat) (v0 v1 v2 : Value) : Kept [p] w (((w.setCell ⟨p, i, none⟩ v0).setCell ⟨p, j, none⟩ v1).setCell ⟨p, k, none⟩ v2) := ((Kept.setCell [p] _ _ _ (by simp)).tr (Kept.setCell [p] _ _ _ (by simp))).tr (Kept.setCell [p] _ _ _ (by simp))
/-- behind a step of the reference's -/
structure XTo (w0 w w' : World) (b y p : Nat) (s1 s2 : St) (N : Nat) (d : RC) : Prop where
  two : Two w0 w' b y s1 s2 N
  blk : Blk w0 w' p 65 d.cells
  oth : Oth [p] w w'
theorem XTo.kept {s : St} {N' : Nat} {d' d'' : RC} {w'' : World} (t : XTo w0 w w' b y p s1 s N' d') (K : Kept [p] w' w'') (B : Blk w0 w'' p 65 d''.cells) : XTo w0 w w'' b y p s1 s N' d'' := ⟨to_twoB t.two K t.blk, B, t.oth.trans (Oth.kept K)⟩
theorem XTo.below {s : St} {N' : Nat} {d' : RC} {w'' : World} (t : XTo w0 w w' b y p s1 s N' d') (hb : Below w'.heap.size w' w'') : XTo w0 w w'' b y p s1 s N' d' := ⟨t.two.below hb, t.blk.below hb, t.oth.trans (Oth.below hb)⟩
set_option maxHeartbeats 6000000
/-- on with a Direct -/
theorem rTo {base : Int} {fx : Bool} (B : Blk w0 w p 65 d.cells) (hr : d.r.Ok2) (hfx : (d.e.md == 8) = fx) (h0 : 0 ≤ base) (h1 : base < 4096) :
    Calls Tryz.prog 51 #[pt p, .int .i64 base] w fun e w' => e = .returned (.tuple #[]) ∧ Kept [p] w w' ∧ ∃ pd, w.heap.size ≤ pd ∧ Blk w0 w' p 65 ({ d with pc := 9, y := pt pd } : RC).cells ∧ Blk w0 w' pd 128 (RD.new (base + 1 + d.r.fd) d.r (hwC fx)).cells := by
  have hs0 : w0.heap.size ≤ w.heap.size := Nat.le_trans B.old (Nat.le_of_lt B.lt)
  obtain ⟨pcd, hpcd⟩ : ∃ q, pcD d.r (hwC fx) = q := ⟨_, rfl⟩
  have hpn : (pcd == 0) = false := by
    rw [← hpcd]
    unfold pcD
    obtain ⟨h | h | h, _⟩ := hr <;> simp [h, hwC]
  go_enter Tryz.func51, Tryz.ntmps51
  go_upto_region 0 with (fail)
  have hbd : Below w.heap.size w w.drew := (Below.refl _ _).drew
  have Bd := B.below hbd
  have Kd : Kept [p] w w.drew := Kept.of_below hbd
  refine wp_region_noPanic ?_
  refine wp_region_held_drew (S := fun w' => w'.cell? ⟨p, 5, none⟩ = some (.int .i64 d.r.op) ∧ w'.cell? ⟨p, 6, none⟩ = some (.int .i64 d.r.at_) ∧ w'.cell? ⟨p, 7, none⟩ = some (.int .i64 d.r.fd) ∧ w'.cell? ⟨p, 8, none⟩ = some (.int .i64 d.r.x.k) ∧ w'.cell? ⟨p, 9, none⟩ = some (.int .i64 d.r.x.n) ∧ w'.cell? ⟨p, 10, none⟩ = some (.int .i64 d.r.y.k) ∧ w'.cell? ⟨p, 11, none⟩ = some (.int .i64 d.r.y.n) ∧ w'.cell? ⟨p, 12, none⟩ = some (.int .i64 d.e.md)) (by kernel_rfl) ⟨Bd.cell 5, Bd.cell 6, Bd.cell 7, Bd.cell 8, Bd.cell 9, Bd.cell 10, Bd.cell 11, Bd.cell 12⟩ (fun hHeld => ?_)
  refine tkH (i := 0) 4 (pt p) rfl rfl ?_
  simp only [sA1, sA2, sA3]
  refine tkH (i := 1) 5 (.int .i64 base) rfl rfl ?_
  simp only [sA1, sA2, sA3]
  refine tkH (i := 2) 6 (pt p) rfl rfl ?_
  simp only [sA1, sA2, sA3]
  refine tkH (i := 3) 7 (pt p) rfl rfl ?_
  simp only [sA1, sA2, sA3]
  refine tkH (i := 4) 8 (.pointer (some ⟨p, 5, none⟩)) rfl rfl ?_
  simp only [sA1, sA2, sA3]
  refine tkH (i := 5) 9 (.agg #[.int .i64 d.r.op, .int .i64 d.r.at_, .int .i64 d.r.fd, .int .i64 d.r.x.k, .int .i64 d.r.x.n, .int .i64 d.r.y.k, .int .i64 d.r.y.n]) rfl rfl ?_
  simp only [sA1, sA2, sA3]
  refine tkH (i := 6) 10 (pt p) rfl rfl ?_
  simp only [sA1, sA2, sA3]
  refine tkH (i := 7) 11 (pt p) rfl rfl ?_
  simp only [sA1, sA2, sA3]
  refine tkH (i := 8) 12 (.pointer (some ⟨p, 12, none⟩)) rfl rfl ?_
  simp only [sA1, sA2, sA3]
  refine tkH (i := 9) 13 (.pointer (some ⟨p, 12, none⟩)) rfl rfl ?_
  simp only [sA1, sA2, sA3]
  refine tkH (i := 10) 14 (.int .i64 d.e.md) rfl rfl ?_
  simp only [sA1, sA2, sA3]
  refine tkH (i := 11) 15 (.bool fx) rfl rfl ?_
  simp only [sA1, sA2, sA3]
  refine tkH (i := 12) 16 (.agg #[.bool false, .bool true, .bool fx, .int .i64 0]) rfl rfl ?_
  simp only [sA1, sA2, sA3]
  refine rd1 13 rfl fun K hK => ?_
  go_simp
  refine (rNewDirect base d.r (hwC fx) _ h0 h1 hr.2.2.2.1 hr.2.2.2.2 hr.1).mono ?_
  rintro e w1 ⟨pd, rfl, M⟩
  have B1 := Bd.below M.bel
  have K1 := Kd.tr (Kept.of_below (F := [p]) M.bel)
  have D1 := M.blk' (w0 := w0) (Nat.le_trans hs0 hbd.size) (by decide)
  have np : w.heap.size ≤ pd := (by have := M.new; have := hbd.size; omega)
  have z25 : w1.cell? ⟨p, 25, none⟩ = some d.y := B1.cell 25
  have zf25 := B1.free 25
  clear M
  refine hK.out _ _ ⟨B1.cell 5, B1.cell 6, B1.cell 7, B1.cell 8, B1.cell 9, B1.cell 10, B1.cell 11, B1.cell 12⟩ (fun hHeld => ?_)
  clear hK K
  try simp only [Act.put, sA1, sA2, sA3]
  refine tkH (i := 14) 18 (pt p) rfl rfl ?_
  simp only [sA1, sA2, sA3]
  refine tkH (i := 15) 19 (.pointer (some ⟨p, 25, none⟩)) rfl rfl ?_
  simp only [sA1, sA2, sA3]
  have B2 := B1.r_y (pt pd)
  have K2 := K1.tr (Kept.setCell [p] w1 ⟨p, 25, none⟩ (pt pd) (by simp))
  have D2 := D1.oth (F := [p]) (Oth.set w1 p 25 (pt pd) (by simp)) (by simpa using D1.ne B1 (by decide))
  refine rd1 16 rfl fun K hK => ?_
  go_simp
  refine hK.out _ _ ⟨B2.cell 5, B2.cell 6, B2.cell 7, B2.cell 8, B2.cell 9, B2.cell 10, B2.cell 11, B2.cell 12⟩ (fun hHeld => ?_)
  clear hK K
  try simp only [Act.put, sA1, sA2, sA3]
  refine wpAnyH_done (by kernel_rfl) ?_ _
  refine NoPanic.normal ?_
  clear z25 zf25
  generalize w1.setCell ⟨p, 25, none⟩ (pt pd) = w2 at B2 K2 D2 ⊢
  have c15 : w2.cell? ⟨p, 15, none⟩ = some (.int .i64 d.pc) := B2.cell 15
  have f15 := B2.free 15
  have c25 : w2.cell? ⟨p, 25, none⟩ = some (pt pd) := B2.cell 25
  have npd : pd ≠ p := D2.ne B2 (by decide)
  have e12 : w2.cell? ⟨pd, 12, none⟩ = some (.int .i64 pcd) := hpcd ▸ D2.cell 12
  go_wp2
  go_end0
  exact ⟨rfl, K2.tr (Kept.setCell [p] _ _ _ (by simp)), pd, np, B2.r_pc 9, D2.oth (F := [p]) (Oth.set _ _ _ _ (by simp)) (by simpa using npd)⟩
theorem xs0 (h : Two w0 w b y s1 s2 N) (B : Blk w0 w p 65 d.cells) (hN : N + 5 < 1000000) (hpc : d.pc = 0) :
    Calls Tryz.prog 19 #[pt p, pt y] w fun e w' => e = .returned (.bool true) ∧ w' = w := by
  have c15 : w.cell? ⟨p, 15, none⟩ = some (.int .i64 0) := hpc ▸ B.cell 15
  go_enter Tryz.func19, Tryz.ntmps19
  go_wp2
  go_ret
  exact ⟨rfl, rfl⟩
theorem rn_cells (B : Blk w0 w p 65 d.cells) (hn : d.n = pn4) : w.cell? ⟨p, 0, none⟩ = some (.int .i64 4) ∧ w.cell? ⟨p, 1, none⟩ = some (.int .i64 4) ∧ w.cell? ⟨p, 2, none⟩ = some (.int .i64 14) ∧ w.cell? ⟨p, 3, none⟩ = some (.int .i64 32) ∧ w.cell? ⟨p, 4, none⟩ = some (.int .i64 160) ∧ w.cell? ⟨p, 6, none⟩ = some (.int .i64 d.r.at_) := by
  have c0 := B.cell 0
  have c1 := B.cell 1
  have c2 := B.cell 2
  have c3 := B.cell 3
  have c4 := B.cell 4
  simp only [RC.cells, hn, pn4] at c0 c1 c2 c3 c4
  exact ⟨c0, c1, c2, c3, c4, B.cell 6⟩
theorem rn_cellsA {a : Int} (B : Blk w0 w p 65 d.cells) (hn : d.n = pn4) (ha : d.r.at_ = a) : w.cell? ⟨p, 0, none⟩ = some (.int .i64 4) ∧ w.cell? ⟨p, 1, none⟩ = some (.int .i64 4) ∧ w.cell? ⟨p, 2, none⟩ = some (.int .i64 14) ∧ w.cell? ⟨p, 3, none⟩ = some (.int .i64 32) ∧ w.cell? ⟨p, 4, none⟩ = some (.int .i64 160) ∧ w.cell? ⟨p, 6, none⟩ = some (.int .i64 a) := ha ▸ rn_cells B hn
theorem bk2 {a : Int} (h0 : 96 ≤ a) (h1 : a < 128) : P.Plain.bk 32 160 a = 2 := by rw [P.Plain.bk_in (by omega) (by omega)]; omega
end
end Go.Proofs.YtmlgohknbjfciaaGreatDoor
