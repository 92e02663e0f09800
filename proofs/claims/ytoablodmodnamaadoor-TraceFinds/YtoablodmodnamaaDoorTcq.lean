/-
  A Trace's functions beneath its Step.
-/
import Derived.Test.YtoablodmodnamaaDoorUaq
import Derived.Test.YtoablodmodnamaaDoorGkq
import Derived.Deep.RegionHeld3
namespace Go.Proofs.YtoablodmodnamaaDoor
set_option linter.unusedVariables false
set_option linter.unusedSimpArgs false
set_option maxRecDepth 100000
open Go.ChangeShapes Go.WideShapes Go.RowKit
open S.Plain (t0 t1 tw nx p0 p1 p2 p3 pw)
open H.Plain (hw pS pC pN pM pG pT pL)
open F.Plain (kind num)

section
variable {w : World} {L : Loc} {s : St} {p : Nat} {U : Pl5} {x : TrS}
theorem At.putNT (A : At 142 w L s p 134 (x.cells U)) (y : NextS) : At 142 (World.setCell (World.setCell (World.setCell (World.setCell (World.setCell (World.setCell (World.setCell (World.setCell (World.setCell (World.setCell (World.setCell w ⟨p, 10, none⟩ (.int .i64 y.pc)) ⟨p, 11, none⟩ (.int .u64 y.list)) ⟨p, 12, none⟩ (.int .i64 y.h.S)) ⟨p, 13, none⟩ (.int .i64 y.h.C)) ⟨p, 14, none⟩ (.int .i64 y.h.N)) ⟨p, 15, none⟩ (.int .i64 y.h.M)) ⟨p, 16, none⟩ (.int .i64 y.h.G)) ⟨p, 17, none⟩ (.int .i64 y.h.T)) ⟨p, 18, none⟩ (.int .i64 y.h.L)) ⟨p, 19, none⟩ (.int .i64 y.cell)) ⟨p, 20, none⟩ (.int .i64 y.count)) L s p 134 ((x.nexts y).cells U) := by
  have A1 : At 142 (World.setCell w ⟨p, 10, none⟩ (.int .i64 y.pc)) L s p 134 ((⟨x.q, x.pc, ⟨y.pc, x.ne.list, ⟨x.ne.h.S, x.ne.h.C, x.ne.h.N, x.ne.h.M, x.ne.h.G, x.ne.h.T, x.ne.h.L⟩, x.ne.cell, x.ne.count⟩, x.obj, x.cnt, x.fld, x.sh, x.V, x.ak, x.qs⟩ : TrS).cells U) := A.set 10 (.int .i64 y.pc)
  have A2 : At 142 (World.setCell (World.setCell w ⟨p, 10, none⟩ (.int .i64 y.pc)) ⟨p, 11, none⟩ (.int .u64 y.list)) L s p 134 ((⟨x.q, x.pc, ⟨y.pc, y.list, ⟨x.ne.h.S, x.ne.h.C, x.ne.h.N, x.ne.h.M, x.ne.h.G, x.ne.h.T, x.ne.h.L⟩, x.ne.cell, x.ne.count⟩, x.obj, x.cnt, x.fld, x.sh, x.V, x.ak, x.qs⟩ : TrS).cells U) := A1.set 11 (.int .u64 y.list)
  have A3 : At 142 (World.setCell (World.setCell (World.setCell w ⟨p, 10, none⟩ (.int .i64 y.pc)) ⟨p, 11, none⟩ (.int .u64 y.list)) ⟨p, 12, none⟩ (.int .i64 y.h.S)) L s p 134 ((⟨x.q, x.pc, ⟨y.pc, y.list, ⟨y.h.S, x.ne.h.C, x.ne.h.N, x.ne.h.M, x.ne.h.G, x.ne.h.T, x.ne.h.L⟩, x.ne.cell, x.ne.count⟩, x.obj, x.cnt, x.fld, x.sh, x.V, x.ak, x.qs⟩ : TrS).cells U) := A2.set 12 (.int .i64 y.h.S)
  have A4 : At 142 (World.setCell (World.setCell (World.setCell (World.setCell w ⟨p, 10, none⟩ (.int .i64 y.pc)) ⟨p, 11, none⟩ (.int .u64 y.list)) ⟨p, 12, none⟩ (.int .i64 y.h.S)) ⟨p, 13, none⟩ (.int .i64 y.h.C)) L s p 134 ((⟨x.q, x.pc, ⟨y.pc, y.list, ⟨y.h.S, y.h.C, x.ne.h.N, x.ne.h.M, x.ne.h.G, x.ne.h.T, x.ne.h.L⟩, x.ne.cell, x.ne.count⟩, x.obj, x.cnt, x.fld, x.sh, x.V, x.ak, x.qs⟩ : TrS).cells U) := A3.set 13 (.int .i64 y.h.C)
  have A5 : At 142 (World.setCell (World.setCell (World.setCell (World.setCell (World.setCell w ⟨p, 10, none⟩ (.int .i64 y.pc)) ⟨p, 11, none⟩ (.int .u64 y.list)) ⟨p, 12, none⟩ (.int .i64 y.h.S)) ⟨p, 13, none⟩ (.int .i64 y.h.C)) ⟨p, 14, none⟩ (.int .i64 y.h.N)) L s p 134 ((⟨x.q, x.pc, ⟨y.pc, y.list, ⟨y.h.S, y.h.C, y.h.N, x.ne.h.M, x.ne.h.G, x.ne.h.T, x.ne.h.L⟩, x.ne.cell, x.ne.count⟩, x.obj, x.cnt, x.fld, x.sh, x.V, x.ak, x.qs⟩ : TrS).cells U) := A4.set 14 (.int .i64 y.h.N)
  have A6 : At 142 (World.setCell (World.setCell (World.setCell (World.setCell (World.setCell (World.setCell w ⟨p, 10, none⟩ (.int .i64 y.pc)) ⟨p, 11, none⟩ (.int .u64 y.list)) ⟨p, 12, none⟩ (.int .i64 y.h.S)) ⟨p, 13, none⟩ (.int .i64 y.h.C)) ⟨p, 14, none⟩ (.int .i64 y.h.N)) ⟨p, 15, none⟩ (.int .i64 y.h.M)) L s p 134 ((⟨x.q, x.pc, ⟨y.pc, y.list, ⟨y.h.S, y.h.C, y.h.N, y.h.M, x.ne.h.G, x.ne.h.T, x.ne.h.L⟩, x.ne.cell, x.ne.count⟩, x.obj, x.cnt, x.fld, x.sh, x.V, x.ak, x.qs⟩ : TrS).cells U) := A5.set 15 (.int .i64 y.h.M)
  have A7 : At 142 (World.setCell (World.setCell (World.setCell (World.setCell (World.setCell (World.setCell (World.setCell w ⟨p, 10, none⟩ (.int .i64 y.pc)) ⟨p, 11, none⟩ (.int .u64 y.list)) ⟨p, 12, none⟩ (.int .i64 y.h.S)) ⟨p, 13, none⟩ (.int .i64 y.h.C)) ⟨p, 14, none⟩ (.int .i64 y.h.N)) ⟨p, 15, none⟩ (.int .i64 y.h.M)) ⟨p, 16, none⟩ (.int .i64 y.h.G)) L s p 134 ((⟨x.q, x.pc, ⟨y.pc, y.list, ⟨y.h.S, y.h.C, y.h.N, y.h.M, y.h.G, x.ne.h.T, x.ne.h.L⟩, x.ne.cell, x.ne.count⟩, x.obj, x.cnt, x.fld, x.sh, x.V, x.ak, x.qs⟩ : TrS).cells U) := A6.set 16 (.int .i64 y.h.G)
  have A8 : At 142 (World.setCell (World.setCell (World.setCell (World.setCell (World.setCell (World.setCell (World.setCell (World.setCell w ⟨p, 10, none⟩ (.int .i64 y.pc)) ⟨p, 11, none⟩ (.int .u64 y.list)) ⟨p, 12, none⟩ (.int .i64 y.h.S)) ⟨p, 13, none⟩ (.int .i64 y.h.C)) ⟨p, 14, none⟩ (.int .i64 y.h.N)) ⟨p, 15, none⟩ (.int .i64 y.h.M)) ⟨p, 16, none⟩ (.int .i64 y.h.G)) ⟨p, 17, none⟩ (.int .i64 y.h.T)) L s p 134 ((⟨x.q, x.pc, ⟨y.pc, y.list, ⟨y.h.S, y.h.C, y.h.N, y.h.M, y.h.G, y.h.T, x.ne.h.L⟩, x.ne.cell, x.ne.count⟩, x.obj, x.cnt, x.fld, x.sh, x.V, x.ak, x.qs⟩ : TrS).cells U) := A7.set 17 (.int .i64 y.h.T)
  have A9 : At 142 (World.setCell (World.setCell (World.setCell (World.setCell (World.setCell (World.setCell (World.setCell (World.setCell (World.setCell w ⟨p, 10, none⟩ (.int .i64 y.pc)) ⟨p, 11, none⟩ (.int .u64 y.list)) ⟨p, 12, none⟩ (.int .i64 y.h.S)) ⟨p, 13, none⟩ (.int .i64 y.h.C)) ⟨p, 14, none⟩ (.int .i64 y.h.N)) ⟨p, 15, none⟩ (.int .i64 y.h.M)) ⟨p, 16, none⟩ (.int .i64 y.h.G)) ⟨p, 17, none⟩ (.int .i64 y.h.T)) ⟨p, 18, none⟩ (.int .i64 y.h.L)) L s p 134 ((⟨x.q, x.pc, ⟨y.pc, y.list, ⟨y.h.S, y.h.C, y.h.N, y.h.M, y.h.G, y.h.T, y.h.L⟩, x.ne.cell, x.ne.count⟩, x.obj, x.cnt, x.fld, x.sh, x.V, x.ak, x.qs⟩ : TrS).cells U) := A8.set 18 (.int .i64 y.h.L)
  have A10 : At 142 (World.setCell (World.setCell (World.setCell (World.setCell (World.setCell (World.setCell (World.setCell (World.setCell (World.setCell (World.setCell w ⟨p, 10, none⟩ (.int .i64 y.pc)) ⟨p, 11, none⟩ (.int .u64 y.list)) ⟨p, 12, none⟩ (.int .i64 y.h.S)) ⟨p, 13, none⟩ (.int .i64 y.h.C)) ⟨p, 14, none⟩ (.int .i64 y.h.N)) ⟨p, 15, none⟩ (.int .i64 y.h.M)) ⟨p, 16, none⟩ (.int .i64 y.h.G)) ⟨p, 17, none⟩ (.int .i64 y.h.T)) ⟨p, 18, none⟩ (.int .i64 y.h.L)) ⟨p, 19, none⟩ (.int .i64 y.cell)) L s p 134 ((⟨x.q, x.pc, ⟨y.pc, y.list, ⟨y.h.S, y.h.C, y.h.N, y.h.M, y.h.G, y.h.T, y.h.L⟩, y.cell, x.ne.count⟩, x.obj, x.cnt, x.fld, x.sh, x.V, x.ak, x.qs⟩ : TrS).cells U) := A9.set 19 (.int .i64 y.cell)
  have A11 : At 142 (World.setCell (World.setCell (World.setCell (World.setCell (World.setCell (World.setCell (World.setCell (World.setCell (World.setCell (World.setCell (World.setCell w ⟨p, 10, none⟩ (.int .i64 y.pc)) ⟨p, 11, none⟩ (.int .u64 y.list)) ⟨p, 12, none⟩ (.int .i64 y.h.S)) ⟨p, 13, none⟩ (.int .i64 y.h.C)) ⟨p, 14, none⟩ (.int .i64 y.h.N)) ⟨p, 15, none⟩ (.int .i64 y.h.M)) ⟨p, 16, none⟩ (.int .i64 y.h.G)) ⟨p, 17, none⟩ (.int .i64 y.h.T)) ⟨p, 18, none⟩ (.int .i64 y.h.L)) ⟨p, 19, none⟩ (.int .i64 y.cell)) ⟨p, 20, none⟩ (.int .i64 y.count)) L s p 134 ((⟨x.q, x.pc, ⟨y.pc, y.list, ⟨y.h.S, y.h.C, y.h.N, y.h.M, y.h.G, y.h.T, y.h.L⟩, y.cell, y.count⟩, x.obj, x.cnt, x.fld, x.sh, x.V, x.ak, x.qs⟩ : TrS).cells U) := A10.set 20 (.int .i64 y.count)
  exact A11
theorem Went.putNT (w : World) (L : Loc) (p : Nat) (y : NextS) : Went w L p (World.setCell (World.setCell (World.setCell (World.setCell (World.setCell (World.setCell (World.setCell (World.setCell (World.setCell (World.setCell (World.setCell w ⟨p, 10, none⟩ (.int .i64 y.pc)) ⟨p, 11, none⟩ (.int .u64 y.list)) ⟨p, 12, none⟩ (.int .i64 y.h.S)) ⟨p, 13, none⟩ (.int .i64 y.h.C)) ⟨p, 14, none⟩ (.int .i64 y.h.N)) ⟨p, 15, none⟩ (.int .i64 y.h.M)) ⟨p, 16, none⟩ (.int .i64 y.h.G)) ⟨p, 17, none⟩ (.int .i64 y.h.T)) ⟨p, 18, none⟩ (.int .i64 y.h.L)) ⟨p, 19, none⟩ (.int .i64 y.cell)) ⟨p, 20, none⟩ (.int .i64 y.count)) L := (Went.refl w L p).more.more.more.more.more.more.more.more.more.more.more
theorem At.putST (A : At 142 w L s p 134 (x.cells U)) (y : ShadeS) : At 142 (World.setCell (World.setCell (World.setCell (World.setCell (World.setCell (World.setCell (World.setCell (World.setCell (World.setCell (World.setCell (World.setCell (World.setCell w ⟨p, 24, none⟩ (.int .i64 y.cell)) ⟨p, 25, none⟩ (.int .i64 y.mark)) ⟨p, 26, none⟩ (.int .i64 y.pc)) ⟨p, 27, none⟩ (.int .u64 y.found)) ⟨p, 28, none⟩ (.int .i64 y.h.S)) ⟨p, 29, none⟩ (.int .i64 y.h.C)) ⟨p, 30, none⟩ (.int .i64 y.h.N)) ⟨p, 31, none⟩ (.int .i64 y.h.M)) ⟨p, 32, none⟩ (.int .i64 y.h.G)) ⟨p, 33, none⟩ (.int .i64 y.h.T)) ⟨p, 34, none⟩ (.int .i64 y.h.L)) ⟨p, 35, none⟩ (.int .u64 y.list)) L s p 134 ((x.shades y).cells U) := by
  have A1 : At 142 (World.setCell w ⟨p, 24, none⟩ (.int .i64 y.cell)) L s p 134 ((⟨x.q, x.pc, x.ne, x.obj, x.cnt, x.fld, ⟨y.cell, x.sh.mark, x.sh.pc, x.sh.found, ⟨x.sh.h.S, x.sh.h.C, x.sh.h.N, x.sh.h.M, x.sh.h.G, x.sh.h.T, x.sh.h.L⟩, x.sh.list⟩, x.V, x.ak, x.qs⟩ : TrS).cells U) := A.set 24 (.int .i64 y.cell)
  have A2 : At 142 (World.setCell (World.setCell w ⟨p, 24, none⟩ (.int .i64 y.cell)) ⟨p, 25, none⟩ (.int .i64 y.mark)) L s p 134 ((⟨x.q, x.pc, x.ne, x.obj, x.cnt, x.fld, ⟨y.cell, y.mark, x.sh.pc, x.sh.found, ⟨x.sh.h.S, x.sh.h.C, x.sh.h.N, x.sh.h.M, x.sh.h.G, x.sh.h.T, x.sh.h.L⟩, x.sh.list⟩, x.V, x.ak, x.qs⟩ : TrS).cells U) := A1.set 25 (.int .i64 y.mark)
  have A3 : At 142 (World.setCell (World.setCell (World.setCell w ⟨p, 24, none⟩ (.int .i64 y.cell)) ⟨p, 25, none⟩ (.int .i64 y.mark)) ⟨p, 26, none⟩ (.int .i64 y.pc)) L s p 134 ((⟨x.q, x.pc, x.ne, x.obj, x.cnt, x.fld, ⟨y.cell, y.mark, y.pc, x.sh.found, ⟨x.sh.h.S, x.sh.h.C, x.sh.h.N, x.sh.h.M, x.sh.h.G, x.sh.h.T, x.sh.h.L⟩, x.sh.list⟩, x.V, x.ak, x.qs⟩ : TrS).cells U) := A2.set 26 (.int .i64 y.pc)
  have A4 : At 142 (World.setCell (World.setCell (World.setCell (World.setCell w ⟨p, 24, none⟩ (.int .i64 y.cell)) ⟨p, 25, none⟩ (.int .i64 y.mark)) ⟨p, 26, none⟩ (.int .i64 y.pc)) ⟨p, 27, none⟩ (.int .u64 y.found)) L s p 134 ((⟨x.q, x.pc, x.ne, x.obj, x.cnt, x.fld, ⟨y.cell, y.mark, y.pc, y.found, ⟨x.sh.h.S, x.sh.h.C, x.sh.h.N, x.sh.h.M, x.sh.h.G, x.sh.h.T, x.sh.h.L⟩, x.sh.list⟩, x.V, x.ak, x.qs⟩ : TrS).cells U) := A3.set 27 (.int .u64 y.found)
  have A5 : At 142 (World.setCell (World.setCell (World.setCell (World.setCell (World.setCell w ⟨p, 24, none⟩ (.int .i64 y.cell)) ⟨p, 25, none⟩ (.int .i64 y.mark)) ⟨p, 26, none⟩ (.int .i64 y.pc)) ⟨p, 27, none⟩ (.int .u64 y.found)) ⟨p, 28, none⟩ (.int .i64 y.h.S)) L s p 134 ((⟨x.q, x.pc, x.ne, x.obj, x.cnt, x.fld, ⟨y.cell, y.mark, y.pc, y.found, ⟨y.h.S, x.sh.h.C, x.sh.h.N, x.sh.h.M, x.sh.h.G, x.sh.h.T, x.sh.h.L⟩, x.sh.list⟩, x.V, x.ak, x.qs⟩ : TrS).cells U) := A4.set 28 (.int .i64 y.h.S)
  have A6 : At 142 (World.setCell (World.setCell (World.setCell (World.setCell (World.setCell (World.setCell w ⟨p, 24, none⟩ (.int .i64 y.cell)) ⟨p, 25, none⟩ (.int .i64 y.mark)) ⟨p, 26, none⟩ (.int .i64 y.pc)) ⟨p, 27, none⟩ (.int .u64 y.found)) ⟨p, 28, none⟩ (.int .i64 y.h.S)) ⟨p, 29, none⟩ (.int .i64 y.h.C)) L s p 134 ((⟨x.q, x.pc, x.ne, x.obj, x.cnt, x.fld, ⟨y.cell, y.mark, y.pc, y.found, ⟨y.h.S, y.h.C, x.sh.h.N, x.sh.h.M, x.sh.h.G, x.sh.h.T, x.sh.h.L⟩, x.sh.list⟩, x.V, x.ak, x.qs⟩ : TrS).cells U) := A5.set 29 (.int .i64 y.h.C)
  have A7 : At 142 (World.setCell (World.setCell (World.setCell (World.setCell (World.setCell (World.setCell (World.setCell w ⟨p, 24, none⟩ (.int .i64 y.cell)) ⟨p, 25, none⟩ (.int .i64 y.mark)) ⟨p, 26, none⟩ (.int .i64 y.pc)) ⟨p, 27, none⟩ (.int .u64 y.found)) ⟨p, 28, none⟩ (.int .i64 y.h.S)) ⟨p, 29, none⟩ (.int .i64 y.h.C)) ⟨p, 30, none⟩ (.int .i64 y.h.N)) L s p 134 ((⟨x.q, x.pc, x.ne, x.obj, x.cnt, x.fld, ⟨y.cell, y.mark, y.pc, y.found, ⟨y.h.S, y.h.C, y.h.N, x.sh.h.M, x.sh.h.G, x.sh.h.T, x.sh.h.L⟩, x.sh.list⟩, x.V, x.ak, x.qs⟩ : TrS).cells U) := A6.set 30 (.int .i64 y.h.N)
  have A8 : At 142 (World.setCell (World.setCell (World.setCell (World.setCell (World.setCell (World.setCell (World.setCell (World.setCell w ⟨p, 24, none⟩ (.int .i64 y.cell)) ⟨p, 25, none⟩ (.int .i64 y.mark)) ⟨p, 26, none⟩ (.int .i64 y.pc)) ⟨p, 27, none⟩ (.int .u64 y.found)) ⟨p, 28, none⟩ (.int .i64 y.h.S)) ⟨p, 29, none⟩ (.int .i64 y.h.C)) ⟨p, 30, none⟩ (.int .i64 y.h.N)) ⟨p, 31, none⟩ (.int .i64 y.h.M)) L s p 134 ((⟨x.q, x.pc, x.ne, x.obj, x.cnt, x.fld, ⟨y.cell, y.mark, y.pc, y.found, ⟨y.h.S, y.h.C, y.h.N, y.h.M, x.sh.h.G, x.sh.h.T, x.sh.h.L⟩, x.sh.list⟩, x.V, x.ak, x.qs⟩ : TrS).cells U) := A7.set 31 (.int .i64 y.h.M)
  have A9 : At 142 (World.setCell (World.setCell (World.setCell (World.setCell (World.setCell (World.setCell (World.setCell (World.setCell (World.setCell w ⟨p, 24, none⟩ (.int .i64 y.cell)) ⟨p, 25, none⟩ (.int .i64 y.mark)) ⟨p, 26, none⟩ (.int .i64 y.pc)) ⟨p, 27, none⟩ (.int .u64 y.found)) ⟨p, 28, none⟩ (.int .i64 y.h.S)) ⟨p, 29, none⟩ (.int .i64 y.h.C)) ⟨p, 30, none⟩ (.int .i64 y.h.N)) ⟨p, 31, none⟩ (.int .i64 y.h.M)) ⟨p, 32, none⟩ (.int .i64 y.h.G)) L s p 134 ((⟨x.q, x.pc, x.ne, x.obj, x.cnt, x.fld, ⟨y.cell, y.mark, y.pc, y.found, ⟨y.h.S, y.h.C, y.h.N, y.h.M, y.h.G, x.sh.h.T, x.sh.h.L⟩, x.sh.list⟩, x.V, x.ak, x.qs⟩ : TrS).cells U) := A8.set 32 (.int .i64 y.h.G)
  have A10 : At 142 (World.setCell (World.setCell (World.setCell (World.setCell (World.setCell (World.setCell (World.setCell (World.setCell (World.setCell (World.setCell w ⟨p, 24, none⟩ (.int .i64 y.cell)) ⟨p, 25, none⟩ (.int .i64 y.mark)) ⟨p, 26, none⟩ (.int .i64 y.pc)) ⟨p, 27, none⟩ (.int .u64 y.found)) ⟨p, 28, none⟩ (.int .i64 y.h.S)) ⟨p, 29, none⟩ (.int .i64 y.h.C)) ⟨p, 30, none⟩ (.int .i64 y.h.N)) ⟨p, 31, none⟩ (.int .i64 y.h.M)) ⟨p, 32, none⟩ (.int .i64 y.h.G)) ⟨p, 33, none⟩ (.int .i64 y.h.T)) L s p 134 ((⟨x.q, x.pc, x.ne, x.obj, x.cnt, x.fld, ⟨y.cell, y.mark, y.pc, y.found, ⟨y.h.S, y.h.C, y.h.N, y.h.M, y.h.G, y.h.T, x.sh.h.L⟩, x.sh.list⟩, x.V, x.ak, x.qs⟩ : TrS).cells U) := A9.set 33 (.int .i64 y.h.T)
  have A11 : At 142 (World.setCell (World.setCell (World.setCell (World.setCell (World.setCell (World.setCell (World.setCell (World.setCell (World.setCell (World.setCell (World.setCell w ⟨p, 24, none⟩ (.int .i64 y.cell)) ⟨p, 25, none⟩ (.int .i64 y.mark)) ⟨p, 26, none⟩ (.int .i64 y.pc)) ⟨p, 27, none⟩ (.int .u64 y.found)) ⟨p, 28, none⟩ (.int .i64 y.h.S)) ⟨p, 29, none⟩ (.int .i64 y.h.C)) ⟨p, 30, none⟩ (.int .i64 y.h.N)) ⟨p, 31, none⟩ (.int .i64 y.h.M)) ⟨p, 32, none⟩ (.int .i64 y.h.G)) ⟨p, 33, none⟩ (.int .i64 y.h.T)) ⟨p, 34, none⟩ (.int .i64 y.h.L)) L s p 134 ((⟨x.q, x.pc, x.ne, x.obj, x.cnt, x.fld, ⟨y.cell, y.mark, y.pc, y.found, ⟨y.h.S, y.h.C, y.h.N, y.h.M, y.h.G, y.h.T, y.h.L⟩, x.sh.list⟩, x.V, x.ak, x.qs⟩ : TrS).cells U) := A10.set 34 (.int .i64 y.h.L)
  have A12 : At 142 (World.setCell (World.setCell (World.setCell (World.setCell (World.setCell (World.setCell (World.setCell (World.setCell (World.setCell (World.setCell (World.setCell (World.setCell w ⟨p, 24, none⟩ (.int .i64 y.cell)) ⟨p, 25, none⟩ (.int .i64 y.mark)) ⟨p, 26, none⟩ (.int .i64 y.pc)) ⟨p, 27, none⟩ (.int .u64 y.found)) ⟨p, 28, none⟩ (.int .i64 y.h.S)) ⟨p, 29, none⟩ (.int .i64 y.h.C)) ⟨p, 30, none⟩ (.int .i64 y.h.N)) ⟨p, 31, none⟩ (.int .i64 y.h.M)) ⟨p, 32, none⟩ (.int .i64 y.h.G)) ⟨p, 33, none⟩ (.int .i64 y.h.T)) ⟨p, 34, none⟩ (.int .i64 y.h.L)) ⟨p, 35, none⟩ (.int .u64 y.list)) L s p 134 ((⟨x.q, x.pc, x.ne, x.obj, x.cnt, x.fld, ⟨y.cell, y.mark, y.pc, y.found, ⟨y.h.S, y.h.C, y.h.N, y.h.M, y.h.G, y.h.T, y.h.L⟩, y.list⟩, x.V, x.ak, x.qs⟩ : TrS).cells U) := A11.set 35 (.int .u64 y.list)
  exact A12
theorem Went.putST (w : World) (L : Loc) (p : Nat) (y : ShadeS) : Went w L p (World.setCell (World.setCell (World.setCell (World.setCell (World.setCell (World.setCell (World.setCell (World.setCell (World.setCell (World.setCell (World.setCell (World.setCell w ⟨p, 24, none⟩ (.int .i64 y.cell)) ⟨p, 25, none⟩ (.int .i64 y.mark)) ⟨p, 26, none⟩ (.int .i64 y.pc)) ⟨p, 27, none⟩ (.int .u64 y.found)) ⟨p, 28, none⟩ (.int .i64 y.h.S)) ⟨p, 29, none⟩ (.int .i64 y.h.C)) ⟨p, 30, none⟩ (.int .i64 y.h.N)) ⟨p, 31, none⟩ (.int .i64 y.h.M)) ⟨p, 32, none⟩ (.int .i64 y.h.G)) ⟨p, 33, none⟩ (.int .i64 y.h.T)) ⟨p, 34, none⟩ (.int .i64 y.h.L)) ⟨p, 35, none⟩ (.int .u64 y.list)) L := (Went.refl w L p).more.more.more.more.more.more.more.more.more.more.more.more
theorem At.putAT (A : At 142 w L s p 134 (x.cells U)) (V : Pl5) (y : AskS) : At 142 (World.setCell (World.setCell (World.setCell (World.setCell (World.setCell (World.setCell (World.setCell (World.setCell (World.setCell (World.setCell (World.setCell w ⟨p, 36, none⟩ (.int .i64 V.th)) ⟨p, 37, none⟩ (.int .i64 V.bl)) ⟨p, 38, none⟩ (.int .i64 V.ta)) ⟨p, 39, none⟩ (.int .i64 V.he)) ⟨p, 40, none⟩ (.int .i64 V.si)) ⟨p, 41, none⟩ (.int .i64 y.q.no)) ⟨p, 42, none⟩ (.int .i64 y.q.md)) ⟨p, 43, none⟩ (.int .i64 y.q.mr)) ⟨p, 44, none⟩ (.int .i64 y.q.ls)) ⟨p, 45, none⟩ (.int .i64 y.pc)) ⟨p, 46, none⟩ (.int .i64 y.k)) L s p 134 (((⟨x.q, x.pc, x.ne, x.obj, x.cnt, x.fld, x.sh, V, y, x.qs⟩ : TrS)).cells U) := by
  have A1 : At 142 (World.setCell w ⟨p, 36, none⟩ (.int .i64 V.th)) L s p 134 ((⟨x.q, x.pc, x.ne, x.obj, x.cnt, x.fld, x.sh, ⟨V.th, x.V.bl, x.V.ta, x.V.he, x.V.si⟩, ⟨⟨x.ak.q.no, x.ak.q.md, x.ak.q.mr, x.ak.q.ls⟩, x.ak.N, x.ak.pc, x.ak.k⟩, x.qs⟩ : TrS).cells U) := A.set 36 (.int .i64 V.th)
  have A2 : At 142 (World.setCell (World.setCell w ⟨p, 36, none⟩ (.int .i64 V.th)) ⟨p, 37, none⟩ (.int .i64 V.bl)) L s p 134 ((⟨x.q, x.pc, x.ne, x.obj, x.cnt, x.fld, x.sh, ⟨V.th, V.bl, x.V.ta, x.V.he, x.V.si⟩, ⟨⟨x.ak.q.no, x.ak.q.md, x.ak.q.mr, x.ak.q.ls⟩, x.ak.N, x.ak.pc, x.ak.k⟩, x.qs⟩ : TrS).cells U) := A1.set 37 (.int .i64 V.bl)
  have A3 : At 142 (World.setCell (World.setCell (World.setCell w ⟨p, 36, none⟩ (.int .i64 V.th)) ⟨p, 37, none⟩ (.int .i64 V.bl)) ⟨p, 38, none⟩ (.int .i64 V.ta)) L s p 134 ((⟨x.q, x.pc, x.ne, x.obj, x.cnt, x.fld, x.sh, ⟨V.th, V.bl, V.ta, x.V.he, x.V.si⟩, ⟨⟨x.ak.q.no, x.ak.q.md, x.ak.q.mr, x.ak.q.ls⟩, x.ak.N, x.ak.pc, x.ak.k⟩, x.qs⟩ : TrS).cells U) := A2.set 38 (.int .i64 V.ta)
  have A4 : At 142 (World.setCell (World.setCell (World.setCell (World.setCell w ⟨p, 36, none⟩ (.int .i64 V.th)) ⟨p, 37, none⟩ (.int .i64 V.bl)) ⟨p, 38, none⟩ (.int .i64 V.ta)) ⟨p, 39, none⟩ (.int .i64 V.he)) L s p 134 ((⟨x.q, x.pc, x.ne, x.obj, x.cnt, x.fld, x.sh, ⟨V.th, V.bl, V.ta, V.he, x.V.si⟩, ⟨⟨x.ak.q.no, x.ak.q.md, x.ak.q.mr, x.ak.q.ls⟩, x.ak.N, x.ak.pc, x.ak.k⟩, x.qs⟩ : TrS).cells U) := A3.set 39 (.int .i64 V.he)
  have A5 : At 142 (World.setCell (World.setCell (World.setCell (World.setCell (World.setCell w ⟨p, 36, none⟩ (.int .i64 V.th)) ⟨p, 37, none⟩ (.int .i64 V.bl)) ⟨p, 38, none⟩ (.int .i64 V.ta)) ⟨p, 39, none⟩ (.int .i64 V.he)) ⟨p, 40, none⟩ (.int .i64 V.si)) L s p 134 ((⟨x.q, x.pc, x.ne, x.obj, x.cnt, x.fld, x.sh, ⟨V.th, V.bl, V.ta, V.he, V.si⟩, ⟨⟨x.ak.q.no, x.ak.q.md, x.ak.q.mr, x.ak.q.ls⟩, x.ak.N, x.ak.pc, x.ak.k⟩, x.qs⟩ : TrS).cells U) := A4.set 40 (.int .i64 V.si)
  have A6 : At 142 (World.setCell (World.setCell (World.setCell (World.setCell (World.setCell (World.setCell w ⟨p, 36, none⟩ (.int .i64 V.th)) ⟨p, 37, none⟩ (.int .i64 V.bl)) ⟨p, 38, none⟩ (.int .i64 V.ta)) ⟨p, 39, none⟩ (.int .i64 V.he)) ⟨p, 40, none⟩ (.int .i64 V.si)) ⟨p, 41, none⟩ (.int .i64 y.q.no)) L s p 134 ((⟨x.q, x.pc, x.ne, x.obj, x.cnt, x.fld, x.sh, ⟨V.th, V.bl, V.ta, V.he, V.si⟩, ⟨⟨y.q.no, x.ak.q.md, x.ak.q.mr, x.ak.q.ls⟩, x.ak.N, x.ak.pc, x.ak.k⟩, x.qs⟩ : TrS).cells U) := A5.set 41 (.int .i64 y.q.no)
  have A7 : At 142 (World.setCell (World.setCell (World.setCell (World.setCell (World.setCell (World.setCell (World.setCell w ⟨p, 36, none⟩ (.int .i64 V.th)) ⟨p, 37, none⟩ (.int .i64 V.bl)) ⟨p, 38, none⟩ (.int .i64 V.ta)) ⟨p, 39, none⟩ (.int .i64 V.he)) ⟨p, 40, none⟩ (.int .i64 V.si)) ⟨p, 41, none⟩ (.int .i64 y.q.no)) ⟨p, 42, none⟩ (.int .i64 y.q.md)) L s p 134 ((⟨x.q, x.pc, x.ne, x.obj, x.cnt, x.fld, x.sh, ⟨V.th, V.bl, V.ta, V.he, V.si⟩, ⟨⟨y.q.no, y.q.md, x.ak.q.mr, x.ak.q.ls⟩, x.ak.N, x.ak.pc, x.ak.k⟩, x.qs⟩ : TrS).cells U) := A6.set 42 (.int .i64 y.q.md)
  have A8 : At 142 (World.setCell (World.setCell (World.setCell (World.setCell (World.setCell (World.setCell (World.setCell (World.setCell w ⟨p, 36, none⟩ (.int .i64 V.th)) ⟨p, 37, none⟩ (.int .i64 V.bl)) ⟨p, 38, none⟩ (.int .i64 V.ta)) ⟨p, 39, none⟩ (.int .i64 V.he)) ⟨p, 40, none⟩ (.int .i64 V.si)) ⟨p, 41, none⟩ (.int .i64 y.q.no)) ⟨p, 42, none⟩ (.int .i64 y.q.md)) ⟨p, 43, none⟩ (.int .i64 y.q.mr)) L s p 134 ((⟨x.q, x.pc, x.ne, x.obj, x.cnt, x.fld, x.sh, ⟨V.th, V.bl, V.ta, V.he, V.si⟩, ⟨⟨y.q.no, y.q.md, y.q.mr, x.ak.q.ls⟩, x.ak.N, x.ak.pc, x.ak.k⟩, x.qs⟩ : TrS).cells U) := A7.set 43 (.int .i64 y.q.mr)
  have A9 : At 142 (World.setCell (World.setCell (World.setCell (World.setCell (World.setCell (World.setCell (World.setCell (World.setCell (World.setCell w ⟨p, 36, none⟩ (.int .i64 V.th)) ⟨p, 37, none⟩ (.int .i64 V.bl)) ⟨p, 38, none⟩ (.int .i64 V.ta)) ⟨p, 39, none⟩ (.int .i64 V.he)) ⟨p, 40, none⟩ (.int .i64 V.si)) ⟨p, 41, none⟩ (.int .i64 y.q.no)) ⟨p, 42, none⟩ (.int .i64 y.q.md)) ⟨p, 43, none⟩ (.int .i64 y.q.mr)) ⟨p, 44, none⟩ (.int .i64 y.q.ls)) L s p 134 ((⟨x.q, x.pc, x.ne, x.obj, x.cnt, x.fld, x.sh, ⟨V.th, V.bl, V.ta, V.he, V.si⟩, ⟨⟨y.q.no, y.q.md, y.q.mr, y.q.ls⟩, x.ak.N, x.ak.pc, x.ak.k⟩, x.qs⟩ : TrS).cells U) := A8.set 44 (.int .i64 y.q.ls)
  have A10 : At 142 (World.setCell (World.setCell (World.setCell (World.setCell (World.setCell (World.setCell (World.setCell (World.setCell (World.setCell (World.setCell w ⟨p, 36, none⟩ (.int .i64 V.th)) ⟨p, 37, none⟩ (.int .i64 V.bl)) ⟨p, 38, none⟩ (.int .i64 V.ta)) ⟨p, 39, none⟩ (.int .i64 V.he)) ⟨p, 40, none⟩ (.int .i64 V.si)) ⟨p, 41, none⟩ (.int .i64 y.q.no)) ⟨p, 42, none⟩ (.int .i64 y.q.md)) ⟨p, 43, none⟩ (.int .i64 y.q.mr)) ⟨p, 44, none⟩ (.int .i64 y.q.ls)) ⟨p, 45, none⟩ (.int .i64 y.pc)) L s p 134 ((⟨x.q, x.pc, x.ne, x.obj, x.cnt, x.fld, x.sh, ⟨V.th, V.bl, V.ta, V.he, V.si⟩, ⟨⟨y.q.no, y.q.md, y.q.mr, y.q.ls⟩, x.ak.N, y.pc, x.ak.k⟩, x.qs⟩ : TrS).cells U) := A9.set 45 (.int .i64 y.pc)
  have A11 : At 142 (World.setCell (World.setCell (World.setCell (World.setCell (World.setCell (World.setCell (World.setCell (World.setCell (World.setCell (World.setCell (World.setCell w ⟨p, 36, none⟩ (.int .i64 V.th)) ⟨p, 37, none⟩ (.int .i64 V.bl)) ⟨p, 38, none⟩ (.int .i64 V.ta)) ⟨p, 39, none⟩ (.int .i64 V.he)) ⟨p, 40, none⟩ (.int .i64 V.si)) ⟨p, 41, none⟩ (.int .i64 y.q.no)) ⟨p, 42, none⟩ (.int .i64 y.q.md)) ⟨p, 43, none⟩ (.int .i64 y.q.mr)) ⟨p, 44, none⟩ (.int .i64 y.q.ls)) ⟨p, 45, none⟩ (.int .i64 y.pc)) ⟨p, 46, none⟩ (.int .i64 y.k)) L s p 134 ((⟨x.q, x.pc, x.ne, x.obj, x.cnt, x.fld, x.sh, ⟨V.th, V.bl, V.ta, V.he, V.si⟩, ⟨⟨y.q.no, y.q.md, y.q.mr, y.q.ls⟩, y.N, y.pc, y.k⟩, x.qs⟩ : TrS).cells U) := A10.set 46 (.int .i64 y.k)
  exact A11
theorem Went.putAT (w : World) (L : Loc) (p : Nat) (V : Pl5) (y : AskS) : Went w L p (World.setCell (World.setCell (World.setCell (World.setCell (World.setCell (World.setCell (World.setCell (World.setCell (World.setCell (World.setCell (World.setCell w ⟨p, 36, none⟩ (.int .i64 V.th)) ⟨p, 37, none⟩ (.int .i64 V.bl)) ⟨p, 38, none⟩ (.int .i64 V.ta)) ⟨p, 39, none⟩ (.int .i64 V.he)) ⟨p, 40, none⟩ (.int .i64 V.si)) ⟨p, 41, none⟩ (.int .i64 y.q.no)) ⟨p, 42, none⟩ (.int .i64 y.q.md)) ⟨p, 43, none⟩ (.int .i64 y.q.mr)) ⟨p, 44, none⟩ (.int .i64 y.q.ls)) ⟨p, 45, none⟩ (.int .i64 y.pc)) ⟨p, 46, none⟩ (.int .i64 y.k)) L := (Went.refl w L p).more.more.more.more.more.more.more.more.more.more.more
theorem At.putQT (A : At 142 w L s p 134 (x.cells U)) (y : Ph) : At 142 (World.setCell (World.setCell (World.setCell (World.setCell w ⟨p, 47, none⟩ (.int .i64 y.no)) ⟨p, 48, none⟩ (.int .i64 y.md)) ⟨p, 49, none⟩ (.int .i64 y.mr)) ⟨p, 50, none⟩ (.int .i64 y.ls)) L s p 134 (((⟨x.q, x.pc, x.ne, x.obj, x.cnt, x.fld, x.sh, x.V, x.ak, y⟩ : TrS)).cells U) := by
  have A1 : At 142 (World.setCell w ⟨p, 47, none⟩ (.int .i64 y.no)) L s p 134 ((⟨x.q, x.pc, x.ne, x.obj, x.cnt, x.fld, x.sh, x.V, x.ak, ⟨y.no, x.qs.md, x.qs.mr, x.qs.ls⟩⟩ : TrS).cells U) := A.set 47 (.int .i64 y.no)
  have A2 : At 142 (World.setCell (World.setCell w ⟨p, 47, none⟩ (.int .i64 y.no)) ⟨p, 48, none⟩ (.int .i64 y.md)) L s p 134 ((⟨x.q, x.pc, x.ne, x.obj, x.cnt, x.fld, x.sh, x.V, x.ak, ⟨y.no, y.md, x.qs.mr, x.qs.ls⟩⟩ : TrS).cells U) := A1.set 48 (.int .i64 y.md)
  have A3 : At 142 (World.setCell (World.setCell (World.setCell w ⟨p, 47, none⟩ (.int .i64 y.no)) ⟨p, 48, none⟩ (.int .i64 y.md)) ⟨p, 49, none⟩ (.int .i64 y.mr)) L s p 134 ((⟨x.q, x.pc, x.ne, x.obj, x.cnt, x.fld, x.sh, x.V, x.ak, ⟨y.no, y.md, y.mr, x.qs.ls⟩⟩ : TrS).cells U) := A2.set 49 (.int .i64 y.mr)
  have A4 : At 142 (World.setCell (World.setCell (World.setCell (World.setCell w ⟨p, 47, none⟩ (.int .i64 y.no)) ⟨p, 48, none⟩ (.int .i64 y.md)) ⟨p, 49, none⟩ (.int .i64 y.mr)) ⟨p, 50, none⟩ (.int .i64 y.ls)) L s p 134 ((⟨x.q, x.pc, x.ne, x.obj, x.cnt, x.fld, x.sh, x.V, x.ak, ⟨y.no, y.md, y.mr, y.ls⟩⟩ : TrS).cells U) := A3.set 50 (.int .i64 y.ls)
  exact A4
theorem Went.putQT (w : World) (L : Loc) (p : Nat) (y : Ph) : Went w L p (World.setCell (World.setCell (World.setCell (World.setCell w ⟨p, 47, none⟩ (.int .i64 y.no)) ⟨p, 48, none⟩ (.int .i64 y.md)) ⟨p, 49, none⟩ (.int .i64 y.mr)) ⟨p, 50, none⟩ (.int .i64 y.ls)) L := (Went.refl w L p).more.more.more.more
theorem At.putOT (A : At 142 w L s p 134 (x.cells U)) (y : Ph) : At 142 (World.setCell (World.setCell (World.setCell (World.setCell w ⟨p, 5, none⟩ (.int .i64 y.no)) ⟨p, 6, none⟩ (.int .i64 y.md)) ⟨p, 7, none⟩ (.int .i64 y.mr)) ⟨p, 8, none⟩ (.int .i64 y.ls)) L s p 134 (((⟨y, x.pc, x.ne, x.obj, x.cnt, x.fld, x.sh, x.V, x.ak, x.qs⟩ : TrS)).cells U) := by
  have A1 : At 142 (World.setCell w ⟨p, 5, none⟩ (.int .i64 y.no)) L s p 134 ((⟨⟨y.no, x.q.md, x.q.mr, x.q.ls⟩, x.pc, x.ne, x.obj, x.cnt, x.fld, x.sh, x.V, x.ak, x.qs⟩ : TrS).cells U) := A.set 5 (.int .i64 y.no)
  have A2 : At 142 (World.setCell (World.setCell w ⟨p, 5, none⟩ (.int .i64 y.no)) ⟨p, 6, none⟩ (.int .i64 y.md)) L s p 134 ((⟨⟨y.no, y.md, x.q.mr, x.q.ls⟩, x.pc, x.ne, x.obj, x.cnt, x.fld, x.sh, x.V, x.ak, x.qs⟩ : TrS).cells U) := A1.set 6 (.int .i64 y.md)
  have A3 : At 142 (World.setCell (World.setCell (World.setCell w ⟨p, 5, none⟩ (.int .i64 y.no)) ⟨p, 6, none⟩ (.int .i64 y.md)) ⟨p, 7, none⟩ (.int .i64 y.mr)) L s p 134 ((⟨⟨y.no, y.md, y.mr, x.q.ls⟩, x.pc, x.ne, x.obj, x.cnt, x.fld, x.sh, x.V, x.ak, x.qs⟩ : TrS).cells U) := A2.set 7 (.int .i64 y.mr)
  have A4 : At 142 (World.setCell (World.setCell (World.setCell (World.setCell w ⟨p, 5, none⟩ (.int .i64 y.no)) ⟨p, 6, none⟩ (.int .i64 y.md)) ⟨p, 7, none⟩ (.int .i64 y.mr)) ⟨p, 8, none⟩ (.int .i64 y.ls)) L s p 134 ((⟨⟨y.no, y.md, y.mr, y.ls⟩, x.pc, x.ne, x.obj, x.cnt, x.fld, x.sh, x.V, x.ak, x.qs⟩ : TrS).cells U) := A3.set 8 (.int .i64 y.ls)
  exact A4
theorem Went.putOT (w : World) (L : Loc) (p : Nat) (y : Ph) : Went w L p (World.setCell (World.setCell (World.setCell (World.setCell w ⟨p, 5, none⟩ (.int .i64 y.no)) ⟨p, 6, none⟩ (.int .i64 y.md)) ⟨p, 7, none⟩ (.int .i64 y.mr)) ⟨p, 8, none⟩ (.int .i64 y.ls)) L := (Went.refl w L p).more.more.more.more
set_option maxHeartbeats 2000000 in
theorem cToGrey (A : At 142 w L s p 134 (x.cells U)) :
    Calls Tryd.prog 68 #[.pointer (some ⟨p, 0, none⟩)] w fun e w' => e = .returned (.int .i64 1) ∧ At 142 w' L s p 134 ((x.nexts NextS.new).cells U) ∧ Went w L p w' L := by
  obtain ⟨y, hy⟩ : ∃ y, NextS.new = y := ⟨_, rfl⟩
  have hl := lt_of_block A.blk
  rw [hy]
  go_enter Tryd.func68, Tryd.ntmps68
  go_upto_region 2 with (go_at_call 100; refine (cNewNext _).mono ?_; rintro e w1 ⟨rfl, hw1⟩; rw [hy] at hw1; have hb1 : Below w.heap.size w w1 := (by rw [hw1]; exact (Below.refl _ _).alloc (Nat.le_refl _) _); have A1 := A.below hb1; have g1 := Went.of_below hb1 L p; have hzb : w1.heap[w.heap.size]? = some (.cells y.cells 132 (0, 0)) := (by rw [hw1]; exact heap_alloc_new _ _); generalize w.heap.size = z at hzb ⊢; have z0 : w1.cell? ⟨z, 0, none⟩ = some (.int .i64 y.pc) := cell_of_row w1 _ _ _ _ _ hzb; have z1 : w1.cell? ⟨z, 1, none⟩ = some (.int .u64 y.list) := cell_of_row w1 _ _ _ _ _ hzb; have z2 : w1.cell? ⟨z, 2, none⟩ = some (.int .i64 y.h.S) := cell_of_row w1 _ _ _ _ _ hzb; have z3 : w1.cell? ⟨z, 3, none⟩ = some (.int .i64 y.h.C) := cell_of_row w1 _ _ _ _ _ hzb; have z4 : w1.cell? ⟨z, 4, none⟩ = some (.int .i64 y.h.N) := cell_of_row w1 _ _ _ _ _ hzb; have z5 : w1.cell? ⟨z, 5, none⟩ = some (.int .i64 y.h.M) := cell_of_row w1 _ _ _ _ _ hzb; have z6 : w1.cell? ⟨z, 6, none⟩ = some (.int .i64 y.h.G) := cell_of_row w1 _ _ _ _ _ hzb; have z7 : w1.cell? ⟨z, 7, none⟩ = some (.int .i64 y.h.T) := cell_of_row w1 _ _ _ _ _ hzb; have z8 : w1.cell? ⟨z, 8, none⟩ = some (.int .i64 y.h.L) := cell_of_row w1 _ _ _ _ _ hzb; have z9 : w1.cell? ⟨z, 9, none⟩ = some (.int .i64 y.cell) := cell_of_row w1 _ _ _ _ _ hzb; have z10 : w1.cell? ⟨z, 10, none⟩ = some (.int .i64 y.count) := cell_of_row w1 _ _ _ _ _ hzb; have zl := lt_of_block hzb; have d10 : w1.cell? ⟨p, 10, none⟩ = some (.int .i64 x.ne.pc) := A1.cell 10; have df10 := A1.free 10; have d11 : w1.cell? ⟨p, 11, none⟩ = some (.int .u64 x.ne.list) := A1.cell 11; have df11 := A1.free 11; have d12 : w1.cell? ⟨p, 12, none⟩ = some (.int .i64 x.ne.h.S) := A1.cell 12; have df12 := A1.free 12; have d13 : w1.cell? ⟨p, 13, none⟩ = some (.int .i64 x.ne.h.C) := A1.cell 13; have df13 := A1.free 13; have d14 : w1.cell? ⟨p, 14, none⟩ = some (.int .i64 x.ne.h.N) := A1.cell 14; have df14 := A1.free 14; have d15 : w1.cell? ⟨p, 15, none⟩ = some (.int .i64 x.ne.h.M) := A1.cell 15; have df15 := A1.free 15; have d16 : w1.cell? ⟨p, 16, none⟩ = some (.int .i64 x.ne.h.G) := A1.cell 16; have df16 := A1.free 16; have d17 : w1.cell? ⟨p, 17, none⟩ = some (.int .i64 x.ne.h.T) := A1.cell 17; have df17 := A1.free 17; have d18 : w1.cell? ⟨p, 18, none⟩ = some (.int .i64 x.ne.h.L) := A1.cell 18; have df18 := A1.free 18; have d19 : w1.cell? ⟨p, 19, none⟩ = some (.int .i64 x.ne.cell) := A1.cell 19; have df19 := A1.free 19; have d20 : w1.cell? ⟨p, 20, none⟩ = some (.int .i64 x.ne.count) := A1.cell 20; have df20 := A1.free 20; clear hzb hw1)
  have A2 := A1.putNT y
  have g2 := g1.trans (Went.putNT w1 L p y)
  clear A1 g1
  generalize (World.setCell (World.setCell (World.setCell (World.setCell (World.setCell (World.setCell (World.setCell (World.setCell (World.setCell (World.setCell (World.setCell w1 ⟨p, 10, none⟩ (.int .i64 y.pc)) ⟨p, 11, none⟩ (.int .u64 y.list)) ⟨p, 12, none⟩ (.int .i64 y.h.S)) ⟨p, 13, none⟩ (.int .i64 y.h.C)) ⟨p, 14, none⟩ (.int .i64 y.h.N)) ⟨p, 15, none⟩ (.int .i64 y.h.M)) ⟨p, 16, none⟩ (.int .i64 y.h.G)) ⟨p, 17, none⟩ (.int .i64 y.h.T)) ⟨p, 18, none⟩ (.int .i64 y.h.L)) ⟨p, 19, none⟩ (.int .i64 y.cell)) ⟨p, 20, none⟩ (.int .i64 y.count)) = w2 at A2 g2 ⊢
  go_wp2
  go_ret
  exact ⟨rfl, A2, g2⟩
set_option maxHeartbeats 1000000 in
theorem cToField (A : At 142 w L s p 134 (x.cells U)) (v : Int) :
    Calls Tryd.prog 73 #[.pointer (some ⟨p, 0, none⟩), .int .i64 v] w fun e w' => e = .returned (.int .i64 ((x.toField v).pc)) ∧ At 142 w' L s p 134 (((x.toField v).goto x.pc).cells U) ∧ Went w L p w' L := by
  have c22 : w.cell? ⟨p, 22, none⟩ = some (.int .i64 x.cnt) := A.cell 22
  have cf22 := A.free 22
  have c23 : w.cell? ⟨p, 23, none⟩ = some (.int .i64 x.fld) := A.cell 23
  have cf23 := A.free 23
  have hl := lt_of_block A.blk
  have A1 : At 142 (w.setCell ⟨p, 23, none⟩ (.int .i64 v)) L s p 134 ((⟨x.q, x.pc, x.ne, x.obj, x.cnt, v, x.sh, x.V, x.ak, x.qs⟩ : TrS).cells U) := A.set 23 (.int .i64 v)
  by_cases h : v < x.cnt
  · have hd : decide (v < x.cnt) = true := decide_eq_true h
    have e : x.toField v = (⟨x.q, 2, x.ne, x.obj, x.cnt, v, x.sh, x.V, x.ak, x.qs⟩ : TrS) := if_pos h
    rw [e]
    clear h e
    go_enter Tryd.func73, Tryd.ntmps73
    go_wp2
    go_ret
    exact ⟨rfl, A1, Went.set _ _ _ _ _⟩
  · have hd : decide (v < x.cnt) = false := decide_eq_false h
    have e : x.toField v = (⟨x.q, 1, NextS.new, x.obj, x.cnt, v, x.sh, x.V, x.ak, x.qs⟩ : TrS) := if_neg h
    rw [e]
    clear h e
    go_enter Tryd.func73, Tryd.ntmps73
    go_wp2_with (go_at_call 68; refine (cToGrey A1).mono ?_; rintro e w2 ⟨rfl, A2, g2⟩)
    go_ret
    exact ⟨rfl, A2, (Went.set w L p 23 (.int .i64 v)).trans g2⟩
set_option maxHeartbeats 1000000 in
theorem cBehindPh (a b c d : Int) (ha : 0 ≤ a ∧ a ≤ 1099511627776) (w : World) :
    Calls Tryd.prog 112 #[.agg #[.int .i64 a, .int .i64 b, .int .i64 c, .int .i64 d], .int .i64 3] w fun e w' => e = .returned (.agg #[.int .i64 ((a + 1) % 1099511627776), .int .i64 3, .int .i64 c, .int .i64 d]) ∧ Below w.heap.size w w' := by
  have e1 : bits BinOp.and IntKind.i64 (a + 1) 1099511627775 = (a + 1) % 1099511627776 := S.Plain.iand40 _
  obtain ⟨r, hr⟩ : ∃ r, (a + 1) % 1099511627776 = r := ⟨_, rfl⟩
  have hr0 : 0 ≤ r ∧ r < 1099511627776 := by omega
  rw [hr] at e1 ⊢
  clear hr
  go_enter Tryd.func112, Tryd.ntmps112
  go_wp2
  exact bodyPost_ret (v := .agg #[.int .i64 r, .int .i64 3, .int .i64 c, .int .i64 d]) (by simp [results, Tryd.results112, go_sem]) rfl ⟨rfl, by go_grown⟩
set_option maxHeartbeats 2000000 in
theorem cToAsk (A : At 142 w L s p 134 (x.cells U)) (hq : 0 ≤ x.q.no ∧ x.q.no ≤ 1099511627776) :
    Calls Tryd.prog 102 #[.pointer (some ⟨p, 0, none⟩)] w fun e w' => e = .returned (.int .i64 3) ∧ At 142 w' L s p 134 (((x.toAsk U).goto x.pc).cells U) ∧ Went w L p w' L := by
  have c5 : w.cell? ⟨p, 5, none⟩ = some (.int .i64 x.q.no) := A.cell 5
  have cf5 := A.free 5
  have c6 : w.cell? ⟨p, 6, none⟩ = some (.int .i64 x.q.md) := A.cell 6
  have cf6 := A.free 6
  have c7 : w.cell? ⟨p, 7, none⟩ = some (.int .i64 x.q.mr) := A.cell 7
  have cf7 := A.free 7
  have c8 : w.cell? ⟨p, 8, none⟩ = some (.int .i64 x.q.ls) := A.cell 8
  have cf8 := A.free 8
  have c47 : w.cell? ⟨p, 47, none⟩ = some (.int .i64 x.qs.no) := A.cell 47
  have cf47 := A.free 47
  have c48 : w.cell? ⟨p, 48, none⟩ = some (.int .i64 x.qs.md) := A.cell 48
  have cf48 := A.free 48
  have c49 : w.cell? ⟨p, 49, none⟩ = some (.int .i64 x.qs.mr) := A.cell 49
  have cf49 := A.free 49
  have c50 : w.cell? ⟨p, 50, none⟩ = some (.int .i64 x.qs.ls) := A.cell 50
  have cf50 := A.free 50
  have hl := lt_of_block A.blk
  obtain ⟨y, hy⟩ : ∃ y, behind x.q = y := ⟨_, rfl⟩
  obtain ⟨N, hN⟩ : ∃ N, U.th.toNat = N := ⟨_, rfl⟩
  have e : x.toAsk U = (⟨x.q, 3, x.ne, x.obj, x.cnt, x.fld, x.sh, U, AskS.new y N, y⟩ : TrS) := by rw [← hy, ← hN]; rfl
  rw [e]
  clear e
  go_enter Tryd.func102, Tryd.ntmps102
  go_upto_region 2 with (go_at_call 112; refine (cBehindPh _ _ _ _ hq _).mono ?_; rintro e w1 ⟨rfl, hb1⟩; have A1 := A.below hb1; have d47 : w1.cell? ⟨p, 47, none⟩ = some (.int .i64 x.qs.no) := A1.cell 47; have df47 := A1.free 47; have d48 : w1.cell? ⟨p, 48, none⟩ = some (.int .i64 x.qs.md) := A1.cell 48; have df48 := A1.free 48; have d49 : w1.cell? ⟨p, 49, none⟩ = some (.int .i64 x.qs.mr) := A1.cell 49; have df49 := A1.free 49; have d50 : w1.cell? ⟨p, 50, none⟩ = some (.int .i64 x.qs.ls) := A1.cell 50; have df50 := A1.free 50)
  rw [show (x.q.no + 1) % 1099511627776 = y.no by rw [← hy]; rfl, show (3 : Int) = y.md by rw [← hy]; rfl, show x.q.mr = y.mr by rw [← hy]; rfl, show x.q.ls = y.ls by rw [← hy]; rfl]
  clear hy
  have A2 : At 142 (World.setCell (World.setCell (World.setCell (World.setCell w1 ⟨p, 47, none⟩ (.int .i64 y.no)) ⟨p, 48, none⟩ (.int .i64 y.md)) ⟨p, 49, none⟩ (.int .i64 y.mr)) ⟨p, 50, none⟩ (.int .i64 y.ls)) L s p 134 ((⟨x.q, x.pc, x.ne, x.obj, x.cnt, x.fld, x.sh, x.V, x.ak, y⟩ : TrS).cells U) := A1.putQT y
  have g2 : Went w L p (World.setCell (World.setCell (World.setCell (World.setCell w1 ⟨p, 47, none⟩ (.int .i64 y.no)) ⟨p, 48, none⟩ (.int .i64 y.md)) ⟨p, 49, none⟩ (.int .i64 y.mr)) ⟨p, 50, none⟩ (.int .i64 y.ls)) L := (Went.of_below hb1 L p).trans (Went.putQT w1 L p y)
  generalize (World.setCell (World.setCell (World.setCell (World.setCell w1 ⟨p, 47, none⟩ (.int .i64 y.no)) ⟨p, 48, none⟩ (.int .i64 y.md)) ⟨p, 49, none⟩ (.int .i64 y.mr)) ⟨p, 50, none⟩ (.int .i64 y.ls)) = w2 at A2 g2 ⊢
  clear A A1 hb1 c5 cf5 c6 cf6 c7 cf7 c8 cf8 c47 cf47 c48 cf48 c49 cf49 c50 cf50 d47 df47 d48 df48 d49 df49 d50 df50
  obtain ⟨B, hB⟩ : ∃ B, (⟨x.q, x.pc, x.ne, x.obj, x.cnt, x.fld, x.sh, x.V, x.ak, y⟩ : TrS) = B := ⟨_, rfl⟩
  have hBq : B.qs = y := by rw [← hB]
  rw [hB] at A2
  have eB : ((⟨B.q, B.pc, B.ne, B.obj, B.cnt, B.fld, B.sh, U, AskS.new y N, B.qs⟩ : TrS).cells U) = (((⟨x.q, 3, x.ne, x.obj, x.cnt, x.fld, x.sh, U, AskS.new y N, y⟩ : TrS).goto x.pc).cells U) := by rw [← hB]; rfl
  have keep : ∀ w', At 142 w' L s p 134 (B.cells U) → w'.cell? ⟨p, 0, none⟩ = some (.int .i64 U.th) ∧ w'.cell? ⟨p, 1, none⟩ = some (.int .i64 U.bl) ∧ w'.cell? ⟨p, 2, none⟩ = some (.int .i64 U.ta) ∧ w'.cell? ⟨p, 3, none⟩ = some (.int .i64 U.he) ∧ w'.cell? ⟨p, 4, none⟩ = some (.int .i64 U.si) ∧ w'.cell? ⟨p, 47, none⟩ = some (.int .i64 y.no) ∧ w'.cell? ⟨p, 48, none⟩ = some (.int .i64 y.md) ∧ w'.cell? ⟨p, 49, none⟩ = some (.int .i64 y.mr) ∧ w'.cell? ⟨p, 50, none⟩ = some (.int .i64 y.ls) := fun w' h => ⟨h.cell 0, h.cell 1, h.cell 2, h.cell 3, h.cell 4, (h.cell 47).trans (by show some (Value.int .i64 B.qs.no) = _; rw [hBq]), (h.cell 48).trans (by show some (Value.int .i64 B.qs.md) = _; rw [hBq]), (h.cell 49).trans (by show some (Value.int .i64 B.qs.mr) = _; rw [hBq]), (h.cell 50).trans (by show some (Value.int .i64 B.qs.ls) = _; rw [hBq])⟩
  have keep4 : ∀ w', At 142 w' L s p 134 ((⟨B.q, B.pc, B.ne, B.obj, B.cnt, B.fld, B.sh, U, AskS.new y N, B.qs⟩ : TrS).cells U) → w'.cell? ⟨p, 0, none⟩ = some (.int .i64 U.th) ∧ w'.cell? ⟨p, 1, none⟩ = some (.int .i64 U.bl) ∧ w'.cell? ⟨p, 2, none⟩ = some (.int .i64 U.ta) ∧ w'.cell? ⟨p, 3, none⟩ = some (.int .i64 U.he) ∧ w'.cell? ⟨p, 4, none⟩ = some (.int .i64 U.si) ∧ w'.cell? ⟨p, 47, none⟩ = some (.int .i64 y.no) ∧ w'.cell? ⟨p, 48, none⟩ = some (.int .i64 y.md) ∧ w'.cell? ⟨p, 49, none⟩ = some (.int .i64 y.mr) ∧ w'.cell? ⟨p, 50, none⟩ = some (.int .i64 y.ls) := fun w' h => ⟨h.cell 0, h.cell 1, h.cell 2, h.cell 3, h.cell 4, (h.cell 47).trans (by show some (Value.int .i64 B.qs.no) = _; rw [hBq]), (h.cell 48).trans (by show some (Value.int .i64 B.qs.md) = _; rw [hBq]), (h.cell 49).trans (by show some (Value.int .i64 B.qs.mr) = _; rw [hBq]), (h.cell 50).trans (by show some (Value.int .i64 B.qs.ls) = _; rw [hBq])⟩
  have hl2 := lt_of_block A2.blk
  have hbd : Below w2.heap.size w2 w2.drew := (Below.refl _ _).drew
  have RD := keep _ (A2.below hbd)
  clear hB
  refine wp_region_held_drew (S := fun w' => w'.cell? ⟨p, 0, none⟩ = some (.int .i64 U.th) ∧ w'.cell? ⟨p, 1, none⟩ = some (.int .i64 U.bl) ∧ w'.cell? ⟨p, 2, none⟩ = some (.int .i64 U.ta) ∧ w'.cell? ⟨p, 3, none⟩ = some (.int .i64 U.he) ∧ w'.cell? ⟨p, 4, none⟩ = some (.int .i64 U.si) ∧ w'.cell? ⟨p, 47, none⟩ = some (.int .i64 y.no) ∧ w'.cell? ⟨p, 48, none⟩ = some (.int .i64 y.md) ∧ w'.cell? ⟨p, 49, none⟩ = some (.int .i64 y.mr) ∧ w'.cell? ⟨p, 50, none⟩ = some (.int .i64 y.ls)) (by kernel_rfl) RD (fun hHeld => ?_)
  refine takeH (i := 0) 11 (.pointer (some ⟨p, 0, none⟩)) rfl rfl (by kernel_rfl) (by kernel_rfl) (by kernel_rfl) (fun _ _ _ h => h) (by rfl) ?_ (by assumption) ?_
  · intro w hSw; (try dsimp only at hSw); go_simp
  simp only [List.setIfInBounds_toArray, List.set_cons_zero, List.set_cons_succ]
  refine takeH (i := 1) 12 (.pointer (some ⟨p, 0, none⟩)) rfl rfl (by kernel_rfl) (by kernel_rfl) (by kernel_rfl) (fun _ _ _ h => h) (by rfl) ?_ (by assumption) ?_
  · intro w hSw; (try dsimp only at hSw); go_simp
  simp only [List.setIfInBounds_toArray, List.set_cons_zero, List.set_cons_succ]
  refine takeH (i := 2) 13 (.pointer (some ⟨p, 0, none⟩)) rfl rfl (by kernel_rfl) (by kernel_rfl) (by kernel_rfl) (fun _ _ _ h => h) (by rfl) ?_ (by assumption) ?_
  · intro w hSw; (try dsimp only at hSw); go_simp
  simp only [List.setIfInBounds_toArray, List.set_cons_zero, List.set_cons_succ]
  refine takeH (i := 3) 14 (.pointer (some ⟨p, 0, none⟩)) rfl rfl (by kernel_rfl) (by kernel_rfl) (by kernel_rfl) (fun _ _ _ h => h) (by rfl) ?_ (by assumption) ?_
  · intro w hSw; (try dsimp only at hSw); go_simp
  simp only [List.setIfInBounds_toArray, List.set_cons_zero, List.set_cons_succ]
  refine takeH (i := 4) 15 (.agg #[.int .i64 U.th, .int .i64 U.bl, .int .i64 U.ta, .int .i64 U.he, .int .i64 U.si]) rfl rfl (by kernel_rfl) (by kernel_rfl) (by kernel_rfl) (fun _ _ _ h => h) (by rfl) ?_ (by assumption) ?_
  · intro w hSw; (try dsimp only at hSw); go_simp
  simp only [List.setIfInBounds_toArray, List.set_cons_zero, List.set_cons_succ]
  refine takeH (i := 5) 16 (.pointer (some ⟨p, 0, none⟩)) rfl rfl (by kernel_rfl) (by kernel_rfl) (by kernel_rfl) (fun _ _ _ h => h) (by rfl) ?_ (by assumption) ?_
  · intro w hSw; (try dsimp only at hSw); go_simp
  simp only [List.setIfInBounds_toArray, List.set_cons_zero, List.set_cons_succ]
  refine takeH (i := 6) 17 (.pointer (some ⟨p, 0, none⟩)) rfl rfl (by kernel_rfl) (by kernel_rfl) (by kernel_rfl) (fun _ _ _ h => h) (by rfl) ?_ (by assumption) ?_
  · intro w hSw; (try dsimp only at hSw); go_simp
  simp only [List.setIfInBounds_toArray, List.set_cons_zero, List.set_cons_succ]
  refine takeH (i := 7) 18 (.pointer (some ⟨p, 47, none⟩)) rfl rfl (by kernel_rfl) (by kernel_rfl) (by kernel_rfl) (fun _ _ _ h => h) (by rfl) ?_ (by assumption) ?_
  · intro w hSw; (try dsimp only at hSw); go_simp
  simp only [List.setIfInBounds_toArray, List.set_cons_zero, List.set_cons_succ]
  refine takeH (i := 8) 19 (.agg #[.int .i64 y.no, .int .i64 y.md, .int .i64 y.mr, .int .i64 y.ls]) rfl rfl (by kernel_rfl) (by kernel_rfl) (by kernel_rfl) (fun _ _ _ h => h) (by rfl) ?_ (by assumption) ?_
  · intro w hSw; (try dsimp only at hSw); go_simp
  simp only [List.setIfInBounds_toArray, List.set_cons_zero, List.set_cons_succ]
  refine wpAnyH_ready (rs := [9]) (by kernel_rfl) (by simp) ?_
  refine AllReadyH.cons rfl (fun K hK => ?_) AllReadyH.nil
  go_simp
  go_at_call 10
  refine (cNewAsk U y _).mono ?_
  rintro e w3 ⟨z, rfl, hzs, hzb, hb3⟩
  have A3 := A2.below (bel_trans hbd hb3)
  have z0 : w3.cell? ⟨z, 0, none⟩ = some (.int .i64 U.th) := cell_of_row w3 _ _ _ _ _ hzb
  have z1 : w3.cell? ⟨z, 1, none⟩ = some (.int .i64 U.bl) := cell_of_row w3 _ _ _ _ _ hzb
  have z2 : w3.cell? ⟨z, 2, none⟩ = some (.int .i64 U.ta) := cell_of_row w3 _ _ _ _ _ hzb
  have z3 : w3.cell? ⟨z, 3, none⟩ = some (.int .i64 U.he) := cell_of_row w3 _ _ _ _ _ hzb
  have z4 : w3.cell? ⟨z, 4, none⟩ = some (.int .i64 U.si) := cell_of_row w3 _ _ _ _ _ hzb
  have z5 : w3.cell? ⟨z, 5, none⟩ = some (.int .i64 y.no) := cell_of_row w3 _ _ _ _ _ hzb
  have z6 : w3.cell? ⟨z, 6, none⟩ = some (.int .i64 y.md) := cell_of_row w3 _ _ _ _ _ hzb
  have z7 : w3.cell? ⟨z, 7, none⟩ = some (.int .i64 y.mr) := cell_of_row w3 _ _ _ _ _ hzb
  have z8 : w3.cell? ⟨z, 8, none⟩ = some (.int .i64 y.ls) := cell_of_row w3 _ _ _ _ _ hzb
  have z9 : w3.cell? ⟨z, 9, none⟩ = some (.int .i64 1) := cell_of_row w3 _ _ _ _ _ hzb
  have z10 : w3.cell? ⟨z, 10, none⟩ = some (.int .i64 0) := cell_of_row w3 _ _ _ _ _ hzb
  have zl := lt_of_block hzb
  clear hzb
  refine hK.out _ _ (keep w3 A3) (fun hHeld => ?_)
  clear hK K
  try simp only [Act.put, List.setIfInBounds_toArray, List.set_cons_zero, List.set_cons_succ]
  refine takeH (i := 10) 21 (.pointer (some ⟨z, 0, none⟩)) rfl rfl (by kernel_rfl) (by kernel_rfl) (by kernel_rfl) (fun _ _ _ h => h) (by rfl) ?_ (by assumption) ?_
  · intro w hSw; (try dsimp only at hSw); go_simp
  simp only [List.setIfInBounds_toArray, List.set_cons_zero, List.set_cons_succ]
  refine wpAnyH_ready (rs := [11]) (by kernel_rfl) (by simp) ?_
  refine AllReadyH.cons rfl (fun K hK => ?_) AllReadyH.nil
  go_simp
  refine hK.out _ _ hHeld (fun hHeld => ?_)
  clear hK K
  try simp only [Act.put, List.setIfInBounds_toArray, List.set_cons_zero, List.set_cons_succ]
  refine takeH (i := 12) 23 (.pointer (some ⟨p, 0, none⟩)) rfl rfl (by kernel_rfl) (by kernel_rfl) (by kernel_rfl) (fun _ _ _ h => h) (by rfl) ?_ (by assumption) ?_
  · intro w hSw; (try dsimp only at hSw); go_simp
  simp only [List.setIfInBounds_toArray, List.set_cons_zero, List.set_cons_succ]
  refine takeH (i := 13) 24 (.pointer (some ⟨p, 36, none⟩)) rfl rfl (by kernel_rfl) (by kernel_rfl) (by kernel_rfl) (fun _ _ _ h => h) (by rfl) ?_ (by assumption) ?_
  · intro w hSw; (try dsimp only at hSw); go_simp
  simp only [List.setIfInBounds_toArray, List.set_cons_zero, List.set_cons_succ]
  have A4 := A3.putAT U (AskS.new y N)
  have g4 := Went.putAT w3 L p U (AskS.new y N)
  have d36 : w3.cell? ⟨p, 36, none⟩ = some (.int .i64 B.V.th) := A3.cell 36
  have df36 := A3.free 36
  have d37 : w3.cell? ⟨p, 37, none⟩ = some (.int .i64 B.V.bl) := A3.cell 37
  have df37 := A3.free 37
  have d38 : w3.cell? ⟨p, 38, none⟩ = some (.int .i64 B.V.ta) := A3.cell 38
  have df38 := A3.free 38
  have d39 : w3.cell? ⟨p, 39, none⟩ = some (.int .i64 B.V.he) := A3.cell 39
  have df39 := A3.free 39
  have d40 : w3.cell? ⟨p, 40, none⟩ = some (.int .i64 B.V.si) := A3.cell 40
  have df40 := A3.free 40
  have d41 : w3.cell? ⟨p, 41, none⟩ = some (.int .i64 B.ak.q.no) := A3.cell 41
  have df41 := A3.free 41
  have d42 : w3.cell? ⟨p, 42, none⟩ = some (.int .i64 B.ak.q.md) := A3.cell 42
  have df42 := A3.free 42
  have d43 : w3.cell? ⟨p, 43, none⟩ = some (.int .i64 B.ak.q.mr) := A3.cell 43
  have df43 := A3.free 43
  have d44 : w3.cell? ⟨p, 44, none⟩ = some (.int .i64 B.ak.q.ls) := A3.cell 44
  have df44 := A3.free 44
  have d45 : w3.cell? ⟨p, 45, none⟩ = some (.int .i64 B.ak.pc) := A3.cell 45
  have df45 := A3.free 45
  have d46 : w3.cell? ⟨p, 46, none⟩ = some (.int .i64 B.ak.k) := A3.cell 46
  have df46 := A3.free 46
  refine wpAnyH_ready (rs := [14]) (by kernel_rfl) (by simp) ?_
  refine AllReadyH.cons rfl (fun K hK => ?_) AllReadyH.nil
  go_simp
  refine hK.out _ _ (keep4 _ A4) (fun hHeld => ?_)
  clear hK K
  try simp only [Act.put, List.setIfInBounds_toArray, List.set_cons_zero, List.set_cons_succ]
  refine wpAnyH_done (by kernel_rfl) ?_ _
  go_wp2
  go_ret
  exact ⟨rfl, eB ▸ A4, (g2.trans (Went.of_below (bel_trans hbd hb3) _ _)).trans g4⟩
set_option maxHeartbeats 2000000 in
theorem cBehindGrey (A : At 142 w L s p 134 (x.cells U)) (hq : 0 ≤ x.q.no ∧ x.q.no ≤ 1099511627776) :
    Calls Tryd.prog 70 #[.pointer (some ⟨p, 0, none⟩)] w fun e w' => e = .returned (.int .i64 ((x.behindGrey U).pc)) ∧ At 142 w' L s p 134 (((x.behindGrey U).goto x.pc).cells U) ∧ Went w L p w' L := by
  have BI : BlI w p 134 (x.frN U) x.bhN 10 x.ne.cells := ⟨A.blk, rfl⟩
  have hl := lt_of_block A.blk
  by_cases h : x.ne.cell = 0
  · have e : x.behindGrey U = (x.takes x.ne.cell x.ne.count).toAsk U := if_pos h
    rw [e]
    have hd : (x.ne.cell == 0) = true := by simp [h]
    clear h e
    go_enter Tryd.func70, Tryd.ntmps70
    go_upto_region 2 with (go_at_call 101; refine (cResultI BI).mono ?_; rintro e w1 ⟨rfl, hb1⟩; have A1 := A.below hb1; have d21 : w1.cell? ⟨p, 21, none⟩ = some (.int .i64 x.obj) := A1.cell 21; have df21 := A1.free 21; have d22 : w1.cell? ⟨p, 22, none⟩ = some (.int .i64 x.cnt) := A1.cell 22; have df22 := A1.free 22)
    have A2 : At 142 ((w1.setCell ⟨p, 21, none⟩ (.int .i64 x.ne.cell)).setCell ⟨p, 22, none⟩ (.int .i64 x.ne.count)) L s p 134 ((x.takes x.ne.cell x.ne.count).cells U) := (A1.set 21 (.int .i64 x.ne.cell)).set 22 (.int .i64 x.ne.count)
    have g2 : Went w L p ((w1.setCell ⟨p, 21, none⟩ (.int .i64 x.ne.cell)).setCell ⟨p, 22, none⟩ (.int .i64 x.ne.count)) L := (Went.of_below hb1 L p).more.more
    clear A A1 hb1 d21 df21 d22 df22 BI
    generalize (w1.setCell ⟨p, 21, none⟩ (.int .i64 x.ne.cell)).setCell ⟨p, 22, none⟩ (.int .i64 x.ne.count) = w2 at A2 g2 ⊢
    have c21 : w2.cell? ⟨p, 21, none⟩ = some (.int .i64 x.ne.cell) := A2.cell 21
    go_wp2_with (go_at_call 102; refine (cToAsk A2 hq).mono ?_; rintro e w3 ⟨rfl, A3, g3⟩)
    go_ret
    exact ⟨rfl, A3, g2.trans g3⟩
  · have e : x.behindGrey U = (x.takes x.ne.cell x.ne.count).toField 0 := if_neg h
    rw [e]
    have hd : (x.ne.cell == 0) = false := by simp [h]
    clear h e
    go_enter Tryd.func70, Tryd.ntmps70
    go_upto_region 2 with (go_at_call 101; refine (cResultI BI).mono ?_; rintro e w1 ⟨rfl, hb1⟩; have A1 := A.below hb1; have d21 : w1.cell? ⟨p, 21, none⟩ = some (.int .i64 x.obj) := A1.cell 21; have df21 := A1.free 21; have d22 : w1.cell? ⟨p, 22, none⟩ = some (.int .i64 x.cnt) := A1.cell 22; have df22 := A1.free 22)
    have A2 : At 142 ((w1.setCell ⟨p, 21, none⟩ (.int .i64 x.ne.cell)).setCell ⟨p, 22, none⟩ (.int .i64 x.ne.count)) L s p 134 ((x.takes x.ne.cell x.ne.count).cells U) := (A1.set 21 (.int .i64 x.ne.cell)).set 22 (.int .i64 x.ne.count)
    have g2 : Went w L p ((w1.setCell ⟨p, 21, none⟩ (.int .i64 x.ne.cell)).setCell ⟨p, 22, none⟩ (.int .i64 x.ne.count)) L := (Went.of_below hb1 L p).more.more
    clear A A1 hb1 d21 df21 d22 df22 BI
    generalize (w1.setCell ⟨p, 21, none⟩ (.int .i64 x.ne.cell)).setCell ⟨p, 22, none⟩ (.int .i64 x.ne.count) = w2 at A2 g2 ⊢
    have c21 : w2.cell? ⟨p, 21, none⟩ = some (.int .i64 x.ne.cell) := A2.cell 21
    go_wp2_with (go_at_call 73; refine (cToField A2 0).mono ?_; rintro e w3 ⟨rfl, A3, g3⟩)
    go_ret
    exact ⟨rfl, A3, g2.trans g3⟩
set_option maxHeartbeats 2000000 in
theorem cBehindField (A : At 142 w L s p 134 (x.cells U)) (k n : Int) (hf : 0 ≤ x.fld ∧ x.fld ≤ 100) :
    Calls Tryd.prog 71 #[.pointer (some ⟨p, 0, none⟩), .agg #[.int .i64 k, .int .i64 n]] w fun e w' => e = .returned (.int .i64 (if k ≠ 1 ∨ n = 0 then x.toField (x.fld + 1) else (x.shades (ShadeS.new n x.q.mr)).goto 5).pc) ∧ At 142 w' L s p 134 (((if k ≠ 1 ∨ n = 0 then x.toField (x.fld + 1) else (x.shades (ShadeS.new n x.q.mr)).goto 5).goto x.pc).cells U) ∧ Went w L p w' L := by
  have hl := lt_of_block A.blk
  by_cases h : k ≠ 1 ∨ n = 0
  · rw [if_pos h]
    have hc : (k != 1) = true ∨ (k != 1) = false ∧ (n == 0) = true := by
      by_cases h1 : k = 1
      · exact .inr ⟨by simp [h1], by simpa using h.resolve_left (fun h' => h' h1)⟩
      · exact .inl (by simpa using h1)
    clear h
    have hbA : Below w.heap.size w (w.alloc (.cells #[.int .i64 k, .int .i64 n] 82)) := (Below.refl _ _).alloc (Nat.le_refl _) _
    have A1 := A.below hbA
    have c23 : (w.alloc (.cells #[.int .i64 k, .int .i64 n] 82)).cell? ⟨p, 23, none⟩ = some (.int .i64 x.fld) := A1.cell 23
    rcases hc with h1 | ⟨h1, h2⟩
    all_goals (
      go_enter Tryd.func71, Tryd.ntmps71
      go_wp2_with (go_at_call 73; refine (cToField (A.below (by go_grown)) (x.fld + 1)).mono ?_; rintro e w3 ⟨rfl, A3, g3⟩)
      go_ret
      exact ⟨rfl, A3, (Went.of_below (by go_grown) L p).trans g3⟩)
  · rw [if_neg h]
    have h1 : (k != 1) = false := by simpa using fun h' => h (.inl h')
    have h2 : (n == 0) = false := by simpa using fun h' => h (.inr h')
    clear h hf
    obtain ⟨y, hy⟩ : ∃ y, ShadeS.new n x.q.mr = y := ⟨_, rfl⟩
    rw [hy]
    go_enter Tryd.func71, Tryd.ntmps71
    go_upto_region 3 with (fail)
    have hbA : Below w.heap.size w (w.alloc (.cells #[.int .i64 k, .int .i64 n] 82)) := (Below.refl _ _).alloc (Nat.le_refl _) _
    have A2 := A.below hbA
    have hvb : (w.alloc (.cells #[.int .i64 k, .int .i64 n] 82)).heap[w.heap.size]? = some (.cells #[.int .i64 k, .int .i64 n] 82 (0, 0)) := heap_alloc_new _ _
    generalize w.alloc (.cells #[.int .i64 k, .int .i64 n] 82) = w2 at A2 hbA hvb ⊢
    generalize hvz : w.heap.size = vb at hvb ⊢
    have hbd : Below w2.heap.size w2 w2.drew := (Below.refl _ _).drew
    have V2 : w2.drew.cell? ⟨vb, 1, none⟩ = some (.int .i64 n) := cell_of_row w2.drew _ _ _ _ _ ((hbd.block vb (lt_of_block hvb)).trans hvb)
    have RD : w2.drew.cell? ⟨p, 7, none⟩ = some (.int .i64 x.q.mr) := (A2.below hbd).cell 7
    have hl2 := lt_of_block (A2.below hbd).blk
    have vl2 := lt_of_block ((hbd.block vb (lt_of_block hvb)).trans hvb)
    clear hvb
    refine wp_region_held_drew (S := fun w' => w'.cell? ⟨p, 7, none⟩ = some (.int .i64 x.q.mr)) (by kernel_rfl) RD (fun hHeld => ?_)
    refine takeH (i := 0) 20 (.pointer (some ⟨p, 0, none⟩)) rfl rfl (by kernel_rfl) (by kernel_rfl) (by kernel_rfl) (fun _ _ _ h => h) (by rfl) ?_ (by assumption) ?_
    · intro w hSw; (try dsimp only at hSw); go_simp
    simp only [List.setIfInBounds_toArray, List.set_cons_zero, List.set_cons_succ]
    refine takeH (i := 1) 21 (.pointer (some ⟨vb, 1, none⟩)) rfl rfl (by kernel_rfl) (by kernel_rfl) (by kernel_rfl) (fun _ _ _ h => h) (by rfl) ?_ (by assumption) ?_
    · intro w hSw; (try dsimp only at hSw); go_simp
    simp only [List.setIfInBounds_toArray, List.set_cons_zero, List.set_cons_succ]
    refine takeH (i := 3) 23 (.pointer (some ⟨p, 0, none⟩)) rfl rfl (by kernel_rfl) (by kernel_rfl) (by kernel_rfl) (fun _ _ _ h => h) (by rfl) ?_ (by assumption) ?_
    · intro w hSw; (try dsimp only at hSw); go_simp
    simp only [List.setIfInBounds_toArray, List.set_cons_zero, List.set_cons_succ]
    refine takeH (i := 4) 24 (.pointer (some ⟨p, 0, none⟩)) rfl rfl (by kernel_rfl) (by kernel_rfl) (by kernel_rfl) (fun _ _ _ h => h) (by rfl) ?_ (by assumption) ?_
    · intro w hSw; (try dsimp only at hSw); go_simp
    simp only [List.setIfInBounds_toArray, List.set_cons_zero, List.set_cons_succ]
    refine takeH (i := 5) 25 (.pointer (some ⟨p, 5, none⟩)) rfl rfl (by kernel_rfl) (by kernel_rfl) (by kernel_rfl) (fun _ _ _ h => h) (by rfl) ?_ (by assumption) ?_
    · intro w hSw; (try dsimp only at hSw); go_simp
    simp only [List.setIfInBounds_toArray, List.set_cons_zero, List.set_cons_succ]
    refine takeH (i := 6) 26 (.pointer (some ⟨p, 7, none⟩)) rfl rfl (by kernel_rfl) (by kernel_rfl) (by kernel_rfl) (fun _ _ _ h => h) (by rfl) ?_ (by assumption) ?_
    · intro w hSw; (try dsimp only at hSw); go_simp
    simp only [List.setIfInBounds_toArray, List.set_cons_zero, List.set_cons_succ]
    refine takeH (i := 7) 27 (.int .i64 x.q.mr) rfl rfl (by kernel_rfl) (by kernel_rfl) (by kernel_rfl) (fun _ _ _ h => h) (by rfl) ?_ (by assumption) ?_
    · intro w hSw; (try dsimp only at hSw); go_simp
    simp only [List.setIfInBounds_toArray, List.set_cons_zero, List.set_cons_succ]
    refine wpAnyH_ready (rs := [2]) (by kernel_rfl) (by simp) ?_
    refine AllReadyH.cons rfl (fun K hK => ?_) AllReadyH.nil
    go_simp
    refine hK.out _ _ hHeld (fun hHeld => ?_)
    clear hK K
    try simp only [Act.put, List.setIfInBounds_toArray, List.set_cons_zero, List.set_cons_succ]
    refine wpAnyH_ready (rs := [8]) (by kernel_rfl) (by simp) ?_
    refine AllReadyH.cons rfl (fun K hK => ?_) AllReadyH.nil
    go_simp
    go_at_call 25
    refine (cNewShade n x.q.mr _).mono ?_
    rintro e w3 ⟨rfl, M3⟩
    rw [hy] at M3
    have A3 := A2.below (bel_trans hbd M3.bel)
    generalize hzz : w2.drew.heap.size = z at M3 ⊢
    have hzb := M3.blk
    rw [hzz] at hzb
    have z0 : w3.cell? ⟨z, 0, none⟩ = some (.int .i64 y.cell) := cell_of_row w3 _ _ _ _ _ hzb
    have z1 : w3.cell? ⟨z, 1, none⟩ = some (.int .i64 y.mark) := cell_of_row w3 _ _ _ _ _ hzb
    have z2 : w3.cell? ⟨z, 2, none⟩ = some (.int .i64 y.pc) := cell_of_row w3 _ _ _ _ _ hzb
    have z3 : w3.cell? ⟨z, 3, none⟩ = some (.int .u64 y.found) := cell_of_row w3 _ _ _ _ _ hzb
    have z4 : w3.cell? ⟨z, 4, none⟩ = some (.int .i64 y.h.S) := cell_of_row w3 _ _ _ _ _ hzb
    have z5 : w3.cell? ⟨z, 5, none⟩ = some (.int .i64 y.h.C) := cell_of_row w3 _ _ _ _ _ hzb
    have z6 : w3.cell? ⟨z, 6, none⟩ = some (.int .i64 y.h.N) := cell_of_row w3 _ _ _ _ _ hzb
    have z7 : w3.cell? ⟨z, 7, none⟩ = some (.int .i64 y.h.M) := cell_of_row w3 _ _ _ _ _ hzb
    have z8 : w3.cell? ⟨z, 8, none⟩ = some (.int .i64 y.h.G) := cell_of_row w3 _ _ _ _ _ hzb
    have z9 : w3.cell? ⟨z, 9, none⟩ = some (.int .i64 y.h.T) := cell_of_row w3 _ _ _ _ _ hzb
    have z10 : w3.cell? ⟨z, 10, none⟩ = some (.int .i64 y.h.L) := cell_of_row w3 _ _ _ _ _ hzb
    have z11 : w3.cell? ⟨z, 11, none⟩ = some (.int .u64 y.list) := cell_of_row w3 _ _ _ _ _ hzb
    have zl := lt_of_block hzb
    clear hzb hzz
    refine hK.out _ _ (A3.cell 7) (fun hHeld => ?_)
    clear hK K
    try simp only [Act.put, List.setIfInBounds_toArray, List.set_cons_zero, List.set_cons_succ]
    refine takeH (i := 9) 29 (.pointer (some ⟨z, 0, none⟩)) rfl rfl (by kernel_rfl) (by kernel_rfl) (by kernel_rfl) (fun _ _ _ h => h) (by rfl) ?_ (by assumption) ?_
    · intro w hSw; (try dsimp only at hSw); go_simp
    simp only [List.setIfInBounds_toArray, List.set_cons_zero, List.set_cons_succ]
    refine wpAnyH_ready (rs := [10]) (by kernel_rfl) (by simp) ?_
    refine AllReadyH.cons rfl (fun K hK => ?_) AllReadyH.nil
    go_simp
    refine hK.out _ _ hHeld (fun hHeld => ?_)
    clear hK K
    try simp only [Act.put, List.setIfInBounds_toArray, List.set_cons_zero, List.set_cons_succ]
    refine takeH (i := 11) 31 (.pointer (some ⟨p, 0, none⟩)) rfl rfl (by kernel_rfl) (by kernel_rfl) (by kernel_rfl) (fun _ _ _ h => h) (by rfl) ?_ (by assumption) ?_
    · intro w hSw; (try dsimp only at hSw); go_simp
    simp only [List.setIfInBounds_toArray, List.set_cons_zero, List.set_cons_succ]
    refine takeH (i := 12) 32 (.pointer (some ⟨p, 24, none⟩)) rfl rfl (by kernel_rfl) (by kernel_rfl) (by kernel_rfl) (fun _ _ _ h => h) (by rfl) ?_ (by assumption) ?_
    · intro w hSw; (try dsimp only at hSw); go_simp
    simp only [List.setIfInBounds_toArray, List.set_cons_zero, List.set_cons_succ]
    have A4 := A3.putST y
    have g4 := Went.putST w3 L p y
    have d24 : w3.cell? ⟨p, 24, none⟩ = some (.int .i64 x.sh.cell) := A3.cell 24
    have df24 := A3.free 24
    have d25 : w3.cell? ⟨p, 25, none⟩ = some (.int .i64 x.sh.mark) := A3.cell 25
    have df25 := A3.free 25
    have d26 : w3.cell? ⟨p, 26, none⟩ = some (.int .i64 x.sh.pc) := A3.cell 26
    have df26 := A3.free 26
    have d27 : w3.cell? ⟨p, 27, none⟩ = some (.int .u64 x.sh.found) := A3.cell 27
    have df27 := A3.free 27
    have d28 : w3.cell? ⟨p, 28, none⟩ = some (.int .i64 x.sh.h.S) := A3.cell 28
    have df28 := A3.free 28
    have d29 : w3.cell? ⟨p, 29, none⟩ = some (.int .i64 x.sh.h.C) := A3.cell 29
    have df29 := A3.free 29
    have d30 : w3.cell? ⟨p, 30, none⟩ = some (.int .i64 x.sh.h.N) := A3.cell 30
    have df30 := A3.free 30
    have d31 : w3.cell? ⟨p, 31, none⟩ = some (.int .i64 x.sh.h.M) := A3.cell 31
    have df31 := A3.free 31
    have d32 : w3.cell? ⟨p, 32, none⟩ = some (.int .i64 x.sh.h.G) := A3.cell 32
    have df32 := A3.free 32
    have d33 : w3.cell? ⟨p, 33, none⟩ = some (.int .i64 x.sh.h.T) := A3.cell 33
    have df33 := A3.free 33
    have d34 : w3.cell? ⟨p, 34, none⟩ = some (.int .i64 x.sh.h.L) := A3.cell 34
    have df34 := A3.free 34
    have d35 : w3.cell? ⟨p, 35, none⟩ = some (.int .u64 x.sh.list) := A3.cell 35
    have df35 := A3.free 35
    refine wpAnyH_ready (rs := [13]) (by kernel_rfl) (by simp) ?_
    refine AllReadyH.cons rfl (fun K hK => ?_) AllReadyH.nil
    go_simp
    refine hK.out _ _ (A4.cell 7) (fun hHeld => ?_)
    clear hK K
    try simp only [Act.put, List.setIfInBounds_toArray, List.set_cons_zero, List.set_cons_succ]
    refine wpAnyH_done (by kernel_rfl) ?_ _
    go_wp2
    go_ret
    exact ⟨rfl, A4, ((Went.of_below hbA L p).trans (Went.of_below (bel_trans hbd M3.bel) _ _)).trans g4⟩
set_option maxHeartbeats 1000000 in
theorem cBehindAsk (A : At 142 w L s p 134 (x.cells U)) (a v : Int) :
    Calls Tryd.prog 74 #[.pointer (some ⟨p, 0, none⟩), .agg #[.int .i64 a, .int .i64 v]] w fun e w' => e = .returned (.int .i64 (if a = 0 then x.goto 0 else x.toGrey).pc) ∧ At 142 w' L s p 134 (((if a = 0 then x.goto 0 else x.toGrey).goto x.pc).cells U) ∧ Went w L p w' L := by
  have hl := lt_of_block A.blk
  by_cases h : a = 0
  · rw [if_pos h]
    have h1 : (a == 0) = true := by simp [h]
    clear h
    go_enter Tryd.func74, Tryd.ntmps74
    go_wp2
    go_ret
    exact ⟨rfl, A.below (by go_grown), Went.of_below (by go_grown) L p⟩
  · rw [if_neg h]
    have h1 : (a == 0) = false := by simp [h]
    clear h
    go_enter Tryd.func74, Tryd.ntmps74
    go_wp2_with (go_at_call 68; refine (cToGrey (A.below (by go_grown))).mono ?_; rintro e w3 ⟨rfl, A3, g3⟩)
    go_ret
    exact ⟨rfl, A3, (Went.of_below (by go_grown) L p).trans g3⟩
end
end Go.Proofs.YtoablodmodnamaaDoor
