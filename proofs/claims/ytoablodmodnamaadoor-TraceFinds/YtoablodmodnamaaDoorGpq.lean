/-
  A Shade and a Next, said plainly: what a step makes of the machine, and of the memory.
-/
import Derived.Test.YtoablodmodnamaaDoorLhq
namespace Go.Proofs.YtoablodmodnamaaDoor
set_option linter.unusedVariables false
set_option maxRecDepth 100000
open Go.ChangeShapes Go.WideShapes Go.RowKit
open S.Plain (t0 t1 tw nx)
open H.Plain (hw pS pC pN pM pG pT pL)

/-- a header's seven numbers -/
structure Hd where
  S : Int
  C : Int
  N : Int
  M : Int
  G : Int
  T : Int
  L : Int
def Hd.of (a : Int) : Hd := ⟨pS a, pC a, pN a, pM a, pG a, pT a, pL a⟩
def Hd.w (h : Hd) : Int := hw h.S h.C h.N h.M h.G h.T h.L
def Hd.zero : Hd := ⟨0, 0, 0, 0, 0, 0, 0⟩
/-- with a mark, grey, and linked to nothing -/
def Hd.shade (h : Hd) (m : Int) : Hd := ⟨h.S, h.C, h.N, m, 1, h.T, 0⟩
def Hd.link (h : Hd) (a : Int) : Hd := ⟨h.S, h.C, h.N, h.M, h.G, h.T, a⟩
/-- no more grey -/
def Hd.plain (h : Hd) : Hd := ⟨h.S, h.C, h.N, h.M, 0, h.T, 0⟩
def Hd.vals (h : Hd) : List Value := [.int .i64 h.S, .int .i64 h.C, .int .i64 h.N, .int .i64 h.M, .int .i64 h.G, .int .i64 h.T, .int .i64 h.L]
theorem Hd.u64 (h : Hd) : U64 h.w := u64_hw ..

/-- a Shade -/
structure ShadeS where
  cell : Int
  mark : Int
  pc : Nat
  found : Int
  h : Hd
  list : Int
/-- a Next -/
structure NextS where
  pc : Nat
  list : Int
  h : Hd
  cell : Int
  count : Int
def ShadeS.new (a m : Int) : ShadeS := ⟨a, m, if a = 0 then 0 else 1, 0, Hd.zero, 0⟩
def NextS.new : NextS := ⟨1, 0, Hd.zero, 0, 0⟩
/-- what a Shade leaves alone -/
def skips (v m : Int) : Prop := pS v ≠ 1 ∨ pM v = m
instance (v m : Int) : Decidable (skips v m) := inferInstanceAs (Decidable (_ ∨ _))
def ShadeS.next (x : ShadeS) (s : St) : ShadeS :=
  match x.pc with
  | 1 => if skips (s.got x.cell) x.mark then ⟨x.cell, x.mark, 0, s.got x.cell, Hd.of (s.got x.cell), x.list⟩ else ⟨x.cell, x.mark, 2, s.got x.cell, (Hd.of (s.got x.cell)).shade x.mark, x.list⟩
  | 2 => ⟨x.cell, x.mark, if s.ok1 x.cell x.found then 3 else 1, x.found, x.h, x.list⟩
  | 3 => ⟨x.cell, x.mark, 4, x.found, x.h, s.got 1⟩
  | 4 => ⟨x.cell, x.mark, 5, x.found, x.h.link (t0 x.list), x.list⟩
  | 5 => ⟨x.cell, x.mark, if s.ok1 1 x.list then 0 else 3, x.found, x.h, x.list⟩
  | _ => x
def ShadeS.mem (x : ShadeS) (s : St) : St :=
  match x.pc with
  | 1 => s.load x.cell
  | 2 => s.cas x.cell x.found x.h.w
  | 3 => s.load 1
  | 4 => s.store x.cell (x.h.link (t0 x.list)).w
  | 5 => s.cas 1 x.list (nx x.list x.cell)
  | _ => s
def NextS.next (x : NextS) (s : St) : NextS :=
  match x.pc with
  | 1 => ⟨if t0 (s.got 1) = 0 then 0 else 2, s.got 1, x.h, x.cell, x.count⟩
  | 2 => ⟨3, x.list, Hd.of (s.got (t0 x.list)), x.cell, x.count⟩
  | 3 => ⟨if s.ok1 1 x.list then 4 else 1, x.list, x.h, x.cell, x.count⟩
  | 4 => ⟨0, x.list, x.h.plain, t0 x.list, x.h.N⟩
  | _ => x
def NextS.mem (x : NextS) (s : St) : St :=
  match x.pc with
  | 1 => s.load 1
  | 2 => s.load (t0 x.list)
  | 3 => s.cas 1 x.list (nx x.list x.h.L)
  | 4 => s.store (t0 x.list) x.h.plain.w
  | _ => s
structure ShadeS.Ok (x : ShadeS) : Prop where
  found : U64 x.found
  list : U64 x.list
  pc : x.pc ≤ 5
structure NextS.Ok (x : NextS) : Prop where
  list : U64 x.list
  pc : x.pc ≤ 4
theorem ShadeS.ok_new (a m : Int) : (ShadeS.new a m).Ok := ⟨U64.zero, U64.zero, by simp only [ShadeS.new]; split <;> omega⟩
theorem NextS.ok_new : NextS.new.Ok := ⟨U64.zero, by simp [NextS.new]⟩
theorem pc_cases5 {n : Nat} (h : n ≤ 5) : n = 0 ∨ n = 1 ∨ n = 2 ∨ n = 3 ∨ n = 4 ∨ n = 5 := by omega
theorem pc_cases4 {n : Nat} (h : n ≤ 4) : n = 0 ∨ n = 1 ∨ n = 2 ∨ n = 3 ∨ n = 4 := by omega
theorem ShadeS.Ok.next {x : ShadeS} {s : St} (h : x.Ok) (r : s.Rng) : (x.next s).Ok := by
  obtain ⟨c, m, pc, z, hd, l⟩ := x
  rcases pc_cases5 h.pc with rfl | rfl | rfl | rfl | rfl | rfl
  · exact h
  · simp only [ShadeS.next]; split
    · exact ⟨r.got _, h.list, by simp⟩
    · exact ⟨r.got _, h.list, by simp⟩
  · exact ⟨h.found, h.list, by simp only [ShadeS.next]; split <;> omega⟩
  · exact ⟨h.found, r.got _, by simp [ShadeS.next]⟩
  · exact ⟨h.found, h.list, by simp [ShadeS.next]⟩
  · exact ⟨h.found, h.list, by simp only [ShadeS.next]; split <;> omega⟩
theorem NextS.Ok.next {x : NextS} {s : St} (h : x.Ok) (r : s.Rng) : (x.next s).Ok := by
  obtain ⟨pc, l, hd, c, k⟩ := x
  rcases pc_cases4 h.pc with rfl | rfl | rfl | rfl | rfl
  · exact h
  · exact ⟨r.got _, by simp only [NextS.next]; split <;> omega⟩
  · exact ⟨h.list, by simp [NextS.next]⟩
  · exact ⟨h.list, by simp only [NextS.next]; split <;> omega⟩
  · exact ⟨h.list, by simp [NextS.next]⟩
theorem ShadeS.rng {x : ShadeS} {s : St} (h : x.Ok) (r : s.Rng) : (x.mem s).Rng := by
  obtain ⟨c, m, pc, z, hd, l⟩ := x
  rcases pc_cases5 h.pc with rfl | rfl | rfl | rfl | rfl | rfl
  · exact r
  · exact r
  · exact r.cas _ _ (Hd.u64 _)
  · exact r
  · exact r.store _ (Hd.u64 _)
  · exact r.cas _ _ (u64_nx _ _)
theorem NextS.rng {x : NextS} {s : St} (h : x.Ok) (r : s.Rng) : (x.mem s).Rng := by
  obtain ⟨pc, l, hd, c, k⟩ := x
  rcases pc_cases4 h.pc with rfl | rfl | rfl | rfl | rfl
  · exact r
  · exact r
  · exact r
  · exact r.cas _ _ (u64_nx _ _)
  · exact r.store _ (Hd.u64 _)
theorem ShadeS.fit {x : ShadeS} {s : St} (h : x.Ok) (f : s.Fit) (hc : s.c < 1000000) : (x.mem s).Fit := by
  obtain ⟨c, m, pc, z, hd, l⟩ := x
  rcases pc_cases5 h.pc with rfl | rfl | rfl | rfl | rfl | rfl
  · exact f
  · exact f.load hc _
  · exact f.cas hc _ _ _
  · exact f.load hc _
  · exact f.store hc _ _
  · exact f.cas hc _ _ _
theorem NextS.fit {x : NextS} {s : St} (h : x.Ok) (f : s.Fit) (hc : s.c < 1000000) : (x.mem s).Fit := by
  obtain ⟨pc, l, hd, c, k⟩ := x
  rcases pc_cases4 h.pc with rfl | rfl | rfl | rfl | rfl
  · exact f
  · exact f.load hc _
  · exact f.load hc _
  · exact f.cas hc _ _ _
  · exact f.store hc _ _
theorem ShadeS.count {x : ShadeS} {s : St} (h : x.Ok) : (x.mem s).c ≤ s.c + 1 := by
  obtain ⟨c, m, pc, z, hd, l⟩ := x
  rcases pc_cases5 h.pc with rfl | rfl | rfl | rfl | rfl | rfl
  · simp only [ShadeS.mem]; omega
  · simp only [ShadeS.mem, St.c_load]; omega
  · simp only [ShadeS.mem, St.c_cas]; omega
  · simp only [ShadeS.mem, St.c_load]; omega
  · simp only [ShadeS.mem, St.c_store]; omega
  · simp only [ShadeS.mem, St.c_cas]; omega
theorem NextS.cnt {x : NextS} {s : St} (h : x.Ok) : (x.mem s).c ≤ s.c + 1 := by
  obtain ⟨pc, l, hd, c, k⟩ := x
  rcases pc_cases4 h.pc with rfl | rfl | rfl | rfl | rfl
  · simp only [NextS.mem]; omega
  · simp only [NextS.mem, St.c_load]; omega
  · simp only [NextS.mem, St.c_load]; omega
  · simp only [NextS.mem, St.c_cas]; omega
  · simp only [NextS.mem, St.c_store]; omega

/-- as cells: the program's -/
def ShadeS.cells (x : ShadeS) : Array Value := #[.int .i64 x.cell, .int .i64 x.mark, .int .i64 x.pc, .int .u64 x.found, .int .i64 x.h.S, .int .i64 x.h.C, .int .i64 x.h.N, .int .i64 x.h.M, .int .i64 x.h.G, .int .i64 x.h.T, .int .i64 x.h.L, .int .u64 x.list]
def NextS.cells (x : NextS) : Array Value := #[.int .i64 x.pc, .int .u64 x.list, .int .i64 x.h.S, .int .i64 x.h.C, .int .i64 x.h.N, .int .i64 x.h.M, .int .i64 x.h.G, .int .i64 x.h.T, .int .i64 x.h.L, .int .i64 x.cell, .int .i64 x.count]
/-- the reference's Shade keeps one word alone, and its header is changed a step later -/
def ShadeS.rcells (x : ShadeS) (h : Hd) (z : Int) : Array Value := #[.int .i64 x.cell, .int .i64 x.mark, .int .i64 x.pc, .int .i64 h.S, .int .i64 h.C, .int .i64 h.N, .int .i64 h.M, .int .i64 h.G, .int .i64 h.T, .int .i64 h.L, .int .u64 z]
structure ShadeS.Rf (x : ShadeS) (h : Hd) (z : Int) : Prop where
  u : U64 z
  two : x.pc = 2 → z = x.found ∧ x.h = h.shade x.mark
  three : 3 ≤ x.pc → h = x.h
  four : 4 ≤ x.pc → z = x.list

/-! ### a header written into a machine's block -/
section
variable {TM T : TypeId} {w : World} {L : Loc} {s : St} {p : Nat}
theorem At.putS {a0 a1 a2 a3 a4 a5 a6 a7 a8 a9 a10 a11 : Value} (A : At TM w L s p T #[a0, a1, a2, a3, a4, a5, a6, a7, a8, a9, a10, a11]) (v0 v1 v2 v3 v4 v5 v6 : Value) :
    At TM (((((((w.setCell ⟨p, 4, none⟩ v0).setCell ⟨p, 5, none⟩ v1).setCell ⟨p, 6, none⟩ v2).setCell ⟨p, 7, none⟩ v3).setCell ⟨p, 8, none⟩ v4).setCell ⟨p, 9, none⟩ v5).setCell ⟨p, 10, none⟩ v6) L s p T #[a0, a1, a2, a3, v0, v1, v2, v3, v4, v5, v6, a11] := by
  have A1 : At TM (w.setCell ⟨p, 4, none⟩ v0) L s p T #[a0, a1, a2, a3, v0, a5, a6, a7, a8, a9, a10, a11] := A.set 4 v0
  have A2 : At TM ((w.setCell ⟨p, 4, none⟩ v0).setCell ⟨p, 5, none⟩ v1) L s p T #[a0, a1, a2, a3, v0, v1, a6, a7, a8, a9, a10, a11] := A1.set 5 v1
  have A3 : At TM (((w.setCell ⟨p, 4, none⟩ v0).setCell ⟨p, 5, none⟩ v1).setCell ⟨p, 6, none⟩ v2) L s p T #[a0, a1, a2, a3, v0, v1, v2, a7, a8, a9, a10, a11] := A2.set 6 v2
  have A4 : At TM ((((w.setCell ⟨p, 4, none⟩ v0).setCell ⟨p, 5, none⟩ v1).setCell ⟨p, 6, none⟩ v2).setCell ⟨p, 7, none⟩ v3) L s p T #[a0, a1, a2, a3, v0, v1, v2, v3, a8, a9, a10, a11] := A3.set 7 v3
  have A5 : At TM (((((w.setCell ⟨p, 4, none⟩ v0).setCell ⟨p, 5, none⟩ v1).setCell ⟨p, 6, none⟩ v2).setCell ⟨p, 7, none⟩ v3).setCell ⟨p, 8, none⟩ v4) L s p T #[a0, a1, a2, a3, v0, v1, v2, v3, v4, a9, a10, a11] := A4.set 8 v4
  have A6 : At TM ((((((w.setCell ⟨p, 4, none⟩ v0).setCell ⟨p, 5, none⟩ v1).setCell ⟨p, 6, none⟩ v2).setCell ⟨p, 7, none⟩ v3).setCell ⟨p, 8, none⟩ v4).setCell ⟨p, 9, none⟩ v5) L s p T #[a0, a1, a2, a3, v0, v1, v2, v3, v4, v5, a10, a11] := A5.set 9 v5
  have A7 : At TM (((((((w.setCell ⟨p, 4, none⟩ v0).setCell ⟨p, 5, none⟩ v1).setCell ⟨p, 6, none⟩ v2).setCell ⟨p, 7, none⟩ v3).setCell ⟨p, 8, none⟩ v4).setCell ⟨p, 9, none⟩ v5).setCell ⟨p, 10, none⟩ v6) L s p T #[a0, a1, a2, a3, v0, v1, v2, v3, v4, v5, v6, a11] := A6.set 10 v6
  exact A7
theorem At.putN {a0 a1 a2 a3 a4 a5 a6 a7 a8 a9 a10 : Value} (A : At TM w L s p T #[a0, a1, a2, a3, a4, a5, a6, a7, a8, a9, a10]) (v0 v1 v2 v3 v4 v5 v6 : Value) :
    At TM (((((((w.setCell ⟨p, 2, none⟩ v0).setCell ⟨p, 3, none⟩ v1).setCell ⟨p, 4, none⟩ v2).setCell ⟨p, 5, none⟩ v3).setCell ⟨p, 6, none⟩ v4).setCell ⟨p, 7, none⟩ v5).setCell ⟨p, 8, none⟩ v6) L s p T #[a0, a1, v0, v1, v2, v3, v4, v5, v6, a9, a10] := by
  have A1 : At TM (w.setCell ⟨p, 2, none⟩ v0) L s p T #[a0, a1, v0, a3, a4, a5, a6, a7, a8, a9, a10] := A.set 2 v0
  have A2 : At TM ((w.setCell ⟨p, 2, none⟩ v0).setCell ⟨p, 3, none⟩ v1) L s p T #[a0, a1, v0, v1, a4, a5, a6, a7, a8, a9, a10] := A1.set 3 v1
  have A3 : At TM (((w.setCell ⟨p, 2, none⟩ v0).setCell ⟨p, 3, none⟩ v1).setCell ⟨p, 4, none⟩ v2) L s p T #[a0, a1, v0, v1, v2, a5, a6, a7, a8, a9, a10] := A2.set 4 v2
  have A4 : At TM ((((w.setCell ⟨p, 2, none⟩ v0).setCell ⟨p, 3, none⟩ v1).setCell ⟨p, 4, none⟩ v2).setCell ⟨p, 5, none⟩ v3) L s p T #[a0, a1, v0, v1, v2, v3, a6, a7, a8, a9, a10] := A3.set 5 v3
  have A5 : At TM (((((w.setCell ⟨p, 2, none⟩ v0).setCell ⟨p, 3, none⟩ v1).setCell ⟨p, 4, none⟩ v2).setCell ⟨p, 5, none⟩ v3).setCell ⟨p, 6, none⟩ v4) L s p T #[a0, a1, v0, v1, v2, v3, v4, a7, a8, a9, a10] := A4.set 6 v4
  have A6 : At TM ((((((w.setCell ⟨p, 2, none⟩ v0).setCell ⟨p, 3, none⟩ v1).setCell ⟨p, 4, none⟩ v2).setCell ⟨p, 5, none⟩ v3).setCell ⟨p, 6, none⟩ v4).setCell ⟨p, 7, none⟩ v5) L s p T #[a0, a1, v0, v1, v2, v3, v4, v5, a8, a9, a10] := A5.set 7 v5
  have A7 : At TM (((((((w.setCell ⟨p, 2, none⟩ v0).setCell ⟨p, 3, none⟩ v1).setCell ⟨p, 4, none⟩ v2).setCell ⟨p, 5, none⟩ v3).setCell ⟨p, 6, none⟩ v4).setCell ⟨p, 7, none⟩ v5).setCell ⟨p, 8, none⟩ v6) L s p T #[a0, a1, v0, v1, v2, v3, v4, v5, v6, a9, a10] := A6.set 8 v6
  exact A7
theorem At.putR {a0 a1 a2 a3 a4 a5 a6 a7 a8 a9 a10 : Value} (A : At TM w L s p T #[a0, a1, a2, a3, a4, a5, a6, a7, a8, a9, a10]) (v0 v1 v2 v3 v4 v5 v6 : Value) :
    At TM (((((((w.setCell ⟨p, 3, none⟩ v0).setCell ⟨p, 4, none⟩ v1).setCell ⟨p, 5, none⟩ v2).setCell ⟨p, 6, none⟩ v3).setCell ⟨p, 7, none⟩ v4).setCell ⟨p, 8, none⟩ v5).setCell ⟨p, 9, none⟩ v6) L s p T #[a0, a1, a2, v0, v1, v2, v3, v4, v5, v6, a10] := by
  have A1 : At TM (w.setCell ⟨p, 3, none⟩ v0) L s p T #[a0, a1, a2, v0, a4, a5, a6, a7, a8, a9, a10] := A.set 3 v0
  have A2 : At TM ((w.setCell ⟨p, 3, none⟩ v0).setCell ⟨p, 4, none⟩ v1) L s p T #[a0, a1, a2, v0, v1, a5, a6, a7, a8, a9, a10] := A1.set 4 v1
  have A3 : At TM (((w.setCell ⟨p, 3, none⟩ v0).setCell ⟨p, 4, none⟩ v1).setCell ⟨p, 5, none⟩ v2) L s p T #[a0, a1, a2, v0, v1, v2, a6, a7, a8, a9, a10] := A2.set 5 v2
  have A4 : At TM ((((w.setCell ⟨p, 3, none⟩ v0).setCell ⟨p, 4, none⟩ v1).setCell ⟨p, 5, none⟩ v2).setCell ⟨p, 6, none⟩ v3) L s p T #[a0, a1, a2, v0, v1, v2, v3, a7, a8, a9, a10] := A3.set 6 v3
  have A5 : At TM (((((w.setCell ⟨p, 3, none⟩ v0).setCell ⟨p, 4, none⟩ v1).setCell ⟨p, 5, none⟩ v2).setCell ⟨p, 6, none⟩ v3).setCell ⟨p, 7, none⟩ v4) L s p T #[a0, a1, a2, v0, v1, v2, v3, v4, a8, a9, a10] := A4.set 7 v4
  have A6 : At TM ((((((w.setCell ⟨p, 3, none⟩ v0).setCell ⟨p, 4, none⟩ v1).setCell ⟨p, 5, none⟩ v2).setCell ⟨p, 6, none⟩ v3).setCell ⟨p, 7, none⟩ v4).setCell ⟨p, 8, none⟩ v5) L s p T #[a0, a1, a2, v0, v1, v2, v3, v4, v5, a9, a10] := A5.set 8 v5
  have A7 : At TM (((((((w.setCell ⟨p, 3, none⟩ v0).setCell ⟨p, 4, none⟩ v1).setCell ⟨p, 5, none⟩ v2).setCell ⟨p, 6, none⟩ v3).setCell ⟨p, 7, none⟩ v4).setCell ⟨p, 8, none⟩ v5).setCell ⟨p, 9, none⟩ v6) L s p T #[a0, a1, a2, v0, v1, v2, v3, v4, v5, v6, a10] := A6.set 9 v6
  exact A7
theorem Went.head4 (w : World) (L : Loc) (p : Nat) (v0 v1 v2 v3 v4 v5 v6 : Value) : Went w L p (((((((w.setCell ⟨p, 4, none⟩ v0).setCell ⟨p, 5, none⟩ v1).setCell ⟨p, 6, none⟩ v2).setCell ⟨p, 7, none⟩ v3).setCell ⟨p, 8, none⟩ v4).setCell ⟨p, 9, none⟩ v5).setCell ⟨p, 10, none⟩ v6) L := ((((((((Went.refl w L p).trans (Went.set _ _ _ _ _)).trans (Went.set _ _ _ _ _)).trans (Went.set _ _ _ _ _)).trans (Went.set _ _ _ _ _)).trans (Went.set _ _ _ _ _)).trans (Went.set _ _ _ _ _)).trans (Went.set _ _ _ _ _))
theorem Went.head2 (w : World) (L : Loc) (p : Nat) (v0 v1 v2 v3 v4 v5 v6 : Value) : Went w L p (((((((w.setCell ⟨p, 2, none⟩ v0).setCell ⟨p, 3, none⟩ v1).setCell ⟨p, 4, none⟩ v2).setCell ⟨p, 5, none⟩ v3).setCell ⟨p, 6, none⟩ v4).setCell ⟨p, 7, none⟩ v5).setCell ⟨p, 8, none⟩ v6) L := ((((((((Went.refl w L p).trans (Went.set _ _ _ _ _)).trans (Went.set _ _ _ _ _)).trans (Went.set _ _ _ _ _)).trans (Went.set _ _ _ _ _)).trans (Went.set _ _ _ _ _)).trans (Went.set _ _ _ _ _)).trans (Went.set _ _ _ _ _))
theorem Went.head3 (w : World) (L : Loc) (p : Nat) (v0 v1 v2 v3 v4 v5 v6 : Value) : Went w L p (((((((w.setCell ⟨p, 3, none⟩ v0).setCell ⟨p, 4, none⟩ v1).setCell ⟨p, 5, none⟩ v2).setCell ⟨p, 6, none⟩ v3).setCell ⟨p, 7, none⟩ v4).setCell ⟨p, 8, none⟩ v5).setCell ⟨p, 9, none⟩ v6) L := ((((((((Went.refl w L p).trans (Went.set _ _ _ _ _)).trans (Went.set _ _ _ _ _)).trans (Went.set _ _ _ _ _)).trans (Went.set _ _ _ _ _)).trans (Went.set _ _ _ _ _)).trans (Went.set _ _ _ _ _)).trans (Went.set _ _ _ _ _))
theorem At.putM {a0 a1 a2 a3 a4 a5 a6 a7 a8 a9 a10 a11 : Value} (A : At TM w L s p T #[a0, a1, a2, a3, a4, a5, a6, a7, a8, a9, a10, a11]) (v0 v1 v2 v3 : Value) :
    At TM ((((w.setCell ⟨p, 7, none⟩ v0).setCell ⟨p, 8, none⟩ v1).setCell ⟨p, 10, none⟩ v2).setCell ⟨p, 2, none⟩ v3) L s p T #[a0, a1, v3, a3, a4, a5, a6, v0, v1, a9, v2, a11] := by
  have A1 : At TM (w.setCell ⟨p, 7, none⟩ v0) L s p T #[a0, a1, a2, a3, a4, a5, a6, v0, a8, a9, a10, a11] := A.set 7 v0
  have A2 : At TM ((w.setCell ⟨p, 7, none⟩ v0).setCell ⟨p, 8, none⟩ v1) L s p T #[a0, a1, a2, a3, a4, a5, a6, v0, v1, a9, a10, a11] := A1.set 8 v1
  have A3 : At TM (((w.setCell ⟨p, 7, none⟩ v0).setCell ⟨p, 8, none⟩ v1).setCell ⟨p, 10, none⟩ v2) L s p T #[a0, a1, a2, a3, a4, a5, a6, v0, v1, a9, v2, a11] := A2.set 10 v2
  have A4 : At TM ((((w.setCell ⟨p, 7, none⟩ v0).setCell ⟨p, 8, none⟩ v1).setCell ⟨p, 10, none⟩ v2).setCell ⟨p, 2, none⟩ v3) L s p T #[a0, a1, v3, a3, a4, a5, a6, v0, v1, a9, v2, a11] := A3.set 2 v3
  exact A4
end
end Go.Proofs.YtoablodmodnamaaDoor
