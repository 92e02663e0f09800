/-
  A Take and a Give beside a memory: what they are, said plainly.
-/
import Derived.Test.YtbojljkdpebheaaDoorLh
namespace Go.Proofs.YtbojljkdpebheaaDoor
set_option linter.unusedVariables false
set_option maxRecDepth 100000
open Go.ChangeShapes Go.WideShapes Go.RowKit
open S.Plain (t0 t1 tw nx bw b3)
open H.Plain (hw pL)

/-- a plan's numbers -/
structure Pl where
  t : Int
  b : Int
  tb : Int
  hp : Int
  sz : Int
structure Pl.Ok (q : Pl) : Prop where
  tb0 : 0 ≤ q.tb
  tb1 : q.tb ≤ 1000
  hp0 : 0 ≤ q.hp
  hp1 : q.hp ≤ 1000
/-- where a cell stands -/
def Pl.cell (q : Pl) (i c k : Int) : Int := q.hp + 32 * i + k * P.Plain.wd c
def Pl.val (q : Pl) : Value := .agg #[.int .i64 q.t, .int .i64 q.b, .int .i64 q.tb, .int .i64 q.hp, .int .i64 q.sz]
def Pl.cells (q : Pl) : Array Value := #[.int .i64 q.t, .int .i64 q.b, .int .i64 q.tb, .int .i64 q.hp, .int .i64 q.sz]
/-- a Take: the head that it saw, its next step (0: done), the table's word that it read, the cell that was linked last, its Push; us: its block is used -/
structure TakeS where
  pl : Pl
  seen : Int
  pc : Nat
  cls : Int
  set : Int
  raw : Int
  k : Int
  push : PushS
  us : Bool
structure GiveS where
  pl : Pl
  seen : Int
  pc : Nat
  blk : Int
def TakeS.new (q : Pl) (c e : Int) : TakeS := ⟨q, 0, 1, c, e, 0, 0, ⟨0, 0, 0, 0, 0, 0⟩, false⟩
def GiveS.new (q : Pl) (b : Int) : GiveS := ⟨q, 0, 1, b⟩
def TakeS.ent (x : TakeS) : Int := x.pl.tb + (t0 x.seen - 1)
def TakeS.ad (x : TakeS) (k : Int) : Int := x.pl.cell (t0 x.seen - 1) x.cls k
def TakeS.next (x : TakeS) (s : St) : TakeS :=
  match x.pc with
  | 1 => { x with seen := s.got 2, pc := if t0 (s.got 2) = 0 then 0 else 2 }
  | 2 => { x with raw := s.got x.ent, pc := 3 }
  | 3 => { x with pc := if s.ok1 2 x.seen then 4 else 1 }
  | 4 => { x with k := 0, us := true, pc := 5 }
  | 5 => if x.k + 2 < P.Plain.cs x.cls then { x with k := x.k + 1, pc := 5 } else { x with k := x.k + 1, push := PushS.new (3 + 3 * x.set + x.cls) (x.ad 1) (x.ad (x.k + 1)) x.cls, pc := 6 }
  | 6 => { x with push := x.push.next s, pc := if (x.push.next s).pc = 0 then 0 else 6 }
  | _ => x
def TakeS.mem (x : TakeS) (s : St) : St :=
  match x.pc with
  | 1 => s.load 2
  | 2 => s.load x.ent
  | 3 => s.cas 2 x.seen (nx x.seen (b3 x.raw))
  | 4 => s.store x.ent (bw 1 x.cls x.set 0)
  | 5 => s.store (x.ad (x.k + 1)) (hw 0 x.cls 0 0 0 0 (if x.k + 2 < P.Plain.cs x.cls then x.ad (x.k + 2) else 0))
  | 6 => x.push.mem s
  | _ => s
def GiveS.next (x : GiveS) (s : St) : GiveS :=
  match x.pc with
  | 1 => { x with seen := s.got 2, pc := 2 }
  | 2 => { x with pc := 3 }
  | 3 => { x with pc := if s.ok1 2 x.seen then 0 else 1 }
  | _ => x
def GiveS.mem (x : GiveS) (s : St) : St :=
  match x.pc with
  | 1 => s.load 2
  | 2 => s.store (x.pl.tb + x.blk) (bw 0 0 0 (t0 x.seen))
  | 3 => s.cas 2 x.seen (nx x.seen (x.blk + 1))
  | _ => s
/-- what a Take tells -/
def TakeS.cell (x : TakeS) : Int := if x.pc = 0 ∧ t0 x.seen ≠ 0 then x.ad 0 else 0
def TakeS.at_ (x : TakeS) (n : Nat) : TakeS := { x with pc := n }
def GiveS.at_ (x : GiveS) (n : Nat) : GiveS := { x with pc := n }
structure TakeS.Ok (x : TakeS) : Prop where
  pl : x.pl.Ok
  seen : U64 x.seen
  raw : U64 x.raw
  pc : x.pc ≤ 6
  c0 : 0 ≤ x.cls
  c2 : x.cls ≤ 2
  e0 : 0 ≤ x.set
  e1 : x.set ≤ 1
  k0 : 0 ≤ x.k
  k8 : x.k ≤ 8
  k5 : x.pc = 5 → x.k + 1 < P.Plain.cs x.cls
  push : x.push.Ok
structure GiveS.Ok (x : GiveS) : Prop where
  pl : x.pl.Ok
  seen : U64 x.seen
  pc : x.pc ≤ 3
  b0 : -1 ≤ x.blk
  b1 : x.blk ≤ 100
theorem pc6_cases {n : Nat} (h : n ≤ 6) : n = 0 ∨ n = 1 ∨ n = 2 ∨ n = 3 ∨ n = 4 ∨ n = 5 ∨ n = 6 := by omega
theorem cs_bounds {c : Int} (h : 0 ≤ c) (h' : c ≤ 2) : 2 ≤ P.Plain.cs c ∧ P.Plain.cs c ≤ 8 := by
  have : c = 0 ∨ c = 1 ∨ c = 2 := by omega
  rcases this with rfl | rfl | rfl <;> decide
theorem u64_bw (a b c d : Int) : U64 (bw a b c d) := ⟨S.Plain.bw_pos _ _ _ _, S.Plain.bw_le _ _ _ _⟩
theorem t0_bounds (a : Int) : 0 ≤ t0 a ∧ t0 a ≤ 4095 := by unfold S.Plain.t0; omega
theorem b3_bounds (a : Int) : 0 ≤ b3 a ∧ b3 a ≤ 127 := by unfold S.Plain.b3; omega
theorem TakeS.ok_new {q : Pl} {c e : Int} (h : q.Ok) (c0 : 0 ≤ c) (c2 : c ≤ 2) (e0 : 0 ≤ e) (e1 : e ≤ 1) : (TakeS.new q c e).Ok :=
  ⟨h, U64.zero, U64.zero, by simp [TakeS.new], c0, c2, e0, e1, by simp [TakeS.new], by simp [TakeS.new], by simp [TakeS.new], ⟨U64.zero, by simp [TakeS.new]⟩⟩
theorem GiveS.ok_new {q : Pl} {b : Int} (h : q.Ok) (b0 : -1 ≤ b) (b1 : b ≤ 100) : (GiveS.new q b).Ok := ⟨h, U64.zero, by simp [GiveS.new], b0, b1⟩
theorem TakeS.Ok.next {x : TakeS} {s : St} (h : x.Ok) (r : s.Rng) : (x.next s).Ok := by
  obtain ⟨q, z, pc, c, e, v, k, u, us⟩ := x
  obtain ⟨h1, h2, h3, h4, h5, h6, h7, h8, h9, h10, h11, h12⟩ := h
  simp only at h1 h2 h3 h4 h5 h6 h7 h8 h9 h10 h11 h12
  have cb := cs_bounds h5 h6
  rcases pc6_cases h4 with rfl | rfl | rfl | rfl | rfl | rfl | rfl
  · exact ⟨h1, h2, h3, h4, h5, h6, h7, h8, h9, h10, h11, h12⟩
  · exact ⟨h1, r.got _, h3, by simp only [TakeS.next]; split <;> omega, h5, h6, h7, h8, h9, h10, fun e => by simp only [TakeS.next] at e; split at e <;> omega, h12⟩
  · exact ⟨h1, h2, r.got _, by simp only [TakeS.next]; omega, h5, h6, h7, h8, h9, h10, fun e => by simp only [TakeS.next] at e; omega, h12⟩
  · exact ⟨h1, h2, h3, by simp only [TakeS.next]; split <;> omega, h5, h6, h7, h8, h9, h10, fun e => by simp only [TakeS.next] at e; split at e <;> omega, h12⟩
  · exact ⟨h1, h2, h3, by simp only [TakeS.next]; omega, h5, h6, h7, h8, by simp [TakeS.next], by simp [TakeS.next], fun _ => by simp only [TakeS.next]; omega, h12⟩
  · have h13 := h11 rfl
    simp only [TakeS.next]
    split
    case isTrue hk => exact ⟨h1, h2, h3, by simp only; omega, h5, h6, h7, h8, by simp only; omega, by simp only; omega, fun _ => by simp only; omega, h12⟩
    case isFalse hk => exact ⟨h1, h2, h3, by simp only; omega, h5, h6, h7, h8, by simp only; omega, by simp only; omega, fun e => by simp only at e; omega, PushS.ok_new _ _ _ _⟩
  · exact ⟨h1, h2, h3, by simp only [TakeS.next]; split <;> omega, h5, h6, h7, h8, h9, h10, fun e => by simp only [TakeS.next] at e; split at e <;> omega, h12.next r⟩
theorem GiveS.Ok.next {x : GiveS} {s : St} (h : x.Ok) (r : s.Rng) : (x.next s).Ok := by
  obtain ⟨q, z, pc, b⟩ := x
  rcases pc_cases h.pc with rfl | rfl | rfl | rfl
  · exact h
  · exact ⟨h.pl, r.got _, by simp [GiveS.next], h.b0, h.b1⟩
  · exact ⟨h.pl, h.seen, by simp [GiveS.next], h.b0, h.b1⟩
  · exact ⟨h.pl, h.seen, by simp only [GiveS.next]; split <;> omega, h.b0, h.b1⟩
theorem TakeS.rng {x : TakeS} {s : St} (h : x.Ok) (r : s.Rng) : (x.mem s).Rng := by
  obtain ⟨q, z, pc, c, e, v, k, u, us⟩ := x
  rcases pc6_cases h.pc with rfl | rfl | rfl | rfl | rfl | rfl | rfl
  · exact r
  · exact r
  · exact r
  · exact r.cas _ _ (u64_nx _ _)
  · exact r.store _ (u64_bw ..)
  · exact r.store _ (u64_hw ..)
  · exact PushS.rng h.push r
theorem GiveS.rng {x : GiveS} {s : St} (h : x.Ok) (r : s.Rng) : (x.mem s).Rng := by
  obtain ⟨q, z, pc, b⟩ := x
  rcases pc_cases h.pc with rfl | rfl | rfl | rfl
  · exact r
  · exact r
  · exact r.store _ (u64_bw ..)
  · exact r.cas _ _ (u64_nx _ _)
theorem TakeS.fit {x : TakeS} {s : St} (h : x.Ok) (f : s.Fit) (hc : s.c < 1000000) : (x.mem s).Fit := by
  obtain ⟨q, z, pc, c, e, v, k, u, us⟩ := x
  rcases pc6_cases h.pc with rfl | rfl | rfl | rfl | rfl | rfl | rfl
  · exact f
  · exact f.load hc _
  · exact f.load hc _
  · exact f.cas hc _ _ _
  · exact f.store hc _ _
  · exact f.store hc _ _
  · exact PushS.fit h.push f hc
theorem GiveS.fit {x : GiveS} {s : St} (h : x.Ok) (f : s.Fit) (hc : s.c < 1000000) : (x.mem s).Fit := by
  obtain ⟨q, z, pc, b⟩ := x
  rcases pc_cases h.pc with rfl | rfl | rfl | rfl
  · exact f
  · exact f.load hc _
  · exact f.store hc _ _
  · exact f.cas hc _ _ _
theorem TakeS.count {x : TakeS} {s : St} (h : x.Ok) : (x.mem s).c ≤ s.c + 1 := by
  obtain ⟨q, z, pc, c, e, v, k, u, us⟩ := x
  rcases pc6_cases h.pc with rfl | rfl | rfl | rfl | rfl | rfl | rfl
  · simp only [TakeS.mem]; omega
  · simp only [TakeS.mem, St.c_load]; omega
  · simp only [TakeS.mem, St.c_load]; omega
  · simp only [TakeS.mem, St.c_cas]; omega
  · simp only [TakeS.mem, St.c_store]; omega
  · simp only [TakeS.mem, St.c_store]; omega
  · exact PushS.count h.push
theorem GiveS.count {x : GiveS} {s : St} (h : x.Ok) : (x.mem s).c ≤ s.c + 1 := by
  obtain ⟨q, z, pc, b⟩ := x
  rcases pc_cases h.pc with rfl | rfl | rfl | rfl
  · simp only [GiveS.mem]; omega
  · simp only [GiveS.mem, St.c_load]; omega
  · simp only [GiveS.mem, St.c_store]; omega
  · simp only [GiveS.mem, St.c_cas]; omega
/-- as cells -/
def TakeS.cells (x : TakeS) : Array Value := #[.int .i64 x.pl.t, .int .i64 x.pl.b, .int .i64 x.pl.tb, .int .i64 x.pl.hp, .int .i64 x.pl.sz, .int .u64 x.seen, .int .i64 x.pc, .int .i64 x.cls, .int .i64 x.set, .int .i64 (b3 x.raw), .int .i64 x.k,
  .int .i64 x.push.hd, .int .i64 x.push.fst, .int .i64 x.push.lst, .int .i64 x.push.cls, .int .u64 x.push.seen, pushFn x.push.pc]
def GiveS.cells (x : GiveS) : Array Value := #[.int .i64 x.pl.t, .int .i64 x.pl.b, .int .i64 x.pl.tb, .int .i64 x.pl.hp, .int .i64 x.pl.sz, .int .u64 x.seen, .int .i64 x.pc, .int .i64 x.blk]
/-- a plan and the head that was seen stand first in a block -/
structure MachIn (cs : Array Value) (q : Pl) (z : Int) : Prop where
  c0 : cs[0]? = some (.int .i64 q.t)
  c1 : cs[1]? = some (.int .i64 q.b)
  c2 : cs[2]? = some (.int .i64 q.tb)
  c3 : cs[3]? = some (.int .i64 q.hp)
  c4 : cs[4]? = some (.int .i64 q.sz)
  c5 : cs[5]? = some (.int .u64 z)
theorem TakeS.mach (x : TakeS) : MachIn x.cells x.pl x.seen := ⟨rfl, rfl, rfl, rfl, rfl, rfl⟩
theorem GiveS.mach (x : GiveS) : MachIn x.cells x.pl x.seen := ⟨rfl, rfl, rfl, rfl, rfl, rfl⟩
end Go.Proofs.YtbojljkdpebheaaDoor
