/-
  A Reserve and an Alloc beside a memory: what they are, said plainly.
-/
import Derived.Test.YtbojljkdpebheaaDoorKp
import Derived.Test.YtbojljkdpebheaaDoorKa
namespace Go.Proofs.YtbojljkdpebheaaDoor
set_option linter.unusedVariables false
set_option maxRecDepth 100000
open Go.ChangeShapes Go.WideShapes Go.RowKit
open S.Plain (t0 t1 tw nx bw b3)
open H.Plain (hw pL)

def TakeS.zero : TakeS := ⟨⟨0, 0, 0, 0, 0⟩, 0, 0, 0, 0, 0, 0, ⟨0, 0, 0, 0, 0, 0⟩, false⟩
theorem TakeS.ok_zero : TakeS.zero.Ok := ⟨⟨by decide, by decide, by decide, by decide⟩, U64.zero, U64.zero, by decide, by decide, by decide, by decide, by decide, by decide, by decide, by decide, ⟨U64.zero, by decide⟩⟩
/-- a Reserve: its next part (0: done), its Pop and its Take, the head that the Pop saw, the cell -/
structure ResS where
  pl : Pl
  cls : Int
  set : Int
  pc : Nat
  pop : PopS
  take : TakeS
  seen : Int
  cell : Int
/-- where the head of its list stands -/
def ResS.hd (x : ResS) : Int := 3 + 3 * x.set + x.cls
def ResS.new (q : Pl) (c e : Int) : ResS := ⟨q, c, e, 1, PopS.new (3 + 3 * e + c), TakeS.zero, 0, 0⟩
def ResS.next (x : ResS) (s : St) : ResS :=
  match x.pc with
  | 1 => if (x.pop.next s).pc = 0 then
      (if t0 (x.pop.next s).seen = 0 then { x with pop := x.pop.next s, cell := 0, seen := (x.pop.next s).seen, take := TakeS.new x.pl x.cls x.set, pc := 2 }
        else { x with pop := x.pop.next s, cell := t0 (x.pop.next s).seen, seen := (x.pop.next s).seen, pc := 0 })
      else { x with pop := x.pop.next s }
  | 2 => if (x.take.next s).pc = 0 then { x with take := x.take.next s, cell := (x.take.next s).cell, pc := if (x.take.next s).cell = 0 then 3 else 0 } else { x with take := x.take.next s }
  | 3 => if s.got x.hd = x.seen then { x with pc := 0 } else { x with pop := PopS.new x.hd, pc := 1 }
  | _ => x
def ResS.mem (x : ResS) (s : St) : St :=
  match x.pc with
  | 1 => x.pop.mem s
  | 2 => x.take.mem s
  | 3 => s.load x.hd
  | _ => s
structure ResS.Ok (x : ResS) : Prop where
  pl : x.pl.Ok
  c0 : 0 ≤ x.cls
  c2 : x.cls ≤ 2
  e0 : 0 ≤ x.set
  e1 : x.set ≤ 1
  pc : x.pc ≤ 3
  pop : x.pop.Ok
  take : x.take.Ok
  seen : U64 x.seen
  l0 : 0 ≤ x.cell
  l1 : x.cell ≤ 1000000
/-- an Alloc: its Reserve, its class, count and mark, its next part (0: done), how many fields are cleared, the cell that is told -/
structure AllS where
  res : ResS
  cls : Int
  cnt : Int
  mark : Int
  pc : Nat
  fld : Int
  cell : Int
def AllS.new (q : Pl) (n m e : Int) : AllS := ⟨ResS.new q (P.Plain.cl n) e, P.Plain.cl n, n, m, 1, 0, 0⟩
def AllS.next (x : AllS) (s : St) : AllS :=
  match x.pc with
  | 1 => if (x.res.next s).pc = 0 then
      (if (x.res.next s).cell = 0 then { x with res := x.res.next s, pc := 0 } else { x with res := x.res.next s, pc := if x.fld < x.cnt then 2 else 3 })
      else { x with res := x.res.next s }
  | 2 => { x with fld := x.fld + 1, pc := if x.fld + 1 < x.cnt then 2 else 3 }
  | 3 => { x with cell := x.res.cell, pc := 0 }
  | _ => x
def AllS.mem (x : AllS) (s : St) : St :=
  match x.pc with
  | 1 => x.res.mem s
  | 2 => s.store (x.res.cell + (x.fld + 1)) 0
  | 3 => s.store x.res.cell (hw 1 x.cls x.cnt x.mark 0 0 0)
  | _ => s
structure AllS.Ok (x : AllS) : Prop where
  res : x.res.Ok
  pc : x.pc ≤ 3
  f0 : 0 ≤ x.fld
  f8 : x.fld ≤ 8
  n8 : x.cnt ≤ 8
  f2 : x.pc = 2 → x.fld < x.cnt
def ResS.at_ (x : ResS) (n : Nat) : ResS := { x with pc := n }
def AllS.at_ (x : AllS) (n : Nat) : AllS := { x with pc := n }
theorem ResS.ok_new {q : Pl} {c e : Int} (h : q.Ok) (c0 : 0 ≤ c) (c2 : c ≤ 2) (e0 : 0 ≤ e) (e1 : e ≤ 1) : (ResS.new q c e).Ok :=
  ⟨h, c0, c2, e0, e1, by simp [ResS.new], PopS.ok_new _, TakeS.ok_zero, U64.zero, by simp [ResS.new], by simp [ResS.new]⟩
theorem TakeS.cell_bounds {x : TakeS} (ok : x.Ok) : 0 ≤ x.cell + 1000 ∧ x.cell ≤ 1000000 := by
  have h1 := t0_bounds x.seen
  have h2 := ok.pl.hp0
  have h3 := ok.pl.hp1
  unfold TakeS.cell
  split
  · unfold TakeS.ad Pl.cell
    rw [Int.zero_mul]
    omega
  · omega
theorem TakeS.cell_pos {x : TakeS} (ok : x.Ok) : 0 ≤ x.cell := by
  have h1 := t0_bounds x.seen
  have h2 := ok.pl.hp0
  unfold TakeS.cell
  split
  case isTrue h =>
    unfold TakeS.ad Pl.cell
    rw [Int.zero_mul]
    have := h.2
    omega
  · omega
theorem ResS.Ok.next {x : ResS} {s : St} (h : x.Ok) (r : s.Rng) : (x.next s).Ok := by
  obtain ⟨q, c, e, pc, pop, tk, z, cl⟩ := x
  obtain ⟨h1, h2, h3, h4, h5, h6, h7, h8, h9, h10, h11⟩ := h
  simp only at h1 h2 h3 h4 h5 h6 h7 h8 h9 h10 h11
  have p1 := h7.next r
  have k1 := h8.next r
  have tb := t0_bounds (pop.next s).seen
  rcases pc_cases h6 with rfl | rfl | rfl | rfl
  · exact ⟨h1, h2, h3, h4, h5, h6, h7, h8, h9, h10, h11⟩
  · simp only [ResS.next]
    split
    · split
      · exact ⟨h1, h2, h3, h4, h5, by simp only; omega, p1, TakeS.ok_new h1 h2 h3 h4 h5, p1.seen, by simp only; omega, by simp only; omega⟩
      · exact ⟨h1, h2, h3, h4, h5, by simp only; omega, p1, h8, p1.seen, by simp only; omega, by simp only; omega⟩
    · exact ⟨h1, h2, h3, h4, h5, h6, p1, h8, h9, h10, h11⟩
  · simp only [ResS.next]
    split
    · exact ⟨h1, h2, h3, h4, h5, by simp only; split <;> omega, h7, k1, h9, TakeS.cell_pos k1, (TakeS.cell_bounds k1).2⟩
    · exact ⟨h1, h2, h3, h4, h5, h6, h7, k1, h9, h10, h11⟩
  · simp only [ResS.next]
    split
    · exact ⟨h1, h2, h3, h4, h5, by simp only; omega, h7, h8, h9, h10, h11⟩
    · exact ⟨h1, h2, h3, h4, h5, by simp only; omega, PopS.ok_new _, h8, h9, h10, h11⟩
theorem ResS.rng {x : ResS} {s : St} (h : x.Ok) (r : s.Rng) : (x.mem s).Rng := by
  obtain ⟨q, c, e, pc, pop, tk, z, cl⟩ := x
  rcases pc_cases h.pc with rfl | rfl | rfl | rfl
  · exact r
  · exact PopS.rng h.pop r
  · exact TakeS.rng h.take r
  · exact r
theorem ResS.fit {x : ResS} {s : St} (h : x.Ok) (f : s.Fit) (hc : s.c < 1000000) : (x.mem s).Fit := by
  obtain ⟨q, c, e, pc, pop, tk, z, cl⟩ := x
  rcases pc_cases h.pc with rfl | rfl | rfl | rfl
  · exact f
  · exact PopS.fit h.pop f hc
  · exact TakeS.fit h.take f hc
  · exact f.load hc _
theorem ResS.count {x : ResS} {s : St} (h : x.Ok) : (x.mem s).c ≤ s.c + 1 := by
  obtain ⟨q, c, e, pc, pop, tk, z, cl⟩ := x
  rcases pc_cases h.pc with rfl | rfl | rfl | rfl
  · simp only [ResS.mem]; omega
  · exact PopS.count h.pop
  · exact TakeS.count h.take
  · simp only [ResS.mem, St.c_load]; omega
theorem AllS.Ok.next {x : AllS} {s : St} (h : x.Ok) (r : s.Rng) : (x.next s).Ok := by
  obtain ⟨y, c, n, m, pc, f, cl⟩ := x
  obtain ⟨h1, h2, h3, h4, h5, h6⟩ := h
  simp only at h1 h2 h3 h4 h5 h6
  have p1 := h1.next r
  rcases pc_cases h2 with rfl | rfl | rfl | rfl
  · exact ⟨h1, h2, h3, h4, h5, h6⟩
  · simp only [AllS.next]
    split
    · split
      · exact ⟨p1, by simp only; omega, h3, h4, h5, fun e => by simp only at e; omega⟩
      · exact ⟨p1, by simp only; split <;> omega, h3, h4, h5, fun e => by simp only at e ⊢; split at e <;> omega⟩
    · exact ⟨p1, h2, h3, h4, h5, h6⟩
  · have := h6 rfl
    exact ⟨h1, by simp only [AllS.next]; split <;> omega, by simp only [AllS.next]; omega, by simp only [AllS.next]; omega, h5, fun e => by simp only [AllS.next] at e ⊢; split at e <;> omega⟩
  · exact ⟨h1, by simp only [AllS.next]; omega, h3, h4, h5, fun e => by simp only [AllS.next] at e; omega⟩
theorem AllS.rng {x : AllS} {s : St} (h : x.Ok) (r : s.Rng) : (x.mem s).Rng := by
  obtain ⟨y, c, n, m, pc, f, cl⟩ := x
  rcases pc_cases h.pc with rfl | rfl | rfl | rfl
  · exact r
  · exact ResS.rng h.res r
  · exact r.store _ U64.zero
  · exact r.store _ (u64_hw ..)
theorem AllS.fit {x : AllS} {s : St} (h : x.Ok) (f : s.Fit) (hc : s.c < 1000000) : (x.mem s).Fit := by
  obtain ⟨y, c, n, m, pc, fl, cl⟩ := x
  rcases pc_cases h.pc with rfl | rfl | rfl | rfl
  · exact f
  · exact ResS.fit h.res f hc
  · exact f.store hc _ _
  · exact f.store hc _ _
theorem AllS.count {x : AllS} {s : St} (h : x.Ok) : (x.mem s).c ≤ s.c + 1 := by
  obtain ⟨y, c, n, m, pc, fl, cl⟩ := x
  rcases pc_cases h.pc with rfl | rfl | rfl | rfl
  · simp only [AllS.mem]; omega
  · exact ResS.count h.res
  · simp only [AllS.mem, St.c_store]; omega
  · simp only [AllS.mem, St.c_store]; omega
theorem PopS.next_ws {s s' : St} (h : s'.ws = s.ws) (x : PopS) : x.next s' = x.next s := by unfold PopS.next; simp only [got_ws h, ok1_ws h]
theorem PopS.mem_ws {s s' : St} (h : s'.ws = s.ws) (x : PopS) : (x.mem s').ws = (x.mem s).ws := by
  unfold PopS.mem; split
  · exact load_ws h _
  · exact load_ws h _
  · exact cas_ws h _ _ _
  · exact h
theorem ResS.next_ws {s s' : St} (h : s'.ws = s.ws) (x : ResS) : x.next s' = x.next s := by unfold ResS.next; simp only [got_ws h, PopS.next_ws h, TakeS.next_ws h]
theorem ResS.mem_ws {s s' : St} (h : s'.ws = s.ws) (x : ResS) : (x.mem s').ws = (x.mem s).ws := by
  unfold ResS.mem; split
  · exact PopS.mem_ws h _
  · exact TakeS.mem_ws h _
  · exact load_ws h _
  · exact h
theorem AllS.next_ws {s s' : St} (h : s'.ws = s.ws) (x : AllS) : x.next s' = x.next s := by unfold AllS.next; simp only [ResS.next_ws h]
theorem AllS.mem_ws {s s' : St} (h : s'.ws = s.ws) (x : AllS) : (x.mem s').ws = (x.mem s).ws := by
  unfold AllS.mem; split
  · exact ResS.mem_ws h _
  · exact store_ws h _ _
  · exact store_ws h _ _
  · exact h
/-- as cells -/
def ResS.cells (x : ResS) : Array Value := #[.int .i64 x.pl.t, .int .i64 x.pl.b, .int .i64 x.pl.tb, .int .i64 x.pl.hp, .int .i64 x.pl.sz, .int .i64 x.cls, .int .i64 x.set, .int .i64 x.pc,
  .int .i64 x.pop.hd, .int .i64 x.pop.link, .int .u64 x.pop.seen, popFn x.pop.pc,
  .int .i64 x.take.pl.t, .int .i64 x.take.pl.b, .int .i64 x.take.pl.tb, .int .i64 x.take.pl.hp, .int .i64 x.take.pl.sz, .int .u64 x.take.seen, .int .i64 x.take.pc, .int .i64 x.take.cls, .int .i64 x.take.set, .int .i64 (b3 x.take.raw), .int .i64 x.take.k,
  .int .i64 x.take.push.hd, .int .i64 x.take.push.fst, .int .i64 x.take.push.lst, .int .i64 x.take.push.cls, .int .u64 x.take.push.seen, pushFn x.take.push.pc,
  .int .u64 x.seen, .int .i64 x.cell]
def AllS.cells (x : AllS) : Array Value := #[.int .i64 x.res.pl.t, .int .i64 x.res.pl.b, .int .i64 x.res.pl.tb, .int .i64 x.res.pl.hp, .int .i64 x.res.pl.sz, .int .i64 x.res.cls, .int .i64 x.res.set, .int .i64 x.res.pc,
  .int .i64 x.res.pop.hd, .int .i64 x.res.pop.link, .int .u64 x.res.pop.seen, popFn x.res.pop.pc,
  .int .i64 x.res.take.pl.t, .int .i64 x.res.take.pl.b, .int .i64 x.res.take.pl.tb, .int .i64 x.res.take.pl.hp, .int .i64 x.res.take.pl.sz, .int .u64 x.res.take.seen, .int .i64 x.res.take.pc, .int .i64 x.res.take.cls, .int .i64 x.res.take.set, .int .i64 (b3 x.res.take.raw), .int .i64 x.res.take.k,
  .int .i64 x.res.take.push.hd, .int .i64 x.res.take.push.fst, .int .i64 x.res.take.push.lst, .int .i64 x.res.take.push.cls, .int .u64 x.res.take.push.seen, pushFn x.res.take.push.pc,
  .int .u64 x.res.seen, .int .i64 x.res.cell, .int .i64 x.cls, .int .i64 x.cnt, .int .i64 x.mark, .int .i64 x.pc, .int .i64 x.fld, .int .i64 x.cell]
end Go.Proofs.YtbojljkdpebheaaDoor
