/-
  The reference's Poll: where it lies.
-/
import Derived.Test.YtoablodmodnamaaDoorKe
import Derived.Test.YtoablodmodnamaaDoorD2
namespace Go.Proofs.YtoablodmodnamaaDoor
set_option linter.unusedVariables false
set_option linter.unusedSimpArgs false
set_option maxRecDepth 100000
open Go.ChangeShapes Go.WideShapes Go.RowKit
open S.Plain (t0 t1 tw nx p0 p1 p2 p3 pw)
open H.Plain (hw pS pC pN pM pG pT pL)

abbrev pt (p : Nat) : Value := .pointer (some ⟨p, 0, none⟩)
/-- the block of the reference's Poll -/
structure RB where
  U : Pl5
  th : Int
  pc : Nat
  K : Nat
  own : Ph
  q : Ph
  al : Int
  n : Nat
  l : Nat → Int
  X : Value
def RB.cells (b : RB) : Array Value := #[.int .i64 b.U.th, .int .i64 b.U.bl, .int .i64 b.U.ta, .int .i64 b.U.he, .int .i64 b.U.si, .int .i64 b.th, .int .i64 b.pc, .int .i64 b.K, .int .i64 b.own.no, .int .i64 b.own.md, .int .i64 b.own.mr, .int .i64 b.own.ls, .int .i64 b.q.no, .int .i64 b.q.md, .int .i64 b.q.mr, .int .i64 b.q.ls, .int .i64 b.al, .int .i64 b.n, .int .i64 (b.l 0), .int .i64 (b.l 1), .int .i64 (b.l 2), .int .i64 (b.l 3), .int .i64 (b.l 4), .int .i64 (b.l 5), .int .i64 (b.l 6), .int .i64 (b.l 7), b.X]
def RB.goto (b : RB) (k : Nat) : RB := ⟨b.U, b.th, k, b.K, b.own, b.q, b.al, b.n, b.l, b.X⟩
def RB.at (b : RB) (k : Nat) : RB := ⟨b.U, b.th, b.pc, k, b.own, b.q, b.al, b.n, b.l, b.X⟩
def RB.asks (b : RB) (q : Ph) : RB := ⟨b.U, b.th, b.pc, b.K, b.own, q, b.al, b.n, b.l, b.X⟩
def RB.owns (b : RB) (q : Ph) : RB := ⟨b.U, b.th, b.pc, b.K, q, b.q, b.al, b.n, b.l, b.X⟩
def RB.knows (b : RB) (a : Int) : RB := ⟨b.U, b.th, b.pc, b.K, b.own, b.q, a, b.n, b.l, b.X⟩
def RB.puts (b : RB) (i : Nat) (v : Int) : RB := ⟨b.U, b.th, b.pc, b.K, b.own, b.q, b.al, b.n, lput b.l i v, b.X⟩
def RB.has (b : RB) (X : Value) : RB := ⟨b.U, b.th, b.pc, b.K, b.own, b.q, b.al, b.n, b.l, X⟩
theorem RB.root_at (b : RB) (i : Nat) (h : i < 8) : b.cells[18 + i]? = some (.int .i64 (b.l i)) := by
  match i, h with
  | 0, _ => rfl
  | 1, _ => rfl
  | 2, _ => rfl
  | 3, _ => rfl
  | 4, _ => rfl
  | 5, _ => rfl
  | 6, _ => rfl
  | 7, _ => rfl
theorem RB.root_set (b : RB) (i : Nat) (h : i < 8) (v : Int) : b.cells.setIfInBounds (18 + i) (.int .i64 v) = (b.puts i v).cells := by
  match i, h with
  | 0, _ => rfl
  | 1, _ => rfl
  | 2, _ => rfl
  | 3, _ => rfl
  | 4, _ => rfl
  | 5, _ => rfl
  | 6, _ => rfl
  | 7, _ => rfl
/-- where its next root is -/
def Wh.At : Wh → Nat → Nat → Prop
  | .look, k, n => k = 0
  | .shade i y, k, n => k = i ∧ i < n
  | .fix i, k, n => k = i ∧ i < n
  | _, _, _ => True
structure RB.Is (b : RB) (x : PollS) : Prop where
  ack : 10 + b.th = x.ack
  th : 0 ≤ b.th ∧ b.th ≤ 1000
  own : b.own = x.own
  q : b.q = x.q
  al : b.al = x.al
  n : b.n = x.n
  l : b.l = x.l
  pc : b.pc = x.wh.pc
  K : x.wh.At b.K b.n
/-- and its Shade -/
def Foots (w0 w : World) (F : List Nat) (X : Value) : Wh → Prop
  | .shade i y => ∃ v, X = pt v ∧ F = [v] ∧ ∃ h z, Blk w0 w v 150 (y.rcells h z) ∧ y.Rf h z
  | _ => F = []
def RPm (w0 w : World) (p : Nat) (F : List Nat) (x : PollS) : Prop := ∃ b : RB, Blk w0 w p 62 b.cells ∧ b.Is x ∧ Foots w0 w F b.X x.wh
section
variable {w0 w w' : World} {p q : Nat} {F G : List Nat} {x : PollS} {T : TypeId} {c : Array Value} {X : Value} {wh : Wh}
theorem Foots.foot (h : Foots w0 w F X wh) : ∀ q ∈ F, ∃ cs, Blk w0 w q 150 cs := by
  cases wh with
  | shade i y =>
    obtain ⟨v, _, rfl, h, z, B, _⟩ := h
    intro q hq
    simp at hq
    subst hq
    exact ⟨_, B⟩
  | _ => intro q hq; rw [show F = [] from h] at hq; simp at hq
theorem Foots.oth (h : Foots w0 w F X wh) (ot : Oth G w w') (hd : ∀ q ∈ F, q ∉ G) : Foots w0 w' F X wh := by
  cases wh with
  | shade i y =>
    obtain ⟨v, e, rfl, h, z, B, r⟩ := h
    exact ⟨v, e, rfl, h, z, B.oth ot (hd v (by simp)), r⟩
  | _ => exact h
theorem RPm.oth (h : RPm w0 w p F x) (ot : Oth G w w') (hp : p ∉ G) (hd : ∀ q ∈ F, q ∉ G) : RPm w0 w' p F x := by
  obtain ⟨b, B, I, f⟩ := h
  exact ⟨b, B.oth ot hp, I, f.oth ot hd⟩
theorem Blk.ne' {p q : Nat} {T T' : TypeId} {c c' : Array Value} (h : Blk w0 w p T c) (h' : Blk w0 w q T' c') (hT : T ≠ T') : p ≠ q := h.ne h' hT
end
end Go.Proofs.YtoablodmodnamaaDoor
