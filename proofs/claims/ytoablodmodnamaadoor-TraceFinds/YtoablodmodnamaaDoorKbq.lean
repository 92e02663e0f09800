/-
  A Poll's block: the program's cells, and what the functions that only look ahead make of them.
-/
import Derived.Test.YtoablodmodnamaaDoorKpq
import Derived.Test.YtoablodmodnamaaDoorGiq
namespace Go.Proofs.YtoablodmodnamaaDoor
set_option linter.unusedVariables false
set_option maxRecDepth 100000
open Go.ChangeShapes Go.WideShapes Go.RowKit

/-- the block of a Poll -/
structure PB where
  ack : Int
  own : Ph
  al : Int
  n : Nat
  l : Nat → Int
  pc : Nat
  q : Ph
  root : Nat
  sh : ShadeS
def PB.goto (b : PB) (k : Nat) : PB := ⟨b.ack, b.own, b.al, b.n, b.l, k, b.q, b.root, b.sh⟩
def PB.asks (b : PB) (q : Ph) : PB := ⟨b.ack, b.own, b.al, b.n, b.l, b.pc, q, b.root, b.sh⟩
def PB.puts (b : PB) (i : Nat) (v : Int) : PB := ⟨b.ack, b.own, b.al, b.n, lput b.l i v, b.pc, b.q, b.root, b.sh⟩
def PB.shades (b : PB) (x : ShadeS) : PB := ⟨b.ack, b.own, b.al, b.n, b.l, b.pc, b.q, b.root, x⟩
def PB.roots (b : PB) (k : Nat) : PB := ⟨b.ack, b.own, b.al, b.n, b.l, b.pc, b.q, k, b.sh⟩
def PB.knows (b : PB) (a : Int) : PB := ⟨b.ack, b.own, a, b.n, b.l, b.pc, b.q, b.root, b.sh⟩
def PB.owns (b : PB) (q : Ph) : PB := ⟨b.ack, q, b.al, b.n, b.l, b.pc, b.q, b.root, b.sh⟩
def PB.cells (b : PB) : Array Value := #[.int .i64 b.ack, .int .i64 b.own.no, .int .i64 b.own.md, .int .i64 b.own.mr, .int .i64 b.own.ls, .int .i64 b.al, .int .i64 b.n, .int .i64 (b.l 0), .int .i64 (b.l 1), .int .i64 (b.l 2), .int .i64 (b.l 3), .int .i64 (b.l 4), .int .i64 (b.l 5), .int .i64 (b.l 6), .int .i64 (b.l 7), .int .i64 b.pc, .int .i64 b.q.no, .int .i64 b.q.md, .int .i64 b.q.mr, .int .i64 b.q.ls, .int .i64 b.root,
  .int .i64 b.sh.cell, .int .i64 b.sh.mark, .int .i64 b.sh.pc, .int .u64 b.sh.found, .int .i64 b.sh.h.S, .int .i64 b.sh.h.C, .int .i64 b.sh.h.N, .int .i64 b.sh.h.M, .int .i64 b.sh.h.G, .int .i64 b.sh.h.T, .int .i64 b.sh.h.L, .int .u64 b.sh.list]
theorem PB.root_at (b : PB) (i : Nat) (h : i < 8) : b.cells[7 + i]? = some (.int .i64 (b.l i)) := by
  match i, h with
  | 0, _ => rfl
  | 1, _ => rfl
  | 2, _ => rfl
  | 3, _ => rfl
  | 4, _ => rfl
  | 5, _ => rfl
  | 6, _ => rfl
  | 7, _ => rfl
theorem PB.root_set (b : PB) (i : Nat) (h : i < 8) (v : Int) : b.cells.setIfInBounds (7 + i) (.int .i64 v) = (b.puts i v).cells := by
  match i, h with
  | 0, _ => rfl
  | 1, _ => rfl
  | 2, _ => rfl
  | 3, _ => rfl
  | 4, _ => rfl
  | 5, _ => rfl
  | 6, _ => rfl
  | 7, _ => rfl
/-- what is ahead of the Shade -/
def PB.fr (b : PB) : List Value := [.int .i64 b.ack, .int .i64 b.own.no, .int .i64 b.own.md, .int .i64 b.own.mr, .int .i64 b.own.ls, .int .i64 b.al, .int .i64 b.n, .int .i64 (b.l 0), .int .i64 (b.l 1), .int .i64 (b.l 2), .int .i64 (b.l 3), .int .i64 (b.l 4), .int .i64 (b.l 5), .int .i64 (b.l 6), .int .i64 (b.l 7), .int .i64 b.pc, .int .i64 b.q.no, .int .i64 b.q.md, .int .i64 b.q.mr, .int .i64 b.q.ls, .int .i64 b.root]
theorem PB.lay (b : PB) (x : ShadeS) : lay b.fr x.cells [] = (b.shades x).cells := rfl
/-- the first root from i on that is not 0 -/
theorem seek_le (l : Nat → Int) (n : Nat) : ∀ (f i : Nat), n - i ≤ f → i ≤ n → i ≤ seek l n f i ∧ seek l n f i ≤ n ∧ (∀ j, i ≤ j → j < seek l n f i → l j = 0) ∧ (seek l n f i < n → l (seek l n f i) ≠ 0)
  | 0, i, h, h1 => ⟨Nat.le_refl _, h1, fun j a b => by simp only [seek] at b; omega, fun h2 => by simp only [seek] at h2; omega⟩
  | f + 1, i, h, h1 => by
    simp only [seek]
    split
    · obtain ⟨a, b, c, d⟩ := seek_le l n f (i + 1) (by omega) (by omega)
      refine ⟨by omega, b, fun j hj hk => ?_, d⟩
      by_cases e : j = i
      · subst e; rename_i hh; exact hh.2
      · exact c j (by omega) hk
    · refine ⟨Nat.le_refl _, h1, fun j a b => by omega, fun h2 h3 => ?_⟩
      rename_i hh
      exact hh ⟨h2, h3⟩
/-- the first that is not 0 from i on is there -/
theorem seek_eq (l : Nat → Int) (n : Nat) (f i k : Nat) (hf : n - i ≤ f) (h : i ≤ k) (h1 : k < n) (h2 : ∀ j, i ≤ j → j < k → l j = 0) (h3 : l k ≠ 0) : seek l n f i = k := by
  obtain ⟨a, b, c, d⟩ := seek_le l n f i hf (by omega)
  have e1 : ¬ seek l n f i < k := fun hh => d (by omega) (h2 _ a hh)
  have e2 : ¬ k < seek l n f i := fun hh => h3 (c k h hh)
  omega
theorem seek_end (l : Nat → Int) (n : Nat) (f i : Nat) (hf : n - i ≤ f) (h : i ≤ n) (h2 : ∀ j, i ≤ j → j < n → l j = 0) : seek l n f i = n := by
  obtain ⟨a, b, c, d⟩ := seek_le l n f i hf h
  have e1 : ¬ seek l n f i < n := fun hh => d hh (h2 _ a hh)
  omega
/-- the number of a place -/
def Wh.pc : Wh → Nat
  | .done => 0
  | .look => 1
  | .shade _ _ => 2
  | .alpha => 3
  | .fix _ => 4
  | .tell => 5
/-- where it stands: what the block says of it -/
def Wh.In : Wh → PB → Prop
  | .shade i y, b => b.root = i ∧ b.sh = y ∧ i < b.n
  | .fix i, b => b.root = i ∧ i < b.n
  | _, _ => True
structure PollS.Is (x : PollS) (b : PB) : Prop where
  ack : b.ack = x.ack
  own : b.own = x.own
  al : b.al = x.al
  n : b.n = x.n
  l : b.l = x.l
  pc : b.pc = x.wh.pc
  q : b.q = x.q
  wh : x.wh.In b
/-- the block behind the look for the first root -/
def PB.sought (b : PB) (i : Nat) : PB := if seek b.l b.n (b.n - i) i < b.n then b.roots (seek b.l b.n (b.n - i) i) else b
def PB.toShade (b : PB) (i : Nat) : PB := if seek b.l b.n (b.n - i) i < b.n then (b.roots (seek b.l b.n (b.n - i) i)).shades (ShadeS.new (b.l (seek b.l b.n (b.n - i) i)) b.q.mr) else b
def PB.toShadeP (b : PB) (i : Nat) : Nat := if seek b.l b.n (b.n - i) i < b.n then 2 else 5
def PB.toFixP (b : PB) (i : Nat) : Nat := if seek b.l b.n (b.n - i) i < b.n then 4 else 5
def PB.behind (b : PB) : PB := if b.q.no = b.own.no then b else if b.q.md = 2 then b.toShade 0 else if b.q.md = 5 then b else if b.q.md = 8 then b.sought 0 else b
def PB.behindP (b : PB) : Nat := if b.q.no = b.own.no then 0 else if b.q.md = 2 then b.toShadeP 0 else if b.q.md = 5 then 3 else if b.q.md = 8 then b.toFixP 0 else 5
section
variable {b : PB} {i : Nat}
theorem PB.sought_n : (b.sought i).n = b.n := by unfold PB.sought; split <;> rfl
theorem PB.toShade_n : (b.toShade i).n = b.n := by unfold PB.toShade; split <;> rfl
theorem PB.behind_n : b.behind.n = b.n := by
  unfold PB.behind
  repeat' split
  all_goals first | rfl | exact PB.toShade_n | exact PB.sought_n
/-- they say alike -/
theorem Wh.shade_is (x : PollS) (h : x.n = b.n) (hl : x.l = b.l) (hq : b.q = x.q) (ha : b.ack = x.ack) (ho : b.own = x.own) (hal : b.al = x.al) (hw : x.wh = toShade b.l b.n b.q.mr i) (hi : i ≤ b.n) :
    x.Is ((b.toShade i).goto (b.toShadeP i)) := by
  by_cases hk : seek b.l b.n (b.n - i) i < b.n
  · have e1 : b.toShade i = (b.roots (seek b.l b.n (b.n - i) i)).shades (ShadeS.new (b.l (seek b.l b.n (b.n - i) i)) b.q.mr) := if_pos hk
    have e2 : b.toShadeP i = 2 := if_pos hk
    have e3 : toShade b.l b.n b.q.mr i = .shade (seek b.l b.n (b.n - i) i) (ShadeS.new (b.l (seek b.l b.n (b.n - i) i)) b.q.mr) := if_neg (by omega)
    rw [e1, e2]
    rw [e3] at hw
    refine ⟨ha, ho, hal, h.symm, hl.symm, by rw [hw]; rfl, hq, ?_⟩
    rw [hw]
    exact ⟨rfl, rfl, hk⟩
  · have e1 : b.toShade i = b := if_neg hk
    have e2 : b.toShadeP i = 5 := if_neg hk
    have e3 : toShade b.l b.n b.q.mr i = .tell := if_pos (by omega)
    rw [e1, e2]
    rw [e3] at hw
    refine ⟨ha, ho, hal, h.symm, hl.symm, by rw [hw]; rfl, hq, ?_⟩
    rw [hw]
    trivial
theorem Wh.fix_is (x : PollS) (h : x.n = b.n) (hl : x.l = b.l) (hq : b.q = x.q) (ha : b.ack = x.ack) (ho : b.own = x.own) (hal : b.al = x.al) (hw : x.wh = toFix b.l b.n i) (hi : i ≤ b.n) :
    x.Is ((b.sought i).goto (b.toFixP i)) := by
  by_cases hk : seek b.l b.n (b.n - i) i < b.n
  · have e1 : b.sought i = b.roots (seek b.l b.n (b.n - i) i) := if_pos hk
    have e2 : b.toFixP i = 4 := if_pos hk
    have e3 : toFix b.l b.n i = .fix (seek b.l b.n (b.n - i) i) := if_neg (by omega)
    rw [e1, e2]
    rw [e3] at hw
    refine ⟨ha, ho, hal, h.symm, hl.symm, by rw [hw]; rfl, hq, ?_⟩
    rw [hw]
    exact ⟨rfl, hk⟩
  · have e1 : b.sought i = b := if_neg hk
    have e2 : b.toFixP i = 5 := if_neg hk
    have e3 : toFix b.l b.n i = .tell := if_pos (by omega)
    rw [e1, e2]
    rw [e3] at hw
    refine ⟨ha, ho, hal, h.symm, hl.symm, by rw [hw]; rfl, hq, ?_⟩
    rw [hw]
    trivial
end
end Go.Proofs.YtoablodmodnamaaDoor
