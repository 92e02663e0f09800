/-
  A Poll and an Ask, said plainly: what a step makes of the machine, and of the memory.
-/
import Derived.Test.YtoablodmodnamaaDoorGp
namespace Go.Proofs.YtoablodmodnamaaDoor
set_option linter.unusedVariables false
set_option maxRecDepth 100000
open Go.ChangeShapes Go.WideShapes Go.RowKit
open S.Plain (t0 t1 tw nx p0 p1 p2 p3 pw)
open H.Plain (hw pS pC pN pM pG pT pL)

/-- a phase -/
structure Ph where
  no : Int
  md : Int
  mr : Int
  ls : Int
def Ph.of (a : Int) : Ph := ⟨p0 a, p1 a, p2 a, p3 a⟩
def Ph.w (q : Ph) : Int := pw q.no q.md q.mr q.ls
def Ph.zero : Ph := ⟨0, 0, 0, 0⟩
def Ph.vals (q : Ph) : List Value := [.int .i64 q.no, .int .i64 q.md, .int .i64 q.mr, .int .i64 q.ls]
theorem u64_pw (x y z u : Int) : U64 (pw x y z u) := by unfold S.Plain.pw; constructor <;> omega
/-- where the object of a header at a is -/
def mvd (h a : Int) : Int := if pS h = 1 ∧ pT h = 2 then pL h else a

/-- where a Poll stands -/
inductive Wh
  | done
  | look
  | shade (i : Nat) (x : ShadeS)
  | alpha
  | fix (i : Nat)
  | tell
/-- the first root from i on that is not 0; n: there is none (f: how many are looked at) -/
def seek (l : Nat → Int) (n : Nat) : Nat → Nat → Nat
  | 0, i => i
  | f + 1, i => if i < n ∧ l i = 0 then seek l n f (i + 1) else i
structure PollS where
  ack : Int
  own : Ph
  q : Ph
  al : Int
  n : Nat
  l : Nat → Int
  wh : Wh
/-- on to the next root -/
def toShade (l : Nat → Int) (n : Nat) (m : Int) (i : Nat) : Wh := if n ≤ seek l n (n - i) i then .tell else .shade (seek l n (n - i) i) (ShadeS.new (l (seek l n (n - i) i)) m)
def toFix (l : Nat → Int) (n : Nat) (i : Nat) : Wh := if n ≤ seek l n (n - i) i then .tell else .fix (seek l n (n - i) i)
def PollS.new (ack : Int) (own : Ph) (al : Int) (n : Nat) (l : Nat → Int) : PollS := ⟨ack, own, Ph.zero, al, n, l, .look⟩
def lput (l : Nat → Int) (i : Nat) (v : Int) : Nat → Int := fun j => if j = i then v else l j
def PollS.next (x : PollS) (s : St) : PollS :=
  match x.wh with
  | .done => x
  | .look => ⟨x.ack, x.own, Ph.of (s.got 0), x.al, x.n, x.l, if (Ph.of (s.got 0)).no = x.own.no then .done else if (Ph.of (s.got 0)).md = 2 then toShade x.l x.n (Ph.of (s.got 0)).mr 0 else if (Ph.of (s.got 0)).md = 5 then .alpha else if (Ph.of (s.got 0)).md = 8 then toFix x.l x.n 0 else .tell⟩
  | .shade i y => ⟨x.ack, x.own, x.q, x.al, x.n, x.l, if (y.next s).pc = 0 then toShade x.l x.n x.q.mr (i + 1) else .shade i (y.next s)⟩
  | .alpha => ⟨x.ack, x.own, x.q, IntKind.i64.wrap (s.got 9), x.n, x.l, .tell⟩
  | .fix i => ⟨x.ack, x.own, x.q, x.al, x.n, lput x.l i (mvd (s.got (x.l i)) (x.l i)), toFix (lput x.l i (mvd (s.got (x.l i)) (x.l i))) x.n (i + 1)⟩
  | .tell => ⟨x.ack, x.q, x.q, x.al, x.n, x.l, .done⟩
def PollS.mem (x : PollS) (s : St) : St :=
  match x.wh with
  | .done => s
  | .look => s.load 0
  | .shade _ y => y.mem s
  | .alpha => s.load 9
  | .fix i => s.load (x.l i)
  | .tell => s.store x.ack (IntKind.u64.wrap x.q.no)
/-- an Ask: 0 done, 1 ahead of the phase's word, 2 at the thread k -/
structure AskS where
  q : Ph
  N : Nat
  pc : Nat
  k : Nat

def AskS.new (q : Ph) (N : Nat) : AskS := ⟨q, N, 1, 0⟩
def AskS.next (x : AskS) (s : St) : AskS :=
  match x.pc with
  | 1 => ⟨x.q, x.N, 2, 0⟩
  | 2 => if s.got (10 + x.k) = IntKind.u64.wrap x.q.no then (if x.k + 1 = x.N then ⟨x.q, x.N, 0, x.k + 1⟩ else ⟨x.q, x.N, 2, x.k + 1⟩) else x
  | _ => x
def AskS.mem (x : AskS) (s : St) : St :=
  match x.pc with
  | 1 => s.store 0 x.q.w
  | 2 => s.load (10 + x.k)
  | _ => s
def Wh.Ok : Wh → Prop
  | .shade _ y => y.Ok
  | _ => True
theorem toShade_ok (l : Nat → Int) (n : Nat) (m : Int) (i : Nat) : (toShade l n m i).Ok := by
  unfold toShade; split
  · trivial
  · exact ShadeS.ok_new _ _
theorem toFix_ok (l : Nat → Int) (n : Nat) (i : Nat) : (toFix l n i).Ok := by unfold toFix; split <;> trivial
theorem u64_wrap (x : Int) : U64 (IntKind.u64.wrap x) := by rw [IntKind.wrap_u64]; constructor <;> omega
section
variable {x : PollS} {s : St}
theorem PollS.ok_next (h : x.wh.Ok) (r : s.Rng) : (x.next s).wh.Ok := by
  obtain ⟨ack, own, q, al, n, l, wh⟩ := x
  cases wh with
  | done => trivial
  | look => simp only [PollS.next]; split <;> first | trivial | skip
            split <;> first | exact toShade_ok _ _ _ _ | skip
            split <;> first | trivial | skip
            split <;> first | exact toFix_ok _ _ _ | trivial
  | shade i y => simp only [PollS.next]; split
                 · exact toShade_ok _ _ _ _
                 · exact ShadeS.Ok.next h r
  | alpha => trivial
  | fix i => exact toFix_ok _ _ _
  | tell => trivial
theorem PollS.rng (h : x.wh.Ok) (r : s.Rng) : (x.mem s).Rng := by
  obtain ⟨ack, own, q, al, n, l, wh⟩ := x
  cases wh with
  | done => exact r
  | look => exact r
  | shade i y => exact ShadeS.rng h r
  | alpha => exact r
  | fix i => exact r
  | tell => exact r.store _ (u64_wrap _)
theorem PollS.fit (h : x.wh.Ok) (f : s.Fit) (hc : s.c < 1000000) : (x.mem s).Fit := by
  obtain ⟨ack, own, q, al, n, l, wh⟩ := x
  cases wh with
  | done => exact f
  | look => exact f.load hc _
  | shade i y => exact ShadeS.fit h f hc
  | alpha => exact f.load hc _
  | fix i => exact f.load hc _
  | tell => exact f.store hc _ _
theorem PollS.count (h : x.wh.Ok) : (x.mem s).c ≤ s.c + 1 := by
  obtain ⟨ack, own, q, al, n, l, wh⟩ := x
  cases wh with
  | done => simp only [PollS.mem]; omega
  | look => simp only [PollS.mem, St.c_load]; omega
  | shade i y => exact ShadeS.count h
  | alpha => simp only [PollS.mem, St.c_load]; omega
  | fix i => simp only [PollS.mem, St.c_load]; omega
  | tell => simp only [PollS.mem, St.c_store]; omega
end
section
variable {x : AskS} {s : St}
theorem AskS.rng (r : s.Rng) : (x.mem s).Rng := by
  unfold AskS.mem; split
  · exact r.store _ (u64_pw _ _ _ _)
  · exact r
  · exact r
theorem AskS.fit (f : s.Fit) (hc : s.c < 1000000) : (x.mem s).Fit := by
  unfold AskS.mem; split
  · exact f.store hc _ _
  · exact f.load hc _
  · exact f
theorem AskS.count : (x.mem s).c ≤ s.c + 1 := by
  unfold AskS.mem; split
  · rw [St.c_store]; omega
  · rw [St.c_load]; omega
  · omega
end
end Go.Proofs.YtoablodmodnamaaDoor
