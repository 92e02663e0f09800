/-
  The machines beneath, within an access's block.
-/
import Derived.Test.YtmlgohknbjfciaaGreatDoorDm
import Derived.Test.YtmlgohknbjfciaaGreatDoorSCallsA
import Derived.Test.YtmlgohknbjfciaaGreatDoorDs3
namespace Go.Proofs.YtmlgohknbjfciaaGreatDoor
set_option linter.unusedVariables false
set_option maxRecDepth 100000
open H.Plain (hw pS pC pN pM pG pT pL mv)

def hwC (fx : Bool) : Hw := ⟨false, true, fx, 0⟩
/-- the sentinel, and its word -/
def nine : Vl := ⟨0, 9⟩
/-- it would lay the sentinel down -/
def lays (r : Rq) : Prop := r.op ≠ 1 ∧ r.y = nine
instance (r : Rq) : Decidable (lays r) := by unfold lays; exact inferInstance
/-- where an access stands -/
inductive Cw where
  | fin (b : Bool) (o : Ou)
  | hd (r : Rq) (sh fx : Bool)
  | bl (r : Rq) (sh fx : Bool)
  | rd (r : Rq) (sh fx : Bool) (l : Int)
  | sw (r : Rq) (sh fx : Bool) (l z : Int)
  | pl (x : Sx)
  | dr (b : Bool) (x : Sx)
namespace Cw
def hit : Cw → Bool
  | .fin b _ => b
  | .sw _ _ _ _ _ => true
  | .pl x => x.hit
  | .dr b _ => b
  | _ => false
def o : Cw → Ou
  | .fin _ o => o
  | _ => Ou.zero
def done : Cw → Bool
  | .fin _ _ => true
  | _ => false
/-- on with a Direct at a base -/
def go (b : Bool) (r : Rq) (fx : Bool) (base : Int) : Cw := .dr b (Sx.new (base + 1 + r.fd) r (hwC fx))
def onP (y : Sx) : Cw := if y.done then .fin y.hit y.o else .pl y
def onD (y : Sx) : Cw := if y.done then .fin y.hit y.o else .dr y.hit y
def new (r : Rq) (e : En) : Cw := if r.at_ = 0 then .fin false ⟨14, Vl.zero, false⟩ else if e.md < 5 then .pl (Sx.plain r e) else .hd r (decide (7 ≤ e.md)) (e.md == 8)
/-- behind step 3, where the field has g -/
def seen (r : Rq) (sh fx : Bool) (l g : Int) : Cw :=
  if g = 72 then go true r fx l
  else if r.op = 1 then .fin true ⟨0, Vl.of g, false⟩
  else if r.op = 3 ∧ Vl.of g ≠ r.x then .fin true Ou.zero
  else if sh = true ∨ r.y = nine then .fin true ⟨3, Vl.zero, false⟩
  else .sw r sh fx l g
def next (x : Cw) (s : St) : Cw :=
  match x with
  | .fin b o => .fin b o
  | .hd r sh fx =>
    if r.fd < 0 ∨ pN (s.got r.at_) ≤ r.fd then .fin false ⟨15, Vl.zero, false⟩
    else if pT (s.got r.at_) = 2 then go false r fx (pL (s.got r.at_))
    else if pT (s.got r.at_) = 4 then .rd r sh fx (pL (s.got r.at_))
    else if pT (s.got r.at_) ≠ 5 ∧ lays r then .bl r sh fx
    else go false r fx r.at_
  | .bl r sh fx => if S.Plain.b0 (s.got 16) = 2 then .fin false ⟨3, Vl.zero, false⟩ else go false r fx r.at_
  | .rd r sh fx l => seen r sh fx l (s.got (r.at_ + 1 + r.fd))
  | .sw r sh fx l z => if s.ok1 (r.at_ + 1 + r.fd) z then .fin true ⟨0, Vl.zero, r.op == 3⟩ else .rd r sh fx l
  | .pl x => onP (x.next s)
  | .dr _ x => onD (x.next s)
def mem (x : Cw) (s : St) : St :=
  match x with
  | .fin _ _ => s
  | .hd r _ _ => s.load r.at_
  | .bl r _ _ => s.load 16
  | .rd r _ _ _ => s.load (r.at_ + 1 + r.fd)
  | .sw r _ _ _ z => s.cas (r.at_ + 1 + r.fd) z r.y.w
  | .pl x => x.mem s
  | .dr _ x => x.mem s
end Cw
/-- an object of the block 2, or none -/
def Rq.Ok (r : Rq) : Prop := (r.op = 1 ∨ r.op = 2 ∨ r.op = 3) ∧ 0 ≤ r.at_ ∧ r.at_ < 128 ∧ 0 ≤ r.fd ∧ r.fd < 4096 ∧ (r.at_ = 0 ∨ 96 ≤ r.at_)
def Rq.Ok2 (r : Rq) : Prop := (r.op = 1 ∨ r.op = 2 ∨ r.op = 3) ∧ 96 ≤ r.at_ ∧ r.at_ < 128 ∧ 0 ≤ r.fd ∧ r.fd < 4096
def In12 (l : Int) : Prop := 0 ≤ l ∧ l < 4096
def Cw.Ok : Cw → Prop
  | .fin _ _ => True
  | .hd r _ _ => r.Ok2
  | .bl r _ _ => r.Ok2
  | .rd r _ _ l => r.Ok2 ∧ In12 l
  | .sw r _ _ l z => r.Ok2 ∧ In12 l ∧ U64 z ∧ r.op ≠ 1
  | .pl x => x.Ok ∧ x.done = false
  | .dr _ x => x.Ok ∧ x.done = false
theorem new_notdone {f : Int} {r : Rq} {h : Hw} (hop : r.op = 1 ∨ r.op = 2 ∨ r.op = 3) : (Sx.new f r h).done = false := by
  rcases hop with e | e | e <;> simp [Sx.new, firstK, e, Sx.done]
theorem in12_pL (z : Int) : In12 (pL z) := by unfold In12 H.Plain.pL; omega
namespace Cw
variable {x : Cw} {s : St} {r : Rq} {sh fx : Bool}
theorem ok_go (h : r.Ok2) (b fx : Bool) (l : Int) : (go b r fx l).Ok := ⟨Sx.ok_new _ _ _, new_notdone h.1⟩
theorem ok_onP {y : Sx} (h : y.Ok) : (onP y).Ok := by
  unfold onP
  split
  · trivial
  · rename_i e; exact ⟨h, by simpa using e⟩
theorem ok_onD {y : Sx} (h : y.Ok) : (onD y).Ok := by
  unfold onD
  split
  · trivial
  · rename_i e; exact ⟨h, by simpa using e⟩
theorem ok_new {e : En} (h : r.Ok) : (Cw.new r e).Ok := by
  obtain ⟨h1, h2, h3, h4, h5, h6⟩ := h
  unfold Cw.new
  split
  · trivial
  · split
    · rename_i h0 _
      exact ⟨Sx.ok_plain e h2 (by omega), by unfold Sx.plain; rw [if_neg h0]; rfl⟩
    · exact ⟨h1, by omega, h3, h4, h5⟩
theorem ok_seen {l g : Int} (h : r.Ok2) (hl : In12 l) (hg : U64 g) : (seen r sh fx l g).Ok := by
  unfold seen
  split
  · exact ok_go h _ _ _
  · split
    · trivial
    · split
      · trivial
      · split
        · trivial
        · exact ⟨h, hl, hg, by assumption⟩
theorem Ok.next (h : x.Ok) (r : s.Rng) : (x.next s).Ok := by
  cases x with
  | fin b o => trivial
  | hd q sh fx =>
    simp only [Cw.next]
    split
    · trivial
    · split
      · exact ok_go h _ _ _
      · split
        · exact ⟨h, in12_pL _⟩
        · split
          · exact h
          · exact ok_go h _ _ _
  | bl q sh fx =>
    simp only [Cw.next]
    split
    · trivial
    · exact ok_go h _ _ _
  | rd q sh fx l => exact ok_seen h.1 h.2 (r.got _)
  | sw q sh fx l z =>
    simp only [Cw.next]
    split
    · trivial
    · exact ⟨h.1, h.2.1⟩
  | pl x => exact ok_onP (h.1.next r)
  | dr b x => exact ok_onD (h.1.next r)
theorem rng (h : x.Ok) (r : s.Rng) : (x.mem s).Rng := by
  cases x with
  | sw q sh fx l z => exact r.cas _ _ (Vl.u64 _)
  | pl x => exact Sx.rng h.1 r
  | dr b x => exact Sx.rng h.1 r
  | _ => exact r
theorem fit (h : x.Ok) (f : s.Fit) (hc : s.c < 1000000) : (x.mem s).Fit := by
  cases x with
  | fin b o => exact f
  | sw q sh fx l z => exact f.cas hc _ _ _
  | pl x => exact Sx.fit h.1 f hc
  | dr b x => exact Sx.fit h.1 f hc
  | _ => exact f.load hc _
theorem cnt (h : x.Ok) : (x.mem s).c ≤ s.c + 1 := by
  cases x with
  | fin b o => simp only [Cw.mem]; omega
  | sw q sh fx l z => simp only [Cw.mem, St.c_cas]; omega
  | pl x => exact Sx.cnt h.1
  | dr b x => exact Sx.cnt h.1
  | _ => simp only [Cw.mem, St.c_load]; omega
theorem len (h : x.Ok) : (x.mem s).ws.length = s.ws.length := by
  cases x with
  | sw q sh fx l z => exact St.n_cas _ _ _ _
  | pl x => exact Sx.len h.1
  | dr b x => exact Sx.len h.1
  | _ => rfl
end Cw

/-! ### as cells -/
/-- what is done next, as a function -/
def stFn : Nat → Value
  | 1 => .func (.func 44) #[] #[]
  | 2 => .func (.func 75) #[] #[]
  | 3 => .func (.func 72) #[] #[]
  | 4 => .func (.func 93) #[] #[]
  | 5 => .func (.func 42) #[] #[]
  | 6 => .func (.func 88) #[] #[]
  | _ => .nilFunc
/-- a plan -/
structure Pn where
  t : Int
  b : Int
  tb : Int
  hp : Int
  sz : Int
/-- the laws' one -/
def pn4 : Pn := ⟨4, 4, 14, 32, 160⟩
/-- an access as its block has it: also what it needs no more -/
structure Ax where
  n : Pn
  r : Rq
  al : Vl
  sh : Bool
  h : Hw
  pc : Nat
  l : Int
  z : Int
  p : Sx
  vp : Value
  d : Sx
  vd : Value
  hit : Bool
  o : Ou
def Ax.cells (a : Ax) : Array Value := #[.int .i64 a.n.t, .int .i64 a.n.b, .int .i64 a.n.tb, .int .i64 a.n.hp, .int .i64 a.n.sz, .int .i64 a.r.op, .int .i64 a.r.at_, .int .i64 a.r.fd, .int .i64 a.r.x.k, .int .i64 a.r.x.n, .int .i64 a.r.y.k, .int .i64 a.r.y.n, .int .i64 a.al.k, .int .i64 a.al.n, .bool a.sh, .bool a.h.sh, .bool a.h.ca, .bool a.h.fx, .int .i64 a.h.mr, stFn a.pc, .int .i64 a.l, .int .u64 a.z,
  a.vp, .bool a.p.hit, .int .i64 a.p.o.c, .int .i64 a.p.o.v.k, .int .i64 a.p.o.v.n, .bool a.p.o.y, a.vd, .bool a.d.hit, .int .i64 a.d.o.c, .int .i64 a.d.o.v.k, .int .i64 a.d.o.v.n, .bool a.d.o.y, .bool a.hit, .int .i64 a.o.c, .int .i64 a.o.v.k, .int .i64 a.o.v.n, .bool a.o.y]
/-- what it was asked, and knows -/
structure Ax.On (a : Ax) (r : Rq) (sh fx : Bool) : Prop where
  n : a.n = pn4
  r : a.r = r
  al : a.al = nine
  sh : a.sh = sh
  h : a.h = hwC fx
  o : a.o = Ou.zero
/-- a block's cells are those of an access that stands there -/
def Ax.Is (w : World) (a : Ax) : Cw → Prop
  | .fin b o => a.pc = 0 ∧ a.hit = b ∧ a.o = o
  | .hd r sh fx => a.pc = 1 ∧ a.hit = false ∧ a.On r sh fx
  | .bl r sh fx => a.pc = 2 ∧ a.hit = false ∧ a.On r sh fx
  | .rd r sh fx l => a.pc = 3 ∧ a.hit = false ∧ a.On r sh fx ∧ a.l = l
  | .sw r sh fx l z => a.pc = 4 ∧ a.hit = true ∧ a.On r sh fx ∧ a.l = l ∧ a.z = z
  | .pl x => a.pc = 5 ∧ a.hit = x.hit ∧ a.o = Ou.zero ∧ a.p = x ∧ RepO w x.k a.vp
  | .dr b x => a.pc = 6 ∧ a.hit = b ∧ a.o = Ou.zero ∧ a.d = x ∧ RepO w x.k a.vd
theorem Ax.Is.hit {w : World} {a : Ax} {x : Cw} (h : a.Is w x) : a.hit = x.hit := by
  cases x with
  | fin b o => exact h.2.1
  | _ => exact h.2.1
theorem Ax.Is.out {w : World} {a : Ax} {x : Cw} (h : a.Is w x) : a.o = x.o := by
  cases x with
  | fin b o => exact h.2.2
  | hd r sh fx => exact h.2.2.o
  | bl r sh fx => exact h.2.2.o
  | rd r sh fx l => exact h.2.2.1.o
  | sw r sh fx l z => exact h.2.2.1.o
  | pl x => exact h.2.2.1
  | dr b x => exact h.2.2.1
theorem Ax.Is.oth {w w' : World} {a : Ax} {x : Cw} {F : List Nat} (h : a.Is w x) (o : Oth F w w') (hF : ∀ q ∈ F, ∃ cs T fz, w.heap[q]? = some (.cells cs T fz) ∧ T ∉ BTs) : a.Is w' x := by
  cases x with
  | pl x => obtain ⟨h1, h2, h3, h4, h5⟩ := h; exact ⟨h1, h2, h3, h4, h5.oth o hF⟩
  | dr b x => obtain ⟨h1, h2, h3, h4, h5⟩ := h; exact ⟨h1, h2, h3, h4, h5.oth o hF⟩
  | _ => exact h
end Go.Proofs.YtmlgohknbjfciaaGreatDoor

namespace Go.Proofs.YtmlgohknbjfciaaGreatDoor
set_option linter.unusedVariables false
set_option maxRecDepth 100000
open Go.ChangeShapes Go.WideShapes Go.RowKit
section
variable {w w1 : World} {L L1 : Loc} {s : St} {p n : Nat} {T : TypeId}
/-- six cells of a block are written -/
def put6W (w : World) (n i : Nat) (v0 v1 v2 v3 v4 v5 : Value) : World := (((((w.setCell ⟨n, i, none⟩ v0).setCell ⟨n, i + 1, none⟩ v1).setCell ⟨n, i + 2, none⟩ v2).setCell ⟨n, i + 3, none⟩ v3).setCell ⟨n, i + 4, none⟩ v4).setCell ⟨n, i + 5, none⟩ v5
theorem At.put6at {TM : TypeId} {cs : Array Value} (A : At TM w1 L1 s n T cs) (i : Nat) (v0 v1 v2 v3 v4 v5 : Value) :
    At TM (put6W w1 n i v0 v1 v2 v3 v4 v5) L1 s n T ((((((cs.setIfInBounds i v0).setIfInBounds (i + 1) v1).setIfInBounds (i + 2) v2).setIfInBounds (i + 3) v3).setIfInBounds (i + 4) v4).setIfInBounds (i + 5) v5) :=
  (((((A.set i v0).set (i + 1) v1).set (i + 2) v2).set (i + 3) v3).set (i + 4) v4).set (i + 5) v5
theorem Went.put6at (w1 : World) (L1 : Loc) (n i : Nat) (v0 v1 v2 v3 v4 v5 : Value) : Went w1 L1 n (put6W w1 n i v0 v1 v2 v3 v4 v5) L1 :=
  (((((Went.set w1 L1 n i v0).trans (Went.set _ _ _ (i + 1) v1)).trans (Went.set _ _ _ (i + 2) v2)).trans (Went.set _ _ _ (i + 3) v3)).trans (Went.set _ _ _ (i + 4) v4)).trans (Went.set _ _ _ (i + 5) v5)
theorem Kept.put6at (w1 : World) (n i : Nat) (v0 v1 v2 v3 v4 v5 : Value) : Kept [n] w1 (put6W w1 n i v0 v1 v2 v3 v4 v5) :=
  (((((Kept.setCell [n] w1 ⟨n, i, none⟩ _ (by simp)).trans (Kept.setCell [n] _ ⟨n, i + 1, none⟩ _ (by simp)) fun _ h => .inl h).trans (Kept.setCell [n] _ ⟨n, i + 2, none⟩ _ (by simp)) fun _ h => .inl h).trans (Kept.setCell [n] _ ⟨n, i + 3, none⟩ _ (by simp)) fun _ h => .inl h).trans (Kept.setCell [n] _ ⟨n, i + 4, none⟩ _ (by simp)) fun _ h => .inl h).trans (Kept.setCell [n] _ ⟨n, i + 5, none⟩ _ (by simp)) fun _ h => .inl h
theorem RepO.put6at {TM : TypeId} {a : Array Value} {o : Option K} {v : Value} (R : RepO w1 o v) (A : At TM w1 L1 s n T a) (hB : T ∉ BTs) (i : Nat) (v0 v1 v2 v3 v4 v5 : Value) : RepO (put6W w1 n i v0 v1 v2 v3 v4 v5) o v :=
  R.oth (F := [n]) (Oth.kept (Kept.put6at ..)) fun q hq => by simp at hq; subst hq; exact ⟨_, _, _, A.blk, hB⟩
end
section
variable {w : World} {L : Loc} {s : St} {p : Nat} {a : Ax}
theorem cellsP (a : Ax) (x : Sx) (v : Value) : ((((((a.cells.setIfInBounds 22 v).setIfInBounds 23 (.bool x.hit)).setIfInBounds 24 (.int .i64 x.o.c)).setIfInBounds 25 (.int .i64 x.o.v.k)).setIfInBounds 26 (.int .i64 x.o.v.n)).setIfInBounds 27 (.bool x.o.y)) = ({ a with p := x, vp := v } : Ax).cells := by
  simp [Ax.cells]
/-- a machine's step within the block -/
theorem cState0P (A : At 133 w L s p 112 a.cells) (hv : a.vp = .nilFunc) :
    Calls Tryz.prog 85 #[.pointer (some ⟨p, 22, none⟩), pt L.b] w fun e w' => e = .returned (.bool true) ∧ w' = w := by
  have c0 : w.cell? ⟨p, 22, none⟩ = some .nilFunc := hv ▸ A.cell 22
  have n1 : ∀ w, (binOp .neq 105 .nilFunc .nilFunc).run Tryz.prog w = .ok (.bool false) w := fun _ => by kernel_rfl
  have n2 : ∀ w, (binOp .eql 105 .nilFunc .nilFunc).run Tryz.prog w = .ok (.bool true) w := fun _ => by kernel_rfl
  go_enter Tryz.func85, Tryz.ntmps85
  go_wp2
  go_ret
  exact ⟨rfl, rfl⟩
set_option maxHeartbeats 1000000 in
theorem cState1P {f : Nat} {cs : Array Value} {x : Sx} {s' : St} (A : At 133 w L s p 112 a.cells) (hf : a.vp = .func (.func f) #[] cs) (hk : x.k = none)
    (hen : Enters Tryz.prog f) (hcall : Calls Tryz.prog f (#[pt L.b] ++ cs) w fun e w' => Ran w L x s' e w') :
    Calls Tryz.prog 85 #[.pointer (some ⟨p, 22, none⟩), pt L.b] w fun e w' => e = .returned (.bool x.done) ∧ ∃ v L', At 133 w' L' s' p 112 ({ a with p := x, vp := v } : Ax).cells ∧ Went w L p w' L' ∧ RepO w' x.k v := by
  have c0 : w.cell? ⟨p, 22, none⟩ = some (.func (.func f) #[] cs) := hf ▸ A.cell 22
  have e0 := fneq f cs
  have n2 : ∀ w, (binOp .eql 105 .nilFunc .nilFunc).run Tryz.prog w = .ok (.bool true) w := fun _ => by kernel_rfl
  go_enter Tryz.func85, Tryz.ntmps85
  go_wp2_with (fail)
  rw [hen, Oper.upon_enter]
  refine hcall.mono ?_
  rintro e w1 ⟨v, L1, rfl, hm1, st, R⟩
  rw [hk] at R
  have hv : v = .nilFunc := R
  clear R
  subst hv
  unfold Sx.cells
  have A1 := A.step hm1 st
  have z0 : w1.cell? ⟨p, 22, none⟩ = some (a.vp) := A1.cell 22
  have zf0 := A1.free 22
  have z1 : w1.cell? ⟨p, 23, none⟩ = some (.bool a.p.hit) := A1.cell 23
  have zf1 := A1.free 23
  have z2 : w1.cell? ⟨p, 24, none⟩ = some (.int .i64 a.p.o.c) := A1.cell 24
  have zf2 := A1.free 24
  have z3 : w1.cell? ⟨p, 25, none⟩ = some (.int .i64 a.p.o.v.k) := A1.cell 25
  have zf3 := A1.free 25
  have z4 : w1.cell? ⟨p, 26, none⟩ = some (.int .i64 a.p.o.v.n) := A1.cell 26
  have zf4 := A1.free 26
  have z5 : w1.cell? ⟨p, 27, none⟩ = some (.bool a.p.o.y) := A1.cell 27
  have zf5 := A1.free 27
  go_wp2
  go_ret
  exact ⟨by simp [Sx.done, hk], _, L1, cellsP a x .nilFunc ▸ A1.put6at 22 .nilFunc (.bool x.hit) (.int .i64 x.o.c) (.int .i64 x.o.v.k) (.int .i64 x.o.v.n) (.bool x.o.y), (Went.of_step st p).trans (Went.put6at w1 L1 p 22 _ _ _ _ _ _), (by rw [hk]; rfl)⟩
set_option maxHeartbeats 1000000 in
theorem cState2P {f : Nat} {cs : Array Value} {x : Sx} {s' : St} (A : At 133 w L s p 112 a.cells) (hf : a.vp = .func (.func f) #[] cs) {k' : K} (hk : x.k = some k')
    (hen : Enters Tryz.prog f) (hcall : Calls Tryz.prog f (#[pt L.b] ++ cs) w fun e w' => Ran w L x s' e w') :
    Calls Tryz.prog 85 #[.pointer (some ⟨p, 22, none⟩), pt L.b] w fun e w' => e = .returned (.bool x.done) ∧ ∃ v L', At 133 w' L' s' p 112 ({ a with p := x, vp := v } : Ax).cells ∧ Went w L p w' L' ∧ RepO w' x.k v := by
  have c0 : w.cell? ⟨p, 22, none⟩ = some (.func (.func f) #[] cs) := hf ▸ A.cell 22
  have e0 := fneq f cs
  have n2 := feql
  go_enter Tryz.func85, Tryz.ntmps85
  go_wp2_with (fail)
  rw [hen, Oper.upon_enter]
  refine hcall.mono ?_
  rintro e w1 ⟨v, L1, rfl, hm1, st, R⟩
  rw [hk] at R
  obtain ⟨nf, cf, hv⟩ := Rep.fn R
  rw [hv] at R ⊢
  clear hv
  unfold Sx.cells
  have A1 := A.step hm1 st
  have z0 : w1.cell? ⟨p, 22, none⟩ = some (a.vp) := A1.cell 22
  have zf0 := A1.free 22
  have z1 : w1.cell? ⟨p, 23, none⟩ = some (.bool a.p.hit) := A1.cell 23
  have zf1 := A1.free 23
  have z2 : w1.cell? ⟨p, 24, none⟩ = some (.int .i64 a.p.o.c) := A1.cell 24
  have zf2 := A1.free 24
  have z3 : w1.cell? ⟨p, 25, none⟩ = some (.int .i64 a.p.o.v.k) := A1.cell 25
  have zf3 := A1.free 25
  have z4 : w1.cell? ⟨p, 26, none⟩ = some (.int .i64 a.p.o.v.n) := A1.cell 26
  have zf4 := A1.free 26
  have z5 : w1.cell? ⟨p, 27, none⟩ = some (.bool a.p.o.y) := A1.cell 27
  have zf5 := A1.free 27
  go_wp2
  go_ret
  exact ⟨by simp [Sx.done, hk], _, L1, cellsP a x (.func (.func nf) #[] cf) ▸ A1.put6at 22 (.func (.func nf) #[] cf) (.bool x.hit) (.int .i64 x.o.c) (.int .i64 x.o.v.k) (.int .i64 x.o.v.n) (.bool x.o.y), (Went.of_step st p).trans (Went.put6at w1 L1 p 22 _ _ _ _ _ _), (by rw [hk]; exact RepO.put6at (o := some k') R A1 (by decide) _ _ _ _ _ _ _)⟩
theorem cStateP {x : Sx} (A : At 133 w L s p 112 a.cells) (hx : a.p = x) (R : RepO w x.k a.vp) (ok : x.Ok) (ft : s.Fit) (hc : s.c < 1000000) (rr : s.Rng) :
    Calls Tryz.prog 85 #[.pointer (some ⟨p, 22, none⟩), pt L.b] w fun e w' => e = .returned (.bool (x.next s).done) ∧ ∃ v' L', At 133 w' L' (x.mem s) p 112 ({ a with p := x.next s, vp := v' } : Ax).cells ∧ Went w L p w' L' ∧ RepO w' (x.next s).k v' := by
  obtain ⟨k, hit, o⟩ := x
  cases k with
  | none =>
    have hv : a.vp = .nilFunc := R
    refine (cState0P A hv).mono ?_
    rintro e w' ⟨rfl, rfl⟩
    refine ⟨rfl, .nilFunc, L, ?_, Went.refl _ _ _, rfl⟩
    have : ({ a with p := ⟨none, hit, o⟩, vp := .nilFunc } : Ax) = a := by
      obtain ⟨_, _, _, _, _, _, _, _, _, _, _, _, _, _⟩ := a
      simp only at hx hv
      subst hx hv
      rfl
    rw [show (Sx.mk none hit o).next s = ⟨none, hit, o⟩ from rfl, this]
    exact A
  | some k =>
    obtain ⟨n, cs, hv, hen, hcall⟩ := cK A.mem ft hc rr A.wid A.zero.1 (show Rep w k a.vp from R) (ok k rfl)
    cases hk : (k.next s).k with
    | none => exact cState1P A hv hk hen hcall
    | some k' => exact cState2P A hv hk hen hcall
theorem cPStepI {x : Sx} (A : At 133 w L s p 112 a.cells) (hx : a.p = x) (R : RepO w x.k a.vp) (ok : x.Ok) (ft : s.Fit) (hc : s.c < 1000000) (rr : s.Rng) :
    Calls Tryz.prog 63 #[.pointer (some ⟨p, 22, none⟩), pt L.b] w fun e w' => e = .returned (.bool (x.next s).done) ∧ ∃ v' L', At 133 w' L' (x.mem s) p 112 ({ a with p := x.next s, vp := v' } : Ax).cells ∧ Went w L p w' L' ∧ RepO w' (x.next s).k v' := by
  obtain ⟨d, hd⟩ : ∃ d, (x.next s).done = d := ⟨_, rfl⟩
  rw [hd]
  go_enter Tryz.func63, Tryz.ntmps63
  go_wp2_with (go_at_call 85; refine (cStateP A hx R ok ft hc rr).mono ?_; rintro e w1 ⟨rfl, H1⟩; rw [hd])
  go_ret
  exact ⟨rfl, H1⟩
theorem cPHitI {b : Bool} (c : w.cell? ⟨p, 23, none⟩ = some (.bool b)) : Calls Tryz.prog 66 #[.pointer (some ⟨p, 22, none⟩)] w fun e w' => e = .returned (.bool b) ∧ w' = w := by
  go_enter Tryz.func66, Tryz.ntmps66
  go_wp2
  go_ret
  exact ⟨rfl, rfl⟩
theorem cPResultI {o : Ou} (l : p < w.heap.size) (c2 : w.cell? ⟨p, 24, none⟩ = some (.int .i64 o.c)) (c3 : w.cell? ⟨p, 25, none⟩ = some (.int .i64 o.v.k)) (c4 : w.cell? ⟨p, 26, none⟩ = some (.int .i64 o.v.n)) (c5 : w.cell? ⟨p, 27, none⟩ = some (.bool o.y)) : Calls Tryz.prog 65 #[.pointer (some ⟨p, 22, none⟩)] w fun e w' => e = .returned o.val ∧ Below w.heap.size w w' := by
  go_enter Tryz.func65, Tryz.ntmps65
  go_wp2
  exact bodyPost_ret (v := o.val) (by simp [results, Tryz.results65, go_sem, Ou.val]) rfl ⟨rfl, by go_grown⟩
end
section
variable {w : World} {L : Loc} {s : St} {p : Nat} {a : Ax}
theorem cellsD (a : Ax) (x : Sx) (v : Value) : ((((((a.cells.setIfInBounds 28 v).setIfInBounds 29 (.bool x.hit)).setIfInBounds 30 (.int .i64 x.o.c)).setIfInBounds 31 (.int .i64 x.o.v.k)).setIfInBounds 32 (.int .i64 x.o.v.n)).setIfInBounds 33 (.bool x.o.y)) = ({ a with d := x, vd := v } : Ax).cells := by
  simp [Ax.cells]
/-- a machine's step within the block -/
theorem cState0D (A : At 133 w L s p 112 a.cells) (hv : a.vd = .nilFunc) :
    Calls Tryz.prog 85 #[.pointer (some ⟨p, 28, none⟩), pt L.b] w fun e w' => e = .returned (.bool true) ∧ w' = w := by
  have c0 : w.cell? ⟨p, 28, none⟩ = some .nilFunc := hv ▸ A.cell 28
  have n1 : ∀ w, (binOp .neq 105 .nilFunc .nilFunc).run Tryz.prog w = .ok (.bool false) w := fun _ => by kernel_rfl
  have n2 : ∀ w, (binOp .eql 105 .nilFunc .nilFunc).run Tryz.prog w = .ok (.bool true) w := fun _ => by kernel_rfl
  go_enter Tryz.func85, Tryz.ntmps85
  go_wp2
  go_ret
  exact ⟨rfl, rfl⟩
set_option maxHeartbeats 1000000 in
theorem cState1D {f : Nat} {cs : Array Value} {x : Sx} {s' : St} (A : At 133 w L s p 112 a.cells) (hf : a.vd = .func (.func f) #[] cs) (hk : x.k = none)
    (hen : Enters Tryz.prog f) (hcall : Calls Tryz.prog f (#[pt L.b] ++ cs) w fun e w' => Ran w L x s' e w') :
    Calls Tryz.prog 85 #[.pointer (some ⟨p, 28, none⟩), pt L.b] w fun e w' => e = .returned (.bool x.done) ∧ ∃ v L', At 133 w' L' s' p 112 ({ a with d := x, vd := v } : Ax).cells ∧ Went w L p w' L' ∧ RepO w' x.k v := by
  have c0 : w.cell? ⟨p, 28, none⟩ = some (.func (.func f) #[] cs) := hf ▸ A.cell 28
  have e0 := fneq f cs
  have n2 : ∀ w, (binOp .eql 105 .nilFunc .nilFunc).run Tryz.prog w = .ok (.bool true) w := fun _ => by kernel_rfl
  go_enter Tryz.func85, Tryz.ntmps85
  go_wp2_with (fail)
  rw [hen, Oper.upon_enter]
  refine hcall.mono ?_
  rintro e w1 ⟨v, L1, rfl, hm1, st, R⟩
  rw [hk] at R
  have hv : v = .nilFunc := R
  clear R
  subst hv
  unfold Sx.cells
  have A1 := A.step hm1 st
  have z0 : w1.cell? ⟨p, 28, none⟩ = some (a.vd) := A1.cell 28
  have zf0 := A1.free 28
  have z1 : w1.cell? ⟨p, 29, none⟩ = some (.bool a.d.hit) := A1.cell 29
  have zf1 := A1.free 29
  have z2 : w1.cell? ⟨p, 30, none⟩ = some (.int .i64 a.d.o.c) := A1.cell 30
  have zf2 := A1.free 30
  have z3 : w1.cell? ⟨p, 31, none⟩ = some (.int .i64 a.d.o.v.k) := A1.cell 31
  have zf3 := A1.free 31
  have z4 : w1.cell? ⟨p, 32, none⟩ = some (.int .i64 a.d.o.v.n) := A1.cell 32
  have zf4 := A1.free 32
  have z5 : w1.cell? ⟨p, 33, none⟩ = some (.bool a.d.o.y) := A1.cell 33
  have zf5 := A1.free 33
  go_wp2
  go_ret
  exact ⟨by simp [Sx.done, hk], _, L1, cellsD a x .nilFunc ▸ A1.put6at 28 .nilFunc (.bool x.hit) (.int .i64 x.o.c) (.int .i64 x.o.v.k) (.int .i64 x.o.v.n) (.bool x.o.y), (Went.of_step st p).trans (Went.put6at w1 L1 p 28 _ _ _ _ _ _), (by rw [hk]; rfl)⟩
set_option maxHeartbeats 1000000 in
theorem cState2D {f : Nat} {cs : Array Value} {x : Sx} {s' : St} (A : At 133 w L s p 112 a.cells) (hf : a.vd = .func (.func f) #[] cs) {k' : K} (hk : x.k = some k')
    (hen : Enters Tryz.prog f) (hcall : Calls Tryz.prog f (#[pt L.b] ++ cs) w fun e w' => Ran w L x s' e w') :
    Calls Tryz.prog 85 #[.pointer (some ⟨p, 28, none⟩), pt L.b] w fun e w' => e = .returned (.bool x.done) ∧ ∃ v L', At 133 w' L' s' p 112 ({ a with d := x, vd := v } : Ax).cells ∧ Went w L p w' L' ∧ RepO w' x.k v := by
  have c0 : w.cell? ⟨p, 28, none⟩ = some (.func (.func f) #[] cs) := hf ▸ A.cell 28
  have e0 := fneq f cs
  have n2 := feql
  go_enter Tryz.func85, Tryz.ntmps85
  go_wp2_with (fail)
  rw [hen, Oper.upon_enter]
  refine hcall.mono ?_
  rintro e w1 ⟨v, L1, rfl, hm1, st, R⟩
  rw [hk] at R
  obtain ⟨nf, cf, hv⟩ := Rep.fn R
  rw [hv] at R ⊢
  clear hv
  unfold Sx.cells
  have A1 := A.step hm1 st
  have z0 : w1.cell? ⟨p, 28, none⟩ = some (a.vd) := A1.cell 28
  have zf0 := A1.free 28
  have z1 : w1.cell? ⟨p, 29, none⟩ = some (.bool a.d.hit) := A1.cell 29
  have zf1 := A1.free 29
  have z2 : w1.cell? ⟨p, 30, none⟩ = some (.int .i64 a.d.o.c) := A1.cell 30
  have zf2 := A1.free 30
  have z3 : w1.cell? ⟨p, 31, none⟩ = some (.int .i64 a.d.o.v.k) := A1.cell 31
  have zf3 := A1.free 31
  have z4 : w1.cell? ⟨p, 32, none⟩ = some (.int .i64 a.d.o.v.n) := A1.cell 32
  have zf4 := A1.free 32
  have z5 : w1.cell? ⟨p, 33, none⟩ = some (.bool a.d.o.y) := A1.cell 33
  have zf5 := A1.free 33
  go_wp2
  go_ret
  exact ⟨by simp [Sx.done, hk], _, L1, cellsD a x (.func (.func nf) #[] cf) ▸ A1.put6at 28 (.func (.func nf) #[] cf) (.bool x.hit) (.int .i64 x.o.c) (.int .i64 x.o.v.k) (.int .i64 x.o.v.n) (.bool x.o.y), (Went.of_step st p).trans (Went.put6at w1 L1 p 28 _ _ _ _ _ _), (by rw [hk]; exact RepO.put6at (o := some k') R A1 (by decide) _ _ _ _ _ _ _)⟩
theorem cStateD {x : Sx} (A : At 133 w L s p 112 a.cells) (hx : a.d = x) (R : RepO w x.k a.vd) (ok : x.Ok) (ft : s.Fit) (hc : s.c < 1000000) (rr : s.Rng) :
    Calls Tryz.prog 85 #[.pointer (some ⟨p, 28, none⟩), pt L.b] w fun e w' => e = .returned (.bool (x.next s).done) ∧ ∃ v' L', At 133 w' L' (x.mem s) p 112 ({ a with d := x.next s, vd := v' } : Ax).cells ∧ Went w L p w' L' ∧ RepO w' (x.next s).k v' := by
  obtain ⟨k, hit, o⟩ := x
  cases k with
  | none =>
    have hv : a.vd = .nilFunc := R
    refine (cState0D A hv).mono ?_
    rintro e w' ⟨rfl, rfl⟩
    refine ⟨rfl, .nilFunc, L, ?_, Went.refl _ _ _, rfl⟩
    have : ({ a with d := ⟨none, hit, o⟩, vd := .nilFunc } : Ax) = a := by
      obtain ⟨_, _, _, _, _, _, _, _, _, _, _, _, _, _⟩ := a
      simp only at hx hv
      subst hx hv
      rfl
    rw [show (Sx.mk none hit o).next s = ⟨none, hit, o⟩ from rfl, this]
    exact A
  | some k =>
    obtain ⟨n, cs, hv, hen, hcall⟩ := cK A.mem ft hc rr A.wid A.zero.1 (show Rep w k a.vd from R) (ok k rfl)
    cases hk : (k.next s).k with
    | none => exact cState1D A hv hk hen hcall
    | some k' => exact cState2D A hv hk hen hcall
theorem cDStepI {x : Sx} (A : At 133 w L s p 112 a.cells) (hx : a.d = x) (R : RepO w x.k a.vd) (ok : x.Ok) (ft : s.Fit) (hc : s.c < 1000000) (rr : s.Rng) :
    Calls Tryz.prog 106 #[.pointer (some ⟨p, 28, none⟩), pt L.b] w fun e w' => e = .returned (.bool (x.next s).done) ∧ ∃ v' L', At 133 w' L' (x.mem s) p 112 ({ a with d := x.next s, vd := v' } : Ax).cells ∧ Went w L p w' L' ∧ RepO w' (x.next s).k v' := by
  obtain ⟨d, hd⟩ : ∃ d, (x.next s).done = d := ⟨_, rfl⟩
  rw [hd]
  go_enter Tryz.func106, Tryz.ntmps106
  go_wp2_with (go_at_call 85; refine (cStateD A hx R ok ft hc rr).mono ?_; rintro e w1 ⟨rfl, H1⟩; rw [hd])
  go_ret
  exact ⟨rfl, H1⟩
theorem cDHitI {b : Bool} (c : w.cell? ⟨p, 29, none⟩ = some (.bool b)) : Calls Tryz.prog 108 #[.pointer (some ⟨p, 28, none⟩)] w fun e w' => e = .returned (.bool b) ∧ w' = w := by
  go_enter Tryz.func108, Tryz.ntmps108
  go_wp2
  go_ret
  exact ⟨rfl, rfl⟩
theorem cDResultI {o : Ou} (l : p < w.heap.size) (c2 : w.cell? ⟨p, 30, none⟩ = some (.int .i64 o.c)) (c3 : w.cell? ⟨p, 31, none⟩ = some (.int .i64 o.v.k)) (c4 : w.cell? ⟨p, 32, none⟩ = some (.int .i64 o.v.n)) (c5 : w.cell? ⟨p, 33, none⟩ = some (.bool o.y)) : Calls Tryz.prog 107 #[.pointer (some ⟨p, 28, none⟩)] w fun e w' => e = .returned o.val ∧ Below w.heap.size w w' := by
  go_enter Tryz.func107, Tryz.ntmps107
  go_wp2
  exact bodyPost_ret (v := o.val) (by simp [results, Tryz.results107, go_sem, Ou.val]) rfl ⟨rfl, by go_grown⟩
end
end Go.Proofs.YtmlgohknbjfciaaGreatDoor
