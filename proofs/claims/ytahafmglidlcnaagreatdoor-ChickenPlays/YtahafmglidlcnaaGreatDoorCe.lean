/-
  The machines beneath, within an access's block; a jump ahead.
-/
import Derived.Test.YtahafmglidlcnaaGreatDoorDm
import Derived.Test.YtahafmglidlcnaaGreatDoorDs3
import Derived.WalkMore
namespace Go.Proofs.YtahafmglidlcnaaGreatDoor
set_option linter.unusedVariables false
set_option maxRecDepth 100000
open H.Plain (hw pS pC pN pM pG pT pL mv)

def hwC (fx : Bool) : Hw := ⟨false, true, fx, 0⟩
def untag (a : Int) : Int := hw (pS a) (pC a) (pN a) (pM a) (pG a) 0 0
/-- where an access stands -/
inductive Cw where
  | fin (b : Bool) (o : Ou)
  | hd (r : Rq) (fx : Bool)
  | rd (r : Rq) (fx : Bool)
  | ag (r : Rq) (fx : Bool) (g : Int)
  | tk (r : Rq) (fx : Bool) (z : Int)
  | pl (x : Sx)
  | dr (x : Sx)
namespace Cw
def hit : Cw → Bool
  | .fin b _ => b
  | .ag _ _ _ => true
  | .pl x => x.hit
  | .dr x => x.hit
  | _ => false
def o : Cw → Ou
  | .fin _ o => o
  | .pl x => x.o
  | .dr x => x.o
  | _ => Ou.zero
def done : Cw → Bool
  | .fin _ _ => true
  | _ => false
/-- on with a Direct at a base -/
def go (r : Rq) (fx : Bool) (base : Int) : Cw := .dr (Sx.new (base + 1 + r.fd) r (hwC fx))
def onP (y : Sx) : Cw := if y.done then .fin y.hit y.o else .pl y
def onD (y : Sx) : Cw := if y.done then .fin y.hit y.o else .dr y
def new (r : Rq) (e : En) : Cw := if r.at_ = 0 then .fin false ⟨14, Vl.zero, false⟩ else if e.md < 5 then .pl (Sx.plain r e) else .hd r (e.md == 8)
def next (x : Cw) (s : St) : Cw :=
  match x with
  | .fin b o => .fin b o
  | .hd r fx =>
    if r.fd < 0 ∨ pN (s.got r.at_) ≤ r.fd then .fin false ⟨15, Vl.zero, false⟩
    else if pT (s.got r.at_) = 2 then go r fx (pL (s.got r.at_))
    else if pT (s.got r.at_) = 1 then (if r.op = 1 then .rd r fx else .tk r fx (s.got r.at_))
    else go r fx r.at_
  | .rd r fx => .ag r fx (s.got (r.at_ + 1 + r.fd))
  | .ag r fx g => if pT (s.got r.at_) = 2 then go r fx (pL (s.got r.at_)) else .fin false ⟨0, Vl.of g, false⟩
  | .tk r fx z => if s.ok1 r.at_ z then go r fx r.at_ else .hd r fx
  | .pl x => onP (x.next s)
  | .dr x => onD (x.next s)
def mem (x : Cw) (s : St) : St :=
  match x with
  | .fin _ _ => s
  | .hd r _ => s.load r.at_
  | .rd r _ => s.load (r.at_ + 1 + r.fd)
  | .ag r _ _ => s.load r.at_
  | .tk r _ z => s.cas r.at_ z (untag z)
  | .pl x => x.mem s
  | .dr x => x.mem s
end Cw
def Rq.Ok (r : Rq) : Prop := (r.op = 1 ∨ r.op = 2 ∨ r.op = 3) ∧ 0 ≤ r.at_ ∧ r.at_ < 4096 ∧ 0 ≤ r.fd ∧ r.fd < 4096
def Cw.Ok : Cw → Prop
  | .fin _ _ => True
  | .hd r _ => r.Ok
  | .rd r _ => r.Ok
  | .ag r _ g => r.Ok ∧ U64 g
  | .tk r _ z => r.Ok ∧ U64 z
  | .pl x => x.Ok ∧ x.done = false
  | .dr x => x.Ok ∧ x.done = false
theorem new_notdone {f : Int} {r : Rq} {h : Hw} (hop : r.op = 1 ∨ r.op = 2 ∨ r.op = 3) : (Sx.new f r h).done = false := by
  rcases hop with e | e | e <;> simp [Sx.new, firstK, e, Sx.done]
namespace Cw
variable {x : Cw} {s : St} {r : Rq} {fx : Bool}
theorem ok_go (h : r.Ok) (fx : Bool) (b : Int) : (go r fx b).Ok := ⟨Sx.ok_new _ _ _, new_notdone h.1⟩
theorem ok_onP {y : Sx} (h : y.Ok) : (onP y).Ok := by
  unfold onP
  split
  · trivial
  · rename_i e; exact ⟨h, by simpa using e⟩
theorem ok_onD {y : Sx} (h : y.Ok) : (onD y).Ok := by
  unfold onD
  split
  · trivial
  · rename_i e; exact ⟨h, by simpa using e⟩
theorem ok_new {e : En} (h : r.Ok) : (Cw.new r e).Ok := by
  unfold Cw.new
  split
  · trivial
  · split
    · rename_i h0 _
      exact ⟨Sx.ok_plain e h.2.1 h.2.2.1, by unfold Sx.plain; rw [if_neg h0]; rfl⟩
    · exact h
theorem Ok.next (h : x.Ok) (r : s.Rng) : (x.next s).Ok := by
  cases x with
  | fin b o => trivial
  | hd q fx =>
    simp only [Cw.next]
    split
    · trivial
    · split
      · exact ok_go h _ _
      · split
        · split
          · exact h
          · exact ⟨h, r.got _⟩
        · exact ok_go h _ _
  | rd q fx => exact ⟨h, r.got _⟩
  | ag q fx g =>
    simp only [Cw.next]
    split
    · exact ok_go h.1 _ _
    · trivial
  | tk q fx z =>
    simp only [Cw.next]
    split
    · exact ok_go h.1 _ _
    · exact h.1
  | pl x => exact ok_onP (h.1.next r)
  | dr x => exact ok_onD (h.1.next r)
theorem len (h : x.Ok) : (x.mem s).ws.length = s.ws.length := by
  cases x with
  | tk q fx z => exact St.n_cas _ _ _ _
  | pl x => exact Sx.len h.1
  | dr x => exact Sx.len h.1
  | _ => rfl
end Cw

/-! ### as cells -/
/-- an access as its block has it: also what it needs no more -/
structure Ax where
  r : Rq
  h : Hw
  pc : Int
  z : Int
  g : Int
  p : Sx
  vp : Value
  d : Sx
  vd : Value
  hit : Bool
  o : Ou
def Ax.cells (a : Ax) : Array Value := #[.int .i64 a.r.op, .int .i64 a.r.at_, .int .i64 a.r.fd, .int .i64 a.r.x.k, .int .i64 a.r.x.n, .int .i64 a.r.y.k, .int .i64 a.r.y.n, .bool a.h.sh, .bool a.h.ca, .bool a.h.fx, .int .i64 a.h.mr, .int .i64 a.pc, .int .u64 a.z, .int .u64 a.g,
  a.vp, .bool a.p.hit, .int .i64 a.p.o.c, .int .i64 a.p.o.v.k, .int .i64 a.p.o.v.n, .bool a.p.o.y, a.vd, .bool a.d.hit, .int .i64 a.d.o.c, .int .i64 a.d.o.v.k, .int .i64 a.d.o.v.n, .bool a.d.o.y, .bool a.hit, .int .i64 a.o.c, .int .i64 a.o.v.k, .int .i64 a.o.v.n, .bool a.o.y]
/-- a block's cells are those of an access that stands there -/
def Ax.Is (w : World) (a : Ax) : Cw → Prop
  | .fin b o => a.pc = 0 ∧ a.hit = b ∧ a.o = o
  | .hd r fx => a.pc = 1 ∧ a.hit = false ∧ a.o = Ou.zero ∧ a.r = r ∧ a.h = hwC fx
  | .rd r fx => a.pc = 2 ∧ a.hit = false ∧ a.o = Ou.zero ∧ a.r = r ∧ a.h = hwC fx
  | .ag r fx g => a.pc = 3 ∧ a.hit = true ∧ a.o = Ou.zero ∧ a.r = r ∧ a.h = hwC fx ∧ a.g = g
  | .tk r fx z => a.pc = 4 ∧ a.hit = false ∧ a.o = Ou.zero ∧ a.r = r ∧ a.h = hwC fx ∧ a.z = z
  | .pl x => a.pc = 5 ∧ a.hit = x.hit ∧ a.o = x.o ∧ a.p = x ∧ RepO w x.k a.vp
  | .dr x => a.pc = 6 ∧ a.hit = x.hit ∧ a.o = x.o ∧ a.d = x ∧ RepO w x.k a.vd
theorem Ax.Is.hit {w : World} {a : Ax} {x : Cw} (h : a.Is w x) : a.hit = x.hit := by
  cases x with
  | fin b o => exact h.2.1
  | _ => exact h.2.1
theorem Ax.Is.out {w : World} {a : Ax} {x : Cw} (h : a.Is w x) : a.o = x.o := by
  cases x with
  | fin b o => exact h.2.2
  | _ => exact h.2.2.1
theorem Ax.Is.oth {w w' : World} {a : Ax} {x : Cw} {F : List Nat} (h : a.Is w x) (o : Oth F w w') (hF : ∀ q ∈ F, ∃ cs T fz, w.heap[q]? = some (.cells cs T fz) ∧ T ∉ BTs) : a.Is w' x := by
  cases x with
  | pl x => obtain ⟨h1, h2, h3, h4, h5⟩ := h; exact ⟨h1, h2, h3, h4, h5.oth o hF⟩
  | dr x => obtain ⟨h1, h2, h3, h4, h5⟩ := h; exact ⟨h1, h2, h3, h4, h5.oth o hF⟩
  | _ => exact h
end Go.Proofs.YtahafmglidlcnaaGreatDoor

namespace Go
/-- a jump to a label of the scope is taken; behind it there is none more -/
def Exit.fwd (P : Program) (c : Code) (Q : Exit → Act → World → Prop) : Exit → Act → World → Prop
  | .goto l, a, w => ∃ rest, findLabel c l = some rest ∧ rest.wp P (Exit.noGoto Q) a w
  | e, a, w => Q e a w
section
variable {P : Program} {a : Act} {w : World} {Q : Exit → Act → World → Prop}
theorem Exit.fwd_ret {c : Code} : Exit.fwd P c Q .ret a w = Q .ret a w := rfl
theorem wp_scope_fwd {c : Code} (first : c.wp P (Exit.fwd P c Q) a w) : (Code.scope c).wp P Q a w := by
  intro b k cs
  obtain ⟨e, a₁, w₁, hq, harr⟩ := first b (.inScope c :: k) cs
  cases e with
  | normal => exact ⟨.normal, a₁, w₁, hq, .head step_scope (Steps.trans harr (.one step_inScope))⟩
  | exit id => exact ⟨.exit id, a₁, w₁, hq, fun k' hk => .head step_scope (harr k' (by simp [exitTo, hk]))⟩
  | goto l =>
    obtain ⟨rest, hf, hr⟩ := hq
    have hg : gotoIn l (.inScope c :: k) = some (.code rest :: .inScope c :: k) := by simp [gotoIn, hf]
    have key : ∃ e a' w', Q e a' w' ∧ Arrives P (lone (b.at a₁ (.code rest :: .inScope c :: k)) cs w₁) b k cs e a' w' := by
      obtain ⟨e, a₂, w₂, hq, harr⟩ := hr b (.inScope c :: k) cs
      cases e with
      | normal => exact ⟨.normal, a₂, w₂, hq, Steps.trans harr (.one step_inScope)⟩
      | exit id => exact ⟨.exit id, a₂, w₂, hq, fun k' hk => harr k' (by simp [exitTo, hk])⟩
      | goto l' => exact hq.elim
      | ret => exact ⟨_, a₂, w₂, hq, harr⟩
      | panic ch => exact ⟨_, a₂, w₂, hq, harr⟩
      | outgrown => exact ⟨_, a₂, w₂, hq, harr⟩
    obtain ⟨e₂, a₂, w₂, hq₂, harr₂⟩ := key
    exact ⟨e₂, a₂, w₂, hq₂, .of_steps (.head step_scope (harr _ hg)) harr₂⟩
  | ret => exact ⟨_, a₁, w₁, hq, .of_steps (.one step_scope) harr⟩
  | panic ch => exact ⟨_, a₁, w₁, hq, .of_steps (.one step_scope) harr⟩
  | outgrown => exact ⟨_, a₁, w₁, hq, .of_steps (.one step_scope) harr⟩
end
end Go
namespace Go.Proofs.YtahafmglidlcnaaGreatDoor
set_option linter.unusedVariables false
set_option maxRecDepth 100000
open Go.ChangeShapes Go.WideShapes Go.RowKit
section
variable {w w1 : World} {L L1 : Loc} {s : St} {p n : Nat} {T : TypeId}
/-- six cells of a block are written -/
def put6W (w : World) (n i : Nat) (v0 v1 v2 v3 v4 v5 : Value) : World := (((((w.setCell ⟨n, i, none⟩ v0).setCell ⟨n, i + 1, none⟩ v1).setCell ⟨n, i + 2, none⟩ v2).setCell ⟨n, i + 3, none⟩ v3).setCell ⟨n, i + 4, none⟩ v4).setCell ⟨n, i + 5, none⟩ v5
theorem At.put6at {TM : TypeId} {cs : Array Value} (A : At TM w1 L1 s n T cs) (i : Nat) (v0 v1 v2 v3 v4 v5 : Value) :
    At TM (put6W w1 n i v0 v1 v2 v3 v4 v5) L1 s n T ((((((cs.setIfInBounds i v0).setIfInBounds (i + 1) v1).setIfInBounds (i + 2) v2).setIfInBounds (i + 3) v3).setIfInBounds (i + 4) v4).setIfInBounds (i + 5) v5) :=
  (((((A.set i v0).set (i + 1) v1).set (i + 2) v2).set (i + 3) v3).set (i + 4) v4).set (i + 5) v5
theorem Went.put6at (w1 : World) (L1 : Loc) (n i : Nat) (v0 v1 v2 v3 v4 v5 : Value) : Went w1 L1 n (put6W w1 n i v0 v1 v2 v3 v4 v5) L1 :=
  (((((Went.set w1 L1 n i v0).trans (Went.set _ _ _ (i + 1) v1)).trans (Went.set _ _ _ (i + 2) v2)).trans (Went.set _ _ _ (i + 3) v3)).trans (Went.set _ _ _ (i + 4) v4)).trans (Went.set _ _ _ (i + 5) v5)
theorem Kept.put6at (w1 : World) (n i : Nat) (v0 v1 v2 v3 v4 v5 : Value) : Kept [n] w1 (put6W w1 n i v0 v1 v2 v3 v4 v5) :=
  (((((Kept.setCell [n] w1 ⟨n, i, none⟩ _ (by simp)).trans (Kept.setCell [n] _ ⟨n, i + 1, none⟩ _ (by simp)) fun _ h => .inl h).trans (Kept.setCell [n] _ ⟨n, i + 2, none⟩ _ (by simp)) fun _ h => .inl h).trans (Kept.setCell [n] _ ⟨n, i + 3, none⟩ _ (by simp)) fun _ h => .inl h).trans (Kept.setCell [n] _ ⟨n, i + 4, none⟩ _ (by simp)) fun _ h => .inl h).trans (Kept.setCell [n] _ ⟨n, i + 5, none⟩ _ (by simp)) fun _ h => .inl h
theorem RepO.put6at {TM : TypeId} {a : Array Value} {o : Option K} {v : Value} (R : RepO w1 o v) (A : At TM w1 L1 s n T a) (hB : T ∉ BTs) (i : Nat) (v0 v1 v2 v3 v4 v5 : Value) : RepO (put6W w1 n i v0 v1 v2 v3 v4 v5) o v :=
  R.oth (F := [n]) (Oth.kept (Kept.put6at ..)) fun q hq => by simp at hq; subst hq; exact ⟨_, _, _, A.blk, hB⟩
end
section
variable {w : World} {L : Loc} {s : St} {p : Nat} {a : Ax}
theorem cellsP (a : Ax) (x : Sx) (v : Value) : ((((((a.cells.setIfInBounds 14 v).setIfInBounds 15 (.bool x.hit)).setIfInBounds 16 (.int .i64 x.o.c)).setIfInBounds 17 (.int .i64 x.o.v.k)).setIfInBounds 18 (.int .i64 x.o.v.n)).setIfInBounds 19 (.bool x.o.y)) = ({ a with p := x, vp := v } : Ax).cells := by
  simp [Ax.cells]
/-- a machine's step within the block -/
theorem cState0P (A : At 116 w L s p 95 a.cells) (hv : a.vp = .nilFunc) :
    Calls Tryz.prog 125 #[.pointer (some ⟨p, 14, none⟩), pt L.b] w fun e w' => e = .returned (.bool true) ∧ w' = w := by
  have c0 : w.cell? ⟨p, 14, none⟩ = some .nilFunc := hv ▸ A.cell 14
  have n1 : ∀ w, (binOp .neq 88 .nilFunc .nilFunc).run Tryz.prog w = .ok (.bool false) w := fun _ => by kernel_rfl
  have n2 : ∀ w, (binOp .eql 88 .nilFunc .nilFunc).run Tryz.prog w = .ok (.bool true) w := fun _ => by kernel_rfl
  go_enter Tryz.func125, Tryz.ntmps125
  go_wp2
  go_ret
  exact ⟨rfl, rfl⟩
set_option maxHeartbeats 1000000 in
theorem cState1P {f : Nat} {cs : Array Value} {x : Sx} {s' : St} (A : At 116 w L s p 95 a.cells) (hf : a.vp = .func (.func f) #[] cs) (hk : x.k = none)
    (hen : Enters Tryz.prog f) (hcall : Calls Tryz.prog f (#[pt L.b] ++ cs) w fun e w' => Ran w L x s' e w') :
    Calls Tryz.prog 125 #[.pointer (some ⟨p, 14, none⟩), pt L.b] w fun e w' => e = .returned (.bool x.done) ∧ ∃ v L', At 116 w' L' s' p 95 ({ a with p := x, vp := v } : Ax).cells ∧ Went w L p w' L' ∧ RepO w' x.k v := by
  have c0 : w.cell? ⟨p, 14, none⟩ = some (.func (.func f) #[] cs) := hf ▸ A.cell 14
  have e0 := fneq f cs
  have n2 : ∀ w, (binOp .eql 88 .nilFunc .nilFunc).run Tryz.prog w = .ok (.bool true) w := fun _ => by kernel_rfl
  go_enter Tryz.func125, Tryz.ntmps125
  go_wp2_with (fail)
  rw [hen, Oper.upon_enter]
  refine hcall.mono ?_
  rintro e w1 ⟨v, L1, rfl, hm1, st, R⟩
  rw [hk] at R
  have hv : v = .nilFunc := R
  clear R
  subst hv
  unfold Sx.cells
  have A1 := A.step hm1 st
  have z0 : w1.cell? ⟨p, 14, none⟩ = some (a.vp) := A1.cell 14
  have zf0 := A1.free 14
  have z1 : w1.cell? ⟨p, 15, none⟩ = some (.bool a.p.hit) := A1.cell 15
  have zf1 := A1.free 15
  have z2 : w1.cell? ⟨p, 16, none⟩ = some (.int .i64 a.p.o.c) := A1.cell 16
  have zf2 := A1.free 16
  have z3 : w1.cell? ⟨p, 17, none⟩ = some (.int .i64 a.p.o.v.k) := A1.cell 17
  have zf3 := A1.free 17
  have z4 : w1.cell? ⟨p, 18, none⟩ = some (.int .i64 a.p.o.v.n) := A1.cell 18
  have zf4 := A1.free 18
  have z5 : w1.cell? ⟨p, 19, none⟩ = some (.bool a.p.o.y) := A1.cell 19
  have zf5 := A1.free 19
  go_wp2
  go_ret
  exact ⟨by simp [Sx.done, hk], _, L1, cellsP a x .nilFunc ▸ A1.put6at 14 .nilFunc (.bool x.hit) (.int .i64 x.o.c) (.int .i64 x.o.v.k) (.int .i64 x.o.v.n) (.bool x.o.y), (Went.of_step st p).trans (Went.put6at w1 L1 p 14 _ _ _ _ _ _), (by rw [hk]; rfl)⟩
set_option maxHeartbeats 1000000 in
theorem cState2P {f : Nat} {cs : Array Value} {x : Sx} {s' : St} (A : At 116 w L s p 95 a.cells) (hf : a.vp = .func (.func f) #[] cs) {k' : K} (hk : x.k = some k')
    (hen : Enters Tryz.prog f) (hcall : Calls Tryz.prog f (#[pt L.b] ++ cs) w fun e w' => Ran w L x s' e w') :
    Calls Tryz.prog 125 #[.pointer (some ⟨p, 14, none⟩), pt L.b] w fun e w' => e = .returned (.bool x.done) ∧ ∃ v L', At 116 w' L' s' p 95 ({ a with p := x, vp := v } : Ax).cells ∧ Went w L p w' L' ∧ RepO w' x.k v := by
  have c0 : w.cell? ⟨p, 14, none⟩ = some (.func (.func f) #[] cs) := hf ▸ A.cell 14
  have e0 := fneq f cs
  have n2 := feql
  go_enter Tryz.func125, Tryz.ntmps125
  go_wp2_with (fail)
  rw [hen, Oper.upon_enter]
  refine hcall.mono ?_
  rintro e w1 ⟨v, L1, rfl, hm1, st, R⟩
  rw [hk] at R
  obtain ⟨nf, cf, hv⟩ := Rep.fn R
  rw [hv] at R ⊢
  clear hv
  unfold Sx.cells
  have A1 := A.step hm1 st
  have z0 : w1.cell? ⟨p, 14, none⟩ = some (a.vp) := A1.cell 14
  have zf0 := A1.free 14
  have z1 : w1.cell? ⟨p, 15, none⟩ = some (.bool a.p.hit) := A1.cell 15
  have zf1 := A1.free 15
  have z2 : w1.cell? ⟨p, 16, none⟩ = some (.int .i64 a.p.o.c) := A1.cell 16
  have zf2 := A1.free 16
  have z3 : w1.cell? ⟨p, 17, none⟩ = some (.int .i64 a.p.o.v.k) := A1.cell 17
  have zf3 := A1.free 17
  have z4 : w1.cell? ⟨p, 18, none⟩ = some (.int .i64 a.p.o.v.n) := A1.cell 18
  have zf4 := A1.free 18
  have z5 : w1.cell? ⟨p, 19, none⟩ = some (.bool a.p.o.y) := A1.cell 19
  have zf5 := A1.free 19
  go_wp2
  go_ret
  exact ⟨by simp [Sx.done, hk], _, L1, cellsP a x (.func (.func nf) #[] cf) ▸ A1.put6at 14 (.func (.func nf) #[] cf) (.bool x.hit) (.int .i64 x.o.c) (.int .i64 x.o.v.k) (.int .i64 x.o.v.n) (.bool x.o.y), (Went.of_step st p).trans (Went.put6at w1 L1 p 14 _ _ _ _ _ _), (by rw [hk]; exact RepO.put6at (o := some k') R A1 (by decide) _ _ _ _ _ _ _)⟩
theorem cStateP {x : Sx} (A : At 116 w L s p 95 a.cells) (hx : a.p = x) (R : RepO w x.k a.vp) (ok : x.Ok) (ft : s.Fit) (hc : s.c < 1000000) (rr : s.Rng) :
    Calls Tryz.prog 125 #[.pointer (some ⟨p, 14, none⟩), pt L.b] w fun e w' => e = .returned (.bool (x.next s).done) ∧ ∃ v' L', At 116 w' L' (x.mem s) p 95 ({ a with p := x.next s, vp := v' } : Ax).cells ∧ Went w L p w' L' ∧ RepO w' (x.next s).k v' := by
  obtain ⟨k, hit, o⟩ := x
  cases k with
  | none =>
    have hv : a.vp = .nilFunc := R
    refine (cState0P A hv).mono ?_
    rintro e w' ⟨rfl, rfl⟩
    refine ⟨rfl, .nilFunc, L, ?_, Went.refl _ _ _, rfl⟩
    have : ({ a with p := ⟨none, hit, o⟩, vp := .nilFunc } : Ax) = a := by
      obtain ⟨_, _, _, _, _, _, _, _, _, _, _⟩ := a
      simp only at hx hv
      subst hx hv
      rfl
    rw [show (Sx.mk none hit o).next s = ⟨none, hit, o⟩ from rfl, this]
    exact A
  | some k =>
    obtain ⟨n, cs, hv, hen, hcall⟩ := cK A.mem ft hc rr A.wid A.zero.1 (show Rep w k a.vp from R) (ok k rfl)
    cases hk : (k.next s).k with
    | none => exact cState1P A hv hk hen hcall
    | some k' => exact cState2P A hv hk hen hcall
theorem cPStepI {x : Sx} (A : At 116 w L s p 95 a.cells) (hx : a.p = x) (R : RepO w x.k a.vp) (ok : x.Ok) (ft : s.Fit) (hc : s.c < 1000000) (rr : s.Rng) :
    Calls Tryz.prog 124 #[.pointer (some ⟨p, 14, none⟩), pt L.b] w fun e w' => e = .returned (.bool (x.next s).done) ∧ ∃ v' L', At 116 w' L' (x.mem s) p 95 ({ a with p := x.next s, vp := v' } : Ax).cells ∧ Went w L p w' L' ∧ RepO w' (x.next s).k v' := by
  obtain ⟨d, hd⟩ : ∃ d, (x.next s).done = d := ⟨_, rfl⟩
  rw [hd]
  go_enter Tryz.func124, Tryz.ntmps124
  go_wp2_with (go_at_call 125; refine (cStateP A hx R ok ft hc rr).mono ?_; rintro e w1 ⟨rfl, H1⟩; rw [hd])
  go_ret
  exact ⟨rfl, H1⟩
theorem cPHitI {b : Bool} (c : w.cell? ⟨p, 15, none⟩ = some (.bool b)) : Calls Tryz.prog 122 #[.pointer (some ⟨p, 14, none⟩)] w fun e w' => e = .returned (.bool b) ∧ w' = w := by
  go_enter Tryz.func122, Tryz.ntmps122
  go_wp2
  go_ret
  exact ⟨rfl, rfl⟩
theorem cPResultI {o : Ou} (l : p < w.heap.size) (c2 : w.cell? ⟨p, 16, none⟩ = some (.int .i64 o.c)) (c3 : w.cell? ⟨p, 17, none⟩ = some (.int .i64 o.v.k)) (c4 : w.cell? ⟨p, 18, none⟩ = some (.int .i64 o.v.n)) (c5 : w.cell? ⟨p, 19, none⟩ = some (.bool o.y)) : Calls Tryz.prog 123 #[.pointer (some ⟨p, 14, none⟩)] w fun e w' => e = .returned o.val ∧ Below w.heap.size w w' := by
  go_enter Tryz.func123, Tryz.ntmps123
  go_wp2
  exact bodyPost_ret (v := o.val) (by simp [results, Tryz.results123, go_sem, Ou.val]) rfl ⟨rfl, by go_grown⟩
end
section
variable {w : World} {L : Loc} {s : St} {p : Nat} {a : Ax}
theorem cellsD (a : Ax) (x : Sx) (v : Value) : ((((((a.cells.setIfInBounds 20 v).setIfInBounds 21 (.bool x.hit)).setIfInBounds 22 (.int .i64 x.o.c)).setIfInBounds 23 (.int .i64 x.o.v.k)).setIfInBounds 24 (.int .i64 x.o.v.n)).setIfInBounds 25 (.bool x.o.y)) = ({ a with d := x, vd := v } : Ax).cells := by
  simp [Ax.cells]
/-- a machine's step within the block -/
theorem cState0D (A : At 116 w L s p 95 a.cells) (hv : a.vd = .nilFunc) :
    Calls Tryz.prog 125 #[.pointer (some ⟨p, 20, none⟩), pt L.b] w fun e w' => e = .returned (.bool true) ∧ w' = w := by
  have c0 : w.cell? ⟨p, 20, none⟩ = some .nilFunc := hv ▸ A.cell 20
  have n1 : ∀ w, (binOp .neq 88 .nilFunc .nilFunc).run Tryz.prog w = .ok (.bool false) w := fun _ => by kernel_rfl
  have n2 : ∀ w, (binOp .eql 88 .nilFunc .nilFunc).run Tryz.prog w = .ok (.bool true) w := fun _ => by kernel_rfl
  go_enter Tryz.func125, Tryz.ntmps125
  go_wp2
  go_ret
  exact ⟨rfl, rfl⟩
set_option maxHeartbeats 1000000 in
theorem cState1D {f : Nat} {cs : Array Value} {x : Sx} {s' : St} (A : At 116 w L s p 95 a.cells) (hf : a.vd = .func (.func f) #[] cs) (hk : x.k = none)
    (hen : Enters Tryz.prog f) (hcall : Calls Tryz.prog f (#[pt L.b] ++ cs) w fun e w' => Ran w L x s' e w') :
    Calls Tryz.prog 125 #[.pointer (some ⟨p, 20, none⟩), pt L.b] w fun e w' => e = .returned (.bool x.done) ∧ ∃ v L', At 116 w' L' s' p 95 ({ a with d := x, vd := v } : Ax).cells ∧ Went w L p w' L' ∧ RepO w' x.k v := by
  have c0 : w.cell? ⟨p, 20, none⟩ = some (.func (.func f) #[] cs) := hf ▸ A.cell 20
  have e0 := fneq f cs
  have n2 : ∀ w, (binOp .eql 88 .nilFunc .nilFunc).run Tryz.prog w = .ok (.bool true) w := fun _ => by kernel_rfl
  go_enter Tryz.func125, Tryz.ntmps125
  go_wp2_with (fail)
  rw [hen, Oper.upon_enter]
  refine hcall.mono ?_
  rintro e w1 ⟨v, L1, rfl, hm1, st, R⟩
  rw [hk] at R
  have hv : v = .nilFunc := R
  clear R
  subst hv
  unfold Sx.cells
  have A1 := A.step hm1 st
  have z0 : w1.cell? ⟨p, 20, none⟩ = some (a.vd) := A1.cell 20
  have zf0 := A1.free 20
  have z1 : w1.cell? ⟨p, 21, none⟩ = some (.bool a.d.hit) := A1.cell 21
  have zf1 := A1.free 21
  have z2 : w1.cell? ⟨p, 22, none⟩ = some (.int .i64 a.d.o.c) := A1.cell 22
  have zf2 := A1.free 22
  have z3 : w1.cell? ⟨p, 23, none⟩ = some (.int .i64 a.d.o.v.k) := A1.cell 23
  have zf3 := A1.free 23
  have z4 : w1.cell? ⟨p, 24, none⟩ = some (.int .i64 a.d.o.v.n) := A1.cell 24
  have zf4 := A1.free 24
  have z5 : w1.cell? ⟨p, 25, none⟩ = some (.bool a.d.o.y) := A1.cell 25
  have zf5 := A1.free 25
  go_wp2
  go_ret
  exact ⟨by simp [Sx.done, hk], _, L1, cellsD a x .nilFunc ▸ A1.put6at 20 .nilFunc (.bool x.hit) (.int .i64 x.o.c) (.int .i64 x.o.v.k) (.int .i64 x.o.v.n) (.bool x.o.y), (Went.of_step st p).trans (Went.put6at w1 L1 p 20 _ _ _ _ _ _), (by rw [hk]; rfl)⟩
set_option maxHeartbeats 1000000 in
theorem cState2D {f : Nat} {cs : Array Value} {x : Sx} {s' : St} (A : At 116 w L s p 95 a.cells) (hf : a.vd = .func (.func f) #[] cs) {k' : K} (hk : x.k = some k')
    (hen : Enters Tryz.prog f) (hcall : Calls Tryz.prog f (#[pt L.b] ++ cs) w fun e w' => Ran w L x s' e w') :
    Calls Tryz.prog 125 #[.pointer (some ⟨p, 20, none⟩), pt L.b] w fun e w' => e = .returned (.bool x.done) ∧ ∃ v L', At 116 w' L' s' p 95 ({ a with d := x, vd := v } : Ax).cells ∧ Went w L p w' L' ∧ RepO w' x.k v := by
  have c0 : w.cell? ⟨p, 20, none⟩ = some (.func (.func f) #[] cs) := hf ▸ A.cell 20
  have e0 := fneq f cs
  have n2 := feql
  go_enter Tryz.func125, Tryz.ntmps125
  go_wp2_with (fail)
  rw [hen, Oper.upon_enter]
  refine hcall.mono ?_
  rintro e w1 ⟨v, L1, rfl, hm1, st, R⟩
  rw [hk] at R
  obtain ⟨nf, cf, hv⟩ := Rep.fn R
  rw [hv] at R ⊢
  clear hv
  unfold Sx.cells
  have A1 := A.step hm1 st
  have z0 : w1.cell? ⟨p, 20, none⟩ = some (a.vd) := A1.cell 20
  have zf0 := A1.free 20
  have z1 : w1.cell? ⟨p, 21, none⟩ = some (.bool a.d.hit) := A1.cell 21
  have zf1 := A1.free 21
  have z2 : w1.cell? ⟨p, 22, none⟩ = some (.int .i64 a.d.o.c) := A1.cell 22
  have zf2 := A1.free 22
  have z3 : w1.cell? ⟨p, 23, none⟩ = some (.int .i64 a.d.o.v.k) := A1.cell 23
  have zf3 := A1.free 23
  have z4 : w1.cell? ⟨p, 24, none⟩ = some (.int .i64 a.d.o.v.n) := A1.cell 24
  have zf4 := A1.free 24
  have z5 : w1.cell? ⟨p, 25, none⟩ = some (.bool a.d.o.y) := A1.cell 25
  have zf5 := A1.free 25
  go_wp2
  go_ret
  exact ⟨by simp [Sx.done, hk], _, L1, cellsD a x (.func (.func nf) #[] cf) ▸ A1.put6at 20 (.func (.func nf) #[] cf) (.bool x.hit) (.int .i64 x.o.c) (.int .i64 x.o.v.k) (.int .i64 x.o.v.n) (.bool x.o.y), (Went.of_step st p).trans (Went.put6at w1 L1 p 20 _ _ _ _ _ _), (by rw [hk]; exact RepO.put6at (o := some k') R A1 (by decide) _ _ _ _ _ _ _)⟩
theorem cStateD {x : Sx} (A : At 116 w L s p 95 a.cells) (hx : a.d = x) (R : RepO w x.k a.vd) (ok : x.Ok) (ft : s.Fit) (hc : s.c < 1000000) (rr : s.Rng) :
    Calls Tryz.prog 125 #[.pointer (some ⟨p, 20, none⟩), pt L.b] w fun e w' => e = .returned (.bool (x.next s).done) ∧ ∃ v' L', At 116 w' L' (x.mem s) p 95 ({ a with d := x.next s, vd := v' } : Ax).cells ∧ Went w L p w' L' ∧ RepO w' (x.next s).k v' := by
  obtain ⟨k, hit, o⟩ := x
  cases k with
  | none =>
    have hv : a.vd = .nilFunc := R
    refine (cState0D A hv).mono ?_
    rintro e w' ⟨rfl, rfl⟩
    refine ⟨rfl, .nilFunc, L, ?_, Went.refl _ _ _, rfl⟩
    have : ({ a with d := ⟨none, hit, o⟩, vd := .nilFunc } : Ax) = a := by
      obtain ⟨_, _, _, _, _, _, _, _, _, _, _⟩ := a
      simp only at hx hv
      subst hx hv
      rfl
    rw [show (Sx.mk none hit o).next s = ⟨none, hit, o⟩ from rfl, this]
    exact A
  | some k =>
    obtain ⟨n, cs, hv, hen, hcall⟩ := cK A.mem ft hc rr A.wid A.zero.1 (show Rep w k a.vd from R) (ok k rfl)
    cases hk : (k.next s).k with
    | none => exact cState1D A hv hk hen hcall
    | some k' => exact cState2D A hv hk hen hcall
theorem cDStepI {x : Sx} (A : At 116 w L s p 95 a.cells) (hx : a.d = x) (R : RepO w x.k a.vd) (ok : x.Ok) (ft : s.Fit) (hc : s.c < 1000000) (rr : s.Rng) :
    Calls Tryz.prog 128 #[.pointer (some ⟨p, 20, none⟩), pt L.b] w fun e w' => e = .returned (.bool (x.next s).done) ∧ ∃ v' L', At 116 w' L' (x.mem s) p 95 ({ a with d := x.next s, vd := v' } : Ax).cells ∧ Went w L p w' L' ∧ RepO w' (x.next s).k v' := by
  obtain ⟨d, hd⟩ : ∃ d, (x.next s).done = d := ⟨_, rfl⟩
  rw [hd]
  go_enter Tryz.func128, Tryz.ntmps128
  go_wp2_with (go_at_call 125; refine (cStateD A hx R ok ft hc rr).mono ?_; rintro e w1 ⟨rfl, H1⟩; rw [hd])
  go_ret
  exact ⟨rfl, H1⟩
theorem cDHitI {b : Bool} (c : w.cell? ⟨p, 21, none⟩ = some (.bool b)) : Calls Tryz.prog 126 #[.pointer (some ⟨p, 20, none⟩)] w fun e w' => e = .returned (.bool b) ∧ w' = w := by
  go_enter Tryz.func126, Tryz.ntmps126
  go_wp2
  go_ret
  exact ⟨rfl, rfl⟩
theorem cDResultI {o : Ou} (l : p < w.heap.size) (c2 : w.cell? ⟨p, 22, none⟩ = some (.int .i64 o.c)) (c3 : w.cell? ⟨p, 23, none⟩ = some (.int .i64 o.v.k)) (c4 : w.cell? ⟨p, 24, none⟩ = some (.int .i64 o.v.n)) (c5 : w.cell? ⟨p, 25, none⟩ = some (.bool o.y)) : Calls Tryz.prog 127 #[.pointer (some ⟨p, 20, none⟩)] w fun e w' => e = .returned o.val ∧ Below w.heap.size w w' := by
  go_enter Tryz.func127, Tryz.ntmps127
  go_wp2
  exact bodyPost_ret (v := o.val) (by simp [results, Tryz.results127, go_sem, Ou.val]) rfl ⟨rfl, by go_grown⟩
end
end Go.Proofs.YtahafmglidlcnaaGreatDoor
