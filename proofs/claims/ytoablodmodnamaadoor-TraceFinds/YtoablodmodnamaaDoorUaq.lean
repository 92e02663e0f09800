/-
  A trace while nobody else shades, and two threads poll, said plainly: no program in sight.
-/
import Derived.Test.YtoablodmodnamaaDoorKeq
import Derived.Test.YtoablodmodnamaaDoorOiq
import Derived.Test.YtoablodmodnamaaDoorBhq
namespace Go.Proofs.YtoablodmodnamaaDoor
set_option linter.unusedVariables false
set_option maxRecDepth 100000
open Go.ChangeShapes Go.WideShapes Go.RowKit
open S.Plain (t0 t1 tw nx p0 p1 p2 p3 pw)
open H.Plain (hw pS pC pN pM pG pT pL)
open F.Plain (kind num)

/-- the phase behind one -/
def behind (q : Ph) : Ph := ⟨(q.no + 1) % 1099511627776, 3, q.mr, q.ls⟩
/-- a Trace: the phase that was asked for, where it stands (0: done; 1 a Next, 2 a field, 3 an Ask, 4 the list, 5 a Shade), its Next, the object, its count, the field, its Shade, its Ask (with what that knows of the plan), the phase that is asked for -/
structure TrS where
  q : Ph
  pc : Nat
  ne : NextS
  obj : Int
  cnt : Int
  fld : Int
  sh : ShadeS
  V : Pl5
  ak : AskS
  qs : Ph
def TrS.toGrey (x : TrS) : TrS := ⟨x.q, 1, NextS.new, x.obj, x.cnt, x.fld, x.sh, x.V, x.ak, x.qs⟩
def TrS.toField (x : TrS) (f : Int) : TrS := if f < x.cnt then ⟨x.q, 2, x.ne, x.obj, x.cnt, f, x.sh, x.V, x.ak, x.qs⟩ else ⟨x.q, 1, NextS.new, x.obj, x.cnt, f, x.sh, x.V, x.ak, x.qs⟩
def TrS.toAsk (U : Pl5) (x : TrS) : TrS := ⟨x.q, 3, x.ne, x.obj, x.cnt, x.fld, x.sh, U, AskS.new (behind x.q) U.th.toNat, behind x.q⟩
/-- with its Next, its Shade, its Ask at -/
def TrS.nexts (x : TrS) (y : NextS) : TrS := ⟨x.q, x.pc, y, x.obj, x.cnt, x.fld, x.sh, x.V, x.ak, x.qs⟩
def TrS.shades (x : TrS) (y : ShadeS) : TrS := ⟨x.q, x.pc, x.ne, x.obj, x.cnt, x.fld, y, x.V, x.ak, x.qs⟩
def TrS.asks (x : TrS) (y : AskS) : TrS := ⟨x.q, x.pc, x.ne, x.obj, x.cnt, x.fld, x.sh, x.V, y, x.qs⟩
def TrS.goto (x : TrS) (k : Nat) : TrS := ⟨x.q, k, x.ne, x.obj, x.cnt, x.fld, x.sh, x.V, x.ak, x.qs⟩
def TrS.asked (x : TrS) : TrS := ⟨x.qs, x.pc, x.ne, x.obj, x.cnt, x.fld, x.sh, x.V, x.ak, x.qs⟩
def TrS.takes (x : TrS) (a n : Int) : TrS := ⟨x.q, x.pc, x.ne, a, n, x.fld, x.sh, x.V, x.ak, x.qs⟩
def TrS.behindGrey (U : Pl5) (x : TrS) : TrS := if x.ne.cell = 0 then (x.takes x.ne.cell x.ne.count).toAsk U else (x.takes x.ne.cell x.ne.count).toField 0
def TrS.behindField (x : TrS) (v : Int) : TrS := if kind v ≠ 1 ∨ num v = 0 then x.toField (x.fld + 1) else (x.shades (ShadeS.new (num v) x.q.mr)).goto 5
def TrS.behindAsk (x : TrS) (v : Int) : TrS := if t0 v = 0 then x.goto 0 else x.toGrey
def TrS.new (q : Ph) : TrS := ⟨q, 1, NextS.new, 0, 0, 0, ⟨0, 0, 0, 0, Hd.zero, 0⟩, ⟨0, 0, 0, 0, 0⟩, ⟨Ph.zero, 1, 0, 0⟩, Ph.zero⟩
def TrS.next (U : Pl5) (x : TrS) (s : St) : TrS :=
  match x.pc with
  | 1 => if (x.ne.next s).pc = 0 then (x.nexts (x.ne.next s)).behindGrey U else x.nexts (x.ne.next s)
  | 2 => x.behindField (s.got (x.obj + 1 + x.fld))
  | 3 => if (x.ak.next s).pc = 0 then ((x.asks (x.ak.next s)).goto 4).asked else (x.asks (x.ak.next s)).asked
  | 4 => x.behindAsk (s.got 1)
  | 5 => if (x.sh.next s).pc = 0 then (x.shades (x.sh.next s)).toField (x.fld + 1) else x.shades (x.sh.next s)
  | _ => x
def TrS.mem (x : TrS) (s : St) : St :=
  match x.pc with
  | 1 => x.ne.mem s
  | 2 => s.load (x.obj + 1 + x.fld)
  | 3 => x.ak.mem s
  | 4 => s.load 1
  | 5 => x.sh.mem s
  | _ => s
def TrS.cells (U : Pl5) (x : TrS) : Array Value := #[.int .i64 U.th, .int .i64 U.bl, .int .i64 U.ta, .int .i64 U.he, .int .i64 U.si, .int .i64 x.q.no, .int .i64 x.q.md, .int .i64 x.q.mr, .int .i64 x.q.ls, .int .i64 x.pc, .int .i64 x.ne.pc, .int .u64 x.ne.list, .int .i64 x.ne.h.S, .int .i64 x.ne.h.C, .int .i64 x.ne.h.N, .int .i64 x.ne.h.M, .int .i64 x.ne.h.G, .int .i64 x.ne.h.T, .int .i64 x.ne.h.L, .int .i64 x.ne.cell, .int .i64 x.ne.count, .int .i64 x.obj, .int .i64 x.cnt, .int .i64 x.fld, .int .i64 x.sh.cell, .int .i64 x.sh.mark, .int .i64 x.sh.pc, .int .u64 x.sh.found, .int .i64 x.sh.h.S, .int .i64 x.sh.h.C, .int .i64 x.sh.h.N, .int .i64 x.sh.h.M, .int .i64 x.sh.h.G, .int .i64 x.sh.h.T, .int .i64 x.sh.h.L, .int .u64 x.sh.list, .int .i64 x.V.th, .int .i64 x.V.bl, .int .i64 x.V.ta, .int .i64 x.V.he, .int .i64 x.V.si, .int .i64 x.ak.q.no, .int .i64 x.ak.q.md, .int .i64 x.ak.q.mr, .int .i64 x.ak.q.ls, .int .i64 x.ak.pc, .int .i64 x.ak.k, .int .i64 x.qs.no, .int .i64 x.qs.md, .int .i64 x.qs.mr, .int .i64 x.qs.ls]
def TrS.frN (U : Pl5) (x : TrS) : List Value := [.int .i64 U.th, .int .i64 U.bl, .int .i64 U.ta, .int .i64 U.he, .int .i64 U.si, .int .i64 x.q.no, .int .i64 x.q.md, .int .i64 x.q.mr, .int .i64 x.q.ls, .int .i64 x.pc]
def TrS.bhN (x : TrS) : List Value := [.int .i64 x.obj, .int .i64 x.cnt, .int .i64 x.fld, .int .i64 x.sh.cell, .int .i64 x.sh.mark, .int .i64 x.sh.pc, .int .u64 x.sh.found, .int .i64 x.sh.h.S, .int .i64 x.sh.h.C, .int .i64 x.sh.h.N, .int .i64 x.sh.h.M, .int .i64 x.sh.h.G, .int .i64 x.sh.h.T, .int .i64 x.sh.h.L, .int .u64 x.sh.list, .int .i64 x.V.th, .int .i64 x.V.bl, .int .i64 x.V.ta, .int .i64 x.V.he, .int .i64 x.V.si, .int .i64 x.ak.q.no, .int .i64 x.ak.q.md, .int .i64 x.ak.q.mr, .int .i64 x.ak.q.ls, .int .i64 x.ak.pc, .int .i64 x.ak.k, .int .i64 x.qs.no, .int .i64 x.qs.md, .int .i64 x.qs.mr, .int .i64 x.qs.ls]
def TrS.frS (U : Pl5) (x : TrS) : List Value := [.int .i64 U.th, .int .i64 U.bl, .int .i64 U.ta, .int .i64 U.he, .int .i64 U.si, .int .i64 x.q.no, .int .i64 x.q.md, .int .i64 x.q.mr, .int .i64 x.q.ls, .int .i64 x.pc, .int .i64 x.ne.pc, .int .u64 x.ne.list, .int .i64 x.ne.h.S, .int .i64 x.ne.h.C, .int .i64 x.ne.h.N, .int .i64 x.ne.h.M, .int .i64 x.ne.h.G, .int .i64 x.ne.h.T, .int .i64 x.ne.h.L, .int .i64 x.ne.cell, .int .i64 x.ne.count, .int .i64 x.obj, .int .i64 x.cnt, .int .i64 x.fld]
def TrS.bhS (x : TrS) : List Value := [.int .i64 x.V.th, .int .i64 x.V.bl, .int .i64 x.V.ta, .int .i64 x.V.he, .int .i64 x.V.si, .int .i64 x.ak.q.no, .int .i64 x.ak.q.md, .int .i64 x.ak.q.mr, .int .i64 x.ak.q.ls, .int .i64 x.ak.pc, .int .i64 x.ak.k, .int .i64 x.qs.no, .int .i64 x.qs.md, .int .i64 x.qs.mr, .int .i64 x.qs.ls]
def TrS.frA (U : Pl5) (x : TrS) : List Value := [.int .i64 U.th, .int .i64 U.bl, .int .i64 U.ta, .int .i64 U.he, .int .i64 U.si, .int .i64 x.q.no, .int .i64 x.q.md, .int .i64 x.q.mr, .int .i64 x.q.ls, .int .i64 x.pc, .int .i64 x.ne.pc, .int .u64 x.ne.list, .int .i64 x.ne.h.S, .int .i64 x.ne.h.C, .int .i64 x.ne.h.N, .int .i64 x.ne.h.M, .int .i64 x.ne.h.G, .int .i64 x.ne.h.T, .int .i64 x.ne.h.L, .int .i64 x.ne.cell, .int .i64 x.ne.count, .int .i64 x.obj, .int .i64 x.cnt, .int .i64 x.fld, .int .i64 x.sh.cell, .int .i64 x.sh.mark, .int .i64 x.sh.pc, .int .u64 x.sh.found, .int .i64 x.sh.h.S, .int .i64 x.sh.h.C, .int .i64 x.sh.h.N, .int .i64 x.sh.h.M, .int .i64 x.sh.h.G, .int .i64 x.sh.h.T, .int .i64 x.sh.h.L, .int .u64 x.sh.list]
def TrS.bhA (x : TrS) : List Value := [.int .i64 x.qs.no, .int .i64 x.qs.md, .int .i64 x.qs.mr, .int .i64 x.qs.ls]
theorem TrS.layN (U : Pl5) (x : TrS) (y : NextS) : lay (x.frN U) y.cells x.bhN = (x.nexts y).cells U := rfl
theorem TrS.layS (U : Pl5) (x : TrS) (y : ShadeS) : lay (x.frS U) y.cells x.bhS = (x.shades y).cells U := rfl
theorem TrS.layA (U : Pl5) (x : TrS) (y : AskS) : lay (x.frA U) (y.cells x.V) x.bhA = (x.asks y).cells U := rfl
structure TrS.Ok (U : Pl5) (x : TrS) : Prop where
  pc : x.pc ≤ 5
  ne : x.ne.Ok
  sh : x.sh.Ok
  obj : 0 ≤ x.obj ∧ x.obj ≤ 10000000
  cnt : x.cnt ≤ 7
  fld : 0 ≤ x.fld ∧ x.fld ≤ 7
  f2 : x.pc = 2 ∨ x.pc = 5 → x.fld < x.cnt
  nec : x.ne.h.N ≤ 7 ∧ x.ne.count ≤ 7 ∧ 0 ≤ x.ne.cell ∧ x.ne.cell ≤ 10000000
  th : 1 ≤ U.th ∧ U.th ≤ 64
  ak : x.pc = 3 → x.ak.Ok ∧ x.ak.N = U.th.toNat ∧ x.V = U
  q0 : 0 ≤ x.q.no ∧ x.q.no ≤ 1099511627776
  qs : x.pc = 3 → 0 ≤ x.qs.no ∧ x.qs.no ≤ 1099511627776
end Go.Proofs.YtoablodmodnamaaDoor

namespace Go.Proofs.YtoablodmodnamaaDoor
set_option linter.unusedVariables false
set_option linter.unusedSimpArgs false
set_option maxRecDepth 100000
open S.Plain (t0 t1 tw nx p0 p1 p2 p3 pw)
open H.Plain (hw pS pC pN pM pG pT pL)
open F.Plain (kind num)

/-! ### rounds: a step of the trace, then a Poll of each thread -/
def poll (i : Int) (own : Ph) : PollS := PollS.new (10 + i) own 0 0 (fun _ => 0)
def plM (i : Int) (own : Ph) (s : St) : St := ((poll i own).next s).mem ((poll i own).mem s)
def plO (i : Int) (own : Ph) (s : St) : Ph := (((poll i own).next s).next ((poll i own).mem s)).own
inductive Rd (U : Pl5) : Nat → TrS → Ph → Ph → St → TrS → Ph → Ph → St → Prop
  | nil (x : TrS) (o0 o1 : Ph) (s : St) : Rd U 0 x o0 o1 s x o0 o1 s
  | cons {k : Nat} {x y : TrS} {o0 o1 q0 q1 : Ph} {s t : St} (h : 1 ≤ x.pc) (r : Rd U k (x.next U s) (plO 0 o0 (x.mem s)) (plO 1 o1 (plM 0 o0 (x.mem s))) (plM 1 o1 (plM 0 o0 (x.mem s))) y q0 q1 t) : Rd U (k + 1) x o0 o1 s y q0 q1 t
theorem Rd.trans {U : Pl5} {k l : Nat} {x y z : TrS} {o0 o1 p0 p1 q0 q1 : Ph} {s t u : St} (a : Rd U k x o0 o1 s y p0 p1 t) (b : Rd U l y p0 p1 t z q0 q1 u) : Rd U (k + l) x o0 o1 s z q0 q1 u := by
  induction a with
  | nil => simpa using b
  | @cons k x y o0 o1 q0 q1 s t h r ih => rw [show k + 1 + l = (k + l) + 1 by omega]; exact .cons h (ih b)
section
variable {n : Nat} {s : St} {f : Int → Int} {own : Ph} {i : Int}
/-- a Poll for which there is no other phase -/
theorem poll_quiet (hv : Vw n s f) (hn : 12 ≤ n) (h : (Ph.of (f 0)).no = own.no) : Vw n (plM i own s) f ∧ plO i own s = own := by
  have g : s.got 0 = f 0 := hv.got (by omega) (by omega)
  have e : (poll i own).next s = ⟨10 + i, own, Ph.of (f 0), 0, 0, fun _ => 0, .done⟩ := by
    simp only [poll, PollS.new, PollS.next, g, if_pos h]
  constructor
  · unfold plM; rw [e]
    exact hv.load (by omega) (by omega)
  · unfold plO; rw [e]; rfl
/-- one that takes another phase over -/
theorem poll_takes (hv : Vw n s f) (hn : 12 ≤ n) (h0 : 0 ≤ i) (h1 : i ≤ 1) (h : (Ph.of (f 0)).no ≠ own.no) (m2 : (Ph.of (f 0)).md ≠ 2) (m5 : (Ph.of (f 0)).md ≠ 5) (m8 : (Ph.of (f 0)).md ≠ 8) :
    Vw n (plM i own s) (upd f (10 + i) (IntKind.u64.wrap (Ph.of (f 0)).no)) ∧ plO i own s = Ph.of (f 0) := by
  have g : s.got 0 = f 0 := hv.got (by omega) (by omega)
  have e : (poll i own).next s = ⟨10 + i, own, Ph.of (f 0), 0, 0, fun _ => 0, .tell⟩ := by
    simp only [poll, PollS.new, PollS.next, g, if_neg h, if_neg m2, if_neg m5, if_neg m8]
  constructor
  · unfold plM; rw [e]
    exact (hv.load (a := 0) (by omega) (by omega)).store (a := 10 + i) (by omega) (by omega) _
  · unfold plO; rw [e]; rfl
end
/-- no phase was asked for, and none told -/
def Zr (f : Int → Int) : Prop := f 0 = 0 ∧ f 10 = 0 ∧ f 11 = 0
theorem Ph.of_zero : Ph.of 0 = Ph.zero := rfl
theorem upd_same (f : Int → Int) {a v : Int} (h : f a = v) : upd f a v = f := by
  funext b
  unfold upd
  split
  · next e => rw [e, h]
  · rfl
theorem poll_idle {n : Nat} {s : St} {f : Int → Int} {i : Int} (own : Ph) (hv : Vw n s f) (hn : 12 ≤ n) (z : Zr f) (h : i = 0 ∨ i = 1) : Vw n (plM i own s) f ∧ (plO i own s).no = 0 := by
  have e0 : Ph.of (f 0) = Ph.zero := by rw [z.1]; exact Ph.of_zero
  by_cases ho : (Ph.of (f 0)).no = own.no
  · obtain ⟨a, b⟩ := poll_quiet (i := i) hv hn ho
    refine ⟨a, ?_⟩
    rw [b, ← ho, e0]; rfl
  · obtain ⟨a, b⟩ := poll_takes (i := i) hv hn (by omega) (by omega) ho (by rw [e0]; decide) (by rw [e0]; decide) (by rw [e0]; decide)
    refine ⟨?_, by rw [b, e0]; rfl⟩
    have e1 : upd f (10 + i) (IntKind.u64.wrap (Ph.of (f 0)).no) = f := by
      apply upd_same
      rw [e0]
      rcases h with rfl | rfl
      · exact z.2.1
      · exact z.2.2
    rw [e1] at a
    exact a
/-- some rounds, by the words alone -/
def Run (n : Nat) (U : Pl5) (k : Nat) (x : TrS) (f : Int → Int) (x' : TrS) (f' : Int → Int) : Prop :=
  ∀ o0 o1 s, Vw n s f → ∃ o0' o1' s', Rd U k x o0 o1 s x' o0' o1' s' ∧ Vw n s' f' ∧ (o0.no ≤ 2 → o0'.no ≤ 2) ∧ (o1.no ≤ 2 → o1'.no ≤ 2)
section
variable {n k l : Nat} {U : Pl5} {x y z : TrS} {f g h : Int → Int}
theorem Run.nil (x : TrS) (f : Int → Int) : Run n U 0 x f x f := fun o0 o1 s hv => ⟨o0, o1, s, .nil _ _ _ _, hv, id, id⟩
theorem Run.trans (a : Run n U k x f y g) (b : Run n U l y g z h) : Run n U (k + l) x f z h := fun o0 o1 s hv => by
  obtain ⟨p0, p1, t, r, hv1, i0, i1⟩ := a o0 o1 s hv
  obtain ⟨q0, q1, u, r', hv2, j0, j1⟩ := b p0 p1 t hv1
  exact ⟨q0, q1, u, r.trans r', hv2, fun e => j0 (i0 e), fun e => j1 (i1 e)⟩
theorem Run.one (hn : 12 ≤ n) (hx : 1 ≤ x.pc) (zg : Zr g) (h : ∀ s, Vw n s f → x.next U s = y ∧ Vw n (x.mem s) g) : Run n U 1 x f y g := fun o0 o1 s hv => by
  obtain ⟨e, hv1⟩ := h s hv
  obtain ⟨a1, a2⟩ := poll_idle (i := 0) o0 hv1 hn zg (.inl rfl)
  obtain ⟨b1, b2⟩ := poll_idle (i := 1) o1 a1 hn zg (.inr rfl)
  refine ⟨_, _, _, .cons hx (by rw [e]; exact .nil _ _ _ _), b1, fun _ => by rw [a2]; decide, fun _ => by rw [b2]; decide⟩
theorem Run.then (a : Run n U k x f y g) (b : Run n U 1 y g z h) : Run n U (k + 1) x f z h := a.trans b
end
theorem upd_comm (f : Int → Int) {a b : Int} (u v : Int) (h : a ≠ b) : upd (upd f a u) b v = upd (upd f b v) a u := by
  funext c
  unfold upd
  by_cases e : c = b
  · rw [if_pos e, if_neg (by omega), if_pos e]
  · rw [if_neg e, if_neg e]
theorem upd_upd (f : Int → Int) (a u v : Int) : upd (upd f a u) a v = upd f a v := by
  funext c
  unfold upd
  split <;> rfl
theorem Zr.updz {f : Int → Int} (z : Zr f) {a : Int} (v : Int) (h : a ≠ 0 ∧ a ≠ 10 ∧ a ≠ 11) : Zr (upd f a v) := ⟨by rw [upd_ne _ _ (by omega)]; exact z.1, by rw [upd_ne _ _ (by omega)]; exact z.2.1, by rw [upd_ne _ _ (by omega)]; exact z.2.2⟩
/-! ### the machines' steps, by the words -/
section
variable {n : Nat} {U : Pl5} {f : Int → Int} {a m : Int} {x : TrS}
/-- a Next that takes the object a: four rounds -/
theorem run_next (hn : 12 ≤ n) (z : Zr f) (hp : x.pc = 1) (hx : x.ne = NextS.new) (ha : t0 (f 1) = a) (a0 : 32 ≤ a) (a1 : a < n) :
    ∃ y : NextS, y.cell = a ∧ y.count = pN (f a) ∧ Run n U 4 x f ((x.nexts y).behindGrey U) (upd (upd f 1 (nx (f 1) (pL (f a)))) a (Hd.of (f a)).plain.w) := by
  obtain ⟨l, hl⟩ : ∃ l, f 1 = l := ⟨_, rfl⟩
  obtain ⟨v, hv⟩ : ∃ v, f a = v := ⟨_, rfl⟩
  rw [hl] at ha
  rw [hl, hv]
  obtain ⟨q, pc, ne, obj, cnt, fld, sh, V, ak, qs⟩ := x
  obtain rfl : pc = 1 := hp
  obtain rfl : ne = NextS.new := hx
  have hne : t0 l ≠ 0 := by omega
  refine ⟨⟨0, l, (Hd.of v).plain, a, pN v⟩, rfl, rfl, ?_⟩
  have z1 : Zr (upd f 1 (nx l (pL v))) := z.updz _ (by omega)
  have r1 : Run n U 1 ⟨q, 1, NextS.new, obj, cnt, fld, sh, V, ak, qs⟩ f ⟨q, 1, ⟨2, l, Hd.zero, 0, 0⟩, obj, cnt, fld, sh, V, ak, qs⟩ f := Run.one hn (by simp) z fun s hs => by
    have g : s.got 1 = l := (hs.got (by omega) (by omega)).trans hl
    refine ⟨?_, hs.load (a := 1) (by omega) (by omega)⟩
    simp only [TrS.next, NextS.next, NextS.new, g, if_neg hne, TrS.nexts]
    rfl
  have r2 : Run n U 1 ⟨q, 1, ⟨2, l, Hd.zero, 0, 0⟩, obj, cnt, fld, sh, V, ak, qs⟩ f ⟨q, 1, ⟨3, l, Hd.of v, 0, 0⟩, obj, cnt, fld, sh, V, ak, qs⟩ f := Run.one hn (by simp) z fun s hs => by
    have g : s.got a = v := (hs.got (by omega) (by omega)).trans hv
    refine ⟨?_, ?_⟩
    · simp only [TrS.next, NextS.next, ha, g, TrS.nexts]
      rfl
    · simp only [TrS.mem, NextS.mem, ha]
      exact hs.load (by omega) (by omega)
  have r3 : Run n U 1 ⟨q, 1, ⟨3, l, Hd.of v, 0, 0⟩, obj, cnt, fld, sh, V, ak, qs⟩ f ⟨q, 1, ⟨4, l, Hd.of v, 0, 0⟩, obj, cnt, fld, sh, V, ak, qs⟩ (upd f 1 (nx l (pL v))) := Run.one hn (by simp) z1 fun s hs => by
    obtain ⟨c1, c2⟩ := hs.cas (a := 1) (by omega) (by omega) hl (nx l (pL v))
    refine ⟨?_, c1⟩
    simp only [TrS.next, NextS.next, c2, if_true, TrS.nexts]
    rfl
  have r4 : Run n U 1 ⟨q, 1, ⟨4, l, Hd.of v, 0, 0⟩, obj, cnt, fld, sh, V, ak, qs⟩ (upd f 1 (nx l (pL v))) (TrS.behindGrey U (TrS.nexts ⟨q, 1, NextS.new, obj, cnt, fld, sh, V, ak, qs⟩ ⟨0, l, (Hd.of v).plain, a, pN v⟩)) (upd (upd f 1 (nx l (pL v))) a (Hd.of v).plain.w) := Run.one hn (by simp) (z1.updz _ (by omega)) fun s hs => by
    refine ⟨?_, ?_⟩
    · simp only [TrS.next, NextS.next, ha, if_true, TrS.nexts, Hd.of]
    · simp only [TrS.mem, NextS.mem, ha]
      exact hs.store (by omega) (by omega) _
  exact ((r1.then r2).then r3).then r4
/-- a Shade of what it leaves alone: one -/
theorem run_skip (hn : 12 ≤ n) (z : Zr f) (hp : x.pc = 5) (hx : x.sh = ShadeS.new a m) (a0 : 32 ≤ a) (a1 : a < n) (hk : skips (f a) m) :
    ∃ y : ShadeS, Run n U 1 x f ((x.shades y).toField (x.fld + 1)) f := by
  obtain ⟨q, pc, ne, obj, cnt, fld, sh, V, ak, qs⟩ := x
  obtain rfl : pc = 5 := hp
  obtain rfl : sh = ShadeS.new a m := hx
  refine ⟨⟨a, m, 0, f a, Hd.of (f a), 0⟩, Run.one hn (by simp) z fun s hs => ?_⟩
  have g : s.got a = f a := hs.got (by omega) (by omega)
  have hne : a ≠ 0 := by omega
  refine ⟨?_, ?_⟩
  · simp only [TrS.next, ShadeS.new, if_neg hne, ShadeS.next, g, if_pos hk, if_true, TrS.shades]
  · simp only [TrS.mem, ShadeS.new, if_neg hne, ShadeS.mem]
    exact hs.load (by omega) (by omega)
/-- of others: five -/
theorem run_shade (hn : 12 ≤ n) (z : Zr f) (hp : x.pc = 5) (hx : x.sh = ShadeS.new a m) (a0 : 32 ≤ a) (a1 : a < n) (hk : ¬ skips (f a) m) :
    ∃ y : ShadeS, Run n U 5 x f ((x.shades y).toField (x.fld + 1)) (upd (upd f a (((Hd.of (f a)).shade m).link (t0 (f 1))).w) 1 (nx (f 1) a)) := by
  obtain ⟨l, hl⟩ : ∃ l, f 1 = l := ⟨_, rfl⟩
  obtain ⟨v, hv⟩ : ∃ v, f a = v := ⟨_, rfl⟩
  rw [hv] at hk
  rw [hl, hv]
  obtain ⟨h, hh⟩ : ∃ h, (Hd.of v).shade m = h := ⟨_, rfl⟩
  rw [hh]
  obtain ⟨q, pc, ne, obj, cnt, fld, sh, V, ak, qs⟩ := x
  obtain rfl : pc = 5 := hp
  obtain rfl : sh = ShadeS.new a m := hx
  have hne : a ≠ 0 := by omega
  refine ⟨⟨a, m, 0, v, h.link (t0 l), l⟩, ?_⟩
  have z1 : Zr (upd f a h.w) := z.updz _ (by omega)
  have z2 : Zr (upd f a (h.link (t0 l)).w) := z.updz _ (by omega)
  have e1 : (upd f a h.w) 1 = l := by rw [upd_ne _ _ (by omega)]; exact hl
  have e2 : (upd f a (h.link (t0 l)).w) 1 = l := by rw [upd_ne _ _ (by omega)]; exact hl
  have r1 : Run n U 1 ⟨q, 5, ne, obj, cnt, fld, ShadeS.new a m, V, ak, qs⟩ f ⟨q, 5, ne, obj, cnt, fld, ⟨a, m, 2, v, h, 0⟩, V, ak, qs⟩ f := Run.one hn (by simp) z fun s hs => by
    have g : s.got a = v := (hs.got (by omega) (by omega)).trans hv
    refine ⟨?_, ?_⟩
    · simp only [TrS.next, ShadeS.new, if_neg hne, ShadeS.next, g, if_neg hk, hh, TrS.shades]
      rfl
    · simp only [TrS.mem, ShadeS.new, if_neg hne, ShadeS.mem]
      exact hs.load (by omega) (by omega)
  have r2 : Run n U 1 ⟨q, 5, ne, obj, cnt, fld, ⟨a, m, 2, v, h, 0⟩, V, ak, qs⟩ f ⟨q, 5, ne, obj, cnt, fld, ⟨a, m, 3, v, h, 0⟩, V, ak, qs⟩ (upd f a h.w) := Run.one hn (by simp) z1 fun s hs => by
    obtain ⟨c1, c2⟩ := hs.cas (a := a) (by omega) (by omega) hv h.w
    refine ⟨?_, c1⟩
    simp only [TrS.next, ShadeS.next, c2, if_true, TrS.shades]
    rfl
  have r3 : Run n U 1 ⟨q, 5, ne, obj, cnt, fld, ⟨a, m, 3, v, h, 0⟩, V, ak, qs⟩ (upd f a h.w) ⟨q, 5, ne, obj, cnt, fld, ⟨a, m, 4, v, h, l⟩, V, ak, qs⟩ (upd f a h.w) := Run.one hn (by simp) z1 fun s hs => by
    have g : s.got 1 = l := (hs.got (by omega) (by omega)).trans e1
    refine ⟨?_, hs.load (a := 1) (by omega) (by omega)⟩
    simp only [TrS.next, ShadeS.next, g, TrS.shades]
    rfl
  have r4 : Run n U 1 ⟨q, 5, ne, obj, cnt, fld, ⟨a, m, 4, v, h, l⟩, V, ak, qs⟩ (upd f a h.w) ⟨q, 5, ne, obj, cnt, fld, ⟨a, m, 5, v, h.link (t0 l), l⟩, V, ak, qs⟩ (upd f a (h.link (t0 l)).w) := Run.one hn (by simp) z2 fun s hs => by
    refine ⟨?_, ?_⟩
    · simp only [TrS.next, ShadeS.next, TrS.shades]
      rfl
    · have := hs.store (a := a) (by omega) (by omega) (h.link (t0 l)).w
      rw [upd_upd] at this
      exact this
  have r5 : Run n U 1 ⟨q, 5, ne, obj, cnt, fld, ⟨a, m, 5, v, h.link (t0 l), l⟩, V, ak, qs⟩ (upd f a (h.link (t0 l)).w) (TrS.toField (TrS.shades ⟨q, 5, ne, obj, cnt, fld, ShadeS.new a m, V, ak, qs⟩ ⟨a, m, 0, v, h.link (t0 l), l⟩) (fld + 1)) (upd (upd f a (h.link (t0 l)).w) 1 (nx l a)) := Run.one hn (by simp) (z2.updz _ (by omega)) fun s hs => by
    obtain ⟨c1, c2⟩ := hs.cas (a := 1) (by omega) (by omega) e2 (nx l a)
    refine ⟨?_, c1⟩
    simp only [TrS.next, ShadeS.next, c2, if_true, TrS.shades]
  exact (((r1.then r2).then r3).then r4).then r5
/-- a field that is looked at -/
theorem run_field (hn : 12 ≤ n) (z : Zr f) (hp : x.pc = 2) (a0 : 0 ≤ x.obj + 1 + x.fld) (a1 : x.obj + 1 + x.fld < n) :
    Run n U 1 x f (x.behindField (f (x.obj + 1 + x.fld))) f := by
  obtain ⟨q, pc, ne, obj, cnt, fld, sh, V, ak, qs⟩ := x
  obtain rfl : pc = 2 := hp
  refine Run.one hn (by simp) z fun s hs => ?_
  have g : s.got (obj + 1 + fld) = f (obj + 1 + fld) := hs.got a0 a1
  exact ⟨by simp only [TrS.next, g], hs.load a0 a1⟩
/-- the list has nothing: the threads are asked -/
theorem run_none (hn : 12 ≤ n) (z : Zr f) (hp : x.pc = 1) (hx : x.ne = NextS.new) (ha : t0 (f 1) = 0) :
    ∃ y : NextS, Run n U 1 x f (((x.nexts y).takes 0 0).toAsk U) f := by
  obtain ⟨q, pc, ne, obj, cnt, fld, sh, V, ak, qs⟩ := x
  obtain rfl : pc = 1 := hp
  obtain rfl : ne = NextS.new := hx
  refine ⟨⟨0, f 1, Hd.zero, 0, 0⟩, Run.one hn (by simp) z fun s hs => ?_⟩
  have g : s.got 1 = f 1 := hs.got (by omega) (by omega)
  refine ⟨?_, hs.load (a := 1) (by omega) (by omega)⟩
  simp only [TrS.next, NextS.new, NextS.next, g, ha, if_true, TrS.nexts, TrS.behindGrey]
end
end Go.Proofs.YtoablodmodnamaaDoor
