import Derived.Test.YtpcoldpphihfmaaGreatDoorDm
namespace Go.Proofs.YtpcoldpphihfmaaGreatDoor
set_option linter.unusedVariables false
set_option maxRecDepth 100000
open H.Plain (hw pS pC pN pM pG pT pL mv)
def hwC (fx : Bool) : Hw := ⟨false, true, fx, 0⟩
def pairP (wd f : Int) : Int := wd + 2 + 2 * f
structure Wq where
 r : Rq
 lo : Bool
 fx : Bool
inductive Cw where
 | fin (b : Bool) (o : Ou)
 | hd (q : Wq)
 | a2 (q : Wq) (wd : Int)
 | a3 (q : Wq) (wd : Int)
 | a4 (q : Wq) (wd w : Int)
 | a5 (q : Wq) (wd w : Int)
 | a6 (q : Wq) (wd st : Int)
 | a7 (q : Wq) (wd st w : Int)
 | a9 (q : Wq) (wd w : Int)
 | a11 (q : Wq) (wd : Int)
 | a12 (q : Wq) (wd w : Int)
 | a13 (q : Wq) (wd w l : Int)
 | a14 (q : Wq) (wd w : Int)
 | pl (x : Sx)
 | dr (b : Bool) (x : Sx)
def empW : Int := 2
namespace Cw
def hit : Cw → Bool
 | .fin b _ => b
 | .a4 _ _ _ => true
 | .a5 _ _ _ => true
 | .a7 _ _ _ _ => true
 | .a9 _ _ _ => true
 | .a12 _ _ _ => true
 | .pl x => x.hit
 | .dr b _ => b
 | _ => false
def o : Cw → Ou
 | .fin _ o => o
 | _ => Ou.zero
def done : Cw → Bool
 | .fin _ _ => true
 | _ => false
def go (b : Bool) (q : Wq) (base : Int) : Cw := .dr b (Sx.new (base + 1 + q.r.fd) q.r (hwC q.fx))
def onP (y : Sx) : Cw := if y.done then .fin y.hit y.o else .pl y
def onD (y : Sx) : Cw := if y.done then .fin y.hit y.o else .dr y.hit y
def new (r : Rq) (e : En) : Cw := if r.at_ = 0 then .fin false ⟨14, Vl.zero, false⟩ else if e.md < 5 then .pl (Sx.plain r e) else .hd ⟨r, decide (e.md < 7), e.md == 8⟩
def fa (q : Wq) : Int := q.r.at_ + 1 + q.r.fd
def pa (q : Wq) (wd : Int) : Int := pairP wd q.r.fd
def told (q : Wq) (w : Int) : Prop := q.r.op = 1 ∨ q.r.op = 3 ∧ Vl.of w ≠ q.r.x
instance (q : Wq) (w : Int) : Decidable (told q w) := by unfold told; exact inferInstance
def tells (b : Bool) (q : Wq) (w : Int) : Cw := .fin b (if q.r.op = 1 then ⟨0, Vl.of w, false⟩ else Ou.zero)
def wrote (q : Wq) : Cw := .fin true ⟨0, Vl.zero, q.r.op == 3⟩
def by_ (q : Wq) (wd t : Int) : Cw := if t = 0 then .a3 q wd else if t = 1 then .a6 q wd 1 else if t = 2 then .a6 q wd 2 else .a11 q wd
def next (x : Cw) (s : St) : Cw :=
 match x with
 | .fin b o => .fin b o
 | .hd q =>
  if q.r.fd < 0 ∨ pN (s.got q.r.at_) ≤ q.r.fd then .fin false ⟨15, Vl.zero, false⟩
  else if pT (s.got q.r.at_) = 2 then go false q (pL (s.got q.r.at_))
  else if pT (s.got q.r.at_) = 3 then .a2 q (pL (s.got q.r.at_))
  else go false q q.r.at_
 | .a2 q wd => by_ q wd (s.got (pa q wd))
 | .a3 q wd => if F.Plain.froz (s.got (fa q)) then .a5 q wd (s.got (fa q)) else if told q (s.got (fa q)) then tells true q (s.got (fa q)) else .a4 q wd (s.got (fa q))
 | .a4 q wd w => if q.lo then (if s.ok1 (fa q) w then wrote q else .a3 q wd) else .a3 q wd
 | .a5 q wd w => .a2 q wd
 | .a6 q wd st => if told q (s.got (pa q wd + 1)) then .a7 q wd st (s.got (pa q wd + 1)) else if st = 1 then .a9 q wd (s.got (pa q wd + 1)) else .a12 q wd (s.got (pa q wd + 1))
 | .a7 q wd st w => if s.got (pa q wd) = st then tells false q w else by_ q wd (s.got (pa q wd))
 | .a9 q wd w => if q.lo then (if s.ok2 (pa q wd) 1 w then wrote q else .a2 q wd) else .a2 q wd
 | .a11 q wd => go false q (pL (s.got wd))
 | .a12 q wd w => .a13 q wd w (pL (s.got wd))
 | .a13 q wd w l => .a14 q wd w
 | .a14 q wd w => .a2 q wd
 | .pl x => onP (x.next s)
 | .dr _ x => onD (x.next s)
def mem (x : Cw) (s : St) : St :=
 match x with
 | .fin _ _ => s
 | .hd q => s.load q.r.at_
 | .a2 q wd => s.load (pa q wd)
 | .a3 q wd => s.load (fa q)
 | .a4 q wd w => s.cas (fa q) w (if q.lo then q.r.y.w else F.Plain.fz w)
 | .a5 q wd w => s.cas2 (pa q wd) 0 0 1 (F.Plain.th w)
 | .a6 q wd st => s.load (pa q wd + 1)
 | .a7 q wd st w => s.load (pa q wd)
 | .a9 q wd w => if q.lo then s.cas2 (pa q wd) 1 w 1 q.r.y.w else s.cas2 (pa q wd) 1 w 2 w
 | .a11 q wd => s.load wd
 | .a12 q wd w => s.load wd
 | .a13 q wd w l => s.cas (l + 1 + q.r.fd) empW w
 | .a14 q wd w => s.cas2 (pa q wd) 2 w 3 w
 | .pl x => x.mem s
 | .dr _ x => x.mem s
end Cw
def Rq.Ok (r : Rq) : Prop := (r.op = 1 ∨ r.op = 2 ∨ r.op = 3) ∧ 0 ≤ r.at_ ∧ r.at_ < 4096 ∧ 0 ≤ r.fd ∧ r.fd < 4096
def In12 (l : Int) : Prop := 0 ≤ l ∧ l < 4096
def Cw.Ok : Cw → Prop
 | .fin _ _ => True
 | .hd q => q.r.Ok
 | .a2 q wd => q.r.Ok ∧ In12 wd
 | .a3 q wd => q.r.Ok ∧ In12 wd
 | .a4 q wd w => q.r.Ok ∧ In12 wd ∧ U64 w ∧ q.r.op ≠ 1
 | .a5 q wd w => q.r.Ok ∧ In12 wd ∧ U64 w
 | .a6 q wd st => q.r.Ok ∧ In12 wd ∧ (st = 1 ∨ st = 2)
 | .a7 q wd st w => q.r.Ok ∧ In12 wd ∧ (st = 1 ∨ st = 2) ∧ U64 w ∧ q.r.op ≠ 2
 | .a9 q wd w => q.r.Ok ∧ In12 wd ∧ U64 w ∧ q.r.op ≠ 1
 | .a11 q wd => q.r.Ok ∧ In12 wd
 | .a12 q wd w => q.r.Ok ∧ In12 wd ∧ U64 w ∧ q.r.op ≠ 1
 | .a13 q wd w l => q.r.Ok ∧ In12 wd ∧ U64 w ∧ In12 l ∧ q.r.op ≠ 1
 | .a14 q wd w => q.r.Ok ∧ In12 wd ∧ U64 w ∧ q.r.op ≠ 1
 | .pl x => x.Ok ∧ x.done = false
 | .dr _ x => x.Ok ∧ x.done = false
theorem new_notdone {f : Int} {r : Rq} {h : Hw} (hop : r.op = 1 ∨ r.op = 2 ∨ r.op = 3) : (Sx.new f r h).done = false := by
 rcases hop with e | e | e <;> simp [Sx.new, firstK, e, Sx.done]
theorem in12_pL (z : Int) : In12 (pL z) := by unfold In12 H.Plain.pL; omega
theorem rng_cas2 {s : St} (h : s.Rng) (a o0 o1 : Int) {x0 x1 : Int} (h0 : U64 x0) (h1 : U64 x1) : (s.cas2 a o0 o1 x0 x1).Rng := by
 unfold St.cas2
 split
 ·exact ((h.put a h0).put (a + 1) h1).tell _ _ _ _
 ·exact h.tell _ _ _ _
theorem u64_fz {w : Int} (h : U64 w) : U64 (F.Plain.fz w) := by obtain ⟨h1, h2⟩ := h; unfold F.Plain.fz; constructor <;> omega
theorem u64_th {w : Int} (h : U64 w) : U64 (F.Plain.th w) := by obtain ⟨h1, h2⟩ := h; unfold F.Plain.th; constructor <;> omega
namespace Cw
variable {x : Cw} {s : St} {r : Rq} {q : Wq} {wd t : Int}
theorem ok_go (h : q.r.Ok) (b : Bool) (l : Int) : (go b q l).Ok := ⟨Sx.ok_new _ _ _, new_notdone h.1⟩
theorem ok_onP {y : Sx} (h : y.Ok) : (onP y).Ok := by
 unfold onP
 split
 ·trivial
 ·rename_i e; exact ⟨h, by simpa using e⟩
theorem ok_onD {y : Sx} (h : y.Ok) : (onD y).Ok := by
 unfold onD
 split
 ·trivial
 ·rename_i e; exact ⟨h, by simpa using e⟩
theorem ok_by (h : q.r.Ok) (hw : In12 wd) : (by_ q wd t).Ok := by
 unfold by_
 split
 ·exact ⟨h, hw⟩
 ·split
  ·exact ⟨h, hw, .inl rfl⟩
  ·split
   ·exact ⟨h, hw, .inr rfl⟩
   ·exact ⟨h, hw⟩
theorem ok_new {e : En} (h : r.Ok) : (Cw.new r e).Ok := by
 obtain ⟨h1, h2, h3, h4, h5⟩ := h
 unfold Cw.new
 split
 ·trivial
 ·split
  ·rename_i h0 _
   exact ⟨Sx.ok_plain e h2 h3, by unfold Sx.plain; rw [if_neg h0]; rfl⟩
  ·exact ⟨h1, h2, h3, h4, h5⟩
theorem not_told {w : Int} (h : ¬ told q w) : q.r.op ≠ 1 := fun e => h (.inl e)
theorem told_ne2 {w : Int} (h : told q w) : q.r.op ≠ 2 := fun e => by rcases h with h | h <;> omega
theorem Ok.next (h : x.Ok) (r : s.Rng) : (x.next s).Ok := by
 cases x with
 | fin b o => trivial
 | hd q =>
  simp only [Cw.next]
  split
  ·trivial
  ·split
   ·exact ok_go h _ _
   ·split
    ·exact ⟨h, in12_pL _⟩
    ·exact ok_go h _ _
 | a2 q wd => exact ok_by h.1 h.2
 | a3 q wd =>
  simp only [Cw.next]
  split
  ·exact ⟨h.1, h.2, r.got _⟩
  ·split
   ·trivial
   ·exact ⟨h.1, h.2, r.got _, not_told (by assumption)⟩
 | a4 q wd w =>
  simp only [Cw.next]
  split
  ·split
   ·trivial
   ·exact ⟨h.1, h.2.1⟩
  ·exact ⟨h.1, h.2.1⟩
 | a5 q wd w => exact ⟨h.1, h.2.1⟩
 | a6 q wd st =>
  simp only [Cw.next]
  split
  ·exact ⟨h.1, h.2.1, h.2.2, r.got _, told_ne2 (by assumption)⟩
  ·split
   ·exact ⟨h.1, h.2.1, r.got _, not_told (by assumption)⟩
   ·exact ⟨h.1, h.2.1, r.got _, not_told (by assumption)⟩
 | a7 q wd st w =>
  simp only [Cw.next]
  split
  ·trivial
  ·exact ok_by h.1 h.2.1
 | a9 q wd w =>
  simp only [Cw.next]
  split
  ·split
   ·trivial
   ·exact ⟨h.1, h.2.1⟩
  ·exact ⟨h.1, h.2.1⟩
 | a11 q wd => exact ok_go h.1 _ _
 | a12 q wd w => exact ⟨h.1, h.2.1, h.2.2.1, in12_pL _, h.2.2.2⟩
 | a13 q wd w l => exact ⟨h.1, h.2.1, h.2.2.1, h.2.2.2.2⟩
 | a14 q wd w => exact ⟨h.1, h.2.1⟩
 | pl x => exact ok_onP (h.1.next r)
 | dr b x => exact ok_onD (h.1.next r)
theorem len (h : x.Ok) : (x.mem s).ws.length = s.ws.length := by
 cases x with
 | a4 q wd w => exact St.n_cas _ _ _ _
 | a5 q wd w => exact St.n_cas2 _ _ _ _ _ _
 | a9 q wd w =>
  simp only [Cw.mem]
  split
  ·exact St.n_cas2 _ _ _ _ _ _
  ·exact St.n_cas2 _ _ _ _ _ _
 | a13 q wd w l => exact St.n_cas _ _ _ _
 | a14 q wd w => exact St.n_cas2 _ _ _ _ _ _
 | pl x => exact Sx.len h.1
 | dr b x => exact Sx.len h.1
 | _ => rfl
end Cw
end Go.Proofs.YtpcoldpphihfmaaGreatDoor
namespace Go.Proofs.YtpcoldpphihfmaaGreatDoor
set_option linter.unusedVariables false
set_option maxRecDepth 100000
open Go.ChangeShapes Go.WideShapes Go.RowKit
open H.Plain (hw pS pC pN pM pG pT pL mv)
def Bh (w : World) : Prop := 0 < w.heap.size ∧ w.cell? ⟨0, 0, none⟩ = some (.int .i64 3) ∧ w.cell? ⟨0, 1, none⟩ = some (.int .i64 6) ∧ w.cell? ⟨0, 2, none⟩ = some (.int .i64 8) ∧ w.cell? ⟨0, 3, none⟩ = some (.int .i64 11)
theorem Bh.on {w u : World} (h : Bh w) (hb : Below w.heap.size w u) : Bh u := by
 obtain ⟨h0, a0, a1, a2, a3⟩ := h
 exact ⟨Nat.lt_of_lt_of_le h0 hb.size, (hb.cell h0).trans a0, (hb.cell h0).trans a1, (hb.cell h0).trans a2, (hb.cell h0).trans a3⟩
structure Ax where
 r : Rq
 cl : Bool
 h : Hw
 pc : Int
 wd : Int
 l : Int
 z0 : Int
 z : Int
 p : Sx
 vp : Value
 d : Sx
 vd : Value
 hit : Bool
 o : Ou
def Ax.cells (a : Ax) : Array Value := #[.int .i64 a.r.op, .int .i64 a.r.at_, .int .i64 a.r.fd, .int .i64 a.r.x.k, .int .i64 a.r.x.n, .int .i64 a.r.y.k, .int .i64 a.r.y.n, .bool a.cl, .bool a.h.sh, .bool a.h.ca, .bool a.h.fx, .int .i64 a.h.mr, .int .i64 a.pc, .int .i64 a.wd, .int .i64 a.l, .int .u64 a.z0, .int .u64 a.z,
 a.vp, .bool a.p.hit, .int .i64 a.p.o.c, .int .i64 a.p.o.v.k, .int .i64 a.p.o.v.n, .bool a.p.o.y, a.vd, .bool a.d.hit, .int .i64 a.d.o.c, .int .i64 a.d.o.v.k, .int .i64 a.d.o.v.n, .bool a.d.o.y, .bool a.hit, .int .i64 a.o.c, .int .i64 a.o.v.k, .int .i64 a.o.v.n, .bool a.o.y]
def Cw.pc : Cw → Int
 | .fin _ _ => 0
 | .hd _ => 1
 | .a2 _ _ => 2
 | .a3 _ _ => 3
 | .a4 _ _ _ => 4
 | .a5 _ _ _ => 5
 | .a6 _ _ st => if st = 1 then 6 else 8
 | .a7 _ _ _ _ => 7
 | .a9 _ _ _ => 9
 | .a11 _ _ => 11
 | .a12 _ _ _ => 12
 | .a13 _ _ _ _ => 13
 | .a14 _ _ _ => 14
 | .pl _ => 15
 | .dr _ _ => 16
structure Ax.On (a : Ax) (q : Wq) : Prop where
 r : a.r = q.r
 cl : a.cl = !q.lo
 h : a.h = hwC q.fx
 o : a.o = Ou.zero
def Ax.As (w : World) (a : Ax) (x : Cw) : Prop := a.hit = x.hit ∧ match x with
 | .fin b o => a.o = o
 | .hd q => a.On q
 | .a2 q wd => a.On q ∧ a.wd = wd
 | .a3 q wd => a.On q ∧ a.wd = wd
 | .a4 q wd z => a.On q ∧ a.wd = wd ∧ a.z = z
 | .a5 q wd z => a.On q ∧ a.wd = wd ∧ a.z = z
 | .a6 q wd st => a.On q ∧ a.wd = wd ∧ a.z0 = st
 | .a7 q wd st z => a.On q ∧ a.wd = wd ∧ a.z0 = st ∧ a.z = z
 | .a9 q wd z => a.On q ∧ a.wd = wd ∧ a.z0 = 1 ∧ a.z = z
 | .a11 q wd => a.On q ∧ a.wd = wd
 | .a12 q wd z => a.On q ∧ a.wd = wd ∧ a.z0 = 2 ∧ a.z = z
 | .a13 q wd z l => a.On q ∧ a.wd = wd ∧ a.z0 = 2 ∧ a.z = z ∧ a.l = l
 | .a14 q wd z => a.On q ∧ a.wd = wd ∧ a.z0 = 2 ∧ a.z = z
 | .pl x => a.o = Ou.zero ∧ a.p = x ∧ RepO w x.k a.vp
 | .dr b x => a.o = Ou.zero ∧ a.d = x ∧ RepO w x.k a.vd
def Ax.Is (w : World) (a : Ax) (x : Cw) : Prop := a.pc = x.pc ∧ a.As w x
theorem Ax.As.out {w : World} {a : Ax} {x : Cw} (h : a.As w x) : a.o = x.o := by
 cases x with
 | fin b o => exact h.2
 | hd q => exact h.2.o
 | pl x => exact h.2.1
 | dr b x => exact h.2.1
 | _ => exact h.2.1.o
theorem Ax.As.oth {w w' : World} {a : Ax} {x : Cw} {F : List Nat} (h : a.As w x) (o : Oth F w w') (hF : ∀ q ∈ F, ∃ cs T fz, w.heap[q]? = some (.cells cs T fz) ∧ T ∉ BTs) : a.As w' x := by
 cases x with
 | pl x => obtain ⟨h1, h2, h3, h4⟩ := h; exact ⟨h1, h2, h3, h4.oth o hF⟩
 | dr b x => obtain ⟨h1, h2, h3, h4⟩ := h; exact ⟨h1, h2, h3, h4.oth o hF⟩
 | _ => exact h
theorem Cw.pc_done (x : Cw) : (x.pc == 0) = x.done := by
 cases x with
 | a6 q wd st => simp only [Cw.pc, Cw.done]; split <;> rfl
 | _ => rfl
theorem by_pc (q : Wq) (wd t : Int) : (Cw.by_ q wd t).pc = if t = 0 then 3 else if t = 1 then 6 else if t = 2 then 8 else 11 := by
 unfold Cw.by_
 (repeat' split) <;> simp_all [Cw.pc]
theorem as_by {w : World} {a : Ax} {q : Wq} {wd t : Int} (I : a.On q) (hw : a.wd = wd) (hz : a.z0 = t) (hh : a.hit = false) : a.As w (Cw.by_ q wd t) := by
 unfold Cw.by_
 split
 ·exact ⟨hh, I, hw⟩
 ·split
  ·rename_i e; exact ⟨hh, I, hw, hz.trans e⟩
  ·split
   ·rename_i e; exact ⟨hh, I, hw, hz.trans e⟩
   ·exact ⟨hh, I, hw⟩
end Go.Proofs.YtpcoldpphihfmaaGreatDoor
