import Derived.Test.YtpcoldpphihfmaaGreatDoorGc
import Derived.Test.YtpcoldpphihfmaaGreatDoorFCalls
namespace Go.Proofs.YtpcoldpphihfmaaGreatDoor
set_option linter.unusedVariables false
set_option maxRecDepth 100000
open H.Plain (hw pS pC pN pM pG pT pL mv)
structure Vl where
 k : Int
 n : Int
deriving DecidableEq
def Vl.of (a : Int) : Vl := ⟨F.Plain.kind a, F.Plain.num a⟩
def Vl.w (v : Vl) : Int := F.Plain.word v.k v.n
def Vl.zero : Vl := ⟨0, 0⟩
def Vl.far (v : Vl) : Bool := v.k == 1 && v.n != 0
structure Rq where
 op : Int
 at_ : Int
 fd : Int
 x : Vl
 y : Vl
structure Hw where
 sh : Bool
 ca : Bool
 fx : Bool
 mr : Int
structure En where
 md : Int
 mr : Int
 al : Int
structure Ou where
 c : Int
 v : Vl
 y : Bool
deriving DecidableEq
def Ou.zero : Ou := ⟨0, Vl.zero, false⟩
inductive K where
 | read (f : Int) (fx : Bool)
 | follow (a : Int)
 | store (f : Int) (v : Vl)
 | load (f : Int) (v : Vl) (h : Hw)
 | swap (f : Int) (r : Rq) (h : Hw)
 | exch (f w : Int) (r : Rq) (h : Hw)
 | shade (x : ShadeS) (t : K)
 | compS (a b : Int) (t : K)
 | compT (a b : Int)
 | comp2S (c b : Int) (t : K)
 | comp2T (c b : Int)
 | plain (r : Rq) (e : En)
structure Sx where
 k : Option K
 hit : Bool
 o : Ou
def shadeK (v : Vl) (h : Hw) (t : K) : K := if h.sh && v.far then .shade (ShadeS.new v.n h.mr) t else t
def behind (f w : Int) (r : Rq) (h : Hw) : K := shadeK (Vl.of w) h (shadeK r.y h (.exch f w r h))
def firstK (f : Int) (r : Rq) (h : Hw) : Option K :=
 if r.op = 1 then some (.read f h.fx)
 else if r.op = 2 then some (if h.sh then .load f r.y h else .store f r.y)
 else if r.op = 3 then some (.swap f r h)
 else none
def shadesM (m : Int) : Bool := m == 1 || m == 2 || m == 3
def Sx.new (f : Int) (r : Rq) (h : Hw) : Sx := ⟨firstK f r h, false, Ou.zero⟩
def Sx.plain (r : Rq) (e : En) : Sx := if r.at_ = 0 then ⟨none, false, ⟨14, Vl.zero, false⟩⟩ else ⟨some (.plain r e), false, Ou.zero⟩
def Sx.same (a b : Int) : Sx := if a = b ∨ a = 0 ∨ b = 0 then ⟨none, false, ⟨0, Vl.zero, a == b⟩⟩ else ⟨some (.compT a b), false, Ou.zero⟩
def K.next (k : K) (s : St) : Sx :=
 match k with
 | .read f fx => if fx && (Vl.of (s.got f)).far then ⟨some (.follow (Vl.of (s.got f)).n), true, Ou.zero⟩ else ⟨none, true, ⟨0, Vl.of (s.got f), false⟩⟩
 | .follow a => ⟨none, false, ⟨0, ⟨1, mv (s.got a) a⟩, false⟩⟩
 | .store f v => ⟨none, true, Ou.zero⟩
 | .load f v h => ⟨some (shadeK (Vl.of (s.got f)) h (shadeK v h (.store f v))), false, Ou.zero⟩
 | .swap f r h => if Vl.of (s.got f) = r.x then ⟨some (behind f (s.got f) r h), true, Ou.zero⟩
   else if h.ca && (Vl.of (s.got f)).far && r.x.far then ⟨some (.compS (Vl.of (s.got f)).n r.x.n (behind f (s.got f) r h)), true, Ou.zero⟩
   else ⟨none, true, Ou.zero⟩
 | .exch f w r h => if s.ok1 f w then ⟨none, true, ⟨0, Vl.zero, true⟩⟩ else ⟨some (.swap f r h), false, Ou.zero⟩
 | .shade x t => if (x.next s).pc = 0 then ⟨some t, false, Ou.zero⟩ else ⟨some (.shade (x.next s) t), false, Ou.zero⟩
 | .compS a b t => ⟨some (.comp2S (mv (s.got a) a) b t), false, Ou.zero⟩
 | .compT a b => ⟨some (.comp2T (mv (s.got a) a) b), false, Ou.zero⟩
 | .comp2S c b t => if c = mv (s.got b) b then ⟨some t, false, Ou.zero⟩ else ⟨none, false, Ou.zero⟩
 | .comp2T c b => ⟨none, false, ⟨0, Vl.zero, c == mv (s.got b) b⟩⟩
 | .plain r e => if r.fd < 0 ∨ pN (s.got r.at_) ≤ r.fd then ⟨none, false, ⟨15, Vl.zero, false⟩⟩ else Sx.new (r.at_ + 1 + r.fd) r ⟨shadesM e.md, false, false, e.mr⟩
def K.mem (k : K) (s : St) : St :=
 match k with
 | .read f fx => s.load f
 | .follow a => s.load a
 | .store f v => s.store f v.w
 | .load f v h => s.load f
 | .swap f r h => s.load f
 | .exch f w r h => s.cas f w r.y.w
 | .shade x t => x.mem s
 | .compS a b t => s.load a
 | .compT a b => s.load a
 | .comp2S c b t => s.load b
 | .comp2T c b => s.load b
 | .plain r e => s.load r.at_
def Sx.next (x : Sx) (s : St) : Sx := match x.k with | none => x | some k => k.next s
def Sx.mem (x : Sx) (s : St) : St := match x.k with | none => s | some k => k.mem s
def Sx.done (x : Sx) : Bool := x.k.isNone
def K.Ok : K → Prop
 | .exch f w r h => U64 w
 | .shade x t => x.Ok ∧ t.Ok
 | .compS a b t => t.Ok
 | .comp2S c b t => t.Ok
 | .plain r e => 0 ≤ r.at_ ∧ r.at_ < 4096
 | _ => True
def Sx.Ok (x : Sx) : Prop := ∀ k, x.k = some k → k.Ok
theorem u64_word (k n : Int) : U64 (F.Plain.word k n) := by unfold F.Plain.word; constructor <;> omega
theorem Vl.u64 (v : Vl) : U64 v.w := u64_word _ _
theorem ok_shadeK {v : Vl} {h : Hw} {t : K} (ht : t.Ok) : (shadeK v h t).Ok := by
 unfold shadeK; split
 ·exact ⟨ShadeS.ok_new _ _, ht⟩
 ·exact ht
theorem ok_behind {f w : Int} {r : Rq} {h : Hw} (hw : U64 w) : (behind f w r h).Ok := ok_shadeK (ok_shadeK hw)
theorem ok_firstK {f : Int} {r : Rq} {h : Hw} {k : K} (e : firstK f r h = some k) : k.Ok := by
 unfold firstK at e
 split at e
 ·cases e; trivial
 ·split at e
  ·cases e; split <;> trivial
  ·split at e
   ·cases e; trivial
   ·cases e
theorem Sx.ok_new (f : Int) (r : Rq) (h : Hw) : (Sx.new f r h).Ok := fun k e => ok_firstK e
theorem Sx.ok_plain {r : Rq} (e : En) (h0 : 0 ≤ r.at_) (h : r.at_ < 4096) : (Sx.plain r e).Ok := fun k hk => by
 unfold Sx.plain at hk; split at hk
 ·cases hk
 ·cases hk; exact ⟨h0, h⟩
theorem K.Ok.next {k : K} {s : St} (h : k.Ok) (r : s.Rng) : (k.next s).Ok := by
 cases k with
 | read f fx => intro k e; simp only [K.next] at e; split at e <;> cases e; trivial
 | follow a => intro k e; simp only [K.next] at e; cases e
 | store f v => intro k e; simp only [K.next] at e; cases e
 | load f v h => intro k e; simp only [K.next] at e; cases e; exact ok_shadeK (ok_shadeK trivial)
 | swap f q h =>
  intro k e; simp only [K.next] at e
  split at e
  ·cases e; exact ok_behind (r.got _)
  ·split at e
   ·cases e; exact ok_behind (r.got _)
   ·cases e
 | exch f w q h => intro k e; simp only [K.next] at e; split at e <;> cases e; trivial
 | shade x t =>
  intro k e; simp only [K.next] at e
  split at e
  ·cases e; exact h.2
  ·cases e; exact ⟨h.1.next r, h.2⟩
 | compS a b t => intro k e; simp only [K.next] at e; cases e; exact h
 | compT a b => intro k e; simp only [K.next] at e; cases e; trivial
 | comp2S c b t => intro k e; simp only [K.next] at e; split at e <;> cases e; exact h
 | comp2T c b => intro k e; simp only [K.next] at e; cases e
 | plain q e => intro k e'; simp only [K.next] at e'; split at e'; cases e'; exact ok_firstK e'
theorem K.rng {k : K} {s : St} (h : k.Ok) (r : s.Rng) : (k.mem s).Rng := by
 cases k with
 | store f v => exact r.store _ v.u64
 | exch f w q h => exact r.cas _ _ q.y.u64
 | shade x t => exact ShadeS.rng h.1 r
 | _ => exact r
theorem K.fit {k : K} {s : St} (h : k.Ok) (f : s.Fit) (hc : s.c < 1000000) : (k.mem s).Fit := by
 cases k with
 | store f' v => exact f.store hc _ _
 | exch f' w q h => exact f.cas hc _ _ _
 | shade x t => exact ShadeS.fit h.1 f hc
 | _ => exact f.load hc _
theorem K.cnt {k : K} {s : St} (h : k.Ok) : (k.mem s).c ≤ s.c + 1 := by
 cases k with
 | store f' v => simp only [K.mem, St.c_store]; omega
 | exch f' w q h => simp only [K.mem, St.c_cas]; omega
 | shade x t => exact ShadeS.count h.1
 | _ => simp only [K.mem, St.c_load]; omega
theorem ShadeS.len {x : ShadeS} {s : St} (h : x.Ok) : (x.mem s).ws.length = s.ws.length := by
 obtain ⟨c, m, pc, z, hd, l⟩ := x
 rcases pc_cases5 h.pc with rfl | rfl | rfl | rfl | rfl | rfl
 ·rfl
 ·rfl
 ·exact St.n_cas _ _ _ _
 ·rfl
 ·exact St.n_store _ _ _
 ·exact St.n_cas _ _ _ _
theorem K.len {k : K} {s : St} (h : k.Ok) : (k.mem s).ws.length = s.ws.length := by
 cases k with
 | store f' v => exact St.n_store _ _ _
 | exch f' w q h => exact St.n_cas _ _ _ _
 | shade x t => exact ShadeS.len h.1
 | _ => rfl
section
variable {x : Sx} {s : St}
theorem Sx.Ok.next (h : x.Ok) (r : s.Rng) : (x.next s).Ok := by
 unfold Sx.next; split
 ·exact h
 ·rename_i k e; exact (h k e).next r
theorem Sx.rng (h : x.Ok) (r : s.Rng) : (x.mem s).Rng := by
 unfold Sx.mem; split
 ·exact r
 ·rename_i k e; exact K.rng (h k e) r
theorem Sx.fit (h : x.Ok) (f : s.Fit) (hc : s.c < 1000000) : (x.mem s).Fit := by
 unfold Sx.mem; split
 ·exact f
 ·rename_i k e; exact K.fit (h k e) f hc
theorem Sx.cnt (h : x.Ok) : (x.mem s).c ≤ s.c + 1 := by
 unfold Sx.mem; split
 ·omega
 ·rename_i k e; exact K.cnt (h k e)
theorem Sx.len (h : x.Ok) : (x.mem s).ws.length = s.ws.length := by
 unfold Sx.mem; split
 ·rfl
 ·rename_i k e; exact K.len (h k e)
end
def Vl.val (v : Vl) : Value := .agg #[.int .i64 v.k, .int .i64 v.n]
def Rq.cells (r : Rq) : Array Value := #[.int .i64 r.op, .int .i64 r.at_, .int .i64 r.fd, .int .i64 r.x.k, .int .i64 r.x.n, .int .i64 r.y.k, .int .i64 r.y.n]
def Hw.cells (h : Hw) : Array Value := #[.bool h.sh, .bool h.ca, .bool h.fx, .int .i64 h.mr]
def En.cells (e : En) : Array Value := #[.int .i64 e.md, .int .i64 e.mr, .int .i64 e.al]
def Ou.cells (o : Ou) : Array Value := #[.int .i64 o.c, .int .i64 o.v.k, .int .i64 o.v.n, .bool o.y]
end Go.Proofs.YtpcoldpphihfmaaGreatDoor
