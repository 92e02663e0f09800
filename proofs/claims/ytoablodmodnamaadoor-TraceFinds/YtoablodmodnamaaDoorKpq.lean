/-
  A Poll and an Ask, said plainly: what a step makes of the machine, and of the memory.
-/
import Derived.Test.YtoablodmodnamaaDoorBhq
import Derived.Test.YtoablodmodnamaaDoorBnq
import Derived.Test.YtoablodmodnamaaDoorOiq
import Derived.Test.YtoablodmodnamaaDoorGpq
namespace Go.Proofs.YtoablodmodnamaaDoor
set_option linter.unusedVariables false
set_option linter.unusedSimpArgs false
set_option maxRecDepth 100000
open Go.ChangeShapes Go.WideShapes Go.RowKit
open S.Plain (t0 t1 tw nx bw b0 b1 b2 b3)
open H.Plain (hw pS pC pN pM pG pT pL)

theorem fr_facts {n : Nat} (h1 : 1 ≤ n) (hn : n ≤ 6) : t0 ((frSt 2 n).word 2) = 1 ∧ (∀ i : Nat, i < 6 → i < n → b3 ((frSt 2 n).word (12 + i)) = nextOf n i) ∧ (∀ a : Nat, a < 9 → 3 ≤ a → t0 ((frSt 2 n).word a) = 0) ∧ (frSt 2 n).word 0 = 0 ∧ (frSt 2 n).word 1 = 0 ∧ (frSt 2 n).word 9 = 0 ∧ (frSt 2 n).word 10 = 0 ∧ (frSt 2 n).word 11 = 0 := by
  obtain rfl | rfl | rfl | rfl | rfl | rfl : n = 1 ∨ n = 2 ∨ n = 3 ∨ n = 4 ∨ n = 5 ∨ n = 6 := by omega
  all_goals decide +kernel
theorem sz_N {n : Nat} (hn : n ≤ 6) : szN 2 n = 32 + 32 * n := by unfold szN hpN; omega
theorem Vw.fresh {n : Nat} (hn : n ≤ 6) : Vw (32 + 32 * n) (frSt 2 n) (fun a => (frSt 2 n).word a) := ⟨by rw [frSt_len, sz_N hn], rfl, fun _ _ _ => rfl⟩
theorem Heap.new {n e : Nat} (h1 : 1 ≤ n) (hn : n ≤ 6) (he : e ≤ 1) : Heap n e (fun a => (frSt 2 n).word a) [] := by
  obtain ⟨f1, f2, f3, f4, f5, f6, f7, f8⟩ := fr_facts h1 hn
  have em : ∀ c : Nat, ¬ csN c < csN c := fun c => by omega
  have f3' : ∀ c : Nat, c ≤ 1 → t0 ((frSt 2 n).word (3 + 3 * (e : Int) + c)) = 0 := fun c hc => by
    have := f3 (3 + 3 * e + c) (by omega) (by omega)
    rwa [show ((3 + 3 * e + c : Nat) : Int) = 3 + 3 * (e : Int) + c by omega] at this
  refine ⟨0, fun _ => 0, csN, fun _ => 0, ⟨⟨by omega, ?_, fun i _ h2 => f2 i (by omega) h2, fun c hc => ?_, fun c j hc h2 h3 => by omega, fun c hc h2 => absurd h2 (em c), fun c hc => ?_, fun h2 => absurd h2 (em 0)⟩, fun c hc h2 => absurd h2 (em c), by simp, by simp, by simp, by simp, by simp, by simp, by simp, by simp, ⟨f4, f5, f6, f7, f8⟩⟩⟩
  · show t0 ((frSt 2 n).word 2) = _
    rw [if_pos (by omega), f1]; rfl
  · show t0 ((frSt 2 n).word (3 + 3 * (e : Int) + c)) = _
    rw [if_neg (em c)]; exact f3' c hc
  · have := cs_8 c; omega
/-- the blocks of the reference's machines -/
def M5s : List TypeId := [124, 164, 176, 180, 187]
def ats (l : List Ob) : List Value := l.map fun o => .int .i64 o.at
/-- the boxes of the function: the world's numbers, the answer's plan, the plan; the row of the objects -/
structure Bu (w0 w : World) (y : Nat) (s : St) (N : Nat) (x2 p4 p7 : Nat) (c2 c4 c7 : Array Value) (v : Value) (l : List Ob) : Prop where
  mem : Y1 w0 w y s N
  b2 : Blk w0 w x2 66 c2
  b4 : Blk w0 w p4 32 c4
  b7 : Blk w0 w p7 32 c7
  row : w.ownsRow 0 3 1 v l.length (ats l)
  old : ∀ k, v.ownBlock = some k → w0.heap.size ≤ k
  ne : p4 ≠ p7
section
variable {w0 w w' : World} {y : Nat} {s s' : St} {N N' x2 p4 p7 : Nat} {c2 c4 c7 : Array Value} {v : Value} {l : List Ob} {F : List Nat}
theorem Bu.oth (h : Bu w0 w y s N x2 p4 p7 c2 c4 c7 v l) (m : Y1 w0 w' y s' N') (o : Oth F w w') (f : ∀ z ∈ F, ∃ T cs, T ∈ M5s ∧ Blk w0 w z T cs) : Bu w0 w' y s' N' x2 p4 p7 c2 c4 c7 v l := by
  have key : ∀ {z : Nat} {T : TypeId} {cs : Array Value}, Blk w0 w z T cs → T ∉ M5s → z ∉ F := fun {z T cs} B hT hz => by
    obtain ⟨T', cs', h1, h2⟩ := f z hz
    exact (B.ne h2 (fun e => hT (e ▸ h1))) rfl
  refine ⟨m, h.b2.oth o (key h.b2 (by decide)), h.b4.oth o (key h.b4 (by decide)), h.b7.oth o (key h.b7 (by decide)), own_oth h.row o (by decide) fun k hk hz => ?_, h.old, h.ne⟩
  obtain ⟨T', cs', h1, h2⟩ := f k hz
  rcases h.row.2 with ⟨rfl, _⟩ | ⟨g, cap, cur, rfl, _, hg, _⟩
  · simp [Value.ownBlock] at hk
  · simp only [Value.ownBlock, Option.some.injEq] at hk
    subst hk
    rw [h2.at_] at hg
    simp at hg
    rw [hg.2] at h1
    exact absurd h1 (by decide)
theorem Bu.below (h : Bu w0 w y s N x2 p4 p7 c2 c4 c7 v l) (hb : Below w.heap.size w w') : Bu w0 w' y s N x2 p4 p7 c2 c4 c7 v l := h.oth (F := []) (h.mem.below hb) (Oth.below hb) (fun _ hz => by simp at hz)
theorem Bu.mono (h : Bu w0 w y s N x2 p4 p7 c2 c4 c7 v l) (hN : N ≤ N') : Bu w0 w y s N' x2 p4 p7 c2 c4 c7 v l := ⟨h.mem.mono hN, h.b2, h.b4, h.b7, h.row, h.old, h.ne⟩
end
section
variable {w0 w : World}
/-- an Alloc is made -/
theorem alNew (hs : w0.heap.size ≤ w.heap.size) {n m e : Nat} {mk : Int} (hn : n ≤ 6) (m7 : m ≤ 7) (he : e ≤ 1) :
    Calls Tryd.prog 58 #[.agg #[.int .i64 (mkPl 2 n).t, .int .i64 (mkPl 2 n).b, .int .i64 (mkPl 2 n).tb, .int .i64 (mkPl 2 n).hp, .int .i64 (mkPl 2 n).sz], .int .i64 m, .int .i64 mk, .int .i64 e] w fun v w' => ∃ ap rp xp, v = .returned (.pointer (some ⟨ap, 0, none⟩)) ∧ RAl w0 w' ap rp xp (.pointer none) [] (AllS.new (mkPl 2 n) m mk e) ∧ Below w.heap.size w w' := by
  refine (yNewAll (mkPl 2 n) (n := m) (m := mk) (e := e) (by omega) (by omega) (by omega) (by omega) w).mono ?_
  rintro v w' ⟨ap, rp, xp, rfl, h1, h2, h3, hb, g1, g2, g3⟩
  refine ⟨ap, rp, xp, rfl, ⟨⟨_, ⟨h1, by omega, by decide⟩⟩, ⟨⟨h2, by omega, by decide⟩, ⟨0, ⟨h3, by omega, by decide⟩, (by show pL 0 = 0; decide), U64.zero⟩, fun h => by simp [AllS.new, ResS.new] at h, fun h => by simp [AllS.new, ResS.new] at h, fun _ => rfl⟩, fun _ => ⟨by simp [AllS.new, ResS.new], rfl⟩, rfl, by simp [AllS.new], fun _ => rfl⟩, hb⟩
end
theorem intInfo : ∃ i, Tryd.prog.info? 3 = some i ∧ i.zero = some (.int .i64 0) ∧ i.size = 1 ∧ i.bytes = 8 := by
  have h : (Tryd.prog.info? 3).map (fun i => (i.zero, i.size, i.bytes)) = some (some (.int .i64 0), 1, 8) := by kernel_rfl
  obtain ⟨i, hi, he⟩ := Option.map_eq_some_iff.1 h
  simp only [Prod.mk.injEq] at he
  exact ⟨i, hi, he.1, he.2.1, he.2.2⟩
theorem new1 (W : World) (k : Nat) (hk : W.heap.size = k) (x : Value) (T : TypeId) : ∀ j u, [x][j]? = some u → (W.alloc (.cells #[x] T)).cell? ((⟨k, 0, none⟩ : Addr).add j) = some u := by
  subst hk
  intro j u hu
  rw [Addr.add_lit, Nat.zero_add, cell_of_row _ _ _ _ _ _ (heap_alloc_new W _)]
  simpa using hu
/-- one more object in the row -/
theorem Bu.push {w0 w w' : World} {y : Nat} {s : St} {N x2 p4 p7 g cp : Nat} {c2 c4 c7 : Array Value} {v : Value} {l : List Ob} {ob : Obj} {o : Ob} (h : Bu w0 w y s N x2 p4 p7 c2 c4 c7 v l)
    (hrow : w'.ownsRow 0 3 1 (.slice (some ⟨g, 0, none⟩) (l.length + 1) cp) (l.length + 1) (ats l ++ [.int .i64 o.at])) (hg : (w.alloc ob).grownBy w' v.ownBlock) (hn : v.ownBlock = some g ∨ (w.alloc ob).heap.size ≤ g) :
    Bu w0 w' y s N x2 p4 p7 c2 c4 c7 (.slice (some ⟨g, 0, none⟩) (l.length + 1) cp) (l ++ [o]) := by
  have h1 := h.below ((Below.refl _ _).alloc (Nat.le_refl _) ob)
  have K : Kept v.ownBlock.toList (w.alloc ob) w' := Kept.grown _ hg fun k hk => by simp [hk]
  have hk : ∀ k ∈ v.ownBlock.toList, w0.heap.size ≤ k ∧ ∃ cs T fz, T ∉ MTs ∧ T ∉ [66, 32] ∧ (w.alloc ob).heap[k]? = some (.cells cs T fz) := fun k hk => by
    have hk' : v.ownBlock = some k := by simpa using hk
    refine ⟨h.old k hk', ?_⟩
    rcases h1.row.2 with ⟨rfl, _⟩ | ⟨g', cap, cur, rfl, _, hg', _⟩
    · simp [Value.ownBlock] at hk'
    · simp only [Value.ownBlock, Option.some.injEq] at hk'
      subst hk'
      exact ⟨_, _, _, by decide, by decide, hg'⟩
  have nin : ∀ {z : Nat} {T : TypeId} {cs : Array Value}, Blk w0 (w.alloc ob) z T cs → T ∈ [66, 32] → z ∉ v.ownBlock.toList := fun {z T cs} B hT hz => by
    obtain ⟨_, cs', T', fz, _, h2, h3⟩ := hk z hz
    rw [B.at_] at h3
    simp at h3
    exact h2 (h3.2.1 ▸ hT)
  refine ⟨h1.mem.kept K fun k hk' => ?_, h1.b2.oth (Oth.kept K) (nin h1.b2 (by decide)), h1.b4.oth (Oth.kept K) (nin h1.b4 (by decide)), h1.b7.oth (Oth.kept K) (nin h1.b7 (by decide)), ?_, fun k hk' => ?_, h.ne⟩
  · obtain ⟨a, cs', T', fz, b, _, c⟩ := hk k hk'
    exact ⟨a, cs', T', fz, b, c⟩
  · have e1 : ats (l ++ [o]) = ats l ++ [.int .i64 o.at] := by simp [ats]
    have e2 : (l ++ [o]).length = l.length + 1 := by simp
    rw [e1, e2]; exact hrow
  · simp only [Value.ownBlock, Option.some.injEq] at hk'
    subst hk'
    rcases hn with hn | hn
    · exact h.old _ hn
    · have := h.mem.bel.size
      have h2 := ((Below.refl w.heap.size w).alloc (Nat.le_refl _) ob).size
      omega
theorem RAl.kind5 {w0 w : World} {ap rp xp : Nat} {yv : Value} {Y : List Nat} {x : AllS} (h : RAl w0 w ap rp xp yv Y x) : ∀ z ∈ ap :: rp :: xp :: Y, ∃ T cs, T ∈ M5s ∧ Blk w0 w z T cs := fun z hz => by
  obtain ⟨cs, T, B, hT⟩ := h.kind z hz
  exact ⟨T, cs, hT, B⟩
end Go.Proofs.YtoablodmodnamaaDoor

namespace Go.Proofs.YtoablodmodnamaaDoor
set_option linter.unusedVariables false
set_option maxRecDepth 100000
open Go.ChangeShapes Go.WideShapes Go.RowKit
open S.Plain (t0 t1 tw nx p0 p1 p2 p3 pw)
open H.Plain (hw pS pC pN pM pG pT pL)

/-- a phase -/
structure Ph where
  no : Int
  md : Int
  mr : Int
  ls : Int
def Ph.of (a : Int) : Ph := ⟨p0 a, p1 a, p2 a, p3 a⟩
def Ph.w (q : Ph) : Int := pw q.no q.md q.mr q.ls
def Ph.zero : Ph := ⟨0, 0, 0, 0⟩
def Ph.vals (q : Ph) : List Value := [.int .i64 q.no, .int .i64 q.md, .int .i64 q.mr, .int .i64 q.ls]
theorem u64_pw (x y z u : Int) : U64 (pw x y z u) := by unfold S.Plain.pw; constructor <;> omega
/-- where the object of a header at a is -/
def mvd (h a : Int) : Int := if pS h = 1 ∧ pT h = 2 then pL h else a

/-- where a Poll stands -/
inductive Wh
  | done
  | look
  | shade (i : Nat) (x : ShadeS)
  | alpha
  | fix (i : Nat)
  | tell
/-- the first root from i on that is not 0; n: there is none (f: how many are looked at) -/
def seek (l : Nat → Int) (n : Nat) : Nat → Nat → Nat
  | 0, i => i
  | f + 1, i => if i < n ∧ l i = 0 then seek l n f (i + 1) else i
structure PollS where
  ack : Int
  own : Ph
  q : Ph
  al : Int
  n : Nat
  l : Nat → Int
  wh : Wh
/-- on to the next root -/
def toShade (l : Nat → Int) (n : Nat) (m : Int) (i : Nat) : Wh := if n ≤ seek l n (n - i) i then .tell else .shade (seek l n (n - i) i) (ShadeS.new (l (seek l n (n - i) i)) m)
def toFix (l : Nat → Int) (n : Nat) (i : Nat) : Wh := if n ≤ seek l n (n - i) i then .tell else .fix (seek l n (n - i) i)
def PollS.new (ack : Int) (own : Ph) (al : Int) (n : Nat) (l : Nat → Int) : PollS := ⟨ack, own, Ph.zero, al, n, l, .look⟩
def lput (l : Nat → Int) (i : Nat) (v : Int) : Nat → Int := fun j => if j = i then v else l j
def PollS.next (x : PollS) (s : St) : PollS :=
  match x.wh with
  | .done => x
  | .look => ⟨x.ack, x.own, Ph.of (s.got 0), x.al, x.n, x.l, if (Ph.of (s.got 0)).no = x.own.no then .done else if (Ph.of (s.got 0)).md = 2 then toShade x.l x.n (Ph.of (s.got 0)).mr 0 else if (Ph.of (s.got 0)).md = 5 then .alpha else if (Ph.of (s.got 0)).md = 8 then toFix x.l x.n 0 else .tell⟩
  | .shade i y => ⟨x.ack, x.own, x.q, x.al, x.n, x.l, if (y.next s).pc = 0 then toShade x.l x.n x.q.mr (i + 1) else .shade i (y.next s)⟩
  | .alpha => ⟨x.ack, x.own, x.q, IntKind.i64.wrap (s.got 9), x.n, x.l, .tell⟩
  | .fix i => ⟨x.ack, x.own, x.q, x.al, x.n, lput x.l i (mvd (s.got (x.l i)) (x.l i)), toFix (lput x.l i (mvd (s.got (x.l i)) (x.l i))) x.n (i + 1)⟩
  | .tell => ⟨x.ack, x.q, x.q, x.al, x.n, x.l, .done⟩
def PollS.mem (x : PollS) (s : St) : St :=
  match x.wh with
  | .done => s
  | .look => s.load 0
  | .shade _ y => y.mem s
  | .alpha => s.load 9
  | .fix i => s.load (x.l i)
  | .tell => s.store x.ack (IntKind.u64.wrap x.q.no)
/-- an Ask: 0 done, 1 ahead of the phase's word, 2 at the thread k -/
structure AskS where
  q : Ph
  N : Nat
  pc : Nat
  k : Nat

def AskS.new (q : Ph) (N : Nat) : AskS := ⟨q, N, 1, 0⟩
def AskS.next (x : AskS) (s : St) : AskS :=
  match x.pc with
  | 1 => ⟨x.q, x.N, 2, 0⟩
  | 2 => if s.got (10 + x.k) = IntKind.u64.wrap x.q.no then (if x.k + 1 = x.N then ⟨x.q, x.N, 0, x.k + 1⟩ else ⟨x.q, x.N, 2, x.k + 1⟩) else x
  | _ => x
def AskS.mem (x : AskS) (s : St) : St :=
  match x.pc with
  | 1 => s.store 0 x.q.w
  | 2 => s.load (10 + x.k)
  | _ => s
def Wh.Ok : Wh → Prop
  | .shade _ y => y.Ok
  | _ => True
theorem toShade_ok (l : Nat → Int) (n : Nat) (m : Int) (i : Nat) : (toShade l n m i).Ok := by
  unfold toShade; split
  · trivial
  · exact ShadeS.ok_new _ _
theorem toFix_ok (l : Nat → Int) (n : Nat) (i : Nat) : (toFix l n i).Ok := by unfold toFix; split <;> trivial
theorem u64_wrap (x : Int) : U64 (IntKind.u64.wrap x) := by rw [IntKind.wrap_u64]; constructor <;> omega
section
variable {x : PollS} {s : St}
theorem PollS.ok_next (h : x.wh.Ok) (r : s.Rng) : (x.next s).wh.Ok := by
  obtain ⟨ack, own, q, al, n, l, wh⟩ := x
  cases wh with
  | done => trivial
  | look => simp only [PollS.next]; split <;> first | trivial | skip
            split <;> first | exact toShade_ok _ _ _ _ | skip
            split <;> first | trivial | skip
            split <;> first | exact toFix_ok _ _ _ | trivial
  | shade i y => simp only [PollS.next]; split
                 · exact toShade_ok _ _ _ _
                 · exact ShadeS.Ok.next h r
  | alpha => trivial
  | fix i => exact toFix_ok _ _ _
  | tell => trivial
theorem PollS.rng (h : x.wh.Ok) (r : s.Rng) : (x.mem s).Rng := by
  obtain ⟨ack, own, q, al, n, l, wh⟩ := x
  cases wh with
  | done => exact r
  | look => exact r
  | shade i y => exact ShadeS.rng h r
  | alpha => exact r
  | fix i => exact r
  | tell => exact r.store _ (u64_wrap _)
theorem PollS.fit (h : x.wh.Ok) (f : s.Fit) (hc : s.c < 1000000) : (x.mem s).Fit := by
  obtain ⟨ack, own, q, al, n, l, wh⟩ := x
  cases wh with
  | done => exact f
  | look => exact f.load hc _
  | shade i y => exact ShadeS.fit h f hc
  | alpha => exact f.load hc _
  | fix i => exact f.load hc _
  | tell => exact f.store hc _ _
theorem PollS.count (h : x.wh.Ok) : (x.mem s).c ≤ s.c + 1 := by
  obtain ⟨ack, own, q, al, n, l, wh⟩ := x
  cases wh with
  | done => simp only [PollS.mem]; omega
  | look => simp only [PollS.mem, St.c_load]; omega
  | shade i y => exact ShadeS.count h
  | alpha => simp only [PollS.mem, St.c_load]; omega
  | fix i => simp only [PollS.mem, St.c_load]; omega
  | tell => simp only [PollS.mem, St.c_store]; omega
end
section
variable {x : AskS} {s : St}
theorem AskS.rng (r : s.Rng) : (x.mem s).Rng := by
  unfold AskS.mem; split
  · exact r.store _ (u64_pw _ _ _ _)
  · exact r
  · exact r
theorem AskS.fit (f : s.Fit) (hc : s.c < 1000000) : (x.mem s).Fit := by
  unfold AskS.mem; split
  · exact f.store hc _ _
  · exact f.load hc _
  · exact f
theorem AskS.count : (x.mem s).c ≤ s.c + 1 := by
  unfold AskS.mem; split
  · rw [St.c_store]; omega
  · rw [St.c_load]; omega
  · omega
end
end Go.Proofs.YtoablodmodnamaaDoor
