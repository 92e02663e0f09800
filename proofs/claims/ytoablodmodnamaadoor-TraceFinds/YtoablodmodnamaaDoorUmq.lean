/-
  The document's example.
-/
import Derived.Test.YtoablodmodnamaaDoorUkq
import Derived.Test.YtoablodmodnamaaDoorTeq
import Derived.Test.YtoablodmodnamaaDoorLhq
namespace Go.Proofs.YtoablodmodnamaaDoor
set_option linter.unusedVariables false
set_option linter.unusedSimpArgs false
set_option maxRecDepth 100000
open Go.ChangeShapes Go.WideShapes Go.RowKit
open S.Plain (t0 t1 tw nx p0 p1 p2 p3 pw)
open H.Plain (hw pS pC pN pM pG pT pL)

/-- the boxes that come and go -/
def Tss : List TypeId := [134, 112, 110, 37, 86, 4, 74, 82]
structure Lf (w0 w : World) (b y : Nat) (s1 s2 : St) (N p6 : Nat) (c6 : Array Value) (v : Value) (l : List Ob) : Prop where
  two : TwoT false w0 w b y s1 s2 N
  b6 : Blk w0 w p6 32 c6
  row : w.ownsRow 0 3 1 v l.length (ats l)
section
variable {w0 w w' : World} {b y : Nat} {s1 s2 s' : St} {N N' p6 p : Nat} {c6 cs : Array Value} {v : Value} {l : List Ob} {F : List Nat} {T : TypeId}
theorem Lf.oth (h : Lf w0 w b y s1 s2 N p6 c6 v l) (m : TwoT false w0 w' b y s' s2 N') (o : Oth F w w') (f : ∀ z ∈ F, ∃ T cs, T ∈ Tss ∧ Blk w0 w z T cs) : Lf w0 w' b y s' s2 N' p6 c6 v l := by
  refine ⟨m, h.b6.oth o fun hz => ?_, own_oth h.row o (by decide) fun k hk hz => ?_⟩
  · obtain ⟨T', cs', h1, h2⟩ := f _ hz
    exact (h.b6.ne h2 (fun e => absurd (e ▸ h1) (by decide))) rfl
  · obtain ⟨T', cs', h1, h2⟩ := f k hz
    rcases h.row.2 with ⟨rfl, _⟩ | ⟨g, cap, cur, rfl, _, hg, _⟩
    · simp [Value.ownBlock] at hk
    · simp only [Value.ownBlock, Option.some.injEq] at hk
      subst hk
      rw [h2.at_] at hg
      simp at hg
      rw [hg.2] at h1
      exact absurd h1 (by decide)
theorem Lf.below (h : Lf w0 w b y s1 s2 N p6 c6 v l) (hb : Below w.heap.size w w') : Lf w0 w' b y s1 s2 N p6 c6 v l := h.oth (F := []) (h.two.below hb) (Oth.below hb) (fun _ hz => by simp at hz)
theorem Lf.mono (h : Lf w0 w b y s1 s2 N p6 c6 v l) (hN : N ≤ N') : Lf w0 w b y s1 s2 N' p6 c6 v l := ⟨h.two.mono hN, h.b6, h.row⟩
theorem Lf.one (h : Lf w0 w b y s1 s2 N p6 c6 v l) (m : TwoT false w0 w' b y s' s2 N') (o : Oth [p] w w') (B : Blk w0 w p T cs) (hT : T ∈ Tss) : Lf w0 w' b y s' s2 N' p6 c6 v l := h.oth m o fun z hz => by
  simp only [List.mem_singleton] at hz
  subst hz
  exact ⟨T, cs, hT, B⟩
theorem Lf.set (h : Lf w0 w b y s1 s2 N p6 c6 v l) (B : Blk w0 w p T cs) (hT : T ∈ Tss) (i : Nat) (u : Value) : Lf w0 (w.setCell ⟨p, i, none⟩ u) b y s1 s2 N p6 c6 v l := h.one (h.two.set B i u) (Oth.set _ _ _ _ (by simp)) B hT
theorem Lf.bel (h : Lf w0 w b y s1 s2 N p6 c6 v l) : Below w0.heap.size w0 w := h.two.bel
theorem Lf.size (h : Lf w0 w b y s1 s2 N p6 c6 v l) : w0.heap.size ≤ w.heap.size := h.two.bel.size
/-- the row -/
theorem row_lies (h : w.ownsRow 0 3 1 v l.length (ats l)) : ∃ ao cap, v = .slice ao l.length cap ∧ (0 < l.length → ∃ g, ao = some ⟨g, 0, none⟩) := by
  rcases h.2 with ⟨h1, h2⟩ | ⟨g, cap, cur, h1, _⟩
  · exact ⟨none, 0, by rw [h1, h2], fun h => by omega⟩
  · exact ⟨_, cap, h1, fun _ => ⟨g, rfl⟩⟩
theorem Lf.rowAt {g cap : Nat} (h : Lf w0 w b y s1 s2 N p6 c6 (.slice (some ⟨g, 0, none⟩) l.length cap) l) {i : Nat} {o : Ob} (hi : l[i]? = some o) : w.cell? ⟨g, i, none⟩ = some (.int .i64 o.at) := by
  obtain ⟨hlt, he⟩ := List.getElem?_eq_some_iff.1 hi
  have := h.row.cellAt i (by omega)
  rw [this]
  simp [ats, he, hlt]
theorem Lf.seen (h : Lf w0 w b y s1 s2 N p6 c6 v l) : ∃ g cp, Seen2 w y g cp s2 := by
  obtain ⟨⟨L, M, e1, rfl, hm, hr, hl, hl2⟩, _⟩ := h.two
  exact ⟨M.g, M.cp, hr.cell0, hr.cell2, fun j hj => hr.wcell j hj, hr.lt _ (by simp [Loc.fp]), hr.lt _ (by simp [Loc.fp])⟩
theorem Lf.start {wa : World} (h : Y1 w0 wa y s2 N) (g : Hand wa w b s1 N') (hN : N ≤ N') (B : Blk w0 wa p6 32 c6) (r : wa.ownsRow 0 3 1 v l.length (ats l)) : Lf w0 w b y s1 s2 N' p6 c6 v l :=
  ⟨h.duo g hN, B.below g.bel, own_oth r (F := []) (Oth.below g.bel) (by decide) fun _ _ hz => by simp at hz⟩
end
/-! ### a row of marks -/
def marks (n : Nat) (f : Int → Bool) : Array Value := ((List.range n).map fun j : Nat => Value.bool (f (j : Int))).toArray
theorem marks_at (n : Nat) (f : Int → Bool) (j : Nat) (h : j < n) : (marks n f)[j]? = some (.bool (f j)) := by simp [marks, h]
theorem marks_set (n : Nat) (f : Int → Bool) (j : Nat) : (marks n f).setIfInBounds j (.bool true) = marks n (wset f j) := by
  apply Array.ext_getElem?
  intro i
  rw [Array.getElem?_setIfInBounds]
  by_cases hn : i < n
  · rw [marks_at n f i hn, marks_at n (wset f j) i hn]
    by_cases e : j = i
    · subst e
      rw [if_pos rfl, if_pos (by simp [marks]; exact hn), wset_at]
    · rw [if_neg e]
      unfold wset
      rw [if_neg (by omega)]
  · rw [show (marks n (wset f j))[i]? = none by simp [marks]; omega, show (marks n f)[i]? = none by simp [marks]; omega]
    split
    · rw [if_neg (by simp [marks]; omega)]
    · rfl
theorem infoB : (Tryd.prog.info? 4).map (fun i => (i.zero, i.size, i.bytes)) = some (some (.bool false), 1, 1) := by kernel_rfl
theorem made_marks {u v : World} {n : Nat} (hown : v.ownsRow 0 4 1 (.slice (some ⟨u.heap.size, 0, none⟩) n n) n (madeCells #[Value.bool false] n).toList) (hg : u.grownBy v none) : v.heap[u.heap.size]? = some (.cells (marks n fun _ => false) 4 (0, 0)) ∧ Below u.heap.size u v := by
  have hv : Below u.heap.size u v := (Below.refl _ _).grown hg (Nat.le_refl _) fun k hk => by cases hk
  refine ⟨?_, hv⟩
  rcases hown.2 with ⟨h', _⟩ | ⟨g, cp, cur, h', _, hgc, r1, r2, r3, r4⟩
  · simp at h'
  · simp only [Value.slice.injEq, Option.some.injEq, Addr.mk.injEq, and_true, true_and] at h'
    obtain ⟨rfl, rfl⟩ := h'
    rw [hgc]
    have e : cur.toList = (madeCells #[Value.bool false] n).toList := by
      rw [← r4, List.take_of_length_le (by simp; omega)]
    rw [toList_madeCells_one] at e
    have e2 : (marks n fun _ => false).toList = List.replicate n (Value.bool false) := by
      apply List.ext_getElem?
      intro i
      by_cases hn : i < n
      · have := marks_at n (fun _ => false) i hn
        rw [Array.getElem?_toList, this]
        simp [hn]
      · rw [Array.getElem?_toList, show (marks n fun _ => false)[i]? = none by simp [marks]; omega]
        simp
        omega
    have : cur = marks n fun _ => false := by
      apply Array.toList_inj.1
      rw [e, e2]
    rw [this]
/-- which objects are wanted ahead of the rounds: the roots -/
structure Ws (l C : List Ob) (f : Int → Bool) : Prop where
  on : ∀ o ∈ C, f o.at = true
  off : ∀ o ∈ l, f o.at = true → o ∈ C
theorem Ws.none (l : List Ob) : Ws l [] (fun _ => false) := ⟨by simp, fun _ _ h => by simp at h⟩
theorem Ws.add {n : Nat} {l C C' : List Ob} {f : Int → Bool} {o : Ob} (h : Ws l C f) (lo : Lo n l) (ho : o ∈ l) (hC : ∀ r, r ∈ C' ↔ r ∈ C ∨ r = o) : Ws l C' (wset f o.at) := by
  refine ⟨fun r hr => ?_, fun r hr hw => ?_⟩
  · rcases (hC r).1 hr with h1 | rfl
    · exact wset_mono (h.on r h1)
    · exact wset_at _ _
  · rcases wset_inv hw with e | e
    · exact (hC r).2 (.inr (lo.inj hr ho e))
    · exact (hC r).2 (.inl (h.off r hr e))
theorem Ws.out {l C : List Ob} {f : Int → Bool} {f0 : Int → Int} (h : Ws l C f) : WOut l f0 C 0 f := ⟨h.on, fun S s1 _ r hr hw => s1 r (h.off r hr hw), .inr (Nat.zero_le _)⟩
theorem FI.gy {n : Nat} {l : List Ob} {f : Int → Int} (h : FI n l f) : Gy n l f f [] [] := ⟨by rw [h.z1]; rfl, trivial, by simp, fun o ho _ _ => h.hdr o ho, fun _ _ _ _ => rfl, by simp, by simp, by simp, by simp, by simp⟩
/-- the words of the reference's memory, where they lie -/
theorem Lf.words {w0 w : World} {b y : Nat} {s1 s2 : St} {N p6 n : Nat} {c6 : Array Value} {v : Value} {l : List Ob} {f : Int → Int} (h : Lf w0 w b y s1 s2 N p6 c6 v l) (V : Vw n s2 f) : ∃ g cp, Seen2 w y g cp s2 ∧ ∀ w', Seen2 w' y g cp s2 → w'.cell? ⟨y, 0, none⟩ = some (.slice (some ⟨g, 0, none⟩) n cp) ∧ ∀ a : Nat, a < n → w'.cell? ⟨g, a, none⟩ = some (.int .u64 (f a)) := by
  obtain ⟨g, cp, hS⟩ := h.seen
  refine ⟨g, cp, hS, fun w' hS' => ⟨by rw [← V.len]; exact hS'.c0, fun a ha => ?_⟩⟩
  rw [hS'.cw a (by rw [V.len]; exact ha), ← V.word a (by omega) (by omega)]
  simp [St.word]
/-- a load of the program's memory: what is seen of the reference's stays -/
theorem Lf.load {w0 w : World} {b y : Nat} {s1 s2 : St} {N p6 g cp : Nat} {c6 : Array Value} {v : Value} {l : List Ob} (h : Lf w0 w b y s1 s2 N p6 c6 v l) (hS : Seen2 w y g cp s2) (hN : N < 1000000) (i : Int) :
    Calls Tryd.prog 31 #[pt b, .int .i64 i] w fun e w' => e = .returned (.int .u64 (s1.got i)) ∧ Lf w0 w' b y (s1.load i) s2 (N + 1) p6 c6 v l ∧ Oth [] w w' ∧ Seen2 w' y g cp s2 := by
  have ht := h.two.top1
  have hc : s1.c < 1000000 := by omega
  have hh := h
  obtain ⟨⟨L, M, rfl, e2, hm, hr, hl, hl2⟩, hb, f1, f2, t1, t2, r1, r2, wd⟩ := h.two
  refine (cLoad hm f1 hc i).mono ?_
  rintro e w' ⟨rfl, L', hm', st⟩
  have hr' : MemAt (T2of false) w' M s2 := hr.on st.kept fun k hk hk' => (hl k hk').2 hk
  have hl' : ∀ k ∈ L'.fp, w0.heap.size ≤ k ∧ k ∉ M.fp := fun k hk => (st.new k hk).elim (hl k) fun h' => ⟨Nat.le_trans hb.size h', fun hkM => by have := hr.lt k hkM; omega⟩
  have T : TwoT false w0 w' L.b y (s1.load i) s2 (N + 1) := ⟨⟨L', M, st.b, e2, hm', hr', hl', hl2⟩, hb.trans (st.kept.below (fun k hk => (hl k hk).1) hb.size), f1.load hc i, f2, by rw [St.c_load]; omega, by omega, r1.load i, r2, wd⟩
  have o : Oth [] w w' := Oth.step hm (by simp [MTs]) f1 st
  refine ⟨rfl, hh.oth T o (fun _ hz => by simp at hz), o, ?_⟩
  subst e2
  have c0 := hr.cell0
  rw [hS.c0] at c0
  simp only [Option.some.injEq, Value.slice.injEq, Addr.mk.injEq, and_true, true_and] at c0
  obtain ⟨rfl, rfl⟩ := c0
  exact ⟨hr'.cell0, hr'.cell2, fun j hj => hr'.wcell j hj, hr'.lt _ (by simp [Loc.fp]), hr'.lt _ (by simp [Loc.fp])⟩
theorem shI_ok {a : Int} {s : St} (r : s.Rng) (k : Nat) : (shI a s k).1.Ok ∧ (shI a s k).2.Rng := by
  induction k with
  | zero => exact ⟨ShadeS.ok_new _ _, r⟩
  | succ k ih => exact ⟨ShadeS.Ok.next ih.1 ih.2, ShadeS.rng ih.1 ih.2⟩
theorem fph1 (a b c d : Int) (w : World) : (Instr.field 37 (.agg #[.int .i64 a, .int .i64 b, .int .i64 c, .int .i64 d]) 1).run Tryd.prog w = .ok (.int .i64 b) w := by kernel_rfl
theorem fph2 (a b c d : Int) (w : World) : (Instr.field 37 (.agg #[.int .i64 a, .int .i64 b, .int .i64 c, .int .i64 d]) 2).run Tryd.prog w = .ok (.int .i64 c) w := by kernel_rfl
/-- an object's header when nothing is grey -/
theorem Gy.head {n : Nat} {l B : List Ob} {f0 f : Int → Int} (h : Gy n l f0 f B []) {o : Ob} (ho : o ∈ l) : ∃ mk : Int, 0 ≤ mk ∧ mk ≤ 1 ∧ f o.at = hw 1 o.c o.m mk 0 0 0 ∧ (mk = 1 ↔ o ∈ B) := by
  by_cases e : o ∈ B
  · exact ⟨1, by omega, by omega, h.bl o e, by simp [e]⟩
  · exact ⟨0, by omega, by omega, h.wh o ho e (by simp), by simp [e]⟩
theorem head_parts (o : Ob) (m7 : o.m ≤ 7) {mk x : Int} (h : 0 ≤ mk) (h' : mk ≤ 1) (e : x = hw 1 o.c o.m mk 0 0 0) : pS x = 1 ∧ pC x = o.c ∧ pN x = o.m ∧ pM x = mk ∧ pG x = 0 ∧ pT x = 0 ∧ pL x = 0 := by
  have := hw_parts o.c o.m mk 0 0 o.cb (by omega) (by omega) (by omega) (by omega)
  rw [← e] at this
  unfold Hd.of at this
  simpa using this
/-! ### the threads' phases -/
def two (a b : Ph) : Nat → Ph := fun i => if i = 0 then a else b

def own2 (ow : Nat → Ph) : Array Value := #[.int .i64 (ow 0).no, .int .i64 (ow 0).md, .int .i64 (ow 0).mr, .int .i64 (ow 0).ls, .int .i64 (ow 1).no, .int .i64 (ow 1).md, .int .i64 (ow 1).mr, .int .i64 (ow 1).ls]
def updN2 (f : Nat → Ph) (k : Nat) (q : Ph) : Nat → Ph := fun i => if i = k then q else f i
/-- both threads poll, one behind the other: the first k of them -/
def pkS (o : Nat → Ph) (s : St) : Nat → St
  | 0 => s
  | k + 1 => plM k (o k) (pkS o s k)
def pkO (o : Nat → Ph) (s : St) : Nat → Nat → Ph
  | 0 => o
  | k + 1 => updN2 (pkO o s k) k (plO k (o k) (pkS o s k))
theorem pkO_at (o : Nat → Ph) (s : St) : ∀ k i : Nat, k ≤ i → pkO o s k i = o i
  | 0, _, _ => rfl
  | k + 1, i, h => by
    show updN2 (pkO o s k) k _ i = o i
    unfold updN2
    rw [if_neg (by omega)]
    exact pkO_at o s k i (by omega)
theorem pk_own (o0 o1 : Ph) (s : St) : own2 (pkO (two o0 o1) s 2) = own2 (two (plO 0 o0 s) (plO 1 o1 (plM 0 o0 s))) := rfl
theorem pk_st (o0 o1 : Ph) (s : St) : pkS (two o0 o1) s 2 = plM 1 o1 (plM 0 o0 s) := rfl
theorem poll_n (i : Int) (own : Ph) (s : St) : ((poll i own).next s).n = 0 := rfl
theorem k2 {k : Nat} (h : k < 2) : k = 0 ∨ k = 1 := by omega
section
variable {w0 w w' : World} {qo k : Nat} {ow : Nat → Ph} {o : Ph}
theorem co2 (B : Blk w0 w qo 86 (own2 ow)) (hk : k < 2) (ho : ow k = o) : w.cell? ⟨qo, k * 4, none⟩ = some (.int .i64 o.no) ∧ w.cell? ⟨qo, k * 4 + 1, none⟩ = some (.int .i64 o.md) ∧ w.cell? ⟨qo, k * 4 + 2, none⟩ = some (.int .i64 o.mr) ∧ w.cell? ⟨qo, k * 4 + 3, none⟩ = some (.int .i64 o.ls) := by
  subst ho
  rcases k2 hk with rfl | rfl
  · exact ⟨B.cell 0, B.cell 1, B.cell 2, B.cell 3⟩
  · exact ⟨B.cell 4, B.cell 5, B.cell 6, B.cell 7⟩
theorem owned2 (B : Blk w0 w qo 86 (own2 ow)) (hk : k < 2) (q : Ph) : Blk w0 ((((w.setCell ⟨qo, k * 4, none⟩ (.int .i64 q.no)).setCell ⟨qo, k * 4 + 1, none⟩ (.int .i64 q.md)).setCell ⟨qo, k * 4 + 2, none⟩ (.int .i64 q.mr)).setCell ⟨qo, k * 4 + 3, none⟩ (.int .i64 q.ls)) qo 86 (own2 (updN2 ow k q)) := by
  rcases k2 hk with rfl | rfl
  · exact (((B.set 0 _).set 1 _).set 2 _).set 3 _
  · exact (((B.set 4 _).set 5 _).set 6 _).set 7 _
end
end Go.Proofs.YtoablodmodnamaaDoor

namespace Go.Proofs.YtoablodmodnamaaDoor
set_option linter.unusedVariables false
set_option linter.unusedSimpArgs false
set_option maxRecDepth 100000
open Go.ChangeShapes Go.WideShapes Go.RowKit Go.ChangeAt

def exX0 : TrS := TrS.new q2
def exT0 : PollS := PollS.new (10 + 0) q2 0 0 (fun _ => 0)
def exM0 : St := St.new 64
def exM1 : St := exX0.mem exM0
def exX1 : TrS := exX0.next U11 exM0
def exM2 : St := exX1.mem exM1
def exX2 : TrS := exX1.next U11 exM1
def exM3 : St := exX2.mem exM2
def exX3 : TrS := exX2.next U11 exM2
def exM4 : St := exT0.mem exM3
def exT1 : PollS := exT0.next exM3
def exM5 : St := exT1.mem exM4
def exT2 : PollS := exT1.next exM4
def exM6 : St := exX3.mem exM5
def exX4 : TrS := exX3.next U11 exM5
def exM7 : St := exX4.mem exM6
def exX5 : TrS := exX4.next U11 exM6
theorem ex_facts : (exX1.pc == 0) = false ∧ (exX2.pc == 0) = false ∧ (exX3.pc == 0) = false ∧ (exX4.pc == 0) = false ∧ (exX5.pc == 0) = true ∧ exX5.q.no = 3 ∧ exX5.q.md = 3 ∧ exX5.q.mr = 1 ∧ exX5.q.ls = 0 ∧ exT1.n = 0 := by decide +kernel
theorem ex_rng0 : exM0.Rng := St.Rng.new 64
theorem ex_okx0 : exX0.Ok U11 := TrS.ok_new q2 (by decide) (by decide)
theorem ex_okt0 : exT0.wh.Ok := trivial
theorem ex_rng1 : exM1.Rng := TrS.rng ex_okx0 ex_rng0
theorem ex_okx1 : exX1.Ok U11 := TrS.Ok.next ex_okx0 ex_rng0
theorem ex_rng2 : exM2.Rng := TrS.rng ex_okx1 ex_rng1
theorem ex_okx2 : exX2.Ok U11 := TrS.Ok.next ex_okx1 ex_rng1
theorem ex_rng3 : exM3.Rng := TrS.rng ex_okx2 ex_rng2
theorem ex_okx3 : exX3.Ok U11 := TrS.Ok.next ex_okx2 ex_rng2
theorem ex_rng4 : exM4.Rng := PollS.rng ex_okt0 ex_rng3
theorem ex_okt1 : exT1.wh.Ok := PollS.ok_next ex_okt0 ex_rng3
theorem ex_rng5 : exM5.Rng := PollS.rng ex_okt1 ex_rng4
theorem ex_okt2 : exT2.wh.Ok := PollS.ok_next ex_okt1 ex_rng4
theorem ex_rng6 : exM6.Rng := TrS.rng ex_okx3 ex_rng5
theorem ex_okx4 : exX4.Ok U11 := TrS.Ok.next ex_okx3 ex_rng5
theorem ex_rng7 : exM7.Rng := TrS.rng ex_okx4 ex_rng6
theorem ex_okx5 : exX5.Ok U11 := TrS.Ok.next ex_okx4 ex_rng6
theorem hPoll0 {w0 w : World} {mb p N : Nat} {s : St} {z : PollS} (h : Hand w0 w mb s N) (m : PM w0 w p z) (ok : z.wh.Ok) (n8 : z.n ≤ 8) (hN : N < 1000000) :
    Calls Tryd.prog 17 #[pt p, pt mb] w fun e w' => (∃ b, e = .returned (.bool b)) ∧ Hand w0 w' mb (z.mem s) (N + 1) ∧ PM w0 w' p (z.next s) ∧ Oth [p] w w' := by
  by_cases nd : z.wh.pc = 0
  · have e0 := poll_pc0 nd
    have e1 : z.next s = z := by unfold PollS.next; rw [e0]
    have e2 : z.mem s = s := by unfold PollS.mem; rw [e0]
    obtain ⟨b, B, I⟩ := m
    have hb : b.pc = 0 := by have := I.pc; omega
    obtain ⟨L, e3, A, _⟩ := h.went B
    rw [← e3]
    refine (po0 A hb).mono ?_
    rintro e w' ⟨rfl, rfl⟩
    rw [e1, e2, e3]
    exact ⟨⟨_, rfl⟩, h.mono (by omega), ⟨b, B, I⟩, Oth.refl _ _⟩
  · refine (hPoll h m ok nd n8 hN).mono ?_
    rintro e w' ⟨rfl, a⟩
    exact ⟨⟨_, rfl⟩, a⟩
set_option maxHeartbeats 4000000 in
theorem cShown (w : World) (W : H.Wid w) : Calls Tryd.prog 21 #[] w fun e w' => e = .returned (.bool true) ∧ Below w.heap.size w w' := by
  obtain ⟨f1, f2, f3, f4, f5, g0, g1, g2, g3, g4⟩ := ex_facts
  have hE := eqPh 3 3 1 0
  go_enter Tryd.func21, Tryd.ntmps21
  go_upto_region 2 with (go_at_call 8; refine (cPlan11 _).mono ?_; rintro e w0 ⟨rfl, hb0⟩)
  have hbp : Below w.heap.size w (w0.alloc (.cells #[.int .i64 1, .int .i64 1, .int .i64 11, .int .i64 32, .int .i64 64] 32)) := hb0.alloc hb0.size _
  have Bp : Blk w (w0.alloc (.cells #[.int .i64 1, .int .i64 1, .int .i64 11, .int .i64 32, .int .i64 64] 32)) w0.heap.size 32 #[.int .i64 1, .int .i64 1, .int .i64 11, .int .i64 32, .int .i64 64] := Blk.new hb0.size _ (by decide)
  generalize w0.alloc (.cells #[.int .i64 1, .int .i64 1, .int .i64 11, .int .i64 32, .int .i64 64] 32) = wp at hbp Bp ⊢
  generalize w0.heap.size = qp at Bp ⊢
  have s4 : wp.cell? ⟨qp, 4, none⟩ = some (.int .i64 64) := Bp.cell 4
  have sl := Bp.lt
  go_upto_region 3 with (go_at_call 35; refine (hNew _ 64 (by decide) (by decide) (Below.refl _ _) (W.on hbp)).mono ?_; rintro e w1 ⟨mb, rfl, h1'⟩)
  have Bp1 := Bp.below h1'.bel
  have h1 := h1'.lift hbp W
  clear s4 sl Bp hbp h1'
  have x0 : w1.cell? ⟨qp, 0, none⟩ = some (.int .i64 1) := Bp1.cell 0
  have x1 : w1.cell? ⟨qp, 1, none⟩ = some (.int .i64 1) := Bp1.cell 1
  have x2 : w1.cell? ⟨qp, 2, none⟩ = some (.int .i64 11) := Bp1.cell 2
  have x3 : w1.cell? ⟨qp, 3, none⟩ = some (.int .i64 32) := Bp1.cell 3
  have x4 : w1.cell? ⟨qp, 4, none⟩ = some (.int .i64 64) := Bp1.cell 4
  have xl := Bp1.lt
  go_upto_region 4 with (go_at_call 29; refine (hNewT h1 U11 q2).mono ?_; rintro e w3 ⟨za, rfl, h3, MX, o3, hz3⟩)
  have Bp3 := Bp1.oth o3 (by simp)
  clear x0 x1 x2 x3 x4 xl
  have x0 : w3.cell? ⟨qp, 0, none⟩ = some (.int .i64 1) := Bp3.cell 0
  have x1 : w3.cell? ⟨qp, 1, none⟩ = some (.int .i64 1) := Bp3.cell 1
  have x2 : w3.cell? ⟨qp, 2, none⟩ = some (.int .i64 11) := Bp3.cell 2
  have x3 : w3.cell? ⟨qp, 3, none⟩ = some (.int .i64 32) := Bp3.cell 3
  have x4 : w3.cell? ⟨qp, 4, none⟩ = some (.int .i64 64) := Bp3.cell 4
  have xl := Bp3.lt
  go_upto_region 7 with (go_at_call 15; refine (nPoll (w0 := w) U11 (i := 0) (by decide) (by decide) q2 0 0 (fun _ => 0) h3.bel.size).mono ?_; rintro e w4 ⟨zb, rfl, MT, hb4, hz4⟩)
  have h4 := h3.below hb4
  have X0 : TM w w4 za U11 exX0 := Blk.below MX hb4
  have hab : za ≠ zb := by have := Blk.lt MX; omega
  have M0 : Hand w w4 mb exM0 0 := h4
  have T0 : PM w w4 zb exT0 := MT
  clear x0 x1 x2 x3 x4 xl
  clear h1 h3 h4 Bp1 Bp3 MX MT hb4 o3 hz3 hz4
  go_upto_region 8 with (go_at_call 30; refine (hTrace M0 X0 ex_okx0 (by decide)).mono ?_; rintro e w5 ⟨rfl, M1', X1', ot⟩; rw [show (exX0.next U11 exM0).pc = exX1.pc from rfl, f1])
  have M1 : Hand w w5 mb exM1 1 := M1'
  have X1 : TM w w5 za U11 exX1 := X1'
  have T0n := T0.oth ot (by simpa using Ne.symm hab)
  clear M0 M1' X0 X1' T0 ot
  have T0 := T0n
  clear T0n
  go_upto_region 9 with (go_at_call 30; refine (hTrace M1 X1 ex_okx1 (by decide)).mono ?_; rintro e w6 ⟨rfl, M2', X2', ot⟩; rw [show (exX1.next U11 exM1).pc = exX2.pc from rfl, f2])
  have M2 : Hand w w6 mb exM2 2 := M2'
  have X2 : TM w w6 za U11 exX2 := X2'
  have T0n := T0.oth ot (by simpa using Ne.symm hab)
  clear M1 M2' X1 X2' T0 ot
  have T0 := T0n
  clear T0n
  go_upto_region 10 with (go_at_call 30; refine (hTrace M2 X2 ex_okx2 (by decide)).mono ?_; rintro e w7 ⟨rfl, M3', X3', ot⟩; rw [show (exX2.next U11 exM2).pc = exX3.pc from rfl, f3])
  have M3 : Hand w w7 mb exM3 3 := M3'
  have X3 : TM w w7 za U11 exX3 := X3'
  have T0n := T0.oth ot (by simpa using Ne.symm hab)
  clear M2 M3' X2 X3' T0 ot
  have T0 := T0n
  clear T0n
  go_upto_region 11 with (go_at_call 17; refine (hPoll0 M3 T0 ex_okt0 (by decide) (by decide)).mono ?_; rintro e w8 ⟨⟨bt0, rfl⟩, M4', T1', ot⟩)
  have M4 : Hand w w8 mb exM4 4 := M4'
  have T1 : PM w w8 zb exT1 := T1'
  have X3n := Blk.oth X3 ot (by simpa using hab)
  clear M3 M4' T0 T1' X3 ot
  have X3 : TM w w8 za U11 exX3 := X3n
  clear X3n
  go_upto_region 12 with (go_at_call 17; refine (hPoll0 M4 T1 ex_okt1 (by rw [g4]; decide) (by decide)).mono ?_; rintro e w9 ⟨⟨bt1, rfl⟩, M5', T2', ot⟩)
  have M5 : Hand w w9 mb exM5 5 := M5'
  have T2 : PM w w9 zb exT2 := T2'
  have X3n := Blk.oth X3 ot (by simpa using hab)
  clear M4 M5' T1 T2' X3 ot
  have X3 : TM w w9 za U11 exX3 := X3n
  clear X3n
  go_upto_region 13 with (go_at_call 30; refine (hTrace M5 X3 ex_okx3 (by decide)).mono ?_; rintro e w10 ⟨rfl, M6', X4', ot⟩; rw [show (exX3.next U11 exM5).pc = exX4.pc from rfl, f4])
  have M6 : Hand w w10 mb exM6 6 := M6'
  have X4 : TM w w10 za U11 exX4 := X4'
  have T2n := T2.oth ot (by simpa using Ne.symm hab)
  clear M5 M6' X3 X4' T2 ot
  have T2 := T2n
  clear T2n
  go_upto_region 14 with (go_at_call 30; refine (hTrace M6 X4 ex_okx4 (by decide)).mono ?_; rintro e w11 ⟨rfl, M7', X5', ot⟩; rw [show (exX4.next U11 exM6).pc = exX5.pc from rfl, f5])
  have M7 : Hand w w11 mb exM7 7 := M7'
  have X5 : TM w w11 za U11 exX5 := X5'
  have T2n := T2.oth ot (by simpa using Ne.symm hab)
  clear M6 M7' X4 X5' T2 ot
  have T2 := T2n
  clear T2n
  have bel := M7.bel
  go_wp2_with (go_at_call 34; refine (cPhaseT X5.at_).mono ?_; rintro e w12 ⟨rfl, hb12⟩; rw [g0, g1, g2, g3])
  go_ret
  exact ⟨rfl, bel_trans bel hb12⟩
end Go.Proofs.YtoablodmodnamaaDoor
