/-
  A memory beside the reference's: what a law does with both.
-/
import Derived.Test.YtmidhhigopjkhaaSame
namespace Go.Proofs.Ytmidhhigopjkhaa
set_option linter.unusedVariables false
open Go.ChangeShapes Go.WideShapes Go.RowKit

section
variable {w0 w : World} {b1 b2 N1 N2 : Nat} {s1 s2 : St}
theorem p2RLoad (h : Pair w0 w b1 s1 N1 48 b2 s2 N2) (hN : N2 < 1000000) (a : Int) :
    Calls Try.prog 13 #[.pointer (some ⟨b2, 0, none⟩), .int .i64 a] w fun e w' => e = .returned (.int .u64 (s2.got a)) ∧ Pair w0 w' b1 s1 N1 48 b2 (s2.load a) (N2 + 1) ∧ Others w w' :=
  have hc : s2.c < 1000000 := by have := h.top2; omega
  h.call2 (by simp) (h.fit2.load hc a) (by rw [St.c_load]; have := h.top2; omega) fun L hb hm => hb ▸ rLoad hm h.fit2 hc a
theorem p2RStore (h : Pair w0 w b1 s1 N1 48 b2 s2 N2) (hN : N2 < 1000000) (a x : Int) :
    Calls Try.prog 15 #[.pointer (some ⟨b2, 0, none⟩), .int .i64 a, .int .u64 x] w fun e w' => e = .returned (.tuple #[]) ∧ Pair w0 w' b1 s1 N1 48 b2 (s2.store a x) (N2 + 1) ∧ Others w w' :=
  have hc : s2.c < 1000000 := by have := h.top2; omega
  h.call2 (by simp) (h.fit2.store hc a x) (by rw [St.c_store]; have := h.top2; omega) fun L hb hm => hb ▸ rStore hm h.fit2 hc a x
theorem p2RCAS (h : Pair w0 w b1 s1 N1 48 b2 s2 N2) (hN : N2 < 1000000) (a o x : Int) :
    Calls Try.prog 17 #[.pointer (some ⟨b2, 0, none⟩), .int .i64 a, .int .u64 o, .int .u64 x] w fun e w' => e = .returned (.bool (s2.ok1 a o)) ∧ Pair w0 w' b1 s1 N1 48 b2 (s2.cas a o x) (N2 + 1) ∧ Others w w' :=
  have hc : s2.c < 1000000 := by have := h.top2; omega
  h.call2 (by simp) (h.fit2.cas hc a o x) (by rw [St.c_cas]; have := h.top2; omega) fun L hb hm => hb ▸ rCAS hm h.fit2 hc a o x
theorem p2RCAS2 (h : Pair w0 w b1 s1 N1 48 b2 s2 N2) (hN : N2 < 1000000) (a o0 o1 x0 x1 : Int) :
    Calls Try.prog 19 #[.pointer (some ⟨b2, 0, none⟩), .int .i64 a, .int .u64 o0, .int .u64 o1, .int .u64 x0, .int .u64 x1] w fun e w' => e = .returned (.bool (s2.ok2 a o0 o1)) ∧ Pair w0 w' b1 s1 N1 48 b2 (s2.cas2 a o0 o1 x0 x1) (N2 + 1) ∧ Others w w' :=
  have hc : s2.c < 1000000 := by have := h.top2; omega
  h.call2 (by simp) (h.fit2.cas2 hc a o0 o1 x0 x1) (by rw [St.c_cas2]; have := h.top2; omega) fun L hb hm => hb ▸ rCAS2 hm h.fit2 hc a o0 o1 x0 x1
theorem Pair.kept0 {w' : World} {T : TypeId} (h : Pair w0 w b1 s1 N1 T b2 s2 N2) (k : Kept [] w w') : Pair w0 w' b1 s1 N1 T b2 s2 N2 := by
  obtain ⟨⟨L, M, hL, hM, m1, m2, d, l1, l2⟩, hb, f1, f2, t1, t2⟩ := h
  exact ⟨⟨L, M, hL, hM, m1.on k (fun _ _ => by simp), m2.on k (fun _ _ => by simp), d, l1, l2⟩, hb.trans (k.below (fun _ hk => by simp at hk) hb.size), f1, f2, t1, t2⟩
theorem Pair.drewN {T : TypeId} (h : Pair w0 w b1 s1 N1 T b2 s2 N2) (n : Nat) : Pair w0 (w.drewN n) b1 s1 N1 T b2 s2 N2 := h.kept0 (Kept.drewN [] w n)
theorem Pair.alloc {T : TypeId} (h : Pair w0 w b1 s1 N1 T b2 s2 N2) (o : Obj) : Pair w0 (w.alloc o) b1 s1 N1 T b2 s2 N2 := h.kept0 (Kept.alloc [] w o)
/-- the reference's cells -/
theorem Pair.cells2 {T : TypeId} (h : Pair w0 w b1 s1 N1 T b2 s2 N2) : ∃ g cp, w.cell? ⟨b2, 0, none⟩ = some (.slice (some ⟨g, 0, none⟩) s2.ws.length cp) ∧ w.cell? ⟨b2, 1, none⟩ = some (.int .i64 s2.c) ∧ w.cell? ⟨b2, 2, none⟩ = some (.int .i64 s2.t) ∧ ∀ j, j < s2.ws.length → w.cell? ⟨g, j, none⟩ = some (.int .u64 (s2.ws.getD j 0)) := by
  obtain ⟨⟨L, M, hL, rfl, m1, m2, d, l1, l2⟩, hb, f1, f2, t1, t2⟩ := h
  exact ⟨M.g, M.cp, m2.cell0, m2.cell1, m2.cell2, m2.wcell⟩

/-- both memories, and a row of accesses that was taken from the first -/
structure Loose (w0 w : World) (b1 : Nat) (s1 : St) (N1 : Nat) (b2 : Nat) (s2 : St) (N2 : Nat) (v : Value) (n : Nat) (xs : List Value) : Prop where
  at_ : ∃ L M : Loc, L.b = b1 ∧ M.b = b2 ∧ Mm w L s1 ∧ Rm w M s2 ∧ (∀ k ∈ M.fp, k ∉ L.fp) ∧ (∀ k ∈ L.fp, w0.heap.size ≤ k) ∧ (∀ k ∈ M.fp, w0.heap.size ≤ k) ∧ ∀ k, v.ownBlock = some k → k ∉ L.fp ∧ k ∉ M.fp ∧ w0.heap.size ≤ k
  row : w.ownsRow 0 44 3 v n xs
  bel : Below w0.heap.size w0 w
  fit1 : s1.Fit
  fit2 : s2.Fit
  top1 : s1.c ≤ N1
  top2 : s2.c ≤ N2
theorem Loose.pair {v : Value} {n : Nat} {xs : List Value} (h : Loose w0 w b1 s1 N1 b2 s2 N2 v n xs) : Pair w0 w b1 s1 N1 48 b2 s2 N2 := by
  obtain ⟨⟨L, M, hL, hM, m1, m2, d, l1, l2, _⟩, _, hb, f1, f2, t1, t2⟩ := h
  exact ⟨⟨L, M, hL, hM, m1, m2, d, l1, l2⟩, hb, f1, f2, t1, t2⟩
theorem Loose.same {w' : World} {v : Value} {n : Nat} {xs : List Value} (h : Loose w0 w b1 s1 N1 b2 s2 N2 v n xs) (k : SameW w w') : Loose w0 w' b1 s1 N1 b2 s2 N2 v n xs := by
  have k := k.kept
  obtain ⟨⟨L, M, hL, hM, m1, m2, d, l1, l2, l3⟩, r, hb, f1, f2, t1, t2⟩ := h
  exact ⟨⟨L, M, hL, hM, m1.on k (fun _ _ => by simp), m2.on k (fun _ _ => by simp), d, l1, l2, l3⟩, own_kept r k (fun _ _ => by simp), hb.trans (k.below (fun _ hk => by simp at hk) hb.size), f1, f2, t1, t2⟩
/-- a store into the taken row -/
theorem Loose.put {g cp n j : Nat} {xs : List Value} (h : Loose w0 w b1 s1 N1 b2 s2 N2 (.slice (some ⟨g, 0, none⟩) n cp) n xs) (u : Value) : ∃ ys, Loose w0 (w.setCell ⟨g, j, none⟩ u) b1 s1 N1 b2 s2 N2 (.slice (some ⟨g, 0, none⟩) n cp) n ys := by
  obtain ⟨⟨L, M, hL, hM, m1, m2, d, l1, l2, l3⟩, r, hb, f1, f2, t1, t2⟩ := h
  have hg := l3 g rfl
  have k := Kept.setCell [g] w ⟨g, j, none⟩ u (by simp)
  exact ⟨_, ⟨L, M, hL, hM, m1.on k (fun k hk e => hg.1 (by simp at e; exact e ▸ hk)), m2.on k (fun k hk e => hg.2.1 (by simp at e; exact e ▸ hk)), d, l1, l2, l3⟩, (r.stored j u).1, hb.setCell hg.2.2 u, f1, f2, t1, t2⟩
theorem slice_of {w : World} {v : Value} {n : Nat} {xs : List Value} (h : w.ownsRow 0 44 3 v n xs) : ∃ ao cp, v = .slice ao n cp ∧ (0 < n → ∃ g, ao = some ⟨g, 0, none⟩) := by
  rcases h.2 with ⟨rfl, h0⟩ | ⟨g, cp, _, h', _⟩
  · exact ⟨none, 0, by rw [h0], fun h => by omega⟩
  · exact ⟨_, cp, h', fun _ => ⟨g, rfl⟩⟩
theorem looseTake1 (h : Pair w0 w b1 s1 N1 48 b2 s2 N2) :
    Calls Try.prog 21 #[.pointer (some ⟨b1, 0, none⟩)] w fun e w' => ∃ ao cp, e = .returned (.slice ao s1.l.length cp) ∧ Loose w0 w' b1 s1.took N1 b2 s2 N2 (.slice ao s1.l.length cp) s1.l.length (accs s1.l) ∧ Others w w' := by
  obtain ⟨⟨L, M, rfl, hM, m1, m2, d, l1, l2⟩, hb, f1, f2, t1, t2⟩ := h
  refine (cTake m1).mono ?_
  rintro e w' ⟨rfl, hm', st, hu, hk⟩
  have R := st.from l1 hb.size
  have A := st.apart m2 d
  obtain ⟨ao, cp, hv, _⟩ := slice_of m1.unt
  refine ⟨ao, cp, by rw [hv], ⟨⟨⟨L.b, L.g, L.cp, .slice none 0 0⟩, M, rfl, hM, hm', A.1, A.2, R.2, l2, fun k hk' => ?_⟩, hv ▸ hu, hb.trans R.1, f1.took, f2, t1, t2⟩, others_of m1 (by simp) st.kept⟩
  rw [← hv] at hk'
  have hin : k ∈ L.fp := by simp [Loc.fp, hk']
  refine ⟨fun h' => ?_, fun h' => d k h' hin, l1 k hin⟩
  simp [Loc.fp, Value.ownBlock] at h'
  have := hk k hk'
  rcases h' with h' | h'
  · exact this.1 h'
  · exact this.2 h'
theorem looseTake2 {v : Value} {n : Nat} {xs : List Value} (h : Loose w0 w b1 s1 N1 b2 s2 N2 v n xs) :
    Calls Try.prog 22 #[.pointer (some ⟨b2, 0, none⟩)] w fun e w' => ∃ ao cp, e = .returned (.slice ao s2.l.length cp) ∧ Loose w0 w' b1 s1 N1 b2 s2.took N2 v n xs ∧ w'.ownsRow 0 44 3 (.slice ao s2.l.length cp) s2.l.length (accs s2.l) ∧ Others w w' := by
  obtain ⟨⟨L, M, hL, rfl, m1, m2, d, l1, l2, l3⟩, r, hb, f1, f2, t1, t2⟩ := h
  refine (rTake m2).mono ?_
  rintro e w' ⟨rfl, hm', st, hu, hk⟩
  have R := st.from l2 hb.size
  have A := st.apart m1 fun k hk hk' => d k hk' hk
  obtain ⟨ao, cp, hv, _⟩ := slice_of m2.unt
  refine ⟨ao, cp, by rw [hv], ⟨⟨L, ⟨M.b, M.g, M.cp, .slice none 0 0⟩, hL, rfl, A.1, hm', fun k hk hk' => A.2 k hk' hk, l1, R.2, fun k hk' => ⟨(l3 k hk').1, fun h' => ?_, (l3 k hk').2.2⟩⟩, own_kept r st.kept fun k hk' => (l3 k hk').2.1, hb.trans R.1, f1, f2.took, t1, t2⟩, hv ▸ hu, others_of m2 (by simp) st.kept⟩
  have h1 := (l3 k hk').2.1
  simp [Loc.fp, Value.ownBlock] at h'
  rcases h' with h' | h'
  · exact h1 (by simp [Loc.fp, h'])
  · exact h1 (by simp [Loc.fp, h'])

/-- an old memory, its clone, and the reference's -/
structure Trio (w0 w : World) (b0 : Nat) (s0 : St) (N0 : Nat) (b1 : Nat) (s1 : St) (N1 : Nat) (b2 : Nat) (s2 : St) (N2 : Nat) : Prop where
  at_ : ∃ K L M : Loc, K.b = b0 ∧ L.b = b1 ∧ M.b = b2 ∧ Mm w K s0 ∧ Mm w L s1 ∧ Rm w M s2 ∧ (∀ k ∈ M.fp, k ∉ L.fp) ∧ (∀ k ∈ L.fp, k ∉ K.fp) ∧ (∀ k ∈ M.fp, k ∉ K.fp) ∧ (∀ k ∈ K.fp, w0.heap.size ≤ k) ∧ (∀ k ∈ L.fp, w0.heap.size ≤ k) ∧ ∀ k ∈ M.fp, w0.heap.size ≤ k
  bel : Below w0.heap.size w0 w
  fit0 : s0.Fit
  fit1 : s1.Fit
  fit2 : s2.Fit
  top0 : s0.c ≤ N0
  top1 : s1.c ≤ N1
  top2 : s2.c ≤ N2
theorem Trio.pair {b0 N0 : Nat} {s0 : St} (h : Trio w0 w b0 s0 N0 b1 s1 N1 b2 s2 N2) : Pair w0 w b1 s1 N1 48 b2 s2 N2 := by
  obtain ⟨⟨K, L, M, hK, hL, hM, m0, m1, m2, d1, d2, d3, l0, l1, l2⟩, hb, f0, f1, f2, t0, t1, t2⟩ := h
  exact ⟨⟨L, M, hL, hM, m1, m2, d1, l1, l2⟩, hb, f1, f2, t1, t2⟩
theorem trioClone (h : Pair w0 w b1 s1 N1 48 b2 s2 N2) :
    Calls Try.prog 20 #[.pointer (some ⟨b1, 0, none⟩)] w fun e w' => ∃ c, e = .returned (.pointer (some ⟨c, 0, none⟩)) ∧ Trio w0 w' b1 s1 N1 c s1 N1 b2 s2 N2 := by
  obtain ⟨⟨K, M, rfl, hM, m0, m2, d, l0, l2⟩, hb, f1, f2, t1, t2⟩ := h
  refine (cClone m0 f1).mono ?_
  rintro e w' ⟨L, rfl, m1, hb', l1⟩
  exact ⟨L.b, rfl, ⟨⟨K, L, M, rfl, rfl, hM, m0.below hb', m1, m2.below hb', fun k hk hk' => by have := l1 k hk'; have := m2.lt k hk; omega, fun k hk hk' => by have := l1 k hk; have := m0.lt k hk'; omega, d, l0, fun k hk => Nat.le_trans hb.size (l1 k hk), l2⟩, hb.trans (hb'.mono hb.size), f1, f1, f2, t1, t1, t2⟩⟩
theorem trioStore {b0 N0 : Nat} {s0 : St} (h : Trio w0 w b0 s0 N0 b1 s1 N1 b2 s2 N2) (hN : N0 < 1000000) (a x : Int) :
    Calls Try.prog 14 #[.pointer (some ⟨b0, 0, none⟩), .int .i64 a, .int .u64 x] w fun e w' => e = .returned (.tuple #[]) ∧ Trio w0 w' b0 (s0.store a x) (N0 + 1) b1 s1 N1 b2 s2 N2 := by
  obtain ⟨⟨K, L, M, rfl, hL, hM, m0, m1, m2, d1, d2, d3, l0, l1, l2⟩, hb, f0, f1, f2, t0, t1, t2⟩ := h
  have hc : s0.c < 1000000 := by omega
  refine (cStore m0 f0 hc a x).mono ?_
  rintro e w' ⟨rfl, K', m0', st⟩
  have R := st.from l0 hb.size
  have A := st.apart m1 d2
  have B := st.apart m2 d3
  exact ⟨rfl, ⟨⟨K', L, M, st.b, hL, hM, m0', A.1, B.1, d1, A.2, B.2, R.2, l1, l2⟩, hb.trans R.1, f0.store hc a x, f1, f2, by rw [St.c_store]; omega, t1, t2⟩⟩
theorem trioTake {b0 N0 : Nat} {s0 : St} (h : Trio w0 w b0 s0 N0 b1 s1 N1 b2 s2 N2) :
    Calls Try.prog 21 #[.pointer (some ⟨b0, 0, none⟩)] w fun e w' => ∃ v, e = .returned v ∧ Trio w0 w' b0 s0.took N0 b1 s1 N1 b2 s2 N2 := by
  obtain ⟨⟨K, L, M, rfl, hL, hM, m0, m1, m2, d1, d2, d3, l0, l1, l2⟩, hb, f0, f1, f2, t0, t1, t2⟩ := h
  refine (cTake m0).mono ?_
  rintro e w' ⟨rfl, m0', st, _, _⟩
  have R := st.from l0 hb.size
  have A := st.apart m1 d2
  have B := st.apart m2 d3
  exact ⟨_, rfl, ⟨⟨⟨K.b, K.g, K.cp, .slice none 0 0⟩, L, M, rfl, hL, hM, m0', A.1, B.1, d1, A.2, B.2, R.2, l1, l2⟩, hb.trans R.1, f0.took, f1, f2, t0, t1, t2⟩⟩
end
/-- both, new -/
theorem pNew {w w0 : World} {b N : Nat} {s : St} (h : Own w0 w b s N) (n : Nat) (h1 : 1 ≤ n) (h4 : n ≤ 4096) :
    Calls Try.prog 10 #[.int .i64 n] w fun e w' => ∃ c, e = .returned (.tuple #[.pointer (some ⟨c, 0, none⟩), .int .i64 0]) ∧ Pair w0 w' b s N 48 c (St.new n) 0 := by
  obtain ⟨⟨L, rfl, hm, hL⟩, hb, f, t⟩ := h
  refine (cRNew w n h1 h4).mono ?_
  rintro e w' ⟨c, g, cp, rfl, m2, hb', l2⟩
  exact ⟨c, rfl, ⟨⟨L, _, rfl, rfl, hm.below hb', m2, fun k hk hk' => by have := l2 k hk; have := hm.lt k hk'; omega, hL, fun k hk => Nat.le_trans hb.size (l2 k hk)⟩, hb.trans (hb'.mono hb.size), f, St.Fit.new h1 h4, t, by simp [St.new]⟩⟩
end Go.Proofs.Ytmidhhigopjkhaa
