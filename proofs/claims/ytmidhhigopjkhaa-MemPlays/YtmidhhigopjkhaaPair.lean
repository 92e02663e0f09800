/-
  Two memories, as a law has them in hand; some calls.
-/
import Derived.Test.YtmidhhigopjkhaaSomeW
import Derived.Test.YtmidhhigopjkhaaOpenOps
namespace Go.Proofs.Ytmidhhigopjkhaa
set_option linter.unusedVariables false
open Go.ChangeShapes Go.WideShapes Go.RowKit

/-- some calls, whatever the list -/
theorem cSome0 (ao : Option Addr) (cap : Nat) (w : World) (L : Loc) (s : St) (N : Nat) (hm : Mm w L s) (hf : s.Fit) (hN : s.c ≤ N) :
    Calls Try.prog 27 #[.pointer (some ⟨L.b, 0, none⟩), .slice ao 0 cap] w fun e w' => e = .returned (.tuple #[]) ∧ Goes w L w' s.ws.length (N + 40) := by
  go_enter Try.func27, Try.ntmps27
  go_wp2
  refine wp_loop_rounds 1 ?_
  rw [rounds_succ]
  go_wp2
  go_end0
  exact ⟨rfl, ⟨L, s, hm, Step.refl _ _, hf, by omega, rfl⟩⟩
theorem cSomeAny (ao : Option Addr) (len cap : Nat) (z : Nat → Op6) (w w0 : World) (L : Loc) (s : St) (N : Nat) (hm : Mm w L s) (hf : s.Fit) (hN : s.c ≤ N) (hN' : N + 40 ≤ 1000000) (hl : Came w0 ao len z) (hb : Below w0.heap.size w0 w) (hL : ∀ k ∈ L.fp, w0.heap.size ≤ k) :
    Calls Try.prog 27 #[.pointer (some ⟨L.b, 0, none⟩), .slice ao len cap] w fun e w' => e = .returned (.tuple #[]) ∧ Goes w L w' s.ws.length (N + 40) := by
  rcases hl with rfl | ⟨b, off, rfl, hl⟩
  · exact cSome0 ao cap w L s N hm hf hN
  · exact cSome b off len cap z w w0 L s N hm hf hN hN' hl hb hL
theorem oSome {w0 w : World} {b N : Nat} {s : St} (h : Own w0 w b s N) (hN : N + 40 ≤ 1000000) (ao : Option Addr) (len cap : Nat) (z : Nat → Op6) (hl : Came w0 ao len z) :
    Calls Try.prog 27 #[.pointer (some ⟨b, 0, none⟩), .slice ao len cap] w fun e w' => e = .returned (.tuple #[]) ∧ ∃ s', Own w0 w' b s' (N + 40) ∧ s'.ws.length = s.ws.length ∧ Others w w' := by
  obtain ⟨⟨L, rfl, hm, hL⟩, hb, f, t⟩ := h
  refine (cSomeAny ao len cap z w w0 L s N hm f t hN hl hb hL).mono ?_
  rintro e w' ⟨rfl, L', s', hm', st, hf', hc', hn'⟩
  have R := st.from hL hb.size
  exact ⟨rfl, s', ⟨⟨L', st.b, hm', R.2⟩, hb.trans R.1, hf', hc'⟩, hn', others_of hm (by simp) st.kept⟩

/-- two memories of the call's own that lie apart -/
structure Pair (w0 w : World) (b1 : Nat) (s1 : St) (N1 : Nat) (T : TypeId) (b2 : Nat) (s2 : St) (N2 : Nat) : Prop where
  at_ : ∃ L M : Loc, L.b = b1 ∧ M.b = b2 ∧ Mm w L s1 ∧ MemAt T w M s2 ∧ (∀ k ∈ M.fp, k ∉ L.fp) ∧ (∀ k ∈ L.fp, w0.heap.size ≤ k) ∧ ∀ k ∈ M.fp, w0.heap.size ≤ k
  bel : Below w0.heap.size w0 w
  fit1 : s1.Fit
  fit2 : s2.Fit
  top1 : s1.c ≤ N1
  top2 : s2.c ≤ N2

section
variable {w0 w : World} {b1 b2 N1 N2 : Nat} {s1 s2 : St} {T : TypeId}
theorem Pair.call1 {P : Program} {f : Nat} {args : Array Value} {r : Value} {s1' : St} {N1' : Nat} (h : Pair w0 w b1 s1 N1 T b2 s2 N2) (hf : s1'.Fit) (hN : s1'.c ≤ N1')
    (hc : ∀ L : Loc, L.b = b1 → Mm w L s1 → Calls P f args w fun e w' => e = .returned r ∧ ∃ L', Mm w' L' s1' ∧ Step w L w' L') :
    Calls P f args w fun e w' => e = .returned r ∧ Pair w0 w' b1 s1' N1' T b2 s2 N2 ∧ Others w w' := by
  obtain ⟨⟨L, M, hL, hM, m1, m2, d, l1, l2⟩, hb, _, f2, _, t2⟩ := h
  refine (hc L hL m1).mono ?_
  rintro e w' ⟨rfl, L', m1', st⟩
  have R := st.from l1 hb.size
  have A := st.apart m2 d
  exact ⟨rfl, ⟨⟨L', M, st.b.trans hL, hM, m1', A.1, A.2, R.2, l2⟩, hb.trans R.1, hf, f2, hN, t2⟩, others_of m1 (by simp) st.kept⟩
theorem Pair.call2 {P : Program} {f : Nat} {args : Array Value} {r : Value} {s2' : St} {N2' : Nat} (h : Pair w0 w b1 s1 N1 T b2 s2 N2) (hT : T ∈ [56, 48]) (hf : s2'.Fit) (hN : s2'.c ≤ N2')
    (hc : ∀ M : Loc, M.b = b2 → MemAt T w M s2 → Calls P f args w fun e w' => e = .returned r ∧ ∃ M', MemAt T w' M' s2' ∧ Step w M w' M') :
    Calls P f args w fun e w' => e = .returned r ∧ Pair w0 w' b1 s1 N1 T b2 s2' N2' ∧ Others w w' := by
  obtain ⟨⟨L, M, hL, hM, m1, m2, d, l1, l2⟩, hb, f1, _, t1, _⟩ := h
  refine (hc M hM m2).mono ?_
  rintro e w' ⟨rfl, M', m2', st⟩
  have R := st.from l2 hb.size
  have A := st.apart m1 fun k hk hk' => d k hk' hk
  exact ⟨rfl, ⟨⟨L, M', hL, st.b.trans hM, A.1, m2', fun k hk hk' => A.2 k hk' hk, l1, R.2⟩, hb.trans R.1, f1, hf, t1, hN⟩, others_of m2 hT st.kept⟩
theorem Pair.drew (h : Pair w0 w b1 s1 N1 T b2 s2 N2) : Pair w0 w.drew b1 s1 N1 T b2 s2 N2 := by
  obtain ⟨⟨L, M, hL, hM, m1, m2, d, l1, l2⟩, hb, f1, f2, t1, t2⟩ := h
  exact ⟨⟨L, M, hL, hM, m1.drew, m2.drew, d, l1, l2⟩, hb.drew, f1, f2, t1, t2⟩
theorem Pair.one (h : Pair w0 w b1 s1 N1 T b2 s2 N2) : Own w0 w b1 s1 N1 := by
  obtain ⟨⟨L, M, hL, hM, m1, m2, d, l1, l2⟩, hb, f1, f2, t1, t2⟩ := h
  exact ⟨⟨L, hL, m1, l1⟩, hb, f1, t1⟩
theorem Pair.two (h : Pair w0 w b1 s1 N1 56 b2 s2 N2) : Own w0 w b2 s2 N2 := by
  obtain ⟨⟨L, M, hL, hM, m1, m2, d, l1, l2⟩, hb, f1, f2, t1, t2⟩ := h
  exact ⟨⟨M, hM, m2, l2⟩, hb, f2, t2⟩
theorem Pair.mono {N1' N2' : Nat} (h : Pair w0 w b1 s1 N1 T b2 s2 N2) (h1 : N1 ≤ N1') (h2 : N2 ≤ N2') : Pair w0 w b1 s1 N1' T b2 s2 N2' := ⟨h.at_, h.bel, h.fit1, h.fit2, by have := h.top1; omega, by have := h.top2; omega⟩
theorem p1Load (h : Pair w0 w b1 s1 N1 T b2 s2 N2) (hN : N1 < 1000000) (a : Int) :
    Calls Try.prog 12 #[.pointer (some ⟨b1, 0, none⟩), .int .i64 a] w fun e w' => e = .returned (.int .u64 (s1.got a)) ∧ Pair w0 w' b1 (s1.load a) (N1 + 1) T b2 s2 N2 ∧ Others w w' :=
  have hc : s1.c < 1000000 := by have := h.top1; omega
  h.call1 (h.fit1.load hc a) (by rw [St.c_load]; have := h.top1; omega) fun L hb hm => hb ▸ cLoad hm h.fit1 hc a
theorem p1Store (h : Pair w0 w b1 s1 N1 T b2 s2 N2) (hN : N1 < 1000000) (a x : Int) :
    Calls Try.prog 14 #[.pointer (some ⟨b1, 0, none⟩), .int .i64 a, .int .u64 x] w fun e w' => e = .returned (.tuple #[]) ∧ Pair w0 w' b1 (s1.store a x) (N1 + 1) T b2 s2 N2 ∧ Others w w' :=
  have hc : s1.c < 1000000 := by have := h.top1; omega
  h.call1 (h.fit1.store hc a x) (by rw [St.c_store]; have := h.top1; omega) fun L hb hm => hb ▸ cStore hm h.fit1 hc a x
theorem p1CAS (h : Pair w0 w b1 s1 N1 T b2 s2 N2) (hN : N1 < 1000000) (a o x : Int) :
    Calls Try.prog 16 #[.pointer (some ⟨b1, 0, none⟩), .int .i64 a, .int .u64 o, .int .u64 x] w fun e w' => e = .returned (.bool (s1.ok1 a o)) ∧ Pair w0 w' b1 (s1.cas a o x) (N1 + 1) T b2 s2 N2 ∧ Others w w' :=
  have hc : s1.c < 1000000 := by have := h.top1; omega
  h.call1 (h.fit1.cas hc a o x) (by rw [St.c_cas]; have := h.top1; omega) fun L hb hm => hb ▸ cCAS hm h.fit1 hc a o x
theorem p1CAS2 (h : Pair w0 w b1 s1 N1 T b2 s2 N2) (hN : N1 < 1000000) (a o0 o1 x0 x1 : Int) :
    Calls Try.prog 18 #[.pointer (some ⟨b1, 0, none⟩), .int .i64 a, .int .u64 o0, .int .u64 o1, .int .u64 x0, .int .u64 x1] w fun e w' => e = .returned (.bool (s1.ok2 a o0 o1)) ∧ Pair w0 w' b1 (s1.cas2 a o0 o1 x0 x1) (N1 + 1) T b2 s2 N2 ∧ Others w w' :=
  have hc : s1.c < 1000000 := by have := h.top1; omega
  h.call1 (h.fit1.cas2 hc a o0 o1 x0 x1) (by rw [St.c_cas2]; have := h.top1; omega) fun L hb hm => hb ▸ cCAS2 hm h.fit1 hc a o0 o1 x0 x1
theorem p2Load (h : Pair w0 w b1 s1 N1 56 b2 s2 N2) (hN : N2 < 1000000) (a : Int) :
    Calls Try.prog 12 #[.pointer (some ⟨b2, 0, none⟩), .int .i64 a] w fun e w' => e = .returned (.int .u64 (s2.got a)) ∧ Pair w0 w' b1 s1 N1 56 b2 (s2.load a) (N2 + 1) ∧ Others w w' :=
  have hc : s2.c < 1000000 := by have := h.top2; omega
  h.call2 (by simp) (h.fit2.load hc a) (by rw [St.c_load]; have := h.top2; omega) fun L hb hm => hb ▸ cLoad hm h.fit2 hc a
theorem p2Some (h : Pair w0 w b1 s1 N1 56 b2 s2 N2) (hN : N2 + 40 ≤ 1000000) (ao : Option Addr) (len cap : Nat) (z : Nat → Op6) (hl : Came w0 ao len z) :
    Calls Try.prog 27 #[.pointer (some ⟨b2, 0, none⟩), .slice ao len cap] w fun e w' => e = .returned (.tuple #[]) ∧ ∃ s2', Pair w0 w' b1 s1 N1 56 b2 s2' (N2 + 40) ∧ s2'.ws.length = s2.ws.length ∧ Others w w' := by
  obtain ⟨⟨L, M, hL, rfl, m1, m2, d, l1, l2⟩, hb, f1, f2, t1, t2⟩ := h
  refine (cSomeAny ao len cap z w w0 M s2 N2 m2 f2 t2 hN hl hb l2).mono ?_
  rintro e w' ⟨rfl, M', s', hm', st, hf', hc', hn'⟩
  have R := st.from l2 hb.size
  have A := st.apart m1 fun k hk hk' => d k hk' hk
  exact ⟨rfl, s', ⟨⟨L, M', hL, st.b, A.1, hm', fun k hk hk' => A.2 k hk' hk, l1, R.2⟩, hb.trans R.1, f1, hf', t1, hc'⟩, hn', others_of m2 (by simp) st.kept⟩
theorem p1Take (h : Pair w0 w b1 s1 N1 T b2 s2 N2) :
    Calls Try.prog 21 #[.pointer (some ⟨b1, 0, none⟩)] w fun e w' => ∃ ao cp, e = .returned (.slice ao s1.l.length cp) ∧ Pair w0 w' b1 s1.took N1 T b2 s2 N2 ∧ Others w w' ∧ Taken w' ao s1.l := by
  obtain ⟨⟨L, M, rfl, hM, m1, m2, d, l1, l2⟩, hb, f1, f2, t1, t2⟩ := h
  refine (cTake m1).mono ?_
  rintro e w' ⟨rfl, hm', st, hu, _⟩
  have R := st.from l1 hb.size
  have A := st.apart m2 d
  have hv : ∃ ao n cp, L.vu = .slice ao n cp := by
    rcases m1.unt.2 with ⟨h', _⟩ | ⟨g, cp, _, h', _⟩
    · exact ⟨_, _, _, h'⟩
    · exact ⟨_, _, _, h'⟩
  obtain ⟨ao, n, cp, hv⟩ := hv
  rw [hv] at hu
  obtain ⟨rfl, tk⟩ := taken_of hu
  exact ⟨ao, cp, by rw [hv], ⟨⟨⟨L.b, L.g, L.cp, .slice none 0 0⟩, M, rfl, hM, hm', A.1, A.2, R.2, l2⟩, hb.trans R.1, f1.took, f2, t1, t2⟩, others_of m1 (by simp) st.kept, tk⟩
end
/-- a clone beside its memory -/
theorem oClone {w0 w : World} {b N : Nat} {s : St} (h : Own w0 w b s N) :
    Calls Try.prog 20 #[.pointer (some ⟨b, 0, none⟩)] w fun e w' => ∃ c, e = .returned (.pointer (some ⟨c, 0, none⟩)) ∧ Pair w0 w' b s N 56 c s N ∧ Others w w' ∧ c ≠ b := by
  obtain ⟨⟨L, rfl, hm, hL⟩, hb, f, t⟩ := h
  refine (cClone hm f).mono ?_
  rintro e w' ⟨M, rfl, m2, hb', l2⟩
  refine ⟨M.b, rfl, ⟨⟨L, M, rfl, rfl, hm.below hb', m2, fun k hk hk' => ?_, hL, fun k hk => Nat.le_trans hb.size (l2 k hk)⟩, hb.trans (hb'.mono hb.size), f, f, t, t⟩, others_below hb', fun e => ?_⟩
  · have h1 := l2 k hk
    have h2 := hm.lt k hk'
    omega
  · have h1 := l2 M.b (by simp [Loc.fp])
    have h2 := hm.lt L.b (by simp [Loc.fp])
    omega
theorem fill_step (l : List Int) (j n : Nat) (hn : j < n) (hl : l.length = n) : (l.take j ++ List.replicate (n - j) 0).set j (l.getD j 0) = l.take (j + 1) ++ List.replicate (n - (j + 1)) 0 := by
  have e1 : (l.take j).length = j := by simp; omega
  rw [List.set_append_right _ _ (by omega), e1, Nat.sub_self]
  rw [show n - j = (n - (j + 1)) + 1 by omega, List.replicate_succ, List.set_cons_zero, List.take_add_one, List.getElem?_eq_getElem (by omega)]
  simp only [List.getD, List.getElem?_eq_getElem (show j < l.length by omega), Option.getD_some, Option.toList_some, List.append_assoc, List.cons_append, List.nil_append]
end Go.Proofs.Ytmidhhigopjkhaa
