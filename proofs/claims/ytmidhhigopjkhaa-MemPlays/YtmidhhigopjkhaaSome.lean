/-
  The contract of the laws' function that does some calls.
-/
import Derived.Test.YtmidhhigopjkhaaOwn2
namespace Go.Proofs.Ytmidhhigopjkhaa
set_option linter.unusedVariables false
open Go.ChangeShapes Go.WideShapes Go.RowKit

/-- one memory, whatever else lies there -/
structure Goes (w : World) (L : Loc) (wr : World) (n N : Nat) : Prop where
  at_ : ∃ L' s', Mm wr L' s' ∧ Step w L wr L' ∧ s'.Fit ∧ s'.c ≤ N ∧ s'.ws.length = n
theorem Goes.call {P : Program} {f : Nat} {args : Array Value} {w wr : World} {L : Loc} {n N : Nat} (h : Goes w L wr n N) (r : Value → Prop)
    (hc : ∀ (L' : Loc) (s' : St), L'.b = L.b → Mm wr L' s' → s'.Fit → s'.c ≤ N → s'.ws.length = n → Calls P f args wr fun e w' => ∃ v, e = .returned v ∧ r v ∧ ∃ L2 s2, Mm w' L2 s2 ∧ Step wr L' w' L2 ∧ s2.Fit ∧ s2.c ≤ N + 1 ∧ s2.ws.length = n) :
    Calls P f args wr fun e w' => ∃ v, e = .returned v ∧ r v ∧ Goes w L w' n (N + 1) := by
  obtain ⟨L', s', hm, st, hf, hN, hn⟩ := h
  refine (hc L' s' st.b hm hf hN hn).mono ?_
  rintro e w' ⟨v, rfl, hv, L2, s2, hm2, st2, hf2, hN2, hn2⟩
  exact ⟨v, rfl, hv, ⟨L2, s2, hm2, st.trans st2, hf2, hN2, hn2⟩⟩

section
variable {w wr : World} {L : Loc} {n N : Nat}
theorem gStore (h : Goes w L wr n N) (hN : N < 1000000) (a x : Int) : Calls Try.prog 14 #[.pointer (some ⟨L.b, 0, none⟩), .int .i64 a, .int .u64 x] wr fun e w' => e = .returned (.tuple #[]) ∧ Goes w L w' n (N + 1) := by
  obtain ⟨L', s', hm, st, hf, hc, hn⟩ := h
  have := cStore hm hf (by omega) a x
  rw [st.b] at this
  refine this.mono ?_
  rintro e w' ⟨rfl, L2, hm2, st2⟩
  exact ⟨rfl, ⟨L2, _, hm2, st.trans st2, hf.store (by omega) a x, by rw [St.c_store]; omega, (St.n_store _ _ _).trans hn⟩⟩
theorem gCAS (h : Goes w L wr n N) (hN : N < 1000000) (a o x : Int) : Calls Try.prog 16 #[.pointer (some ⟨L.b, 0, none⟩), .int .i64 a, .int .u64 o, .int .u64 x] wr fun e w' => ∃ ok, e = .returned (.bool ok) ∧ Goes w L w' n (N + 1) := by
  obtain ⟨L', s', hm, st, hf, hc, hn⟩ := h
  have := cCAS hm hf (by omega) a o x
  rw [st.b] at this
  refine this.mono ?_
  rintro e w' ⟨rfl, L2, hm2, st2⟩
  exact ⟨_, rfl, ⟨L2, _, hm2, st.trans st2, hf.cas (by omega) a o x, by rw [St.c_cas]; omega, (St.n_cas _ _ _ _).trans hn⟩⟩
theorem gCAS2 (h : Goes w L wr n N) (hN : N < 1000000) (a o0 o1 x0 x1 : Int) : Calls Try.prog 18 #[.pointer (some ⟨L.b, 0, none⟩), .int .i64 a, .int .u64 o0, .int .u64 o1, .int .u64 x0, .int .u64 x1] wr fun e w' => ∃ ok, e = .returned (.bool ok) ∧ Goes w L w' n (N + 1) := by
  obtain ⟨L', s', hm, st, hf, hc, hn⟩ := h
  have := cCAS2 hm hf (by omega) a o0 o1 x0 x1
  rw [st.b] at this
  refine this.mono ?_
  rintro e w' ⟨rfl, L2, hm2, st2⟩
  exact ⟨_, rfl, ⟨L2, _, hm2, st.trans st2, hf.cas2 (by omega) a o0 o1 x0 x1, by rw [St.c_cas2]; omega, (St.n_cas2 _ _ _ _ _ _).trans hn⟩⟩
theorem gTake (h : Goes w L wr n N) : Calls Try.prog 21 #[.pointer (some ⟨L.b, 0, none⟩)] wr fun e w' => ∃ v, e = .returned v ∧ Goes w L w' n (N + 1) := by
  obtain ⟨L', s', hm, st, hf, hc, hn⟩ := h
  have := cTake hm
  rw [st.b] at this
  refine this.mono ?_
  rintro e w' ⟨rfl, hm2, st2, _⟩
  rw [← st.b] at hm2 st2
  exact ⟨_, rfl, ⟨_, _, hm2, st.trans st2, hf.took, by show s'.c ≤ _; omega, hn⟩⟩
theorem Goes.drew (h : Goes w L wr n N) : Goes w L wr.drew n N := by
  obtain ⟨L', s', hm, st, hf, hc, hn⟩ := h
  exact ⟨L', s', hm.drew, st.trans ⟨Kept.drew _ _, fun _ hk => .inl hk, rfl⟩, hf, hc, hn⟩
theorem Goes.bel (h : Goes w L wr n N) {B : Nat} (hL : ∀ k ∈ L.fp, B ≤ k) (hB : B ≤ w.heap.size) : Below B w wr := by
  obtain ⟨L', s', hm, st, hf, hc, hn⟩ := h
  exact st.kept.below hL hB
end
end Go.Proofs.Ytmidhhigopjkhaa
