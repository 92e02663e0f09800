/-
  Take, as a law has it in hand.
-/
import Derived.Test.YtmidhhigopjkhaaHand
import Derived.BigQuiet
namespace Go.Proofs.Ytmidhhigopjkhaa
set_option linter.unusedVariables false
open Go.ChangeShapes Go.WideShapes Go.RowKit

theorem wrap_small (x : Int) (h0 : 0 ≤ x) (h1 : x ≤ 1000000) : IntKind.i64.wrap x = x := by rw [IntKind.wrap_i64]; omega
theorem Kept.drewN (F : List Nat) (w : World) (n : Nat) : Kept F w (w.drewN n) := ⟨rfl, rfl, rfl, Nat.le_refl _, fun _ _ _ => rfl⟩
theorem Own.drewN {w0 w : World} {b N : Nat} {s : St} (h : Own w0 w b s N) (n : Nat) : Own w0 (w.drewN n) b s N := by
  obtain ⟨⟨L, rfl, hm, hl⟩, hb, f, t⟩ := h
  exact ⟨⟨L, rfl, hm.on (Kept.drewN [] w n) (fun _ _ => by simp), hl⟩, hb.trans ⟨rfl, rfl, rfl, Nat.le_refl _, fun _ _ => rfl⟩, f, t⟩

/-- accesses that were taken -/
structure Taken (w : World) (ao : Option Addr) (l : List (Int × Int × Bool)) : Prop where
  cells : ∀ (j : Nat) (x : Int × Int × Bool), l[j]? = some x → ∃ g, ao = some ⟨g, 0, none⟩ ∧ w.cell? ⟨g, j * 3, none⟩ = some (.int .i64 x.1) ∧ w.cell? ⟨g, j * 3 + 1, none⟩ = some (.int .i64 x.2.1) ∧ w.cell? ⟨g, j * 3 + 2, none⟩ = some (.bool x.2.2)
theorem taken_of {w : World} {ao : Option Addr} {n cp : Nat} {l : List (Int × Int × Bool)} (h : w.ownsRow 0 44 3 (.slice ao n cp) l.length (accs l)) : n = l.length ∧ Taken w ao l := by
  rcases h.2 with ⟨e, h0⟩ | ⟨g, cap, cur, e, _⟩
  · simp at e
    obtain ⟨rfl, rfl, rfl⟩ := e
    refine ⟨h0.symm, ⟨fun j x hx => ?_⟩⟩
    have : l = [] := List.eq_nil_of_length_eq_zero h0
    subst this
    simp at hx
  · simp at e
    obtain ⟨rfl, rfl, rfl⟩ := e
    refine ⟨rfl, ⟨fun j x hx => ⟨g, rfl, ?_⟩⟩⟩
    have A := accs_at l j x hx
    have C := fun i u hi => h.cells (g := g) rfl i u hi
    simp only [Addr.add_lit, Nat.zero_add] at C
    exact ⟨C _ _ A.1, C _ _ A.2.1, C _ _ A.2.2⟩
theorem oTake {w0 w : World} {b N : Nat} {s : St} (h : Own w0 w b s N) :
    Calls Try.prog 21 #[.pointer (some ⟨b, 0, none⟩)] w fun e w' => ∃ ao cp, e = .returned (.slice ao s.l.length cp) ∧ Own w0 w' b s.took N ∧ Others w w' ∧ Taken w' ao s.l := by
  obtain ⟨⟨L, rfl, hm, hl⟩, hb, f, t⟩ := h
  refine (cTake hm).mono ?_
  rintro e w' ⟨rfl, hm', st, hu, _⟩
  have R := st.from hl hb.size
  have hv : ∃ ao n cp, L.vu = .slice ao n cp := by
    rcases hm.unt.2 with ⟨h', _⟩ | ⟨g, cp, _, h', _⟩
    · exact ⟨_, _, _, h'⟩
    · exact ⟨_, _, _, h'⟩
  obtain ⟨ao, n, cp, hv⟩ := hv
  rw [hv] at hu
  obtain ⟨rfl, tk⟩ := taken_of hu
  exact ⟨ao, cp, by rw [hv], ⟨⟨⟨L.b, L.g, L.cp, .slice none 0 0⟩, rfl, hm', R.2⟩, hb.trans R.1, f.took, t⟩, others_of hm (by simp) st.kept, tk⟩

/-- what one call of the four does, told in one way -/
structure Did (s s' : St) (op a : Int) (bad : Bool) : Prop where
  n : s'.ws.length = s.ws.length
  c : s'.c = s.c + 1
  t : s'.t = s.t + (if bad then 1 else 0)
  l : ∃ ok, s'.l = s.l ++ [(op, a, ok)]
theorem did_load (s : St) (a : Int) {bad : Bool} (h : s.is1 a = !bad) : Did s (s.load a) 1 a bad := ⟨rfl, rfl, by simp [St.load, St.tell, h]; cases bad <;> simp, _, rfl⟩
theorem did_store (s : St) (a x : Int) {bad : Bool} (h : s.is1 a = !bad) : Did s (s.store a x) 2 a bad := ⟨St.n_store _ _ _, St.c_store _ _ _, by simp [St.store, St.tell, St.put, h]; cases bad <;> simp, _, by unfold St.store; split <;> rfl⟩
theorem did_cas (s : St) (a o x : Int) {bad : Bool} (h : s.is1 a = !bad) : Did s (s.cas a o x) 3 a bad :=
  ⟨St.n_cas _ _ _ _, St.c_cas _ _ _ _, by unfold St.cas; split <;> simp [St.tell, St.put, h] <;> cases bad <;> simp, _, by unfold St.cas; split <;> rfl⟩
theorem did_cas2 (s : St) (a o0 o1 x0 x1 : Int) {bad : Bool} (h : s.is2 a = !bad) : Did s (s.cas2 a o0 o1 x0 x1) 4 a bad :=
  ⟨St.n_cas2 _ _ _ _ _ _, St.c_cas2 _ _ _ _ _ _, by unfold St.cas2; split <;> simp [St.tell, St.put, h] <;> cases bad <;> simp, _, by unfold St.cas2; split <;> rfl⟩
end Go.Proofs.Ytmidhhigopjkhaa
