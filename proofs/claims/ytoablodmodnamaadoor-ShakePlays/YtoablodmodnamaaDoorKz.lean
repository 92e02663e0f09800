/-
  A Poll alone that shades nothing, said plainly: how far it is from its end, and which words it changes.
-/
import Derived.Test.YtoablodmodnamaaDoorKx
namespace Go.Proofs.YtoablodmodnamaaDoor
set_option linter.unusedVariables false
set_option linter.unusedSimpArgs false
set_option maxRecDepth 100000
open Go.ChangeShapes Go.WideShapes Go.RowKit
open S.Plain (t0 t1 tw nx p0 p1 p2 p3 pw)
open H.Plain (hw pS pC pN pM pG pT pL)

theorem toFix_cases (l : Nat → Int) (n i : Nat) (h : i ≤ n) : toFix l n i = .tell ∨ ∃ k, i ≤ k ∧ k < n ∧ toFix l n i = .fix k ∧ l k ≠ 0 ∧ ∀ j, i ≤ j → j < k → l j = 0 := by
  obtain ⟨a1, a2, a3, a4⟩ := seek_le l n (n - i) i (Nat.le_refl _) h
  by_cases hk : seek l n (n - i) i < n
  · exact .inr ⟨_, a1, hk, if_neg (by omega), a4 hk, a3⟩
  · exact .inl (if_pos (by omega))
/-- a Poll on its way -/
def Wq (s0 : St) (q : Ph) (ack : Int) (n : Nat) (x : PollS) (s : St) (r : Nat) : Prop := x.ack = ack ∧ x.n = n ∧ match x.wh with
  | .look => s.ws = s0.ws ∧ x.own.no = 0 ∧ x.al = 0 ∧ r = 11
  | .alpha => s.ws = s0.ws ∧ x.q = q ∧ q.md = 5 ∧ r = 2
  | .fix i => s.ws = s0.ws ∧ x.q = q ∧ q.md ≠ 5 ∧ x.al = 0 ∧ i < n ∧ r = n - i + 1
  | .tell => s.ws = s0.ws ∧ x.q = q ∧ (x.al = 5 ↔ q.md = 5) ∧ r = 1
  | .done => s.ws = (s0.put ack (IntKind.u64.wrap q.no)).ws ∧ (x.al = 5 ↔ q.md = 5) ∧ r = 0
  | .shade _ _ => False
section
variable {s0 s : St} {q : Ph} {ack : Int} {n r : Nat} {x : PollS}
theorem Wq.ok (h : Wq s0 q ack n x s r) : x.wh.Ok := by
  obtain ⟨_, _, h⟩ := h
  revert h
  cases x.wh <;> intro h <;> first | trivial | exact h.elim
theorem Wq.rank (h : Wq s0 q ack n x s r) (hn : n ≤ 8) : (x.wh.pc = 0 ↔ r = 0) ∧ r ≤ 11 := by
  obtain ⟨_, _, h⟩ := h
  revert h
  cases x.wh <;> intro h
  · exact ⟨⟨fun _ => h.2.2, fun _ => rfl⟩, by have := h.2.2; omega⟩
  · exact ⟨⟨fun h' => by simp [Wh.pc] at h', fun h' => by have := h.2.2.2; omega⟩, by have := h.2.2.2; omega⟩
  · exact h.elim
  · exact ⟨⟨fun h' => by simp [Wh.pc] at h', fun h' => by have := h.2.2.2; omega⟩, by have := h.2.2.2; omega⟩
  · exact ⟨⟨fun h' => by simp [Wh.pc] at h', fun h' => by have := h.2.2.2.2.2; omega⟩, by have := h.2.2.2.2.2; omega⟩
  · exact ⟨⟨fun h' => by simp [Wh.pc] at h', fun h' => by have := h.2.2.2; omega⟩, by have := h.2.2.2; omega⟩
theorem Wq.step (h : Wq s0 q ack n x s r) (hn : n ≤ 8) (nd : x.wh.pc ≠ 0) (hl : s0.ws.length = 160) (hq : Ph.of (s0.got 0) = q) (h0 : q.no ≠ 0) (h2 : q.md ≠ 2) (h9 : s0.got 9 = 5) (ha : In ack) :
    ∃ r', r' < r ∧ Wq s0 q ack n (x.next s) (x.mem s) r' := by
  obtain ⟨xa, xo, xq, xal, xn, l, wh⟩ := x
  obtain ⟨e1, e2, h⟩ := h
  simp only at e1 e2 h
  subst e1 e2
  cases wh with
  | done => exact absurd rfl nd
  | shade i z => exact h.elim
  | look =>
    obtain ⟨hw, ho, hal, rfl⟩ := h
    have hg : Ph.of (s.got 0) = q := by rw [got_ws hw]; exact hq
    have hne : ¬ q.no = xo.no := by rw [ho]; exact h0
    by_cases c2 : q.md = 5
    · exact ⟨2, by omega, rfl, rfl, by simp only [PollS.next, hg, if_neg hne, if_neg h2, if_pos c2]; exact ⟨hw, trivial, c2, trivial⟩⟩
    by_cases c3 : q.md = 8
    · rcases toFix_cases l xn 0 (Nat.zero_le _) with ht | ⟨k, _, hk, ht, _, _⟩
      · exact ⟨1, by omega, rfl, rfl, by simp only [PollS.next, hg, if_neg hne, if_neg h2, if_neg c2, if_pos c3, ht]; exact ⟨hw, trivial, ⟨fun h' => by omega, fun h' => absurd h' c2⟩, trivial⟩⟩
      · exact ⟨xn - k + 1, by omega, rfl, rfl, by simp only [PollS.next, hg, if_neg hne, if_neg h2, if_neg c2, if_pos c3, ht]; exact ⟨hw, trivial, c2, hal, hk, trivial⟩⟩
    · exact ⟨1, by omega, rfl, rfl, by simp only [PollS.next, hg, if_neg hne, if_neg h2, if_neg c2, if_neg c3]; exact ⟨hw, trivial, ⟨fun h' => by omega, fun h' => absurd h' c2⟩, trivial⟩⟩
  | alpha =>
    obtain ⟨hw, hq', h5, rfl⟩ := h
    have hg : IntKind.i64.wrap (s.got 9) = 5 := by rw [got_ws hw, h9]; decide
    exact ⟨1, by omega, rfl, rfl, hw, hq', ⟨fun _ => h5, fun _ => hg⟩, rfl⟩
  | fix i =>
    obtain ⟨hw, hq', h5, hal, hi, rfl⟩ := h
    rcases toFix_cases (lput l i (mvd (s.got (l i)) (l i))) xn (i + 1) (by omega) with ht | ⟨k, hk0, hk, ht, _, _⟩
    · exact ⟨1, by omega, rfl, rfl, by simp only [PollS.next, ht]; exact ⟨hw, hq', ⟨fun h' => by omega, fun h' => absurd h' h5⟩, trivial⟩⟩
    · exact ⟨xn - k + 1, by omega, rfl, rfl, by simp only [PollS.next, ht]; exact ⟨hw, hq', h5, hal, hk, trivial⟩⟩
  | tell =>
    obtain ⟨hw, hq', hb, rfl⟩ := h
    subst hq'
    have hsl : s.ws.length = 160 := by rw [hw]; exact hl
    refine ⟨0, by omega, rfl, rfl, ?_, hb, rfl⟩
    show (s.store xa (IntKind.u64.wrap xq.no)).ws = _
    simp only [St.store, ha.is1 hsl, if_true]
    show (s.put xa _).ws = (s0.put xa _).ws
    simp only [St.put, hw]
end
end Go.Proofs.YtoablodmodnamaaDoor
