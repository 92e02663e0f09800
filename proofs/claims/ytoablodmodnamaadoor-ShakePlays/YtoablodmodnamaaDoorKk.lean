/-
  Three threads' Polls, and the phases in which they work, in a law's rows.
-/
import Derived.Test.YtoablodmodnamaaDoorKa
namespace Go.Proofs.YtoablodmodnamaaDoor
set_option linter.unusedVariables false
set_option linter.unusedSimpArgs false
set_option maxRecDepth 100000
open Go.ChangeShapes Go.WideShapes Go.RowKit

theorem k3 {k : Nat} (h : k < 3) : k = 0 ∨ k = 1 ∨ k = 2 := by omega
def own3 (ow : Nat → Ph) : Array Value := #[.int .i64 (ow 0).no, .int .i64 (ow 0).md, .int .i64 (ow 0).mr, .int .i64 (ow 0).ls, .int .i64 (ow 1).no, .int .i64 (ow 1).md, .int .i64 (ow 1).mr, .int .i64 (ow 1).ls, .int .i64 (ow 2).no, .int .i64 (ow 2).md, .int .i64 (ow 2).mr, .int .i64 (ow 2).ls]
theorem own3_get (ow : Nat → Ph) {k : Nat} (h : k < 3) : (own3 ow)[k * 4]? = some (.int .i64 (ow k).no) ∧ (own3 ow)[k * 4 + 1]? = some (.int .i64 (ow k).md) ∧ (own3 ow)[k * 4 + 2]? = some (.int .i64 (ow k).mr) ∧ (own3 ow)[k * 4 + 3]? = some (.int .i64 (ow k).ls) := by
  rcases k3 h with rfl | rfl | rfl <;> exact ⟨rfl, rfl, rfl, rfl⟩
theorem own3_set (ow : Nat → Ph) {k : Nat} (h : k < 3) (q : Ph) : ((((own3 ow).setIfInBounds (k * 4) (.int .i64 q.no)).setIfInBounds (k * 4 + 1) (.int .i64 q.md)).setIfInBounds (k * 4 + 2) (.int .i64 q.mr)).setIfInBounds (k * 4 + 3) (.int .i64 q.ls) = own3 (updN ow k q) := by
  rcases k3 h with rfl | rfl | rfl <;> rfl
def arr3 (f : Nat → Value) : Array Value := #[f 0, f 1, f 2]
theorem arr3_set (f : Nat → Value) {k : Nat} (h : k < 3) (v : Value) : (arr3 f).setIfInBounds k v = arr3 (updN f k v) := by
  rcases k3 h with rfl | rfl | rfl <;> rfl
theorem arr3_get (f : Nat → Value) {k : Nat} (h : k < 3) : (arr3 f)[k]? = some (f k) := by
  rcases k3 h with rfl | rfl | rfl <;> rfl
structure Al (w0 w : World) (mb y N : Nat) (s S : St) (qp qq za qo qa : Nat) (q : Ph) (a : AskS) (ow : Nat → Ph) (pa : Nat → Value) (bs : Nat → Option PollS) : Prop extends Lw false w0 w mb y N s S qp qq za q a where
  bo : Blk w0 w qo 38 (own3 ow)
  ba : Blk w0 w qa 46 (arr3 pa)
  it : ∀ k, k < 3 → (pa k = .pointer none ∧ bs k = none) ∨ ∃ p x, pa k = pt p ∧ bs k = some x ∧ PM w0 w p x
  apart : ∀ j k p, j < 3 → k < 3 → j ≠ k → pa j = pt p → pa k ≠ pt p
section
variable {w0 w w' : World} {mb y N : Nat} {s S : St} {qp qq za qo qa : Nat} {q : Ph} {a : AskS} {ow : Nat → Ph} {pa : Nat → Value} {bs : Nat → Option PollS} {k p z : Nat} {x : PollS} {F : List Nat}
theorem Al.below (h : Al w0 w mb y N s S qp qq za qo qa q a ow pa bs) (hb : Below w.heap.size w w') : Al w0 w' mb y N s S qp qq za qo qa q a ow pa bs :=
  ⟨h.toLw.below hb, h.bo.below hb, h.ba.below hb, fun k hk => (h.it k hk).imp id fun ⟨p, x, e1, e2, m⟩ => ⟨p, x, e1, e2, m.below hb⟩, h.apart⟩
theorem Al.mono (h : Al w0 w mb y N s S qp qq za qo qa q a ow pa bs) {N' : Nat} (hN : N ≤ N') : Al w0 w mb y N' s S qp qq za qo qa q a ow pa bs := ⟨h.toLw.mono hN, h.bo, h.ba, h.it, h.apart⟩
theorem Al.either (h : Al w0 w mb y N s S qp qq za qo qa q a ow pa bs) (hk : k < 3) : (pa k = .pointer none ∧ bs k = none) ∨ ∃ p x, pa k = pt p ∧ bs k = some x ∧ PM w0 w p x := h.it k hk
theorem Al.ca (h : Al w0 w mb y N s S qp qq za qo qa q a ow pa bs) (hk : k < 3) {v : Value} (e : pa k = v) : w.cell? ⟨qa, k, none⟩ = some v := (h.ba.cell k).trans (by rw [arr3_get _ hk, e])
theorem Al.co (h : Al w0 w mb y N s S qp qq za qo qa q a ow pa bs) (hk : k < 3) {o : Ph} (e : ow k = o) : w.cell? ⟨qo, k * 4, none⟩ = some (.int .i64 o.no) ∧ w.cell? ⟨qo, k * 4 + 1, none⟩ = some (.int .i64 o.md) ∧ w.cell? ⟨qo, k * 4 + 2, none⟩ = some (.int .i64 o.mr) ∧ w.cell? ⟨qo, k * 4 + 3, none⟩ = some (.int .i64 o.ls) := by
  obtain ⟨h1, h2, h3, h4⟩ := own3_get ow hk
  subst e
  exact ⟨(h.bo.cell _).trans h1, (h.bo.cell _).trans h2, (h.bo.cell _).trans h3, (h.bo.cell _).trans h4⟩
theorem alAsk (h : Al w0 w mb y N s S qp qq za qo qa q a ow pa bs) (ok : a.Ok) (h3 : a.N = 3) (hN : N < 1000000) :
    Calls Tryd.prog 13 #[pt za, pt mb] w fun e w' => e = .returned (.bool ((a.next s).pc == 0)) ∧ Al w0 w' mb y (N + 1) (a.mem s) S qp qq za qo qa q (a.next s) ow pa bs := by
  refine (lwAsk h.toLw ok h3 hN).mono ?_
  rintro e w' ⟨rfl, L, o⟩
  exact ⟨rfl, L, h.bo.oth o (by simpa using h.bo.ne h.ask (by decide)), h.ba.oth o (by simpa using h.ba.ne h.ask (by decide)), fun k hk => (h.it k hk).imp id fun ⟨p, x, e1, e2, m⟩ => ⟨p, x, e1, e2, m.oth o (by simpa using m.ne h.ask (by decide))⟩, h.apart⟩
theorem alPoll (h : Al w0 w mb y N s S qp qq za qo qa q a ow pa bs) (hk : k < 3) (hp : pa k = pt p) (hb : bs k = some x) (ok : x.wh.Ok) (nd : x.wh.pc ≠ 0) (n8 : x.n ≤ 8) (hN : N < 1000000) :
    Calls Tryd.prog 17 #[pt p, pt mb] w fun e w' => e = .returned (.bool ((x.next s).wh.pc == 0)) ∧ Al w0 w' mb y (N + 1) (x.mem s) S qp qq za qo qa q a ow pa (updN bs k (some (x.next s))) ∧ PM w0 w' p (x.next s) := by
  rcases h.it k hk with ⟨e, _⟩ | ⟨p', x', e1, e2, m⟩
  · rw [hp] at e
    simp at e
  rw [hp] at e1
  simp at e1
  subst e1
  rw [hb] at e2
  obtain rfl := Option.some.inj e2
  refine (lwPoll h.toLw m ok nd n8 hN).mono ?_
  rintro e w' ⟨rfl, L, m1, o⟩
  refine ⟨rfl, ⟨L, h.bo.oth o (by have := m.ne h.bo (by decide); simpa using Ne.symm this), h.ba.oth o (by have := m.ne h.ba (by decide); simpa using Ne.symm this), fun j hj => ?_, h.apart⟩, m1⟩
  by_cases ej : j = k
  · subst ej
    exact .inr ⟨p, _, hp, updN_at _ _ _, m1⟩
  · rw [updN_ne _ _ ej]
    rcases h.it j hj with h' | ⟨p', x', e1, e2, m'⟩
    · exact .inl h'
    · have hne : p' ≠ p := fun e => h.apart k j p hk hj (Ne.symm ej) hp (e ▸ e1)
      exact .inr ⟨p', x', e1, e2, m'.oth o (by simpa using hne)⟩
/-- a Poll is begun -/
theorem Al.born (h : Al w0 w mb y N s S qp qq za qo qa q a ow pa bs) (hk : k < 3) (hb : Below w.heap.size w w') (m : PM w0 w' z x) (hz : w.heap.size ≤ z) : Al w0 (w'.setCell ⟨qa, k, none⟩ (pt z)) mb y N s S qp qq za qo qa q a ow (updN pa k (pt z)) (updN bs k (some x)) := by
  have h1 := h.below hb
  have o : Oth [qa] w' (w'.setCell ⟨qa, k, none⟩ (pt z)) := Oth.set _ _ _ _ (by simp)
  refine ⟨h1.toLw.moved (h1.two.set h1.ba k _) o (by simpa using ⟨h1.ba.ne h1.bp (by decide), h1.ba.ne h1.bq (by decide), h1.ba.ne h1.ask (by decide)⟩), h1.bo.oth o (by simpa using h1.bo.ne h1.ba (by decide)), arr3_set pa hk _ ▸ h1.ba.set k _, fun j hj => ?_, fun i j p' hi hj hij e1 e2 => ?_⟩
  · by_cases ej : j = k
    · subst ej
      exact .inr ⟨z, x, updN_at _ _ _, updN_at _ _ _, m.oth o (by simpa using m.ne h1.ba (by decide))⟩
    · rw [updN_ne _ _ ej, updN_ne _ _ ej]
      exact (h1.it j hj).imp id fun ⟨p', x', e1, e2, m'⟩ => ⟨p', x', e1, e2, m'.oth o (by simpa using m'.ne h1.ba (by decide))⟩
  · have old : ∀ i, i < 3 → pa i = pt p' → p' < w.heap.size := fun i hi e => by
      rcases h.it i hi with ⟨h', _⟩ | ⟨p2, x', e1, _, m'⟩
      · rw [h'] at e; simp at e
      · rw [e1] at e
        simp at e
        subst e
        exact m'.lt
    by_cases ei : i = k
    · subst ei
      rw [updN_at] at e1
      simp at e1
      subst e1
      rw [updN_ne _ _ (Ne.symm hij)] at e2
      have := old j hj e2
      omega
    · rw [updN_ne _ _ ei] at e1
      by_cases ej : j = k
      · subst ej
        rw [updN_at] at e2
        simp at e2
        subst e2
        have := old i hi e1
        omega
      · rw [updN_ne _ _ ej] at e2
        exact h.apart i j p' hi hj hij e1 e2
theorem Al.owned (h : Al w0 w mb y N s S qp qq za qo qa q a ow pa bs) (hk : k < 3) (o : Ph) : Al w0 ((((w.setCell ⟨qo, k * 4, none⟩ (.int .i64 o.no)).setCell ⟨qo, k * 4 + 1, none⟩ (.int .i64 o.md)).setCell ⟨qo, k * 4 + 2, none⟩ (.int .i64 o.mr)).setCell ⟨qo, k * 4 + 3, none⟩ (.int .i64 o.ls)) mb y N s S qp qq za qo qa q a (updN ow k o) pa bs := by
  have ot : Oth [qo] w ((((w.setCell ⟨qo, k * 4, none⟩ (.int .i64 o.no)).setCell ⟨qo, k * 4 + 1, none⟩ (.int .i64 o.md)).setCell ⟨qo, k * 4 + 2, none⟩ (.int .i64 o.mr)).setCell ⟨qo, k * 4 + 3, none⟩ (.int .i64 o.ls)) := (((Oth.set w qo (k * 4) _ (by simp)).trans (Oth.set _ qo (k * 4 + 1) _ (by simp))).trans (Oth.set _ qo (k * 4 + 2) _ (by simp))).trans (Oth.set _ qo (k * 4 + 3) _ (by simp))
  have B1 := h.bo.set (k * 4) (.int .i64 o.no)
  have B2 := B1.set (k * 4 + 1) (.int .i64 o.md)
  have B3 := B2.set (k * 4 + 2) (.int .i64 o.mr)
  have B4 := B3.set (k * 4 + 3) (.int .i64 o.ls)
  have T1 := h.two.set h.bo (k * 4) (.int .i64 o.no)
  have T2 := T1.set B1 (k * 4 + 1) (.int .i64 o.md)
  have T3 := T2.set B2 (k * 4 + 2) (.int .i64 o.mr)
  have T4 := T3.set B3 (k * 4 + 3) (.int .i64 o.ls)
  rw [own3_set ow hk o] at B4
  exact ⟨h.toLw.moved T4 ot (by simpa using ⟨h.bo.ne h.bp (by decide), h.bo.ne h.bq (by decide), h.bo.ne h.ask (by decide)⟩), B4, h.ba.oth ot (by simpa using h.ba.ne h.bo (by decide)), fun j hj => (h.it j hj).imp id fun ⟨p', x', e1, e2, m'⟩ => ⟨p', x', e1, e2, m'.oth ot (by simpa using m'.ne h.bo (by decide))⟩, h.apart⟩
theorem Al.off (h : Al w0 w mb y N s S qp qq za qo qa q a ow pa bs) (hk : k < 3) : Al w0 (w.setCell ⟨qa, k, none⟩ (.pointer none)) mb y N s S qp qq za qo qa q a ow (updN pa k (.pointer none)) (updN bs k none) := by
  have o : Oth [qa] w (w.setCell ⟨qa, k, none⟩ (.pointer none)) := Oth.set _ _ _ _ (by simp)
  refine ⟨h.toLw.moved (h.two.set h.ba k _) o (by simpa using ⟨h.ba.ne h.bp (by decide), h.ba.ne h.bq (by decide), h.ba.ne h.ask (by decide)⟩), h.bo.oth o (by simpa using h.bo.ne h.ba (by decide)), arr3_set pa hk _ ▸ h.ba.set k _, fun j hj => ?_, fun i j p' hi hj hij e1 e2 => ?_⟩
  · by_cases ej : j = k
    · subst ej
      exact .inl ⟨updN_at _ _ _, updN_at _ _ _⟩
    · rw [updN_ne _ _ ej, updN_ne _ _ ej]
      exact (h.it j hj).imp id fun ⟨p', x', e1, e2, m'⟩ => ⟨p', x', e1, e2, m'.oth o (by simpa using m'.ne h.ba (by decide))⟩
  · by_cases ei : i = k
    · subst ei
      rw [updN_at] at e1
      simp at e1
    · rw [updN_ne _ _ ei] at e1
      by_cases ej : j = k
      · subst ej
        rw [updN_at] at e2
        simp at e2
      · rw [updN_ne _ _ ej] at e2
        exact h.apart i j p' hi hj hij e1 e2
end
end Go.Proofs.YtoablodmodnamaaDoor
