/-
  A handshake of three threads, said plainly: what a turn does, and how many turns are wanted.
-/
import Derived.Test.YtoablodmodnamaaDoorKg
namespace Go.Proofs.YtoablodmodnamaaDoor
set_option linter.unusedVariables false
set_option linter.unusedSimpArgs false
set_option maxRecDepth 100000
open Go.ChangeShapes Go.WideShapes Go.RowKit
open S.Plain (t0 t1 tw nx p0 p1 p2 p3 pw)
open H.Plain (hw pS pC pN pM pG pT pL)

def updN {α : Type} (f : Nat → α) (k : Nat) (v : α) : Nat → α := fun j => if j = k then v else f j
theorem updN_at {α : Type} (f : Nat → α) (k : Nat) (v : α) : updN f k v k = v := if_pos rfl
theorem updN_ne {α : Type} (f : Nat → α) {k j : Nat} (v : α) (h : j ≠ k) : updN f k v j = f j := if_neg h
structure Gm (q : Ph) (s : St) : Prop where
  len : s.ws.length = 160
  t : s.t = 0
  ph : s.got 0 = q.w
def no0 : Nat → Int := fun _ => 0
/-- one thread -/
def Th (q : Ph) (s : St) (k : Nat) (own : Ph) (b : Option PollS) (r : Nat) : Prop :=
  match b with
  | none => (own = Ph.zero ∧ r = 3 ∧ s.got (10 + (k : Int)) ≠ 5) ∨ (own = q ∧ r = 0 ∧ s.got (10 + (k : Int)) = 5)
  | some x => own = Ph.zero ∧ s.got (10 + (k : Int)) ≠ 5 ∧ x.q = q ∧ x.ack = 10 + (k : Int) ∧ x.n = 0 ∧ ((x.wh = .alpha ∧ r = 2) ∨ (x.wh = .tell ∧ r = 1))
theorem Th.le {q : Ph} {s : St} {k : Nat} {own : Ph} {b : Option PollS} {r : Nat} (h : Th q s k own b r) : r ≤ 3 := by
  cases b with
  | none => rcases h with ⟨_, h, _⟩ | ⟨_, h, _⟩ <;> omega
  | some x => rcases h with ⟨_, _, _, _, _, ⟨_, h⟩ | ⟨_, h⟩⟩ <;> omega
theorem Th.zero {q : Ph} {s : St} {k : Nat} {own : Ph} {b : Option PollS} (h : Th q s k own b 0) : own = q ∧ s.got (10 + (k : Int)) = 5 := by
  cases b with
  | none =>
    rcases h with ⟨_, h, _⟩ | ⟨h1, _, h2⟩
    · omega
    · exact ⟨h1, h2⟩
  | some x => rcases h with ⟨_, _, _, _, _, ⟨_, h⟩ | ⟨_, h⟩⟩ <;> omega
theorem Th.acked {q : Ph} {s : St} {k : Nat} {own : Ph} {b : Option PollS} {r : Nat} (h : Th q s k own b r) (ha : s.got (10 + (k : Int)) = 5) : own = q := by
  cases b with
  | none =>
    rcases h with ⟨_, _, h⟩ | ⟨h1, _, h2⟩
    · exact absurd ha h
    · exact h1
  | some x => exact absurd ha h.2.1
theorem Th.same {q : Ph} {s s' : St} {k : Nat} {own : Ph} {b : Option PollS} {r : Nat} (h : Th q s k own b r) (e : s'.got (10 + (k : Int)) = s.got (10 + (k : Int))) : Th q s' k own b r := by
  cases b with
  | none => simp only [Th, e] at h ⊢; exact h
  | some x => simp only [Th, e] at h ⊢; exact h
theorem Gm.load {q : Ph} {s : St} (g : Gm q s) {a : Int} (ha : In a) : Gm q (s.load a) := ⟨g.len, by rw [t_load g.len ha]; exact g.t, g.ph⟩
theorem Gm.store {q : Ph} {s : St} (g : Gm q s) {a : Int} (ha : In a) (h0 : a ≠ 0) (v : Int) : Gm q (s.store a v) :=
  ⟨n_store' g.len _ _, by rw [t_store g.len ha]; exact g.t, by rw [In.got (n_store' g.len _ _) In0, word_store g.len ha In0, if_neg h0, ← In.got g.len In0]; exact g.ph⟩
theorem toShade_nil (l : Nat → Int) (m : Int) : toShade l 0 m 0 = .tell := rfl
theorem toFix_nil (l : Nat → Int) : toFix l 0 0 = .tell := rfl
/-- the machine that takes the turn -/
def its (k : Nat) (own : Ph) (b : Option PollS) : PollS := b.getD (PollS.new (10 + (k : Int)) own 0 0 no0)
structure Turn (q : Ph) (s : St) (k : Nat) (own : Ph) (x : PollS) (r : Nat) : Prop where
  ok : x.wh.Ok
  nd : x.wh.pc ≠ 0
  n8 : x.n ≤ 8
  gm : Gm q (x.mem s)
  oth : ∀ j : Nat, j ≠ k → j < 3 → (x.mem s).got (10 + (j : Int)) = s.got (10 + (j : Int))
  out : ∃ r', (r' < r ∨ r' = 0) ∧ r' ≤ 3 ∧ (((x.next s).wh.pc ≠ 0 ∧ Th q (x.mem s) k own (some (x.next s)) r') ∨ ((x.next s).wh.pc = 0 ∧ (x.next s).own = q ∧ Th q (x.mem s) k q none r'))
theorem Th.turn {q : Ph} {s : St} {k : Nat} {own : Ph} {b : Option PollS} {r : Nat} (h : Th q s k own b r) (hk : k < 3) (g : Gm q s) (hq : Ph.of q.w = q) (h5 : q.no = 5) : Turn q s k own (its k own b) r := by
  have I9 : In 9 := ⟨by omega, by omega⟩
  have Ik : In (10 + (k : Int)) := ⟨by omega, by omega⟩
  have hw5 : IntKind.u64.wrap q.no = 5 := by rw [h5]; decide
  cases b with
  | none =>
    have hx : ((PollS.new (10 + (k : Int)) own 0 0 no0).next s).own = own ∧ ((PollS.new (10 + (k : Int)) own 0 0 no0).next s).q = q ∧ ((PollS.new (10 + (k : Int)) own 0 0 no0).next s).ack = 10 + (k : Int) ∧ ((PollS.new (10 + (k : Int)) own 0 0 no0).next s).n = 0 ∧ ((PollS.new (10 + (k : Int)) own 0 0 no0).next s).wh = (if q.no = own.no then .done else if q.md = 2 then .tell else if q.md = 5 then .alpha else if q.md = 8 then .tell else .tell) := by
      have hg : Ph.of (s.got 0) = q := by rw [g.ph, hq]
      refine ⟨rfl, hg, rfl, rfl, ?_⟩
      simp only [PollS.new, PollS.next, hg, toShade_nil, toFix_nil]
    obtain ⟨x1, x2, x3, x4, x5⟩ := hx
    refine ⟨trivial, by show (1 : Nat) ≠ 0; omega, by show 0 ≤ 8; omega, g.load In0, fun j _ _ => rfl, ?_⟩
    show ∃ r', (r' < r ∨ r' = 0) ∧ r' ≤ 3 ∧ ((((PollS.new (10 + (k : Int)) own 0 0 no0).next s).wh.pc ≠ 0 ∧ Th q (s.load 0) k own (some ((PollS.new (10 + (k : Int)) own 0 0 no0).next s)) r') ∨ (((PollS.new (10 + (k : Int)) own 0 0 no0).next s).wh.pc = 0 ∧ ((PollS.new (10 + (k : Int)) own 0 0 no0).next s).own = q ∧ Th q (s.load 0) k q none r'))
    generalize (PollS.new (10 + (k : Int)) own 0 0 no0).next s = x at x1 x2 x3 x4 x5 ⊢
    rcases h with ⟨ho, hr, ha⟩ | ⟨ho, hr, ha⟩
    · have hne : ¬ q.no = own.no := by rw [ho, h5]; show ¬ (5 : Int) = 0; omega
      rw [if_neg hne] at x5
      by_cases c5 : q.md = 5
      · rw [if_neg (by omega), if_pos c5] at x5
        exact ⟨2, by omega, by omega, .inl ⟨by rw [x5]; show (3 : Nat) ≠ 0; omega, ho, ha, x2, x3, x4, .inl ⟨x5, rfl⟩⟩⟩
      · have x6 : x.wh = .tell := by
          rw [x5]
          by_cases c2 : q.md = 2
          · rw [if_pos c2]
          · rw [if_neg c2, if_neg c5]
            split <;> rfl
        exact ⟨1, by omega, by omega, .inl ⟨by rw [x6]; show (5 : Nat) ≠ 0; omega, ho, ha, x2, x3, x4, .inr ⟨x6, rfl⟩⟩⟩
    · rw [if_pos (by rw [ho])] at x5
      exact ⟨0, by omega, by omega, .inr ⟨by rw [x5]; rfl, x1.trans ho, .inr ⟨rfl, rfl, ha⟩⟩⟩
  | some x =>
    obtain ⟨ho, ha, hxq, hxa, hxn, hw⟩ := h
    obtain ⟨xa, xo, xq, xal, xn, xl, wh⟩ := x
    simp only at hxq hxa hxn hw
    subst hxq hxa hxn
    rcases hw with ⟨rfl, rfl⟩ | ⟨rfl, rfl⟩
    · refine ⟨trivial, by show (3 : Nat) ≠ 0; omega, by show 0 ≤ 8; omega, g.load I9, fun j _ _ => rfl, 1, by omega, by omega, .inl ⟨by show (5 : Nat) ≠ 0; omega, ho, ha, rfl, rfl, rfl, .inr ⟨rfl, rfl⟩⟩⟩
    · have hm : (its k own (some ⟨10 + (k : Int), xo, xq, xal, 0, xl, .tell⟩)).mem s = s.store (10 + (k : Int)) 5 := by show s.store (10 + (k : Int)) (IntKind.u64.wrap xq.no) = _; rw [hw5]
      have hl' := n_store' g.len (10 + (k : Int)) 5
      refine ⟨trivial, by show (5 : Nat) ≠ 0; omega, by show 0 ≤ 8; omega, by rw [hm]; exact g.store Ik (by omega) _, fun j hj hj3 => ?_, 0, by omega, by omega, .inr ⟨rfl, rfl, .inr ⟨rfl, rfl, ?_⟩⟩⟩
      · have Ij : In (10 + (j : Int)) := ⟨by omega, by omega⟩
        rw [hm, In.got hl' Ij, word_store g.len Ik Ij, if_neg (by omega), ← In.got g.len Ij]
      · rw [hm, In.got hl' Ik, word_store g.len Ik Ik, if_pos rfl]
/-- the collector's -/
structure Ak (q : Ph) (s : St) (a : AskS) (ra : Nat) : Prop where
  q_ : a.q = q
  N : a.N = 3
  ok : a.Ok
  at_ : (a.pc = 0 ∧ ra = 0 ∧ ∀ j : Nat, j < 3 → s.got (10 + (j : Int)) = 5) ∨ (a.pc = 2 ∧ a.k < 3 ∧ ra = 3 - a.k ∧ ∀ j : Nat, j < a.k → s.got (10 + (j : Int)) = 5)
theorem Ak.le {q : Ph} {s : St} {a : AskS} {ra : Nat} (h : Ak q s a ra) : ra ≤ 3 := by rcases h.at_ with ⟨_, h, _⟩ | ⟨_, _, h, _⟩ <;> omega
theorem Ak.same {q : Ph} {s s' : St} {a : AskS} {ra : Nat} (h : Ak q s a ra) (e : ∀ j : Nat, j < 3 → s.got (10 + (j : Int)) = 5 → s'.got (10 + (j : Int)) = 5) : Ak q s' a ra :=
  ⟨h.q_, h.N, h.ok, h.at_.imp (fun ⟨h1, h2, h3⟩ => ⟨h1, h2, fun j hj => e j hj (h3 j hj)⟩) fun ⟨h1, h2, h3, h4⟩ => ⟨h1, h2, h3, fun j hj => e j (by omega) (h4 j hj)⟩⟩
theorem Ak.turn {q : Ph} {s : St} {a : AskS} {ra : Nat} (h : Ak q s a ra) (g : Gm q s) (h5 : q.no = 5) :
    Gm q (a.mem s) ∧ (∀ i, (a.mem s).got i = s.got i) ∧ ((a.next s).pc = 0 → ∀ j : Nat, j < 3 → s.got (10 + (j : Int)) = 5) ∧ ∃ ra', ra' ≤ ra ∧ Ak q (a.mem s) (a.next s) ra' ∧ ((∀ j : Nat, j < 3 → s.got (10 + (j : Int)) = 5) → ra' < ra ∨ ra' = 0) := by
  have hw5 : IntKind.u64.wrap q.no = 5 := by rw [h5]; decide
  have okn := h.ok.next (s := s)
  obtain ⟨aq, aN, pc, k⟩ := a
  obtain ⟨e1, e2, ok, hat⟩ := h
  simp only at e1 e2 hat
  subst e1 e2
  rcases hat with ⟨rfl, rfl, hall⟩ | ⟨rfl, hk, rfl, hall⟩
  · exact ⟨g, fun _ => rfl, fun _ => hall, 0, Nat.le_refl _, ⟨rfl, rfl, ok, .inl ⟨rfl, rfl, hall⟩⟩, fun _ => .inr rfl⟩
  · have gm : Gm aq ((AskS.mk aq 3 2 k).mem s) := g.load (a := 10 + (k : Int)) ⟨by omega, by omega⟩
    refine ⟨gm, fun _ => rfl, ?_, ?_⟩
    · intro hz
      by_cases hv : s.got (10 + (k : Int)) = IntKind.u64.wrap aq.no
      · by_cases hk3 : k + 1 = 3
        · intro j hj
          by_cases e : j = k
          · rw [e, hv, hw5]
          · exact hall j (by omega)
        · rw [show (AskS.mk aq 3 2 k).next s = ⟨aq, 3, 2, k + 1⟩ by simp only [AskS.next, if_pos hv, if_neg hk3]] at hz
          simp at hz
      · rw [show (AskS.mk aq 3 2 k).next s = ⟨aq, 3, 2, k⟩ by simp only [AskS.next, if_neg hv]] at hz
        simp at hz
    · by_cases hv : s.got (10 + (k : Int)) = IntKind.u64.wrap aq.no
      · have hall' : ∀ j : Nat, j < k + 1 → s.got (10 + (j : Int)) = 5 := fun j hj => by
          by_cases e : j = k
          · rw [e, hv, hw5]
          · exact hall j (by omega)
        by_cases hk3 : k + 1 = 3
        · have hx : (AskS.mk aq 3 2 k).next s = ⟨aq, 3, 0, k + 1⟩ := by simp only [AskS.next, if_pos hv, if_pos hk3]
          rw [hx] at okn ⊢
          exact ⟨0, by omega, ⟨rfl, rfl, okn, .inl ⟨rfl, rfl, fun j hj => hall' j (by omega)⟩⟩, fun _ => .inr rfl⟩
        · have hx : (AskS.mk aq 3 2 k).next s = ⟨aq, 3, 2, k + 1⟩ := by simp only [AskS.next, if_pos hv, if_neg hk3]
          rw [hx] at okn ⊢
          exact ⟨3 - (k + 1), by omega, ⟨rfl, rfl, okn, .inr ⟨rfl, by show k + 1 < 3; omega, rfl, hall'⟩⟩, fun _ => .inl (by omega)⟩
      · have hx : (AskS.mk aq 3 2 k).next s = ⟨aq, 3, 2, k⟩ := by simp only [AskS.next, if_neg hv]
        rw [hx] at okn ⊢
        refine ⟨3 - k, Nat.le_refl _, ⟨rfl, rfl, okn, .inr ⟨rfl, hk, rfl, hall⟩⟩, fun hA => absurd ((hA k (by omega)).trans hw5.symm) hv⟩
/-- how many turns are wanted yet -/
structure Rk (m0 i : Nat) (r : Nat → Nat) (ra : Nat) : Prop where
  r3 : ∀ k, k < 3 → r k ≤ 3
  rt : m0 ≤ i → ∀ k, k < 3 → r k ≤ 3 - ((i + 3 - k) / 4 - (m0 + 3 - k) / 4)
  a3 : ra ≤ 3
  at_ : m0 + 12 ≤ i → ra ≤ 3 - (i / 4 - (m0 + 12) / 4)
theorem Rk.start (m0 : Nat) : Rk m0 0 (fun _ => 3) 3 := by
  refine ⟨fun _ _ => Nat.le_refl _, fun h k hk => ?_, Nat.le_refl _, fun h => by omega⟩
  obtain rfl : m0 = 0 := by omega
  show 3 ≤ 3 - _
  omega
theorem Rk.zero {m0 i ra : Nat} {r : Nat → Nat} (h : Rk m0 i r ra) (hi : m0 + 12 ≤ i) : ∀ k, k < 3 → r k = 0 := fun k hk => by have := h.rt (by omega) k hk; omega
theorem Rk.last {m0 ra : Nat} {r : Nat → Nat} (h : Rk m0 (m0 + 40) r ra) : ra = 0 := by have := h.at_ (by omega); omega
theorem Rk.poll {m0 i ra r' k : Nat} {r : Nat → Nat} (h : Rk m0 i r ra) (hk : k < 3) (hki : m0 ≤ i → k = i % 4) (hr : r' < r k ∨ r' = 0) (hr3 : r' ≤ 3) : Rk m0 (i + 1) (updN r k r') ra := by
  refine ⟨fun j hj => ?_, fun hi j hj => ?_, h.a3, fun hi => ?_⟩
  · by_cases e : j = k
    · subst e; rw [updN_at]; exact hr3
    · rw [updN_ne _ _ e]; exact h.r3 j hj
  · by_cases e : j = k
    · subst e
      rw [updN_at]
      rcases Nat.lt_or_ge i m0 with hm | hm
      · have : i + 1 = m0 := by omega
        subst this; omega
      · have h1 := h.rt hm j hj
        have h2 := hki hm
        omega
    · rw [updN_ne _ _ e]
      rcases Nat.lt_or_ge i m0 with hm | hm
      · have : i + 1 = m0 := by omega
        subst this
        have := h.r3 j hj
        omega
      · have h1 := h.rt hm j hj
        have h2 := hki hm
        omega
  · rcases Nat.lt_or_ge i (m0 + 12) with hm | hm
    · have := h.a3
      have : i + 1 = m0 + 12 := by omega
      rw [this]; omega
    · have h1 := h.at_ hm
      have h2 := hki (by omega)
      omega
theorem Rk.ask {m0 i ra ra' : Nat} {r : Nat → Nat} (h : Rk m0 i r ra) (hki : m0 ≤ i → i % 4 = 3) (hle : ra' ≤ ra) (hr : (∀ k, k < 3 → r k = 0) → ra' < ra ∨ ra' = 0) : Rk m0 (i + 1) r ra' := by
  refine ⟨h.r3, fun hi j hj => ?_, by have := h.a3; omega, fun hi => ?_⟩
  · rcases Nat.lt_or_ge i m0 with hm | hm
    · have : i + 1 = m0 := by omega
      subst this
      have := h.r3 j hj
      omega
    · have h1 := h.rt hm j hj
      have h2 := hki hm
      omega
  · rcases Nat.lt_or_ge i (m0 + 12) with hm | hm
    · have := h.a3
      have : i + 1 = m0 + 12 := by omega
      rw [this]; omega
    · have h1 := h.at_ hm
      have h2 := hki (by omega)
      have h3 := hr (h.zero hm)
      omega
end Go.Proofs.YtoablodmodnamaaDoor
