/-
  A Poll alone that lets roots follow, or shades them, said plainly.
-/
import Derived.Test.YtoablodmodnamaaDoorKz
namespace Go.Proofs.YtoablodmodnamaaDoor
set_option linter.unusedVariables false
set_option linter.unusedSimpArgs false
set_option maxRecDepth 100000
open Go.ChangeShapes Go.WideShapes Go.RowKit
open S.Plain (t0 t1 tw nx p0 p1 p2 p3 pw)
open H.Plain (hw pS pC pN pM pG pT pL)

/-! ### roots follow -/
def want (s0 : St) (l : Nat → Int) (j : Nat) : Int := if l j = 0 then 0 else mvd (s0.got (l j)) (l j)
def Wf (s0 : St) (q : Ph) (n : Nat) (l : Nat → Int) (x : PollS) (s : St) (r : Nat) : Prop := s.ws.length = 160 ∧ x.n = n ∧ match x.wh with
  | .look => s.ws = s0.ws ∧ x.own.no = 0 ∧ x.l = l ∧ r = 42
  | .fix i => s.ws = s0.ws ∧ x.q = q ∧ i < n ∧ l i ≠ 0 ∧ (∀ j, j < i → x.l j = want s0 l j) ∧ (∀ j, i ≤ j → x.l j = l j) ∧ r = n - i + 1
  | .tell => x.q = q ∧ (∀ j, j < n → x.l j = want s0 l j) ∧ r = 1
  | .done => x.own = q ∧ (∀ j, j < n → x.l j = want s0 l j) ∧ r = 0
  | _ => False
section
variable {s0 s : St} {q : Ph} {n r : Nat} {l : Nat → Int} {x : PollS}
theorem Wf.ok (h : Wf s0 q n l x s r) : x.wh.Ok := by
  obtain ⟨_, _, h⟩ := h
  revert h
  cases x.wh <;> intro h <;> first | trivial | exact h.elim
theorem Wf.rank (h : Wf s0 q n l x s r) (hn : n ≤ 8) : (x.wh.pc = 0 ↔ r = 0) ∧ r ≤ 42 := by
  obtain ⟨_, _, h⟩ := h
  revert h
  cases x.wh <;> intro h
  · exact ⟨⟨fun _ => h.2.2, fun _ => rfl⟩, by have := h.2.2; omega⟩
  · exact ⟨⟨fun h' => by simp [Wh.pc] at h', fun h' => by have := h.2.2.2; omega⟩, by have := h.2.2.2; omega⟩
  · exact h.elim
  · exact h.elim
  · exact ⟨⟨fun h' => by simp [Wh.pc] at h', fun h' => by have := h.2.2.2.2.2.2; omega⟩, by have := h.2.2.2.2.2.2; omega⟩
  · exact ⟨⟨fun h' => by simp [Wh.pc] at h', fun h' => by have := h.2.2; omega⟩, by have := h.2.2; omega⟩
theorem fix_on {l' : Nat → Int} {i : Nat} (hi : i ≤ n) (h1 : ∀ j, j < i → l' j = want s0 l j) (h2 : ∀ j, i ≤ j → l' j = l j) :
    (toFix l' n i = .tell ∧ ∀ j, j < n → l' j = want s0 l j) ∨ ∃ k, i ≤ k ∧ k < n ∧ toFix l' n i = .fix k ∧ l k ≠ 0 ∧ (∀ j, j < k → l' j = want s0 l j) ∧ ∀ j, k ≤ j → l' j = l j := by
  obtain ⟨a1, a2, a3, a4⟩ := seek_le l' n (n - i) i (Nat.le_refl _) hi
  have zero : ∀ j, i ≤ j → j < seek l' n (n - i) i → l' j = want s0 l j := fun j h h' => by
    have e := a3 j h h'
    rw [e]
    rw [h2 j h] at e
    rw [want, if_pos e]
  have all : ∀ j, j < seek l' n (n - i) i → l' j = want s0 l j := fun j h => by
    rcases Nat.lt_or_ge j i with hj | hj
    · exact h1 j hj
    · exact zero j hj h
  by_cases hk : seek l' n (n - i) i < n
  · exact .inr ⟨_, a1, hk, if_neg (by omega), by rw [← h2 _ a1]; exact a4 hk, all, fun j hj => h2 j (by omega)⟩
  · exact .inl ⟨if_pos (by omega), fun j hj => all j (by omega)⟩
theorem Wf.step (h : Wf s0 q n l x s r) (hn : n ≤ 8) (nd : x.wh.pc ≠ 0) (hq : Ph.of (s0.got 0) = q) (h0 : q.no ≠ 0) (h8 : q.md = 8) :
    ∃ r', r' < r ∧ Wf s0 q n l (x.next s) (x.mem s) r' := by
  obtain ⟨xa, xo, xq, xal, xn, xl, wh⟩ := x
  obtain ⟨hl, e2, h⟩ := h
  simp only at e2 h
  subst e2
  cases wh with
  | done => exact absurd rfl nd
  | shade i z => exact h.elim
  | alpha => exact h.elim
  | look =>
    obtain ⟨hw, ho, hxl, rfl⟩ := h
    subst hxl
    have hg : Ph.of (s.got 0) = q := by rw [got_ws hw]; exact hq
    have hne : ¬ q.no = xo.no := by rw [ho]; exact h0
    have hx : (PollS.mk xa xo xq xal xn xl .look).next s = PollS.mk xa xo q xal xn xl (toFix xl xn 0) := by
      simp only [PollS.next, hg, if_neg hne, if_neg (show ¬ q.md = 2 by omega), if_neg (show ¬ q.md = 5 by omega), if_pos h8]
    rw [hx]
    rcases fix_on (s0 := s0) (l := xl) (l' := xl) (Nat.zero_le xn) (fun j h => by omega) (fun j _ => rfl) with ⟨ht, hall⟩ | ⟨k, _, hk, ht, hk0, ha, hb⟩
    · exact ⟨1, by omega, hl, rfl, by rw [ht]; exact ⟨rfl, hall, rfl⟩⟩
    · exact ⟨xn - k + 1, by omega, hl, rfl, by rw [ht]; exact ⟨hw, rfl, hk, hk0, ha, hb, rfl⟩⟩
  | fix i =>
    obtain ⟨hw, hq', hi, hi0, ha, hb, rfl⟩ := h
    have hx : (PollS.mk xa xo xq xal xn xl (.fix i)).next s = PollS.mk xa xo xq xal xn (lput xl i (mvd (s.got (xl i)) (xl i))) (toFix (lput xl i (mvd (s.got (xl i)) (xl i))) xn (i + 1)) := rfl
    rw [hx]
    have e1 : ∀ j, j < i + 1 → lput xl i (mvd (s.got (xl i)) (xl i)) j = want s0 l j := fun j hj => by
      unfold lput
      by_cases e : j = i
      · subst e
        rw [if_pos rfl, hb j (Nat.le_refl _), want, if_neg hi0, got_ws hw]
      · rw [if_neg e]; exact ha j (by omega)
    have e2 : ∀ j, i + 1 ≤ j → lput xl i (mvd (s.got (xl i)) (xl i)) j = l j := fun j hj => by
      unfold lput
      rw [if_neg (by omega)]; exact hb j (by omega)
    rcases fix_on (n := xn) (by omega) e1 e2 with ⟨ht, hall⟩ | ⟨k, hik, hk, ht, hk0, ha', hb'⟩
    · exact ⟨1, by omega, hl, rfl, by rw [ht]; exact ⟨hq', hall, rfl⟩⟩
    · exact ⟨xn - k + 1, by omega, hl, rfl, by rw [ht]; exact ⟨hw, hq', hk, hk0, ha', hb', rfl⟩⟩
  | tell =>
    obtain ⟨hq', hall, rfl⟩ := h
    exact ⟨0, by omega, n_store' hl _ _, rfl, hq', hall, rfl⟩
end
/-! ### roots are shaded -/
def Obj (a : Int) : Prop := ∃ k : Nat, k < 16 ∧ a = 96 + 4 * (k : Int)
theorem Obj.in {a : Int} (h : Obj a) : In a := by obtain ⟨k, hk, rfl⟩ := h; exact ⟨by omega, by omega⟩
theorem Obj.ge {a : Int} (h : Obj a) : 96 ≤ a := by obtain ⟨k, hk, rfl⟩ := h; omega
structure Good (s : St) : Prop where
  len : s.ws.length = 160
  S : ∀ a, Obj a → pS (s.word a) = 1
def M1 (s : St) (a : Int) : Prop := pM (s.word a) = 1
structure HdB (h : Hd) : Prop where
  b : (0 ≤ h.S ∧ h.S < 4) ∧ (0 ≤ h.C ∧ h.C < 4) ∧ (0 ≤ h.N ∧ h.N < 8) ∧ (0 ≤ h.M ∧ h.M < 2) ∧ (0 ≤ h.G ∧ h.G < 2) ∧ (0 ≤ h.T ∧ h.T < 8) ∧ (0 ≤ h.L ∧ h.L < 4096)
theorem HdB.of (v : Int) : HdB (Hd.of v) := ⟨Hd.of_bounds v⟩
theorem HdB.shade {h : Hd} (b : HdB h) : HdB (h.shade 1) := by
  obtain ⟨h1, h2, h3, h4, h5, h6, h7⟩ := b.b
  exact ⟨h1, h2, h3, ⟨by show (0 : Int) ≤ 1; omega, by show (1 : Int) < 2; omega⟩, ⟨by show (0 : Int) ≤ 1; omega, by show (1 : Int) < 2; omega⟩, h6, ⟨by show (0 : Int) ≤ 0; omega, by show (0 : Int) < 4096; omega⟩⟩
theorem HdB.link {h : Hd} (b : HdB h) (a : Int) : HdB (h.link (t0 a)) := by
  obtain ⟨h1, h2, h3, h4, h5, h6, h7⟩ := b.b
  refine ⟨h1, h2, h3, h4, h5, h6, ?_⟩
  show 0 ≤ t0 a ∧ t0 a < 4096
  unfold S.Plain.t0
  omega
theorem HdB.back {h : Hd} (b : HdB h) : pS h.w = h.S ∧ pM h.w = h.M := by
  obtain ⟨h1, h2, h3, h4, h5, h6, h7⟩ := b.b
  have e := Hd.of_w h h1 h2 h3 h4 h5 h6 h7
  exact ⟨congrArg Hd.S e, congrArg Hd.M e⟩
/-- a Shade on its way -/
structure Sh (s : St) (a : Int) (y : ShadeS) : Prop where
  cell : y.cell = a
  mark : y.mark = 1
  pc : 1 ≤ y.pc ∧ y.pc ≤ 5
  u : y.Ok
  two : 2 ≤ y.pc → HdB y.h ∧ y.h.S = 1 ∧ y.h.M = 1
  found : y.pc = 2 → y.found = s.word a
  list : 4 ≤ y.pc → y.list = s.word 1
  m1 : 3 ≤ y.pc → M1 s a
/-- what a step leaves -/
structure Lf (s s' : St) : Prop where
  good : Good s'
  m : ∀ a, Obj a → M1 s a → M1 s' a
section
variable {s : St} {a : Int} {y : ShadeS}
theorem Lf.words {s' : St} (g : Good s) (hl : s'.ws.length = 160) (hw : ∀ b, Obj b → s'.word b = s.word b) : Lf s s' := ⟨⟨hl, fun b hb => by rw [hw b hb]; exact g.S b hb⟩, fun b hb h => by unfold M1; rw [hw b hb]; exact h⟩
theorem Lf.one {s' : St} {h : Hd} (g : Good s) (hl : s'.ws.length = 160) (b : HdB h) (hS : h.S = 1) (hM : h.M = 1) (hw : ∀ b, Obj b → s'.word b = if a = b then h.w else s.word b) : Lf s s' :=
  ⟨⟨hl, fun c hc => by rw [hw c hc]; split; exact b.back.1.trans hS; exact g.S c hc⟩, fun c hc h' => by unfold M1; rw [hw c hc]; split; exact b.back.2.trans hM; exact h'⟩
theorem Sh.step (g : Good s) (r : s.Rng) (ha : Obj a) (h : Sh s a y) : Lf s (y.mem s) ∧ (((y.next s).pc = 0 ∧ M1 (y.mem s) a) ∨ (Sh (y.mem s) a (y.next s) ∧ (y.next s).pc = y.pc + 1)) := by
  have I := ha.in
  have I1 := In1
  have a96 := ha.ge
  have hl := g.len
  obtain ⟨c, m, pc, z, hd, li⟩ := y
  obtain ⟨e1, e2, hpc, ok, two, fnd, lst, m1⟩ := h
  simp only at e1 e2 hpc two fnd lst m1
  subst e1 e2
  have okn := ok.next r
  rcases (show pc = 1 ∨ pc = 2 ∨ pc = 3 ∨ pc = 4 ∨ pc = 5 by omega) with rfl | rfl | rfl | rfl | rfl
  · refine ⟨Lf.words g hl (fun b _ => rfl), ?_⟩
    by_cases hs : skips (s.got c) 1
    · left
      simp only [ShadeS.next, if_pos hs]
      refine ⟨trivial, ?_⟩
      rw [I.got hl] at hs
      rcases hs with hs | hs
      · exact absurd (g.S c ha) hs
      · exact hs
    · right
      simp only [ShadeS.next, if_neg hs] at okn ⊢
      exact ⟨⟨rfl, rfl, ⟨by show 1 ≤ 2; omega, by show 2 ≤ 5; omega⟩, okn, fun _ => ⟨(HdB.of _).shade, by show pS (s.got c) = 1; rw [I.got hl]; exact g.S c ha, rfl⟩, fun _ => I.got hl, fun h => by simp at h, fun h => by simp at h⟩, trivial⟩
  · obtain ⟨b, hS, hM⟩ := two (by omega)
    have hz := fnd rfl
    have hok : s.ok1 c z = true := by rw [ok1_iff hl I, hz]; simp
    have hw : ∀ d, Obj d → ((ShadeS.mk c 1 2 z hd li).mem s).word d = if c = d then hd.w else s.word d := fun d hd' => word_cas_ok hl I hd'.in hz.symm
    refine ⟨Lf.one g (n_cas' hl _ _ _) b hS hM hw, .inr ?_⟩
    simp only [ShadeS.next, hok, if_true] at okn ⊢
    exact ⟨⟨rfl, rfl, ⟨by show 1 ≤ 3; omega, by show 3 ≤ 5; omega⟩, okn, fun _ => ⟨b, hS, hM⟩, fun h => by simp at h, fun h => by simp at h, fun _ => by unfold M1; rw [hw c ha, if_pos rfl]; exact b.back.2.trans hM⟩, trivial⟩
  · obtain ⟨b, hS, hM⟩ := two (by omega)
    refine ⟨Lf.words g hl (fun b _ => rfl), .inr ?_⟩
    simp only [ShadeS.next] at okn ⊢
    exact ⟨⟨rfl, rfl, ⟨by show 1 ≤ 4; omega, by show 4 ≤ 5; omega⟩, okn, fun _ => ⟨b, hS, hM⟩, fun h => by simp at h, fun _ => I1.got hl, fun _ => m1 (by omega)⟩, trivial⟩
  · obtain ⟨b, hS, hM⟩ := two (by omega)
    have hli := lst (by omega)
    have hw : ∀ d, In d → ((ShadeS.mk c 1 4 z hd li).mem s).word d = if c = d then (hd.link (t0 li)).w else s.word d := fun d hd' => word_store hl I hd'
    refine ⟨Lf.one g (n_store' hl _ _) (b.link li) hS hM (fun d hd' => hw d hd'.in), .inr ?_⟩
    simp only [ShadeS.next] at okn ⊢
    exact ⟨⟨rfl, rfl, ⟨by show 1 ≤ 5; omega, by show 5 ≤ 5; omega⟩, okn, fun _ => ⟨b.link li, hS, hM⟩, fun h => by simp at h, fun _ => by rw [hw 1 I1, if_neg (by omega)]; exact hli, fun _ => by unfold M1; rw [hw c I, if_pos rfl]; exact (b.link li).back.2.trans hM⟩, trivial⟩
  · have hli := lst (by omega)
    have hok : s.ok1 1 li = true := by rw [ok1_iff hl I1, hli]; simp
    have hw : ∀ d, Obj d → ((ShadeS.mk c 1 5 z hd li).mem s).word d = s.word d := fun d hd' => by
      have := hd'.ge
      rw [show (ShadeS.mk c 1 5 z hd li).mem s = s.cas 1 li (nx li c) from rfl, word_cas_ok hl I1 hd'.in hli.symm, if_neg (by omega)]
    have lf := Lf.words (s' := (ShadeS.mk c 1 5 z hd li).mem s) g (n_cas' hl _ _ _) hw
    refine ⟨lf, .inl ?_⟩
    simp only [ShadeS.next, hok, if_true]
    exact ⟨trivial, lf.m c ha (m1 (by omega))⟩
end
def Wr (s0 : St) (q : Ph) (n : Nat) (l : Nat → Int) (x : PollS) (s : St) (r : Nat) : Prop := Good s ∧ s.Rng ∧ x.n = n ∧ x.l = l ∧ x.ack = 10 ∧ match x.wh with
  | .look => s.got 0 = s0.got 0 ∧ x.own.no = 0 ∧ r = 42
  | .shade i y => x.q = q ∧ i < n ∧ l i ≠ 0 ∧ (∀ j, j < i → l j ≠ 0 → M1 s (l j)) ∧ Sh s (l i) y ∧ r = 1 + 5 * (n - i - 1) + (6 - y.pc)
  | .tell => x.q = q ∧ (∀ j, j < n → l j ≠ 0 → M1 s (l j)) ∧ r = 1
  | .done => x.own = q ∧ (∀ j, j < n → l j ≠ 0 → M1 s (l j)) ∧ r = 0
  | _ => False
section
variable {s0 s : St} {q : Ph} {n r : Nat} {l : Nat → Int} {x : PollS}
theorem Wr.ok (h : Wr s0 q n l x s r) : x.wh.Ok := by
  obtain ⟨_, _, _, _, _, h⟩ := h
  revert h
  cases x.wh <;> intro h <;> first | trivial | exact h.elim | exact h.2.2.2.2.1.u
theorem Wr.rank (h : Wr s0 q n l x s r) (hn : n ≤ 8) : (x.wh.pc = 0 ↔ r = 0) ∧ r ≤ 42 := by
  obtain ⟨_, _, _, _, _, h⟩ := h
  revert h
  cases x.wh <;> intro h
  · exact ⟨⟨fun _ => h.2.2, fun _ => rfl⟩, by have := h.2.2; omega⟩
  · exact ⟨⟨fun h' => by simp [Wh.pc] at h', fun h' => by have := h.2.2; omega⟩, by have := h.2.2; omega⟩
  · have h1 := h.2.2.2.2.1.pc
    have h2 := h.2.2.2.2.2
    have h3 := h.2.1
    exact ⟨⟨fun h' => by simp [Wh.pc] at h', fun h' => by omega⟩, by omega⟩
  · exact h.elim
  · exact h.elim
  · exact ⟨⟨fun h' => by simp [Wh.pc] at h', fun h' => by have := h.2.2; omega⟩, by have := h.2.2; omega⟩
theorem shade_on {s : St} (ho : ∀ j, j < n → l j = 0 ∨ Obj (l j)) {i : Nat} (hi : i ≤ n) (h1 : ∀ j, j < i → l j ≠ 0 → M1 s (l j)) :
    (toShade l n 1 i = .tell ∧ ∀ j, j < n → l j ≠ 0 → M1 s (l j)) ∨ ∃ k y, i ≤ k ∧ k < n ∧ toShade l n 1 i = .shade k y ∧ l k ≠ 0 ∧ (∀ j, j < k → l j ≠ 0 → M1 s (l j)) ∧ Sh s (l k) y ∧ y.pc = 1 := by
  obtain ⟨a1, a2, a3, a4⟩ := seek_le l n (n - i) i (Nat.le_refl _) hi
  have all : ∀ j, j < seek l n (n - i) i → l j ≠ 0 → M1 s (l j) := fun j h h0 => by
    rcases Nat.lt_or_ge j i with hj | hj
    · exact h1 j hj h0
    · exact absurd (a3 j hj h) h0
  by_cases hk : seek l n (n - i) i < n
  · have hk0 := a4 hk
    refine .inr ⟨_, ShadeS.new (l (seek l n (n - i) i)) 1, a1, hk, if_neg (by omega), hk0, all, ⟨rfl, rfl, ?_, ShadeS.ok_new _ _, ?_, ?_, ?_, ?_⟩, ?_⟩ <;> simp only [ShadeS.new, if_neg hk0]
    · exact ⟨by omega, by omega⟩
    · exact fun h => by omega
    · exact fun h => by omega
    · exact fun h => by omega
    · exact fun h => by omega
  · exact .inl ⟨if_pos (by omega), fun j hj => all j (by omega)⟩
theorem Wr.step (h : Wr s0 q n l x s r) (hn : n ≤ 8) (nd : x.wh.pc ≠ 0) (ho : ∀ j, j < n → l j = 0 ∨ Obj (l j)) (hq : Ph.of (s0.got 0) = q) (h0 : q.no ≠ 0) (h2 : q.md = 2) (hm : q.mr = 1) :
    ∃ r', r' < r ∧ Wr s0 q n l (x.next s) (x.mem s) r' := by
  have rng : (x.mem s).Rng := PollS.rng h.ok h.2.1
  obtain ⟨xa, xo, xq, xal, xn, xl, wh⟩ := x
  obtain ⟨g, rg, e1, e2, e3, h⟩ := h
  simp only at e1 e2 e3 h
  subst e1 e2 e3
  cases wh with
  | done => exact absurd rfl nd
  | fix i => exact h.elim
  | alpha => exact h.elim
  | look =>
    obtain ⟨hw, ho', rfl⟩ := h
    have hg : Ph.of (s.got 0) = q := by rw [hw]; exact hq
    have hne : ¬ q.no = xo.no := by rw [ho']; exact h0
    have hx : (PollS.mk 10 xo xq xal xn xl .look).next s = PollS.mk 10 xo q xal xn xl (toShade xl xn 1 0) := by
      simp only [PollS.next, hg, if_neg hne, if_pos h2, hm]
    rw [hx]
    have lf : Good (s.load 0) := ⟨g.len, g.S⟩
    rcases shade_on (s := s.load 0) ho (Nat.zero_le xn) (fun j h => by omega) with ⟨ht, hall⟩ | ⟨k, y, _, hk, ht, hk0, ha, hb, hy⟩
    · exact ⟨1, by omega, lf, rng, rfl, rfl, rfl, by rw [ht]; exact ⟨rfl, hall, rfl⟩⟩
    · exact ⟨1 + 5 * (xn - k - 1) + (6 - y.pc), by omega, lf, rng, rfl, rfl, rfl, by rw [ht]; exact ⟨rfl, hk, hk0, ha, hb, rfl⟩⟩
  | shade i y =>
    obtain ⟨hq', hi, hi0, ha, hb, rfl⟩ := h
    have hO : Obj (xl i) := (ho i hi).resolve_left hi0
    have hpc := hb.pc
    obtain ⟨lf, hst⟩ := hb.step g rg hO
    have ha' : ∀ j, j < i → xl j ≠ 0 → M1 (y.mem s) (xl j) := fun j hj h0' => lf.m _ ((ho j (by omega)).resolve_left h0') (ha j hj h0')
    rcases hst with ⟨hz, hM⟩ | ⟨hS, hp⟩
    · have hx : (PollS.mk 10 xo xq xal xn xl (.shade i y)).next s = PollS.mk 10 xo xq xal xn xl (toShade xl xn 1 (i + 1)) := by
        simp only [PollS.next, if_pos hz, hq', hm]
      rw [hx]
      rcases shade_on (s := y.mem s) ho (show i + 1 ≤ xn by omega) (fun j hj h0' => by
        by_cases e : j = i
        · subst e; exact hM
        · exact ha' j (by omega) h0') with ⟨ht, hall⟩ | ⟨k, y', hik, hk, ht, hk0, ha2, hb2, hy⟩
      · exact ⟨1, by omega, lf.good, rng, rfl, rfl, rfl, by rw [ht]; exact ⟨hq', hall, rfl⟩⟩
      · exact ⟨1 + 5 * (xn - k - 1) + (6 - y'.pc), by omega, lf.good, rng, rfl, rfl, rfl, by rw [ht]; exact ⟨hq', hk, hk0, ha2, hb2, rfl⟩⟩
    · have hz : ¬ (y.next s).pc = 0 := by omega
      have hx : (PollS.mk 10 xo xq xal xn xl (.shade i y)).next s = PollS.mk 10 xo xq xal xn xl (.shade i (y.next s)) := by simp only [PollS.next, if_neg hz]
      rw [hx]
      exact ⟨1 + 5 * (xn - i - 1) + (6 - (y.next s).pc), by omega, lf.good, rng, rfl, rfl, rfl, hq', hi, hi0, ha', hS, rfl⟩
  | tell =>
    obtain ⟨hq', hall, rfl⟩ := h
    have hw : ∀ d, Obj d → ((PollS.mk 10 xo xq xal xn xl .tell).mem s).word d = s.word d := fun d hd => by
      have := hd.ge
      rw [show (PollS.mk 10 xo xq xal xn xl .tell).mem s = s.store 10 (IntKind.u64.wrap xq.no) from rfl, word_store g.len ⟨by omega, by omega⟩ hd.in, if_neg (by omega)]
    have lf := Lf.words (s' := (PollS.mk 10 xo xq xal xn xl .tell).mem s) g (n_store' g.len _ _) hw
    exact ⟨0, by omega, lf.good, rng, rfl, rfl, rfl, hq', fun j hj h0' => lf.m _ ((ho j hj).resolve_left h0') (hall j hj h0'), rfl⟩
end
end Go.Proofs.YtoablodmodnamaaDoor
