/-
  What is in order whatever machines do: references lead to headers, and no other word changes. No program in sight.
-/
import Derived.Test.YtkgmfnllhjedpaaDoorGq
namespace Go.Proofs.YtkgmfnllhjedpaaDoor
set_option linter.unusedVariables false
set_option maxRecDepth 100000
open S.Plain (t0 t1 tw nx)
open H.Plain (hw pS pC pN pM pG pT pL)

def Hdr (a : Int) : Prop := 96 ≤ a ∧ a < 160 ∧ a % 4 = 0
def Rfr (a : Int) : Prop := a = 0 ∨ Hdr a
theorem Hdr.in_ {a : Int} (h : Hdr a) : In a := ⟨by have := h.1; omega, h.2.1⟩
theorem Hdr.ne {a : Int} (h : Hdr a) : a ≠ 0 ∧ a ≠ 1 := ⟨by have := h.1; omega, by have := h.1; omega⟩
theorem Rfr.bounds {a : Int} (h : Rfr a) : 0 ≤ a ∧ a < 160 := by
  rcases h with rfl | h
  · omega
  · exact h.in_
theorem t0_nx {l a : Int} (h : Rfr a) : t0 (nx l a) = a := by unfold S.Plain.nx; exact t0_tw' h.bounds.1 h.bounds.2
theorem pL_w {h : Hd} (hL : Rfr h.L) : pL h.w = h.L := by
  have := hL.bounds
  unfold Hd.w H.Plain.hw H.Plain.pL
  omega
structure Tidy (s0 s : St) : Prop where
  len : s.ws.length = 160
  head : Rfr (t0 (s.word 1))
  links : ∀ a, Hdr a → Rfr (pL (s.word a))
  same : ∀ a, In a → a ≠ 1 → ¬ Hdr a → s.word a = s0.word a
structure ShadeS.Tidy (x : ShadeS) : Prop where
  cell : Hdr x.cell
  list : Rfr (t0 x.list)
  two : x.pc = 2 → x.h.L = 0
structure NextS.Tidy (x : NextS) : Prop where
  list : 2 ≤ x.pc → Hdr (t0 x.list)
  link : x.pc = 3 → Rfr x.h.L
section
variable {s0 s : St} {a : Int}
theorem Tidy.load (h : Tidy s0 s) (a : Int) : Tidy s0 (s.load a) := ⟨h.len, h.head, h.links, h.same⟩
theorem Tidy.store (h : Tidy s0 s) (ha : Hdr a) {g : Hd} (hg : Rfr g.L) : Tidy s0 (s.store a g.w) := by
  refine ⟨n_store' h.len _ _, ?_, fun b hb => ?_, fun b hb b1 hn => ?_⟩
  · rw [word_store h.len ha.in_ In1, if_neg ha.ne.2]; exact h.head
  · rw [word_store h.len ha.in_ hb.in_]
    split
    · rw [pL_w hg]; exact hg
    · exact h.links b hb
  · rw [word_store h.len ha.in_ hb, if_neg (fun e : a = b => hn (e ▸ ha))]; exact h.same b hb b1 hn
theorem Tidy.cas (h : Tidy s0 s) (ha : Hdr a) {g : Hd} (hg : Rfr g.L) (o : Int) : Tidy s0 (s.cas a o g.w) := by
  by_cases ho : s.word a = o
  · refine ⟨n_cas' h.len _ _ _, ?_, fun b hb => ?_, fun b hb b1 hn => ?_⟩
    · rw [word_cas_ok h.len ha.in_ In1 ho, if_neg ha.ne.2]; exact h.head
    · rw [word_cas_ok h.len ha.in_ hb.in_ ho]
      split
      · rw [pL_w hg]; exact hg
      · exact h.links b hb
    · rw [word_cas_ok h.len ha.in_ hb ho, if_neg (fun e : a = b => hn (e ▸ ha))]; exact h.same b hb b1 hn
  · refine ⟨n_cas' h.len _ _ _, ?_, fun b hb => ?_, fun b hb b1 hn => ?_⟩
    · rw [word_cas_no h.len ha.in_ ho]; exact h.head
    · rw [word_cas_no h.len ha.in_ ho]; exact h.links b hb
    · rw [word_cas_no h.len ha.in_ ho]; exact h.same b hb b1 hn
theorem Tidy.cas1 (h : Tidy s0 s) {l c : Int} (hc : Rfr c) : Tidy s0 (s.cas 1 l (nx l c)) := by
  by_cases ho : s.word 1 = l
  · refine ⟨n_cas' h.len _ _ _, ?_, fun b hb => ?_, fun b hb b1 hn => ?_⟩
    · rw [word_cas_ok h.len In1 In1 ho, if_pos rfl, t0_nx hc]; exact hc
    · rw [word_cas_ok h.len In1 hb.in_ ho, if_neg (Ne.symm hb.ne.2)]; exact h.links b hb
    · rw [word_cas_ok h.len In1 hb ho, if_neg (Ne.symm b1)]; exact h.same b hb b1 hn
  · refine ⟨n_cas' h.len _ _ _, ?_, fun b hb => ?_, fun b hb b1 hn => ?_⟩
    · rw [word_cas_no h.len In1 ho]; exact h.head
    · rw [word_cas_no h.len In1 ho]; exact h.links b hb
    · rw [word_cas_no h.len In1 ho]; exact h.same b hb b1 hn
theorem ShadeS.tidy {x : ShadeS} (h : Go.Proofs.YtkgmfnllhjedpaaDoor.Tidy s0 s) (hx : x.Tidy) (ok : x.Ok) : Go.Proofs.YtkgmfnllhjedpaaDoor.Tidy s0 (x.mem s) ∧ (x.next s).Tidy := by
  obtain ⟨c, m, pc, z, g, l⟩ := x
  obtain ⟨x1, x2, x3⟩ := hx
  simp only at x1 x2 x3
  have q1 := In1.got h.len
  rcases pc_cases5 ok.pc with rfl | rfl | rfl | rfl | rfl | rfl
  · exact ⟨h, x1, x2, x3⟩
  · refine ⟨h.load _, ?_⟩
    simp only [ShadeS.next]
    split
    · exact ⟨x1, x2, fun e => by simp at e⟩
    · exact ⟨x1, x2, fun _ => rfl⟩
  · refine ⟨h.cas x1 (.inl (x3 rfl)) _, x1, x2, fun e => ?_⟩
    simp only [ShadeS.next] at e
    split at e <;> omega
  · exact ⟨h.load _, x1, by show Rfr (t0 (s.got 1)); rw [q1]; exact h.head, fun e => by simp [ShadeS.next] at e⟩
  · exact ⟨h.store x1 (show Rfr (g.link (t0 l)).L from x2), x1, x2, fun e => by simp [ShadeS.next] at e⟩
  · refine ⟨h.cas1 (.inr x1), x1, x2, fun e => ?_⟩
    simp only [ShadeS.next] at e
    split at e <;> omega
theorem NextS.tidy {x : NextS} (h : Go.Proofs.YtkgmfnllhjedpaaDoor.Tidy s0 s) (hx : x.Tidy) (ok : x.Ok) : Go.Proofs.YtkgmfnllhjedpaaDoor.Tidy s0 (x.mem s) ∧ (x.next s).Tidy := by
  obtain ⟨pc, l, g, c, k⟩ := x
  obtain ⟨x1, x2⟩ := hx
  simp only at x1 x2
  have q1 := In1.got h.len
  rcases pc_cases4 ok.pc with rfl | rfl | rfl | rfl | rfl
  · exact ⟨h, x1, x2⟩
  · refine ⟨h.load _, fun e => ?_, fun e => ?_⟩
    · simp only [NextS.next] at e ⊢
      rw [q1] at e ⊢
      split at e
      · omega
      · exact h.head.resolve_left (by assumption)
    · simp only [NextS.next] at e
      split at e <;> omega
  · have hd := x1 (by omega)
    refine ⟨h.load _, fun _ => hd, fun _ => ?_⟩
    show Rfr (pL (s.got (t0 l)))
    rw [hd.in_.got h.len]; exact h.links _ hd
  · refine ⟨h.cas1 (x2 rfl), fun _ => x1 (by omega), fun e => ?_⟩
    simp only [NextS.next] at e
    split at e <;> omega
  · exact ⟨h.store (x1 (by omega)) (show Rfr g.plain.L from .inl rfl), fun e => by simp [NextS.next] at e, fun e => by simp [NextS.next] at e⟩
theorem ShadeS.tidy_new {a m : Int} (h : Hdr a) : (ShadeS.new a m).Tidy := ⟨h, .inl (show t0 0 = 0 by decide), fun e => by simp only [ShadeS.new] at e; split at e <;> omega⟩
/-- the objects are laid, and nothing is grey -/
structure Base (s : St) : Prop where
  len : s.ws.length = 160
  head : s.word 1 = 0
  objs : ∀ a, Hdr a → s.word a = 17
theorem Base.tidy (h : Base s) : Go.Proofs.YtkgmfnllhjedpaaDoor.Tidy s s := ⟨h.len, .inl (by rw [h.head]; decide), fun a ha => .inl (by rw [h.objs a ha]; decide), fun _ _ _ _ => rfl⟩
theorem Base.store (h : Base s) {x : Int} (ha : In a) (h1 : a ≠ 1) (hn : ¬ Hdr a) : Base (s.store a x) :=
  ⟨n_store' h.len _ _, by rw [word_store h.len ha In1, if_neg h1]; exact h.head, fun b hb => by rw [word_store h.len ha hb.in_, if_neg (fun e : a = b => hn (e ▸ hb))]; exact h.objs b hb⟩
theorem NextS.tidy_new : NextS.new.Tidy := ⟨fun e => by simp [NextS.new] at e, fun e => by simp [NextS.new] at e⟩
end
end Go.Proofs.YtkgmfnllhjedpaaDoor
