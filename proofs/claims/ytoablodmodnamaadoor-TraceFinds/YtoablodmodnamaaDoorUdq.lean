/-
  Shades ahead of the trace, said plainly; what a Trace keeps of its numbers.
-/
import Derived.Test.YtoablodmodnamaaDoorUbq
namespace Go.Proofs.YtoablodmodnamaaDoor
set_option linter.unusedVariables false
set_option linter.unusedSimpArgs false
set_option maxRecDepth 100000
open S.Plain (t0 t1 tw nx p0 p1 p2 p3 pw)
open H.Plain (hw pS pC pN pM pG pT pL)
open F.Plain (kind num)

def wset (w : Int → Bool) (a : Int) : Int → Bool := fun b => if b = a then true else w b
theorem wset_at (w : Int → Bool) (a : Int) : wset w a a = true := if_pos rfl
theorem wset_mono {w : Int → Bool} {a b : Int} (h : w b = true) : wset w a b = true := by unfold wset; split <;> simp_all
theorem wset_inv {w : Int → Bool} {a b : Int} (h : wset w a b = true) : b = a ∨ w b = true := by
  unfold wset at h; split at h
  · next e => exact .inl e
  · exact .inr h
/-- how many objects are wanted -/
def card (l : List Ob) (w : Int → Bool) : Nat := (l.filter fun o => w o.at).length
theorem card_le (l : List Ob) (w : Int → Bool) : card l w ≤ l.length := List.length_filter_le _ _
theorem card_mono (l : List Ob) {w w' : Int → Bool} (h : ∀ a, w a = true → w' a = true) : card l w ≤ card l w' := by
  induction l with
  | nil => simp [card]
  | cons o l ih =>
    unfold card at ih ⊢
    simp only [List.filter_cons]
    by_cases e : w o.at = true
    · rw [if_pos e, if_pos (h _ e)]; simp; exact ih
    · rw [if_neg e]
      split
      · simp; omega
      · exact ih
theorem card_lt {l : List Ob} {w w' : Int → Bool} (h : ∀ a, w a = true → w' a = true) {o : Ob} (ho : o ∈ l) (h1 : w' o.at = true) (h2 : w o.at = false) : card l w + 1 ≤ card l w' := by
  induction l with
  | nil => simp at ho
  | cons c l ih =>
    simp only [List.mem_cons] at ho
    have hm := card_mono l h
    rcases ho with rfl | ho
    · unfold card at hm ⊢
      simp only [List.filter_cons]
      rw [if_pos h1, if_neg (by simp [h2])]
      simp; exact hm
    · have := ih ho
      unfold card at this ⊢
      simp only [List.filter_cons]
      by_cases e : w c.at = true
      · rw [if_pos e, if_pos (h _ e)]; simp; omega
      · rw [if_neg e]
        split
        · simp; omega
        · exact this
theorem card_all {l : List Ob} {w : Int → Bool} (h : l.length ≤ card l w) : ∀ o ∈ l, w o.at = true := by
  induction l with
  | nil => simp
  | cons c l ih =>
    have hc := card_le l w
    unfold card at h ih hc
    simp only [List.filter_cons] at h
    by_cases e : w c.at = true
    · rw [if_pos e] at h
      simp at h
      intro o ho
      simp only [List.mem_cons] at ho
      rcases ho with rfl | ho
      · exact e
      · exact ih h o ho
    · rw [if_neg e] at h
      simp at h
      omega
/-- within a round that begins with w0: the first i objects are gone through -/
structure WIn (l : List Ob) (f0 : Int → Int) (w0 : Int → Bool) (i : Nat) (w : Int → Bool) : Prop where
  mono : ∀ a, w0 a = true → w a = true
  refs : ∀ o ∈ l.take i, w0 o.at = true → ∀ j, ∀ r ∈ l, Rf f0 o r j → w r.at = true
  least : ∀ S : Ob → Prop, (∀ r ∈ l, w0 r.at = true → S r) → Closed l f0 S → ∀ r ∈ l, w r.at = true → S r
/-- behind r rounds -/
structure WOut (l : List Ob) (f0 : Int → Int) (C : List Ob) (r : Nat) (w : Int → Bool) : Prop where
  roots : ∀ o ∈ C, w o.at = true
  least : ∀ S : Ob → Prop, (∀ r ∈ C, S r) → Closed l f0 S → ∀ r ∈ l, w r.at = true → S r
  prog : Closed l f0 (fun o => w o.at = true) ∨ r ≤ card l w
section
variable {n : Nat} {l C : List Ob} {f0 : Int → Int} {w0 w : Int → Bool} {i r : Nat} {o : Ob}
theorem WIn.begin (l : List Ob) (f0 : Int → Int) (w : Int → Bool) : WIn l f0 w 0 w := ⟨fun _ h => h, by simp, fun S h _ => h⟩
/-- an object that isn't wanted -/
theorem WIn.no (h : WIn l f0 w0 i w) (hi : l[i]? = some o) (hw : w o.at = false) : WIn l f0 w0 (i + 1) w := by
  refine ⟨h.mono, fun c hc h0 j r hr hR => ?_, h.least⟩
  obtain ⟨hlt, he⟩ := List.getElem?_eq_some_iff.1 hi
  rw [List.take_succ_eq_append_getElem hlt, List.mem_append, List.mem_singleton, he] at hc
  rcases hc with hc | rfl
  · exact h.refs c hc h0 j r hr hR
  · rw [h.mono _ h0] at hw
    simp at hw
/-- a wanted one's field that refers to nothing, or to something -/
theorem WIn.set (h : WIn l f0 w0 i w) (lo : Lo n l) (ho : o ∈ l) (hw : w o.at = true) {j : Nat} (hj : j < o.m) (hk : kind (f0 (o.at + 1 + j)) = 1) {a : Int} (ha : num (f0 (o.at + 1 + j)) = a) : WIn l f0 w0 i (wset w a) := by
  refine ⟨fun b hb => wset_mono (h.mono b hb), fun c hc h0 k r hr hR => wset_mono (h.refs c hc h0 k r hr hR), fun S s1 s2 r hr hwr => ?_⟩
  rcases wset_inv hwr with e | e
  · exact s2 o ho (h.least S s1 s2 o ho hw) r hr j ⟨hj, hk, by rw [ha]; exact e.symm⟩
  · exact h.least S s1 s2 r hr e
/-- all its fields are gone through -/
theorem WIn.yes (h : WIn l f0 w0 i w) (hi : l[i]? = some o) (hf : ∀ j, ∀ r ∈ l, Rf f0 o r j → w r.at = true) : WIn l f0 w0 (i + 1) w := by
  refine ⟨h.mono, fun c hc h0 j r hr hR => ?_, h.least⟩
  obtain ⟨hlt, he⟩ := List.getElem?_eq_some_iff.1 hi
  rw [List.take_succ_eq_append_getElem hlt, List.mem_append, List.mem_singleton, he] at hc
  rcases hc with hc | rfl
  · exact h.refs c hc h0 j r hr hR
  · exact hf j r hr hR
theorem WOut.round (h : WOut l f0 C r w0) (hi : WIn l f0 w0 l.length w) : WOut l f0 C (r + 1) w := by
  have hrefs : ∀ o ∈ l, w0 o.at = true → ∀ j, ∀ r ∈ l, Rf f0 o r j → w r.at = true := fun o ho => hi.refs o (by rw [List.take_length]; exact ho)
  refine ⟨fun o ho => hi.mono _ (h.roots o ho), fun S s1 s2 r hr hw => hi.least S (h.least S s1 s2) s2 r hr hw, ?_⟩
  by_cases hall : ∀ o ∈ l, w o.at = true → w0 o.at = true
  · exact .inl fun o ho hw r hr j hR => hrefs o ho (hall o ho hw) j r hr hR
  · right
    have : ∃ o ∈ l, w o.at = true ∧ w0 o.at = false := Classical.byContradiction fun hne => hall fun o ho hw => by
      cases e : w0 o.at with
      | true => rfl
      | false => exact absurd ⟨o, ho, hw, e⟩ hne
    obtain ⟨o, ho, h1, h2⟩ := this
    rcases h.prog with hc | hc
    · have := hi.least (fun o => w0 o.at = true) (fun _ _ h => h) hc o ho h1
      simp [h2] at this
    · have := card_lt (l := l) hi.mono ho h1 h2
      omega
theorem WOut.closed (h : WOut l f0 C r w) (hr : l.length ≤ r) : Closed l f0 (fun o => w o.at = true) := by
  rcases h.prog with hc | hc
  · exact hc
  · have := card_all (l := l) (w := w) (by omega)
    exact fun o _ _ r hr _ _ => this r hr
/-- what is found is what is wanted -/
theorem WOut.same {B : List Ob} (h : WOut l f0 C r w) (hr : l.length ≤ r) (hC : ∀ o ∈ C, o ∈ l) (hB : ∀ o ∈ B, o ∈ l) (c1 : ∀ r ∈ C, r ∈ B) (c2 : Closed l f0 (· ∈ B)) (c3 : ∀ S : Ob → Prop, (∀ r ∈ C, S r) → Closed l f0 S → ∀ r ∈ B, S r) (ho : o ∈ l) : o ∈ B ↔ w o.at = true :=
  ⟨fun hb => c3 (fun o => w o.at = true) h.roots (h.closed hr) o hb, fun hw => h.least (· ∈ B) c1 c2 o ho hw⟩
end
/-- a wanted object's fields, the first k -/
structure WFd (l : List Ob) (f0 : Int → Int) (w0 : Int → Bool) (i : Nat) (o : Ob) (k : Nat) (w : Int → Bool) : Prop where
  in_ : WIn l f0 w0 i w
  refs : ∀ j, j < k → ∀ r ∈ l, Rf f0 o r j → w r.at = true
section
variable {n : Nat} {l C : List Ob} {f0 : Int → Int} {w0 w : Int → Bool} {i k : Nat} {o : Ob}
theorem WFd.no (h : WFd l f0 w0 i o k w) (lo : Lo n l) (hk : ¬ (kind (f0 (o.at + 1 + k)) = 1 ∧ num (f0 (o.at + 1 + k)) ≠ 0)) : WFd l f0 w0 i o (k + 1) w := ⟨h.in_, fun j hj r hr hR => by
  by_cases e : j = k
  · subst e
    have := lo.b r hr
    exact absurd ⟨hR.2.1, by rw [hR.2.2]; omega⟩ hk
  · exact h.refs j (by omega) r hr hR⟩
theorem WFd.yes (h : WFd l f0 w0 i o k w) (lo : Lo n l) (ho : o ∈ l) (hw : w o.at = true) (hk : k < o.m) (h1 : kind (f0 (o.at + 1 + k)) = 1) {a : Int} (ha : num (f0 (o.at + 1 + k)) = a) : WFd l f0 w0 i o (k + 1) (wset w a) ∧ wset w a o.at = true := ⟨⟨h.in_.set lo ho hw hk h1 ha, fun j hj r hr hR => by
  by_cases e : j = k
  · subst e
    rw [← hR.2.2, ha]; exact wset_at _ _
  · exact wset_mono (h.refs j (by omega) r hr hR)⟩, wset_mono hw⟩
end
end Go.Proofs.YtoablodmodnamaaDoor

namespace Go.Proofs.YtoablodmodnamaaDoor
set_option linter.unusedVariables false
set_option linter.unusedSimpArgs false
set_option maxRecDepth 100000
open S.Plain (t0 t1 tw nx p0 p1 p2 p3 pw)
open H.Plain (hw pS pC pN pM pG pT pL)
open F.Plain (kind num)

/-- a Shade that steps alone -/
def shI (a : Int) (s : St) : Nat → ShadeS × St
  | 0 => (ShadeS.new a 1, s)
  | k + 1 => ((shI a s k).1.next (shI a s k).2, (shI a s k).1.mem (shI a s k).2)
theorem shI_still {a : Int} {s : St} {k : Nat} (h : (shI a s k).1.pc = 0) (j : Nat) : (shI a s (k + j)).1.pc = 0 ∧ (shI a s (k + j)).2 = (shI a s k).2 := by
  induction j with
  | zero => exact ⟨h, rfl⟩
  | succ j ih =>
    obtain ⟨h1, h2⟩ := ih
    obtain ⟨x, hx⟩ : ∃ x, (shI a s (k + j)).1 = x := ⟨_, rfl⟩
    obtain ⟨t, ht⟩ : ∃ t, (shI a s (k + j)).2 = t := ⟨_, rfl⟩
    rw [hx] at h1
    rw [ht] at h2
    show ((shI a s (k + j)).1.next (shI a s (k + j)).2).pc = 0 ∧ (shI a s (k + j)).1.mem (shI a s (k + j)).2 = _
    rw [hx, ht]
    obtain ⟨c, m, pc, z, hd, l⟩ := x
    obtain rfl : pc = 0 := h1
    exact ⟨rfl, h2⟩
section
variable {n : Nat} {l C : List Ob} {f0 f : Int → Int} {s : St} {o : Ob}
theorem shade5 (hv : Vw n s f) (lo : Lo n l) (G : Gy n l f0 f [] C) (z : Zr f) (ho : o ∈ l) :
    ∃ f' C', Vw n (shI o.at s 5).2 f' ∧ Gy n l f0 f' [] C' ∧ Zr f' ∧ ∀ r, r ∈ C' ↔ r ∈ C ∨ r = o := by
  have hb := lo.b o ho
  have n32 := lo.n32
  have hne : o.at ≠ 0 := by omega
  by_cases hC : o ∈ C
  · have hk := G.skip lo (.inr hC)
    have g : s.got o.at = f o.at := hv.got (by omega) (by omega)
    have e1 : shI o.at s 1 = (⟨o.at, 1, 0, f o.at, Hd.of (f o.at), 0⟩, s.load o.at) := by
      simp only [shI, ShadeS.new, if_neg hne, ShadeS.next, ShadeS.mem, g, if_pos hk]
    have := (shI_still (a := o.at) (s := s) (k := 1) (by rw [e1]) 4).2
    rw [e1] at this
    refine ⟨f, C, ?_, G, z, fun r => ⟨.inl, fun h => h.elim id fun e => e ▸ hC⟩⟩
    rw [show shI o.at s 5 = shI o.at s (1 + 4) from rfl, this]
    exact hv.load (by omega) (by omega)
  · obtain ⟨hk, G2⟩ := G.push lo ho (by simp) hC
    refine ⟨_, o :: C, ?_, G2, (z.taken _ _ hb.1).2, fun r => by simp [or_comm]⟩
    obtain ⟨w1, hl⟩ : ∃ w1, f 1 = w1 := ⟨_, rfl⟩
    obtain ⟨v, hvv⟩ : ∃ v, f o.at = v := ⟨_, rfl⟩
    rw [hvv] at hk
    rw [hl, hvv]
    obtain ⟨h, hh⟩ : ∃ h, (Hd.of v).shade 1 = h := ⟨_, rfl⟩
    rw [hh]
    have g1 : s.got o.at = v := (hv.got (by omega) (by omega)).trans hvv
    have V1 := hv.load (a := o.at) (by omega) (by omega)
    obtain ⟨V2, k2⟩ := V1.cas (a := o.at) (by omega) (by omega) hvv h.w
    have e2 : (upd f o.at h.w) 1 = w1 := by rw [upd_ne _ _ (by omega)]; exact hl
    have g3 := (V2.got (a := 1) (by omega) (by omega)).trans e2
    have V3 := V2.load (a := 1) (by omega) (by omega)
    have V4 := V3.store (a := o.at) (by omega) (by omega) (h.link (t0 w1)).w
    rw [upd_upd] at V4
    have e4 : (upd f o.at (h.link (t0 w1)).w) 1 = w1 := by rw [upd_ne _ _ (by omega)]; exact hl
    obtain ⟨V5, k5⟩ := V4.cas (a := 1) (by omega) (by omega) e4 (nx w1 o.at)
    have i1 : shI o.at s 1 = (⟨o.at, 1, 2, v, h, 0⟩, s.load o.at) := by
      simp only [shI, ShadeS.new, if_neg hne, ShadeS.next, ShadeS.mem, g1, if_neg hk, hh]
    have i2 : shI o.at s 2 = (⟨o.at, 1, 3, v, h, 0⟩, (s.load o.at).cas o.at v h.w) := by
      show ((shI o.at s 1).1.next (shI o.at s 1).2, (shI o.at s 1).1.mem (shI o.at s 1).2) = _
      rw [i1]
      simp only [ShadeS.next, ShadeS.mem, k2, if_true]
    have i3 : shI o.at s 3 = (⟨o.at, 1, 4, v, h, w1⟩, ((s.load o.at).cas o.at v h.w).load 1) := by
      show ((shI o.at s 2).1.next (shI o.at s 2).2, (shI o.at s 2).1.mem (shI o.at s 2).2) = _
      rw [i2]
      simp only [ShadeS.next, ShadeS.mem, g3]
    have i4 : shI o.at s 4 = (⟨o.at, 1, 5, v, h.link (t0 w1), w1⟩, (((s.load o.at).cas o.at v h.w).load 1).store o.at (h.link (t0 w1)).w) := by
      show ((shI o.at s 3).1.next (shI o.at s 3).2, (shI o.at s 3).1.mem (shI o.at s 3).2) = _
      rw [i3]
      simp only [ShadeS.next, ShadeS.mem]
    have i5 : (shI o.at s 5).2 = ((((s.load o.at).cas o.at v h.w).load 1).store o.at (h.link (t0 w1)).w).cas 1 w1 (nx w1 o.at) := by
      show (shI o.at s 4).1.mem (shI o.at s 4).2 = _
      rw [i4]
      rfl
    rw [i5]
    exact V5
end
/-! ### a Trace's numbers -/
theorem TrS.Ok.toGrey {U : Pl5} {x : TrS} (h : x.Ok U) : (x.toGrey).Ok U := ⟨by simp [TrS.toGrey], NextS.ok_new, h.sh, h.obj, h.cnt, h.fld, by simp [TrS.toGrey], by simp [TrS.toGrey, NextS.new, Hd.zero], h.th, by simp [TrS.toGrey], h.q0, by simp [TrS.toGrey]⟩
theorem TrS.Ok.toField {U : Pl5} {x : TrS} (h : x.Ok U) {k : Int} (hk : 0 ≤ k ∧ k ≤ 7) : (x.toField k).Ok U := by
  unfold TrS.toField
  split
  · next hc => exact ⟨by simp, h.ne, h.sh, h.obj, h.cnt, hk, fun _ => hc, h.nec, h.th, by simp, h.q0, by simp⟩
  · exact ⟨by simp, NextS.ok_new, h.sh, h.obj, h.cnt, hk, by simp, by simp [NextS.new, Hd.zero], h.th, by simp, h.q0, by simp⟩
theorem pN_b (a : Int) : 0 ≤ pN a ∧ pN a ≤ 7 := by unfold H.Plain.pN; omega
theorem t0_b (a : Int) : 0 ≤ t0 a ∧ t0 a ≤ 10000000 := by unfold S.Plain.t0; omega
theorem NextS.nec_next {x : NextS} (s : St) (h : x.h.N ≤ 7 ∧ x.count ≤ 7 ∧ 0 ≤ x.cell ∧ x.cell ≤ 10000000) : (x.next s).h.N ≤ 7 ∧ (x.next s).count ≤ 7 ∧ 0 ≤ (x.next s).cell ∧ (x.next s).cell ≤ 10000000 := by
  obtain ⟨pc, l, hd, c, k⟩ := x
  unfold NextS.next
  dsimp only at h ⊢
  split
  · exact h
  · exact ⟨(pN_b _).2, h.2.1, h.2.2⟩
  · exact h
  · exact ⟨h.1, h.1, t0_b _⟩
  · exact h
theorem TrS.Ok.next {U : Pl5} {x : TrS} {s : St} (h : x.Ok U) (r : s.Rng) : (x.next U s).Ok U := by
  have hpc := h.pc
  have h5 : x.pc = 0 ∨ x.pc = 1 ∨ x.pc = 2 ∨ x.pc = 3 ∨ x.pc = 4 ∨ x.pc = 5 := by omega
  rcases h5 with e | e | e | e | e | e
  · have : x.next U s = x := by unfold TrS.next; rw [e]; rfl
    rw [this]; exact h
  · have n1 := NextS.Ok.next h.ne r
    have n2 := NextS.nec_next s h.nec
    have hn : (x.nexts (x.ne.next s)).Ok U := ⟨h.pc, n1, h.sh, h.obj, h.cnt, h.fld, h.f2, n2, h.th, h.ak, h.q0, h.qs⟩
    have ht : ((x.nexts (x.ne.next s)).takes (x.ne.next s).cell (x.ne.next s).count).Ok U := ⟨h.pc, n1, h.sh, n2.2.2, n2.2.1, h.fld, fun e' => by have e2 : x.pc = 2 ∨ x.pc = 5 := e'; omega, n2, h.th, h.ak, h.q0, h.qs⟩
    have e1 : x.next U s = if (x.ne.next s).pc = 0 then (x.nexts (x.ne.next s)).behindGrey U else x.nexts (x.ne.next s) := by unfold TrS.next; rw [e]; rfl
    rw [e1]
    split
    · unfold TrS.behindGrey
      split
      · have q0 := h.q0
        refine ⟨by simp [TrS.toAsk], n1, h.sh, n2.2.2, n2.2.1, h.fld, by simp [TrS.toAsk], n2, h.th, fun _ => ⟨?_, rfl, rfl⟩, h.q0, fun _ => ?_⟩
        · exact ⟨by simp [AskS.new, TrS.toAsk], by simp [AskS.new, TrS.toAsk], by show 1 ≤ U.th.toNat; have := h.th; omega, by show U.th.toNat ≤ 64; have := h.th; omega⟩
        · show 0 ≤ (x.q.no + 1) % 1099511627776 ∧ (x.q.no + 1) % 1099511627776 ≤ 1099511627776
          omega
      · exact ht.toField (by omega)
    · exact hn
  · have e1 : x.next U s = x.behindField (s.got (x.obj + 1 + x.fld)) := by unfold TrS.next; rw [e]; rfl
    have f2 := h.f2 (.inl e)
    have c7 := h.cnt
    have f0 := h.fld
    rw [e1]; unfold TrS.behindField
    split
    · exact h.toField (by omega)
    · exact ⟨by simp [TrS.goto], h.ne, ShadeS.ok_new _ _, h.obj, h.cnt, h.fld, fun _ => f2, h.nec, h.th, by simp [TrS.goto], h.q0, by simp [TrS.goto]⟩
  · obtain ⟨a1, a2, a3⟩ := h.ak e
    have q1 := h.qs e
    have k1 := AskS.Ok.next (s := s) a1
    have k2 : (x.ak.next s).N = U.th.toNat := AskS.N_next.trans a2
    have e1 : x.next U s = if (x.ak.next s).pc = 0 then ((x.asks (x.ak.next s)).goto 4).asked else (x.asks (x.ak.next s)).asked := by unfold TrS.next; rw [e]; rfl
    rw [e1]
    split
    · exact ⟨by simp [TrS.asked, TrS.goto], h.ne, h.sh, h.obj, h.cnt, h.fld, by simp [TrS.asked, TrS.goto], h.nec, h.th, by simp [TrS.asked, TrS.goto], q1, by simp [TrS.asked, TrS.goto]⟩
    · exact ⟨h.pc, h.ne, h.sh, h.obj, h.cnt, h.fld, fun e' => by have e2 : x.pc = 2 ∨ x.pc = 5 := e'; omega, h.nec, h.th, fun _ => ⟨k1, k2, a3⟩, q1, fun _ => q1⟩
  · have e1 : x.next U s = x.behindAsk (s.got 1) := by unfold TrS.next; rw [e]; rfl
    rw [e1]; unfold TrS.behindAsk
    split
    · exact ⟨by simp [TrS.goto], h.ne, h.sh, h.obj, h.cnt, h.fld, by simp [TrS.goto], h.nec, h.th, by simp [TrS.goto], h.q0, by simp [TrS.goto]⟩
    · exact h.toGrey
  · have s1 := ShadeS.Ok.next h.sh r
    have f2 := h.f2 (.inr e)
    have c7 := h.cnt
    have f0 := h.fld
    have hs : (x.shades (x.sh.next s)).Ok U := ⟨h.pc, h.ne, s1, h.obj, h.cnt, h.fld, h.f2, h.nec, h.th, h.ak, h.q0, h.qs⟩
    have e1 : x.next U s = if (x.sh.next s).pc = 0 then (x.shades (x.sh.next s)).toField (x.fld + 1) else x.shades (x.sh.next s) := by unfold TrS.next; rw [e]; rfl
    rw [e1]
    split
    · exact hs.toField (by omega)
    · exact hs
theorem TrS.ok_new {U : Pl5} (q : Ph) (hU : 1 ≤ U.th ∧ U.th ≤ 64) (hq : 0 ≤ q.no ∧ q.no ≤ 1099511627776) : (TrS.new q).Ok U := ⟨by simp [TrS.new], NextS.ok_new, ⟨U64.zero, U64.zero, by simp [TrS.new]⟩, by simp [TrS.new], by simp [TrS.new], by simp [TrS.new], by simp [TrS.new], by simp [TrS.new, NextS.new, Hd.zero], hU, by simp [TrS.new], hq, by simp [TrS.new]⟩
theorem TrS.rng {U : Pl5} {x : TrS} {s : St} (h : x.Ok U) (r : s.Rng) : (x.mem s).Rng := by
  have hpc := h.pc
  unfold TrS.mem; split
  · exact NextS.rng h.ne r
  · exact r
  · exact AskS.rng r
  · exact r
  · exact ShadeS.rng h.sh r
  · exact r
theorem TrS.fit {U : Pl5} {x : TrS} {s : St} (h : x.Ok U) (f : s.Fit) (hc : s.c < 1000000) : (x.mem s).Fit := by
  unfold TrS.mem; split
  · exact NextS.fit h.ne f hc
  · exact f.load hc _
  · exact AskS.fit f hc
  · exact f.load hc _
  · exact ShadeS.fit h.sh f hc
  · exact f
theorem TrS.count {U : Pl5} {x : TrS} {s : St} (h : x.Ok U) : (x.mem s).c ≤ s.c + 1 := by
  unfold TrS.mem; split
  · exact NextS.cnt h.ne
  · rw [St.c_load]; omega
  · exact AskS.count
  · rw [St.c_load]; omega
  · exact ShadeS.count h.sh
  · omega
end Go.Proofs.YtoablodmodnamaaDoor
