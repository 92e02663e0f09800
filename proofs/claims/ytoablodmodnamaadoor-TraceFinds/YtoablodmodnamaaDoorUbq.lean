/-
  What a trace finds, said plainly: no program in sight.
-/
import Derived.Test.YtoablodmodnamaaDoorUaq
namespace Go.Proofs.YtoablodmodnamaaDoor
set_option linter.unusedVariables false
set_option linter.unusedSimpArgs false
set_option maxRecDepth 100000
open S.Plain (t0 t1 tw nx p0 p1 p2 p3 pw)
open H.Plain (hw pS pC pN pM pG pT pL)
open F.Plain (kind num)

/-! ### the objects -/
structure Lo (n : Nat) (l : List Ob) : Prop where
  n32 : 32 ≤ n
  n4 : n ≤ 4000
  m7 : ∀ o ∈ l, o.m ≤ 7
  b : ∀ o ∈ l, 32 ≤ o.at ∧ o.at + o.m < n
  ap : ∀ o ∈ l, ∀ r ∈ l, o ≠ r → o.at + o.m < r.at ∨ r.at + r.m < o.at
  nd : l.Nodup
theorem pw_all {α : Type} {R : α → α → Prop} (hs : ∀ a b, R a b → R b a) : ∀ {l : List α}, l.Pairwise R → ∀ a ∈ l, ∀ b ∈ l, a ≠ b → R a b
  | [], _, a, ha, _, _, _ => by simp at ha
  | c :: l, h, a, ha, b, hb, hne => by
    obtain ⟨h1, h2⟩ := List.pairwise_cons.1 h
    simp only [List.mem_cons] at ha hb
    rcases ha with rfl | ha
    · rcases hb with rfl | hb
      · exact absurd rfl hne
      · exact h1 b hb
    · rcases hb with rfl | hb
      · exact hs _ _ (h1 a ha)
      · exact pw_all hs h2 a ha b hb hne
theorem Heap.lo {n e : Nat} {f : Int → Int} {l : List Ob} (h : Heap n e f l) (hn : n ≤ 6) : Lo (32 + 32 * n) l := by
  obtain ⟨nb, fb, fk, cb, H⟩ := h
  have nbn := H.bm.nbn
  refine ⟨by omega, by omega, H.m7, fun o ho => ?_, fun o ho r hr hne => ?_, H.dis.imp fun {a b} h e => h (by rw [e]; exact ⟨rfl, rfl⟩)⟩
  · obtain ⟨a1, a2⟩ := ca_bounds (i := o.i) (n := nb) o.c1 (H.okc o ho) (H.onb o ho)
    have := Ob.mw (H.m7 o ho)
    have := H.onb o ho
    unfold Ob.at
    omega
  · have h1 := pw_all (R := fun a b : Ob => ¬ (a.i = b.i ∧ a.k = b.k)) (fun a b h e => h ⟨e.1.symm, e.2.symm⟩) H.dis o ho r hr hne
    have := ca_apart (n := n) (i := o.i) (i' := r.i) o.c1 r.c1 (H.okc o ho) (H.okc r hr) (fun e => by rw [← H.ocb o ho, ← H.ocb r hr, e]) h1
    have := Ob.mw (H.m7 o ho)
    have := Ob.mw (H.m7 r hr)
    unfold Ob.at
    omega
theorem hw_parts (c m M G L : Int) (hc : 0 ≤ c ∧ c ≤ 1) (hm : 0 ≤ m ∧ m ≤ 7) (hM : 0 ≤ M ∧ M ≤ 1) (hG : 0 ≤ G ∧ G ≤ 1) (hL : 0 ≤ L ∧ L < 4096) : Hd.of (hw 1 c m M G 0 L) = ⟨1, c, m, M, G, 0, L⟩ := by
  have e1 : pS (hw 1 c m M G 0 L) = 1 := by unfold H.Plain.hw H.Plain.pS; omega
  have e2 : pC (hw 1 c m M G 0 L) = c := by unfold H.Plain.hw H.Plain.pC; omega
  have e3 : pN (hw 1 c m M G 0 L) = m := by unfold H.Plain.hw H.Plain.pN; omega
  have e4 : pM (hw 1 c m M G 0 L) = M := by unfold H.Plain.hw H.Plain.pM; omega
  have e5 : pG (hw 1 c m M G 0 L) = G := by unfold H.Plain.hw H.Plain.pG; omega
  have e6 : pT (hw 1 c m M G 0 L) = 0 := by unfold H.Plain.hw H.Plain.pT; omega
  have e7 : pL (hw 1 c m M G 0 L) = L := by unfold H.Plain.hw H.Plain.pL; omega
  unfold Hd.of
  rw [e1, e2, e3, e4, e5, e6, e7]
def hd1 : List Ob → Int
  | [] => 0
  | o :: _ => o.at
def Chn (f : Int → Int) : List Ob → Prop
  | [] => True
  | o :: r => f o.at = hw 1 o.c o.m 1 1 0 (hd1 r) ∧ Chn f r
theorem Chn.same {f g : Int → Int} {l : List Ob} (h : Chn f l) (e : ∀ o ∈ l, g o.at = f o.at) : Chn g l := by
  induction l with
  | nil => trivial
  | cons o r ih => exact ⟨by rw [e o (by simp)]; exact h.1, ih h.2 fun d hd => e d (by simp [hd])⟩
/-- which objects are looked through (B) or grey (C), and what the words are -/
structure Gy (n : Nat) (l : List Ob) (f0 f : Int → Int) (B C : List Ob) : Prop where
  top : t0 (f 1) = hd1 C
  ch : Chn f C
  bl : ∀ o ∈ B, f o.at = hw 1 o.c o.m 1 0 0 0
  wh : ∀ o ∈ l, o ∉ B → o ∉ C → f o.at = hw 1 o.c o.m 0 0 0 0
  fl : ∀ o ∈ l, ∀ j : Nat, j < o.m → f (o.at + 1 + j) = f0 (o.at + 1 + j)
  subB : ∀ o ∈ B, o ∈ l
  subC : ∀ o ∈ C, o ∈ l
  ndB : B.Nodup
  ndC : C.Nodup
  dj : ∀ o ∈ B, o ∉ C
section
variable {n : Nat} {l B C : List Ob} {f0 f g : Int → Int} {o : Ob}
theorem Lo.ne (h : Lo n l) {o r : Ob} (ho : o ∈ l) (hr : r ∈ l) (hne : o ≠ r) : o.at ≠ r.at := by
  have := h.ap o ho r hr hne
  omega
theorem Lo.inj (h : Lo n l) {o r : Ob} (ho : o ∈ l) (hr : r ∈ l) (e : o.at = r.at) : o = r := Classical.byContradiction fun hne => h.ne ho hr hne e
theorem Lo.fld_ne (h : Lo n l) {o r : Ob} (ho : o ∈ l) (hr : r ∈ l) {j : Nat} (hj : j < o.m) : o.at + 1 + (j : Int) ≠ r.at := by
  by_cases e : o = r
  · subst e; omega
  · have := h.ap o ho r hr e; omega
theorem hd1_b (h : Lo n l) (hs : ∀ o ∈ C, o ∈ l) : 0 ≤ hd1 C ∧ hd1 C < 4096 := by
  cases C with
  | nil => exact ⟨by decide, by decide⟩
  | cons o r => have := h.b o (hs o (by simp)); have := h.n4; show 0 ≤ o.at ∧ o.at < 4096; omega
theorem Ob.cb (o : Ob) : 0 ≤ (o.c : Int) ∧ (o.c : Int) ≤ 1 := ⟨by omega, by have := o.c1; omega⟩
theorem Gy.same (h : Gy n l f0 f B C) (lo : Lo n l) (e1 : g 1 = f 1) (e : ∀ a : Int, 32 ≤ a → g a = f a) : Gy n l f0 g B C := by
  have key : ∀ o ∈ l, g o.at = f o.at := fun o ho => e _ (lo.b o ho).1
  exact ⟨by rw [e1]; exact h.top, h.ch.same fun o ho => key o (h.subC o ho), fun o ho => by rw [key o (h.subB o ho)]; exact h.bl o ho, fun o ho a b => by rw [key o ho]; exact h.wh o ho a b, fun o ho j hj => by rw [e _ (by have := lo.b o ho; omega)]; exact h.fl o ho j hj, h.subB, h.subC, h.ndB, h.ndC, h.dj⟩
theorem Gy.chn_at (h : Chn f C) {o : Ob} (ho : o ∈ C) : ∃ r, f o.at = hw 1 o.c o.m 1 1 0 (hd1 r) ∧ ∀ x ∈ r, x ∈ C := by
  induction C with
  | nil => simp at ho
  | cons c r ih =>
    simp only [List.mem_cons] at ho
    rcases ho with rfl | ho
    · exact ⟨r, h.1, fun x hx => by simp [hx]⟩
    · obtain ⟨r', e, h2⟩ := ih h.2 ho
      exact ⟨r', e, fun x hx => by simp [h2 x hx]⟩
/-- one more is grey -/
theorem Gy.push (h : Gy n l f0 f B C) (lo : Lo n l) (ho : o ∈ l) (hB : o ∉ B) (hC : o ∉ C) :
    ¬ skips (f o.at) 1 ∧ Gy n l f0 (upd (upd f o.at (((Hd.of (f o.at)).shade 1).link (t0 (f 1))).w) 1 (nx (f 1) o.at)) B (o :: C) := by
  have hb := lo.b o ho
  have n4 := lo.n4
  have m7 := lo.m7 o ho
  have hh := hd1_b lo h.subC
  have e1 : f o.at = hw 1 o.c o.m 0 0 0 0 := h.wh o ho hB hC
  have e2 : Hd.of (f o.at) = ⟨1, o.c, o.m, 0, 0, 0, 0⟩ := by rw [e1]; exact hw_parts _ _ _ _ _ o.cb (by omega) (by omega) (by omega) (by omega)
  have e3 : (((Hd.of (f o.at)).shade 1).link (t0 (f 1))).w = hw 1 o.c o.m 1 1 0 (hd1 C) := by rw [e2, h.top]; rfl
  have out : ∀ r ∈ l, r ≠ o → (upd (upd f o.at (hw 1 o.c o.m 1 1 0 (hd1 C))) 1 (nx (f 1) o.at)) r.at = f r.at := fun r hr hne => by
    have := lo.b r hr
    rw [upd_ne _ _ (by omega), upd_ne _ _ (lo.ne hr ho hne)]
  refine ⟨?_, ?_⟩
  · rw [e1]; unfold skips
    have p1 : pS (hw 1 o.c o.m 0 0 0 0) = 1 := by unfold H.Plain.hw H.Plain.pS; omega
    have p2 : pM (hw 1 o.c o.m 0 0 0 0) = 0 := by unfold H.Plain.hw H.Plain.pM; omega
    rw [p1, p2]; decide
  rw [e3]
  refine ⟨?_, ⟨?_, ?_⟩, ?_, ?_, ?_, h.subB, ?_, h.ndB, ?_, ?_⟩
  · rw [upd_at]; exact t0_nx _ _ (by omega) (by omega)
  · rw [upd_ne _ _ (by omega), upd_at]
  · exact h.ch.same fun r hr => out r (h.subC r hr) (fun e => hC (e ▸ hr))
  · exact fun r hr => by rw [out r (h.subB r hr) (fun e => hB (e ▸ hr))]; exact h.bl r hr
  · intro r hr r1 r2
    simp only [List.mem_cons, not_or] at r2
    rw [out r hr r2.1]
    exact h.wh r hr r1 r2.2
  · intro r hr j hj
    have := lo.b r hr
    rw [upd_ne _ _ (by omega), upd_ne _ _ (lo.fld_ne hr ho hj)]
    exact h.fl r hr j hj
  · intro r hr
    simp only [List.mem_cons] at hr
    rcases hr with rfl | hr
    · exact ho
    · exact h.subC r hr
  · exact List.nodup_cons.2 ⟨hC, h.ndC⟩
  · intro r hr hc
    simp only [List.mem_cons] at hc
    rcases hc with rfl | hc
    · exact hB hr
    · exact h.dj r hr hc
/-- the first one is taken -/
theorem Gy.pop (h : Gy n l f0 f B (o :: C)) (lo : Lo n l) :
    t0 (f 1) = o.at ∧ pN (f o.at) = o.m ∧ Gy n l f0 (upd (upd f 1 (nx (f 1) (pL (f o.at)))) o.at (Hd.of (f o.at)).plain.w) (o :: B) C := by
  have ho : o ∈ l := h.subC o (by simp)
  have hb := lo.b o ho
  have n4 := lo.n4
  have m7 := lo.m7 o ho
  have hsub : ∀ r ∈ C, r ∈ l := fun r hr => h.subC r (by simp [hr])
  have hh := hd1_b lo hsub
  obtain ⟨hoC, ndC⟩ := List.nodup_cons.1 h.ndC
  have hoB : o ∉ B := fun hB => h.dj o hB (by simp)
  have e1 : f o.at = hw 1 o.c o.m 1 1 0 (hd1 C) := h.ch.1
  have e2 : Hd.of (f o.at) = ⟨1, o.c, o.m, 1, 1, 0, hd1 C⟩ := by rw [e1]; exact hw_parts _ _ _ _ _ o.cb (by omega) (by omega) (by omega) hh
  have e3 : (Hd.of (f o.at)).plain.w = hw 1 o.c o.m 1 0 0 0 := by rw [e2]; rfl
  have e4 : pL (f o.at) = hd1 C := congrArg Hd.L e2
  have e5 : pN (f o.at) = o.m := congrArg Hd.N e2
  refine ⟨h.top, e5, ?_⟩
  rw [e3, e4]
  have out : ∀ r ∈ l, r ≠ o → (upd (upd f 1 (nx (f 1) (hd1 C))) o.at (hw 1 o.c o.m 1 0 0 0)) r.at = f r.at := fun r hr hne => by
    have := lo.b r hr
    rw [upd_ne _ _ (lo.ne hr ho hne), upd_ne _ _ (by omega)]
  refine ⟨?_, ?_, ?_, ?_, ?_, ?_, hsub, ?_, ndC, ?_⟩
  · rw [upd_ne _ _ (by omega), upd_at]; exact t0_nx _ _ hh.1 hh.2
  · exact h.ch.2.same fun r hr => out r (hsub r hr) (fun e => hoC (e ▸ hr))
  · intro r hr
    simp only [List.mem_cons] at hr
    by_cases e : r = o
    · subst e; rw [upd_at]
    · rw [out r (hr.elim (fun e' => absurd e' e) (h.subB r)) e]
      exact h.bl r (hr.resolve_left e)
  · intro r hr r1 r2
    simp only [List.mem_cons, not_or] at r1
    rw [out r hr r1.1]
    exact h.wh r hr r1.2 (by simp only [List.mem_cons, not_or]; exact ⟨r1.1, r2⟩)
  · intro r hr j hj
    have := lo.b r hr
    rw [upd_ne _ _ (lo.fld_ne hr ho hj), upd_ne _ _ (by omega)]
    exact h.fl r hr j hj
  · intro r hr
    simp only [List.mem_cons] at hr
    rcases hr with rfl | hr
    · exact ho
    · exact h.subB r hr
  · exact List.nodup_cons.2 ⟨hoB, h.ndB⟩
  · intro r hr hc
    simp only [List.mem_cons] at hr
    rcases hr with rfl | hr
    · exact hoC hc
    · exact h.dj r hr (by simp [hc])
/-- what has the mark is left alone -/
theorem Gy.skip (h : Gy n l f0 f B C) (lo : Lo n l) (ho : o ∈ B ∨ o ∈ C) : skips (f o.at) 1 := by
  unfold skips
  right
  rcases ho with ho | ho
  · rw [h.bl o ho]; unfold H.Plain.hw H.Plain.pM; omega
  · obtain ⟨r, e, hr⟩ := Gy.chn_at h.ch ho
    rw [e]; unfold H.Plain.hw H.Plain.pM; omega
end
/-! ### what refers to what -/
/-- the field j of o refers to r -/
def Rf (f0 : Int → Int) (o r : Ob) (j : Nat) : Prop := j < o.m ∧ kind (f0 (o.at + 1 + j)) = 1 ∧ num (f0 (o.at + 1 + j)) = r.at
/-- fields refer to objects alone -/
def Fd (l : List Ob) (f0 : Int → Int) : Prop := ∀ o ∈ l, ∀ j : Nat, j < o.m → kind (f0 (o.at + 1 + j)) = 1 → num (f0 (o.at + 1 + j)) ≠ 0 → ∃ r ∈ l, num (f0 (o.at + 1 + j)) = r.at
def Closed (l : List Ob) (f0 : Int → Int) (S : Ob → Prop) : Prop := ∀ o ∈ l, S o → ∀ r ∈ l, ∀ j, Rf f0 o r j → S r
/-- the trace stands at the field k of o -/
structure At2 (x : TrS) (q : Ph) (o : Ob) (k : Nat) : Prop where
  q : x.q = q
  obj : x.obj = o.at
  cnt : x.cnt = o.m
  fld : x.fld = k
  go : if k < o.m then x.pc = 2 else x.pc = 1 ∧ x.ne = NextS.new
theorem At2.to (y : TrS) {q : Ph} {o : Ob} {k : Nat} (h1 : y.q = q) (h2 : y.obj = o.at) (h3 : y.cnt = o.m) : At2 (y.toField k) q o k := by
  unfold TrS.toField
  by_cases hk : k < o.m
  · rw [if_pos (by omega)]
    exact ⟨h1, h2, h3, rfl, by rw [if_pos hk]⟩
  · rw [if_neg (by omega)]
    exact ⟨h1, h2, h3, rfl, by rw [if_neg hk]; exact ⟨rfl, rfl⟩⟩
section
variable {n : Nat} {U : Pl5} {l B C : List Ob} {f0 f : Int → Int} {o : Ob} {q : Ph} {x : TrS}
theorem Zr.taken {f : Int → Int} (z : Zr f) {a : Int} (u v : Int) (ha : 32 ≤ a) : Zr (upd (upd f 1 u) a v) ∧ Zr (upd (upd f a v) 1 u) := ⟨(z.updz _ (by omega)).updz _ (by omega), (z.updz _ (by omega)).updz _ (by omega)⟩
/-- the fields of an object are looked through -/
theorem scan (lo : Lo n l) (fd : Fd l f0) (hq : q.mr = 1) (ho : o ∈ l) : ∀ (d k : Nat) (x : TrS) (f : Int → Int) (C : List Ob), d + k = o.m → At2 x q o k → Gy n l f0 f B C → Zr f → (∀ j, j < k → ∀ r ∈ l, Rf f0 o r j → r ∈ B ∨ r ∈ C) →
    ∃ K x' f' C', K ≤ 6 * d ∧ Run n U K x f x' f' ∧ x'.q = q ∧ x'.pc = 1 ∧ x'.ne = NextS.new ∧ Gy n l f0 f' B C' ∧ Zr f' ∧ (∀ r ∈ C, r ∈ C') ∧ (∀ S : Ob → Prop, (∀ r ∈ B, S r) → (∀ r ∈ C, S r) → S o → Closed l f0 S → ∀ r ∈ C', S r) ∧ (∀ j, ∀ r ∈ l, Rf f0 o r j → r ∈ B ∨ r ∈ C') := by
  intro d
  induction d with
  | zero =>
    intro k x f C hd A G z hc
    obtain ⟨e1, e2, e3, e4, e5⟩ := A
    rw [if_neg (by omega)] at e5
    exact ⟨0, x, f, C, by omega, .nil _ _, e1, e5.1, e5.2, G, z, fun _ h => h, fun S _ h _ _ => h, fun j r hr hR => hc j (by have := hR.1; omega) r hr hR⟩
  | succ d ih =>
    intro k x f C hd A G z hc
    obtain ⟨e1, e2, e3, e4, e5⟩ := A
    rw [if_pos (by omega)] at e5
    have hb := lo.b o ho
    have n32 := lo.n32
    have R1 := run_field (U := U) (n := n) (f := f) (x := x) (by omega) z e5 (by rw [e2, e4]; omega) (by rw [e2, e4]; omega)
    have hv : f (x.obj + 1 + x.fld) = f0 (o.at + 1 + k) := by rw [e2, e4]; exact G.fl o ho k (by omega)
    rw [hv] at R1
    obtain ⟨v, hvv⟩ : ∃ v, f0 (o.at + 1 + k) = v := ⟨_, rfl⟩
    rw [hvv] at R1
    by_cases hn : kind v ≠ 1 ∨ num v = 0
    · -- it refers to nothing
      have e6 : x.behindField v = x.toField ((k + 1 : Nat) : Int) := by unfold TrS.behindField; rw [if_pos hn, e4]; rfl
      rw [e6] at R1
      obtain ⟨K, x', f', C', hK, R, a1, a2, a3, a4, a5, a6, a7, a8⟩ := ih (k + 1) _ f C (by omega) (At2.to x e1 e2 e3) G z (fun j hj r hr hR => by
        by_cases ej : j = k
        · subst ej
          obtain ⟨_, h2, h3⟩ := hR
          rw [hvv] at h2 h3
          have := lo.b r hr
          omega
        · exact hc j (by omega) r hr hR)
      exact ⟨1 + K, x', f', C', by omega, R1.trans R, a1, a2, a3, a4, a5, a6, a7, a8⟩
    · simp only [not_or, ne_eq, Classical.not_not] at hn
      obtain ⟨h1, h2⟩ := hn
      obtain ⟨r, hr, hra⟩ := fd o ho k (by omega) (by rw [hvv]; exact h1) (by rw [hvv]; exact h2)
      rw [hvv] at hra
      have hbr := lo.b r hr
      have e6 : x.behindField v = (x.shades (ShadeS.new r.at 1)).goto 5 := by unfold TrS.behindField; rw [if_neg (by simp only [not_or, ne_eq, Classical.not_not]; exact ⟨h1, h2⟩), hra, e1, hq]
      rw [e6] at R1
      have one : ∀ r' ∈ l, Rf f0 o r' k → r' = r := fun r' hr' hR => by
        have h3 := hR.2.2
        rw [hvv, hra] at h3
        exact lo.inj hr' hr h3.symm
      by_cases hin : r ∈ B ∨ r ∈ C
      · obtain ⟨y, R2⟩ := run_skip (U := U) (n := n) (f := f) (x := (x.shades (ShadeS.new r.at 1)).goto 5) (a := r.at) (m := 1) (by omega) z rfl rfl hbr.1 (by omega) (G.skip lo hin)
        have e7 : (((x.shades (ShadeS.new r.at 1)).goto 5).shades y).toField (((x.shades (ShadeS.new r.at 1)).goto 5).fld + 1) = (((x.shades (ShadeS.new r.at 1)).goto 5).shades y).toField ((k + 1 : Nat) : Int) := by
          show _ = _
          congr 1
          show x.fld + 1 = _
          rw [e4]; rfl
        rw [e7] at R2
        obtain ⟨K, x', f', C', hK, R, a1, a2, a3, a4, a5, a6, a7, a8⟩ := ih (k + 1) _ f C (by omega) (At2.to (((x.shades (ShadeS.new r.at 1)).goto 5).shades y) e1 e2 e3) G z (fun j hj r' hr' hR => by
          by_cases ej : j = k
          · subst ej; rw [one r' hr' hR]; exact hin
          · exact hc j (by omega) r' hr' hR)
        exact ⟨1 + 1 + K, x', f', C', by omega, (R1.trans R2).trans R, a1, a2, a3, a4, a5, a6, a7, a8⟩
      · simp only [not_or] at hin
        obtain ⟨hsk, G2⟩ := G.push lo hr hin.1 hin.2
        obtain ⟨y, R2⟩ := run_shade (U := U) (n := n) (f := f) (x := (x.shades (ShadeS.new r.at 1)).goto 5) (a := r.at) (m := 1) (by omega) z rfl rfl hbr.1 (by omega) hsk
        have e7 : (((x.shades (ShadeS.new r.at 1)).goto 5).shades y).toField (((x.shades (ShadeS.new r.at 1)).goto 5).fld + 1) = (((x.shades (ShadeS.new r.at 1)).goto 5).shades y).toField ((k + 1 : Nat) : Int) := by
          show _ = _
          congr 1
          show x.fld + 1 = _
          rw [e4]; rfl
        rw [e7] at R2
        obtain ⟨K, x', f', C', hK, R, a1, a2, a3, a4, a5, a6, a7, a8⟩ := ih (k + 1) _ _ (r :: C) (by omega) (At2.to (((x.shades (ShadeS.new r.at 1)).goto 5).shades y) e1 e2 e3) G2 (z.taken _ _ hbr.1).2 (fun j hj r' hr' hR => by
          by_cases ej : j = k
          · subst ej; rw [one r' hr' hR]; exact .inr (by simp)
          · exact (hc j (by omega) r' hr' hR).imp id fun h => by simp [h])
        exact ⟨1 + 5 + K, x', f', C', by omega, (R1.trans R2).trans R, a1, a2, a3, a4, a5, fun s hs => a6 s (by simp [hs]), fun S s1 s2 s3 s4 => a7 S s1 (fun s hs => by
          simp only [List.mem_cons] at hs
          rcases hs with rfl | hs
          · exact s4 o ho s3 s hr k ⟨by omega, by rw [hvv]; exact h1, by rw [hvv]; exact hra⟩
          · exact s2 s hs) s3 s4, a8⟩
/-- a row without a repetition has not more than one that has all of it -/
theorem len_sub {α : Type} : ∀ (a l : List α), a.Nodup → (∀ x ∈ a, x ∈ l) → a.length ≤ l.length
  | [], _, _, _ => by simp
  | x :: a, l, h, hs => by
    obtain ⟨h1, h2⟩ := List.nodup_cons.1 h
    obtain ⟨s, t, e⟩ := List.append_of_mem (hs x (by simp))
    have := len_sub a (s ++ t) h2 fun y hy => by
      have := hs y (by simp [hy])
      rw [e] at this
      simp only [List.mem_append, List.mem_cons] at this ⊢
      rcases this with h | rfl | h
      · exact .inl h
      · exact absurd hy h1
      · exact .inr h
    rw [e]
    simp only [List.length_append, List.length_cons] at this ⊢
    omega
/-- all that is grey is looked through -/
theorem through (lo : Lo n l) (fd : Fd l f0) (hq : q.mr = 1) : ∀ (b : Nat) (x : TrS) (f : Int → Int) (B C : List Ob), l.length ≤ B.length + b → x.q = q → x.pc = 1 → x.ne = NextS.new → Gy n l f0 f B C → Zr f → (∀ o ∈ B, ∀ j, ∀ r ∈ l, Rf f0 o r j → r ∈ B ∨ r ∈ C) →
    ∃ K x' f' B', K ≤ 46 * b ∧ Run n U K x f x' f' ∧ x'.q = q ∧ x'.pc = 1 ∧ x'.ne = NextS.new ∧ Gy n l f0 f' B' [] ∧ Zr f' ∧ (∀ r, r ∈ B ∨ r ∈ C → r ∈ B') ∧ (∀ S : Ob → Prop, (∀ r ∈ B, S r) → (∀ r ∈ C, S r) → Closed l f0 S → ∀ r ∈ B', S r) ∧ (∀ o ∈ B', ∀ j, ∀ r ∈ l, Rf f0 o r j → r ∈ B') := by
  intro b
  induction b with
  | zero =>
    intro x f B C hl h1 h2 h3 G z hc
    cases C with
    | nil => exact ⟨0, x, f, B, by omega, .nil _ _, h1, h2, h3, G, z, fun r h => h.elim id (by simp), fun S s _ _ => s, fun o ho j r hr hR => (hc o ho j r hr hR).elim id (by simp)⟩
    | cons o C =>
      have := len_sub (o :: B) l (List.nodup_cons.2 ⟨fun h => G.dj o h (by simp), G.ndB⟩) fun r hr => by
        simp only [List.mem_cons] at hr
        rcases hr with rfl | hr
        · exact G.subC _ (by simp)
        · exact G.subB r hr
      simp at this
      omega
  | succ b ih =>
    intro x f B C hl h1 h2 h3 G z hc
    cases C with
    | nil => exact ⟨0, x, f, B, by omega, .nil _ _, h1, h2, h3, G, z, fun r h => h.elim id (by simp), fun S s _ _ => s, fun o ho j r hr hR => (hc o ho j r hr hR).elim id (by simp)⟩
    | cons o C =>
      have ho : o ∈ l := G.subC o (by simp)
      have hb := lo.b o ho
      have n32 := lo.n32
      obtain ⟨g1, g2, G2⟩ := G.pop lo
      obtain ⟨y, y1, y2, R1⟩ := run_next (U := U) (n := n) (f := f) (x := x) (a := o.at) (by omega) z h2 h3 g1 hb.1 (by omega)
      have e1 : (x.nexts y).behindGrey U = ((x.nexts y).takes o.at o.m).toField ((0 : Nat) : Int) := by
        unfold TrS.behindGrey
        show (if y.cell = 0 then _ else ((x.nexts y).takes y.cell y.count).toField 0) = _
        rw [y1, y2, g2, if_neg (by omega)]; rfl
      rw [e1] at R1
      obtain ⟨K1, x1, f1, C1, hK1, R2, a1, a2, a3, a4, a5, a6, a7, a8⟩ := scan (U := U) (B := o :: B) lo fd hq ho o.m 0 _ _ C (by omega) (At2.to ((x.nexts y).takes o.at o.m) h1 rfl rfl) G2 (z.taken _ _ hb.1).1 (fun j hj => by omega)
      have m7 := lo.m7 o ho
      obtain ⟨K2, x2, f2, B2, hK2, R3, b1, b2, b3, b4, b5, b6, b7, b8⟩ := ih x1 f1 (o :: B) C1 (by simp; omega) a1 a2 a3 a4 a5 (fun c hcB j r hr hR => by
        simp only [List.mem_cons] at hcB
        rcases hcB with rfl | hcB
        · exact a8 j r hr hR
        · rcases hc c hcB j r hr hR with h | h
          · exact .inl (by simp [h])
          · simp only [List.mem_cons] at h
            rcases h with rfl | h
            · exact .inl (by simp)
            · exact .inr (a6 r h))
      refine ⟨4 + K1 + K2, x2, f2, B2, by omega, (R1.trans R2).trans R3, b1, b2, b3, b4, b5, fun r hr => ?_, fun S s1 s2 s3 => ?_, b8⟩
      · rcases hr with hr | hr
        · exact b6 r (.inl (by simp [hr]))
        · simp only [List.mem_cons] at hr
          rcases hr with rfl | hr
          · exact b6 r (.inl (by simp))
          · exact b6 r (.inr (a6 r hr))
      · have so : S o := s2 o (by simp)
        have sB : ∀ r ∈ o :: B, S r := fun r hr => by
          simp only [List.mem_cons] at hr
          rcases hr with rfl | hr
          · exact so
          · exact s1 r hr
        exact b7 S sB (a7 S sB (fun r hr => s2 r (by simp [hr])) so s3) s3
/-- what the law asks for -/
def q2 : Ph := ⟨2, 2, 1, 0⟩
def q3 : Ph := ⟨3, 3, 1, 0⟩
theorem q3_of : Ph.of q3.w = q3 := rfl
theorem q3_behind : behind q2 = q3 := rfl
theorem q3_wrap : IntKind.u64.wrap q3.no = 3 := by decide
/-- the threads are asked, and the list has nothing -/
theorem asks {s : St} {o0 o1 : Ph} (hn : 12 ≤ n) (hU : U.th = 2) (z : Zr f) (hv : Vw n s f) (hp : x.pc = 1) (hx : x.ne = NextS.new) (hq : x.q = q2) (ha : t0 (f 1) = 0) (h0 : o0.no ≤ 2) (h1 : o1.no ≤ 2) :
    ∃ xe e0 e1 se fe, Rd U 5 x o0 o1 s xe e0 e1 se ∧ xe.pc = 0 ∧ xe.q = q3 ∧ Vw n se fe ∧ ∀ a : Int, a ≠ 0 → a ≠ 10 → a ≠ 11 → fe a = f a := by
  obtain ⟨y, R1⟩ := run_none (U := U) hn z hp hx ha
  obtain ⟨a0, a1, s1, D1, V1, i0, i1⟩ := R1 o0 o1 s hv
  have j0 := i0 h0
  have j1 := i1 h1
  obtain ⟨x1, hx1⟩ : ∃ x1, ((x.nexts y).takes 0 0).toAsk U = x1 := ⟨_, rfl⟩
  have e1 : x1 = ⟨q2, 3, y, 0, 0, x.fld, x.sh, U, ⟨q3, 2, 1, 0⟩, q3⟩ := by
    rw [← hx1]
    obtain ⟨q, pc, ne, obj, cnt, fld, sh, V, ak, qs⟩ := x
    obtain rfl : q = q2 := hq
    simp only [TrS.nexts, TrS.takes, TrS.toAsk, AskS.new, hU, q3_behind]
    rfl
  rw [hx1, e1] at D1
  clear hx1 e1
  -- the phase is stored, and both take it over
  have W1 := V1.store (a := 0) (by omega) (by omega) q3.w
  have g1 : upd f 0 q3.w 0 = q3.w := upd_at _ _ _
  obtain ⟨P1, O1⟩ := poll_takes (i := 0) (own := a0) W1 hn (by omega) (by omega) (by rw [g1, q3_of]; show (3 : Int) ≠ _; omega) (by rw [g1, q3_of]; decide) (by rw [g1, q3_of]; decide) (by rw [g1, q3_of]; decide)
  rw [g1, q3_of, q3_wrap] at P1
  rw [g1, q3_of] at O1
  have g2 : upd (upd f 0 q3.w) (10 + 0) 3 0 = q3.w := by rw [upd_ne _ _ (by omega)]; exact g1
  obtain ⟨P2, O2⟩ := poll_takes (i := 1) (own := a1) P1 hn (by omega) (by omega) (by rw [g2, q3_of]; show (3 : Int) ≠ _; omega) (by rw [g2, q3_of]; decide) (by rw [g2, q3_of]; decide) (by rw [g2, q3_of]; decide)
  rw [g2, q3_of, q3_wrap] at P2
  rw [g2, q3_of] at O2
  obtain ⟨fe, hfe⟩ : ∃ fe, upd (upd (upd f 0 q3.w) (10 + 0) 3) (10 + 1) 3 = fe := ⟨_, rfl⟩
  have k0 : fe 0 = q3.w := by rw [← hfe, upd_ne _ _ (by omega)]; exact g2
  have k10 : fe 10 = 3 := by rw [← hfe, upd_ne _ _ (by omega)]; exact upd_at _ _ _
  have k11 : fe 11 = 3 := by rw [← hfe]; exact upd_at _ _ _
  have kx : ∀ a : Int, a ≠ 0 → a ≠ 10 → a ≠ 11 → fe a = f a := fun a b0 b1 b2 => by rw [← hfe, upd_ne _ _ (by omega), upd_ne _ _ (by omega), upd_ne _ _ b0]
  rw [hfe] at P2
  have kq : (Ph.of (fe 0)).no = q3.no := by rw [k0, q3_of]
  obtain ⟨s2, hs2⟩ : ∃ s2, plM 1 a1 (plM 0 a0 (s1.store 0 q3.w)) = s2 := ⟨_, rfl⟩
  rw [hs2] at P2
  -- both acks are read
  have L1 := P2.load (a := 10) (by omega) (by omega)
  obtain ⟨Q1, q1⟩ := poll_quiet (i := 0) (own := q3) L1 hn kq
  obtain ⟨Q2, q2'⟩ := poll_quiet (i := 1) (own := q3) Q1 hn kq
  obtain ⟨s3, hs3⟩ : ∃ s3, plM 1 q3 (plM 0 q3 (s2.load 10)) = s3 := ⟨_, rfl⟩
  rw [hs3] at Q2
  have L2 := Q2.load (a := 11) (by omega) (by omega)
  obtain ⟨T1, t1'⟩ := poll_quiet (i := 0) (own := q3) L2 hn kq
  obtain ⟨T2, t2'⟩ := poll_quiet (i := 1) (own := q3) T1 hn kq
  obtain ⟨s4, hs4⟩ : ∃ s4, plM 1 q3 (plM 0 q3 (s3.load 11)) = s4 := ⟨_, rfl⟩
  rw [hs4] at T2
  have L3 := T2.load (a := 1) (by omega) (by omega)
  obtain ⟨X1, x1'⟩ := poll_quiet (i := 0) (own := q3) L3 hn kq
  obtain ⟨X2, x2'⟩ := poll_quiet (i := 1) (own := q3) X1 hn kq
  have u10 : s2.got (10 + ((0 : Nat) : Int)) = IntKind.u64.wrap q3.no := by
    have h10 := P2.got (a := 10) (by omega) (by omega)
    rw [k10] at h10
    rw [q3_wrap]
    exact h10
  have u11 : s3.got (10 + ((1 : Nat) : Int)) = IntKind.u64.wrap q3.no := by
    have h11 := Q2.got (a := 11) (by omega) (by omega)
    rw [k11] at h11
    rw [q3_wrap]
    exact h11
  have u1 : t0 (s4.got 1) = 0 := by rw [T2.got (a := 1) (by omega) (by omega), kx 1 (by omega) (by omega) (by omega)]; exact ha
  refine ⟨⟨q3, 0, y, 0, 0, x.fld, x.sh, U, ⟨q3, 2, 0, 2⟩, q3⟩, q3, q3, _, fe, Rd.trans (k := 1) (l := 4) D1 (Rd.cons (k := 3) (show 1 ≤ 3 by omega) ?_), rfl, rfl, X2, kx⟩
  have n1 : TrS.next U ⟨q2, 3, y, 0, 0, x.fld, x.sh, U, ⟨q3, 2, 1, 0⟩, q3⟩ s1 = ⟨q3, 3, y, 0, 0, x.fld, x.sh, U, ⟨q3, 2, 2, 0⟩, q3⟩ := rfl
  have m1 : TrS.mem ⟨q2, 3, y, 0, 0, x.fld, x.sh, U, ⟨q3, 2, 1, 0⟩, q3⟩ s1 = s1.store 0 q3.w := rfl
  rw [n1, m1, O1, O2, hs2]
  refine .cons (show 1 ≤ 3 by omega) ?_
  have n2 : TrS.next U ⟨q3, 3, y, 0, 0, x.fld, x.sh, U, ⟨q3, 2, 2, 0⟩, q3⟩ s2 = ⟨q3, 3, y, 0, 0, x.fld, x.sh, U, ⟨q3, 2, 2, 1⟩, q3⟩ := by
    simp only [TrS.next, AskS.next, u10, if_true, TrS.asks, TrS.asked]
    rfl
  have m2 : TrS.mem ⟨q3, 3, y, 0, 0, x.fld, x.sh, U, ⟨q3, 2, 2, 0⟩, q3⟩ s2 = s2.load 10 := rfl
  rw [n2, m2, q1, q2', hs3]
  refine .cons (show 1 ≤ 3 by omega) ?_
  have n3 : TrS.next U ⟨q3, 3, y, 0, 0, x.fld, x.sh, U, ⟨q3, 2, 2, 1⟩, q3⟩ s3 = ⟨q3, 4, y, 0, 0, x.fld, x.sh, U, ⟨q3, 2, 0, 2⟩, q3⟩ := by
    simp only [TrS.next, AskS.next, u11, if_true, TrS.asks, TrS.asked, TrS.goto]
  have m3 : TrS.mem ⟨q3, 3, y, 0, 0, x.fld, x.sh, U, ⟨q3, 2, 2, 1⟩, q3⟩ s3 = s3.load 11 := rfl
  rw [n3, m3, t1', t2', hs4]
  refine .cons (show 1 ≤ 4 by omega) ?_
  have n4 : TrS.next U ⟨q3, 4, y, 0, 0, x.fld, x.sh, U, ⟨q3, 2, 0, 2⟩, q3⟩ s4 = ⟨q3, 0, y, 0, 0, x.fld, x.sh, U, ⟨q3, 2, 0, 2⟩, q3⟩ := by
    simp only [TrS.next, TrS.behindAsk, u1, if_true, TrS.goto]
  have m4 : TrS.mem ⟨q3, 4, y, 0, 0, x.fld, x.sh, U, ⟨q3, 2, 0, 2⟩, q3⟩ s4 = s4.load 1 := rfl
  rw [n4, m4, x1', x2']
  exact .nil _ _ _ _
/-- a whole trace -/
theorem traced {s : St} (lo : Lo n l) (fd : Fd l f0) (hl : l.length ≤ 60) (hU : U.th = 2) (hv : Vw n s f) (G : Gy n l f0 f [] C) (z : Zr f) :
    ∃ K xe e0 e1 se fe B, 1 ≤ K ∧ K ≤ 2800 ∧ Rd U K (TrS.new q2) q2 q2 s xe e0 e1 se ∧ xe.pc = 0 ∧ xe.q = q3 ∧ Vw n se fe ∧ Gy n l f0 fe B [] ∧ (∀ r ∈ C, r ∈ B) ∧ Closed l f0 (· ∈ B) ∧ (∀ S : Ob → Prop, (∀ r ∈ C, S r) → Closed l f0 S → ∀ r ∈ B, S r) := by
  obtain ⟨K, x', f', B, hK, R, a1, a2, a3, a4, a5, a6, a7, a8⟩ := through (U := U) lo fd (q := q2) rfl l.length (TrS.new q2) f [] C (by simp) rfl rfl rfl G z (by simp)
  obtain ⟨o0, o1, s', D, V, i0, i1⟩ := R q2 q2 s hv
  obtain ⟨xe, e0, e1, se, fe, D2, b1, b2, V2, k⟩ := asks (U := U) (by have := lo.n32; omega) hU a5 V a2 a3 a1 a4.top (i0 (by decide)) (i1 (by decide))
  exact ⟨K + 5, xe, e0, e1, se, fe, B, by omega, by omega, D.trans D2, b1, b2, V2, a4.same lo (k 1 (by omega) (by omega) (by omega)) fun a ha => k a (by omega) (by omega) (by omega), fun r hr => a6 r (.inr hr), fun o ho hB r hr j hR => a8 o hB j r hr hR, fun S s1 s2 => a7 S (by simp) s1 s2⟩
end
end Go.Proofs.YtoablodmodnamaaDoor
