/-
  The reference's heap while it is built: its objects.
-/
import Derived.Test.YtoablodmodnamaaDoorTwq
namespace Go.Proofs.YtoablodmodnamaaDoor
set_option linter.unusedVariables false
set_option linter.unusedSimpArgs false
set_option maxRecDepth 100000
open Go.ChangeShapes Go.WideShapes Go.RowKit
open S.Plain (t0 t1 tw nx bw b0 b1 b2 b3)
open H.Plain (hw pS pC pN pM pG pT pL)

/-- the cells of a block, linked from the first one on -/
def lkd (f : Int → Int) (i c : Nat) : Nat → Int → Int
  | 0 => f
  | j + 1 => upd (lkd f i c j) (ca i c (j + 1)) (hw 0 c 0 0 0 0 (if j + 2 < csN c then ca i c (j + 2) else 0))
theorem lkd_ne (f : Int → Int) (i c : Nat) (k : Nat) {a : Int} (h : ∀ j, 1 ≤ j → j ≤ k → a ≠ ca i c j) : lkd f i c k a = f a := by
  induction k with
  | zero => rfl
  | succ k ih =>
    show upd _ _ _ a = _
    rw [upd_ne _ _ (h (k + 1) (by omega) (by omega)), ih fun j h1 h2 => h j h1 (by omega)]
theorem lkd_at (f : Int → Int) (i c : Nat) (hc : c ≤ 1) (k : Nat) {j : Nat} (h1 : 1 ≤ j) (h2 : j ≤ k) : lkd f i c k (ca i c j) = hw 0 c 0 0 0 0 (if j + 1 < csN c then ca i c (j + 1) else 0) := by
  induction k with
  | zero => omega
  | succ k ih =>
    show upd _ _ _ _ = _
    by_cases e : j = k + 1
    · subst e; rw [upd_at]
    · rw [upd_ne _ _ (ca_ne hc e), ih (by omega)]
section
variable {n e nb m c : Nat} {f : Int → Int} {fb fk : Nat → Nat} {s : St} {mk : Int} {u z raw H : Int}
def tkA (n e c m nb : Nat) (mk u z raw H : Int) (j : Nat) : AllS :=
  ⟨⟨mkPl 2 n, c, e, 2, ⟨H, 0, z, 0⟩, ⟨mkPl 2 n, u, if j + 1 < csN c then 5 else 6, c, e, raw, j, if j + 1 < csN c then ⟨0, 0, 0, 0, 0, 0⟩ else PushS.new H (ca nb c 1) (ca nb c (csN c - 1)) c, true⟩, z, 0⟩, c, m, mk, 1, 0, 0⟩
theorem link_steps (hn : n ≤ 6) (hnb : nb < n) (hc : c ≤ 1) (hu : t0 u = (nb : Int) + 1) (hH : 3 + 3 * (e : Int) + (c : Int) = H) (hv : Vw (32 + 32 * n) s f) (j : Nat) (hj : j + 1 ≤ csN c) :
    ∃ s', Rn j (tkA n e c m nb mk u z raw H 0) s (tkA n e c m nb mk u z raw H j) s' ∧ Vw (32 + 32 * n) s' (lkd f nb c j) := by
  induction j with
  | zero => exact ⟨s, .nil _ _, hv⟩
  | succ j ih =>
    obtain ⟨s1, R, V⟩ := ih (by omega)
    have hcs := cs_N hc
    have ad : ∀ k : Nat, (mkPl 2 n).cell (t0 u - 1) c (k : Int) = ca nb c k := fun k => by rw [hu, show (nb : Int) + 1 - 1 = nb by omega]; exact cell_ca hn nb k c hc
    have ad1 : (mkPl 2 n).cell (t0 u - 1) c ((j : Int) + 1) = ca nb c (j + 1) := by have := ad (j + 1); rwa [show ((j + 1 : Nat) : Int) = (j : Int) + 1 by omega] at this
    have ad2 : (mkPl 2 n).cell (t0 u - 1) c ((j : Int) + 2) = ca nb c (j + 2) := by have := ad (j + 2); rwa [show ((j + 2 : Nat) : Int) = (j : Int) + 2 by omega] at this
    have ad0 : (mkPl 2 n).cell (t0 u - 1) c 1 = ca nb c 1 := ad 1
    obtain ⟨b1, b2⟩ := ca_bounds (i := nb) (n := n) hc (k := j + 1) (by omega) hnb
    have w0 : 0 < wdN c := by unfold wdN; split <;> omega
    have h1 : j + 1 < csN c := by omega
    refine ⟨s1.store (ca nb c (j + 1)) (hw 0 c 0 0 0 0 (if j + 2 < csN c then ca nb c (j + 2) else 0)), R.then (show 1 ≤ 1 by omega) ?_ ?_, V.store (by omega) (by omega) _⟩
    · unfold tkA
      by_cases h2 : j + 2 < csN c
      · have h2' : (j : Int) + 2 < (csN c : Int) := by omega
        simp [AllS.next, ResS.next, TakeS.next, h1, hcs, h2', show j + 1 + 1 < csN c from h2]
      · have h2' : ¬ (j : Int) + 2 < (csN c : Int) := by omega
        have e1 : csN c - 1 = j + 1 := by omega
        simp [AllS.next, ResS.next, TakeS.next, TakeS.ad, h1, hcs, h2', show ¬ j + 1 + 1 < csN c from h2, ad0, ad1, hH, e1]
    · unfold tkA
      by_cases h2 : j + 2 < csN c
      · have h2' : (j : Int) + 2 < (csN c : Int) := by omega
        simp [AllS.mem, ResS.mem, TakeS.mem, TakeS.ad, h1, hcs, h2', h2, ad1, ad2]
      · have h2' : ¬ (j : Int) + 2 < (csN c : Int) := by omega
        simp [AllS.mem, ResS.mem, TakeS.mem, TakeS.ad, h1, hcs, h2', h2, ad1]
/-- what a taken block makes of the words -/
def took (n e c nb : Nat) (f : Int → Int) : Int → Int :=
  upd (upd (lkd (upd (upd f 2 (nx (f 2) (b3 (f (12 + nb))))) (12 + nb) (bw 1 c e 0)) nb c (csN c - 1)) (ca nb c (csN c - 1)) (hw 0 c 0 0 0 0 0)) (3 + 3 * (e : Int) + c) (nx (f (3 + 3 * (e : Int) + c)) (ca nb c 1))
theorem runB (B : Bm n e f nb fb fk) (hn : n ≤ 6) (he : e ≤ 1) (hv : Vw (32 + 32 * n) s f) (hc : c ≤ 1) (hcl : P.Plain.cl (m : Int) = (c : Int)) (hm : m < wdN c) (hk : ¬ fk c < csN c) (hnb : nb < n) :
    ∃ x s', Rn (m + 8 + csN c) (AllS.new (mkPl 2 n) m mk e) s x s' ∧ x.pc = 0 ∧ x.cell = ca nb c 0 ∧ Vw (32 + 32 * n) s' (made (took n e c nb f) (ca nb c 0) m (hw 1 c m mk 0 0 0)) := by
  have hz := B.hd c hc
  rw [if_neg hk] at hz
  have hu := B.top
  rw [if_pos hnb] at hu
  have hcs := cs_N hc
  have cs2 : 4 ≤ csN c ∧ csN c ≤ 8 := by unfold csN; split <;> omega
  have wd4 : 4 ≤ wdN c ∧ wdN c ≤ 8 := by unfold wdN; split <;> omega
  have tk : took n e c nb f = took n e c nb f := rfl
  unfold took
  obtain ⟨H, hH⟩ : ∃ H : Int, 3 + 3 * (e : Int) + c = H := ⟨_, rfl⟩
  have hH' : 3 + 3 * (e : Int) + (c : Int) = H := hH
  have H0 : 3 ≤ H ∧ H ≤ 8 := by omega
  rw [hH] at hz ⊢
  obtain ⟨z, hzz⟩ : ∃ z, f H = z := ⟨_, rfl⟩
  obtain ⟨u, huu⟩ : ∃ u, f 2 = u := ⟨_, rfl⟩
  obtain ⟨raw, hraw⟩ : ∃ r, f (12 + nb) = r := ⟨_, rfl⟩
  rw [hzz] at hz ⊢
  rw [huu] at hu ⊢
  rw [hraw]
  have g1 := (hv.got (a := H) (by omega) (by omega)).trans hzz
  have V1 := hv.load (a := H) (by omega) (by omega)
  have g2 := (V1.got (a := 2) (by omega) (by omega)).trans huu
  have V2 := V1.load (a := 2) (by omega) (by omega)
  have g3 := (V2.got (a := 12 + nb) (by omega) (by omega)).trans hraw
  have V3 := V2.load (a := 12 + nb) (by omega) (by omega)
  obtain ⟨V4, k4⟩ := V3.cas (a := 2) (o := u) (by omega) (by omega) huu (nx u (b3 raw))
  have V5 := V4.store (a := 12 + nb) (by omega) (by omega) (bw 1 c e 0)
  have ent : ((mkPl 2 n).tb + (t0 u - 1)) = 12 + (nb : Int) := by rw [hu]; show ((10 : Int) + (2 : Nat)) + _ = _; omega
  have u0 : t0 u ≠ 0 := by omega
  have s1 : Rn 1 (AllS.new (mkPl 2 n) m mk e) s ⟨⟨mkPl 2 n, c, e, 2, ⟨H, 0, z, 0⟩, TakeS.new (mkPl 2 n) c e, z, 0⟩, c, m, mk, 1, 0, 0⟩ (s.load H) := by
    refine .one (by simp [AllS.new]) ?_ ?_
    · simp [AllS.new, ResS.new, PopS.new, AllS.next, ResS.next, PopS.next, hcl, hH', g1, hz]
    · simp [AllS.new, ResS.new, PopS.new, AllS.mem, ResS.mem, PopS.mem, hcl, hH']
  have s2 := s1.then (z := ⟨⟨mkPl 2 n, c, e, 2, ⟨H, 0, z, 0⟩, ⟨mkPl 2 n, u, 2, c, e, 0, 0, ⟨0, 0, 0, 0, 0, 0⟩, false⟩, z, 0⟩, c, m, mk, 1, 0, 0⟩) (u := (s.load H).load 2) (by show 1 ≤ 1; omega) (by simp [AllS.next, ResS.next, TakeS.new, TakeS.next, g2, u0]) (by simp [AllS.mem, ResS.mem, TakeS.new, TakeS.mem])
  have s3 := s2.then (z := ⟨⟨mkPl 2 n, c, e, 2, ⟨H, 0, z, 0⟩, ⟨mkPl 2 n, u, 3, c, e, raw, 0, ⟨0, 0, 0, 0, 0, 0⟩, false⟩, z, 0⟩, c, m, mk, 1, 0, 0⟩) (u := ((s.load H).load 2).load (12 + nb)) (by show 1 ≤ 1; omega) (by simp [AllS.next, ResS.next, TakeS.next, TakeS.ent, ent, g3]) (by simp [AllS.mem, ResS.mem, TakeS.mem, TakeS.ent, ent])
  have s4 := s3.then (z := ⟨⟨mkPl 2 n, c, e, 2, ⟨H, 0, z, 0⟩, ⟨mkPl 2 n, u, 4, c, e, raw, 0, ⟨0, 0, 0, 0, 0, 0⟩, false⟩, z, 0⟩, c, m, mk, 1, 0, 0⟩) (u := (((s.load H).load 2).load (12 + nb)).cas 2 u (nx u (b3 raw))) (by show 1 ≤ 1; omega) (by simp [AllS.next, ResS.next, TakeS.next, k4]) (by simp [AllS.mem, ResS.mem, TakeS.mem])
  have s5 := s4.then (z := tkA n e c m nb mk u z raw H 0) (u := ((((s.load H).load 2).load (12 + nb)).cas 2 u (nx u (b3 raw))).store (12 + nb) (bw 1 c e 0)) (by show 1 ≤ 1; omega) (by unfold tkA; simp [AllS.next, ResS.next, TakeS.next, show 1 < csN c by omega]) (by simp [AllS.mem, ResS.mem, TakeS.mem, TakeS.ent, ent])
  obtain ⟨t, R6, V6⟩ := link_steps (m := m) (mk := mk) (z := z) (raw := raw) hn hnb hc hu hH V5 (csN c - 1) (by omega)
  have s6 := s5.trans R6
  have q1 : ¬ csN c - 1 + 1 < csN c := by omega
  unfold tkA at s6
  simp only [if_neg q1] at s6
  obtain ⟨F, hF⟩ : ∃ F, lkd (upd (upd f 2 (nx u (b3 raw))) (12 + nb) (bw 1 c e 0)) nb c (csN c - 1) = F := ⟨_, rfl⟩
  rw [hF] at V6 ⊢
  have hne : ∀ {a : Int}, 3 ≤ a → a ≤ 8 → F a = f a := fun {a} h1 h2 => by
    rw [← hF, lkd_ne _ _ _ _ fun j h3 h4 => ?_, upd_ne _ _ (by omega), upd_ne _ _ (by omega)]
    obtain ⟨b1, b2⟩ := ca_bounds (i := nb) (n := n) hc (k := j) (by omega) hnb
    omega
  obtain ⟨l1, l2⟩ := ca_bounds (i := nb) (n := n) hc (k := csN c - 1) (by omega) hnb
  obtain ⟨f1, f2⟩ := ca_bounds (i := nb) (n := n) hc (k := 1) (by omega) hnb
  obtain ⟨o1, o2⟩ := ca_bounds (i := nb) (n := n) hc (k := 0) (by omega) hnb
  have g7 : t.got H = z := (V6.got (by omega) (by omega)).trans ((hne (by omega) (by omega)).trans hzz)
  have V7 := V6.load (a := H) (by omega) (by omega)
  have V8 := V7.store (a := ca nb c (csN c - 1)) (by omega) (by omega) (hw 0 c 0 0 0 0 0)
  have hz8 : upd F (ca nb c (csN c - 1)) (hw 0 c 0 0 0 0 0) H = z := by rw [upd_ne _ _ (by omega)]; exact (hne (by omega) (by omega)).trans hzz
  obtain ⟨V9, k9⟩ := V8.cas (a := H) (o := z) (by omega) (by omega) hz8 (nx z (ca nb c 1))
  have s7 := s6.then (z := ⟨⟨mkPl 2 n, c, e, 2, ⟨H, 0, z, 0⟩, ⟨mkPl 2 n, u, 6, c, e, raw, (csN c - 1 : Nat), ⟨H, ca nb c 1, ca nb c (csN c - 1), c, z, 2⟩, true⟩, z, 0⟩, c, m, mk, 1, 0, 0⟩) (u := t.load H) (by show 1 ≤ 1; omega) (by simp [AllS.next, ResS.next, TakeS.next, PushS.next, PushS.new, g7]) (by simp [AllS.mem, ResS.mem, TakeS.mem, PushS.mem, PushS.new])
  have s8 := s7.then (z := ⟨⟨mkPl 2 n, c, e, 2, ⟨H, 0, z, 0⟩, ⟨mkPl 2 n, u, 6, c, e, raw, (csN c - 1 : Nat), ⟨H, ca nb c 1, ca nb c (csN c - 1), c, z, 3⟩, true⟩, z, 0⟩, c, m, mk, 1, 0, 0⟩) (u := (t.load H).store (ca nb c (csN c - 1)) (hw 0 c 0 0 0 0 0)) (by show 1 ≤ 1; omega) (by simp [AllS.next, ResS.next, TakeS.next, PushS.next]) (by simp [AllS.mem, ResS.mem, TakeS.mem, PushS.mem, hz])
  have ad0 : (mkPl 2 n).cell (t0 u - 1) c 0 = ca nb c 0 := by rw [hu, show (nb : Int) + 1 - 1 = nb by omega]; exact cell_ca hn nb 0 c hc
  have A0 : ca nb c 0 ≠ 0 := by omega
  have s9 := s8.then (z := ⟨⟨mkPl 2 n, c, e, 0, ⟨H, 0, z, 0⟩, ⟨mkPl 2 n, u, 0, c, e, raw, (csN c - 1 : Nat), ⟨H, ca nb c 1, ca nb c (csN c - 1), c, z, 0⟩, true⟩, z, ca nb c 0⟩, c, m, mk, if (0 : Int) < m then 2 else 3, 0, 0⟩) (u := ((t.load H).store (ca nb c (csN c - 1)) (hw 0 c 0 0 0 0 0)).cas H z (nx z (ca nb c 1))) (by show 1 ≤ 1; omega) (by simp [AllS.next, ResS.next, TakeS.next, PushS.next, TakeS.cell, TakeS.ad, k9, u0, ad0, A0]) (by simp [AllS.mem, ResS.mem, TakeS.mem, PushS.mem])
  obtain ⟨s', R, V⟩ := tail_run (mk := mk) (m := m) V9 (r := ⟨mkPl 2 n, c, e, 0, ⟨H, 0, z, 0⟩, ⟨mkPl 2 n, u, 0, c, e, raw, (csN c - 1 : Nat), ⟨H, ca nb c 1, ca nb c (csN c - 1), c, z, 0⟩, true⟩, z, ca nb c 0⟩) (A := ca nb c 0) (c := c) rfl rfl (by omega) (by omega)
  have R4 := s9.trans R
  rw [show 1 + 1 + 1 + 1 + 1 + (csN c - 1) + 1 + 1 + 1 + (m + 1) = m + 8 + csN c by omega] at R4
  exact ⟨_, s', R4, rfl, rfl, V⟩
end
end Go.Proofs.YtoablodmodnamaaDoor

namespace Go.Proofs.YtoablodmodnamaaDoor
set_option linter.unusedVariables false
set_option linter.unusedSimpArgs false
set_option maxRecDepth 100000
open Go.ChangeShapes Go.WideShapes Go.RowKit
open S.Plain (t0 t1 tw nx bw b0 b1 b2 b3)
open H.Plain (hw pS pC pN pM pG pT pL)

/-- an object: its block, its cell there, its count, its mark -/
structure Ob where
  i : Nat
  k : Nat
  m : Nat
  g : Int
/-- its class -/
def Ob.c (o : Ob) : Nat := if o.m ≤ 3 then 0 else 1
def Ob.at (o : Ob) : Int := ca o.i o.c o.k
theorem Ob.c1 (o : Ob) : o.c ≤ 1 := by unfold Ob.c; split <;> omega
theorem Ob.mw {o : Ob} (h : o.m ≤ 7) : o.m < wdN o.c := by unfold Ob.c wdN; split <;> simp <;> omega
theorem cl_ob {m : Nat} (h : m ≤ 7) : P.Plain.cl (m : Int) = ((if m ≤ 3 then 0 else 1 : Nat) : Int) := by
  unfold P.Plain.cl
  by_cases h3 : m ≤ 3
  · rw [if_neg (by omega), if_pos (by omega), if_pos h3]; rfl
  · rw [if_neg (by omega), if_neg (by omega), if_pos (by omega), if_neg h3]; rfl
/-- two cells have no word in common -/
theorem ca_apart {i c k i' c' k' n : Nat} (hc : c ≤ 1) (hc' : c' ≤ 1) (hk : k < csN c) (hk' : k' < csN c') (h : i = i' → c = c') (hne : ¬ (i = i' ∧ k = k')) : ca i c k + wdN c ≤ ca i' c' k' ∨ ca i' c' k' + wdN c' ≤ ca i c k := by
  by_cases e : i = i'
  · subst e
    obtain rfl := h rfl
    have hkk : k ≠ k' := fun e => hne ⟨rfl, e⟩
    unfold ca
    obtain rfl | rfl : c = 0 ∨ c = 1 := by omega
    · simp [wdN]; omega
    · simp [wdN]; omega
  · obtain ⟨a1, a2⟩ := ca_bounds (i := i) (n := i + 1) hc hk (by omega)
    obtain ⟨b1, b2⟩ := ca_bounds (i := i') (n := i' + 1) hc' hk' (by omega)
    omega
structure Hp (n e : Nat) (f : Int → Int) (nb : Nat) (fb fk cb : Nat → Nat) (l : List Ob) : Prop where
  bm : Bm n e f nb fb fk
  cls : ∀ c : Nat, c ≤ 1 → fk c < csN c → cb (fb c) = c
  m7 : ∀ o ∈ l, o.m ≤ 7
  ocb : ∀ o ∈ l, cb o.i = o.c
  onb : ∀ o ∈ l, o.i < nb
  okc : ∀ o ∈ l, o.k < csN o.c
  ofk : ∀ o ∈ l, fk o.c < csN o.c → o.i = fb o.c → o.k < fk o.c
  dis : l.Pairwise fun a b => ¬ (a.i = b.i ∧ a.k = b.k)
  hdr : ∀ o ∈ l, f o.at = hw 1 o.c o.m o.g 0 0 0
  fld : ∀ o ∈ l, ∀ j : Nat, j < o.m → f (o.at + 1 + j) = 0
  low : f 0 = 0 ∧ f 1 = 0 ∧ f 9 = 0 ∧ f 10 = 0 ∧ f 11 = 0
theorem made_out (f : Int → Int) (A : Int) (m : Nat) (h : Int) {a : Int} (ha : a < A ∨ A + m < a) : made f A m h a = f a := by
  unfold made zeroed
  rw [upd_ne _ _ (by omega), if_neg (by omega)]
theorem made_at (f : Int → Int) (A : Int) (m : Nat) (h : Int) : made f A m h A = h := upd_at _ _ _
theorem made_in (f : Int → Int) (A : Int) (m : Nat) (h : Int) (j : Nat) (hj : j < m) : made f A m h (A + 1 + j) = 0 := by
  unfold made zeroed
  rw [upd_ne _ _ (by omega), if_pos (by omega)]
def updF (f : Nat → Nat) (k v : Nat) : Nat → Nat := fun j => if j = k then v else f j
theorem updF_at (f : Nat → Nat) (k v : Nat) : updF f k v k = v := if_pos rfl
theorem updF_ne (f : Nat → Nat) {j k : Nat} (v : Nat) (h : j ≠ k) : updF f k v j = f j := if_neg h
theorem cs_8 (c : Nat) : 4 ≤ csN c ∧ csN c ≤ 8 := by unfold csN; split <;> omega
theorem wd_8 (c : Nat) : 4 ≤ wdN c ∧ wdN c ≤ 8 := by unfold wdN; split <;> omega
section
variable {n e nb m c : Nat} {f : Int → Int} {fb fk cb : Nat → Nat} {l : List Ob} {mk : Int}
/-- one more object, out of a list's first cell -/
theorem Hp.more (h : Hp n e f nb fb fk cb l) (hn : n ≤ 6) (he : e ≤ 1) (m7 : m ≤ 7) (hc : (if m ≤ 3 then 0 else 1) = c) (hk : fk c < csN c) :
    Hp n e (made (upd f (3 + 3 * (e : Int) + c) (nx (f (3 + 3 * (e : Int) + c)) (pL (f (ca (fb c) c (fk c)))))) (ca (fb c) c (fk c)) m (hw 1 c m mk 0 0 0)) nb fb (updF fk c (fk c + 1)) cb (l ++ [⟨fb c, fk c, m, mk⟩]) := by
  obtain ⟨B, hcls, h7, hocb, honb, hokc, hofk, hdis, hhdr, hfld, hlow⟩ := h
  have c1 : c ≤ 1 := by rw [← hc]; split <;> omega
  have B' := B
  obtain ⟨nbn, top, ent, hd, lk, fbn, fk1, sep⟩ := B'
  have hb := fbn c c1 hk
  have hmw : m < wdN c := by rw [← hc]; unfold wdN; split <;> simp <;> omega
  obtain ⟨a1, a2⟩ := ca_bounds (i := fb c) (n := n) c1 hk (by omega)
  obtain ⟨A, hA⟩ : ∃ A, ca (fb c) c (fk c) = A := ⟨_, rfl⟩
  have cs8 := cs_8 c
  have lkc := lk c (fk c) c1 (Nat.le_refl _) hk
  rw [hA] at a1 a2 lkc ⊢
  rw [lkc]
  obtain ⟨H, hH⟩ : ∃ H : Int, 3 + 3 * (e : Int) + c = H := ⟨_, rfl⟩
  have hH' : 3 + 3 * (e : Int) + (c : Int) = H := hH
  have H0 : 3 ≤ H ∧ H ≤ 8 := by omega
  rw [hH]
  obtain ⟨X, hX⟩ : ∃ X, nx (f H) (if fk c + 1 < csN c then ca (fb c) c (fk c + 1) else 0) = X := ⟨_, rfl⟩
  rw [hX]
  obtain ⟨o, ho⟩ : ∃ o : Ob, o = ⟨fb c, fk c, m, mk⟩ := ⟨_, rfl⟩
  have oc : o.c = c := by rw [ho]; exact hc
  have oA : o.at = A := by unfold Ob.at; rw [oc, ho]; exact hA
  rw [← ho]
  -- what is elsewhere stays
  have out : ∀ a : Int, a ≠ H → (a < A ∨ A + m < a) → made (upd f H X) A m (hw 1 c m mk 0 0 0) a = f a := fun a h1 h2 => by rw [made_out _ _ _ _ h2, upd_ne _ _ h1]
  -- other objects' cells are apart
  have apart : ∀ q ∈ l, q.at + wdN q.c ≤ A ∨ A + wdN c ≤ q.at := fun q hq => by
    have := ca_apart (n := n) (i := q.i) (i' := fb c) q.c1 c1 (hokc q hq) hk (fun e' => by rw [← hocb q hq, e', hcls c c1 hk]) (fun e' => by
      have e1 : q.c = c := by rw [← hocb q hq, e'.1, hcls c c1 hk]
      have := hofk q hq (by rw [e1]; exact hk) (by rw [e1]; exact e'.1)
      rw [e1] at this
      omega)
    rw [hA] at this
    exact this
  have qb : ∀ q ∈ l, 32 ≤ q.at ∧ q.m < wdN q.c := fun q hq => by
    obtain ⟨q1, q2⟩ := ca_bounds (i := q.i) (n := n) q.c1 (hokc q hq) (by have := honb q hq; omega)
    exact ⟨by unfold Ob.at; omega, Ob.mw (h7 q hq)⟩
  refine ⟨⟨nbn, ?_, ?_, ?_, ?_, ?_, ?_, ?_⟩, ?_, ?_, ?_, ?_, ?_, ?_, ?_, ?_, ?_, ?_⟩
  · rw [out 2 (by omega) (by omega)]; exact top
  · intro i h1 h2; rw [out _ (by omega) (by omega)]; exact ent i h1 h2
  · intro c' hc'
    by_cases e1 : c' = c
    · subst e1
      rw [hH, updF_at, made_out _ _ _ _ (by omega), upd_at, ← hX]
      split
      · obtain ⟨b1, b2⟩ := ca_bounds (i := fb c') (k := fk c' + 1) (n := n) c1 (by omega) (by omega)
        exact t0_nx _ _ (by omega) (by have := wd_8 c'; omega)
      · exact t0_nx _ _ (by omega) (by omega)
    · rw [updF_ne _ _ e1, out _ (by omega) (by omega)]; exact hd c' hc'
  · intro c' j hc' h1 h2
    by_cases e1 : c' = c
    · subst e1
      rw [updF_at] at h1
      have := ca_apart (n := n) (i := fb c') (i' := fb c') (k := j) (k' := fk c') hc' hc' h2 hk (fun _ => rfl) (by omega)
      rw [hA] at this
      obtain ⟨b1, b2⟩ := ca_bounds (i := fb c') (k := j) (n := n) hc' h2 (by omega)
      have := wd_8 c'
      rw [out _ (by omega) (by omega)]
      exact lk c' j hc' (by omega) h2
    · rw [updF_ne _ _ e1] at h1
      have hk' : fk c' < csN c' := by omega
      have hfb : fb c' ≠ fb c := by
        obtain rfl | rfl : c = 0 ∨ c = 1 := by omega
        · obtain rfl : c' = 1 := by omega
          exact (sep hk hk').symm
        · obtain rfl : c' = 0 := by omega
          exact sep hk' hk
      have := ca_apart (n := n) (i := fb c') (i' := fb c) (k := j) (k' := fk c) hc' c1 h2 hk (fun e' => absurd e' hfb) (fun e' => hfb e'.1)
      rw [hA] at this
      obtain ⟨b1, b2⟩ := ca_bounds (i := fb c') (k := j) (n := n) hc' h2 (by have := fbn c' hc' hk'; omega)
      have := wd_8 c'
      rw [out _ (by omega) (by omega)]
      exact lk c' j hc' h1 h2
  · intro c' hc' h1
    by_cases e1 : c' = c
    · subst e1; exact hb
    · rw [updF_ne _ _ e1] at h1; exact fbn c' hc' h1
  · intro c' hc'
    by_cases e1 : c' = c
    · subst e1; rw [updF_at]; omega
    · rw [updF_ne _ _ e1]; exact fk1 c' hc'
  · intro h1 h2
    apply sep
    · by_cases e1 : 0 = c
      · rw [e1]; exact hk
      · rwa [updF_ne _ _ e1] at h1
    · by_cases e1 : 1 = c
      · rw [e1]; exact hk
      · rwa [updF_ne _ _ e1] at h2
  · intro c' hc' h1
    by_cases e1 : c' = c
    · subst e1; exact hcls c' hc' hk
    · rw [updF_ne _ _ e1] at h1; exact hcls c' hc' h1
  · intro q hq
    rw [List.mem_append, List.mem_singleton] at hq
    rcases hq with hq | rfl
    · exact h7 q hq
    · rw [ho]; exact m7
  · intro q hq
    rw [List.mem_append, List.mem_singleton] at hq
    rcases hq with hq | rfl
    · exact hocb q hq
    · rw [oc, ho]; exact hcls c c1 hk
  · intro q hq
    rw [List.mem_append, List.mem_singleton] at hq
    rcases hq with hq | rfl
    · exact honb q hq
    · rw [ho]; exact hb
  · intro q hq
    rw [List.mem_append, List.mem_singleton] at hq
    rcases hq with hq | rfl
    · exact hokc q hq
    · rw [oc, ho]; exact hk
  · intro q hq h1 h2
    rw [List.mem_append, List.mem_singleton] at hq
    rcases hq with hq | rfl
    · by_cases e1 : q.c = c
      · rw [e1] at h1 h2 ⊢
        rw [updF_at]
        have := hofk q hq (by rw [e1]; exact hk) (by rw [e1]; exact h2)
        rw [e1] at this
        omega
      · rw [updF_ne _ _ e1] at h1 ⊢
        exact hofk q hq h1 h2
    · rw [oc, updF_at, ho]; show fk c < fk c + 1; omega
  · rw [List.pairwise_append]
    refine ⟨hdis, List.pairwise_singleton _ _, fun a ha b hb' => ?_⟩
    obtain rfl := List.mem_singleton.1 hb'
    rw [ho]
    rintro ⟨e1, e2⟩
    have e3 : a.c = c := by rw [← hocb a ha, show a.i = fb c from e1, hcls c c1 hk]
    have := hofk a ha (by rw [e3]; exact hk) (by rw [e3]; exact e1)
    rw [e3] at this
    have e2' : a.k = fk c := e2
    omega
  · intro q hq
    rw [List.mem_append, List.mem_singleton] at hq
    rcases hq with hq | rfl
    · have h1 := apart q hq
      have h2 := qb q hq
      have := wd_8 c
      rw [out _ (by omega) (by omega)]
      exact hhdr q hq
    · rw [oA, oc, made_at, ho]
  · intro q hq j hj
    rw [List.mem_append, List.mem_singleton] at hq
    rcases hq with hq | rfl
    · have h1 := apart q hq
      have h2 := qb q hq
      rw [out _ (by omega) (by omega)]
      exact hfld q hq j hj
    · rw [oA]
      exact made_in _ _ _ _ j (by rw [ho] at hj; exact hj)
  · rw [out 0 (by omega) (by omega), out 1 (by omega) (by omega), out 9 (by omega) (by omega), out 10 (by omega) (by omega), out 11 (by omega) (by omega)]
    exact hlow
end
end Go.Proofs.YtoablodmodnamaaDoor
