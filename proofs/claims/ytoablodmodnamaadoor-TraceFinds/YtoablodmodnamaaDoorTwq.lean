/-
  The reference's heap while it is built: blocks are taken one behind the other, cells of a block one behind the other.
-/
import Derived.Test.YtoablodmodnamaaDoorBaq
import Derived.Test.YtoablodmodnamaaDoorBfq
namespace Go.Proofs.YtoablodmodnamaaDoor
set_option linter.unusedVariables false
set_option linter.unusedSimpArgs false
set_option maxRecDepth 100000
open Go.ChangeShapes Go.WideShapes Go.RowKit
open S.Plain (t0 t1 tw nx bw b0 b1 b2 b3)
open H.Plain (hw pS pC pN pM pG pT pL)

/-- the words of a memory of n words, without a trap -/
structure Vw (n : Nat) (s : St) (f : Int → Int) : Prop where
  len : s.ws.length = n
  t : s.t = 0
  word : ∀ a : Int, 0 ≤ a → a < n → s.word a = f a
def upd (f : Int → Int) (a v : Int) : Int → Int := fun b => if b = a then v else f b
theorem upd_at (f : Int → Int) (a v : Int) : upd f a v a = v := if_pos rfl
theorem upd_ne (f : Int → Int) {a b : Int} (v : Int) (h : b ≠ a) : upd f a v b = f b := if_neg h
section
variable {n : Nat} {s : St} {f g : Int → Int} {a v o : Int}
theorem Vw.in_ (h : Vw n s f) (h0 : 0 ≤ a) (h1 : a < n) : s.In a := ⟨h0, by rw [h.len]; exact h1⟩
theorem Vw.got (h : Vw n s f) (h0 : 0 ≤ a) (h1 : a < n) : s.got a = f a := by rw [(h.in_ h0 h1).got, h.word a h0 h1]
theorem Vw.load (h : Vw n s f) (h0 : 0 ≤ a) (h1 : a < n) : Vw n (s.load a) f := ⟨h.len, by rw [St.t_load' (h.in_ h0 h1)]; exact h.t, h.word⟩
theorem len_store (s : St) (a v : Int) : (s.store a v).ws.length = s.ws.length := by
  simp only [St.store, St.tell, St.put]; split <;> simp
theorem len_cas (s : St) (a o v : Int) : (s.cas a o v).ws.length = s.ws.length := by
  simp only [St.cas, St.tell, St.put]; split <;> simp
theorem Vw.store (h : Vw n s f) (h0 : 0 ≤ a) (h1 : a < n) (v : Int) : Vw n (s.store a v) (upd f a v) :=
  ⟨by rw [len_store]; exact h.len, by rw [St.t_store' (h.in_ h0 h1)]; exact h.t, fun b hb hb' => by
    rw [St.word_store' (h.in_ h0 h1) (h.in_ hb hb')]
    unfold upd
    by_cases e : a = b
    · rw [if_pos e, if_pos e.symm]
    · rw [if_neg e, if_neg (Ne.symm e), h.word b hb hb']⟩
theorem Vw.cas (h : Vw n s f) (h0 : 0 ≤ a) (h1 : a < n) (ho : f a = o) (v : Int) : Vw n (s.cas a o v) (upd f a v) ∧ s.ok1 a o = true := by
  have hw' : s.word a = o := (h.word a h0 h1).trans ho
  refine ⟨⟨by rw [len_cas]; exact h.len, by rw [St.t_cas' (h.in_ h0 h1)]; exact h.t, fun b hb hb' => ?_⟩, by rw [St.ok1_iff' (h.in_ h0 h1), hw']; simp⟩
  rw [St.word_cas_ok' (h.in_ h0 h1) (h.in_ hb hb') hw']
  unfold upd
  by_cases e : a = b
  · rw [if_pos e, if_pos e.symm]
  · rw [if_neg e, if_neg (Ne.symm e), h.word b hb hb']
theorem Vw.as (h : Vw n s f) (e : ∀ a : Int, 0 ≤ a → a < n → g a = f a) : Vw n s g := ⟨h.len, h.t, fun a h0 h1 => by rw [h.word a h0 h1, e a h0 h1]⟩
end
theorem t0_nx (z x : Int) (h : 0 ≤ x) (h' : x < 4096) : t0 (nx z x) = x := by
  unfold S.Plain.nx
  rw [S.Plain.t0_tw]; omega
theorem pL_hw (a b c d e g L : Int) (h : 0 ≤ L) (h' : L < 4096) : pL (hw a b c d e g L) = L := by
  unfold H.Plain.hw H.Plain.pL; omega
/-- some steps of an Alloc, one behind the other, none of them behind its end -/
inductive Rn : Nat → AllS → St → AllS → St → Prop
  | nil (x : AllS) (s : St) : Rn 0 x s x s
  | cons {k : Nat} {x y : AllS} {s t : St} (h : 1 ≤ x.pc) (r : Rn k (x.next s) (x.mem s) y t) : Rn (k + 1) x s y t
theorem Rn.trans {k l : Nat} {x y z : AllS} {s t u : St} (a : Rn k x s y t) (b : Rn l y t z u) : Rn (k + l) x s z u := by
  induction a with
  | nil => simpa using b
  | @cons k x y s t h r ih => rw [show k + 1 + l = (k + l) + 1 by omega]; exact .cons h (ih b)
theorem Rn.one {x y : AllS} {s t : St} (h : 1 ≤ x.pc) (e : x.next s = y) (e' : x.mem s = t) : Rn 1 x s y t := .cons h (by rw [e, e']; exact .nil _ _)
theorem Rn.then {k : Nat} {x y z : AllS} {s t u : St} (a : Rn k x s y t) (h : 1 ≤ y.pc) (e : y.next t = z) (e' : y.mem t = u) : Rn (k + 1) x s z u := a.trans (.one h e e')
/-- fields that are cleared -/
def zeroed (f : Int → Int) (A : Int) (k : Nat) : Int → Int := fun b => if A < b ∧ b ≤ A + k then 0 else f b
/-- an object that is made -/
def made (f : Int → Int) (A : Int) (m : Nat) (h : Int) : Int → Int := upd (zeroed f A m) A h
section
variable {n m : Nat} {s : St} {f : Int → Int} {r : ResS} {A c mk : Int}
theorem tail_steps (hv : Vw n s f) (hA : r.cell = A) (a0 : 0 ≤ A) (a1 : A + m < n) (j : Nat) (hj : j ≤ m) :
    ∃ s', Rn j (⟨r, c, m, mk, if (0 : Int) < m then 2 else 3, 0, 0⟩ : AllS) s ⟨r, c, m, mk, if (j : Int) < m then 2 else 3, j, 0⟩ s' ∧ Vw n s' (zeroed f A j) := by
  induction j with
  | zero => exact ⟨s, .nil _ _, hv.as fun a _ _ => by unfold zeroed; rw [if_neg (by omega)]⟩
  | succ j ih =>
    obtain ⟨s1, R, V⟩ := ih (by omega)
    have h2 : ((j : Int) < m) := by omega
    rw [if_pos h2] at R
    refine ⟨s1.store (A + ((j : Int) + 1)) 0, R.then (show 1 ≤ 2 by omega) ?_ ?_, (V.store (by omega) (by omega) 0).as fun a _ _ => ?_⟩
    · simp only [AllS.next]
      rw [show ((j + 1 : Nat) : Int) = (j : Int) + 1 by omega]
    · simp only [AllS.mem, hA]
    · unfold upd zeroed
      by_cases e : a = A + ((j : Int) + 1)
      · rw [if_pos (by omega), if_pos e]
      · rw [if_neg e]
        by_cases e2 : A < a ∧ a ≤ A + j
        · rw [if_pos (by omega), if_pos e2]
        · rw [if_neg (by omega), if_neg e2]
/-- a cell is there: its fields are cleared, its header is stored -/
theorem tail_run (hv : Vw n s f) (hA : r.cell = A) (hc : r.cls = c) (a0 : 0 ≤ A) (a1 : A + m < n) :
    ∃ s', Rn (m + 1) (⟨r, c, m, mk, if (0 : Int) < m then 2 else 3, 0, 0⟩ : AllS) s ⟨r, c, m, mk, 0, m, A⟩ s' ∧ Vw n s' (made f A m (hw 1 c m mk 0 0 0)) := by
  obtain ⟨s1, R, V⟩ := tail_steps (c := c) (mk := mk) hv hA a0 a1 m (Nat.le_refl _)
  rw [if_neg (show ¬ ((m : Int) < m) by omega)] at R
  refine ⟨s1.store A (hw 1 c m mk 0 0 0), R.then (show 1 ≤ 3 by omega) ?_ ?_, V.store a0 (by omega) _⟩
  · simp only [AllS.next, hA]
  · simp only [AllS.mem, hA]
end
end Go.Proofs.YtoablodmodnamaaDoor

namespace Go.Proofs.YtoablodmodnamaaDoor
set_option linter.unusedVariables false
set_option linter.unusedSimpArgs false
set_option maxRecDepth 100000
open Go.ChangeShapes Go.WideShapes Go.RowKit
open S.Plain (t0 t1 tw nx bw b0 b1 b2 b3)
open H.Plain (hw pS pC pN pM pG pT pL)

/-- of a class (0, 1): how many cells a block has, how many words a cell -/
def csN (c : Nat) : Nat := if c = 0 then 8 else 4
def wdN (c : Nat) : Nat := if c = 0 then 4 else 8
/-- where a cell stands -/
def ca (i c k : Nat) : Int := 32 + 32 * (i : Int) + (k : Int) * (wdN c : Int)
theorem cs_N {c : Nat} (h : c ≤ 1) : P.Plain.cs (c : Int) = (csN c : Int) := by
  obtain rfl | rfl : c = 0 ∨ c = 1 := by omega
  · rfl
  · rfl
theorem cell_ca {n : Nat} (hn : n ≤ 6) (i k c : Nat) (h : c ≤ 1) : (mkPl 2 n).cell i c k = ca i c k := by
  have : (hpN 2 n) = 32 := by unfold hpN; omega
  simp only [Pl.cell, mkPl, ca, this]
  obtain rfl | rfl : c = 0 ∨ c = 1 := by omega
  · simp [P.Plain.wd, wdN]
  · simp [P.Plain.wd, wdN]
theorem cl_c {m : Nat} (h : m ≤ 7) : ∃ c : Nat, c ≤ 1 ∧ P.Plain.cl (m : Int) = (c : Int) ∧ m < wdN c := by
  unfold P.Plain.cl
  by_cases h3 : m ≤ 3
  · exact ⟨0, by omega, by rw [if_neg (by omega), if_pos (by omega)]; rfl, by simp [wdN]; omega⟩
  · exact ⟨1, by omega, by rw [if_neg (by omega), if_neg (by omega), if_pos (by omega)]; rfl, by simp [wdN]; omega⟩
theorem ca_bounds {i c k n : Nat} (hc : c ≤ 1) (hk : k < csN c) (hi : i < n) : 32 + 32 * (i : Int) ≤ ca i c k ∧ ca i c k + wdN c ≤ 64 + 32 * (i : Int) := by
  unfold ca
  obtain rfl | rfl : c = 0 ∨ c = 1 := by omega
  · simp [csN, wdN] at hk ⊢; omega
  · simp [csN, wdN] at hk ⊢; omega
theorem ca_ne {i c j k : Nat} (hc : c ≤ 1) (h : j ≠ k) : ca i c j ≠ ca i c k := by
  unfold ca
  obtain rfl | rfl : c = 0 ∨ c = 1 := by omega
  · simp [wdN]; omega
  · simp [wdN]; omega
/-- nb blocks are taken; of each class the list has the cells from fk on of the block fb -/
structure Bm (n : Nat) (e : Nat) (f : Int → Int) (nb : Nat) (fb fk : Nat → Nat) : Prop where
  nbn : nb ≤ n
  top : t0 (f 2) = if nb < n then (nb : Int) + 1 else 0
  ent : ∀ i : Nat, nb ≤ i → i < n → b3 (f (12 + i)) = nextOf n i
  hd : ∀ c : Nat, c ≤ 1 → t0 (f (3 + 3 * (e : Int) + c)) = if fk c < csN c then ca (fb c) c (fk c) else 0
  lk : ∀ c j : Nat, c ≤ 1 → fk c ≤ j → j < csN c → pL (f (ca (fb c) c j)) = if j + 1 < csN c then ca (fb c) c (j + 1) else 0
  fbn : ∀ c : Nat, c ≤ 1 → fk c < csN c → fb c < nb
  fk1 : ∀ c : Nat, c ≤ 1 → 1 ≤ fk c ∧ fk c ≤ csN c
  sep : fk 0 < csN 0 → fk 1 < csN 1 → fb 0 ≠ fb 1
section
variable {n e nb m c : Nat} {f : Int → Int} {fb fk : Nat → Nat} {s : St} {mk : Int}
/-- a cell of the list -/
theorem runA (B : Bm n e f nb fb fk) (hn : n ≤ 6) (he : e ≤ 1) (hv : Vw (32 + 32 * n) s f) (hc : c ≤ 1) (hcl : P.Plain.cl (m : Int) = (c : Int)) (hm : m < wdN c) (hk : fk c < csN c) :
    ∃ x s', Rn (m + 4) (AllS.new (mkPl 2 n) m mk e) s x s' ∧ x.pc = 0 ∧ x.cell = ca (fb c) c (fk c) ∧ Vw (32 + 32 * n) s' (made (upd f (3 + 3 * (e : Int) + c) (nx (f (3 + 3 * (e : Int) + c)) (pL (f (ca (fb c) c (fk c)))))) (ca (fb c) c (fk c)) m (hw 1 c m mk 0 0 0)) := by
  have hb := B.fbn c hc hk
  have hbn := B.nbn
  obtain ⟨b1, b2⟩ := ca_bounds (i := fb c) (n := n) hc hk (by omega)
  have hz := B.hd c hc
  rw [if_pos hk] at hz
  obtain ⟨A, hA⟩ : ∃ A, ca (fb c) c (fk c) = A := ⟨_, rfl⟩
  rw [hA] at b1 b2 hz ⊢
  obtain ⟨H, hH⟩ : ∃ H : Int, 3 + 3 * (e : Int) + c = H := ⟨_, rfl⟩
  have hH' : 3 + 3 * (e : Int) + (c : Int) = H := hH
  have H0 : 3 ≤ H ∧ H ≤ 8 := by omega
  rw [hH] at hz ⊢
  have A0 : A ≠ 0 := by omega
  obtain ⟨z, hzz⟩ : ∃ z, f H = z := ⟨_, rfl⟩
  obtain ⟨L, hL⟩ : ∃ L, pL (f A) = L := ⟨_, rfl⟩
  rw [hzz] at hz ⊢
  rw [hL]
  have g1 := hv.got (a := H) (by omega) (by omega)
  rw [hzz] at g1
  have V1 := hv.load (a := H) (by omega) (by omega)
  have g2 : (s.load H).got A = f A := V1.got (by omega) (by omega)
  have V2 := V1.load (a := A) (by omega) (by omega)
  obtain ⟨V3, k3⟩ := V2.cas (a := H) (o := z) (by omega) (by omega) hzz (nx z L)
  have s1 : Rn 1 (AllS.new (mkPl 2 n) m mk e) s ⟨⟨mkPl 2 n, c, e, 1, ⟨H, 0, z, 2⟩, TakeS.zero, 0, 0⟩, c, m, mk, 1, 0, 0⟩ (s.load H) := by
    refine .one (by simp [AllS.new]) ?_ ?_
    · simp [AllS.new, ResS.new, PopS.new, AllS.next, ResS.next, PopS.next, hcl, hH', g1, hz, A0]
    · simp [AllS.new, ResS.new, PopS.new, AllS.mem, ResS.mem, PopS.mem, hcl, hH']
  have s2 := s1.then (z := ⟨⟨mkPl 2 n, c, e, 1, ⟨H, L, z, 3⟩, TakeS.zero, 0, 0⟩, c, m, mk, 1, 0, 0⟩) (u := (s.load H).load A) (by show 1 ≤ 1; omega) (by simp [AllS.next, ResS.next, PopS.next, hz, g2, hL]) (by simp [AllS.mem, ResS.mem, PopS.mem, hz])
  have s3 := s2.then (z := ⟨⟨mkPl 2 n, c, e, 0, ⟨H, L, z, 0⟩, TakeS.zero, z, A⟩, c, m, mk, if (0 : Int) < m then 2 else 3, 0, 0⟩) (u := ((s.load H).load A).cas H z (nx z L)) (by show 1 ≤ 1; omega) (by simp [AllS.next, ResS.next, PopS.next, k3, hz, A0]) (by simp [AllS.mem, ResS.mem, PopS.mem])
  obtain ⟨s', R, V⟩ := tail_run (mk := mk) (m := m) V3 (r := ⟨mkPl 2 n, c, e, 0, ⟨H, L, z, 0⟩, TakeS.zero, z, A⟩) (A := A) (c := c) rfl rfl (by omega) (by omega)
  have R4 := s3.trans R
  rw [show 1 + 1 + 1 + (m + 1) = m + 4 by omega] at R4
  exact ⟨_, s', R4, rfl, rfl, V⟩
/-- there is no cell, and no block -/
theorem runC (B : Bm n e f nb fb fk) (hn : n ≤ 6) (h1 : 1 ≤ n) (he : e ≤ 1) (hv : Vw (32 + 32 * n) s f) (hc : c ≤ 1) (hcl : P.Plain.cl (m : Int) = (c : Int)) (hk : ¬ fk c < csN c) (hnb : ¬ nb < n) :
    ∃ x s', Rn 3 (AllS.new (mkPl 2 n) m mk e) s x s' ∧ x.pc = 0 ∧ x.cell = 0 ∧ Vw (32 + 32 * n) s' f := by
  have hz := B.hd c hc
  rw [if_neg hk] at hz
  have ht := B.top
  rw [if_neg hnb] at ht
  obtain ⟨H, hH⟩ : ∃ H : Int, 3 + 3 * (e : Int) + c = H := ⟨_, rfl⟩
  have H0 : 3 ≤ H ∧ H ≤ 8 := by omega
  rw [hH] at hz
  obtain ⟨z, hzz⟩ : ∃ z, f H = z := ⟨_, rfl⟩
  obtain ⟨u, hu⟩ : ∃ u, f 2 = u := ⟨_, rfl⟩
  rw [hzz] at hz
  rw [hu] at ht
  have g1 := hv.got (a := H) (by omega) (by omega)
  rw [hzz] at g1
  have V1 := hv.load (a := H) (by omega) (by omega)
  have g2 : (s.load H).got 2 = u := (V1.got (by omega) (by omega)).trans hu
  have V2 := V1.load (a := 2) (by omega) (by omega)
  have g3 : ((s.load H).load 2).got H = z := (V2.got (by omega) (by omega)).trans hzz
  have V3 := V2.load (a := H) (by omega) (by omega)
  have s1 : Rn 1 (AllS.new (mkPl 2 n) m mk e) s ⟨⟨mkPl 2 n, c, e, 2, ⟨H, 0, z, 0⟩, TakeS.new (mkPl 2 n) c e, z, 0⟩, c, m, mk, 1, 0, 0⟩ (s.load H) := by
    refine .one (by simp [AllS.new]) ?_ ?_
    · simp [AllS.new, ResS.new, PopS.new, AllS.next, ResS.next, PopS.next, hcl, hH, g1, hz]
    · simp [AllS.new, ResS.new, PopS.new, AllS.mem, ResS.mem, PopS.mem, hcl, hH]
  have s2 := s1.then (z := ⟨⟨mkPl 2 n, c, e, 3, ⟨H, 0, z, 0⟩, ⟨mkPl 2 n, u, 0, c, e, 0, 0, ⟨0, 0, 0, 0, 0, 0⟩, false⟩, z, 0⟩, c, m, mk, 1, 0, 0⟩) (u := (s.load H).load 2) (by show 1 ≤ 1; omega) (by simp [AllS.next, ResS.next, TakeS.new, TakeS.next, TakeS.cell, g2, ht]) (by simp [AllS.mem, ResS.mem, TakeS.new, TakeS.mem])
  have s3 := s2.then (z := ⟨⟨mkPl 2 n, c, e, 0, ⟨H, 0, z, 0⟩, ⟨mkPl 2 n, u, 0, c, e, 0, 0, ⟨0, 0, 0, 0, 0, 0⟩, false⟩, z, 0⟩, c, m, mk, 0, 0, 0⟩) (u := ((s.load H).load 2).load H) (by show 1 ≤ 1; omega) (by simp [AllS.next, ResS.next, ResS.hd, hH, g3]) (by simp [AllS.mem, ResS.mem, ResS.hd, hH])
  exact ⟨_, _, s3, rfl, rfl, V3⟩
end
end Go.Proofs.YtoablodmodnamaaDoor
