import Derived.Test.YtpcoldpphihfmaaGreatDoorVg
import Derived.Test.YtpcoldpphihfmaaGreatDoorVk
namespace Go.Proofs.YtpcoldpphihfmaaGreatDoor
set_option linter.unusedVariables false
set_option linter.unusedSimpArgs false
set_option maxRecDepth 100000
open Go.ChangeShapes Go.WideShapes Go.RowKit
open H.Plain (hw pS pC pN pM pG pT pL mv)
def lkP (t : Int) : Int := if t = 2 then 112 else 104
def g0 (t : Int) : Nat → Int := updN (updN (updN (updN (fun _ => 0) 4 H3) 16 H3) 0 (hw 1 0 3 0 0 t (lkP t))) 8 HWd
def fG (g : Nat → Int) (f : Nat) (v : Vl) (s : Int) : Nat → Int :=
 let g1 := updN g (1 + f + f / 3) v.w
 if 3 ≤ f then g1 else
  let g2 := if 0 < s then updN g1 (1 + f) (F.Plain.fz v.w) else g1
  let g3 := if 1 < s then updN (updN g2 (10 + 2 * f) (s - 1)) (11 + 2 * f) v.w else g2
  updN g3 (17 + f) (if s = 4 then v.w else 2)
def gp (t : Int) (l : Nat → Vl) (st : Nat → Int) : Nat → Nat → Int
 | 0 => g0 t
 | f + 1 => fG (gp t l st f) f (l f) (st f)
def gl (t : Int) (l : Nat → Vl) (st : Nat → Int) : Nat → Int := gp t l st 6
def fldP (ll : Nat) (zl : Nat → Vl) (j : Nat) : Vl := if j < ll then valP (zl j) else Vl.zero
def stP (lt : Nat) (zt : Nat → Int) (j : Nat) : Int := if j < lt then kd (zt j) 5 else 0
theorem st_rng (lt : Nat) (zt : Nat → Int) (j : Nat) : 0 ≤ stP lt zt j ∧ stP lt zt j < 5 := by
 unfold stP
 split
 ·exact kd_lt _ _ (by decide)
 ·omega
theorem good_fld (ll : Nat) (zl : Nat → Vl) (j : Nat) : (fldP ll zl j).Good := by
 unfold fldP
 split
 ·exact good_valP _
 ·exact good_zero
theorem g3_ (t : Int) (l : Nat → Vl) (st : Nat → Int) (f : Nat) (g : Nat → Int) (s : Int) (v : Vl) (h : 3 ≤ f) : fG g f v s = updN g (1 + f + f / 3) v.w := by simp [fG, h]
theorem fG_ne (f i : Nat) (g : Nat → Int) (v : Vl) (s : Int) (hf : f < 3) (h1 : i ≠ 1 + f) (h2 : i ≠ 10 + 2 * f) (h3 : i ≠ 11 + 2 * f) (h4 : i ≠ 17 + f) : fG g f v s i = g i := by
 have hd : f / 3 = 0 := by omega
 simp only [fG, hd, Nat.add_zero, if_neg (show ¬ 3 ≤ f by omega)]
 rw [updN_ne _ _ h4]
 split
 ·rw [updN_ne _ _ h3, updN_ne _ _ h2]
  split
  ·rw [updN_ne _ _ h1, updN_ne _ _ h1]
  ·rw [updN_ne _ _ h1]
 ·split
  ·rw [updN_ne _ _ h1, updN_ne _ _ h1]
  ·rw [updN_ne _ _ h1]
theorem fG_eq (f : Nat) (g : Nat → Int) (v : Vl) (s : Int) (hf : f < 3) (h1 : g (10 + 2 * f) = 0) (h2 : g (11 + 2 * f) = 0) : fG g f v s (1 + f) = (if 0 < s then F.Plain.fz v.w else v.w) ∧ fG g f v s (10 + 2 * f) = (if 1 < s then s - 1 else 0) ∧ fG g f v s (11 + 2 * f) = (if 1 < s then v.w else 0) ∧ fG g f v s (17 + f) = (if s = 4 then v.w else 2) := by
 rcases (show f = 0 ∨ f = 1 ∨ f = 2 by omega) with rfl | rfl | rfl <;> simp only [fG, updN] <;> refine ⟨?_, ?_, ?_, ?_⟩ <;> simp at h1 h2 ⊢ <;> (repeat' split) <;> simp_all [updN]
theorem gl_low (t : Int) (l : Nat → Vl) (st : Nat → Int) {i : Nat} (h5 : i ≠ 5) (h6 : i ≠ 6) (h7 : i ≠ 7) : gl t l st i = fG (fG (fG (g0 t) 0 (l 0) (st 0)) 1 (l 1) (st 1)) 2 (l 2) (st 2) i := by
 unfold gl
 simp only [gp]
 rw [g3_ t l st 5 _ _ _ (by decide), g3_ t l st 4 _ _ _ (by decide), g3_ t l st 3 _ _ _ (by decide)]
 rw [updN_ne _ _ (by simpa using h7), updN_ne _ _ (by simpa using h6), updN_ne _ _ (by simpa using h5)]
theorem gl_at (t : Int) (l : Nat → Vl) (st : Nat → Int) : gl t l st 0 = hw 1 0 3 0 0 t (lkP t) ∧ gl t l st 4 = H3 ∧ gl t l st 8 = HWd ∧ gl t l st 16 = H3 ∧
  ∀ k, k < 3 → gl t l st (1 + k) = (if 0 < st k then F.Plain.fz (l k).w else (l k).w) ∧ gl t l st (10 + 2 * k) = (if 1 < st k then st k - 1 else 0) ∧ gl t l st (11 + 2 * k) = (if 1 < st k then (l k).w else 0) ∧ gl t l st (17 + k) = (if st k = 4 then (l k).w else 2) := by
 have z : ∀ i, i = 10 ∨ i = 11 ∨ i = 12 ∨ i = 13 ∨ i = 14 ∨ i = 15 → g0 t i = 0 := fun i hi => by
  rcases hi with rfl | rfl | rfl | rfl | rfl | rfl <;> simp [g0, updN]
 refine ⟨?_, ?_, ?_, ?_, ?_⟩
 ·rw [gl_low _ _ _ (by decide) (by decide) (by decide), fG_ne 2 _ _ _ _ (by decide) (by decide) (by decide) (by decide) (by decide), fG_ne 1 _ _ _ _ (by decide) (by decide) (by decide) (by decide) (by decide), fG_ne 0 _ _ _ _ (by decide) (by decide) (by decide) (by decide) (by decide)]
  simp [g0, updN]
 ·rw [gl_low _ _ _ (by decide) (by decide) (by decide), fG_ne 2 _ _ _ _ (by decide) (by decide) (by decide) (by decide) (by decide), fG_ne 1 _ _ _ _ (by decide) (by decide) (by decide) (by decide) (by decide), fG_ne 0 _ _ _ _ (by decide) (by decide) (by decide) (by decide) (by decide)]
  simp [g0, updN]
 ·rw [gl_low _ _ _ (by decide) (by decide) (by decide), fG_ne 2 _ _ _ _ (by decide) (by decide) (by decide) (by decide) (by decide), fG_ne 1 _ _ _ _ (by decide) (by decide) (by decide) (by decide) (by decide), fG_ne 0 _ _ _ _ (by decide) (by decide) (by decide) (by decide) (by decide)]
  simp [g0, updN]
 ·rw [gl_low _ _ _ (by decide) (by decide) (by decide), fG_ne 2 _ _ _ _ (by decide) (by decide) (by decide) (by decide) (by decide), fG_ne 1 _ _ _ _ (by decide) (by decide) (by decide) (by decide) (by decide), fG_ne 0 _ _ _ _ (by decide) (by decide) (by decide) (by decide) (by decide)]
  simp [g0, updN]
 ·intro k hk
  rw [gl_low _ _ _ (by omega) (by omega) (by omega), gl_low _ _ _ (by omega) (by omega) (by omega), gl_low _ _ _ (by omega) (by omega) (by omega), gl_low _ _ _ (by omega) (by omega) (by omega)]
  rcases (show k = 0 ∨ k = 1 ∨ k = 2 by omega) with rfl | rfl | rfl
  ·have q := fG_eq 0 (g0 t) (l 0) (st 0) (by decide) (z _ (by simp)) (by simpa using z 11 (by simp))
   refine ⟨?_, ?_, ?_, ?_⟩ <;> rw [fG_ne 2 _ _ _ _ (by decide) (by decide) (by decide) (by decide) (by decide), fG_ne 1 _ _ _ _ (by decide) (by decide) (by decide) (by decide) (by decide)]
   ·exact q.1
   ·exact q.2.1
   ·exact q.2.2.1
   ·exact q.2.2.2
  ·have q := fG_eq 1 (fG (g0 t) 0 (l 0) (st 0)) (l 1) (st 1) (by decide) (by rw [fG_ne 0 _ _ _ _ (by decide) (by decide) (by decide) (by decide) (by decide)]; exact z _ (by simp)) (by rw [fG_ne 0 _ _ _ _ (by decide) (by decide) (by decide) (by decide) (by decide)]; exact z _ (by simp))
   refine ⟨?_, ?_, ?_, ?_⟩ <;> rw [fG_ne 2 _ _ _ _ (by decide) (by decide) (by decide) (by decide) (by decide)]
   ·exact q.1
   ·exact q.2.1
   ·exact q.2.2.1
   ·exact q.2.2.2
  ·exact fG_eq 2 (fG (fG (g0 t) 0 (l 0) (st 0)) 1 (l 1) (st 1)) (l 2) (st 2) (by decide) (by rw [fG_ne 1 _ _ _ _ (by decide) (by decide) (by decide) (by decide) (by decide), fG_ne 0 _ _ _ _ (by decide) (by decide) (by decide) (by decide) (by decide)]; exact z _ (by simp)) (by rw [fG_ne 1 _ _ _ _ (by decide) (by decide) (by decide) (by decide) (by decide), fG_ne 0 _ _ _ _ (by decide) (by decide) (by decide) (by decide) (by decide)]; exact z _ (by simp))
theorem ob_gl {s : St} {l : Nat → Vl} {st : Nat → Int} (M : MW s (gl 3 l st)) (hg : ∀ k, (l k).Good) (hs : ∀ k, 0 ≤ st k ∧ st k < 5) : Ob s (gl 3 l st) l := by
 obtain ⟨a0, a4, a8, a16, af⟩ := gl_at 3 l st
 refine ⟨M, a0, a4, a8, a16, fun k hk => ?_, fun k hk => hg k⟩
 obtain ⟨b1, b2, b3, b4⟩ := af k hk
 have gd := hg k
 obtain ⟨h0, h5⟩ := hs k
 unfold Fg Fd
 rw [b1, b2, b3, b4]
 rcases (show st k = 0 ∨ st k = 1 ∨ st k = 2 ∨ st k = 3 ∨ st k = 4 by omega) with e | e | e | e | e <;> simp [e, (good_fz gd).1]
structure MZ (s : St) (g : Nat → Int) : Prop where
 m : MW s g
 z : ∀ a : Int, In a → ¬ (96 ≤ a ∧ a < 120) → s.word a = 0
theorem MZ.store {s : St} {g : Nat → Int} {i : Nat} (M : MZ s g) (hi : i < 24) (v : Int) : MZ (s.store (96 + (i : Int)) v) (updN g i v) := by
 refine ⟨M.m.store hi v, fun a ha hn => ?_⟩
 rw [word_store M.m.len (inW hi) ha, if_neg (by omega)]
 exact M.z a ha hn
theorem MZ.at_ {s : St} {g : Nat → Int} {i : Nat} (M : MZ s g) (hi : i < 24) {a : Int} (e : a = 96 + (i : Int)) (v : Int) : MZ (s.store a v) (updN g i v) := e ▸ M.store hi v
theorem MZ.new : MZ (St.new 160) (fun _ => 0) := by
 have w0 : ∀ a : Int, (St.new 160).word a = 0 := fun a => by
  simp only [St.new, St.word, List.getD_eq_getElem?_getD, List.getElem?_replicate]
  split <;> rfl
 exact ⟨⟨by simp [St.new], rfl, fun i _ => w0 _⟩, fun a _ _ => w0 a⟩
structure Cpy (s1 s2 : St) (j : Nat) : Prop where
 len : s1.ws.length = 160
 t : s1.t = 0
 c : s1.c = j
 w : ∀ a : Int, In a → s1.word a = if 96 ≤ a ∧ a < 96 + (j : Int) then s2.word a else 0
theorem Cpy.new {s2 : St} : Cpy (St.new 160) s2 0 := by
 have w0 : ∀ a : Int, (St.new 160).word a = 0 := fun a => by
  simp only [St.new, St.word, List.getD_eq_getElem?_getD, List.getElem?_replicate]
  split <;> rfl
 exact ⟨by simp [St.new], rfl, rfl, fun a _ => by rw [w0, if_neg (by omega)]⟩
theorem Cpy.step {s1 s2 : St} {j : Nat} (C : Cpy s1 s2 j) (hj : j < 24) : Cpy (s1.store (96 + (j : Int)) (s2.word (96 + (j : Int)))) s2 (j + 1) := by
 have hi := inW hj
 refine ⟨n_store' C.len _ _, by rw [t_store C.len hi]; exact C.t, by rw [St.c_store, C.c]; omega, fun a ha => ?_⟩
 rw [word_store C.len hi ha, C.w a ha]
 by_cases e : 96 + (j : Int) = a
 ·subst e; rw [if_pos rfl, if_pos (by omega)]
 ·rw [if_neg e]
  by_cases h : 96 ≤ a ∧ a < 96 + (j : Int)
  ·rw [if_pos h, if_pos (by omega)]
  ·rw [if_neg h, if_neg (by omega)]
theorem Cpy.all {s1 s2 : St} {g : Nat → Int} (C : Cpy s1 s2 24) (M : MZ s2 g) : s1.ws = s2.ws := by
 refine List.ext_getElem (C.len.trans M.m.len.symm) fun i h1 h2 => ?_
 have hi : In (i : Int) := ⟨by omega, by have := C.len; omega⟩
 have e1 : s1.word (i : Int) = s1.ws[i] := by simp [St.word, List.getD_eq_getElem?_getD, List.getElem?_eq_getElem h1]
 have e2 : s2.word (i : Int) = s2.ws[i] := by simp [St.word, List.getD_eq_getElem?_getD, List.getElem?_eq_getElem h2]
 rw [← e1, ← e2, C.w _ hi]
 split
 ·rfl
 ·rename_i h; exact (M.z _ hi (by omega)).symm
theorem MW.of_ws {s s' : St} {g : Nat → Int} (M : MW s g) (e : s'.ws = s.ws) (t : s'.t = 0) : MW s' g := ⟨by rw [e]; exact M.len, t, fun i hi => by have := M.at_ i hi; simp only [St.word, e] at this ⊢; exact this⟩
end Go.Proofs.YtpcoldpphihfmaaGreatDoor
namespace Go.Proofs.YtpcoldpphihfmaaGreatDoor
set_option linter.unusedVariables false
set_option linter.unusedSimpArgs false
set_option maxRecDepth 100000
open Go.ChangeShapes Go.WideShapes Go.RowKit
open H.Plain (hw pS pC pN pM pG pT pL mv)
def runC (x : Cw) (s : St) : Nat → Cw × St
 | 0 => (x, s)
 | j + 1 => ((runC x s j).1.next (runC x s j).2, (runC x s j).1.mem (runC x s j).2)
section
variable {x x' x'' : Cw} {s s' s'' : St} {d e : Nat} {q : Wq} {k : Nat} {g : Nat → Int} {v : Nat → Vl}
theorem go_hd (A : q.r.at_ = 96) (hf : q.r.fd = (k : Int)) (hk : k < 3) (O : Ob s g v) : (Cw.hd q).next s = .a2 q 104 ∧ (Cw.hd q).mem s = s.load 96 := by
 have g0 : s.got 96 = HW := by have := O.m.got (i := 0) (by omega); exact this.trans O.h0
 refine ⟨?_, by simp only [Cw.mem, A]⟩
 simp only [Cw.next, A, hf, g0, h_W]
 rw [if_neg (by omega), if_neg (by decide)]
 simp
theorem e_fa' (A : q.r.at_ = 96) (hf : q.r.fd = (k : Int)) : Cw.fa q = 97 + (k : Int) := by unfold Cw.fa; rw [A, hf]; omega
theorem e_pa' (hf : q.r.fd = (k : Int)) : Cw.pa q 104 = 106 + 2 * (k : Int) := by unfold Cw.pa pairP; rw [hf]; omega
theorem go_a2 (hf : q.r.fd = (k : Int)) (hk : k < 3) (O : Ob s g v) : (Cw.a2 q 104).next s = Cw.by_ q 104 (g (10 + 2 * k)) ∧ (Cw.a2 q 104).mem s = s.load (106 + 2 * (k : Int)) := by
 refine ⟨?_, ?_⟩
 ·simp only [Cw.next, e_pa' hf]
  rw [O.gotS hk]
 ·simp only [Cw.mem, e_pa' hf]
theorem go_a3o (A : q.r.at_ = 96) (hf : q.r.fd = (k : Int)) (hk : k < 3) (O : Ob s g v) (h : g (1 + k) = (v k).w) : (Cw.a3 q 104).next s = (if Cw.told q (v k).w then Cw.tells true q (v k).w else .a4 q 104 (v k).w) ∧ (Cw.a3 q 104).mem s = s.load (97 + (k : Int)) := by
 refine ⟨?_, ?_⟩
 ·simp only [Cw.next, e_fa' A hf]
  rw [O.gotO hk, h, good_nf (O.ok k hk), if_neg (by simp)]
 ·simp only [Cw.mem, e_fa' A hf]
end
end Go.Proofs.YtpcoldpphihfmaaGreatDoor
