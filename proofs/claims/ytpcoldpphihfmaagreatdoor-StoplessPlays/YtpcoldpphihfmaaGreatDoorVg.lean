import Derived.Test.YtpcoldpphihfmaaGreatDoorVa
import Derived.Test.YtpcoldpphihfmaaGreatDoorVco
namespace Go.Proofs.YtpcoldpphihfmaaGreatDoor
set_option linter.unusedVariables false
set_option linter.unusedSimpArgs false
set_option maxRecDepth 100000
open H.Plain (hw pS pC pN pM pG pT pL mv)
def HW : Int := hw 1 0 3 0 0 3 104
def HWd : Int := hw 2 1 3 0 0 0 112
def H3 : Int := hw 1 0 3 0 0 0 0
theorem h_W : pN HW = 3 ∧ pT HW = 3 ∧ pL HW = 104 ∧ pL HWd = 112 := by decide
section
variable {v y : Vl} {w : Int}
theorem good_form (h : v.Good) : ∃ k n : Int, (k = 0 ∨ k = 1) ∧ 0 ≤ n ∧ n < 1000 ∧ v.w = k + 8 * n := by
 obtain ⟨hk, h0, h1, _⟩ := h
 refine ⟨v.k, v.n, hk, h0, h1, ?_⟩
 unfold Vl.w F.Plain.word
 omega
theorem froz_iff (a : Int) : F.Plain.froz a = true ↔ a / 4 % 2 = 1 := by unfold F.Plain.froz; simp
theorem good_nf (h : v.Good) : F.Plain.froz v.w = false := by
 obtain ⟨k, n, hk, h0, h1, e⟩ := good_form h
 rw [Bool.eq_false_iff, ne_eq, froz_iff, e]
 omega
theorem good_fz (h : v.Good) : F.Plain.froz (F.Plain.fz v.w) = true ∧ F.Plain.th (F.Plain.fz v.w) = v.w ∧ Vl.of (F.Plain.fz v.w) = v := by
 obtain ⟨k, n, hk, h0, h1, e⟩ := good_form h
 have e2 : F.Plain.fz v.w = v.w + 4 := by unfold F.Plain.fz; omega
 refine ⟨by rw [froz_iff, e2, e]; omega, by rw [e2]; unfold F.Plain.th; omega, ?_⟩
 refine Eq.trans ?_ h.of
 rw [e2]
 simp only [Vl.of, F.Plain.kind, F.Plain.num, Vl.mk.injEq]
 constructor <;> omega
end
def Fd (o st p f : Int) (v : Vl) : Prop :=
 (st = 0 ∧ p = 0 ∧ f = 2 ∧ (o = v.w ∨ o = F.Plain.fz v.w)) ∨ (st = 1 ∧ p = v.w ∧ f = 2 ∧ F.Plain.froz o = true) ∨
 (st = 2 ∧ p = v.w ∧ (f = 2 ∨ f = v.w) ∧ F.Plain.froz o = true) ∨ (st = 3 ∧ f = v.w ∧ F.Plain.froz o = true)
def Fg (g : Nat → Int) (k : Nat) (v : Vl) : Prop := Fd (g (1 + k)) (g (10 + 2 * k)) (g (11 + 2 * k)) (g (17 + k)) v
structure Ob (s : St) (g : Nat → Int) (v : Nat → Vl) : Prop where
 m : MW s g
 h0 : g 0 = HW
 h4 : g 4 = H3
 h8 : g 8 = HWd
 h16 : g 16 = H3
 fd : ∀ k, k < 3 → Fg g k (v k)
 ok : ∀ k, k < 3 → (v k).Good
section
variable {s s' : St} {g g' : Nat → Int} {v : Nat → Vl} {k : Nat} {w : Int} {y : Vl}
theorem Ob.load (O : Ob s g v) {x : Int} (hx : In x) : Ob (s.load x) g v := ⟨O.m.load hx, O.h0, O.h4, O.h8, O.h16, O.fd, O.ok⟩
theorem eO (k : Nat) : (97 : Int) + (k : Int) = 96 + ((1 + k : Nat) : Int) := by omega
theorem eP (k : Nat) : (106 : Int) + 2 * (k : Int) = 96 + ((10 + 2 * k : Nat) : Int) := by omega
theorem Ob.gotO (O : Ob s g v) (hk : k < 3) : s.got (97 + (k : Int)) = g (1 + k) := by rw [eO]; exact O.m.got (by omega)
theorem Ob.gotS (O : Ob s g v) (hk : k < 3) : s.got (106 + 2 * (k : Int)) = g (10 + 2 * k) := by rw [eP]; exact O.m.got (by omega)
end
end Go.Proofs.YtpcoldpphihfmaaGreatDoor
namespace Go.Proofs.YtpcoldpphihfmaaGreatDoor
set_option linter.unusedVariables false
set_option linter.unusedSimpArgs false
set_option maxRecDepth 100000
open H.Plain (hw pS pC pN pM pG pT pL mv)
section
variable {P P' : Int → Prop} {q : Wq} {k : Nat} {g g' : Nat → Int} {v v' : Nat → Vl} {s : St} {x : Cw}
def Bq (op : Bool) (st : Int) : Nat := if st ≤ 0 then (if op then 20 else 18) else if st = 1 then 15 else if st = 2 then 12 else 7
def Br (st : Int) : Nat := if st ≤ 0 then 10 else if st = 1 then 7 else if st = 2 then 5 else 3
def rr (st : Int) : Cw → Nat
 | .fin _ _ => 0
 | .hd _ => 11
 | .a2 _ _ => Br st
 | .a3 _ _ => if st ≤ 0 then 9 else Br st + 2
 | .a5 _ _ _ => if st ≤ 0 then 8 else Br st + 1
 | .a6 _ _ t => if t = 1 then (if st ≤ 1 then 6 else Br st + 1) else 4
 | .a7 _ _ t _ => if t = 1 then (if st ≤ 1 then 5 else Br st) else 3
 | .a11 _ _ => 2
 | .dr _ x => match x.k with
  | none => 0
  | some _ => 1
 | _ => 0
end
end Go.Proofs.YtpcoldpphihfmaaGreatDoor
