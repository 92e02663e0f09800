/-
  The program's memory and the reference's side by side, with machines of the program.
-/
import Derived.Test.YtgakmpfmckikgaaGreatDoorDl
import Derived.Test.YtgakmpfmckikgaaGreatDoorDs3
import Derived.Test.YtgakmpfmckikgaaGreatDoorRe
namespace Go.Proofs.YtgakmpfmckikgaaGreatDoor
set_option linter.unusedVariables false
set_option maxRecDepth 100000
open Go.ChangeShapes Go.WideShapes Go.RowKit

def shS : St := laidO (tagP 0 fun _ => 0) (fldP 1 fun _ => ⟨0, 5⟩) 16
def shX : Sx := Sx.new (96 + 1 + 0) ⟨1, 96, 0, ⟨0, 0⟩, ⟨0, 0⟩⟩ ⟨false, false, false, 0⟩
def shY : Sx := Sx.plain ⟨2, 96, 3, ⟨0, 0⟩, ⟨0, 0⟩⟩ ⟨0, 0, 0⟩
theorem shown_plain : ∃ x1 s1 y2 s2 u3 s3 u4 s4, shX.next shS = x1 ∧ shX.mem shS = s1 ∧ shY.next s1 = y2 ∧ shY.mem s1 = s2 ∧ (Sx.same 96 100).next s2 = u3 ∧ (Sx.same 96 100).mem s2 = s3 ∧ u3.next s3 = u4 ∧ u3.mem s3 = s4 ∧ x1.done = true ∧ x1.hit = true ∧ x1.o = ⟨0, ⟨0, 5⟩, false⟩ ∧ y2.done = true ∧ y2.o.c = 15 ∧ (Sx.same 96 96).o.y = true ∧ u4.done = true ∧ u4.o.y = false ∧ u3.done = false :=
  ⟨_, _, _, _, _, _, _, _, rfl, rfl, rfl, rfl, rfl, rfl, rfl, rfl, by kernel_rfl, by kernel_rfl, by kernel_rfl, by kernel_rfl, by kernel_rfl, by kernel_rfl, by kernel_rfl, by kernel_rfl, by kernel_rfl⟩
set_option maxHeartbeats 2000000 in
theorem cShown (w : World) (W : H.Wid w) :
    Calls Tryz.prog 4 #[] w fun e w' => e = .returned (.bool true) ∧ Below w.heap.size w w' := by
  obtain ⟨x1, s1, y2, s2, u3, s3, u4, s4, e0, e1, e2, e3, e4, e5, e6, e7, f0, f1, f2, f3, f4, f5, f6, f7, f8⟩ := shown_plain
  go_enter Tryz.func4, Tryz.ntmps4
  go_upto_region 2 with (go_at_call 5; refine (cLaid (at_ := none) (lt := 0) (ct := 0) (zt := fun _ => 0) (zl := fun _ => ⟨0, 5⟩) _ (W.on (by go_grown)) (.inl rfl) (.inr ⟨w.heap.size, 0, rfl, by simp, fun j hj => by obtain rfl : j = 0 := (by omega); exact ⟨by go_cell, by go_cell, ⟨by decide, by decide, by decide, by decide⟩⟩⟩)).mono ?_; rintro e w1 ⟨b, y, rfl, h1⟩; have h2 : Hand w w1 b shS 128 := h1.one.lift (by go_grown) W; clear h1)
  go_upto_region 3 with (go_at_call_of 10 (Value.int IntKind.i64 96); refine (cNewDirect 96 ⟨1, 96, 0, ⟨0, 0⟩, ⟨0, 0⟩⟩ ⟨false, false, false, 0⟩ _ (by decide) (by decide) (by decide) (by decide)).mono ?_; rintro e wnx ⟨px, rfl, MMx⟩; have H_x := h2.below MMx.bel; have x_0 : Mx w wnx px 103 shX := MMx.mx h2.bel.size (by decide) (by decide) (Sx.ok_new _ _ _); clear MMx h2)
  go_upto_region 4 with (go_at_call 11; refine (cNewPlain ⟨2, 96, 3, ⟨0, 0⟩, ⟨0, 0⟩⟩ ⟨0, 0, 0⟩ _).mono ?_; rintro e wny ⟨py, rfl, MMy⟩; have H_y := H_x.below MMy.bel; have y_0 : Mx w wny py 104 shY := MMy.mx H_x.bel.size (by decide) (by decide) (Sx.ok_plain _ (by decide) (by decide)); have nxy : px ≠ py := (by have := x_0.lt; have := MMy.new; omega); have x_0y := x_0.below MMy.bel; clear MMy H_x x_0)
  go_upto_region 5 with (go_at_call 12; refine (cNewSame 96 96 _).mono ?_; rintro e wnz ⟨pz, rfl, MMz⟩; have H_z := H_y.below MMz.bel; have z_0 : Mx w wnz pz 108 (Sx.same 96 96) := MMz.mx H_y.bel.size (by decide) (by decide) (Sx.ok_same _ _); have nxz : px ≠ pz := (by have := x_0y.lt; have := MMz.new; omega); have x_0yz := x_0y.below MMz.bel; have nyz : py ≠ pz := (by have := y_0.lt; have := MMz.new; omega); have y_0z := y_0.below MMz.bel; clear MMz H_y x_0y y_0)
  go_upto_region 6 with (go_at_call 12; refine (cNewSame 96 100 _).mono ?_; rintro e wnu ⟨pu, rfl, MMu⟩; have H_u := H_z.below MMu.bel; have u_0 : Mx w wnu pu 108 (Sx.same 96 100) := MMu.mx H_z.bel.size (by decide) (by decide) (Sx.ok_same _ _); have nxu : px ≠ pu := (by have := x_0yz.lt; have := MMu.new; omega); have x_0yzu := x_0yz.below MMu.bel; have nyu : py ≠ pu := (by have := y_0z.lt; have := MMu.new; omega); have y_0zu := y_0z.below MMu.bel; have nzu : pz ≠ pu := (by have := z_0.lt; have := MMu.new; omega); have z_0u := z_0.below MMu.bel; clear MMu H_z x_0yz y_0z z_0)
  go_upto_region 8 with (fail)
  go_upto_region 9 with (go_at_call_of 13 (pt px); refine (hDStep H_u x_0yzu (by decide)).mono ?_; rintro e v1 ⟨rfl, G1, X1, o1⟩; rw [e0] at X1 ⊢; rw [e1] at G1; rw [f0]; obtain ⟨vv1, Bv1⟩ := x_0yzu.blk; have y_v1 := y_0zu.oth1 o1 Bv1 (by decide) (Ne.symm nxy); have z_v1 := z_0u.oth1 o1 Bv1 (by decide) (Ne.symm nxz); have u_v1 := u_0.oth1 o1 Bv1 (by decide) (Ne.symm nxu); have x_v1 := X1; clear o1 X1 H_u Bv1 x_0yzu y_0zu z_0u u_0)
  go_upto_region 10 with (go_at_call_of 14 (pt py); refine (hPStep G1 y_v1 (by decide)).mono ?_; rintro e v2 ⟨rfl, G2, X2, o2⟩; rw [e2] at X2 ⊢; rw [e3] at G2; rw [f3]; obtain ⟨vv2, Bv2⟩ := y_v1.blk; have x_v2 := x_v1.oth1 o2 Bv2 (by decide) nxy; have z_v2 := z_v1.oth1 o2 Bv2 (by decide) (Ne.symm nyz); have u_v2 := u_v1.oth1 o2 Bv2 (by decide) (Ne.symm nyu); have y_v2 := X2; clear o2 X2 G1 Bv2 x_v1 y_v1 z_v1 u_v1)
  obtain ⟨vz, Bz⟩ := z_v2.blk
  go_upto_region 11 with (go_at_call 15; refine (cYes Bz).mono ?_; rintro e wx ⟨rfl, hwx⟩; rw [hwx, f5]; clear hwx wx)
  clear Bz
  go_upto_region 12 with (go_at_call_of 16 (pt pu); refine (hSStep G2 u_v2 (by decide)).mono ?_; rintro e v3 ⟨rfl, G3, X3, o3⟩; rw [e4] at X3 ⊢; rw [e5] at G3; rw [f8]; obtain ⟨vv3, Bv3⟩ := u_v2.blk; have x_v3 := x_v2.oth1 o3 Bv3 (by decide) nxu; have y_v3 := y_v2.oth1 o3 Bv3 (by decide) nyu; have z_v3 := z_v2.oth1 o3 Bv3 (by decide) nzu; have u_v3 := X3; clear o3 X3 G2 Bv3 x_v2 y_v2 z_v2 u_v2)
  go_upto_region 13 with (go_at_call_of 16 (pt pu); refine (hSStep G3 u_v3 (by decide)).mono ?_; rintro e v4 ⟨rfl, G4, X4, o4⟩; rw [e6] at X4 ⊢; rw [e7] at G4; rw [f6]; obtain ⟨vv4, Bv4⟩ := u_v3.blk; have x_v4 := x_v3.oth1 o4 Bv4 (by decide) nxu; have y_v4 := y_v3.oth1 o4 Bv4 (by decide) nyu; have z_v4 := z_v3.oth1 o4 Bv4 (by decide) nzu; have u_v4 := X4; clear o4 X4 G3 Bv4 x_v3 y_v3 z_v3 u_v3)
  obtain ⟨vx, Bx'⟩ := x_v4.blk
  obtain ⟨vy, By⟩ := y_v4.blk
  obtain ⟨vu, Bu⟩ := u_v4.blk
  have q0 := fOut0
  have q1 : ∀ w, (binOp .eql 64 (.agg #[.int .i64 0, .int .i64 0, .int .i64 5, .bool false]) (.agg #[.int .i64 0, .int .i64 0, .int .i64 5, .bool false])).run Tryz.prog w = .ok (.bool true) w := fun w => eqOut ⟨0, ⟨0, 5⟩, false⟩ ⟨0, ⟨0, 5⟩, false⟩ w
  have hx : x1.o.val = .agg #[.int .i64 0, .int .i64 0, .int .i64 5, .bool false] := by rw [f2]; rfl
  have hy : y2.o.val = .agg #[.int .i64 15, .int .i64 y2.o.v.k, .int .i64 y2.o.v.n, .bool y2.o.y] := by rw [← f4]; rfl
  go_wp2_with (first
    | (go_at_call 17; refine (cDHit Bx').mono ?_; rintro e wx ⟨rfl, hwx⟩; rw [hwx, f1]; clear hwx wx)
    | (go_at_call 18; refine (cDResult Bx').mono ?_; rintro e r1 ⟨rfl, hb1⟩; rw [hx]; have K1 := G4.below hb1; have By1 := By.below hb1; have Bu1 := Bu.below hb1)
    | (go_at_call 19; refine (cPResult By1).mono ?_; rintro e r2 ⟨rfl, hb2⟩; rw [hy]; have K2 := K1.below hb2; have Bu2 := Bu1.below hb2)
    | (go_at_call 15; refine (cYes Bu2).mono ?_; rintro e wx ⟨rfl, hwx⟩; rw [hwx, f7]; clear hwx wx))
  go_ret
  exact ⟨rfl, K2.bel⟩
end Go.Proofs.YtgakmpfmckikgaaGreatDoor

namespace Go.Proofs.YtgakmpfmckikgaaGreatDoor
set_option linter.unusedVariables false
set_option maxRecDepth 100000
open H.Plain (hw pS pC pN pM pG pT pL mv)

theorem of_w {v : Vl} (hk : 0 ≤ v.k ∧ v.k < 4) (hn : 0 ≤ v.n ∧ v.n < 2305843009213693952) : Vl.of v.w = v := by
  obtain ⟨k, n⟩ := v
  simp only at hk hn
  simp only [Vl.of, Vl.w, F.Plain.kind, F.Plain.num, F.Plain.word, Vl.mk.injEq]
  constructor <;> omega
/-- what a law's field may have -/
structure Vl.Good (v : Vl) : Prop where
  k : v.k = 0 ∨ v.k = 1
  n0 : 0 ≤ v.n
  n1 : v.n < 1000
  far : v.far = true → ∃ i : Nat, i < 16 ∧ v.n = 96 + 4 * (i : Int)
theorem Vl.Good.of {v : Vl} (h : v.Good) : Vl.of v.w = v := of_w (by rcases h.k with h | h <;> omega) ⟨h.n0, by have := h.n1; omega⟩
theorem good_zero : Vl.zero.Good := ⟨.inl rfl, by decide, by decide, fun h => by simp [Vl.far, Vl.zero] at h⟩
theorem good_valP (v : Vl) : (valP v).Good := by
  have a2 := kd_lt v.n 1000 (by decide)
  have a3 := kd_lt v.n 17 (by decide)
  unfold valP
  split
  · exact ⟨.inl rfl, a2.1, a2.2, fun h => by simp [Vl.far] at h⟩
  · split
    · exact ⟨.inr rfl, by simp, by simp, fun h => by simp [Vl.far] at h⟩
    · rename_i h1 h2
      refine ⟨.inr rfl, by simp only; omega, by simp only; omega, fun _ => ⟨(kd v.n 17).toNat, by omega, by simp only; omega⟩⟩
theorem good_fldP (ll : Nat) (zl : Nat → Vl) (j : Nat) : (fldP ll zl j).Good := by
  unfold fldP; split
  · exact good_valP _
  · exact good_zero
section
variable {t : Nat → Bool} {l : Nat → Vl}
theorem laidF_len {s : St} (h : s.ws.length = 160) (i f : Nat) : (laidF s t l i f).ws.length = 160 := by
  induction f with
  | zero => exact n_store' h _ _
  | succ f ih => exact n_store' ih _ _
theorem laid_len (j : Nat) : (laidO t l j).ws.length = 160 := by
  induction j with
  | zero => simp [laidO, St.new]
  | succ j ih => exact laidF_len ih _ _
/-- behind j objects -/
theorem laid_words (j : Nat) (hj : j ≤ 16) : (∀ a, In a → 96 + 4 * (j : Int) ≤ a ∨ a < 96 → (laidO t l j).word a = 0) ∧
    ∀ i : Nat, i < j → (laidO t l j).word (96 + 4 * (i : Int)) = hdrW t i ∧ ∀ f : Nat, f < 3 → (laidO t l j).word (97 + 4 * (i : Int) + (f : Int)) = (l (3 * i + f)).w := by
  induction j with
  | zero =>
    refine ⟨fun a ha _ => ?_, fun i hi => by omega⟩
    simp only [laidO, St.word, St.new]
    rw [List.getD_eq_getElem?_getD, List.getElem?_replicate]
    split <;> rfl
  | succ j ih =>
    obtain ⟨h0, h1⟩ := ih (by omega)
    have hl := laid_len (t := t) (l := l) j
    have key : ∀ a, In a → (laidO t l (j + 1)).word a = if 97 + 4 * (j : Int) + ((2 : Nat) : Int) = a then (l (3 * j + 2)).w else if 97 + 4 * (j : Int) + ((1 : Nat) : Int) = a then (l (3 * j + 1)).w else if 97 + 4 * (j : Int) + ((0 : Nat) : Int) = a then (l (3 * j + 0)).w else if 96 + 4 * (j : Int) = a then hdrW t j else (laidO t l j).word a := by
      intro a ha
      have I0 : In (96 + 4 * (j : Int)) := ⟨by omega, by omega⟩
      have I1 : In (97 + 4 * (j : Int) + ((0 : Nat) : Int)) := ⟨by omega, by omega⟩
      have I2 : In (97 + 4 * (j : Int) + ((1 : Nat) : Int)) := ⟨by omega, by omega⟩
      have I3 : In (97 + 4 * (j : Int) + ((2 : Nat) : Int)) := ⟨by omega, by omega⟩
      have l0 := n_store' hl (96 + 4 * (j : Int)) (hdrW t j)
      have l1 := n_store' l0 (97 + 4 * (j : Int) + ((0 : Nat) : Int)) (F.Plain.word (l (3 * j + 0)).k (l (3 * j + 0)).n)
      have l2 := n_store' l1 (97 + 4 * (j : Int) + ((1 : Nat) : Int)) (F.Plain.word (l (3 * j + 1)).k (l (3 * j + 1)).n)
      simp only [laidO, laidF]
      rw [word_store l2 I3 ha, word_store l1 I2 ha, word_store l0 I1 ha, word_store hl I0 ha]
      rfl
    refine ⟨fun a ha hb => ?_, fun i hi => ⟨?_, fun f hf => ?_⟩⟩
    · rw [key a ha, if_neg (by omega), if_neg (by omega), if_neg (by omega), if_neg (by omega)]
      exact h0 a ha (by omega)
    · rw [key _ ⟨by omega, by omega⟩, if_neg (by omega), if_neg (by omega), if_neg (by omega)]
      by_cases e : i = j
      · subst e; rw [if_pos rfl]
      · rw [if_neg (by omega)]; exact (h1 i (by omega)).1
    · by_cases e : i = j
      · subst e
        rw [key _ ⟨by omega, by omega⟩]
        match f, hf with
        | 0, _ => rw [if_neg (by omega), if_neg (by omega), if_pos (by omega)]
        | 1, _ => rw [if_neg (by omega), if_pos (by omega)]
        | 2, _ => rw [if_pos (by omega)]
      · rw [key _ ⟨by omega, by omega⟩, if_neg (by omega), if_neg (by omega), if_neg (by omega), if_neg (by omega)]
        exact (h1 i (by omega)).2 f hf
theorem laid_hdr {i : Nat} (hi : i < 16) : (laidO t l 16).word (96 + 4 * (i : Int)) = hdrW t i := ((laid_words (t := t) (l := l) 16 (Nat.le_refl _)).2 i hi).1
theorem laid_fld {i f : Nat} (hi : i < 16) (hf : f < 3) : (laidO t l 16).word (97 + 4 * (i : Int) + (f : Int)) = (l (3 * i + f)).w := ((laid_words (t := t) (l := l) 16 (Nat.le_refl _)).2 i hi).2 f hf
theorem laid_low {a : Int} (h0 : 0 ≤ a) (h1 : a < 96) : (laidO t l 16).word a = 0 := (laid_words (t := t) (l := l) 16 (Nat.le_refl _)).1 a ⟨h0, by omega⟩ (.inr h1)
/-- a header that was laid -/
theorem hdr_parts (t : Nat → Bool) (ht : ∀ i, t i = true → i < 8) {i : Nat} : pS (hdrW t i) = 1 ∧ pN (hdrW t i) = 3 ∧ pM (hdrW t i) = 0 ∧ pT (hdrW t i) = tgP t i ∧ pL (hdrW t i) = lkP t i := by
  unfold hdrW tgP lkP H.Plain.hw H.Plain.pS H.Plain.pN H.Plain.pM H.Plain.pT H.Plain.pL
  rcases h : t i with _ | _
  · simp
  · have := ht i h
    simp only [if_true]
    refine ⟨?_, ?_, ?_, ?_, ?_⟩ <;> omega
end
theorem tagP_lt (lt : Nat) (zt : Nat → Int) (i : Nat) (h : tagP lt zt i = true) : i < 8 := by
  unfold tagP at h
  simp only [Bool.and_eq_true, decide_eq_true_eq] at h
  exact h.1
end Go.Proofs.YtgakmpfmckikgaaGreatDoor

namespace Go.Proofs.YtgakmpfmckikgaaGreatDoor
set_option linter.unusedVariables false
set_option maxRecDepth 100000
open Go.ChangeShapes Go.WideShapes Go.RowKit
open H.Plain (hw pS pC pN pM pG pT pL mv)
section
variable {w0 w w' : World} {b y p q : Nat} {s1 s2 : St} {N : Nat} {T T' : TypeId} {cs : Array Value} {F : List Nat} {x : Sx}
theorem tStepX {f : Nat} (h : Two w0 w b y s1 s2 N) (m : Mx w0 w p T x) (hN : N < 1000000)
    (hc : ∀ {L : Loc} {v : Value}, At 111 w L s1 p T (x.cells v) → RepO w x.k v → x.Ok → s1.Fit → s1.c < 1000000 → s1.Rng → Calls Tryz.prog f #[pt p, pt L.b] w fun e w' => e = .returned (.bool (x.next s1).done) ∧ ∃ v' L', At 111 w' L' (x.mem s1) p T ((x.next s1).cells v') ∧ Went w L p w' L' ∧ RepO w' (x.next s1).k v') :
    Calls Tryz.prog f #[pt p, pt b] w fun e w' => e = .returned (.bool (x.next s1).done) ∧ Two w0 w' b y (x.mem s1) s2 (N + 1) ∧ Mx w0 w' p T (x.next s1) ∧ Oth [p] w w' := by
  have ht := h.top1
  have hc' : s1.c < 1000000 := by omega
  have f := h.fit1
  have r := h.rng1
  obtain ⟨⟨v, B, R⟩, kd, ok⟩ := m
  obtain ⟨L, rfl, A, k⟩ := h.went1 B
  refine (hc A R ok f hc' r).mono ?_
  rintro e w' ⟨rfl, v', L', A', g, R'⟩
  have := Sx.cnt (s := s1) ok
  obtain ⟨H1, B1, O1⟩ := k A' g (Sx.fit ok f hc') (Sx.rng ok r) (show _ ≤ ((N + 1 : Nat) : Int) by omega) (by omega)
  exact ⟨rfl, H1, ⟨⟨v', B1, R'⟩, kd, ok.next r⟩, O1⟩
theorem tD (h : Two w0 w b y s1 s2 N) (m : Mx w0 w p 103 x) (hN : N < 1000000) :
    Calls Tryz.prog 13 #[pt p, pt b] w fun e w' => e = .returned (.bool (x.next s1).done) ∧ Two w0 w' b y (x.mem s1) s2 (N + 1) ∧ Mx w0 w' p 103 (x.next s1) ∧ Oth [p] w w' := tStepX h m hN fun A R ok ft hc rr => cDStep A R ok ft hc rr
theorem tP (h : Two w0 w b y s1 s2 N) (m : Mx w0 w p 104 x) (hN : N < 1000000) :
    Calls Tryz.prog 14 #[pt p, pt b] w fun e w' => e = .returned (.bool (x.next s1).done) ∧ Two w0 w' b y (x.mem s1) s2 (N + 1) ∧ Mx w0 w' p 104 (x.next s1) ∧ Oth [p] w w' := tStepX h m hN fun A R ok ft hc rr => cPStep A R ok ft hc rr
theorem tS (h : Two w0 w b y s1 s2 N) (m : Mx w0 w p 108 x) (hN : N < 1000000) :
    Calls Tryz.prog 16 #[pt p, pt b] w fun e w' => e = .returned (.bool (x.next s1).done) ∧ Two w0 w' b y (x.mem s1) s2 (N + 1) ∧ Mx w0 w' p 108 (x.next s1) ∧ Oth [p] w w' := tStepX h m hN fun A R ok ft hc rr => cSStep A R ok ft hc rr
theorem Two.seen (h : Two w0 w b y s1 s2 N) : ∃ g cp, Seen2 w y g cp s2 := by
  obtain ⟨⟨L, M, e1, rfl, hm, hr, hl, hl2⟩, _⟩ := h
  exact ⟨M.g, M.cp, hr.cell0, hr.cell2, fun j hj => hr.wcell j hj, hr.lt _ (by simp [Loc.fp]), hr.lt _ (by simp [Loc.fp])⟩
theorem Seen2.at {g cp : Nat} {s : St} (h : Seen2 w y g cp s) (hl : s.ws.length = 160) (a : Nat) (ha : a < 160) : w.cell? ⟨g, a, none⟩ = some (.int .u64 (s.word a)) := h.cw a (by omega)
end
/-! ### two addresses of objects, plainly -/
def movP (s : St) (a : Int) : Int := mv (s.got a) a
def sameP (s : St) (p q : Int) : Bool := if p ≠ 0 ∧ q ≠ 0 then movP s p == movP s q else p == q
theorem got_ws {s s' : St} (h : s'.ws = s.ws) (a : Int) : s'.got a = s.got a := by simp [St.got, St.is1, St.word, h]
theorem same_two (s : St) (p q : Int) : ∃ x1 s1 z1 s2 x2 s3 z2 s4, (Sx.same p q).next s = x1 ∧ (Sx.same p q).mem s = s1 ∧ (Sx.same q p).next s1 = z1 ∧ (Sx.same q p).mem s1 = s2 ∧ x1.next s2 = x2 ∧ x1.mem s2 = s3 ∧ z1.next s3 = z2 ∧ z1.mem s3 = s4 ∧
    x2.o.y = sameP s p q ∧ z2.o.y = sameP s p q ∧ x2.next s4 = x2 ∧ x2.mem s4 = s4 ∧ x2.done = true := by
  by_cases h : p = q ∨ p = 0 ∨ q = 0
  · have h' : q = p ∨ q = 0 ∨ p = 0 := by omega
    have e1 : Sx.same p q = ⟨none, false, ⟨0, Vl.zero, p == q⟩⟩ := by rw [Sx.same, if_pos h]
    have e2 : Sx.same q p = ⟨none, false, ⟨0, Vl.zero, q == p⟩⟩ := by rw [Sx.same, if_pos h']
    have e3 : sameP s p q = (p == q) := by
      unfold sameP
      split
      · obtain rfl : p = q := by omega
        simp
      · rfl
    rw [e1, e2]
    refine ⟨_, _, _, _, _, _, _, _, rfl, rfl, rfl, rfl, rfl, rfl, rfl, rfl, e3.symm, ?_, rfl, rfl, rfl⟩
    rw [e3]
    exact Bool.beq_comm ..
  · have h' : ¬ (q = p ∨ q = 0 ∨ p = 0) := by omega
    have e1 : Sx.same p q = ⟨some (.compT p q), false, Ou.zero⟩ := by rw [Sx.same, if_neg h]
    have e2 : Sx.same q p = ⟨some (.compT q p), false, Ou.zero⟩ := by rw [Sx.same, if_neg h']
    have e3 : sameP s p q = (movP s p == movP s q) := by rw [sameP, if_pos ⟨by omega, by omega⟩]
    rw [e1, e2]
    refine ⟨_, _, _, _, _, _, _, _, rfl, rfl, rfl, rfl, rfl, rfl, rfl, rfl, e3.symm, ?_, rfl, rfl, rfl⟩
    rw [e3]
    exact Bool.beq_comm ..
end Go.Proofs.YtgakmpfmckikgaaGreatDoor
