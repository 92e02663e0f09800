/-
  The walk of the law on a Read that fixes.
-/
import Derived.Test.YtgakmpfmckikgaaDoorDt
import Derived.Test.YtgakmpfmckikgaaDoorHand
import Derived.Deep.Cut
import Derived.Deep.RegionHeld3
namespace Go.Proofs.YtgakmpfmckikgaaDoor
set_option linter.unusedVariables false
set_option maxRecDepth 100000
open Go.ChangeShapes Go.WideShapes Go.RowKit
open H.Plain (hw pS pC pN pM pG pT pL mv)

theorem ne_of_cell {w : World} {k u i : Nat} {v : Value} {a b : Int} {T : TypeId} {fz : Nat × Nat} (hv : ∀ x, v ≠ .int .i64 x) (U : w.heap[u]? = some (.cells #[.int .i64 a, .int .i64 b] T fz)) (c : w.cell? ⟨k, i, none⟩ = some v) : k ≠ u := by
  rintro rfl
  rw [cell_of_row w _ _ _ _ _ U] at c
  rcases i with _ | _ | i
  · simp at c; exact hv _ c.symm
  · simp at c; exact hv _ c.symm
  · simp at c
theorem load_same (s : St) (a b : Int) : (s.load a).got b = s.got b := rfl
theorem fix_two (s : St) (r : Rq) (f : Int) (u : Vl) (h1 : r.op = 1) (hu : Vl.of (s.got f) = u) : ∃ a1 s1 a2 s2 b1 s3, (Sx.new f r ⟨false, false, true, 0⟩).next s = a1 ∧ (Sx.new f r ⟨false, false, true, 0⟩).mem s = s1 ∧ a1.next s1 = a2 ∧ a1.mem s1 = s2 ∧ (Sx.new f r ⟨false, false, false, 0⟩).next s2 = b1 ∧ (Sx.new f r ⟨false, false, false, 0⟩).mem s2 = s3 ∧
    a2.done = true ∧ b1.done = true ∧ b1.o = ⟨0, u, false⟩ ∧ a2.o = ⟨0, if u.far then ⟨1, movP s u.n⟩ else u, false⟩ := by
  have e1 : Sx.new f r ⟨false, false, true, 0⟩ = ⟨some (.read f true), false, Ou.zero⟩ := by rw [Sx.new, firstK, if_pos h1]
  have e2 : Sx.new f r ⟨false, false, false, 0⟩ = ⟨some (.read f false), false, Ou.zero⟩ := by rw [Sx.new, firstK, if_pos h1]
  rw [e1, e2]
  rcases hf : u.far with _ | _
  · have q : (Sx.mk (some (.read f true)) false Ou.zero).next s = ⟨none, true, ⟨0, u, false⟩⟩ := by simp [Sx.next, K.next, hu, hf]
    rw [q]
    refine ⟨_, _, _, _, _, _, rfl, rfl, rfl, rfl, rfl, rfl, rfl, ?_, ?_, ?_⟩
    · simp [Sx.next, K.next, Sx.done]
    · simp [Sx.next, K.next, Sx.mem, K.mem, load_same, hu]
    · simp [Sx.next]
  · have q : (Sx.mk (some (.read f true)) false Ou.zero).next s = ⟨some (.follow u.n), true, Ou.zero⟩ := by simp [Sx.next, K.next, hu, hf]
    rw [q]
    refine ⟨_, _, _, _, _, _, rfl, rfl, rfl, rfl, rfl, rfl, rfl, ?_, ?_, ?_⟩
    · simp [Sx.next, K.next, Sx.done]
    · simp [Sx.next, K.next, Sx.mem, K.mem, load_same, hu]
    · simp [Sx.next, K.next, Sx.mem, K.mem, load_same, movP]
set_option maxHeartbeats 8000000 in
theorem wDirectFixes (at_ : Option Addr) (lt ct : Nat) (zt : Nat → Int) (av : Option Addr) (ll cv' : Nat) (zl : Nat → Vl) (a1 a2 : Int) (h10 : -9223372036854775808 ≤ a1) (h11 : a1 ≤ 9223372036854775807) (h20 : -9223372036854775808 ≤ a2) (h21 : a2 ≤ 9223372036854775807) (w : World) (W : H.Wid w) (ci : CameI w at_ lt zt) (cv : CameV w av ll zl) :
    Calls Tryd.prog 5 #[.agg #[.slice at_ lt ct, .slice av ll cv'], .int .i64 a1, .int .i64 a2] w fun e w' => e = .returned (.bool true) ∧ Below w.heap.size w w' := by
  have K1 := kd_lt a1 16 (by decide)
  have K2 := kd_lt a2 3 (by decide)
  obtain ⟨S, hS⟩ : ∃ S, laidO (tagP lt zt) (fldP ll zl) 16 = S := ⟨_, rfl⟩
  have hSl : S.ws.length = 160 := by rw [← hS]; exact laid_len 16
  obtain ⟨k, hk⟩ : ∃ k : Nat, kd a1 16 = k := ⟨(kd a1 16).toNat, by omega⟩
  obtain ⟨f, hf⟩ : ∃ f : Nat, kd a2 3 = f := ⟨(kd a2 3).toNat, by omega⟩
  rw [hk] at K1
  rw [hf] at K2
  have G := good_fldP ll zl (3 * k + f)
  obtain ⟨u, hu⟩ : ∃ u, fldP ll zl (3 * k + f) = u := ⟨_, rfl⟩
  rw [hu] at G
  have hw : S.word (97 + 4 * (k : Int) + (f : Int)) = u.w := by rw [← hS, laid_fld (by omega) (by omega), hu]
  obtain ⟨A, hA⟩ : ∃ A : Int, 96 + 4 * (k : Int) = A := ⟨_, rfl⟩
  obtain ⟨fa, hfa⟩ : ∃ fa : Nat, 97 + 4 * k + f = fa := ⟨_, rfl⟩
  have hfi : 97 + 4 * (k : Int) + (f : Int) = (fa : Int) := by omega
  have hfj : A + 1 + (f : Int) = (fa : Int) := by omega
  rw [hfi] at hw
  have hgot : Vl.of (S.got (fa : Int)) = u := by rw [In.got hSl ⟨by omega, by omega⟩, hw, G.of]
  obtain ⟨x1, s1, x2, s2, b1, s3, e1, e2, e3, e4, e5, e6, f1, f2, f3, f4⟩ := fix_two S ⟨1, A, f, ⟨0, 0⟩, ⟨0, 0⟩⟩ fa u rfl hgot
  have hU := u.u64
  have hkk : F.Plain.kind u.w = u.k := congrArg Vl.k G.of
  have hnn : F.Plain.num u.w = u.n := congrArg Vl.n G.of
  have hA0 : 0 ≤ A := by omega
  have hA1 : A < 4096 := by omega
  have fi0 : (0 : Int) ≤ (fa : Int) := by omega
  have fi1 : (fa : Int) < 160 := by omega
  have fb0 : (0 : Int) ≤ (f : Int) := by omega
  have fb1 : (f : Int) < 4096 := by omega
  clear hfa
  go_enter Tryd.func5, Tryd.ntmps5
  go_upto_region 7 with (first
    | (go_at_call 8; refine (cShown _ (W.on (by go_grown))).mono ?_; rintro e w1 ⟨rfl, hb1'⟩; have hb1 : Below w.heap.size w w1 := bel_trans (by go_grown) hb1'; have cb0 : w1.cell? ⟨w.heap.size, 0, none⟩ = some (.slice at_ lt ct) := bcell hb1' (by simp) (by go_cell); have cb1 : w1.cell? ⟨w.heap.size, 1, none⟩ = some (.slice av ll cv') := bcell hb1' (by simp) (by go_cell); clear hb1')
    | (go_at_call 9; refine (cLaid w1 (W.on hb1) (ci.on hb1) (cv.on hb1)).mono ?_; rintro e w2 ⟨b, y, rfl, h2⟩; have h3 := h2.lift hb1 W; rw [hS] at h3; clear h2)
    | (go_at_call_of 10 (Value.int IntKind.i64 a1); refine (cKind _ a1 16 h10 h11 (by decide)).mono ?_; rintro e wk ⟨rfl, hwk⟩; rw [hwk, hk]; clear hwk wk)
    | (go_at_call 10; refine (cKind _ a2 3 h20 h21 (by decide)).mono ?_; rintro e wk ⟨rfl, hwk⟩; rw [hwk, hf]; clear hwk wk))
  have RB : Below w2.heap.size w2 (w2.alloc (.cells #[.int .i64 1, .int .i64 A, .int .i64 f, .int .i64 0, .int .i64 0, .int .i64 0, .int .i64 0] 61)) := (Below.refl _ _).alloc (Nat.le_refl _) _
  have h4 := h3.below RB
  have R4 : Bx (w2.alloc (.cells #[.int .i64 1, .int .i64 A, .int .i64 f, .int .i64 0, .int .i64 0, .int .i64 0, .int .i64 0] 61)) w2.heap.size 61 #[.int .i64 1, .int .i64 A, .int .i64 f, .int .i64 0, .int .i64 0, .int .i64 0, .int .i64 0] := ⟨heap_alloc_new _ _, by decide, fun h => absurd h (by decide)⟩
  go_upto_region 8 with (fail)
  generalize w2.alloc (.cells #[.int .i64 1, .int .i64 A, .int .i64 f, .int .i64 0, .int .i64 0, .int .i64 0, .int .i64 0] 61) = w4 at h4 R4 ⊢
  generalize w2.heap.size = rb at R4 ⊢
  clear RB
  have rcw40 : w4.cell? ⟨rb, 0, none⟩ = some (.int .i64 1) := R4.cell 0
  have rcw41 : w4.cell? ⟨rb, 1, none⟩ = some (.int .i64 A) := R4.cell 1
  have rcw42 : w4.cell? ⟨rb, 2, none⟩ = some (.int .i64 f) := R4.cell 2
  have rcw43 : w4.cell? ⟨rb, 3, none⟩ = some (.int .i64 0) := R4.cell 3
  have rcw44 : w4.cell? ⟨rb, 4, none⟩ = some (.int .i64 0) := R4.cell 4
  have rcw45 : w4.cell? ⟨rb, 5, none⟩ = some (.int .i64 0) := R4.cell 5
  have rcw46 : w4.cell? ⟨rb, 6, none⟩ = some (.int .i64 0) := R4.cell 6
  have rlw4 := R4.lt
  go_upto_region 9 with (go_at_call 19; refine (cNewDirect A ⟨1, A, f, ⟨0, 0⟩, ⟨0, 0⟩⟩ ⟨false, false, true, 0⟩ _ hA0 hA1 fb0 fb1).mono ?_; rintro e w5 ⟨px, rfl, M5⟩; have h5 := h4.below M5.bel; have X0 : Mx w w5 px 94 (Sx.new fa ⟨1, A, f, ⟨0, 0⟩, ⟨0, 0⟩⟩ ⟨false, false, true, 0⟩) := hfj ▸ M5.mx h4.bel.size (by decide) (by decide) (Sx.ok_new _ _ _); have R5 := R4.below M5.bel; clear M5; have rcw50 : w5.cell? ⟨rb, 0, none⟩ = some (.int .i64 1) := R5.cell 0; have rcw51 : w5.cell? ⟨rb, 1, none⟩ = some (.int .i64 A) := R5.cell 1; have rcw52 : w5.cell? ⟨rb, 2, none⟩ = some (.int .i64 f) := R5.cell 2; have rcw53 : w5.cell? ⟨rb, 3, none⟩ = some (.int .i64 0) := R5.cell 3; have rcw54 : w5.cell? ⟨rb, 4, none⟩ = some (.int .i64 0) := R5.cell 4; have rcw55 : w5.cell? ⟨rb, 5, none⟩ = some (.int .i64 0) := R5.cell 5; have rcw56 : w5.cell? ⟨rb, 6, none⟩ = some (.int .i64 0) := R5.cell 6; have rlw5 := R5.lt)
  go_upto_region 10 with (go_at_call 19; refine (cNewDirect A ⟨1, A, f, ⟨0, 0⟩, ⟨0, 0⟩⟩ ⟨false, false, false, 0⟩ _ hA0 hA1 fb0 fb1).mono ?_; rintro e w6 ⟨pz, rfl, M6⟩; have h6 := h5.below M6.bel; have Z0 : Mx w w6 pz 94 (Sx.new fa ⟨1, A, f, ⟨0, 0⟩, ⟨0, 0⟩⟩ ⟨false, false, false, 0⟩) := hfj ▸ M6.mx h5.bel.size (by decide) (by decide) (Sx.ok_new _ _ _); have nxz : px ≠ pz := (by have := X0.lt; have := M6.new; omega); have X1 := X0.below M6.bel; clear M6)
  clear R4 R5
  go_upto_region 12 with (fail)
  go_upto_region 13 with (go_at_call 12; refine (tD h6 X1 (by decide)).mono ?_; rintro e w7 ⟨rfl, h7, X2, o7⟩; rw [e1] at X2 ⊢; rw [e2] at h7; obtain ⟨vx, Bx'⟩ := X1.blk; have Z1 := Z0.oth1 o7 Bx' (by decide) (Ne.symm nxz); clear Bx' o7)
  go_upto_region 14 with (go_at_call 12; refine (tD h7 X2 (by decide)).mono ?_; rintro e w8 ⟨rfl, h8, X3, o8⟩; rw [e3] at X3 ⊢; rw [e4] at h8; rw [f1]; obtain ⟨vx, Bx'⟩ := X2.blk; have Z2 := Z1.oth1 o8 Bx' (by decide) (Ne.symm nxz); clear Bx' o8)
  go_upto_region 15 with (go_at_call 12; refine (tD h8 Z2 (by decide)).mono ?_; rintro e w9 ⟨rfl, h9, Z3, o9⟩; rw [e5] at Z3 ⊢; rw [e6] at h9; rw [f2]; obtain ⟨vz, Bz'⟩ := Z2.blk; have X4 := X3.oth1 o9 Bz' (by decide) nxz; clear Bz' o9)
  obtain ⟨g, cp, hs⟩ := h9.seen
  have c0 := hs.c0
  rw [hSl] at c0
  have c1 := hs.at hSl fa (by omega)
  rw [hw] at c1
  have ly := hs.ly
  have lg := hs.lg
  have hS9 := hs
  obtain ⟨uw, huw⟩ : ∃ uw, u.w = uw := ⟨_, rfl⟩
  rw [huw] at c1 hU hkk hnn
  go_upto_region 16 with (go_at_call 16; refine (F.rOf uw hU.1 hU.2 _).mono ?_; rintro e w10 ⟨rfl, hw10⟩; rw [hkk, hnn] at hw10 ⊢; have hb10 : Below w9.heap.size w9 w10 := (by rw [hw10]; go_grown); have h10' := h9.below hb10; have X5 := X4.below hb10; have Z5 := Z3.below hb10; have hs10 := hs.below hb10; clear hw10 hb10)
  have VB : Below w10.heap.size w10 (w10.alloc (.cells #[.int .i64 u.k, .int .i64 u.n] 24)) := (Below.refl _ _).alloc (Nat.le_refl _) _
  have h12 := h10'.below VB
  have X6 := X5.below VB
  have Z6 := Z5.below VB
  have hs12 := hs10.below VB
  have V1 : Blk w (w10.alloc (.cells #[.int .i64 u.k, .int .i64 u.n] 24)) w10.heap.size 24 #[.int .i64 u.k, .int .i64 u.n] := Blk.new h10'.bel.size _ (by decide)
  clear hs10 X5 Z5 h10'
  generalize w10.alloc (.cells #[.int .i64 u.k, .int .i64 u.n] 24) = w12 at h12 X6 Z6 hs12 V1 ⊢
  generalize w10.heap.size = vb at V1 ⊢
  clear VB
  have y0 : w12.cell? ⟨vb, 0, none⟩ = some (.int .i64 u.k) := V1.cell 0
  have y1 : w12.cell? ⟨vb, 1, none⟩ = some (.int .i64 u.n) := V1.cell 1
  have yl := V1.lt
  have VC : Below w12.heap.size w12 (w12.alloc (.cells #[.int .i64 u.k, .int .i64 u.n] 24)) := (Below.refl _ _).alloc (Nat.le_refl _) _
  have h13 := h12.below VC
  have X7 := X6.below VC
  have Z7 := Z6.below VC
  have hs13 := hs12.below VC
  have V2 := V1.below VC
  have U2 : Blk w (w12.alloc (.cells #[.int .i64 u.k, .int .i64 u.n] 24)) w12.heap.size 24 #[.int .i64 u.k, .int .i64 u.n] := Blk.new h12.bel.size _ (by decide)
  have nvu : vb ≠ w12.heap.size := by omega
  go_upto_region 17 with (fail)
  clear y0 y1 yl
  generalize w12.alloc (.cells #[.int .i64 u.k, .int .i64 u.n] 24) = w13 at h13 X7 Z7 hs13 V2 U2 ⊢
  generalize w12.heap.size = ub at U2 nvu ⊢
  clear VC V1 hs12 X6 Z6 h12 X4 Z3 hs hS9 c0 c1 ly lg
  have y0 : w13.cell? ⟨vb, 0, none⟩ = some (.int .i64 u.k) := V2.cell 0
  have y1 : w13.cell? ⟨vb, 1, none⟩ = some (.int .i64 u.n) := V2.cell 1
  have yl := V2.lt
  have z0 : w13.cell? ⟨ub, 0, none⟩ = some (.int .i64 u.k) := U2.cell 0
  have z1 : w13.cell? ⟨ub, 1, none⟩ = some (.int .i64 u.n) := U2.cell 1
  have zf1 := U2.free 1
  have zl' := U2.lt
  have q1 := fOut1
  rcases hfar : u.far with _ | _
  · have f4 : x2.o = ⟨0, u, false⟩ := by rw [f4, hfar]; rfl
    have hkn : (u.k == 1) = false ∨ ((u.k == 1) = true ∧ (u.n != 0) = false) := by
      unfold Vl.far at hfar
      rcases h1 : (u.k == 1) with _ | _
      · exact .inl rfl
      · rw [h1] at hfar; exact .inr ⟨rfl, by simpa using hfar⟩
    rcases hkn with hk0 | ⟨hk0, hn0⟩
    · go_upto_region 19 with (fail)
      obtain ⟨vx, Bx'⟩ := X7.blk
      obtain ⟨vz, Bz'⟩ := Z7.blk
      have hx : x2.o.val = .agg #[.int .i64 0, .int .i64 u.k, .int .i64 u.n, .bool false] := by rw [f4]; rfl
      have hz : b1.o.val = .agg #[.int .i64 0, .int .i64 u.k, .int .i64 u.n, .bool false] := by rw [f3]; rfl
      have eq1 : ∀ w, (binOp .eql 24 (.agg #[.int .i64 u.k, .int .i64 u.n]) (.agg #[.int .i64 u.k, .int .i64 u.n])).run Tryd.prog w = .ok (.bool true) w := eqVal_t (a := ⟨u.k, u.n⟩) (b := ⟨u.k, u.n⟩) rfl
      have eq2 : ∀ w, (binOp .eql 24 (.agg #[.int .i64 u.k, .int .i64 u.n]) (.agg #[.int .i64 u.k, .int .i64 u.n])).run Tryd.prog w = .ok (.bool true) w := eqVal_t (a := u) (b := u) rfl
      have lv := V2.lt
      have lu := U2.lt
      have keep : ∀ w', Below w13.heap.size w13 w' → w'.cell? ⟨vb, 0, none⟩ = some (.int .i64 u.k) ∧ w'.cell? ⟨vb, 1, none⟩ = some (.int .i64 u.n) ∧ w'.cell? ⟨ub, 0, none⟩ = some (.int .i64 u.k) ∧ w'.cell? ⟨ub, 1, none⟩ = some (.int .i64 u.n) := fun w' hb => ⟨bcell hb lv (V2.cell 0), bcell hb lv (V2.cell 1), bcell hb lu (U2.cell 0), bcell hb lu (U2.cell 1)⟩
      have hbd : Below w13.heap.size w13 w13.drew := (Below.refl w13.heap.size w13).drew
      have RD := keep _ hbd
      go_region_held3 (fun w' => w'.cell? ⟨vb, 0, none⟩ = some (.int .i64 u.k) ∧ w'.cell? ⟨vb, 1, none⟩ = some (.int .i64 u.n) ∧ w'.cell? ⟨ub, 0, none⟩ = some (.int .i64 u.k) ∧ w'.cell? ⟨ub, 1, none⟩ = some (.int .i64 u.n)) (first | assumption | exact RD | exact keep _ (by assumption))
        (first
          | (go_at_call_of 14 (pt px); refine (cDResult (Bx'.below hbd)).mono ?_; rintro e r1 ⟨rfl, hb1'⟩; rw [hx]; have hq1 := bel_trans hbd hb1')
          | (go_at_call_of 14 (pt pz); refine (cDResult (Bz'.below hq1)).mono ?_; rintro e r2 ⟨rfl, hb2'⟩; rw [hz]; have hq2 := bel_trans hq1 hb2'))
      go_wp2
      go_ret
      exact ⟨rfl, (h13.below hq2).bel⟩
    · go_upto_region 19 with (fail)
      obtain ⟨vx, Bx'⟩ := X7.blk
      obtain ⟨vz, Bz'⟩ := Z7.blk
      have hx : x2.o.val = .agg #[.int .i64 0, .int .i64 u.k, .int .i64 u.n, .bool false] := by rw [f4]; rfl
      have hz : b1.o.val = .agg #[.int .i64 0, .int .i64 u.k, .int .i64 u.n, .bool false] := by rw [f3]; rfl
      have eq1 : ∀ w, (binOp .eql 24 (.agg #[.int .i64 u.k, .int .i64 u.n]) (.agg #[.int .i64 u.k, .int .i64 u.n])).run Tryd.prog w = .ok (.bool true) w := eqVal_t (a := ⟨u.k, u.n⟩) (b := ⟨u.k, u.n⟩) rfl
      have eq2 : ∀ w, (binOp .eql 24 (.agg #[.int .i64 u.k, .int .i64 u.n]) (.agg #[.int .i64 u.k, .int .i64 u.n])).run Tryd.prog w = .ok (.bool true) w := eqVal_t (a := u) (b := u) rfl
      have lv := V2.lt
      have lu := U2.lt
      have keep : ∀ w', Below w13.heap.size w13 w' → w'.cell? ⟨vb, 0, none⟩ = some (.int .i64 u.k) ∧ w'.cell? ⟨vb, 1, none⟩ = some (.int .i64 u.n) ∧ w'.cell? ⟨ub, 0, none⟩ = some (.int .i64 u.k) ∧ w'.cell? ⟨ub, 1, none⟩ = some (.int .i64 u.n) := fun w' hb => ⟨bcell hb lv (V2.cell 0), bcell hb lv (V2.cell 1), bcell hb lu (U2.cell 0), bcell hb lu (U2.cell 1)⟩
      have hbd : Below w13.heap.size w13 w13.drew := (Below.refl w13.heap.size w13).drew
      have RD := keep _ hbd
      go_region_held3 (fun w' => w'.cell? ⟨vb, 0, none⟩ = some (.int .i64 u.k) ∧ w'.cell? ⟨vb, 1, none⟩ = some (.int .i64 u.n) ∧ w'.cell? ⟨ub, 0, none⟩ = some (.int .i64 u.k) ∧ w'.cell? ⟨ub, 1, none⟩ = some (.int .i64 u.n)) (first | assumption | exact RD | exact keep _ (by assumption))
        (first
          | (go_at_call_of 14 (pt px); refine (cDResult (Bx'.below hbd)).mono ?_; rintro e r1 ⟨rfl, hb1'⟩; rw [hx]; have hq1 := bel_trans hbd hb1')
          | (go_at_call_of 14 (pt pz); refine (cDResult (Bz'.below hq1)).mono ?_; rintro e r2 ⟨rfl, hb2'⟩; rw [hz]; have hq2 := bel_trans hq1 hb2'))
      go_wp2
      go_ret
      exact ⟨rfl, (h13.below hq2).bel⟩
  · obtain ⟨i1, hi1, ei1⟩ := G.far hfar
    have hk0 : (u.k == 1) = true := by unfold Vl.far at hfar; simp only [Bool.and_eq_true] at hfar; exact hfar.1
    have hn0 : (u.n != 0) = true := by unfold Vl.far at hfar; simp only [Bool.and_eq_true] at hfar; exact hfar.2
    have hk1 : u.k = 1 := by simpa using hk0
    obtain ⟨n1, hn1⟩ : ∃ n : Nat, 96 + 4 * i1 = n := ⟨_, rfl⟩
    have hun : u.n = (n1 : Int) := by omega
    have g1 : S.got (n1 : Int) = S.word n1 := In.got hSl ⟨by omega, by omega⟩
    have r1 := h13.rng2.got (n1 : Int)
    rw [g1] at r1
    obtain ⟨g', cp', hs14⟩ := h13.seen
    have c0 := hs14.c0
    rw [hSl] at c0
    have c1 := hs14.at hSl n1 (by omega)
    have ly := hs14.ly
    have lg := hs14.lg
    obtain ⟨u1, hu1⟩ : ∃ u, S.word (n1 : Int) = u := ⟨_, rfl⟩
    rw [hu1] at r1 c1
    obtain ⟨m1, hmm1⟩ : ∃ m, mv u1 (n1 : Int) = m := ⟨_, rfl⟩
    have f4 : x2.o = ⟨0, ⟨1, m1⟩, false⟩ := by rw [f4, hfar]; simp only [if_true]; rw [movP, hun, g1, hu1, hmm1]
    have b1i : (n1 : Int) < 160 := by omega
    have b3 : (0 : Int) ≤ (n1 : Int) := by omega
    go_upto_region 18 with (fail)
    have y1' : w13.cell? ⟨vb, 1, none⟩ = some (.int .i64 n1) := by rw [y1, hun]
    have keep : ∀ w', Below w13.heap.size w13 w' → w'.cell? ⟨y, 0, none⟩ = some (.slice (some ⟨g', 0, none⟩) 160 cp') ∧ w'.cell? ⟨g', n1, none⟩ = some (.int .u64 u1) ∧ w'.cell? ⟨vb, 1, none⟩ = some (.int .i64 n1) := fun w' hb => ⟨bcell hb ly c0, bcell hb lg c1, bcell hb yl y1'⟩
    have keepS : ∀ {w'}, Below w13.heap.size w13 w' → (w'.setCell ⟨ub, 1, none⟩ (.int .i64 m1)).cell? ⟨y, 0, none⟩ = some (.slice (some ⟨g', 0, none⟩) 160 cp') ∧ (w'.setCell ⟨ub, 1, none⟩ (.int .i64 m1)).cell? ⟨g', n1, none⟩ = some (.int .u64 u1) ∧ (w'.setCell ⟨ub, 1, none⟩ (.int .i64 m1)).cell? ⟨vb, 1, none⟩ = some (.int .i64 n1) := fun {w'} hb => by
      have U' := U2.below hb
      have oS : Oth [ub] w' (w'.setCell ⟨ub, 1, none⟩ (.int .i64 m1)) := Oth.set _ _ _ _ (by simp)
      have q := keep _ hb
      have ney : y ≠ ub := ne_of_cell (fun _ => by simp) U2.at_ c0
      have neg : g' ≠ ub := ne_of_cell (fun _ => by simp) U2.at_ c1
      have st : ∀ {k i : Nat}, k ≠ ub → (w'.setCell ⟨ub, 1, none⟩ (.int .i64 m1)).cell? ⟨k, i, none⟩ = w'.cell? ⟨k, i, none⟩ := fun {k i} hk => World.cell?_of_block (a := ⟨k, i, none⟩) (Below.heap_setCell _ _ _ _ hk)
      exact ⟨(st ney).trans q.1, (st neg).trans q.2.1, (st nvu).trans q.2.2⟩
    have hbd : Below w13.heap.size w13 w13.drew := (Below.refl w13.heap.size w13).drew
    have RD := keep _ hbd
    refine wp_region_noPanic ?_
    refine wp_region_held_drew (S := fun w' => w'.cell? ⟨y, 0, none⟩ = some (.slice (some ⟨g', 0, none⟩) 160 cp') ∧ w'.cell? ⟨g', n1, none⟩ = some (.int .u64 u1) ∧ w'.cell? ⟨vb, 1, none⟩ = some (.int .i64 n1)) (by kernel_rfl) RD (fun hHeld => ?_)
    refine takeH (i := 0) 91 (pt y) rfl rfl (by kernel_rfl) (by kernel_rfl) (by kernel_rfl) (fun _ _ _ h => h) (by rfl) ?_ (by assumption) ?_
    · intro w hSw; (try dsimp only at hSw); go_simp
    simp only [List.setIfInBounds_toArray, List.set_cons_zero, List.set_cons_succ]
    refine takeH (i := 1) 92 (pt y) rfl rfl (by kernel_rfl) (by kernel_rfl) (by kernel_rfl) (fun _ _ _ h => h) (by rfl) ?_ (by assumption) ?_
    · intro w hSw; (try dsimp only at hSw); go_simp
    simp only [List.setIfInBounds_toArray, List.set_cons_zero, List.set_cons_succ]
    refine takeH (i := 2) 93 (pt y) rfl rfl (by kernel_rfl) (by kernel_rfl) (by kernel_rfl) (fun _ _ _ h => h) (by rfl) ?_ (by assumption) ?_
    · intro w hSw; (try dsimp only at hSw); go_simp
    simp only [List.setIfInBounds_toArray, List.set_cons_zero, List.set_cons_succ]
    refine takeH (i := 3) 94 (.slice (some ⟨g', 0, none⟩) 160 cp') rfl rfl (by kernel_rfl) (by kernel_rfl) (by kernel_rfl) (fun _ _ _ h => h) (by rfl) ?_ (by assumption) ?_
    · intro w hSw; (try dsimp only at hSw); go_simp
    simp only [List.setIfInBounds_toArray, List.set_cons_zero, List.set_cons_succ]
    refine takeH (i := 4) 95 (.pointer (some ⟨vb, 1, none⟩)) rfl rfl (by kernel_rfl) (by kernel_rfl) (by kernel_rfl) (fun _ _ _ h => h) (by rfl) ?_ (by assumption) ?_
    · intro w hSw; (try dsimp only at hSw); go_simp
    simp only [List.setIfInBounds_toArray, List.set_cons_zero, List.set_cons_succ]
    refine takeH (i := 5) 96 (.int .i64 n1) rfl rfl (by kernel_rfl) (by kernel_rfl) (by kernel_rfl) (fun _ _ _ h => h) (by rfl) ?_ (by assumption) ?_
    · intro w hSw; (try dsimp only at hSw); go_simp
    simp only [List.setIfInBounds_toArray, List.set_cons_zero, List.set_cons_succ]
    refine takeH (i := 6) 97 (.pointer (some ⟨g', n1, none⟩)) rfl rfl (by kernel_rfl) (by kernel_rfl) (by kernel_rfl) (fun _ _ _ h => h) (by rfl) ?_ (by assumption) ?_
    · intro w hSw; (try dsimp only at hSw); go_simp
    simp only [List.setIfInBounds_toArray, List.set_cons_zero, List.set_cons_succ]
    refine takeH (i := 7) 98 (.int .u64 u1) rfl rfl (by kernel_rfl) (by kernel_rfl) (by kernel_rfl) (fun _ _ _ h => h) (by rfl) ?_ (by assumption) ?_
    · intro w hSw; (try dsimp only at hSw); go_simp
    simp only [List.setIfInBounds_toArray, List.set_cons_zero, List.set_cons_succ]
    refine takeH (i := 8) 99 (.pointer (some ⟨vb, 1, none⟩)) rfl rfl (by kernel_rfl) (by kernel_rfl) (by kernel_rfl) (fun _ _ _ h => h) (by rfl) ?_ (by assumption) ?_
    · intro w hSw; (try dsimp only at hSw); go_simp
    simp only [List.setIfInBounds_toArray, List.set_cons_zero, List.set_cons_succ]
    refine takeH (i := 9) 100 (.int .i64 n1) rfl rfl (by kernel_rfl) (by kernel_rfl) (by kernel_rfl) (fun _ _ _ h => h) (by rfl) ?_ (by assumption) ?_
    · intro w hSw; (try dsimp only at hSw); go_simp
    simp only [List.setIfInBounds_toArray, List.set_cons_zero, List.set_cons_succ]
    refine wpAnyH_ready (rs := [10]) (by kernel_rfl) (by simp) ?_
    refine AllReadyH.cons rfl (fun K hK => ?_) AllReadyH.nil
    go_simp
    refine (H.rMoved u1 n1 r1.1 r1.2 _).mono ?_
    rintro e w14 ⟨rfl, hw14⟩
    rw [hmm1]
    have hb14 : Below w13.heap.size w13 w14 := (by rw [hw14]; exact (hbd.alloc hbd.size _).alloc (Nat.le_trans hbd.size (by simp)) _)
    clear hw14
    have U3 := U2.below hb14
    have d1 : w14.cell? ⟨ub, 1, none⟩ = some (.int .i64 u.n) := U3.cell 1
    have df1 := U3.free 1
    refine hK.out _ _ (keep _ hb14) (fun hHeld => ?_)
    clear hK K
    try simp only [Act.put, List.setIfInBounds_toArray, List.set_cons_zero, List.set_cons_succ]
    refine takeH (i := 11) 102 (.pointer (some ⟨ub, 1, none⟩)) rfl rfl (by kernel_rfl) (by kernel_rfl) (by kernel_rfl) (fun _ _ _ h => h) (by rfl) ?_ (by assumption) ?_
    · intro w hSw; (try dsimp only at hSw); go_simp
    simp only [List.setIfInBounds_toArray, List.set_cons_zero, List.set_cons_succ]
    refine wpAnyH_ready (rs := [12]) (by kernel_rfl) (by simp) ?_
    refine AllReadyH.cons rfl (fun K hK => ?_) AllReadyH.nil
    go_simp
    refine hK.out _ _ (keepS hb14) (fun hHeld => ?_)
    clear hK K
    try simp only [Act.put, List.setIfInBounds_toArray, List.set_cons_zero, List.set_cons_succ]
    refine wpAnyH_done (by kernel_rfl) ?_ _
    refine NoPanic.normal ?_
    have V4 := V2.below hb14
    have X8 := X7.below hb14
    have Z8 := Z7.below hb14
    have h14 := h13.below hb14
    have U4 := U3.set 1 (.int .i64 m1)
    have o14 : Oth [ub] w14 (w14.setCell ⟨ub, 1, none⟩ (.int .i64 m1)) := Oth.set _ _ _ _ (by simp)
    have V5 : Blk w (w14.setCell ⟨ub, 1, none⟩ (.int .i64 m1)) vb 24 #[.int .i64 u.k, .int .i64 u.n] := V4.oth o14 (by simpa using nvu)
    have h15 := h14.set U3 1 (.int .i64 m1)
    have X9 : ∃ v, Blk w (w14.setCell ⟨ub, 1, none⟩ (.int .i64 m1)) px 94 (x2.cells v) := by obtain ⟨v, B⟩ := X8.blk; exact ⟨v, B.oth o14 (by simpa using B.ne U3 (by decide))⟩
    have Z9 : ∃ v, Blk w (w14.setCell ⟨ub, 1, none⟩ (.int .i64 m1)) pz 94 (b1.cells v) := by obtain ⟨v, B⟩ := Z8.blk; exact ⟨v, B.oth o14 (by simpa using B.ne U3 (by decide))⟩
    have U5 : Blk w (w14.setCell ⟨ub, 1, none⟩ (.int .i64 m1)) ub 24 #[.int .i64 1, .int .i64 m1] := (by rw [← hk1]; exact U4)
    clear U4 o14 V4 X8 Z8 hHeld
    generalize w14.setCell ⟨ub, 1, none⟩ (.int .i64 m1) = w15 at h15 V5 X9 Z9 U5 ⊢
    clear keep keepS RD y0 y1 yl z0 z1 zf1 zl' y1' hun hk1 hk0 hn0 hfar ei1 hn1 g1 hu1 hmm1 hbd hb14 c0 c1
    go_upto_region 19 with (fail)
    obtain ⟨vx, Bx'⟩ := X9
    obtain ⟨vz, Bz'⟩ := Z9
    have hx : x2.o.val = .agg #[.int .i64 0, .int .i64 1, .int .i64 m1, .bool false] := by rw [f4]; rfl
    have hz : b1.o.val = .agg #[.int .i64 0, .int .i64 u.k, .int .i64 u.n, .bool false] := by rw [f3]; rfl
    have eq1 : ∀ w, (binOp .eql 24 (.agg #[.int .i64 1, .int .i64 m1]) (.agg #[.int .i64 1, .int .i64 m1])).run Tryd.prog w = .ok (.bool true) w := eqVal_t (a := ⟨1, m1⟩) (b := ⟨1, m1⟩) rfl
    have eq2 : ∀ w, (binOp .eql 24 (.agg #[.int .i64 u.k, .int .i64 u.n]) (.agg #[.int .i64 u.k, .int .i64 u.n])).run Tryd.prog w = .ok (.bool true) w := eqVal_t (a := u) (b := u) rfl
    have lv := V5.lt
    have lu := U5.lt
    have keep : ∀ w', Below w15.heap.size w15 w' → w'.cell? ⟨vb, 0, none⟩ = some (.int .i64 u.k) ∧ w'.cell? ⟨vb, 1, none⟩ = some (.int .i64 u.n) ∧ w'.cell? ⟨ub, 0, none⟩ = some (.int .i64 1) ∧ w'.cell? ⟨ub, 1, none⟩ = some (.int .i64 m1) := fun w' hb => ⟨bcell hb lv (V5.cell 0), bcell hb lv (V5.cell 1), bcell hb lu (U5.cell 0), bcell hb lu (U5.cell 1)⟩
    have hbd : Below w15.heap.size w15 w15.drew := (Below.refl w15.heap.size w15).drew
    have RD := keep _ hbd
    go_region_held3 (fun w' => w'.cell? ⟨vb, 0, none⟩ = some (.int .i64 u.k) ∧ w'.cell? ⟨vb, 1, none⟩ = some (.int .i64 u.n) ∧ w'.cell? ⟨ub, 0, none⟩ = some (.int .i64 1) ∧ w'.cell? ⟨ub, 1, none⟩ = some (.int .i64 m1)) (first | assumption | exact RD | exact keep _ (by assumption))
      (first
        | (go_at_call_of 14 (pt px); refine (cDResult (Bx'.below hbd)).mono ?_; rintro e r1 ⟨rfl, hb1'⟩; rw [hx]; have hq1 := bel_trans hbd hb1')
        | (go_at_call_of 14 (pt pz); refine (cDResult (Bz'.below hq1)).mono ?_; rintro e r2 ⟨rfl, hb2'⟩; rw [hz]; have hq2 := bel_trans hq1 hb2'))
    go_wp2
    go_ret
    exact ⟨rfl, (h15.below hq2).bel⟩
end Go.Proofs.YtgakmpfmckikgaaDoor
