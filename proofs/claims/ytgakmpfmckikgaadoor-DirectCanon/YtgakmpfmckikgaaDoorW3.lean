/-
  The walk of the law on a Swap that knows of moved objects.
-/
import Derived.Test.YtgakmpfmckikgaaDoorDr
import Derived.Test.YtgakmpfmckikgaaDoorHand
import Derived.Deep.Cut
import Derived.Deep.RegionHeld3
namespace Go.Proofs.YtgakmpfmckikgaaDoor
set_option linter.unusedVariables false
set_option linter.unusedSimpArgs false
set_option maxRecDepth 100000
open Go.ChangeShapes Go.WideShapes Go.RowKit
open H.Plain (hw pS pC pN pM pG pT pL mv)

set_option maxHeartbeats 12000000 in
theorem wDirectCanon (at_ : Option Addr) (lt ct : Nat) (zt : Nat → Int) (av : Option Addr) (ll cv' : Nat) (zl : Nat → Vl) (q1 q2 : Vl) (w : World) (W : H.Wid w) (ci : CameI w at_ lt zt) (cv : CameV w av ll zl) (fi1 : q1.Fit) (fi2 : q2.Fit) :
    Calls Tryd.prog 6 #[.agg #[.slice at_ lt ct, .slice av ll cv'], .agg #[.int .i64 q1.k, .int .i64 q1.n], .agg #[.int .i64 q2.k, .int .i64 q2.n]] w fun e w' => e = .returned (.bool true) ∧ Below w.heap.size w w' := by
  obtain ⟨S, hS⟩ : ∃ S, laidO (tagP lt zt) (fldP ll zl) 16 = S := ⟨_, rfl⟩
  have hSl : S.ws.length = 160 := by rw [← hS]; exact laid_len 16
  have G := good_fldP ll zl 0
  obtain ⟨u, hu⟩ : ∃ u, fldP ll zl 0 = u := ⟨_, rfl⟩
  rw [hu] at G
  have hw : S.word 97 = u.w := by rw [← hS, ← hu]; exact laid_fld (i := 0) (f := 0) (by omega) (by omega)
  have hIn : In 97 := ⟨by omega, by omega⟩
  have hgot : Vl.of (S.got 97) = u := by rw [In.got hSl hIn, hw, G.of]
  have GX := good_valP q1
  have GN := good_valP q2
  obtain ⟨ex, hex⟩ : ∃ v, valP q1 = v := ⟨_, rfl⟩
  obtain ⟨nw, hnw⟩ : ∃ v, valP q2 = v := ⟨_, rfl⟩
  rw [hex] at GX
  rw [hnw] at GN
  obtain ⟨d, xe, se, hd4, E, y1', y2', y3'⟩ := canon_ends hSl hIn ⟨3, 96, 0, ex, nw⟩ rfl hgot
  simp only [GN.of] at y1' y2'
  obtain ⟨x0, hx0⟩ : ∃ x0, Sx.new 97 ⟨3, 96, 0, ex, nw⟩ ⟨false, true, false, 0⟩ = x0 := ⟨_, rfl⟩
  rw [hx0] at E
  have hU := u.u64
  have hkk : F.Plain.kind u.w = u.k := congrArg Vl.k G.of
  have hnn : F.Plain.num u.w = u.n := congrArg Vl.n G.of
  go_enter Tryd.func6, Tryd.ntmps6
  go_upto_region 5 with (first
    | (go_at_call 8; refine (cShown _ (W.on (by go_grown))).mono ?_; rintro e w1 ⟨rfl, hb1'⟩; have hb1 : Below w.heap.size w w1 := bel_trans (by go_grown) hb1'; have cb0 : w1.cell? ⟨w.heap.size, 0, none⟩ = some (.slice at_ lt ct) := bcell hb1' (by first | (simp; done) | (simp; omega)) (by go_cell); have cb1 : w1.cell? ⟨w.heap.size, 1, none⟩ = some (.slice av ll cv') := bcell hb1' (by first | (simp; done) | (simp; omega)) (by go_cell); have ce0 : w1.cell? ⟨w.heap.size + 1, 0, none⟩ = some (.int .i64 q1.k) := bcell hb1' (by first | (simp; done) | (simp; omega)) (by go_cell); have ce1 : w1.cell? ⟨w.heap.size + 1, 1, none⟩ = some (.int .i64 q1.n) := bcell hb1' (by first | (simp; done) | (simp; omega)) (by go_cell); have cn0 : w1.cell? ⟨w.heap.size + 1 + 1, 0, none⟩ = some (.int .i64 q2.k) := bcell hb1' (by first | (simp; done) | (simp; omega)) (by go_cell); have cn1 : w1.cell? ⟨w.heap.size + 1 + 1, 1, none⟩ = some (.int .i64 q2.n) := bcell hb1' (by first | (simp; done) | (simp; omega)) (by go_cell); have sz1 : w.heap.size + 1 + 1 < w1.heap.size := (by have := hb1'.size; simp at this; omega); clear hb1')
    | (go_at_call 9; refine (cLaid w1 (W.on hb1) (ci.on hb1) (cv.on hb1)).mono ?_; rintro e w2 ⟨b, y, rfl, h2⟩; have h3 := h2.lift hb1 W; rw [hS] at h3; have de0 := bcell h2.bel (by omega) ce0; have de1 := bcell h2.bel (by omega) ce1; have dn0 := bcell h2.bel (by omega) cn0; have dn1 := bcell h2.bel (by omega) cn1; have sz2 : w.heap.size + 1 + 1 < w2.heap.size := (by have := h2.bel.size; omega); clear h2 cb0 cb1 ce0 ce1 cn0 cn1))
  go_upto_region 6 with (go_at_call 18; refine (cVal q1 fi1 _).mono ?_; rintro e w3 ⟨rfl, hb3⟩; rw [hex]; have h4 := h3.below hb3; have fn0 := bcell hb3 (by omega) dn0; have fn1 := bcell hb3 (by omega) dn1; have sz3 : w.heap.size + 1 + 1 < w3.heap.size := (by have := hb3.size; omega); clear hb3 de0 de1 dn0 dn1)
  have gn0 := bcell (((Below.refl w3.heap.size w3).alloc (Nat.le_refl _) (.cells #[.int .i64 ex.k, .int .i64 ex.n] 24))) (by omega) fn0
  have gn1 := bcell (((Below.refl w3.heap.size w3).alloc (Nat.le_refl _) (.cells #[.int .i64 ex.k, .int .i64 ex.n] 24))) (by omega) fn1
  have sz4 : w.heap.size + 1 + 1 < (w3.alloc (.cells #[.int .i64 ex.k, .int .i64 ex.n] 24)).heap.size := by simp; omega
  have BEb : Below w3.heap.size w3 (w3.alloc (.cells #[.int .i64 ex.k, .int .i64 ex.n] 24)) := (Below.refl _ _).alloc (Nat.le_refl _) _
  have BE : Blk w (w3.alloc (.cells #[.int .i64 ex.k, .int .i64 ex.n] 24)) w3.heap.size 24 #[.int .i64 ex.k, .int .i64 ex.n] := Blk.new h4.bel.size _ (by decide)
  have h5 := h4.below BEb
  generalize w3.alloc (.cells #[.int .i64 ex.k, .int .i64 ex.n] 24) = w4 at BE h5 gn0 gn1 sz4 ⊢
  generalize w3.heap.size = eb at BE ⊢
  clear BEb
  go_upto_region 7 with (go_at_call 18; refine (cVal q2 fi2 _).mono ?_; rintro e w5 ⟨rfl, hb5⟩; rw [hnw]; have h6 := h5.below hb5; have BE5 := BE.below hb5; clear hb5 gn0 gn1)
  have BNb : Below w5.heap.size w5 (w5.alloc (.cells #[.int .i64 nw.k, .int .i64 nw.n] 24)) := (Below.refl _ _).alloc (Nat.le_refl _) _
  have BN : Blk w (w5.alloc (.cells #[.int .i64 nw.k, .int .i64 nw.n] 24)) w5.heap.size 24 #[.int .i64 nw.k, .int .i64 nw.n] := Blk.new h6.bel.size _ (by decide)
  have h7 := h6.below BNb
  have BE6 := BE5.below BNb
  generalize w5.alloc (.cells #[.int .i64 nw.k, .int .i64 nw.n] 24) = w6 at BN h7 BE6 ⊢
  generalize w5.heap.size = nb at BN ⊢
  clear BNb
  have a0 : w6.cell? ⟨eb, 0, none⟩ = some (.int .i64 ex.k) := BE6.cell 0
  have a1 : w6.cell? ⟨eb, 1, none⟩ = some (.int .i64 ex.n) := BE6.cell 1
  have al := BE6.lt
  have c0 : w6.cell? ⟨nb, 0, none⟩ = some (.int .i64 nw.k) := BN.cell 0
  have c1 : w6.cell? ⟨nb, 1, none⟩ = some (.int .i64 nw.n) := BN.cell 1
  have cl := BN.lt
  go_upto_region 8 with (go_at_call 19; refine (cNewDirect 96 ⟨3, 96, 0, ex, nw⟩ ⟨false, true, false, 0⟩ _ (by decide) (by decide) (by simp) (by simp)).mono ?_; rintro e w7 ⟨px, rfl, M7⟩; have h8 := h7.below M7.bel; have X0 : Mx w w7 px 94 x0 := hx0 ▸ M7.mx h7.bel.size (by decide) (by decide) (Sx.ok_new _ _ _); have BE7 := BE6.below M7.bel; have BN7 := BN.below M7.bel; clear M7)
  clear a0 a1 al c0 c1 cl
  have nd0 : (runX x0 S 0).1.done = false ∨ d = 0 := by
    rcases Nat.eq_zero_or_pos d with h | h
    · exact .inr h
    · exact .inl (E.not 0 h)
  have hd1 : 0 < d := by
    rcases Nat.eq_zero_or_pos d with h | h
    · have := E.at_
      rw [h] at this
      have q := E.done
      simp only [runX, Prod.mk.injEq] at this
      rw [← this.1, ← hx0] at q
      simp [Sx.new, firstK, Sx.done] at q
    · exact h
  go_wp2_with (fail)
  go_loopw [13, 14] (fun dv i wr => ∃ j : Nat, j ≤ d ∧ i = .int .i64 j ∧ dv = .bool (runX x0 S j).1.done ∧ Two w wr b y (runX x0 S j).2 S (128 + j) ∧ Mx w wr px 94 (runX x0 S j).1 ∧ Blk w wr eb 24 #[.int .i64 ex.k, .int .i64 ex.n] ∧ Blk w wr nb 24 #[.int .i64 nw.k, .int .i64 nw.n]) (fun _ i _ => 6 - (intOf i).toNat)
  case atStart => exact ⟨0, Nat.zero_le _, rfl, (by rw [E.not 0 hd1]), h8, X0, BE7, BN7⟩
  case round =>
    obtain ⟨j, hj, rfl, rfl, p1, p2, p3, p4⟩ := hrel
    have hj6 : (j : Int) < 6 := by omega
    by_cases hjd : j < d
    case pos =>
      have nd := E.not j hjd
      obtain ⟨xj, hxj⟩ : ∃ xj, (runX x0 S j).1 = xj := ⟨_, rfl⟩
      obtain ⟨sj, hsj⟩ : ∃ sj, (runX x0 S j).2 = sj := ⟨_, rfl⟩
      rw [hxj] at nd p2 ⊢
      rw [hsj] at p1
      rw [nd]
      have r1 : (runX x0 S (j + 1)).1 = xj.next sj := by simp only [runX, hxj, hsj]
      have r2 : (runX x0 S (j + 1)).2 = xj.mem sj := by simp only [runX, hxj, hsj]
      go_wp2_with (go_at_call 12; refine (tD p1 p2 (by omega)).mono ?_; rintro e w8 ⟨rfl, t1, t2, o8⟩; obtain ⟨vx, Bx'⟩ := p2.blk; have t3 := p3.oth o8 (by simpa using Bx'.ne p3 (by decide) |>.symm); have t4 := p4.oth o8 (by simpa using Bx'.ne p4 (by decide) |>.symm); clear Bx' o8)
      go_roundw
      case rel => exact ⟨j + 1, by omega, by go_num, (by rw [r1]), (by rw [r2]; exact t1), (by rw [r1]; exact t2), t3, t4⟩
      case measure => simp [intOf]; omega
    case neg =>
      obtain rfl : j = d := by omega
      rw [E.at_] at p1 p2 ⊢
      simp only at p1 p2 ⊢
      rw [E.done]
      obtain ⟨g, cp, hs⟩ := p1.seen
      have c0 := hs.c0
      rw [hSl] at c0
      have c1 := hs.at hSl 97 (by omega)
      rw [show ((97 : Nat) : Int) = 97 from rfl, hw] at c1
      have ly := hs.ly
      have lg := hs.lg
      obtain ⟨uw, huw⟩ : ∃ uw, u.w = uw := ⟨_, rfl⟩
      rw [huw] at c1 hU hkk hnn
      go_upto_region 16 with (go_at_call 16; refine (F.rOf uw hU.1 hU.2 _).mono ?_; rintro e w10 ⟨rfl, hw10⟩; rw [hkk, hnn] at hw10 ⊢; have hb10 : Below wr.heap.size wr w10 := (by rw [hw10]; go_grown); have t1 := p1.below hb10; have t2 := p2.below hb10; have t3 := p3.below hb10; have t4 := p4.below hb10; clear hw10 hb10)
      have BUb : Below w10.heap.size w10 (w10.alloc (.cells #[.int .i64 u.k, .int .i64 u.n] 24)) := (Below.refl _ _).alloc (Nat.le_refl _) _
      have BU : Blk w (w10.alloc (.cells #[.int .i64 u.k, .int .i64 u.n] 24)) w10.heap.size 24 #[.int .i64 u.k, .int .i64 u.n] := Blk.new t1.bel.size _ (by decide)
      have k1 := t1.below BUb
      have k2 := t2.below BUb
      have k3 := t3.below BUb
      have k4 := t4.below BUb
      generalize w10.alloc (.cells #[.int .i64 u.k, .int .i64 u.n] 24) = w11 at BU k1 k2 k3 k4 ⊢
      generalize w10.heap.size = ub at BU ⊢
      clear BUb
      clear c0 c1 ly lg hs t1 t2 t3 t4 p1 p2 p3 p4
      have a0 : w11.cell? ⟨ub, 0, none⟩ = some (.int .i64 u.k) := BU.cell 0
      have a1 : w11.cell? ⟨ub, 1, none⟩ = some (.int .i64 u.n) := BU.cell 1
      have al := BU.lt
      have c0 : w11.cell? ⟨eb, 0, none⟩ = some (.int .i64 ex.k) := k3.cell 0
      have c1 : w11.cell? ⟨eb, 1, none⟩ = some (.int .i64 ex.n) := k3.cell 1
      have cl := k3.lt
      have z0 : w11.cell? ⟨nb, 0, none⟩ = some (.int .i64 nw.k) := k4.cell 0
      have z1 : w11.cell? ⟨nb, 1, none⟩ = some (.int .i64 nw.n) := k4.cell 1
      have zl := k4.lt
      have heq := eqVal u ex
      have Gse : U64 (se.got 97) := k1.rng1.got 97
      rcases hA : (u.k == 1) with _ | _
      · have hcp : canonP S u ex = decide (u = ex) := by rw [canonP, if_neg (by simp only [Vl.far, hA]; simp)]
        rw [hcp] at y1' y2'
        rcases hd0 : decide (u = ex) with _ | _
        · rw [hd0] at y1' y2'
          have heq' : ∀ w, (binOp .eql 24 (.agg #[.int .i64 u.k, .int .i64 u.n]) (.agg #[.int .i64 ex.k, .int .i64 ex.n])).run Tryd.prog w = .ok (.bool false) w := fun w => by rw [eqVal, hd0]
          clear heq
          simp only [Bool.false_eq_true, if_false, if_true] at y2'
          clear hd0
          have b0 := a0
          have b1 := a1
          go_upto_region 19 with (fail)
          clear b0 b1
          have TB : Below w11.heap.size w11 (w11.alloc (.cells #[.int .i64 u.k, .int .i64 u.n] 24)) := (Below.refl _ _).alloc (Nat.le_refl _) _
          have BT : Blk w (w11.alloc (.cells #[.int .i64 u.k, .int .i64 u.n] 24)) w11.heap.size 24 #[.int .i64 u.k, .int .i64 u.n] := Blk.new k1.bel.size _ (by decide)
          have T9 := k1.below TB
          have X9 := k2.below TB
          have N9 := k4.below TB
          go_upto_region 20 with (fail)
          generalize w11.alloc (.cells #[.int .i64 u.k, .int .i64 u.n] 24) = w20 at BT T9 X9 N9 ⊢
          generalize w11.heap.size = tb at BT ⊢
          clear TB
          go_upto_region 22 with (fail)
          obtain ⟨vx, BX⟩ := X9.blk
          have hval : xe.o.val = .agg #[.int .i64 xe.o.c, .int .i64 xe.o.v.k, .int .i64 xe.o.v.n, .bool false] := by rw [Ou.val, y1']
          have fo2 := fOut2
          have bq : ∀ w, (binOp .eql 4 (.bool false) (.bool false)).run Tryd.prog w = .ok (.bool true) w := fun w => by kernel_rfl
          have vq := eqVal_t (a := u) rfl
          obtain ⟨gw, hgw⟩ : ∃ gw, se.got 97 = gw := ⟨_, rfl⟩
          rw [hgw] at y2' Gse
          have hk2 : F.Plain.kind gw = u.k := congrArg Vl.k y2'
          have hn2 : F.Plain.num gw = u.n := congrArg Vl.n y2'
          have ltb := BT.lt
          have keep : ∀ w', Below w20.heap.size w20 w' → w'.cell? ⟨tb, 0, none⟩ = some (.int .i64 u.k) ∧ w'.cell? ⟨tb, 1, none⟩ = some (.int .i64 u.n) := fun w' hb => ⟨bcell hb ltb (BT.cell 0), bcell hb ltb (BT.cell 1)⟩
          have hbd : Below w20.heap.size w20 w20.drew := (Below.refl w20.heap.size w20).drew
          have RD := keep _ hbd
          go_region_held3 (fun w' => w'.cell? ⟨tb, 0, none⟩ = some (.int .i64 u.k) ∧ w'.cell? ⟨tb, 1, none⟩ = some (.int .i64 u.n)) (first | assumption | exact RD | exact keep _ (by assumption))
            (first
              | (go_at_call 14; refine (cDResult (BX.below hbd)).mono ?_; rintro e v1 ⟨rfl, hbv1⟩; rw [hval]; have hq1 := bel_trans hbd hbv1; have T1 := T9.below hq1; have W1 := BT.below hq1)
              | (go_at_call 17; refine (hLoad T1.one (by omega) 97).mono ?_; rintro e v2 ⟨rfl, H2, o2⟩; rw [hgw]; have W2 := W1.oth o2 (by simp); have S2 : v2.cell? ⟨tb, 0, none⟩ = some (.int .i64 u.k) ∧ v2.cell? ⟨tb, 1, none⟩ = some (.int .i64 u.n) := ⟨W2.cell 0, W2.cell 1⟩)
              | (go_at_call 16; refine (F.rOf gw Gse.1 Gse.2 _).mono ?_; rintro e v3 ⟨rfl, hv3⟩; rw [hk2, hn2] at hv3 ⊢; have hb3 : Below v2.heap.size v2 v3 := (by rw [hv3]; go_grown); have H3 := H2.below hb3; have W3 := W2.below hb3; have S3 : v3.cell? ⟨tb, 0, none⟩ = some (.int .i64 u.k) ∧ v3.cell? ⟨tb, 1, none⟩ = some (.int .i64 u.n) := ⟨W3.cell 0, W3.cell 1⟩; clear hv3))
          go_wp2
          go_ret
          exact ⟨rfl, H3.bel⟩
        · rw [hd0] at y1' y2'
          have heq' : ∀ w, (binOp .eql 24 (.agg #[.int .i64 u.k, .int .i64 u.n]) (.agg #[.int .i64 ex.k, .int .i64 ex.n])).run Tryd.prog w = .ok (.bool true) w := fun w => by rw [eqVal, hd0]
          clear heq
          simp only [Bool.false_eq_true, if_false, if_true] at y2'
          clear hd0
          have b0 := a0
          have b1 := a1
          go_upto_region 19 with (fail)
          clear b0 b1
          have TB : Below w11.heap.size w11 (w11.alloc (.cells #[.int .i64 u.k, .int .i64 u.n] 24)) := (Below.refl _ _).alloc (Nat.le_refl _) _
          have BT : Blk w (w11.alloc (.cells #[.int .i64 u.k, .int .i64 u.n] 24)) w11.heap.size 24 #[.int .i64 u.k, .int .i64 u.n] := Blk.new k1.bel.size _ (by decide)
          have T9 := k1.below TB
          have X9 := k2.below TB
          have N9 := k4.below TB
          go_upto_region 20 with (fail)
          generalize w11.alloc (.cells #[.int .i64 u.k, .int .i64 u.n] 24) = w20 at BT T9 X9 N9 ⊢
          generalize w11.heap.size = tb at BT ⊢
          clear TB
          have b0 : w20.cell? ⟨tb, 0, none⟩ = some (.int .i64 u.k) := BT.cell 0
          have b1 : w20.cell? ⟨tb, 1, none⟩ = some (.int .i64 u.n) := BT.cell 1
          have bf0 := BT.free 0
          have bf1 := BT.free 1
          have n0 : w20.cell? ⟨nb, 0, none⟩ = some (.int .i64 nw.k) := N9.cell 0
          have n1 : w20.cell? ⟨nb, 1, none⟩ = some (.int .i64 nw.n) := N9.cell 1
          go_upto_region 22 with (fail)
          have BT2 := (BT.set 0 (.int .i64 nw.k)).set 1 (.int .i64 nw.n)
          have T10 := (T9.set BT 0 (.int .i64 nw.k)).set (BT.set 0 (.int .i64 nw.k)) 1 (.int .i64 nw.n)
          have o9 : Oth [tb] w20 ((w20.setCell ⟨tb, 0, none⟩ (.int .i64 nw.k)).setCell ⟨tb, 1, none⟩ (.int .i64 nw.n)) := (Oth.set _ _ _ _ (by simp)).trans (Oth.set _ _ _ _ (by simp))
          have X10 : ∃ v, Blk w ((w20.setCell ⟨tb, 0, none⟩ (.int .i64 nw.k)).setCell ⟨tb, 1, none⟩ (.int .i64 nw.n)) px 94 (xe.cells v) := (by obtain ⟨v, B⟩ := X9.blk; exact ⟨v, B.oth o9 (by simpa using B.ne BT (by decide))⟩)
          clear b0 b1 bf0 bf1 n0 n1 o9
          have BT3 : Blk w ((w20.setCell ⟨tb, 0, none⟩ (.int .i64 nw.k)).setCell ⟨tb, 1, none⟩ (.int .i64 nw.n)) tb 24 #[.int .i64 nw.k, .int .i64 nw.n] := BT2
          clear BT2
          generalize (w20.setCell ⟨tb, 0, none⟩ (.int .i64 nw.k)).setCell ⟨tb, 1, none⟩ (.int .i64 nw.n) = w22 at BT3 T10 X10 ⊢
          obtain ⟨vx, BX⟩ := X10
          have hval : xe.o.val = .agg #[.int .i64 xe.o.c, .int .i64 xe.o.v.k, .int .i64 xe.o.v.n, .bool true] := by rw [Ou.val, y1']
          have fo2 := fOut2
          have bq : ∀ w, (binOp .eql 4 (.bool true) (.bool true)).run Tryd.prog w = .ok (.bool true) w := fun w => by kernel_rfl
          have vq := eqVal_t (a := nw) rfl
          obtain ⟨gw, hgw⟩ : ∃ gw, se.got 97 = gw := ⟨_, rfl⟩
          rw [hgw] at y2' Gse
          have hk2 : F.Plain.kind gw = nw.k := congrArg Vl.k y2'
          have hn2 : F.Plain.num gw = nw.n := congrArg Vl.n y2'
          have ltb := BT3.lt
          have keep : ∀ w', Below w22.heap.size w22 w' → w'.cell? ⟨tb, 0, none⟩ = some (.int .i64 nw.k) ∧ w'.cell? ⟨tb, 1, none⟩ = some (.int .i64 nw.n) := fun w' hb => ⟨bcell hb ltb (BT3.cell 0), bcell hb ltb (BT3.cell 1)⟩
          have hbd : Below w22.heap.size w22 w22.drew := (Below.refl w22.heap.size w22).drew
          have RD := keep _ hbd
          go_region_held3 (fun w' => w'.cell? ⟨tb, 0, none⟩ = some (.int .i64 nw.k) ∧ w'.cell? ⟨tb, 1, none⟩ = some (.int .i64 nw.n)) (first | assumption | exact RD | exact keep _ (by assumption))
            (first
              | (go_at_call 14; refine (cDResult (BX.below hbd)).mono ?_; rintro e v1 ⟨rfl, hbv1⟩; rw [hval]; have hq1 := bel_trans hbd hbv1; have T1 := T10.below hq1; have W1 := BT3.below hq1)
              | (go_at_call 17; refine (hLoad T1.one (by omega) 97).mono ?_; rintro e v2 ⟨rfl, H2, o2⟩; rw [hgw]; have W2 := W1.oth o2 (by simp); have S2 : v2.cell? ⟨tb, 0, none⟩ = some (.int .i64 nw.k) ∧ v2.cell? ⟨tb, 1, none⟩ = some (.int .i64 nw.n) := ⟨W2.cell 0, W2.cell 1⟩)
              | (go_at_call 16; refine (F.rOf gw Gse.1 Gse.2 _).mono ?_; rintro e v3 ⟨rfl, hv3⟩; rw [hk2, hn2] at hv3 ⊢; have hb3 : Below v2.heap.size v2 v3 := (by rw [hv3]; go_grown); have H3 := H2.below hb3; have W3 := W2.below hb3; have S3 : v3.cell? ⟨tb, 0, none⟩ = some (.int .i64 nw.k) ∧ v3.cell? ⟨tb, 1, none⟩ = some (.int .i64 nw.n) := ⟨W3.cell 0, W3.cell 1⟩; clear hv3))
          go_wp2
          go_ret
          exact ⟨rfl, H3.bel⟩
      · rcases hB : (ex.k == 1) with _ | _
        · have hcp : canonP S u ex = decide (u = ex) := by rw [canonP, if_neg (by simp only [Vl.far, hA, hB]; simp)]
          rw [hcp] at y1' y2'
          rcases hd0 : decide (u = ex) with _ | _
          · rw [hd0] at y1' y2'
            have heq' : ∀ w, (binOp .eql 24 (.agg #[.int .i64 u.k, .int .i64 u.n]) (.agg #[.int .i64 ex.k, .int .i64 ex.n])).run Tryd.prog w = .ok (.bool false) w := fun w => by rw [eqVal, hd0]
            clear heq
            simp only [Bool.false_eq_true, if_false, if_true] at y2'
            clear hd0
            have b0 := a0
            have b1 := a1
            go_upto_region 19 with (fail)
            clear b0 b1
            have TB : Below w11.heap.size w11 (w11.alloc (.cells #[.int .i64 u.k, .int .i64 u.n] 24)) := (Below.refl _ _).alloc (Nat.le_refl _) _
            have BT : Blk w (w11.alloc (.cells #[.int .i64 u.k, .int .i64 u.n] 24)) w11.heap.size 24 #[.int .i64 u.k, .int .i64 u.n] := Blk.new k1.bel.size _ (by decide)
            have T9 := k1.below TB
            have X9 := k2.below TB
            have N9 := k4.below TB
            go_upto_region 20 with (fail)
            generalize w11.alloc (.cells #[.int .i64 u.k, .int .i64 u.n] 24) = w20 at BT T9 X9 N9 ⊢
            generalize w11.heap.size = tb at BT ⊢
            clear TB
            go_upto_region 22 with (fail)
            obtain ⟨vx, BX⟩ := X9.blk
            have hval : xe.o.val = .agg #[.int .i64 xe.o.c, .int .i64 xe.o.v.k, .int .i64 xe.o.v.n, .bool false] := by rw [Ou.val, y1']
            have fo2 := fOut2
            have bq : ∀ w, (binOp .eql 4 (.bool false) (.bool false)).run Tryd.prog w = .ok (.bool true) w := fun w => by kernel_rfl
            have vq := eqVal_t (a := u) rfl
            obtain ⟨gw, hgw⟩ : ∃ gw, se.got 97 = gw := ⟨_, rfl⟩
            rw [hgw] at y2' Gse
            have hk2 : F.Plain.kind gw = u.k := congrArg Vl.k y2'
            have hn2 : F.Plain.num gw = u.n := congrArg Vl.n y2'
            have ltb := BT.lt
            have keep : ∀ w', Below w20.heap.size w20 w' → w'.cell? ⟨tb, 0, none⟩ = some (.int .i64 u.k) ∧ w'.cell? ⟨tb, 1, none⟩ = some (.int .i64 u.n) := fun w' hb => ⟨bcell hb ltb (BT.cell 0), bcell hb ltb (BT.cell 1)⟩
            have hbd : Below w20.heap.size w20 w20.drew := (Below.refl w20.heap.size w20).drew
            have RD := keep _ hbd
            go_region_held3 (fun w' => w'.cell? ⟨tb, 0, none⟩ = some (.int .i64 u.k) ∧ w'.cell? ⟨tb, 1, none⟩ = some (.int .i64 u.n)) (first | assumption | exact RD | exact keep _ (by assumption))
              (first
                | (go_at_call 14; refine (cDResult (BX.below hbd)).mono ?_; rintro e v1 ⟨rfl, hbv1⟩; rw [hval]; have hq1 := bel_trans hbd hbv1; have T1 := T9.below hq1; have W1 := BT.below hq1)
                | (go_at_call 17; refine (hLoad T1.one (by omega) 97).mono ?_; rintro e v2 ⟨rfl, H2, o2⟩; rw [hgw]; have W2 := W1.oth o2 (by simp); have S2 : v2.cell? ⟨tb, 0, none⟩ = some (.int .i64 u.k) ∧ v2.cell? ⟨tb, 1, none⟩ = some (.int .i64 u.n) := ⟨W2.cell 0, W2.cell 1⟩)
                | (go_at_call 16; refine (F.rOf gw Gse.1 Gse.2 _).mono ?_; rintro e v3 ⟨rfl, hv3⟩; rw [hk2, hn2] at hv3 ⊢; have hb3 : Below v2.heap.size v2 v3 := (by rw [hv3]; go_grown); have H3 := H2.below hb3; have W3 := W2.below hb3; have S3 : v3.cell? ⟨tb, 0, none⟩ = some (.int .i64 u.k) ∧ v3.cell? ⟨tb, 1, none⟩ = some (.int .i64 u.n) := ⟨W3.cell 0, W3.cell 1⟩; clear hv3))
            go_wp2
            go_ret
            exact ⟨rfl, H3.bel⟩
          · rw [hd0] at y1' y2'
            have heq' : ∀ w, (binOp .eql 24 (.agg #[.int .i64 u.k, .int .i64 u.n]) (.agg #[.int .i64 ex.k, .int .i64 ex.n])).run Tryd.prog w = .ok (.bool true) w := fun w => by rw [eqVal, hd0]
            clear heq
            simp only [Bool.false_eq_true, if_false, if_true] at y2'
            clear hd0
            have b0 := a0
            have b1 := a1
            go_upto_region 19 with (fail)
            clear b0 b1
            have TB : Below w11.heap.size w11 (w11.alloc (.cells #[.int .i64 u.k, .int .i64 u.n] 24)) := (Below.refl _ _).alloc (Nat.le_refl _) _
            have BT : Blk w (w11.alloc (.cells #[.int .i64 u.k, .int .i64 u.n] 24)) w11.heap.size 24 #[.int .i64 u.k, .int .i64 u.n] := Blk.new k1.bel.size _ (by decide)
            have T9 := k1.below TB
            have X9 := k2.below TB
            have N9 := k4.below TB
            go_upto_region 20 with (fail)
            generalize w11.alloc (.cells #[.int .i64 u.k, .int .i64 u.n] 24) = w20 at BT T9 X9 N9 ⊢
            generalize w11.heap.size = tb at BT ⊢
            clear TB
            have b0 : w20.cell? ⟨tb, 0, none⟩ = some (.int .i64 u.k) := BT.cell 0
            have b1 : w20.cell? ⟨tb, 1, none⟩ = some (.int .i64 u.n) := BT.cell 1
            have bf0 := BT.free 0
            have bf1 := BT.free 1
            have n0 : w20.cell? ⟨nb, 0, none⟩ = some (.int .i64 nw.k) := N9.cell 0
            have n1 : w20.cell? ⟨nb, 1, none⟩ = some (.int .i64 nw.n) := N9.cell 1
            go_upto_region 22 with (fail)
            have BT2 := (BT.set 0 (.int .i64 nw.k)).set 1 (.int .i64 nw.n)
            have T10 := (T9.set BT 0 (.int .i64 nw.k)).set (BT.set 0 (.int .i64 nw.k)) 1 (.int .i64 nw.n)
            have o9 : Oth [tb] w20 ((w20.setCell ⟨tb, 0, none⟩ (.int .i64 nw.k)).setCell ⟨tb, 1, none⟩ (.int .i64 nw.n)) := (Oth.set _ _ _ _ (by simp)).trans (Oth.set _ _ _ _ (by simp))
            have X10 : ∃ v, Blk w ((w20.setCell ⟨tb, 0, none⟩ (.int .i64 nw.k)).setCell ⟨tb, 1, none⟩ (.int .i64 nw.n)) px 94 (xe.cells v) := (by obtain ⟨v, B⟩ := X9.blk; exact ⟨v, B.oth o9 (by simpa using B.ne BT (by decide))⟩)
            clear b0 b1 bf0 bf1 n0 n1 o9
            have BT3 : Blk w ((w20.setCell ⟨tb, 0, none⟩ (.int .i64 nw.k)).setCell ⟨tb, 1, none⟩ (.int .i64 nw.n)) tb 24 #[.int .i64 nw.k, .int .i64 nw.n] := BT2
            clear BT2
            generalize (w20.setCell ⟨tb, 0, none⟩ (.int .i64 nw.k)).setCell ⟨tb, 1, none⟩ (.int .i64 nw.n) = w22 at BT3 T10 X10 ⊢
            obtain ⟨vx, BX⟩ := X10
            have hval : xe.o.val = .agg #[.int .i64 xe.o.c, .int .i64 xe.o.v.k, .int .i64 xe.o.v.n, .bool true] := by rw [Ou.val, y1']
            have fo2 := fOut2
            have bq : ∀ w, (binOp .eql 4 (.bool true) (.bool true)).run Tryd.prog w = .ok (.bool true) w := fun w => by kernel_rfl
            have vq := eqVal_t (a := nw) rfl
            obtain ⟨gw, hgw⟩ : ∃ gw, se.got 97 = gw := ⟨_, rfl⟩
            rw [hgw] at y2' Gse
            have hk2 : F.Plain.kind gw = nw.k := congrArg Vl.k y2'
            have hn2 : F.Plain.num gw = nw.n := congrArg Vl.n y2'
            have ltb := BT3.lt
            have keep : ∀ w', Below w22.heap.size w22 w' → w'.cell? ⟨tb, 0, none⟩ = some (.int .i64 nw.k) ∧ w'.cell? ⟨tb, 1, none⟩ = some (.int .i64 nw.n) := fun w' hb => ⟨bcell hb ltb (BT3.cell 0), bcell hb ltb (BT3.cell 1)⟩
            have hbd : Below w22.heap.size w22 w22.drew := (Below.refl w22.heap.size w22).drew
            have RD := keep _ hbd
            go_region_held3 (fun w' => w'.cell? ⟨tb, 0, none⟩ = some (.int .i64 nw.k) ∧ w'.cell? ⟨tb, 1, none⟩ = some (.int .i64 nw.n)) (first | assumption | exact RD | exact keep _ (by assumption))
              (first
                | (go_at_call 14; refine (cDResult (BX.below hbd)).mono ?_; rintro e v1 ⟨rfl, hbv1⟩; rw [hval]; have hq1 := bel_trans hbd hbv1; have T1 := T10.below hq1; have W1 := BT3.below hq1)
                | (go_at_call 17; refine (hLoad T1.one (by omega) 97).mono ?_; rintro e v2 ⟨rfl, H2, o2⟩; rw [hgw]; have W2 := W1.oth o2 (by simp); have S2 : v2.cell? ⟨tb, 0, none⟩ = some (.int .i64 nw.k) ∧ v2.cell? ⟨tb, 1, none⟩ = some (.int .i64 nw.n) := ⟨W2.cell 0, W2.cell 1⟩)
                | (go_at_call 16; refine (F.rOf gw Gse.1 Gse.2 _).mono ?_; rintro e v3 ⟨rfl, hv3⟩; rw [hk2, hn2] at hv3 ⊢; have hb3 : Below v2.heap.size v2 v3 := (by rw [hv3]; go_grown); have H3 := H2.below hb3; have W3 := W2.below hb3; have S3 : v3.cell? ⟨tb, 0, none⟩ = some (.int .i64 nw.k) ∧ v3.cell? ⟨tb, 1, none⟩ = some (.int .i64 nw.n) := ⟨W3.cell 0, W3.cell 1⟩; clear hv3))
            go_wp2
            go_ret
            exact ⟨rfl, H3.bel⟩
        · rcases hC : (u.n != 0) with _ | _
          · have hcp : canonP S u ex = decide (u = ex) := by rw [canonP, if_neg (by simp only [Vl.far, hA, hC]; simp)]
            rw [hcp] at y1' y2'
            rcases hd0 : decide (u = ex) with _ | _
            · rw [hd0] at y1' y2'
              have heq' : ∀ w, (binOp .eql 24 (.agg #[.int .i64 u.k, .int .i64 u.n]) (.agg #[.int .i64 ex.k, .int .i64 ex.n])).run Tryd.prog w = .ok (.bool false) w := fun w => by rw [eqVal, hd0]
              clear heq
              simp only [Bool.false_eq_true, if_false, if_true] at y2'
              clear hd0
              have b0 := a0
              have b1 := a1
              go_upto_region 19 with (fail)
              clear b0 b1
              have TB : Below w11.heap.size w11 (w11.alloc (.cells #[.int .i64 u.k, .int .i64 u.n] 24)) := (Below.refl _ _).alloc (Nat.le_refl _) _
              have BT : Blk w (w11.alloc (.cells #[.int .i64 u.k, .int .i64 u.n] 24)) w11.heap.size 24 #[.int .i64 u.k, .int .i64 u.n] := Blk.new k1.bel.size _ (by decide)
              have T9 := k1.below TB
              have X9 := k2.below TB
              have N9 := k4.below TB
              go_upto_region 20 with (fail)
              generalize w11.alloc (.cells #[.int .i64 u.k, .int .i64 u.n] 24) = w20 at BT T9 X9 N9 ⊢
              generalize w11.heap.size = tb at BT ⊢
              clear TB
              go_upto_region 22 with (fail)
              obtain ⟨vx, BX⟩ := X9.blk
              have hval : xe.o.val = .agg #[.int .i64 xe.o.c, .int .i64 xe.o.v.k, .int .i64 xe.o.v.n, .bool false] := by rw [Ou.val, y1']
              have fo2 := fOut2
              have bq : ∀ w, (binOp .eql 4 (.bool false) (.bool false)).run Tryd.prog w = .ok (.bool true) w := fun w => by kernel_rfl
              have vq := eqVal_t (a := u) rfl
              obtain ⟨gw, hgw⟩ : ∃ gw, se.got 97 = gw := ⟨_, rfl⟩
              rw [hgw] at y2' Gse
              have hk2 : F.Plain.kind gw = u.k := congrArg Vl.k y2'
              have hn2 : F.Plain.num gw = u.n := congrArg Vl.n y2'
              have ltb := BT.lt
              have keep : ∀ w', Below w20.heap.size w20 w' → w'.cell? ⟨tb, 0, none⟩ = some (.int .i64 u.k) ∧ w'.cell? ⟨tb, 1, none⟩ = some (.int .i64 u.n) := fun w' hb => ⟨bcell hb ltb (BT.cell 0), bcell hb ltb (BT.cell 1)⟩
              have hbd : Below w20.heap.size w20 w20.drew := (Below.refl w20.heap.size w20).drew
              have RD := keep _ hbd
              go_region_held3 (fun w' => w'.cell? ⟨tb, 0, none⟩ = some (.int .i64 u.k) ∧ w'.cell? ⟨tb, 1, none⟩ = some (.int .i64 u.n)) (first | assumption | exact RD | exact keep _ (by assumption))
                (first
                  | (go_at_call 14; refine (cDResult (BX.below hbd)).mono ?_; rintro e v1 ⟨rfl, hbv1⟩; rw [hval]; have hq1 := bel_trans hbd hbv1; have T1 := T9.below hq1; have W1 := BT.below hq1)
                  | (go_at_call 17; refine (hLoad T1.one (by omega) 97).mono ?_; rintro e v2 ⟨rfl, H2, o2⟩; rw [hgw]; have W2 := W1.oth o2 (by simp); have S2 : v2.cell? ⟨tb, 0, none⟩ = some (.int .i64 u.k) ∧ v2.cell? ⟨tb, 1, none⟩ = some (.int .i64 u.n) := ⟨W2.cell 0, W2.cell 1⟩)
                  | (go_at_call 16; refine (F.rOf gw Gse.1 Gse.2 _).mono ?_; rintro e v3 ⟨rfl, hv3⟩; rw [hk2, hn2] at hv3 ⊢; have hb3 : Below v2.heap.size v2 v3 := (by rw [hv3]; go_grown); have H3 := H2.below hb3; have W3 := W2.below hb3; have S3 : v3.cell? ⟨tb, 0, none⟩ = some (.int .i64 u.k) ∧ v3.cell? ⟨tb, 1, none⟩ = some (.int .i64 u.n) := ⟨W3.cell 0, W3.cell 1⟩; clear hv3))
              go_wp2
              go_ret
              exact ⟨rfl, H3.bel⟩
            · rw [hd0] at y1' y2'
              have heq' : ∀ w, (binOp .eql 24 (.agg #[.int .i64 u.k, .int .i64 u.n]) (.agg #[.int .i64 ex.k, .int .i64 ex.n])).run Tryd.prog w = .ok (.bool true) w := fun w => by rw [eqVal, hd0]
              clear heq
              simp only [Bool.false_eq_true, if_false, if_true] at y2'
              clear hd0
              have b0 := a0
              have b1 := a1
              go_upto_region 19 with (fail)
              clear b0 b1
              have TB : Below w11.heap.size w11 (w11.alloc (.cells #[.int .i64 u.k, .int .i64 u.n] 24)) := (Below.refl _ _).alloc (Nat.le_refl _) _
              have BT : Blk w (w11.alloc (.cells #[.int .i64 u.k, .int .i64 u.n] 24)) w11.heap.size 24 #[.int .i64 u.k, .int .i64 u.n] := Blk.new k1.bel.size _ (by decide)
              have T9 := k1.below TB
              have X9 := k2.below TB
              have N9 := k4.below TB
              go_upto_region 20 with (fail)
              generalize w11.alloc (.cells #[.int .i64 u.k, .int .i64 u.n] 24) = w20 at BT T9 X9 N9 ⊢
              generalize w11.heap.size = tb at BT ⊢
              clear TB
              have b0 : w20.cell? ⟨tb, 0, none⟩ = some (.int .i64 u.k) := BT.cell 0
              have b1 : w20.cell? ⟨tb, 1, none⟩ = some (.int .i64 u.n) := BT.cell 1
              have bf0 := BT.free 0
              have bf1 := BT.free 1
              have n0 : w20.cell? ⟨nb, 0, none⟩ = some (.int .i64 nw.k) := N9.cell 0
              have n1 : w20.cell? ⟨nb, 1, none⟩ = some (.int .i64 nw.n) := N9.cell 1
              go_upto_region 22 with (fail)
              have BT2 := (BT.set 0 (.int .i64 nw.k)).set 1 (.int .i64 nw.n)
              have T10 := (T9.set BT 0 (.int .i64 nw.k)).set (BT.set 0 (.int .i64 nw.k)) 1 (.int .i64 nw.n)
              have o9 : Oth [tb] w20 ((w20.setCell ⟨tb, 0, none⟩ (.int .i64 nw.k)).setCell ⟨tb, 1, none⟩ (.int .i64 nw.n)) := (Oth.set _ _ _ _ (by simp)).trans (Oth.set _ _ _ _ (by simp))
              have X10 : ∃ v, Blk w ((w20.setCell ⟨tb, 0, none⟩ (.int .i64 nw.k)).setCell ⟨tb, 1, none⟩ (.int .i64 nw.n)) px 94 (xe.cells v) := (by obtain ⟨v, B⟩ := X9.blk; exact ⟨v, B.oth o9 (by simpa using B.ne BT (by decide))⟩)
              clear b0 b1 bf0 bf1 n0 n1 o9
              have BT3 : Blk w ((w20.setCell ⟨tb, 0, none⟩ (.int .i64 nw.k)).setCell ⟨tb, 1, none⟩ (.int .i64 nw.n)) tb 24 #[.int .i64 nw.k, .int .i64 nw.n] := BT2
              clear BT2
              generalize (w20.setCell ⟨tb, 0, none⟩ (.int .i64 nw.k)).setCell ⟨tb, 1, none⟩ (.int .i64 nw.n) = w22 at BT3 T10 X10 ⊢
              obtain ⟨vx, BX⟩ := X10
              have hval : xe.o.val = .agg #[.int .i64 xe.o.c, .int .i64 xe.o.v.k, .int .i64 xe.o.v.n, .bool true] := by rw [Ou.val, y1']
              have fo2 := fOut2
              have bq : ∀ w, (binOp .eql 4 (.bool true) (.bool true)).run Tryd.prog w = .ok (.bool true) w := fun w => by kernel_rfl
              have vq := eqVal_t (a := nw) rfl
              obtain ⟨gw, hgw⟩ : ∃ gw, se.got 97 = gw := ⟨_, rfl⟩
              rw [hgw] at y2' Gse
              have hk2 : F.Plain.kind gw = nw.k := congrArg Vl.k y2'
              have hn2 : F.Plain.num gw = nw.n := congrArg Vl.n y2'
              have ltb := BT3.lt
              have keep : ∀ w', Below w22.heap.size w22 w' → w'.cell? ⟨tb, 0, none⟩ = some (.int .i64 nw.k) ∧ w'.cell? ⟨tb, 1, none⟩ = some (.int .i64 nw.n) := fun w' hb => ⟨bcell hb ltb (BT3.cell 0), bcell hb ltb (BT3.cell 1)⟩
              have hbd : Below w22.heap.size w22 w22.drew := (Below.refl w22.heap.size w22).drew
              have RD := keep _ hbd
              go_region_held3 (fun w' => w'.cell? ⟨tb, 0, none⟩ = some (.int .i64 nw.k) ∧ w'.cell? ⟨tb, 1, none⟩ = some (.int .i64 nw.n)) (first | assumption | exact RD | exact keep _ (by assumption))
                (first
                  | (go_at_call 14; refine (cDResult (BX.below hbd)).mono ?_; rintro e v1 ⟨rfl, hbv1⟩; rw [hval]; have hq1 := bel_trans hbd hbv1; have T1 := T10.below hq1; have W1 := BT3.below hq1)
                  | (go_at_call 17; refine (hLoad T1.one (by omega) 97).mono ?_; rintro e v2 ⟨rfl, H2, o2⟩; rw [hgw]; have W2 := W1.oth o2 (by simp); have S2 : v2.cell? ⟨tb, 0, none⟩ = some (.int .i64 nw.k) ∧ v2.cell? ⟨tb, 1, none⟩ = some (.int .i64 nw.n) := ⟨W2.cell 0, W2.cell 1⟩)
                  | (go_at_call 16; refine (F.rOf gw Gse.1 Gse.2 _).mono ?_; rintro e v3 ⟨rfl, hv3⟩; rw [hk2, hn2] at hv3 ⊢; have hb3 : Below v2.heap.size v2 v3 := (by rw [hv3]; go_grown); have H3 := H2.below hb3; have W3 := W2.below hb3; have S3 : v3.cell? ⟨tb, 0, none⟩ = some (.int .i64 nw.k) ∧ v3.cell? ⟨tb, 1, none⟩ = some (.int .i64 nw.n) := ⟨W3.cell 0, W3.cell 1⟩; clear hv3))
              go_wp2
              go_ret
              exact ⟨rfl, H3.bel⟩
          · rcases hD : (ex.n != 0) with _ | _
            · have hcp : canonP S u ex = decide (u = ex) := by rw [canonP, if_neg (by simp only [Vl.far, hA, hB, hC, hD]; simp)]
              rw [hcp] at y1' y2'
              rcases hd0 : decide (u = ex) with _ | _
              · rw [hd0] at y1' y2'
                have heq' : ∀ w, (binOp .eql 24 (.agg #[.int .i64 u.k, .int .i64 u.n]) (.agg #[.int .i64 ex.k, .int .i64 ex.n])).run Tryd.prog w = .ok (.bool false) w := fun w => by rw [eqVal, hd0]
                clear heq
                simp only [Bool.false_eq_true, if_false, if_true] at y2'
                clear hd0
                have b0 := a0
                have b1 := a1
                go_upto_region 19 with (fail)
                clear b0 b1
                have TB : Below w11.heap.size w11 (w11.alloc (.cells #[.int .i64 u.k, .int .i64 u.n] 24)) := (Below.refl _ _).alloc (Nat.le_refl _) _
                have BT : Blk w (w11.alloc (.cells #[.int .i64 u.k, .int .i64 u.n] 24)) w11.heap.size 24 #[.int .i64 u.k, .int .i64 u.n] := Blk.new k1.bel.size _ (by decide)
                have T9 := k1.below TB
                have X9 := k2.below TB
                have N9 := k4.below TB
                go_upto_region 20 with (fail)
                generalize w11.alloc (.cells #[.int .i64 u.k, .int .i64 u.n] 24) = w20 at BT T9 X9 N9 ⊢
                generalize w11.heap.size = tb at BT ⊢
                clear TB
                go_upto_region 22 with (fail)
                obtain ⟨vx, BX⟩ := X9.blk
                have hval : xe.o.val = .agg #[.int .i64 xe.o.c, .int .i64 xe.o.v.k, .int .i64 xe.o.v.n, .bool false] := by rw [Ou.val, y1']
                have fo2 := fOut2
                have bq : ∀ w, (binOp .eql 4 (.bool false) (.bool false)).run Tryd.prog w = .ok (.bool true) w := fun w => by kernel_rfl
                have vq := eqVal_t (a := u) rfl
                obtain ⟨gw, hgw⟩ : ∃ gw, se.got 97 = gw := ⟨_, rfl⟩
                rw [hgw] at y2' Gse
                have hk2 : F.Plain.kind gw = u.k := congrArg Vl.k y2'
                have hn2 : F.Plain.num gw = u.n := congrArg Vl.n y2'
                have ltb := BT.lt
                have keep : ∀ w', Below w20.heap.size w20 w' → w'.cell? ⟨tb, 0, none⟩ = some (.int .i64 u.k) ∧ w'.cell? ⟨tb, 1, none⟩ = some (.int .i64 u.n) := fun w' hb => ⟨bcell hb ltb (BT.cell 0), bcell hb ltb (BT.cell 1)⟩
                have hbd : Below w20.heap.size w20 w20.drew := (Below.refl w20.heap.size w20).drew
                have RD := keep _ hbd
                go_region_held3 (fun w' => w'.cell? ⟨tb, 0, none⟩ = some (.int .i64 u.k) ∧ w'.cell? ⟨tb, 1, none⟩ = some (.int .i64 u.n)) (first | assumption | exact RD | exact keep _ (by assumption))
                  (first
                    | (go_at_call 14; refine (cDResult (BX.below hbd)).mono ?_; rintro e v1 ⟨rfl, hbv1⟩; rw [hval]; have hq1 := bel_trans hbd hbv1; have T1 := T9.below hq1; have W1 := BT.below hq1)
                    | (go_at_call 17; refine (hLoad T1.one (by omega) 97).mono ?_; rintro e v2 ⟨rfl, H2, o2⟩; rw [hgw]; have W2 := W1.oth o2 (by simp); have S2 : v2.cell? ⟨tb, 0, none⟩ = some (.int .i64 u.k) ∧ v2.cell? ⟨tb, 1, none⟩ = some (.int .i64 u.n) := ⟨W2.cell 0, W2.cell 1⟩)
                    | (go_at_call 16; refine (F.rOf gw Gse.1 Gse.2 _).mono ?_; rintro e v3 ⟨rfl, hv3⟩; rw [hk2, hn2] at hv3 ⊢; have hb3 : Below v2.heap.size v2 v3 := (by rw [hv3]; go_grown); have H3 := H2.below hb3; have W3 := W2.below hb3; have S3 : v3.cell? ⟨tb, 0, none⟩ = some (.int .i64 u.k) ∧ v3.cell? ⟨tb, 1, none⟩ = some (.int .i64 u.n) := ⟨W3.cell 0, W3.cell 1⟩; clear hv3))
                go_wp2
                go_ret
                exact ⟨rfl, H3.bel⟩
              · rw [hd0] at y1' y2'
                have heq' : ∀ w, (binOp .eql 24 (.agg #[.int .i64 u.k, .int .i64 u.n]) (.agg #[.int .i64 ex.k, .int .i64 ex.n])).run Tryd.prog w = .ok (.bool true) w := fun w => by rw [eqVal, hd0]
                clear heq
                simp only [Bool.false_eq_true, if_false, if_true] at y2'
                clear hd0
                have b0 := a0
                have b1 := a1
                go_upto_region 19 with (fail)
                clear b0 b1
                have TB : Below w11.heap.size w11 (w11.alloc (.cells #[.int .i64 u.k, .int .i64 u.n] 24)) := (Below.refl _ _).alloc (Nat.le_refl _) _
                have BT : Blk w (w11.alloc (.cells #[.int .i64 u.k, .int .i64 u.n] 24)) w11.heap.size 24 #[.int .i64 u.k, .int .i64 u.n] := Blk.new k1.bel.size _ (by decide)
                have T9 := k1.below TB
                have X9 := k2.below TB
                have N9 := k4.below TB
                go_upto_region 20 with (fail)
                generalize w11.alloc (.cells #[.int .i64 u.k, .int .i64 u.n] 24) = w20 at BT T9 X9 N9 ⊢
                generalize w11.heap.size = tb at BT ⊢
                clear TB
                have b0 : w20.cell? ⟨tb, 0, none⟩ = some (.int .i64 u.k) := BT.cell 0
                have b1 : w20.cell? ⟨tb, 1, none⟩ = some (.int .i64 u.n) := BT.cell 1
                have bf0 := BT.free 0
                have bf1 := BT.free 1
                have n0 : w20.cell? ⟨nb, 0, none⟩ = some (.int .i64 nw.k) := N9.cell 0
                have n1 : w20.cell? ⟨nb, 1, none⟩ = some (.int .i64 nw.n) := N9.cell 1
                go_upto_region 22 with (fail)
                have BT2 := (BT.set 0 (.int .i64 nw.k)).set 1 (.int .i64 nw.n)
                have T10 := (T9.set BT 0 (.int .i64 nw.k)).set (BT.set 0 (.int .i64 nw.k)) 1 (.int .i64 nw.n)
                have o9 : Oth [tb] w20 ((w20.setCell ⟨tb, 0, none⟩ (.int .i64 nw.k)).setCell ⟨tb, 1, none⟩ (.int .i64 nw.n)) := (Oth.set _ _ _ _ (by simp)).trans (Oth.set _ _ _ _ (by simp))
                have X10 : ∃ v, Blk w ((w20.setCell ⟨tb, 0, none⟩ (.int .i64 nw.k)).setCell ⟨tb, 1, none⟩ (.int .i64 nw.n)) px 94 (xe.cells v) := (by obtain ⟨v, B⟩ := X9.blk; exact ⟨v, B.oth o9 (by simpa using B.ne BT (by decide))⟩)
                clear b0 b1 bf0 bf1 n0 n1 o9
                have BT3 : Blk w ((w20.setCell ⟨tb, 0, none⟩ (.int .i64 nw.k)).setCell ⟨tb, 1, none⟩ (.int .i64 nw.n)) tb 24 #[.int .i64 nw.k, .int .i64 nw.n] := BT2
                clear BT2
                generalize (w20.setCell ⟨tb, 0, none⟩ (.int .i64 nw.k)).setCell ⟨tb, 1, none⟩ (.int .i64 nw.n) = w22 at BT3 T10 X10 ⊢
                obtain ⟨vx, BX⟩ := X10
                have hval : xe.o.val = .agg #[.int .i64 xe.o.c, .int .i64 xe.o.v.k, .int .i64 xe.o.v.n, .bool true] := by rw [Ou.val, y1']
                have fo2 := fOut2
                have bq : ∀ w, (binOp .eql 4 (.bool true) (.bool true)).run Tryd.prog w = .ok (.bool true) w := fun w => by kernel_rfl
                have vq := eqVal_t (a := nw) rfl
                obtain ⟨gw, hgw⟩ : ∃ gw, se.got 97 = gw := ⟨_, rfl⟩
                rw [hgw] at y2' Gse
                have hk2 : F.Plain.kind gw = nw.k := congrArg Vl.k y2'
                have hn2 : F.Plain.num gw = nw.n := congrArg Vl.n y2'
                have ltb := BT3.lt
                have keep : ∀ w', Below w22.heap.size w22 w' → w'.cell? ⟨tb, 0, none⟩ = some (.int .i64 nw.k) ∧ w'.cell? ⟨tb, 1, none⟩ = some (.int .i64 nw.n) := fun w' hb => ⟨bcell hb ltb (BT3.cell 0), bcell hb ltb (BT3.cell 1)⟩
                have hbd : Below w22.heap.size w22 w22.drew := (Below.refl w22.heap.size w22).drew
                have RD := keep _ hbd
                go_region_held3 (fun w' => w'.cell? ⟨tb, 0, none⟩ = some (.int .i64 nw.k) ∧ w'.cell? ⟨tb, 1, none⟩ = some (.int .i64 nw.n)) (first | assumption | exact RD | exact keep _ (by assumption))
                  (first
                    | (go_at_call 14; refine (cDResult (BX.below hbd)).mono ?_; rintro e v1 ⟨rfl, hbv1⟩; rw [hval]; have hq1 := bel_trans hbd hbv1; have T1 := T10.below hq1; have W1 := BT3.below hq1)
                    | (go_at_call 17; refine (hLoad T1.one (by omega) 97).mono ?_; rintro e v2 ⟨rfl, H2, o2⟩; rw [hgw]; have W2 := W1.oth o2 (by simp); have S2 : v2.cell? ⟨tb, 0, none⟩ = some (.int .i64 nw.k) ∧ v2.cell? ⟨tb, 1, none⟩ = some (.int .i64 nw.n) := ⟨W2.cell 0, W2.cell 1⟩)
                    | (go_at_call 16; refine (F.rOf gw Gse.1 Gse.2 _).mono ?_; rintro e v3 ⟨rfl, hv3⟩; rw [hk2, hn2] at hv3 ⊢; have hb3 : Below v2.heap.size v2 v3 := (by rw [hv3]; go_grown); have H3 := H2.below hb3; have W3 := W2.below hb3; have S3 : v3.cell? ⟨tb, 0, none⟩ = some (.int .i64 nw.k) ∧ v3.cell? ⟨tb, 1, none⟩ = some (.int .i64 nw.n) := ⟨W3.cell 0, W3.cell 1⟩; clear hv3))
                go_wp2
                go_ret
                exact ⟨rfl, H3.bel⟩
            · have hf1 : u.far = true := by rw [Vl.far, hA, hC]; rfl
              have hf2 : ex.far = true := by rw [Vl.far, hB, hD]; rfl
              obtain ⟨d0, hd0⟩ : ∃ d0, decide (u = ex) = d0 := ⟨_, rfl⟩
              have heq' : ∀ w, (binOp .eql 24 (.agg #[.int .i64 u.k, .int .i64 u.n]) (.agg #[.int .i64 ex.k, .int .i64 ex.n])).run Tryd.prog w = .ok (.bool d0) w := fun w => by rw [eqVal, hd0]
              clear heq
              go_upto_region 18 with (fail)
              obtain ⟨i1, hi1, ei1⟩ := G.far hf1
              obtain ⟨i2, hi2, ei2⟩ := GX.far hf2
              obtain ⟨n1, hn1⟩ : ∃ n : Nat, 96 + 4 * i1 = n := ⟨_, rfl⟩
              obtain ⟨n2, hn2⟩ : ∃ n : Nat, 96 + 4 * i2 = n := ⟨_, rfl⟩
              have hun : u.n = (n1 : Int) := by omega
              have hxn : ex.n = (n2 : Int) := by omega
              have g1 : S.got (n1 : Int) = S.word n1 := In.got hSl ⟨by omega, by omega⟩
              have g2 : S.got (n2 : Int) = S.word n2 := In.got hSl ⟨by omega, by omega⟩
              have r1 := k1.rng2.got (n1 : Int)
              have r2 := k1.rng2.got (n2 : Int)
              rw [g1] at r1
              rw [g2] at r2
              obtain ⟨g', cp', hs'⟩ := k1.seen
              have e0 := hs'.c0
              rw [hSl] at e0
              have e1 := hs'.at hSl n1 (by omega)
              have e2 := hs'.at hSl n2 (by omega)
              have ly := hs'.ly
              have lg := hs'.lg
              obtain ⟨u1, hu1⟩ : ∃ u, S.word (n1 : Int) = u := ⟨_, rfl⟩
              obtain ⟨u2, hu2⟩ : ∃ u, S.word (n2 : Int) = u := ⟨_, rfl⟩
              have hm1 : movP S n1 = mv u1 n1 := by rw [movP, g1, hu1]
              have hm2 : movP S n2 = mv u2 n2 := by rw [movP, g2, hu2]
              rw [hu1] at r1 e1
              rw [hu2] at r2 e2
              obtain ⟨m1, hmm1⟩ : ∃ m, mv u1 (n1 : Int) = m := ⟨_, rfl⟩
              obtain ⟨m2, hmm2⟩ : ∃ m, mv u2 (n2 : Int) = m := ⟨_, rfl⟩
              rw [hmm1] at hm1
              rw [hmm2] at hm2
              have hcp : canonP S u ex = (m1 == m2) := by rw [canonP, hf1, hf2]; simp only [Bool.and_self, if_true]; rw [hun, hxn, hm1, hm2]
              rw [hcp] at y1' y2'
              have b1i : (n1 : Int) < 160 := by omega
              have b2i : (n2 : Int) < 160 := by omega
              have b3i : (0 : Int) ≤ (n1 : Int) := by omega
              have b4i : (0 : Int) ≤ (n2 : Int) := by omega
              have a1' : w11.cell? ⟨ub, 1, none⟩ = some (.int .i64 n1) := by rw [a1, hun]
              have c1' : w11.cell? ⟨eb, 1, none⟩ = some (.int .i64 n2) := by rw [c1, hxn]
              clear hu1 hu2 g1 g2 hm1 hm2 ei1 ei2 hn1 hn2 a1 c1 a0 c0 hun hxn hA hB hC hD hf1 hf2 hd0 heq'
              have keep : ∀ w', Below w11.heap.size w11 w' → w'.cell? ⟨y, 0, none⟩ = some (.slice (some ⟨g', 0, none⟩) 160 cp') ∧ w'.cell? ⟨g', n1, none⟩ = some (.int .u64 u1) ∧ w'.cell? ⟨g', n2, none⟩ = some (.int .u64 u2) ∧ w'.cell? ⟨ub, 1, none⟩ = some (.int .i64 n1) ∧ w'.cell? ⟨eb, 1, none⟩ = some (.int .i64 n2) := fun w' hb => ⟨bcell hb ly e0, bcell hb lg e1, bcell hb lg e2, bcell hb al a1', bcell hb cl c1'⟩
              have hbd : Below w11.heap.size w11 w11.drew := (Below.refl w11.heap.size w11).drew
              have RD := keep _ hbd
              rcases hmm : (m1 == m2) with _ | _
              · rw [hmm] at y1' y2'
                simp only [Bool.false_eq_true, if_false, if_true] at y2'
                refine wp_region_noPanic ?_
                refine wp_region_held_drew (S := fun w' => w'.cell? ⟨y, 0, none⟩ = some (.slice (some ⟨g', 0, none⟩) 160 cp') ∧ w'.cell? ⟨g', n1, none⟩ = some (.int .u64 u1) ∧ w'.cell? ⟨g', n2, none⟩ = some (.int .u64 u2) ∧ w'.cell? ⟨ub, 1, none⟩ = some (.int .i64 n1) ∧ w'.cell? ⟨eb, 1, none⟩ = some (.int .i64 n2)) (by kernel_rfl) RD (fun hHeld => ?_)
                refine takeH (i := 0) 83 (pt y) rfl rfl (by kernel_rfl) (by kernel_rfl) (by kernel_rfl) (fun _ _ _ h => h) (by rfl) ?_ (by assumption) ?_
                · intro w hSw; (try dsimp only at hSw); go_simp
                simp only [List.setIfInBounds_toArray, List.set_cons_zero, List.set_cons_succ]
                refine takeH (i := 1) 84 (pt y) rfl rfl (by kernel_rfl) (by kernel_rfl) (by kernel_rfl) (fun _ _ _ h => h) (by rfl) ?_ (by assumption) ?_
                · intro w hSw; (try dsimp only at hSw); go_simp
                simp only [List.setIfInBounds_toArray, List.set_cons_zero, List.set_cons_succ]
                refine takeH (i := 2) 85 (pt y) rfl rfl (by kernel_rfl) (by kernel_rfl) (by kernel_rfl) (fun _ _ _ h => h) (by rfl) ?_ (by assumption) ?_
                · intro w hSw; (try dsimp only at hSw); go_simp
                simp only [List.setIfInBounds_toArray, List.set_cons_zero, List.set_cons_succ]
                refine takeH (i := 3) 86 (.slice (some ⟨g', 0, none⟩) 160 cp') rfl rfl (by kernel_rfl) (by kernel_rfl) (by kernel_rfl) (fun _ _ _ h => h) (by rfl) ?_ (by assumption) ?_
                · intro w hSw; (try dsimp only at hSw); go_simp
                simp only [List.setIfInBounds_toArray, List.set_cons_zero, List.set_cons_succ]
                refine takeH (i := 4) 87 (.pointer (some ⟨ub, 1, none⟩)) rfl rfl (by kernel_rfl) (by kernel_rfl) (by kernel_rfl) (fun _ _ _ h => h) (by rfl) ?_ (by assumption) ?_
                · intro w hSw; (try dsimp only at hSw); go_simp
                simp only [List.setIfInBounds_toArray, List.set_cons_zero, List.set_cons_succ]
                refine takeH (i := 5) 88 (.int .i64 n1) rfl rfl (by kernel_rfl) (by kernel_rfl) (by kernel_rfl) (fun _ _ _ h => h) (by rfl) ?_ (by assumption) ?_
                · intro w hSw; (try dsimp only at hSw); go_simp
                simp only [List.setIfInBounds_toArray, List.set_cons_zero, List.set_cons_succ]
                refine takeH (i := 6) 89 (.pointer (some ⟨g', n1, none⟩)) rfl rfl (by kernel_rfl) (by kernel_rfl) (by kernel_rfl) (fun _ _ _ h => h) (by rfl) ?_ (by assumption) ?_
                · intro w hSw; (try dsimp only at hSw); go_simp
                simp only [List.setIfInBounds_toArray, List.set_cons_zero, List.set_cons_succ]
                refine takeH (i := 7) 90 (.int .u64 u1) rfl rfl (by kernel_rfl) (by kernel_rfl) (by kernel_rfl) (fun _ _ _ h => h) (by rfl) ?_ (by assumption) ?_
                · intro w hSw; (try dsimp only at hSw); go_simp
                simp only [List.setIfInBounds_toArray, List.set_cons_zero, List.set_cons_succ]
                refine takeH (i := 8) 91 (.pointer (some ⟨ub, 1, none⟩)) rfl rfl (by kernel_rfl) (by kernel_rfl) (by kernel_rfl) (fun _ _ _ h => h) (by rfl) ?_ (by assumption) ?_
                · intro w hSw; (try dsimp only at hSw); go_simp
                simp only [List.setIfInBounds_toArray, List.set_cons_zero, List.set_cons_succ]
                refine takeH (i := 9) 92 (.int .i64 n1) rfl rfl (by kernel_rfl) (by kernel_rfl) (by kernel_rfl) (fun _ _ _ h => h) (by rfl) ?_ (by assumption) ?_
                · intro w hSw; (try dsimp only at hSw); go_simp
                simp only [List.setIfInBounds_toArray, List.set_cons_zero, List.set_cons_succ]
                refine takeH (i := 11) 94 (pt y) rfl rfl (by kernel_rfl) (by kernel_rfl) (by kernel_rfl) (fun _ _ _ h => h) (by rfl) ?_ (by assumption) ?_
                · intro w hSw; (try dsimp only at hSw); go_simp
                simp only [List.setIfInBounds_toArray, List.set_cons_zero, List.set_cons_succ]
                refine takeH (i := 12) 95 (pt y) rfl rfl (by kernel_rfl) (by kernel_rfl) (by kernel_rfl) (fun _ _ _ h => h) (by rfl) ?_ (by assumption) ?_
                · intro w hSw; (try dsimp only at hSw); go_simp
                simp only [List.setIfInBounds_toArray, List.set_cons_zero, List.set_cons_succ]
                refine takeH (i := 13) 96 (pt y) rfl rfl (by kernel_rfl) (by kernel_rfl) (by kernel_rfl) (fun _ _ _ h => h) (by rfl) ?_ (by assumption) ?_
                · intro w hSw; (try dsimp only at hSw); go_simp
                simp only [List.setIfInBounds_toArray, List.set_cons_zero, List.set_cons_succ]
                refine takeH (i := 14) 97 (.slice (some ⟨g', 0, none⟩) 160 cp') rfl rfl (by kernel_rfl) (by kernel_rfl) (by kernel_rfl) (fun _ _ _ h => h) (by rfl) ?_ (by assumption) ?_
                · intro w hSw; (try dsimp only at hSw); go_simp
                simp only [List.setIfInBounds_toArray, List.set_cons_zero, List.set_cons_succ]
                refine takeH (i := 15) 98 (.pointer (some ⟨eb, 1, none⟩)) rfl rfl (by kernel_rfl) (by kernel_rfl) (by kernel_rfl) (fun _ _ _ h => h) (by rfl) ?_ (by assumption) ?_
                · intro w hSw; (try dsimp only at hSw); go_simp
                simp only [List.setIfInBounds_toArray, List.set_cons_zero, List.set_cons_succ]
                refine takeH (i := 16) 99 (.int .i64 n2) rfl rfl (by kernel_rfl) (by kernel_rfl) (by kernel_rfl) (fun _ _ _ h => h) (by rfl) ?_ (by assumption) ?_
                · intro w hSw; (try dsimp only at hSw); go_simp
                simp only [List.setIfInBounds_toArray, List.set_cons_zero, List.set_cons_succ]
                refine takeH (i := 17) 100 (.pointer (some ⟨g', n2, none⟩)) rfl rfl (by kernel_rfl) (by kernel_rfl) (by kernel_rfl) (fun _ _ _ h => h) (by rfl) ?_ (by assumption) ?_
                · intro w hSw; (try dsimp only at hSw); go_simp
                simp only [List.setIfInBounds_toArray, List.set_cons_zero, List.set_cons_succ]
                refine takeH (i := 18) 101 (.int .u64 u2) rfl rfl (by kernel_rfl) (by kernel_rfl) (by kernel_rfl) (fun _ _ _ h => h) (by rfl) ?_ (by assumption) ?_
                · intro w hSw; (try dsimp only at hSw); go_simp
                simp only [List.setIfInBounds_toArray, List.set_cons_zero, List.set_cons_succ]
                refine takeH (i := 19) 102 (.pointer (some ⟨eb, 1, none⟩)) rfl rfl (by kernel_rfl) (by kernel_rfl) (by kernel_rfl) (fun _ _ _ h => h) (by rfl) ?_ (by assumption) ?_
                · intro w hSw; (try dsimp only at hSw); go_simp
                simp only [List.setIfInBounds_toArray, List.set_cons_zero, List.set_cons_succ]
                refine takeH (i := 20) 103 (.int .i64 n2) rfl rfl (by kernel_rfl) (by kernel_rfl) (by kernel_rfl) (fun _ _ _ h => h) (by rfl) ?_ (by assumption) ?_
                · intro w hSw; (try dsimp only at hSw); go_simp
                simp only [List.setIfInBounds_toArray, List.set_cons_zero, List.set_cons_succ]
                refine wpAnyH_ready (rs := [10]) (by kernel_rfl) (by simp) ?_
                refine AllReadyH.cons rfl (fun K hK => ?_) AllReadyH.nil
                go_simp
                refine (H.rMoved u1 n1 r1.1 r1.2 _).mono ?_
                rintro e w12 ⟨rfl, hw12⟩
                rw [hmm1]
                have hb12 : Below w11.heap.size w11 w12 := (by rw [hw12]; exact (hbd.alloc hbd.size _).alloc (Nat.le_trans hbd.size (by simp)) _)
                clear hw12
                refine hK.out _ _ (keep _ hb12) (fun hHeld => ?_)
                clear hK K
                try simp only [Act.put, List.setIfInBounds_toArray, List.set_cons_zero, List.set_cons_succ]
                refine wpAnyH_ready (rs := [21]) (by kernel_rfl) (by simp) ?_
                refine AllReadyH.cons rfl (fun K hK => ?_) AllReadyH.nil
                go_simp
                refine (H.rMoved u2 n2 r2.1 r2.2 _).mono ?_
                rintro e w13 ⟨rfl, hw13⟩
                rw [hmm2]
                have hb13 : Below w11.heap.size w11 w13 := (by rw [hw13]; exact (hb12.alloc hb12.size _).alloc (Nat.le_trans hb12.size (by simp)) _)
                clear hw13
                refine hK.out _ _ (keep _ hb13) (fun hHeld => ?_)
                clear hK K
                try simp only [Act.put, List.setIfInBounds_toArray, List.set_cons_zero, List.set_cons_succ]
                refine takeH (i := 22) 105 (.bool false) rfl rfl (by kernel_rfl) (by kernel_rfl) (by kernel_rfl) (fun _ _ _ h => h) (by rfl) ?_ (by assumption) ?_
                · intro w hSw; (try dsimp only at hSw); go_simp
                simp only [List.setIfInBounds_toArray, List.set_cons_zero, List.set_cons_succ]
                refine takeH (i := 23) 16 (.bool false) rfl rfl (by kernel_rfl) (by kernel_rfl) (by kernel_rfl) (fun _ _ _ h => h) (by rfl) ?_ (by assumption) ?_
                · intro w hSw; (try dsimp only at hSw); go_simp
                simp only [List.setIfInBounds_toArray, List.set_cons_zero, List.set_cons_succ]
                refine wpAnyH_done (by kernel_rfl) ?_ _
                refine NoPanic.normal ?_
                clear hHeld
                clear keep RD
                have j1 := k1.below hb13
                have j2 := k2.below hb13
                have j3 := k3.below hb13
                have j4 := k4.below hb13
                have jU := BU.below hb13
                have b0 : w13.cell? ⟨ub, 0, none⟩ = some (.int .i64 u.k) := jU.cell 0
                have b1 : w13.cell? ⟨ub, 1, none⟩ = some (.int .i64 u.n) := jU.cell 1
                have bl := jU.lt
                clear al a1' cl c1' z0 z1 zl e0 e1 e2 ly lg hs'
                go_upto_region 19 with (fail)
                have TB : Below w13.heap.size w13 (w13.alloc (.cells #[.int .i64 u.k, .int .i64 u.n] 24)) := (Below.refl _ _).alloc (Nat.le_refl _) _
                have BT : Blk w (w13.alloc (.cells #[.int .i64 u.k, .int .i64 u.n] 24)) w13.heap.size 24 #[.int .i64 u.k, .int .i64 u.n] := Blk.new j1.bel.size _ (by decide)
                have T9 := j1.below TB
                have X9 := j2.below TB
                have N9 := j4.below TB
                go_upto_region 20 with (fail)
                generalize w13.alloc (.cells #[.int .i64 u.k, .int .i64 u.n] 24) = w20 at BT T9 X9 N9 ⊢
                generalize w13.heap.size = tb at BT ⊢
                clear TB
                go_upto_region 22 with (fail)
                obtain ⟨vx, BX⟩ := X9.blk
                have hval : xe.o.val = .agg #[.int .i64 xe.o.c, .int .i64 xe.o.v.k, .int .i64 xe.o.v.n, .bool false] := by rw [Ou.val, y1']
                have fo2 := fOut2
                have bq : ∀ w, (binOp .eql 4 (.bool false) (.bool false)).run Tryd.prog w = .ok (.bool true) w := fun w => by kernel_rfl
                have vq := eqVal_t (a := u) rfl
                obtain ⟨gw, hgw⟩ : ∃ gw, se.got 97 = gw := ⟨_, rfl⟩
                rw [hgw] at y2' Gse
                have hk2 : F.Plain.kind gw = u.k := congrArg Vl.k y2'
                have hn2 : F.Plain.num gw = u.n := congrArg Vl.n y2'
                have ltb := BT.lt
                have keep : ∀ w', Below w20.heap.size w20 w' → w'.cell? ⟨tb, 0, none⟩ = some (.int .i64 u.k) ∧ w'.cell? ⟨tb, 1, none⟩ = some (.int .i64 u.n) := fun w' hb => ⟨bcell hb ltb (BT.cell 0), bcell hb ltb (BT.cell 1)⟩
                have hbd : Below w20.heap.size w20 w20.drew := (Below.refl w20.heap.size w20).drew
                have RD := keep _ hbd
                go_region_held3 (fun w' => w'.cell? ⟨tb, 0, none⟩ = some (.int .i64 u.k) ∧ w'.cell? ⟨tb, 1, none⟩ = some (.int .i64 u.n)) (first | assumption | exact RD | exact keep _ (by assumption))
                  (first
                    | (go_at_call 14; refine (cDResult (BX.below hbd)).mono ?_; rintro e v1 ⟨rfl, hbv1⟩; rw [hval]; have hq1 := bel_trans hbd hbv1; have T1 := T9.below hq1; have W1 := BT.below hq1)
                    | (go_at_call 17; refine (hLoad T1.one (by omega) 97).mono ?_; rintro e v2 ⟨rfl, H2, o2⟩; rw [hgw]; have W2 := W1.oth o2 (by simp); have S2 : v2.cell? ⟨tb, 0, none⟩ = some (.int .i64 u.k) ∧ v2.cell? ⟨tb, 1, none⟩ = some (.int .i64 u.n) := ⟨W2.cell 0, W2.cell 1⟩)
                    | (go_at_call 16; refine (F.rOf gw Gse.1 Gse.2 _).mono ?_; rintro e v3 ⟨rfl, hv3⟩; rw [hk2, hn2] at hv3 ⊢; have hb3 : Below v2.heap.size v2 v3 := (by rw [hv3]; go_grown); have H3 := H2.below hb3; have W3 := W2.below hb3; have S3 : v3.cell? ⟨tb, 0, none⟩ = some (.int .i64 u.k) ∧ v3.cell? ⟨tb, 1, none⟩ = some (.int .i64 u.n) := ⟨W3.cell 0, W3.cell 1⟩; clear hv3))
                go_wp2
                go_ret
                exact ⟨rfl, H3.bel⟩
              · rw [hmm] at y1' y2'
                simp only [Bool.false_eq_true, if_false, if_true] at y2'
                refine wp_region_noPanic ?_
                refine wp_region_held_drew (S := fun w' => w'.cell? ⟨y, 0, none⟩ = some (.slice (some ⟨g', 0, none⟩) 160 cp') ∧ w'.cell? ⟨g', n1, none⟩ = some (.int .u64 u1) ∧ w'.cell? ⟨g', n2, none⟩ = some (.int .u64 u2) ∧ w'.cell? ⟨ub, 1, none⟩ = some (.int .i64 n1) ∧ w'.cell? ⟨eb, 1, none⟩ = some (.int .i64 n2)) (by kernel_rfl) RD (fun hHeld => ?_)
                refine takeH (i := 0) 83 (pt y) rfl rfl (by kernel_rfl) (by kernel_rfl) (by kernel_rfl) (fun _ _ _ h => h) (by rfl) ?_ (by assumption) ?_
                · intro w hSw; (try dsimp only at hSw); go_simp
                simp only [List.setIfInBounds_toArray, List.set_cons_zero, List.set_cons_succ]
                refine takeH (i := 1) 84 (pt y) rfl rfl (by kernel_rfl) (by kernel_rfl) (by kernel_rfl) (fun _ _ _ h => h) (by rfl) ?_ (by assumption) ?_
                · intro w hSw; (try dsimp only at hSw); go_simp
                simp only [List.setIfInBounds_toArray, List.set_cons_zero, List.set_cons_succ]
                refine takeH (i := 2) 85 (pt y) rfl rfl (by kernel_rfl) (by kernel_rfl) (by kernel_rfl) (fun _ _ _ h => h) (by rfl) ?_ (by assumption) ?_
                · intro w hSw; (try dsimp only at hSw); go_simp
                simp only [List.setIfInBounds_toArray, List.set_cons_zero, List.set_cons_succ]
                refine takeH (i := 3) 86 (.slice (some ⟨g', 0, none⟩) 160 cp') rfl rfl (by kernel_rfl) (by kernel_rfl) (by kernel_rfl) (fun _ _ _ h => h) (by rfl) ?_ (by assumption) ?_
                · intro w hSw; (try dsimp only at hSw); go_simp
                simp only [List.setIfInBounds_toArray, List.set_cons_zero, List.set_cons_succ]
                refine takeH (i := 4) 87 (.pointer (some ⟨ub, 1, none⟩)) rfl rfl (by kernel_rfl) (by kernel_rfl) (by kernel_rfl) (fun _ _ _ h => h) (by rfl) ?_ (by assumption) ?_
                · intro w hSw; (try dsimp only at hSw); go_simp
                simp only [List.setIfInBounds_toArray, List.set_cons_zero, List.set_cons_succ]
                refine takeH (i := 5) 88 (.int .i64 n1) rfl rfl (by kernel_rfl) (by kernel_rfl) (by kernel_rfl) (fun _ _ _ h => h) (by rfl) ?_ (by assumption) ?_
                · intro w hSw; (try dsimp only at hSw); go_simp
                simp only [List.setIfInBounds_toArray, List.set_cons_zero, List.set_cons_succ]
                refine takeH (i := 6) 89 (.pointer (some ⟨g', n1, none⟩)) rfl rfl (by kernel_rfl) (by kernel_rfl) (by kernel_rfl) (fun _ _ _ h => h) (by rfl) ?_ (by assumption) ?_
                · intro w hSw; (try dsimp only at hSw); go_simp
                simp only [List.setIfInBounds_toArray, List.set_cons_zero, List.set_cons_succ]
                refine takeH (i := 7) 90 (.int .u64 u1) rfl rfl (by kernel_rfl) (by kernel_rfl) (by kernel_rfl) (fun _ _ _ h => h) (by rfl) ?_ (by assumption) ?_
                · intro w hSw; (try dsimp only at hSw); go_simp
                simp only [List.setIfInBounds_toArray, List.set_cons_zero, List.set_cons_succ]
                refine takeH (i := 8) 91 (.pointer (some ⟨ub, 1, none⟩)) rfl rfl (by kernel_rfl) (by kernel_rfl) (by kernel_rfl) (fun _ _ _ h => h) (by rfl) ?_ (by assumption) ?_
                · intro w hSw; (try dsimp only at hSw); go_simp
                simp only [List.setIfInBounds_toArray, List.set_cons_zero, List.set_cons_succ]
                refine takeH (i := 9) 92 (.int .i64 n1) rfl rfl (by kernel_rfl) (by kernel_rfl) (by kernel_rfl) (fun _ _ _ h => h) (by rfl) ?_ (by assumption) ?_
                · intro w hSw; (try dsimp only at hSw); go_simp
                simp only [List.setIfInBounds_toArray, List.set_cons_zero, List.set_cons_succ]
                refine takeH (i := 11) 94 (pt y) rfl rfl (by kernel_rfl) (by kernel_rfl) (by kernel_rfl) (fun _ _ _ h => h) (by rfl) ?_ (by assumption) ?_
                · intro w hSw; (try dsimp only at hSw); go_simp
                simp only [List.setIfInBounds_toArray, List.set_cons_zero, List.set_cons_succ]
                refine takeH (i := 12) 95 (pt y) rfl rfl (by kernel_rfl) (by kernel_rfl) (by kernel_rfl) (fun _ _ _ h => h) (by rfl) ?_ (by assumption) ?_
                · intro w hSw; (try dsimp only at hSw); go_simp
                simp only [List.setIfInBounds_toArray, List.set_cons_zero, List.set_cons_succ]
                refine takeH (i := 13) 96 (pt y) rfl rfl (by kernel_rfl) (by kernel_rfl) (by kernel_rfl) (fun _ _ _ h => h) (by rfl) ?_ (by assumption) ?_
                · intro w hSw; (try dsimp only at hSw); go_simp
                simp only [List.setIfInBounds_toArray, List.set_cons_zero, List.set_cons_succ]
                refine takeH (i := 14) 97 (.slice (some ⟨g', 0, none⟩) 160 cp') rfl rfl (by kernel_rfl) (by kernel_rfl) (by kernel_rfl) (fun _ _ _ h => h) (by rfl) ?_ (by assumption) ?_
                · intro w hSw; (try dsimp only at hSw); go_simp
                simp only [List.setIfInBounds_toArray, List.set_cons_zero, List.set_cons_succ]
                refine takeH (i := 15) 98 (.pointer (some ⟨eb, 1, none⟩)) rfl rfl (by kernel_rfl) (by kernel_rfl) (by kernel_rfl) (fun _ _ _ h => h) (by rfl) ?_ (by assumption) ?_
                · intro w hSw; (try dsimp only at hSw); go_simp
                simp only [List.setIfInBounds_toArray, List.set_cons_zero, List.set_cons_succ]
                refine takeH (i := 16) 99 (.int .i64 n2) rfl rfl (by kernel_rfl) (by kernel_rfl) (by kernel_rfl) (fun _ _ _ h => h) (by rfl) ?_ (by assumption) ?_
                · intro w hSw; (try dsimp only at hSw); go_simp
                simp only [List.setIfInBounds_toArray, List.set_cons_zero, List.set_cons_succ]
                refine takeH (i := 17) 100 (.pointer (some ⟨g', n2, none⟩)) rfl rfl (by kernel_rfl) (by kernel_rfl) (by kernel_rfl) (fun _ _ _ h => h) (by rfl) ?_ (by assumption) ?_
                · intro w hSw; (try dsimp only at hSw); go_simp
                simp only [List.setIfInBounds_toArray, List.set_cons_zero, List.set_cons_succ]
                refine takeH (i := 18) 101 (.int .u64 u2) rfl rfl (by kernel_rfl) (by kernel_rfl) (by kernel_rfl) (fun _ _ _ h => h) (by rfl) ?_ (by assumption) ?_
                · intro w hSw; (try dsimp only at hSw); go_simp
                simp only [List.setIfInBounds_toArray, List.set_cons_zero, List.set_cons_succ]
                refine takeH (i := 19) 102 (.pointer (some ⟨eb, 1, none⟩)) rfl rfl (by kernel_rfl) (by kernel_rfl) (by kernel_rfl) (fun _ _ _ h => h) (by rfl) ?_ (by assumption) ?_
                · intro w hSw; (try dsimp only at hSw); go_simp
                simp only [List.setIfInBounds_toArray, List.set_cons_zero, List.set_cons_succ]
                refine takeH (i := 20) 103 (.int .i64 n2) rfl rfl (by kernel_rfl) (by kernel_rfl) (by kernel_rfl) (fun _ _ _ h => h) (by rfl) ?_ (by assumption) ?_
                · intro w hSw; (try dsimp only at hSw); go_simp
                simp only [List.setIfInBounds_toArray, List.set_cons_zero, List.set_cons_succ]
                refine wpAnyH_ready (rs := [10]) (by kernel_rfl) (by simp) ?_
                refine AllReadyH.cons rfl (fun K hK => ?_) AllReadyH.nil
                go_simp
                refine (H.rMoved u1 n1 r1.1 r1.2 _).mono ?_
                rintro e w12 ⟨rfl, hw12⟩
                rw [hmm1]
                have hb12 : Below w11.heap.size w11 w12 := (by rw [hw12]; exact (hbd.alloc hbd.size _).alloc (Nat.le_trans hbd.size (by simp)) _)
                clear hw12
                refine hK.out _ _ (keep _ hb12) (fun hHeld => ?_)
                clear hK K
                try simp only [Act.put, List.setIfInBounds_toArray, List.set_cons_zero, List.set_cons_succ]
                refine wpAnyH_ready (rs := [21]) (by kernel_rfl) (by simp) ?_
                refine AllReadyH.cons rfl (fun K hK => ?_) AllReadyH.nil
                go_simp
                refine (H.rMoved u2 n2 r2.1 r2.2 _).mono ?_
                rintro e w13 ⟨rfl, hw13⟩
                rw [hmm2]
                have hb13 : Below w11.heap.size w11 w13 := (by rw [hw13]; exact (hb12.alloc hb12.size _).alloc (Nat.le_trans hb12.size (by simp)) _)
                clear hw13
                refine hK.out _ _ (keep _ hb13) (fun hHeld => ?_)
                clear hK K
                try simp only [Act.put, List.setIfInBounds_toArray, List.set_cons_zero, List.set_cons_succ]
                refine takeH (i := 22) 105 (.bool true) rfl rfl (by kernel_rfl) (by kernel_rfl) (by kernel_rfl) (fun _ _ _ h => h) (by rfl) ?_ (by assumption) ?_
                · intro w hSw; (try dsimp only at hSw); go_simp
                simp only [List.setIfInBounds_toArray, List.set_cons_zero, List.set_cons_succ]
                refine takeH (i := 23) 16 (.bool true) rfl rfl (by kernel_rfl) (by kernel_rfl) (by kernel_rfl) (fun _ _ _ h => h) (by rfl) ?_ (by assumption) ?_
                · intro w hSw; (try dsimp only at hSw); go_simp
                simp only [List.setIfInBounds_toArray, List.set_cons_zero, List.set_cons_succ]
                refine wpAnyH_done (by kernel_rfl) ?_ _
                refine NoPanic.normal ?_
                clear hHeld
                clear keep RD
                have j1 := k1.below hb13
                have j2 := k2.below hb13
                have j3 := k3.below hb13
                have j4 := k4.below hb13
                have jU := BU.below hb13
                have b0 : w13.cell? ⟨ub, 0, none⟩ = some (.int .i64 u.k) := jU.cell 0
                have b1 : w13.cell? ⟨ub, 1, none⟩ = some (.int .i64 u.n) := jU.cell 1
                have bl := jU.lt
                clear al a1' cl c1' z0 z1 zl e0 e1 e2 ly lg hs'
                go_upto_region 19 with (fail)
                have TB : Below w13.heap.size w13 (w13.alloc (.cells #[.int .i64 u.k, .int .i64 u.n] 24)) := (Below.refl _ _).alloc (Nat.le_refl _) _
                have BT : Blk w (w13.alloc (.cells #[.int .i64 u.k, .int .i64 u.n] 24)) w13.heap.size 24 #[.int .i64 u.k, .int .i64 u.n] := Blk.new j1.bel.size _ (by decide)
                have T9 := j1.below TB
                have X9 := j2.below TB
                have N9 := j4.below TB
                go_upto_region 20 with (fail)
                generalize w13.alloc (.cells #[.int .i64 u.k, .int .i64 u.n] 24) = w20 at BT T9 X9 N9 ⊢
                generalize w13.heap.size = tb at BT ⊢
                clear TB
                have b0 : w20.cell? ⟨tb, 0, none⟩ = some (.int .i64 u.k) := BT.cell 0
                have b1 : w20.cell? ⟨tb, 1, none⟩ = some (.int .i64 u.n) := BT.cell 1
                have bf0 := BT.free 0
                have bf1 := BT.free 1
                have n0 : w20.cell? ⟨nb, 0, none⟩ = some (.int .i64 nw.k) := N9.cell 0
                have n1 : w20.cell? ⟨nb, 1, none⟩ = some (.int .i64 nw.n) := N9.cell 1
                go_upto_region 22 with (fail)
                have BT2 := (BT.set 0 (.int .i64 nw.k)).set 1 (.int .i64 nw.n)
                have T10 := (T9.set BT 0 (.int .i64 nw.k)).set (BT.set 0 (.int .i64 nw.k)) 1 (.int .i64 nw.n)
                have o9 : Oth [tb] w20 ((w20.setCell ⟨tb, 0, none⟩ (.int .i64 nw.k)).setCell ⟨tb, 1, none⟩ (.int .i64 nw.n)) := (Oth.set _ _ _ _ (by simp)).trans (Oth.set _ _ _ _ (by simp))
                have X10 : ∃ v, Blk w ((w20.setCell ⟨tb, 0, none⟩ (.int .i64 nw.k)).setCell ⟨tb, 1, none⟩ (.int .i64 nw.n)) px 94 (xe.cells v) := (by obtain ⟨v, B⟩ := X9.blk; exact ⟨v, B.oth o9 (by simpa using B.ne BT (by decide))⟩)
                clear b0 b1 bf0 bf1 n0 n1 o9
                have BT3 : Blk w ((w20.setCell ⟨tb, 0, none⟩ (.int .i64 nw.k)).setCell ⟨tb, 1, none⟩ (.int .i64 nw.n)) tb 24 #[.int .i64 nw.k, .int .i64 nw.n] := BT2
                clear BT2
                generalize (w20.setCell ⟨tb, 0, none⟩ (.int .i64 nw.k)).setCell ⟨tb, 1, none⟩ (.int .i64 nw.n) = w22 at BT3 T10 X10 ⊢
                obtain ⟨vx, BX⟩ := X10
                have hval : xe.o.val = .agg #[.int .i64 xe.o.c, .int .i64 xe.o.v.k, .int .i64 xe.o.v.n, .bool true] := by rw [Ou.val, y1']
                have fo2 := fOut2
                have bq : ∀ w, (binOp .eql 4 (.bool true) (.bool true)).run Tryd.prog w = .ok (.bool true) w := fun w => by kernel_rfl
                have vq := eqVal_t (a := nw) rfl
                obtain ⟨gw, hgw⟩ : ∃ gw, se.got 97 = gw := ⟨_, rfl⟩
                rw [hgw] at y2' Gse
                have hk2 : F.Plain.kind gw = nw.k := congrArg Vl.k y2'
                have hn2 : F.Plain.num gw = nw.n := congrArg Vl.n y2'
                have ltb := BT3.lt
                have keep : ∀ w', Below w22.heap.size w22 w' → w'.cell? ⟨tb, 0, none⟩ = some (.int .i64 nw.k) ∧ w'.cell? ⟨tb, 1, none⟩ = some (.int .i64 nw.n) := fun w' hb => ⟨bcell hb ltb (BT3.cell 0), bcell hb ltb (BT3.cell 1)⟩
                have hbd : Below w22.heap.size w22 w22.drew := (Below.refl w22.heap.size w22).drew
                have RD := keep _ hbd
                go_region_held3 (fun w' => w'.cell? ⟨tb, 0, none⟩ = some (.int .i64 nw.k) ∧ w'.cell? ⟨tb, 1, none⟩ = some (.int .i64 nw.n)) (first | assumption | exact RD | exact keep _ (by assumption))
                  (first
                    | (go_at_call 14; refine (cDResult (BX.below hbd)).mono ?_; rintro e v1 ⟨rfl, hbv1⟩; rw [hval]; have hq1 := bel_trans hbd hbv1; have T1 := T10.below hq1; have W1 := BT3.below hq1)
                    | (go_at_call 17; refine (hLoad T1.one (by omega) 97).mono ?_; rintro e v2 ⟨rfl, H2, o2⟩; rw [hgw]; have W2 := W1.oth o2 (by simp); have S2 : v2.cell? ⟨tb, 0, none⟩ = some (.int .i64 nw.k) ∧ v2.cell? ⟨tb, 1, none⟩ = some (.int .i64 nw.n) := ⟨W2.cell 0, W2.cell 1⟩)
                    | (go_at_call 16; refine (F.rOf gw Gse.1 Gse.2 _).mono ?_; rintro e v3 ⟨rfl, hv3⟩; rw [hk2, hn2] at hv3 ⊢; have hb3 : Below v2.heap.size v2 v3 := (by rw [hv3]; go_grown); have H3 := H2.below hb3; have W3 := W2.below hb3; have S3 : v3.cell? ⟨tb, 0, none⟩ = some (.int .i64 nw.k) ∧ v3.cell? ⟨tb, 1, none⟩ = some (.int .i64 nw.n) := ⟨W3.cell 0, W3.cell 1⟩; clear hv3))
                go_wp2
                go_ret
                exact ⟨rfl, H3.bel⟩
end Go.Proofs.YtgakmpfmckikgaaDoor
