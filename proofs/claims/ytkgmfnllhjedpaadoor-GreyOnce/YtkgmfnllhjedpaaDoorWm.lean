/-
  The walk of the law on one object's header.
-/
import Derived.Test.YtkgmfnllhjedpaaDoorGs
import Derived.Test.YtkgmfnllhjedpaaDoorGq
import Derived.Laws.StructEq
namespace Go.Proofs.YtkgmfnllhjedpaaDoor
set_option linter.unusedVariables false
set_option maxRecDepth 100000
open Go.ChangeShapes Go.WideShapes Go.RowKit
open S.Plain (t0 t1 tw nx)
open H.Plain (hw pS pC pN pM pG pT pL)

theorem eqHead (a b c d e f g : Int) (w : World) : (binOp .eql 43 (.agg #[.int .i64 a, .int .i64 b, .int .i64 c, .int .i64 d, .int .i64 e, .int .i64 f, .int .i64 g]) (.agg #[.int .i64 a, .int .i64 b, .int .i64 c, .int .i64 d, .int .i64 e, .int .i64 f, .int .i64 g])).run Tryd.prog w = .ok (.bool true) w := by
  have u3 := Tryd.underlying3
  have a3 := Tryd.isAgg3
  have z3 := Tryd.sizeOf3
  have hS : Tryd.prog.underlying 43 = some (.struct (Tryd.prog.fieldsOf 43)) := by kernel_rfl
  have hp : Tryd.prog.stoodInHeld 43 = false := by kernel_rfl
  rw [run_eql_struct, show (10000 : Nat) = 9999 + 1 from rfl, run_equalIn_agg w 9999 43 _ _ hS hp]
  simp only [Program.fieldsOf, Tryd.underlying43]
  go_simp
theorem kd_nat (n : Int) (m : Nat) (h : 0 < m) : ∃ k : Nat, kd n m = k ∧ k < m := by
  obtain ⟨h0, h1⟩ := kd_bounds n m (by omega)
  exact ⟨(kd n m).toNat, by omega, by omega⟩
theorem new_got (v : Int) : ((St.new 160).store 96 v).word 96 = v := by
  rw [word_store (by simp [St.new]) ⟨by omega, by omega⟩ ⟨by omega, by omega⟩, if_pos rfl]
theorem new_one (v : Int) : ((St.new 160).store 96 v).word 1 = 0 := by
  rw [word_store (by simp [St.new]) ⟨by omega, by omega⟩ In1, if_neg (by omega)]
  rfl
theorem new_len (v : Int) : ((St.new 160).store 96 v).ws.length = 160 := by rw [St.n_store]; simp [St.new]
theorem new_t (v : Int) : ((St.new 160).store 96 v).t = 0 := t_store (by simp [St.new]) ⟨by omega, by omega⟩

set_option maxHeartbeats 4000000 in
theorem wGreyMarksa (y1 y2 y3 y4 y5 y6 y7 k : Int) (hk : -9223372036854775808 ≤ k) (hk' : k ≤ 9223372036854775807) (w : World) (W : H.Wid w) (hq : skips (hw y1 y2 y3 y4 y5 y6 y7) (kd k 2)) (n : Nat) (hn : w.heap.size = n) :
    Calls Tryd.prog 5 #[.agg #[.int .i64 y1, .int .i64 y2, .int .i64 y3, .int .i64 y4, .int .i64 y5, .int .i64 y6, .int .i64 y7], .int .i64 k] w fun e w' => e = .returned (.bool true) ∧ Below n w w' := by
  have hv64 := u64_hw y1 y2 y3 y4 y5 y6 y7
  obtain ⟨v, hv⟩ : ∃ v, hw y1 y2 y3 y4 y5 y6 y7 = v := ⟨_, rfl⟩
  rw [hv] at hv64 hq
  obtain ⟨m, hm⟩ : ∃ m, kd k 2 = m := ⟨_, rfl⟩
  have hm2 := kd_bounds k 2 (by decide)
  rw [hm] at hq hm2
  have I96 : In 96 := ⟨by omega, by omega⟩
  have g96 := new_got v
  have g1 := new_one v
  have gl := new_len v
  have gt := new_t v
  obtain ⟨s, hs⟩ : ∃ s, (St.new 160).store 96 v = s := ⟨_, rfl⟩
  rw [hs] at g96 g1 gl gt
  have hbn : Below n w (w.alloc (.cells #[.int .i64 y1, .int .i64 y2, .int .i64 y3, .int .i64 y4, .int .i64 y5, .int .i64 y6, .int .i64 y7] 43)) := hn ▸ (Below.refl _ _).alloc (Nat.le_refl _) _
  have Wa : H.Wid (w.alloc (.cells #[.int .i64 y1, .int .i64 y2, .int .i64 y3, .int .i64 y4, .int .i64 y5, .int .i64 y6, .int .i64 y7] 43)) := W.on (hn ▸ hbn)
  have Ba : (w.alloc (.cells #[.int .i64 y1, .int .i64 y2, .int .i64 y3, .int .i64 y4, .int .i64 y5, .int .i64 y6, .int .i64 y7] 43)).heap[n]? = some (.cells #[.int .i64 y1, .int .i64 y2, .int .i64 y3, .int .i64 y4, .int .i64 y5, .int .i64 y6, .int .i64 y7] 43 (0, 0)) := hn ▸ heap_alloc_new _ _
  have sza : (w.alloc (.cells #[.int .i64 y1, .int .i64 y2, .int .i64 y3, .int .i64 y4, .int .i64 y5, .int .i64 y6, .int .i64 y7] 43)).heap.size = n + 1 := by simp [hn, go_sem]
  go_enter Tryd.func5, Tryd.ntmps5
  go_wp2_with (first
    | (go_at_call 8; refine (cShown (w.alloc (.cells #[.int .i64 y1, .int .i64 y2, .int .i64 y3, .int .i64 y4, .int .i64 y5, .int .i64 y6, .int .i64 y7] 43)) Wa).mono ?_; rintro e w1 ⟨rfl, hb1⟩)
    | (go_at_call 22; refine (hNew w1 160 (by decide) (by decide) hb1 Wa).mono ?_; rintro e w2 ⟨b, rfl, h2⟩; have d0 : w2.cell? ⟨n, 0, none⟩ = some (.int .i64 y1) := (h2.bel.cell (show n < (w.alloc (.cells #[.int .i64 y1, .int .i64 y2, .int .i64 y3, .int .i64 y4, .int .i64 y5, .int .i64 y6, .int .i64 y7] 43)).heap.size by omega)).trans (cell_of_row _ _ _ _ _ _ Ba); have d1 : w2.cell? ⟨n, 1, none⟩ = some (.int .i64 y2) := (h2.bel.cell (show n < (w.alloc (.cells #[.int .i64 y1, .int .i64 y2, .int .i64 y3, .int .i64 y4, .int .i64 y5, .int .i64 y6, .int .i64 y7] 43)).heap.size by omega)).trans (cell_of_row _ _ _ _ _ _ Ba); have d2 : w2.cell? ⟨n, 2, none⟩ = some (.int .i64 y3) := (h2.bel.cell (show n < (w.alloc (.cells #[.int .i64 y1, .int .i64 y2, .int .i64 y3, .int .i64 y4, .int .i64 y5, .int .i64 y6, .int .i64 y7] 43)).heap.size by omega)).trans (cell_of_row _ _ _ _ _ _ Ba); have d3 : w2.cell? ⟨n, 3, none⟩ = some (.int .i64 y4) := (h2.bel.cell (show n < (w.alloc (.cells #[.int .i64 y1, .int .i64 y2, .int .i64 y3, .int .i64 y4, .int .i64 y5, .int .i64 y6, .int .i64 y7] 43)).heap.size by omega)).trans (cell_of_row _ _ _ _ _ _ Ba); have d4 : w2.cell? ⟨n, 4, none⟩ = some (.int .i64 y5) := (h2.bel.cell (show n < (w.alloc (.cells #[.int .i64 y1, .int .i64 y2, .int .i64 y3, .int .i64 y4, .int .i64 y5, .int .i64 y6, .int .i64 y7] 43)).heap.size by omega)).trans (cell_of_row _ _ _ _ _ _ Ba); have d5 : w2.cell? ⟨n, 5, none⟩ = some (.int .i64 y6) := (h2.bel.cell (show n < (w.alloc (.cells #[.int .i64 y1, .int .i64 y2, .int .i64 y3, .int .i64 y4, .int .i64 y5, .int .i64 y6, .int .i64 y7] 43)).heap.size by omega)).trans (cell_of_row _ _ _ _ _ _ Ba); have d6 : w2.cell? ⟨n, 6, none⟩ = some (.int .i64 y7) := (h2.bel.cell (show n < (w.alloc (.cells #[.int .i64 y1, .int .i64 y2, .int .i64 y3, .int .i64 y4, .int .i64 y5, .int .i64 y6, .int .i64 y7] 43)).heap.size by omega)).trans (cell_of_row _ _ _ _ _ _ Ba))
    | (go_at_call 23; refine (H.rWord y1 y2 y3 y4 y5 y6 y7 w2).mono ?_; rintro e w3 ⟨rfl, hw3⟩; rw [hv]; have hb3 : Below w2.heap.size w2 w3 := (by rw [hw3]; go_grown); have h3 := h2.below hb3; clear hw3 hb3)
    | (go_at_call 24; refine (H.rOf v hv64.1 hv64.2 w3).mono ?_; rintro e w4 ⟨rfl, hw4⟩; have hb4 : Below w3.heap.size w3 w4 := (by rw [hw4]; go_grown); have h4 := h3.below hb4; clear hw4 hb4; have h5 := h4.alloc (.cells #[.int .i64 (pS v), .int .i64 (pC v), .int .i64 (pN v), .int .i64 (pM v), .int .i64 (pG v), .int .i64 (pT v), .int .i64 (pL v)] 43); have B5 : Blk (w.alloc (.cells #[.int .i64 y1, .int .i64 y2, .int .i64 y3, .int .i64 y4, .int .i64 y5, .int .i64 y6, .int .i64 y7] 43)) (w4.alloc (.cells #[.int .i64 (pS v), .int .i64 (pC v), .int .i64 (pN v), .int .i64 (pM v), .int .i64 (pG v), .int .i64 (pT v), .int .i64 (pL v)] 43)) w4.heap.size 43 #[.int .i64 (pS v), .int .i64 (pC v), .int .i64 (pN v), .int .i64 (pM v), .int .i64 (pG v), .int .i64 (pT v), .int .i64 (pL v)] := Blk.new h4.bel.size _ (by decide))
    | (go_at_call 25; refine (hStore h5 (by decide) 96 hv64).mono ?_; rintro e w6 ⟨rfl, h6, o6⟩; rw [hs] at h6; have B6 := B5.oth o6 (by simp); obtain ⟨pW, hpW⟩ : ∃ p, w4.heap.size = p := ⟨_, rfl⟩; rw [hpW] at B6 ⊢; clear hpW h5 B5 o6 h4 h3 h2)
    | (go_at_call 12; refine (cKind _ k 2 hk hk' (by decide)).mono ?_; rintro e wk ⟨rfl, hwk⟩; rw [hwk, hm]; clear hwk wk)
    | (go_at_call 16; refine (cNewShade 96 m w6).mono ?_; rintro e w7 ⟨rfl, M⟩; have h7 := h6.below M.bel; have B7 := B6.below M.bel; have X0 := M.blk' h6.bel.size (by decide); have n1 := blk_ne B6 (Nat.le_refl _); obtain ⟨pX, hpX⟩ : ∃ p, w6.heap.size = p := ⟨_, rfl⟩; rw [hpX] at X0 n1 ⊢; clear hpX M B6 h6)
    | (go_at_call 10; refine (cNewNext w7).mono ?_; rintro e w8 ⟨rfl, hM⟩; have M := made_of hM; have h8 := h7.below M.bel; have B8 := B7.below M.bel; have X8 := X0.below M.bel; have N0 := M.blk' h7.bel.size (by decide); have n2 := blk_ne B7 (Nat.le_refl _); have n3 := blk_ne X0 (Nat.le_refl _); obtain ⟨pN_, hpN⟩ : ∃ p, w7.heap.size = p := ⟨_, rfl⟩; rw [hpN] at N0 n2 n3 ⊢; clear hpN M hM B7 X0 h7))
  obtain ⟨x1, e1, e1', p1⟩ := shade_skip gl I96 (by decide) (show skips (s.word 96) m by rw [g96]; exact hq)
  have hl1 : (s.load 96).ws.length = 160 := gl
  obtain ⟨z1, z1n, z1m, zp, zc, zk⟩ := next_none (s := s.load 96) hl1 (show t0 ((s.load 96).word 1) = 0 by rw [word_load, g1]; decide)
  have gz : ((s.load 96).load 1).got 96 = v := (I96.got (show ((s.load 96).load 1).ws.length = 160 from gl)).trans g96
  have ok0 := ShadeS.ok_new 96 m
  refine wp_loop_rounds 6 ?_
  rw [rounds_succ]
  go_wp2_with (go_at_call 18; refine (oShade h8 X8 ok0 (by decide)).mono ?_; rintro e wx0 ⟨rfl, Ha0, Xa0, Oa0⟩; rw [e1] at Xa0 ⊢; rw [e1'] at Ha0; rw [p1]; have oka0 := ok0.next h8.rng; rw [e1] at oka0; have Ba0 := B8.oth Oa0 (by simpa using n1); have Na0 := N0.oth Oa0 (by simpa using (Ne.symm n3)); clear Oa0 h8 X8 B8 N0 ok0)
  rw [rounds_succ]
  go_wp2_with (go_at_call 18; refine (oShade Ha0 Xa0 oka0 (by decide)).mono ?_; rintro e wx1 ⟨rfl, Ha1, Xa1, Oa1⟩; rw [(x1.still (s.load 96) p1).1] at Xa1 ⊢; rw [(x1.still (s.load 96) p1).2] at Ha1; rw [p1]; have oka1 := oka0.next Ha0.rng; rw [(x1.still (s.load 96) p1).1] at oka1; have Ba1 := Ba0.oth Oa1 (by simpa using n1); have Na1 := Na0.oth Oa1 (by simpa using (Ne.symm n3)); clear Oa1 Ha0 Xa0 Ba0 Na0 oka0)
  rw [rounds_succ]
  go_wp2_with (go_at_call 18; refine (oShade Ha1 Xa1 oka1 (by decide)).mono ?_; rintro e wx2 ⟨rfl, Ha2, Xa2, Oa2⟩; rw [(x1.still (s.load 96) p1).1] at Xa2 ⊢; rw [(x1.still (s.load 96) p1).2] at Ha2; rw [p1]; have oka2 := oka1.next Ha1.rng; rw [(x1.still (s.load 96) p1).1] at oka2; have Ba2 := Ba1.oth Oa2 (by simpa using n1); have Na2 := Na1.oth Oa2 (by simpa using (Ne.symm n3)); clear Oa2 Ha1 Xa1 Ba1 Na1 oka1)
  rw [rounds_succ]
  go_wp2_with (go_at_call 18; refine (oShade Ha2 Xa2 oka2 (by decide)).mono ?_; rintro e wx3 ⟨rfl, Ha3, Xa3, Oa3⟩; rw [(x1.still (s.load 96) p1).1] at Xa3 ⊢; rw [(x1.still (s.load 96) p1).2] at Ha3; rw [p1]; have oka3 := oka2.next Ha2.rng; rw [(x1.still (s.load 96) p1).1] at oka3; have Ba3 := Ba2.oth Oa3 (by simpa using n1); have Na3 := Na2.oth Oa3 (by simpa using (Ne.symm n3)); clear Oa3 Ha2 Xa2 Ba2 Na2 oka2)
  rw [rounds_succ]
  go_wp2_with (go_at_call 18; refine (oShade Ha3 Xa3 oka3 (by decide)).mono ?_; rintro e wx4 ⟨rfl, Ha4, Xa4, Oa4⟩; rw [(x1.still (s.load 96) p1).1] at Xa4 ⊢; rw [(x1.still (s.load 96) p1).2] at Ha4; rw [p1]; have oka4 := oka3.next Ha3.rng; rw [(x1.still (s.load 96) p1).1] at oka4; have Ba4 := Ba3.oth Oa4 (by simpa using n1); have Na4 := Na3.oth Oa4 (by simpa using (Ne.symm n3)); clear Oa4 Ha3 Xa3 Ba3 Na3 oka3)
  rw [rounds_succ]
  go_wp2
  have okn := NextS.ok_new
  refine wp_loop_rounds 5 ?_
  rw [rounds_succ]
  go_wp2_with (go_at_call 13; refine (oNext Ha4 Na4 okn (by decide)).mono ?_; rintro e wz0 ⟨rfl, Hb0, Nb0, Ob0⟩; rw [z1n] at Nb0 ⊢; rw [z1m] at Hb0; have okb0 := okn.next Ha4.rng; rw [z1n] at okb0; have Bb0 := Ba4.oth Ob0 (by simpa using n2); clear Ob0 Ha4 Na4 Ba4 okn)
  rw [rounds_succ]
  go_wp2_with (go_at_call 13; refine (oNext Hb0 Nb0 okb0 (by decide)).mono ?_; rintro e wz1 ⟨rfl, Hb1, Nb1, Ob1⟩; rw [(z1.still ((s.load 96).load 1) zp).1] at Nb1 ⊢; rw [(z1.still ((s.load 96).load 1) zp).2] at Hb1; have okb1 := okb0.next Hb0.rng; rw [(z1.still ((s.load 96).load 1) zp).1] at okb1; have Bb1 := Bb0.oth Ob1 (by simpa using n2); clear Ob1 Hb0 Nb0 Bb0 okb0)
  rw [rounds_succ]
  go_wp2_with (go_at_call 13; refine (oNext Hb1 Nb1 okb1 (by decide)).mono ?_; rintro e wz2 ⟨rfl, Hb2, Nb2, Ob2⟩; rw [(z1.still ((s.load 96).load 1) zp).1] at Nb2 ⊢; rw [(z1.still ((s.load 96).load 1) zp).2] at Hb2; have okb2 := okb1.next Hb1.rng; rw [(z1.still ((s.load 96).load 1) zp).1] at okb2; have Bb2 := Bb1.oth Ob2 (by simpa using n2); clear Ob2 Hb1 Nb1 Bb1 okb1)
  rw [rounds_succ]
  go_wp2_with (go_at_call 13; refine (oNext Hb2 Nb2 okb2 (by decide)).mono ?_; rintro e wz3 ⟨rfl, Hb3, Nb3, Ob3⟩; rw [(z1.still ((s.load 96).load 1) zp).1] at Nb3 ⊢; rw [(z1.still ((s.load 96).load 1) zp).2] at Hb3; have okb3 := okb2.next Hb2.rng; rw [(z1.still ((s.load 96).load 1) zp).1] at okb3; have Bb3 := Bb2.oth Ob3 (by simpa using n2); clear Ob3 Hb2 Nb2 Bb2 okb2)
  rw [rounds_succ]
  have eqh := eqHead (pS v) (pC v) (pN v) (pM v) (pG v) (pT v) (pL v)
  by_cases c1 : pS v = 1
  · have q1 : (pS v != 1) = false := by simp [c1]
    have q2 : (pM v == m) = true := by simpa using hq.resolve_left (fun h => h c1)
    clear c1 hq
    go_wp2_with (first
      | (go_at_call 14; refine (oResult Nb3).mono ?_; rintro e wr ⟨rfl, hbr⟩; rw [zc, zk]; have Hr := Hb3.below hbr; have Br := Bb3.below hbr; clear hbr Hb3 Bb3)
      | (go_at_call 26; refine (hLoad Hr (by decide) 96).mono ?_; rintro e wl ⟨rfl, Hl, ol⟩; rw [gz]; have Bl := Br.oth ol (by simp); clear ol Hr Br)
      | (go_at_call 24; refine (H.rOf v hv64.1 hv64.2 wl).mono ?_; rintro e wc ⟨rfl, hwc⟩; have hbc : Below wl.heap.size wl wc := (by rw [hwc]; go_grown); have Hc := Hl.below hbc; have Bc := Bl.below hbc; clear hwc hbc; have Hd_ := Hc.alloc (.cells #[.int .i64 (pS v), .int .i64 (pC v), .int .i64 (pN v), .int .i64 (pM v), .int .i64 (pG v), .int .i64 (pT v), .int .i64 (pL v)] 43); have Bd := Bc.below ((Below.refl _ _).alloc (Nat.le_refl _) (.cells #[.int .i64 (pS v), .int .i64 (pC v), .int .i64 (pN v), .int .i64 (pM v), .int .i64 (pG v), .int .i64 (pT v), .int .i64 (pL v)] 43)); have Zd : Blk (w.alloc (.cells #[.int .i64 y1, .int .i64 y2, .int .i64 y3, .int .i64 y4, .int .i64 y5, .int .i64 y6, .int .i64 y7] 43)) (wc.alloc (.cells #[.int .i64 (pS v), .int .i64 (pC v), .int .i64 (pN v), .int .i64 (pM v), .int .i64 (pG v), .int .i64 (pT v), .int .i64 (pL v)] 43)) wc.heap.size 43 #[.int .i64 (pS v), .int .i64 (pC v), .int .i64 (pN v), .int .i64 (pM v), .int .i64 (pG v), .int .i64 (pT v), .int .i64 (pL v)] := Blk.new Hc.bel.size _ (by decide); have n9 := blk_ne Bc (Nat.le_refl _); have k0 : (wc.alloc (.cells #[.int .i64 (pS v), .int .i64 (pC v), .int .i64 (pN v), .int .i64 (pM v), .int .i64 (pG v), .int .i64 (pT v), .int .i64 (pL v)] 43)).cell? ⟨pW, 0, none⟩ = some (.int .i64 (pS v)) := Bd.cell 0; have kf0 := Bd.free 0; have j0 : (wc.alloc (.cells #[.int .i64 (pS v), .int .i64 (pC v), .int .i64 (pN v), .int .i64 (pM v), .int .i64 (pG v), .int .i64 (pT v), .int .i64 (pL v)] 43)).cell? ⟨wc.heap.size, 0, none⟩ = some (.int .i64 (pS v)) := Zd.cell 0; have k1 : (wc.alloc (.cells #[.int .i64 (pS v), .int .i64 (pC v), .int .i64 (pN v), .int .i64 (pM v), .int .i64 (pG v), .int .i64 (pT v), .int .i64 (pL v)] 43)).cell? ⟨pW, 1, none⟩ = some (.int .i64 (pC v)) := Bd.cell 1; have kf1 := Bd.free 1; have j1 : (wc.alloc (.cells #[.int .i64 (pS v), .int .i64 (pC v), .int .i64 (pN v), .int .i64 (pM v), .int .i64 (pG v), .int .i64 (pT v), .int .i64 (pL v)] 43)).cell? ⟨wc.heap.size, 1, none⟩ = some (.int .i64 (pC v)) := Zd.cell 1; have k2 : (wc.alloc (.cells #[.int .i64 (pS v), .int .i64 (pC v), .int .i64 (pN v), .int .i64 (pM v), .int .i64 (pG v), .int .i64 (pT v), .int .i64 (pL v)] 43)).cell? ⟨pW, 2, none⟩ = some (.int .i64 (pN v)) := Bd.cell 2; have kf2 := Bd.free 2; have j2 : (wc.alloc (.cells #[.int .i64 (pS v), .int .i64 (pC v), .int .i64 (pN v), .int .i64 (pM v), .int .i64 (pG v), .int .i64 (pT v), .int .i64 (pL v)] 43)).cell? ⟨wc.heap.size, 2, none⟩ = some (.int .i64 (pN v)) := Zd.cell 2; have k3 : (wc.alloc (.cells #[.int .i64 (pS v), .int .i64 (pC v), .int .i64 (pN v), .int .i64 (pM v), .int .i64 (pG v), .int .i64 (pT v), .int .i64 (pL v)] 43)).cell? ⟨pW, 3, none⟩ = some (.int .i64 (pM v)) := Bd.cell 3; have kf3 := Bd.free 3; have j3 : (wc.alloc (.cells #[.int .i64 (pS v), .int .i64 (pC v), .int .i64 (pN v), .int .i64 (pM v), .int .i64 (pG v), .int .i64 (pT v), .int .i64 (pL v)] 43)).cell? ⟨wc.heap.size, 3, none⟩ = some (.int .i64 (pM v)) := Zd.cell 3; have k4 : (wc.alloc (.cells #[.int .i64 (pS v), .int .i64 (pC v), .int .i64 (pN v), .int .i64 (pM v), .int .i64 (pG v), .int .i64 (pT v), .int .i64 (pL v)] 43)).cell? ⟨pW, 4, none⟩ = some (.int .i64 (pG v)) := Bd.cell 4; have kf4 := Bd.free 4; have j4 : (wc.alloc (.cells #[.int .i64 (pS v), .int .i64 (pC v), .int .i64 (pN v), .int .i64 (pM v), .int .i64 (pG v), .int .i64 (pT v), .int .i64 (pL v)] 43)).cell? ⟨wc.heap.size, 4, none⟩ = some (.int .i64 (pG v)) := Zd.cell 4; have k5 : (wc.alloc (.cells #[.int .i64 (pS v), .int .i64 (pC v), .int .i64 (pN v), .int .i64 (pM v), .int .i64 (pG v), .int .i64 (pT v), .int .i64 (pL v)] 43)).cell? ⟨pW, 5, none⟩ = some (.int .i64 (pT v)) := Bd.cell 5; have kf5 := Bd.free 5; have j5 : (wc.alloc (.cells #[.int .i64 (pS v), .int .i64 (pC v), .int .i64 (pN v), .int .i64 (pM v), .int .i64 (pG v), .int .i64 (pT v), .int .i64 (pL v)] 43)).cell? ⟨wc.heap.size, 5, none⟩ = some (.int .i64 (pT v)) := Zd.cell 5; have k6 : (wc.alloc (.cells #[.int .i64 (pS v), .int .i64 (pC v), .int .i64 (pN v), .int .i64 (pM v), .int .i64 (pG v), .int .i64 (pT v), .int .i64 (pL v)] 43)).cell? ⟨pW, 6, none⟩ = some (.int .i64 (pL v)) := Bd.cell 6; have kf6 := Bd.free 6; have j6 : (wc.alloc (.cells #[.int .i64 (pS v), .int .i64 (pC v), .int .i64 (pN v), .int .i64 (pM v), .int .i64 (pG v), .int .i64 (pT v), .int .i64 (pL v)] 43)).cell? ⟨wc.heap.size, 6, none⟩ = some (.int .i64 (pL v)) := Zd.cell 6))
    go_ret
    exact ⟨by simp, hbn.trans (Hd_.bel.mono (by omega))⟩
  · have q1 : (pS v != 1) = true := by simpa using c1
    clear c1 hq
    go_wp2_with (first
      | (go_at_call 14; refine (oResult Nb3).mono ?_; rintro e wr ⟨rfl, hbr⟩; rw [zc, zk]; have Hr := Hb3.below hbr; have Br := Bb3.below hbr; clear hbr Hb3 Bb3)
      | (go_at_call 26; refine (hLoad Hr (by decide) 96).mono ?_; rintro e wl ⟨rfl, Hl, ol⟩; rw [gz]; have Bl := Br.oth ol (by simp); clear ol Hr Br)
      | (go_at_call 24; refine (H.rOf v hv64.1 hv64.2 wl).mono ?_; rintro e wc ⟨rfl, hwc⟩; have hbc : Below wl.heap.size wl wc := (by rw [hwc]; go_grown); have Hc := Hl.below hbc; have Bc := Bl.below hbc; clear hwc hbc; have Hd_ := Hc.alloc (.cells #[.int .i64 (pS v), .int .i64 (pC v), .int .i64 (pN v), .int .i64 (pM v), .int .i64 (pG v), .int .i64 (pT v), .int .i64 (pL v)] 43); have Bd := Bc.below ((Below.refl _ _).alloc (Nat.le_refl _) (.cells #[.int .i64 (pS v), .int .i64 (pC v), .int .i64 (pN v), .int .i64 (pM v), .int .i64 (pG v), .int .i64 (pT v), .int .i64 (pL v)] 43)); have Zd : Blk (w.alloc (.cells #[.int .i64 y1, .int .i64 y2, .int .i64 y3, .int .i64 y4, .int .i64 y5, .int .i64 y6, .int .i64 y7] 43)) (wc.alloc (.cells #[.int .i64 (pS v), .int .i64 (pC v), .int .i64 (pN v), .int .i64 (pM v), .int .i64 (pG v), .int .i64 (pT v), .int .i64 (pL v)] 43)) wc.heap.size 43 #[.int .i64 (pS v), .int .i64 (pC v), .int .i64 (pN v), .int .i64 (pM v), .int .i64 (pG v), .int .i64 (pT v), .int .i64 (pL v)] := Blk.new Hc.bel.size _ (by decide); have n9 := blk_ne Bc (Nat.le_refl _); have k0 : (wc.alloc (.cells #[.int .i64 (pS v), .int .i64 (pC v), .int .i64 (pN v), .int .i64 (pM v), .int .i64 (pG v), .int .i64 (pT v), .int .i64 (pL v)] 43)).cell? ⟨pW, 0, none⟩ = some (.int .i64 (pS v)) := Bd.cell 0; have kf0 := Bd.free 0; have j0 : (wc.alloc (.cells #[.int .i64 (pS v), .int .i64 (pC v), .int .i64 (pN v), .int .i64 (pM v), .int .i64 (pG v), .int .i64 (pT v), .int .i64 (pL v)] 43)).cell? ⟨wc.heap.size, 0, none⟩ = some (.int .i64 (pS v)) := Zd.cell 0; have k1 : (wc.alloc (.cells #[.int .i64 (pS v), .int .i64 (pC v), .int .i64 (pN v), .int .i64 (pM v), .int .i64 (pG v), .int .i64 (pT v), .int .i64 (pL v)] 43)).cell? ⟨pW, 1, none⟩ = some (.int .i64 (pC v)) := Bd.cell 1; have kf1 := Bd.free 1; have j1 : (wc.alloc (.cells #[.int .i64 (pS v), .int .i64 (pC v), .int .i64 (pN v), .int .i64 (pM v), .int .i64 (pG v), .int .i64 (pT v), .int .i64 (pL v)] 43)).cell? ⟨wc.heap.size, 1, none⟩ = some (.int .i64 (pC v)) := Zd.cell 1; have k2 : (wc.alloc (.cells #[.int .i64 (pS v), .int .i64 (pC v), .int .i64 (pN v), .int .i64 (pM v), .int .i64 (pG v), .int .i64 (pT v), .int .i64 (pL v)] 43)).cell? ⟨pW, 2, none⟩ = some (.int .i64 (pN v)) := Bd.cell 2; have kf2 := Bd.free 2; have j2 : (wc.alloc (.cells #[.int .i64 (pS v), .int .i64 (pC v), .int .i64 (pN v), .int .i64 (pM v), .int .i64 (pG v), .int .i64 (pT v), .int .i64 (pL v)] 43)).cell? ⟨wc.heap.size, 2, none⟩ = some (.int .i64 (pN v)) := Zd.cell 2; have k3 : (wc.alloc (.cells #[.int .i64 (pS v), .int .i64 (pC v), .int .i64 (pN v), .int .i64 (pM v), .int .i64 (pG v), .int .i64 (pT v), .int .i64 (pL v)] 43)).cell? ⟨pW, 3, none⟩ = some (.int .i64 (pM v)) := Bd.cell 3; have kf3 := Bd.free 3; have j3 : (wc.alloc (.cells #[.int .i64 (pS v), .int .i64 (pC v), .int .i64 (pN v), .int .i64 (pM v), .int .i64 (pG v), .int .i64 (pT v), .int .i64 (pL v)] 43)).cell? ⟨wc.heap.size, 3, none⟩ = some (.int .i64 (pM v)) := Zd.cell 3; have k4 : (wc.alloc (.cells #[.int .i64 (pS v), .int .i64 (pC v), .int .i64 (pN v), .int .i64 (pM v), .int .i64 (pG v), .int .i64 (pT v), .int .i64 (pL v)] 43)).cell? ⟨pW, 4, none⟩ = some (.int .i64 (pG v)) := Bd.cell 4; have kf4 := Bd.free 4; have j4 : (wc.alloc (.cells #[.int .i64 (pS v), .int .i64 (pC v), .int .i64 (pN v), .int .i64 (pM v), .int .i64 (pG v), .int .i64 (pT v), .int .i64 (pL v)] 43)).cell? ⟨wc.heap.size, 4, none⟩ = some (.int .i64 (pG v)) := Zd.cell 4; have k5 : (wc.alloc (.cells #[.int .i64 (pS v), .int .i64 (pC v), .int .i64 (pN v), .int .i64 (pM v), .int .i64 (pG v), .int .i64 (pT v), .int .i64 (pL v)] 43)).cell? ⟨pW, 5, none⟩ = some (.int .i64 (pT v)) := Bd.cell 5; have kf5 := Bd.free 5; have j5 : (wc.alloc (.cells #[.int .i64 (pS v), .int .i64 (pC v), .int .i64 (pN v), .int .i64 (pM v), .int .i64 (pG v), .int .i64 (pT v), .int .i64 (pL v)] 43)).cell? ⟨wc.heap.size, 5, none⟩ = some (.int .i64 (pT v)) := Zd.cell 5; have k6 : (wc.alloc (.cells #[.int .i64 (pS v), .int .i64 (pC v), .int .i64 (pN v), .int .i64 (pM v), .int .i64 (pG v), .int .i64 (pT v), .int .i64 (pL v)] 43)).cell? ⟨pW, 6, none⟩ = some (.int .i64 (pL v)) := Bd.cell 6; have kf6 := Bd.free 6; have j6 : (wc.alloc (.cells #[.int .i64 (pS v), .int .i64 (pC v), .int .i64 (pN v), .int .i64 (pM v), .int .i64 (pG v), .int .i64 (pT v), .int .i64 (pL v)] 43)).cell? ⟨wc.heap.size, 6, none⟩ = some (.int .i64 (pL v)) := Zd.cell 6))
    go_ret
    exact ⟨by simp, hbn.trans (Hd_.bel.mono (by omega))⟩

set_option maxHeartbeats 4000000 in
theorem wGreyMarksb (y1 y2 y3 y4 y5 y6 y7 k : Int) (hk : -9223372036854775808 ≤ k) (hk' : k ≤ 9223372036854775807) (w : World) (W : H.Wid w) (hq : ¬ skips (hw y1 y2 y3 y4 y5 y6 y7) (kd k 2)) (n : Nat) (hn : w.heap.size = n) :
    Calls Tryd.prog 5 #[.agg #[.int .i64 y1, .int .i64 y2, .int .i64 y3, .int .i64 y4, .int .i64 y5, .int .i64 y6, .int .i64 y7], .int .i64 k] w fun e w' => e = .returned (.bool true) ∧ Below n w w' := by
  have hv64 := u64_hw y1 y2 y3 y4 y5 y6 y7
  obtain ⟨v, hv⟩ : ∃ v, hw y1 y2 y3 y4 y5 y6 y7 = v := ⟨_, rfl⟩
  rw [hv] at hv64 hq
  obtain ⟨m, hm⟩ : ∃ m, kd k 2 = m := ⟨_, rfl⟩
  have hm2 := kd_bounds k 2 (by decide)
  rw [hm] at hq hm2
  have I96 : In 96 := ⟨by omega, by omega⟩
  have g96 := new_got v
  have g1 := new_one v
  have gl := new_len v
  have gt := new_t v
  obtain ⟨s, hs⟩ : ∃ s, (St.new 160).store 96 v = s := ⟨_, rfl⟩
  rw [hs] at g96 g1 gl gt
  have hbn : Below n w (w.alloc (.cells #[.int .i64 y1, .int .i64 y2, .int .i64 y3, .int .i64 y4, .int .i64 y5, .int .i64 y6, .int .i64 y7] 43)) := hn ▸ (Below.refl _ _).alloc (Nat.le_refl _) _
  have Wa : H.Wid (w.alloc (.cells #[.int .i64 y1, .int .i64 y2, .int .i64 y3, .int .i64 y4, .int .i64 y5, .int .i64 y6, .int .i64 y7] 43)) := W.on (hn ▸ hbn)
  have Ba : (w.alloc (.cells #[.int .i64 y1, .int .i64 y2, .int .i64 y3, .int .i64 y4, .int .i64 y5, .int .i64 y6, .int .i64 y7] 43)).heap[n]? = some (.cells #[.int .i64 y1, .int .i64 y2, .int .i64 y3, .int .i64 y4, .int .i64 y5, .int .i64 y6, .int .i64 y7] 43 (0, 0)) := hn ▸ heap_alloc_new _ _
  have sza : (w.alloc (.cells #[.int .i64 y1, .int .i64 y2, .int .i64 y3, .int .i64 y4, .int .i64 y5, .int .i64 y6, .int .i64 y7] 43)).heap.size = n + 1 := by simp [hn, go_sem]
  go_enter Tryd.func5, Tryd.ntmps5
  go_wp2_with (first
    | (go_at_call 8; refine (cShown (w.alloc (.cells #[.int .i64 y1, .int .i64 y2, .int .i64 y3, .int .i64 y4, .int .i64 y5, .int .i64 y6, .int .i64 y7] 43)) Wa).mono ?_; rintro e w1 ⟨rfl, hb1⟩)
    | (go_at_call 22; refine (hNew w1 160 (by decide) (by decide) hb1 Wa).mono ?_; rintro e w2 ⟨b, rfl, h2⟩; have d0 : w2.cell? ⟨n, 0, none⟩ = some (.int .i64 y1) := (h2.bel.cell (show n < (w.alloc (.cells #[.int .i64 y1, .int .i64 y2, .int .i64 y3, .int .i64 y4, .int .i64 y5, .int .i64 y6, .int .i64 y7] 43)).heap.size by omega)).trans (cell_of_row _ _ _ _ _ _ Ba); have d1 : w2.cell? ⟨n, 1, none⟩ = some (.int .i64 y2) := (h2.bel.cell (show n < (w.alloc (.cells #[.int .i64 y1, .int .i64 y2, .int .i64 y3, .int .i64 y4, .int .i64 y5, .int .i64 y6, .int .i64 y7] 43)).heap.size by omega)).trans (cell_of_row _ _ _ _ _ _ Ba); have d2 : w2.cell? ⟨n, 2, none⟩ = some (.int .i64 y3) := (h2.bel.cell (show n < (w.alloc (.cells #[.int .i64 y1, .int .i64 y2, .int .i64 y3, .int .i64 y4, .int .i64 y5, .int .i64 y6, .int .i64 y7] 43)).heap.size by omega)).trans (cell_of_row _ _ _ _ _ _ Ba); have d3 : w2.cell? ⟨n, 3, none⟩ = some (.int .i64 y4) := (h2.bel.cell (show n < (w.alloc (.cells #[.int .i64 y1, .int .i64 y2, .int .i64 y3, .int .i64 y4, .int .i64 y5, .int .i64 y6, .int .i64 y7] 43)).heap.size by omega)).trans (cell_of_row _ _ _ _ _ _ Ba); have d4 : w2.cell? ⟨n, 4, none⟩ = some (.int .i64 y5) := (h2.bel.cell (show n < (w.alloc (.cells #[.int .i64 y1, .int .i64 y2, .int .i64 y3, .int .i64 y4, .int .i64 y5, .int .i64 y6, .int .i64 y7] 43)).heap.size by omega)).trans (cell_of_row _ _ _ _ _ _ Ba); have d5 : w2.cell? ⟨n, 5, none⟩ = some (.int .i64 y6) := (h2.bel.cell (show n < (w.alloc (.cells #[.int .i64 y1, .int .i64 y2, .int .i64 y3, .int .i64 y4, .int .i64 y5, .int .i64 y6, .int .i64 y7] 43)).heap.size by omega)).trans (cell_of_row _ _ _ _ _ _ Ba); have d6 : w2.cell? ⟨n, 6, none⟩ = some (.int .i64 y7) := (h2.bel.cell (show n < (w.alloc (.cells #[.int .i64 y1, .int .i64 y2, .int .i64 y3, .int .i64 y4, .int .i64 y5, .int .i64 y6, .int .i64 y7] 43)).heap.size by omega)).trans (cell_of_row _ _ _ _ _ _ Ba))
    | (go_at_call 23; refine (H.rWord y1 y2 y3 y4 y5 y6 y7 w2).mono ?_; rintro e w3 ⟨rfl, hw3⟩; rw [hv]; have hb3 : Below w2.heap.size w2 w3 := (by rw [hw3]; go_grown); have h3 := h2.below hb3; clear hw3 hb3)
    | (go_at_call 24; refine (H.rOf v hv64.1 hv64.2 w3).mono ?_; rintro e w4 ⟨rfl, hw4⟩; have hb4 : Below w3.heap.size w3 w4 := (by rw [hw4]; go_grown); have h4 := h3.below hb4; clear hw4 hb4; have h5 := h4.alloc (.cells #[.int .i64 (pS v), .int .i64 (pC v), .int .i64 (pN v), .int .i64 (pM v), .int .i64 (pG v), .int .i64 (pT v), .int .i64 (pL v)] 43); have B5 : Blk (w.alloc (.cells #[.int .i64 y1, .int .i64 y2, .int .i64 y3, .int .i64 y4, .int .i64 y5, .int .i64 y6, .int .i64 y7] 43)) (w4.alloc (.cells #[.int .i64 (pS v), .int .i64 (pC v), .int .i64 (pN v), .int .i64 (pM v), .int .i64 (pG v), .int .i64 (pT v), .int .i64 (pL v)] 43)) w4.heap.size 43 #[.int .i64 (pS v), .int .i64 (pC v), .int .i64 (pN v), .int .i64 (pM v), .int .i64 (pG v), .int .i64 (pT v), .int .i64 (pL v)] := Blk.new h4.bel.size _ (by decide))
    | (go_at_call 25; refine (hStore h5 (by decide) 96 hv64).mono ?_; rintro e w6 ⟨rfl, h6, o6⟩; rw [hs] at h6; have B6 := B5.oth o6 (by simp); obtain ⟨pW, hpW⟩ : ∃ p, w4.heap.size = p := ⟨_, rfl⟩; rw [hpW] at B6 ⊢; clear hpW h5 B5 o6 h4 h3 h2)
    | (go_at_call 12; refine (cKind _ k 2 hk hk' (by decide)).mono ?_; rintro e wk ⟨rfl, hwk⟩; rw [hwk, hm]; clear hwk wk)
    | (go_at_call 16; refine (cNewShade 96 m w6).mono ?_; rintro e w7 ⟨rfl, M⟩; have h7 := h6.below M.bel; have B7 := B6.below M.bel; have X0 := M.blk' h6.bel.size (by decide); have n1 := blk_ne B6 (Nat.le_refl _); obtain ⟨pX, hpX⟩ : ∃ p, w6.heap.size = p := ⟨_, rfl⟩; rw [hpX] at X0 n1 ⊢; clear hpX M B6 h6)
    | (go_at_call 10; refine (cNewNext w7).mono ?_; rintro e w8 ⟨rfl, hM⟩; have M := made_of hM; have h8 := h7.below M.bel; have B8 := B7.below M.bel; have X8 := X0.below M.bel; have N0 := M.blk' h7.bel.size (by decide); have n2 := blk_ne B7 (Nat.le_refl _); have n3 := blk_ne X0 (Nat.le_refl _); obtain ⟨pN_, hpN⟩ : ∃ p, w7.heap.size = p := ⟨_, rfl⟩; rw [hpN] at N0 n2 n3 ⊢; clear hpN M hM B7 X0 h7))
  obtain ⟨x1, x2, x3, x4, x5, s1, s2, s3, s4, s5, e1, e1', e2, e2', e3, e3', e4, e4', e5, e5', p1, p2, p3, p4, p5, l5, t5, a1, a2, a3⟩ := shade_alone gl I96 (by decide) (by decide) (show ¬ skips (s.word 96) m by rw [g96]; exact hq) gt
  rw [g1] at a1 a2
  rw [g96] at a2
  have a1' : t0 (s5.word 1) = 96 := by rw [a1]; decide
  obtain ⟨b1, b2, b3, b4, b5, b6, b7⟩ := Hd.of_bounds v
  have a4 : Hd.of (s5.word 96) = ((Hd.of v).shade m).link (t0 0) := by rw [a2]; exact Hd.of_w _ b1 b2 b3 hm2 (show (0 : Int) ≤ 1 ∧ (1 : Int) < 2 by decide) b6 (show (0 : Int) ≤ t0 0 ∧ t0 0 < 4096 by decide)
  obtain ⟨z1, z2, z3, z4, u1, u2, u3, u4, z1n, z1m, z2n, z2m, z3n, z3m, z4n, z4m, zp1, zp2, zp3, zp, zc, zk, l9, t9, f1, f2, f3⟩ := next_alone l5 a1' (by decide) (by decide) I96 t5
  have zk' : z4.count = pN v := by rw [zk]; exact (congrArg Hd.N a4)
  have gz : u4.got 96 = (((Hd.of v).shade m).link (t0 0)).plain.w := by rw [I96.got l9, f2, a4]
  have gO : Hd.of ((((Hd.of v).shade m).link (t0 0)).plain.w) = ((Hd.of v).shade m).plain := Hd.of_w _ b1 b2 b3 hm2 (show (0 : Int) ≤ 0 ∧ (0 : Int) < 2 by decide) b6 (show (0 : Int) ≤ 0 ∧ (0 : Int) < 4096 by decide)
  obtain ⟨vz, hvz⟩ : ∃ vz, (((Hd.of v).shade m).link (t0 0)).plain.w = vz := ⟨_, rfl⟩
  have vz64 : U64 vz := hvz ▸ Hd.u64 _
  rw [hvz] at gz gO
  have gS : pS vz = pS v := congrArg Hd.S gO
  have gC : pC vz = pC v := congrArg Hd.C gO
  have gN : pN vz = pN v := congrArg Hd.N gO
  have gM : pM vz = m := congrArg Hd.M gO
  have gG : pG vz = 0 := congrArg Hd.G gO
  have gT : pT vz = pT v := congrArg Hd.T gO
  have gL : pL vz = 0 := congrArg Hd.L gO
  clear a2 a4 f2 hvz gO f3 a3 a1 f1
  have ok0 := ShadeS.ok_new 96 m
  refine wp_loop_rounds 6 ?_
  rw [rounds_succ]
  go_wp2_with (go_at_call 18; refine (oShade h8 X8 ok0 (by decide)).mono ?_; rintro e wx0 ⟨rfl, Ha0, Xa0, Oa0⟩; rw [e1] at Xa0 ⊢; rw [e1'] at Ha0; rw [p1]; have oka0 := ok0.next h8.rng; rw [e1] at oka0; have Ba0 := B8.oth Oa0 (by simpa using n1); have Na0 := N0.oth Oa0 (by simpa using (Ne.symm n3)); clear Oa0 h8 X8 B8 N0 ok0)
  rw [rounds_succ]
  go_wp2_with (go_at_call 18; refine (oShade Ha0 Xa0 oka0 (by decide)).mono ?_; rintro e wx1 ⟨rfl, Ha1, Xa1, Oa1⟩; rw [e2] at Xa1 ⊢; rw [e2'] at Ha1; rw [p2]; have oka1 := oka0.next Ha0.rng; rw [e2] at oka1; have Ba1 := Ba0.oth Oa1 (by simpa using n1); have Na1 := Na0.oth Oa1 (by simpa using (Ne.symm n3)); clear Oa1 Ha0 Xa0 Ba0 Na0 oka0)
  rw [rounds_succ]
  go_wp2_with (go_at_call 18; refine (oShade Ha1 Xa1 oka1 (by decide)).mono ?_; rintro e wx2 ⟨rfl, Ha2, Xa2, Oa2⟩; rw [e3] at Xa2 ⊢; rw [e3'] at Ha2; rw [p3]; have oka2 := oka1.next Ha1.rng; rw [e3] at oka2; have Ba2 := Ba1.oth Oa2 (by simpa using n1); have Na2 := Na1.oth Oa2 (by simpa using (Ne.symm n3)); clear Oa2 Ha1 Xa1 Ba1 Na1 oka1)
  rw [rounds_succ]
  go_wp2_with (go_at_call 18; refine (oShade Ha2 Xa2 oka2 (by decide)).mono ?_; rintro e wx3 ⟨rfl, Ha3, Xa3, Oa3⟩; rw [e4] at Xa3 ⊢; rw [e4'] at Ha3; rw [p4]; have oka3 := oka2.next Ha2.rng; rw [e4] at oka3; have Ba3 := Ba2.oth Oa3 (by simpa using n1); have Na3 := Na2.oth Oa3 (by simpa using (Ne.symm n3)); clear Oa3 Ha2 Xa2 Ba2 Na2 oka2)
  rw [rounds_succ]
  go_wp2_with (go_at_call 18; refine (oShade Ha3 Xa3 oka3 (by decide)).mono ?_; rintro e wx4 ⟨rfl, Ha4, Xa4, Oa4⟩; rw [e5] at Xa4 ⊢; rw [e5'] at Ha4; rw [p5]; have oka4 := oka3.next Ha3.rng; rw [e5] at oka4; have Ba4 := Ba3.oth Oa4 (by simpa using n1); have Na4 := Na3.oth Oa4 (by simpa using (Ne.symm n3)); clear Oa4 Ha3 Xa3 Ba3 Na3 oka3)
  rw [rounds_succ]
  go_wp2
  have okn := NextS.ok_new
  refine wp_loop_rounds 5 ?_
  rw [rounds_succ]
  go_wp2_with (go_at_call 13; refine (oNext Ha4 Na4 okn (by decide)).mono ?_; rintro e wz0 ⟨rfl, Hb0, Nb0, Ob0⟩; rw [z1n] at Nb0 ⊢; rw [z1m] at Hb0; have okb0 := okn.next Ha4.rng; rw [z1n] at okb0; have Bb0 := Ba4.oth Ob0 (by simpa using n2); clear Ob0 Ha4 Na4 Ba4 okn)
  rw [rounds_succ]
  go_wp2_with (go_at_call 13; refine (oNext Hb0 Nb0 okb0 (by decide)).mono ?_; rintro e wz1 ⟨rfl, Hb1, Nb1, Ob1⟩; rw [z2n] at Nb1 ⊢; rw [z2m] at Hb1; have okb1 := okb0.next Hb0.rng; rw [z2n] at okb1; have Bb1 := Bb0.oth Ob1 (by simpa using n2); clear Ob1 Hb0 Nb0 Bb0 okb0)
  rw [rounds_succ]
  go_wp2_with (go_at_call 13; refine (oNext Hb1 Nb1 okb1 (by decide)).mono ?_; rintro e wz2 ⟨rfl, Hb2, Nb2, Ob2⟩; rw [z3n] at Nb2 ⊢; rw [z3m] at Hb2; have okb2 := okb1.next Hb1.rng; rw [z3n] at okb2; have Bb2 := Bb1.oth Ob2 (by simpa using n2); clear Ob2 Hb1 Nb1 Bb1 okb1)
  rw [rounds_succ]
  go_wp2_with (go_at_call 13; refine (oNext Hb2 Nb2 okb2 (by decide)).mono ?_; rintro e wz3 ⟨rfl, Hb3, Nb3, Ob3⟩; rw [z4n] at Nb3 ⊢; rw [z4m] at Hb3; have okb3 := okb2.next Hb2.rng; rw [z4n] at okb3; have Bb3 := Bb2.oth Ob3 (by simpa using n2); clear Ob3 Hb2 Nb2 Bb2 okb2)
  rw [rounds_succ]
  have eqh := eqHead (pS v) (pC v) (pN v) (m) (0) (pT v) (0)
  have c1 : pS v = 1 := Classical.byContradiction fun h => hq (Or.inl h)
  have c2 : pM v ≠ m := fun h => hq (Or.inr h)
  have q1 : (pS v != 1) = false := by simp [c1]
  have q2 : (pM v == m) = false := by simpa using c2
  clear c1 c2 hq
  go_wp2_with (first
    | (go_at_call 14; refine (oResult Nb3).mono ?_; rintro e wr ⟨rfl, hbr⟩; rw [zc, zk']; have Hr := Hb3.below hbr; have Br := Bb3.below hbr; clear hbr Hb3 Bb3)
    | (go_at_call 26; refine (hLoad Hr (by decide) 96).mono ?_; rintro e wl ⟨rfl, Hl, ol⟩; rw [gz]; have Bl := Br.oth ol (by simp); clear ol Hr Br)
    | (go_at_call 24; refine (H.rOf vz vz64.1 vz64.2 wl).mono ?_; rintro e wc ⟨rfl, hwc⟩; rw [gS, gC, gN, gM, gG, gT, gL]; have hbc : Below wl.heap.size wl wc := (by rw [hwc]; go_grown); have Hc := Hl.below hbc; have Bc := Bl.below hbc; clear hwc hbc; have Hd_ := Hc.alloc (.cells #[.int .i64 (pS v), .int .i64 (pC v), .int .i64 (pN v), .int .i64 (m), .int .i64 (0), .int .i64 (pT v), .int .i64 (0)] 43); have Bd := Bc.below ((Below.refl _ _).alloc (Nat.le_refl _) (.cells #[.int .i64 (pS v), .int .i64 (pC v), .int .i64 (pN v), .int .i64 (m), .int .i64 (0), .int .i64 (pT v), .int .i64 (0)] 43)); have Zd : Blk (w.alloc (.cells #[.int .i64 y1, .int .i64 y2, .int .i64 y3, .int .i64 y4, .int .i64 y5, .int .i64 y6, .int .i64 y7] 43)) (wc.alloc (.cells #[.int .i64 (pS v), .int .i64 (pC v), .int .i64 (pN v), .int .i64 (m), .int .i64 (0), .int .i64 (pT v), .int .i64 (0)] 43)) wc.heap.size 43 #[.int .i64 (pS v), .int .i64 (pC v), .int .i64 (pN v), .int .i64 (m), .int .i64 (0), .int .i64 (pT v), .int .i64 (0)] := Blk.new Hc.bel.size _ (by decide); have n9 := blk_ne Bc (Nat.le_refl _); have k0 : (wc.alloc (.cells #[.int .i64 (pS v), .int .i64 (pC v), .int .i64 (pN v), .int .i64 (m), .int .i64 (0), .int .i64 (pT v), .int .i64 (0)] 43)).cell? ⟨pW, 0, none⟩ = some (.int .i64 (pS v)) := Bd.cell 0; have kf0 := Bd.free 0; have j0 : (wc.alloc (.cells #[.int .i64 (pS v), .int .i64 (pC v), .int .i64 (pN v), .int .i64 (m), .int .i64 (0), .int .i64 (pT v), .int .i64 (0)] 43)).cell? ⟨wc.heap.size, 0, none⟩ = some (.int .i64 (pS v)) := Zd.cell 0; have k1 : (wc.alloc (.cells #[.int .i64 (pS v), .int .i64 (pC v), .int .i64 (pN v), .int .i64 (m), .int .i64 (0), .int .i64 (pT v), .int .i64 (0)] 43)).cell? ⟨pW, 1, none⟩ = some (.int .i64 (pC v)) := Bd.cell 1; have kf1 := Bd.free 1; have j1 : (wc.alloc (.cells #[.int .i64 (pS v), .int .i64 (pC v), .int .i64 (pN v), .int .i64 (m), .int .i64 (0), .int .i64 (pT v), .int .i64 (0)] 43)).cell? ⟨wc.heap.size, 1, none⟩ = some (.int .i64 (pC v)) := Zd.cell 1; have k2 : (wc.alloc (.cells #[.int .i64 (pS v), .int .i64 (pC v), .int .i64 (pN v), .int .i64 (m), .int .i64 (0), .int .i64 (pT v), .int .i64 (0)] 43)).cell? ⟨pW, 2, none⟩ = some (.int .i64 (pN v)) := Bd.cell 2; have kf2 := Bd.free 2; have j2 : (wc.alloc (.cells #[.int .i64 (pS v), .int .i64 (pC v), .int .i64 (pN v), .int .i64 (m), .int .i64 (0), .int .i64 (pT v), .int .i64 (0)] 43)).cell? ⟨wc.heap.size, 2, none⟩ = some (.int .i64 (pN v)) := Zd.cell 2; have k3 : (wc.alloc (.cells #[.int .i64 (pS v), .int .i64 (pC v), .int .i64 (pN v), .int .i64 (m), .int .i64 (0), .int .i64 (pT v), .int .i64 (0)] 43)).cell? ⟨pW, 3, none⟩ = some (.int .i64 (pM v)) := Bd.cell 3; have kf3 := Bd.free 3; have j3 : (wc.alloc (.cells #[.int .i64 (pS v), .int .i64 (pC v), .int .i64 (pN v), .int .i64 (m), .int .i64 (0), .int .i64 (pT v), .int .i64 (0)] 43)).cell? ⟨wc.heap.size, 3, none⟩ = some (.int .i64 (m)) := Zd.cell 3; have k4 : (wc.alloc (.cells #[.int .i64 (pS v), .int .i64 (pC v), .int .i64 (pN v), .int .i64 (m), .int .i64 (0), .int .i64 (pT v), .int .i64 (0)] 43)).cell? ⟨pW, 4, none⟩ = some (.int .i64 (pG v)) := Bd.cell 4; have kf4 := Bd.free 4; have j4 : (wc.alloc (.cells #[.int .i64 (pS v), .int .i64 (pC v), .int .i64 (pN v), .int .i64 (m), .int .i64 (0), .int .i64 (pT v), .int .i64 (0)] 43)).cell? ⟨wc.heap.size, 4, none⟩ = some (.int .i64 (0)) := Zd.cell 4; have k5 : (wc.alloc (.cells #[.int .i64 (pS v), .int .i64 (pC v), .int .i64 (pN v), .int .i64 (m), .int .i64 (0), .int .i64 (pT v), .int .i64 (0)] 43)).cell? ⟨pW, 5, none⟩ = some (.int .i64 (pT v)) := Bd.cell 5; have kf5 := Bd.free 5; have j5 : (wc.alloc (.cells #[.int .i64 (pS v), .int .i64 (pC v), .int .i64 (pN v), .int .i64 (m), .int .i64 (0), .int .i64 (pT v), .int .i64 (0)] 43)).cell? ⟨wc.heap.size, 5, none⟩ = some (.int .i64 (pT v)) := Zd.cell 5; have k6 : (wc.alloc (.cells #[.int .i64 (pS v), .int .i64 (pC v), .int .i64 (pN v), .int .i64 (m), .int .i64 (0), .int .i64 (pT v), .int .i64 (0)] 43)).cell? ⟨pW, 6, none⟩ = some (.int .i64 (pL v)) := Bd.cell 6; have kf6 := Bd.free 6; have j6 : (wc.alloc (.cells #[.int .i64 (pS v), .int .i64 (pC v), .int .i64 (pN v), .int .i64 (m), .int .i64 (0), .int .i64 (pT v), .int .i64 (0)] 43)).cell? ⟨wc.heap.size, 6, none⟩ = some (.int .i64 (0)) := Zd.cell 6))
  go_ret
  exact ⟨by simp, hbn.trans (((Hd_.set Bd 3 (.int .i64 m)).set (Bd.set 3 (.int .i64 m)) 4 (.int .i64 0)).set ((Bd.set 3 (.int .i64 m)).set 4 (.int .i64 0)) 6 (.int .i64 0) |>.bel.mono (by omega))⟩

theorem wGreyMarks (y1 y2 y3 y4 y5 y6 y7 k : Int) (hk : -9223372036854775808 ≤ k) (hk' : k ≤ 9223372036854775807) (w : World) (W : H.Wid w) :
    Calls Tryd.prog 5 #[.agg #[.int .i64 y1, .int .i64 y2, .int .i64 y3, .int .i64 y4, .int .i64 y5, .int .i64 y6, .int .i64 y7], .int .i64 k] w fun e w' => e = .returned (.bool true) ∧ Below w.heap.size w w' := by
  by_cases hq : skips (hw y1 y2 y3 y4 y5 y6 y7) (kd k 2)
  · exact wGreyMarksa y1 y2 y3 y4 y5 y6 y7 k hk hk' w W hq _ rfl
  · exact wGreyMarksb y1 y2 y3 y4 y5 y6 y7 k hk hk' w W hq _ rfl
end Go.Proofs.YtkgmfnllhjedpaaDoor

