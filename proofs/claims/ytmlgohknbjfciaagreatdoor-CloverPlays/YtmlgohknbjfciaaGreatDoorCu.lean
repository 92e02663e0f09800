/-
  An access in a law's hand: it is made, steps, and is told.
-/
import Derived.Test.YtmlgohknbjfciaaGreatDoorCd
namespace Go.Proofs.YtmlgohknbjfciaaGreatDoor
set_option linter.unusedVariables false
set_option linter.unusedSimpArgs false
set_option maxRecDepth 100000
open Go.ChangeShapes Go.WideShapes Go.RowKit
open H.Plain (hw pS pC pN pM pG pT pL mv)

/-- behind a step -/
structure To (ow : Bool) (w0 w w' : World) (b y p : Nat) (s1 s2 : St) (N : Nat) (a : Ax) : Prop where
  two : TwoT ow w0 w' b y s1 s2 N
  blk : Blk w0 w' p 112 a.cells
  oth : Oth [p] w w'
section
variable {ow : Bool} {w0 w w' : World} {b y p : Nat} {s1 s2 : St} {N : Nat} {a : Ax} {x : Sx}
theorem To.kept {N' : Nat} {s : St} {a' a'' : Ax} {w'' : World} (t : To ow w0 w w' b y p s s2 N' a') (K : Kept [p] w' w'') (B : Blk w0 w'' p 112 a''.cells) : To ow w0 w w'' b y p s s2 N' a'' := ⟨to_twoB t.two K t.blk, B, t.oth.trans (Oth.kept K)⟩
theorem To.below {N' : Nat} {s : St} {a' : Ax} {w'' : World} (t : To ow w0 w w' b y p s s2 N' a') (hb : Below w'.heap.size w' w'') : To ow w0 w w'' b y p s s2 N' a' := ⟨t.two.below hb, t.blk.below hb, t.oth.trans (Oth.below hb)⟩
set_option maxHeartbeats 4000000
theorem rh {Q : Ending → World → Prop} (h : TwoT ow w0 w b y s1 s2 N) (B : Blk w0 w p 112 a.cells) (hN : N + 5 < 1000000) {z q0 q1 q2 q3 q4 q5 q6 : Int} (hr : a.r.Ok2) (hal : a.al = nine) (hn : a.n = pn4) (hz : s1.got a.r.at_ = z) (e0 : pS z = q0) (e1 : pC z = q1) (e2 : pN z = q2) (e3 : pM z = q3) (e4 : pG z = q4) (e5 : pT z = q5) (e6 : pL z = q6) (ke : Hid (q2 ≤ a.r.fd → ∀ w', To ow w0 w w' b y p (s1.load a.r.at_) s2 (N + 1) ({ a with o := ⟨15, Vl.zero, false⟩, pc := 0 } : Ax) → Q (.returned (.tuple #[])) w')) (km : Hid (a.r.fd < q2 → q5 = 2 → ∀ w' vd, To ow w0 w w' b y p (s1.load a.r.at_) s2 (N + 1) ({ a with pc := 6, d := Sx.new (q6 + 1 + a.r.fd) a.r a.h, vd := vd } : Ax) → RepO w' (Sx.new (q6 + 1 + a.r.fd) a.r a.h).k vd → Q (.returned (.tuple #[])) w')) (kc : Hid (a.r.fd < q2 → q5 = 4 → ∀ w', To ow w0 w w' b y p (s1.load a.r.at_) s2 (N + 1) ({ a with l := q6, pc := 3 } : Ax) → Q (.returned (.tuple #[])) w')) (ks : Hid (a.r.fd < q2 → q5 ≠ 2 → q5 ≠ 4 → (q5 = 5 ∨ ¬ lays a.r) → ∀ w' vd, To ow w0 w w' b y p (s1.load a.r.at_) s2 (N + 1) ({ a with pc := 6, d := Sx.new (a.r.at_ + 1 + a.r.fd) a.r a.h, vd := vd } : Ax) → RepO w' (Sx.new (a.r.at_ + 1 + a.r.fd) a.r a.h).k vd → Q (.returned (.tuple #[])) w')) (kb : Hid (a.r.fd < q2 → q5 ≠ 2 → q5 ≠ 4 → q5 ≠ 5 → lays a.r → ∀ w', To ow w0 w w' b y p (s1.load a.r.at_) s2 (N + 1) ({ a with pc := 2 } : Ax) → Q (.returned (.tuple #[])) w')) :
    Calls Tryz.prog 44 #[pt p, pt b] w fun e w' => Q e w' := by
  have hU : U64 z := hz ▸ h.rng1.got _
  have t0 : decide (a.r.fd < 0) = false := by have := hr.2.2.2.1; simpa using this
  have l0 := in12_pL z
  rw [e6] at l0
  have c6 : w.cell? ⟨p, 6, none⟩ = some (.int .i64 a.r.at_) := B.cell 6
  go_enter Tryz.func44, Tryz.ntmps44
  go_upto_region 2 with (first
    | (go_at_call 31; refine (tLoad h (by omega) a.r.at_).mono ?_; rintro e w3 ⟨rfl, h3, o3⟩; rw [hz]; have b3 := B.oth o3 (by simp); have o3' : Oth [p] w w3 := o3.mono (by simp); clear o3)
    | (go_at_call 68; refine (H.cOf z hU.1 hU.2 _ h3.widw).mono ?_; rintro e w5 ⟨rfl, hw5⟩; rw [e0, e1, e2, e3, e4, e5, e6] at hw5 ⊢; have hb5 : Below w3.heap.size w3 w5 := (by rw [hw5]; go_grown); have b5 := b3.below hb5; have h5 := h3.below hb5; have o5 := o3'.trans (Oth.below hb5); clear hw5 hb5 b3 h3 o3'))
  have a6 : Below w5.heap.size w5 (w5.alloc (.cells #[.int .i64 q0, .int .i64 q1, .int .i64 q2, .int .i64 q3, .int .i64 q4, .int .i64 q5, .int .i64 q6] 40)) := (Below.refl _ _).alloc (Nat.le_refl _) _
  have b6 := b5.below a6
  have h6 := h5.below a6
  have o6 := o5.trans (Oth.below a6)
  have H6 : Blk w0 (w5.alloc (.cells #[.int .i64 q0, .int .i64 q1, .int .i64 q2, .int .i64 q3, .int .i64 q4, .int .i64 q5, .int .i64 q6] 40)) w5.heap.size 40 #[.int .i64 q0, .int .i64 q1, .int .i64 q2, .int .i64 q3, .int .i64 q4, .int .i64 q5, .int .i64 q6] := Blk.new h5.bel.size _ (by decide)
  generalize w5.alloc (.cells #[.int .i64 q0, .int .i64 q1, .int .i64 q2, .int .i64 q3, .int .i64 q4, .int .i64 q5, .int .i64 q6] 40) = w6 at b6 h6 o6 H6 ⊢
  generalize w5.heap.size = hb at H6 ⊢
  clear a6 b5 h5 o5 c6
  have k2 : w6.cell? ⟨hb, 2, none⟩ = some (.int .i64 q2) := H6.cell 2
  have c7 : w6.cell? ⟨p, 7, none⟩ = some (.int .i64 a.r.fd) := b6.cell 7
  have lh := H6.lt
  by_cases hN1 : q2 ≤ a.r.fd
  · have t1 : decide (q2 ≤ a.r.fd) = true := by simpa using hN1
    go_quiet (fail)
    have hq := S.bdr (Below.refl w6.heap.size w6) nq
    have t7 : To ow w0 w (w6.drewN nq) b y p (s1.load a.r.at_) s2 (N + 1) a := ⟨h6.below hq, b6.below hq, o6.trans (Oth.below hq)⟩
    have H7 := H6.below hq
    generalize w6.drewN nq = w7 at t7 H7 ⊢
    clear hq k2 c7 lh H6 b6 h6 o6
    have b7 := t7.blk
    go_wp2_with (go_at_call 64; refine (cEnd b7 ⟨15, Vl.zero, false⟩).mono ?_; rintro e w8 ⟨rfl, K8, b8⟩)
    go_end0
    exact ke.out hN1 _ (t7.kept K8 b8)
  · have t1 : decide (q2 ≤ a.r.fd) = false := by simpa using hN1
    go_quiet (fail)
    have hq := S.bdr (Below.refl w6.heap.size w6) nq
    have t7 : To ow w0 w (w6.drewN nq) b y p (s1.load a.r.at_) s2 (N + 1) a := ⟨h6.below hq, b6.below hq, o6.trans (Oth.below hq)⟩
    have H7 := H6.below hq
    generalize w6.drewN nq = w7 at t7 H7 ⊢
    clear hq k2 c7 lh H6 b6 h6 o6
    have b7 := t7.blk
    have k5 : w7.cell? ⟨hb, 5, none⟩ = some (.int .i64 q5) := H7.cell 5
    have k6 : w7.cell? ⟨hb, 6, none⟩ = some (.int .i64 q6) := H7.cell 6
    have lh := H7.lt
    have c6 : w7.cell? ⟨p, 6, none⟩ = some (.int .i64 a.r.at_) := b7.cell 6
    have c19 : w7.cell? ⟨p, 19, none⟩ = some (stFn a.pc) := b7.cell 19
    have f19 := b7.free 19
    have c20 : w7.cell? ⟨p, 20, none⟩ = some (.int .i64 a.l) := b7.cell 20
    have f20 := b7.free 20
    by_cases hT : q5 = 2
    · have t2 : (q5 == 2) = true := by simp [hT]
      go_wp2_with (first
        | (go_at_call 71; refine (cEnter b7 hr.1 hr.2.2.2.1 hr.2.2.2.2 l0.1 l0.2).mono ?_; rintro e w8 ⟨rfl, K8, vd, b8, R8⟩))
      go_end0
      exact km.out (by omega) hT _ vd (t7.kept K8 b8) R8
    · have t2 : (q5 == 2) = false := by simpa using hT
      by_cases hT2 : q5 = 4
      · have t3 : (q5 == 4) = true := by simp [hT2]
        go_wp2
        go_end0
        exact kc.out (by omega) hT2 _ (t7.kept ((Kept.setCell [p] _ _ _ (by simp)).tr (Kept.setCell [p] _ _ _ (by simp))) ((b7.s_l q6).s_pc 3))
      · have t3 : (q5 == 4) = false := by simpa using hT2
        by_cases hT3 : q5 = 5
        · have t4 : (q5 != 5) = false := by simp [hT3]
          go_wp2_with (first
            | (go_at_call 71; refine (cEnter b7 hr.1 hr.2.2.2.1 hr.2.2.2.2 (by have := hr.2.1; omega) (by have := hr.2.2.1; omega)).mono ?_; rintro e w8 ⟨rfl, K8, vd, b8, R8⟩))
          go_end0
          exact ks.out (by omega) hT hT2 (.inl hT3) _ vd (t7.kept K8 b8) R8
        · have t4 : (q5 != 5) = true := by simpa using hT3
          rcases hla : decide (lays a.r) with _ | _
          · go_wp2_with (first
              | (go_at_call 71; refine (cEnter bl hr.1 hr.2.2.2.1 hr.2.2.2.2 (by have := hr.2.1; omega) (by have := hr.2.2.1; omega)).mono ?_; rintro e w8 ⟨rfl, K8, vd, b8, R8⟩)
              | (go_at_call 73; refine (cLays b7 hr.1 hal hla).mono ?_; rintro e wl ⟨rfl, hbl⟩; have tl := t7.below hbl; have bl := tl.blk; have d6 : wl.cell? ⟨p, 6, none⟩ = some (.int .i64 a.r.at_) := bl.cell 6; have d19 : wl.cell? ⟨p, 19, none⟩ = some (stFn a.pc) := bl.cell 19; have df19 := bl.free 19))
            go_end0
            exact ks.out (by omega) hT hT2 (.inr (of_decide_eq_false hla)) _ vd (tl.kept K8 b8) R8
          · go_wp2_with (first
              | (go_at_call 73; refine (cLays b7 hr.1 hal hla).mono ?_; rintro e wl ⟨rfl, hbl⟩; have tl := t7.below hbl; have bl := tl.blk; have d6 : wl.cell? ⟨p, 6, none⟩ = some (.int .i64 a.r.at_) := bl.cell 6; have d19 : wl.cell? ⟨p, 19, none⟩ = some (stFn a.pc) := bl.cell 19; have df19 := bl.free 19)
              | (go_at_call 74; refine (cBlockX bl hn hr.2.1 hr.2.2.1).mono ?_; rintro e wk ⟨rfl, hbk⟩; have tk := tl.below hbk; have bk := tk.blk; have g6 : wk.cell? ⟨p, 6, none⟩ = some (.int .i64 a.r.at_) := bk.cell 6; have g19 : wk.cell? ⟨p, 19, none⟩ = some (stFn a.pc) := bk.cell 19; have gf19 := bk.free 19))
            go_end0
            exact kb.out (by omega) hT hT2 hT3 (of_decide_eq_true hla) _ (tk.kept (Kept.setCell [p] _ _ _ (by simp)) (bk.s_pc 2))
theorem b4z {W : World} {hb : Nat} (G : Blk w0 W hb 93 #[.int .i64 0, .int .i64 0, .int .i64 0, .int .i64 0]) : W.cell? ⟨hb, 0, none⟩ = some (.int .i64 0) ∧ W.cell? ⟨hb, 1, none⟩ = some (.int .i64 0) ∧ W.cell? ⟨hb, 2, none⟩ = some (.int .i64 0) ∧ W.cell? ⟨hb, 3, none⟩ = some (.int .i64 0) := ⟨G.cell 0, G.cell 1, G.cell 2, G.cell 3⟩
theorem b4st {W : World} {hb N' : Nat} {s : St} {a' : Ax} (t : To ow w0 w W b y p s s2 N' a') (G : Blk w0 W hb 93 #[.int .i64 0, .int .i64 0, .int .i64 0, .int .i64 0]) (hnb : w.heap.size ≤ hb) (q0 q1 q2 q3 : Int) : To ow w0 w ((((W.setCell ⟨hb, 0, none⟩ (.int .i64 q0)).setCell ⟨hb, 1, none⟩ (.int .i64 q1)).setCell ⟨hb, 2, none⟩ (.int .i64 q2)).setCell ⟨hb, 3, none⟩ (.int .i64 q3)) b y p s s2 N' a' ∧ Blk w0 ((((W.setCell ⟨hb, 0, none⟩ (.int .i64 q0)).setCell ⟨hb, 1, none⟩ (.int .i64 q1)).setCell ⟨hb, 2, none⟩ (.int .i64 q2)).setCell ⟨hb, 3, none⟩ (.int .i64 q3)) hb 93 #[.int .i64 q0, .int .i64 q1, .int .i64 q2, .int .i64 q3] := by
  have K6 : Kept [hb] W ((((W.setCell ⟨hb, 0, none⟩ (.int .i64 q0)).setCell ⟨hb, 1, none⟩ (.int .i64 q1)).setCell ⟨hb, 2, none⟩ (.int .i64 q2)).setCell ⟨hb, 3, none⟩ (.int .i64 q3)) := (((Kept.setCell [hb] _ _ _ (by simp)).tr (Kept.setCell [hb] _ _ _ (by simp))).tr (Kept.setCell [hb] _ _ _ (by simp))).tr (Kept.setCell [hb] _ _ _ (by simp))
  have o6 : Oth [hb, p] w ((((W.setCell ⟨hb, 0, none⟩ (.int .i64 q0)).setCell ⟨hb, 1, none⟩ (.int .i64 q1)).setCell ⟨hb, 2, none⟩ (.int .i64 q2)).setCell ⟨hb, 3, none⟩ (.int .i64 q3)) := (t.oth.mono (by simp)).trans ((Oth.kept K6).mono (by simp))
  exact ⟨⟨to_twoB t.two K6 G, t.blk.oth (Oth.kept K6) (by simpa using t.blk.ne G (by decide)), o6.drop hnb⟩, (((G.set 0 (.int .i64 q0)).set 1 (.int .i64 q1)).set 2 (.int .i64 q2)).set 3 (.int .i64 q3)⟩
theorem rb {Q : Ending → World → Prop} (h : TwoT ow w0 w b y s1 s2 N) (B : Blk w0 w p 112 a.cells) (hN : N + 5 < 1000000) {z q0 q1 q2 q3 : Int} (hr : a.r.Ok2) (hn : a.n = pn4) (hz : s1.got 16 = z) (e0 : S.Plain.b0 z = q0) (e1 : S.Plain.b1 z = q1) (e2 : S.Plain.b2 z = q2) (e3 : S.Plain.b3 z = q3) (ky : Hid (q0 = 2 → ∀ w', To ow w0 w w' b y p (s1.load 16) s2 (N + 1) ({ a with o := ⟨3, Vl.zero, false⟩, pc := 0 } : Ax) → Q (.returned (.tuple #[])) w')) (kn : Hid (q0 ≠ 2 → ∀ w' vd, To ow w0 w w' b y p (s1.load 16) s2 (N + 1) ({ a with pc := 6, d := Sx.new (a.r.at_ + 1 + a.r.fd) a.r a.h, vd := vd } : Ax) → RepO w' (Sx.new (a.r.at_ + 1 + a.r.fd) a.r a.h).k vd → Q (.returned (.tuple #[])) w')) :
    Calls Tryz.prog 75 #[pt p, pt b] w fun e w' => Q e w' := by
  have hU : U64 z := hz ▸ h.rng1.got _
  go_enter Tryz.func75, Tryz.ntmps75
  have hbd : Below w.heap.size w w.drew := (Below.refl _ _).drew
  have t0 : To ow w0 w w.drew b y p s1 s2 N a := ⟨h.below hbd, B.below hbd, Oth.below hbd⟩
  go_upto_region 0 with (fail)
  refine wp_region_noPanic ?_
  refine wp_region_held_drew (S := fun w' => w'.cell? ⟨p, 0, none⟩ = some (.int .i64 4) ∧ w'.cell? ⟨p, 1, none⟩ = some (.int .i64 4) ∧ w'.cell? ⟨p, 2, none⟩ = some (.int .i64 14) ∧ w'.cell? ⟨p, 3, none⟩ = some (.int .i64 32) ∧ w'.cell? ⟨p, 4, none⟩ = some (.int .i64 160) ∧ w'.cell? ⟨p, 6, none⟩ = some (.int .i64 a.r.at_)) (by kernel_rfl) (pl_cells t0.blk hn) (fun hHeld => ?_)
  refine tkH (i := 0) 5 (pt b) rfl rfl ?_
  simp only [sA1, sA2, sA3]
  refine tkH (i := 1) 6 (pt p) rfl rfl ?_
  simp only [sA1, sA2, sA3]
  refine tkH (i := 2) 7 (pt p) rfl rfl ?_
  simp only [sA1, sA2, sA3]
  refine tkH (i := 3) 8 (pt p) rfl rfl ?_
  simp only [sA1, sA2, sA3]
  refine tkH (i := 4) 9 (.agg #[.int .i64 4, .int .i64 4, .int .i64 14, .int .i64 32, .int .i64 160]) rfl rfl ?_
  simp only [sA1, sA2, sA3]
  refine tkH (i := 5) 10 (pt p) rfl rfl ?_
  simp only [sA1, sA2, sA3]
  refine rd2 6 10 rfl rfl (fun K hK => ?_) (fun K hK => ?_)
  · go_simp
    refine (cBlockX t0.blk hn hr.2.1 hr.2.2.1).mono ?_
    rintro e W1 ⟨rfl, hb0⟩
    have t1 := t0.below hb0
    refine hK.out _ _ (pl_cells t1.blk hn) (fun hHeld => ?_)
    clear hK K
    try simp only [Act.put, sA1, sA2, sA3]
    refine rd2 7 10 rfl rfl (fun K hK => ?_) (fun K hK => ?_)
    · go_simp
      refine (P.cEntry 4 4 14 32 160 2 (by decide) (by decide) (by decide) (by decide) _).mono ?_
      rintro e W2 ⟨rfl, hw1⟩
      rw [show ((14 : Int) + 2) = 16 from rfl]
      have hb1 : Below W1.heap.size W1 W2 := (by rw [hw1]; exact (Below.refl _ _).alloc (Nat.le_refl _) _)
      have t2 := t1.below hb1
      clear hw1
      refine hK.out _ _ (pl_cells t2.blk hn) (fun hHeld => ?_)
      clear hK K
      try simp only [Act.put, sA1, sA2, sA3]
      refine rd2 8 10 rfl rfl (fun K hK => ?_) (fun K hK => ?_)
      · go_simp
        refine (tLoad t2.two (by omega) 16).mono ?_
        rintro e W3 ⟨rfl, h4, o4⟩
        rw [hz]
        have t3 : To ow w0 w W3 b y p (s1.load 16) s2 (N + 1) a := ⟨h4, t2.blk.oth o4 (by simp), t2.oth.trans (o4.mono (by simp))⟩
        refine hK.out _ _ (pl_cells t3.blk hn) (fun hHeld => ?_)
        clear hK K
        try simp only [Act.put, sA1, sA2, sA3]
        refine rd2 9 10 rfl rfl (fun K hK => ?_) (fun K hK => ?_)
        · go_simp
          refine (S.cOfBlock z hU.1 hU.2 _).mono ?_
          rintro e W4 ⟨rfl, hw3⟩
          rw [e0, e1, e2, e3] at hw3 ⊢
          have hb3 : Below W3.heap.size W3 W4 := (by rw [hw3]; exact (Below.refl _ _).alloc (Nat.le_refl _) _)
          have t4 := t3.below hb3
          clear hw3
          refine hK.out _ _ (pl_cells t4.blk hn) (fun hHeld => ?_)
          clear hK K
          try simp only [Act.put, sA1, sA2, sA3]
          refine rd1 10 rfl fun K hK => ?_
          go_simp
          refine hK.out _ _ (pl_cells (t4.blk.below ((Below.refl _ _).alloc (Nat.le_refl _) _)) hn) (fun hHeld => ?_)
          clear hK K
          try simp only [Act.put, sA1, sA2, sA3]
          have aa : Below W4.heap.size W4 (W4.alloc (.cells #[.int .i64 0, .int .i64 0, .int .i64 0, .int .i64 0] 93)) := (Below.refl _ _).alloc (Nat.le_refl _) _
          have tz := t4.below aa
          have Hz : Blk w0 (W4.alloc (.cells #[.int .i64 0, .int .i64 0, .int .i64 0, .int .i64 0] 93)) W4.heap.size 93 #[.int .i64 0, .int .i64 0, .int .i64 0, .int .i64 0] := Blk.new t4.two.bel.size _ (by decide)
          have hnb : w.heap.size ≤ W4.heap.size := t4.oth.size
          clear aa
          generalize W4.alloc (.cells #[.int .i64 0, .int .i64 0, .int .i64 0, .int .i64 0] 93) = Wz at tz Hz hHeld ⊢
          generalize W4.heap.size = hb at Hz hnb ⊢
          clear t4
          have t4 := tz
          have H4 := Hz
          clear tz Hz
          obtain ⟨z0, z1, z2, z3⟩ := b4z H4
          have zf : ∀ i, Wz.frozen? ⟨hb, i, none⟩ = false := fun i => H4.free i
          obtain ⟨t7, H7⟩ := b4st t4 H4 hnb q0 q1 q2 q3
          refine rd1 11 rfl fun K hK => ?_
          go_simp
          refine hK.out _ _ (pl_cells t7.blk hn) (fun hHeld => ?_)
          clear hK K
          try simp only [Act.put, sA1, sA2, sA3]
          clear z0 z1 z2 z3 zf
          generalize (((Wz.setCell ⟨hb, 0, none⟩ (.int .i64 q0)).setCell ⟨hb, 1, none⟩ (.int .i64 q1)).setCell ⟨hb, 2, none⟩ (.int .i64 q2)).setCell ⟨hb, 3, none⟩ (.int .i64 q3) = w7 at t7 H7 hHeld ⊢
          refine wpAnyH_done (by kernel_rfl) ?_ _
          refine NoPanic.normal ?_
          have b7 := t7.blk
          have k0 : w7.cell? ⟨hb, 0, none⟩ = some (.int .i64 q0) := H7.cell 0
          have lh := H7.lt
          have c6 : w7.cell? ⟨p, 6, none⟩ = some (.int .i64 a.r.at_) := b7.cell 6
          by_cases hS : q0 = 2
          · have q5 : (q0 == 2) = true := by simp [hS]
            go_wp2_with (go_at_call 64; refine (cEnd b7 ⟨3, ⟨0, 0⟩, false⟩).mono ?_; rintro e w8 ⟨rfl, K8, b8⟩)
            exact bodyPost_ret (v := .tuple #[]) (by simp [results, Tryz.results75, go_sem]) rfl (ky.out hS _ (t7.kept K8 b8))
          · have q5 : (q0 == 2) = false := by simpa using hS
            go_wp2_with (first
              | (go_at_call 71; refine (cEnter b7 hr.1 hr.2.2.2.1 hr.2.2.2.2 (by have := hr.2.1; omega) (by have := hr.2.2.1; omega)).mono ?_; rintro e w8 ⟨rfl, K8, vd, b8, R8⟩))
            go_end0
            exact kn.out hS _ vd (t7.kept K8 b8) R8
        · go_simp
          refine hK.out _ _ (pl_cells (t3.blk.below ((Below.refl _ _).alloc (Nat.le_refl _) _)) hn) (fun hHeld => ?_)
          clear hK K
          try simp only [Act.put, sA1, sA2, sA3]
          have aa : Below W3.heap.size W3 (W3.alloc (.cells #[.int .i64 0, .int .i64 0, .int .i64 0, .int .i64 0] 93)) := (Below.refl _ _).alloc (Nat.le_refl _) _
          have tz := t3.below aa
          have Hz : Blk w0 (W3.alloc (.cells #[.int .i64 0, .int .i64 0, .int .i64 0, .int .i64 0] 93)) W3.heap.size 93 #[.int .i64 0, .int .i64 0, .int .i64 0, .int .i64 0] := Blk.new t3.two.bel.size _ (by decide)
          have hnb : w.heap.size ≤ W3.heap.size := t3.oth.size
          clear aa
          generalize W3.alloc (.cells #[.int .i64 0, .int .i64 0, .int .i64 0, .int .i64 0] 93) = Wz at tz Hz hHeld ⊢
          generalize W3.heap.size = hb at Hz hnb ⊢
          clear t3
          have t3 := tz
          have H3 := Hz
          clear tz Hz
          refine rd1 9 rfl fun K hK => ?_
          go_simp
          refine (S.cOfBlock z hU.1 hU.2 _).mono ?_
          rintro e W4 ⟨rfl, hw3⟩
          rw [e0, e1, e2, e3] at hw3 ⊢
          have hb3 : Below Wz.heap.size Wz W4 := (by rw [hw3]; exact (Below.refl _ _).alloc (Nat.le_refl _) _)
          have t4 := t3.below hb3
          clear hw3
          have H4 := H3.below hb3
          refine hK.out _ _ (pl_cells t4.blk hn) (fun hHeld => ?_)
          clear hK K
          try simp only [Act.put, sA1, sA2, sA3]
          obtain ⟨z0, z1, z2, z3⟩ := b4z H4
          have zf : ∀ i, W4.frozen? ⟨hb, i, none⟩ = false := fun i => H4.free i
          obtain ⟨t7, H7⟩ := b4st t4 H4 hnb q0 q1 q2 q3
          refine rd1 11 rfl fun K hK => ?_
          go_simp
          refine hK.out _ _ (pl_cells t7.blk hn) (fun hHeld => ?_)
          clear hK K
          try simp only [Act.put, sA1, sA2, sA3]
          clear z0 z1 z2 z3 zf
          generalize (((W4.setCell ⟨hb, 0, none⟩ (.int .i64 q0)).setCell ⟨hb, 1, none⟩ (.int .i64 q1)).setCell ⟨hb, 2, none⟩ (.int .i64 q2)).setCell ⟨hb, 3, none⟩ (.int .i64 q3) = w7 at t7 H7 hHeld ⊢
          refine wpAnyH_done (by kernel_rfl) ?_ _
          refine NoPanic.normal ?_
          have b7 := t7.blk
          have k0 : w7.cell? ⟨hb, 0, none⟩ = some (.int .i64 q0) := H7.cell 0
          have lh := H7.lt
          have c6 : w7.cell? ⟨p, 6, none⟩ = some (.int .i64 a.r.at_) := b7.cell 6
          by_cases hS : q0 = 2
          · have q5 : (q0 == 2) = true := by simp [hS]
            go_wp2_with (go_at_call 64; refine (cEnd b7 ⟨3, ⟨0, 0⟩, false⟩).mono ?_; rintro e w8 ⟨rfl, K8, b8⟩)
            exact bodyPost_ret (v := .tuple #[]) (by simp [results, Tryz.results75, go_sem]) rfl (ky.out hS _ (t7.kept K8 b8))
          · have q5 : (q0 == 2) = false := by simpa using hS
            go_wp2_with (first
              | (go_at_call 71; refine (cEnter b7 hr.1 hr.2.2.2.1 hr.2.2.2.2 (by have := hr.2.1; omega) (by have := hr.2.2.1; omega)).mono ?_; rintro e w8 ⟨rfl, K8, vd, b8, R8⟩))
            go_end0
            exact kn.out hS _ vd (t7.kept K8 b8) R8
      · go_simp
        refine hK.out _ _ (pl_cells (t2.blk.below ((Below.refl _ _).alloc (Nat.le_refl _) _)) hn) (fun hHeld => ?_)
        clear hK K
        try simp only [Act.put, sA1, sA2, sA3]
        have aa : Below W2.heap.size W2 (W2.alloc (.cells #[.int .i64 0, .int .i64 0, .int .i64 0, .int .i64 0] 93)) := (Below.refl _ _).alloc (Nat.le_refl _) _
        have tz := t2.below aa
        have Hz : Blk w0 (W2.alloc (.cells #[.int .i64 0, .int .i64 0, .int .i64 0, .int .i64 0] 93)) W2.heap.size 93 #[.int .i64 0, .int .i64 0, .int .i64 0, .int .i64 0] := Blk.new t2.two.bel.size _ (by decide)
        have hnb : w.heap.size ≤ W2.heap.size := t2.oth.size
        clear aa
        generalize W2.alloc (.cells #[.int .i64 0, .int .i64 0, .int .i64 0, .int .i64 0] 93) = Wz at tz Hz hHeld ⊢
        generalize W2.heap.size = hb at Hz hnb ⊢
        clear t2
        have t2 := tz
        have H2 := Hz
        clear tz Hz
        refine rd1 8 rfl fun K hK => ?_
        go_simp
        refine (tLoad t2.two (by omega) 16).mono ?_
        rintro e W3 ⟨rfl, h4, o4⟩
        rw [hz]
        have t3 : To ow w0 w W3 b y p (s1.load 16) s2 (N + 1) a := ⟨h4, t2.blk.oth o4 (by simp), t2.oth.trans (o4.mono (by simp))⟩
        have H3 := H2.oth o4 (by simp)
        refine hK.out _ _ (pl_cells t3.blk hn) (fun hHeld => ?_)
        clear hK K
        try simp only [Act.put, sA1, sA2, sA3]
        refine rd1 9 rfl fun K hK => ?_
        go_simp
        refine (S.cOfBlock z hU.1 hU.2 _).mono ?_
        rintro e W4 ⟨rfl, hw3⟩
        rw [e0, e1, e2, e3] at hw3 ⊢
        have hb3 : Below W3.heap.size W3 W4 := (by rw [hw3]; exact (Below.refl _ _).alloc (Nat.le_refl _) _)
        have t4 := t3.below hb3
        clear hw3
        have H4 := H3.below hb3
        refine hK.out _ _ (pl_cells t4.blk hn) (fun hHeld => ?_)
        clear hK K
        try simp only [Act.put, sA1, sA2, sA3]
        obtain ⟨z0, z1, z2, z3⟩ := b4z H4
        have zf : ∀ i, W4.frozen? ⟨hb, i, none⟩ = false := fun i => H4.free i
        obtain ⟨t7, H7⟩ := b4st t4 H4 hnb q0 q1 q2 q3
        refine rd1 11 rfl fun K hK => ?_
        go_simp
        refine hK.out _ _ (pl_cells t7.blk hn) (fun hHeld => ?_)
        clear hK K
        try simp only [Act.put, sA1, sA2, sA3]
        clear z0 z1 z2 z3 zf
        generalize (((W4.setCell ⟨hb, 0, none⟩ (.int .i64 q0)).setCell ⟨hb, 1, none⟩ (.int .i64 q1)).setCell ⟨hb, 2, none⟩ (.int .i64 q2)).setCell ⟨hb, 3, none⟩ (.int .i64 q3) = w7 at t7 H7 hHeld ⊢
        refine wpAnyH_done (by kernel_rfl) ?_ _
        refine NoPanic.normal ?_
        have b7 := t7.blk
        have k0 : w7.cell? ⟨hb, 0, none⟩ = some (.int .i64 q0) := H7.cell 0
        have lh := H7.lt
        have c6 : w7.cell? ⟨p, 6, none⟩ = some (.int .i64 a.r.at_) := b7.cell 6
        by_cases hS : q0 = 2
        · have q5 : (q0 == 2) = true := by simp [hS]
          go_wp2_with (go_at_call 64; refine (cEnd b7 ⟨3, ⟨0, 0⟩, false⟩).mono ?_; rintro e w8 ⟨rfl, K8, b8⟩)
          exact bodyPost_ret (v := .tuple #[]) (by simp [results, Tryz.results75, go_sem]) rfl (ky.out hS _ (t7.kept K8 b8))
        · have q5 : (q0 == 2) = false := by simpa using hS
          go_wp2_with (first
            | (go_at_call 71; refine (cEnter b7 hr.1 hr.2.2.2.1 hr.2.2.2.2 (by have := hr.2.1; omega) (by have := hr.2.2.1; omega)).mono ?_; rintro e w8 ⟨rfl, K8, vd, b8, R8⟩))
          go_end0
          exact kn.out hS _ vd (t7.kept K8 b8) R8
    · go_simp
      refine hK.out _ _ (pl_cells (t1.blk.below ((Below.refl _ _).alloc (Nat.le_refl _) _)) hn) (fun hHeld => ?_)
      clear hK K
      try simp only [Act.put, sA1, sA2, sA3]
      have aa : Below W1.heap.size W1 (W1.alloc (.cells #[.int .i64 0, .int .i64 0, .int .i64 0, .int .i64 0] 93)) := (Below.refl _ _).alloc (Nat.le_refl _) _
      have tz := t1.below aa
      have Hz : Blk w0 (W1.alloc (.cells #[.int .i64 0, .int .i64 0, .int .i64 0, .int .i64 0] 93)) W1.heap.size 93 #[.int .i64 0, .int .i64 0, .int .i64 0, .int .i64 0] := Blk.new t1.two.bel.size _ (by decide)
      have hnb : w.heap.size ≤ W1.heap.size := t1.oth.size
      clear aa
      generalize W1.alloc (.cells #[.int .i64 0, .int .i64 0, .int .i64 0, .int .i64 0] 93) = Wz at tz Hz hHeld ⊢
      generalize W1.heap.size = hb at Hz hnb ⊢
      clear t1
      have t1 := tz
      have H1 := Hz
      clear tz Hz
      refine rd1 7 rfl fun K hK => ?_
      go_simp
      refine (P.cEntry 4 4 14 32 160 2 (by decide) (by decide) (by decide) (by decide) _).mono ?_
      rintro e W2 ⟨rfl, hw1⟩
      rw [show ((14 : Int) + 2) = 16 from rfl]
      have hb1 : Below Wz.heap.size Wz W2 := (by rw [hw1]; exact (Below.refl _ _).alloc (Nat.le_refl _) _)
      have t2 := t1.below hb1
      clear hw1
      have H2 := H1.below hb1
      refine hK.out _ _ (pl_cells t2.blk hn) (fun hHeld => ?_)
      clear hK K
      try simp only [Act.put, sA1, sA2, sA3]
      refine rd1 8 rfl fun K hK => ?_
      go_simp
      refine (tLoad t2.two (by omega) 16).mono ?_
      rintro e W3 ⟨rfl, h4, o4⟩
      rw [hz]
      have t3 : To ow w0 w W3 b y p (s1.load 16) s2 (N + 1) a := ⟨h4, t2.blk.oth o4 (by simp), t2.oth.trans (o4.mono (by simp))⟩
      have H3 := H2.oth o4 (by simp)
      refine hK.out _ _ (pl_cells t3.blk hn) (fun hHeld => ?_)
      clear hK K
      try simp only [Act.put, sA1, sA2, sA3]
      refine rd1 9 rfl fun K hK => ?_
      go_simp
      refine (S.cOfBlock z hU.1 hU.2 _).mono ?_
      rintro e W4 ⟨rfl, hw3⟩
      rw [e0, e1, e2, e3] at hw3 ⊢
      have hb3 : Below W3.heap.size W3 W4 := (by rw [hw3]; exact (Below.refl _ _).alloc (Nat.le_refl _) _)
      have t4 := t3.below hb3
      clear hw3
      have H4 := H3.below hb3
      refine hK.out _ _ (pl_cells t4.blk hn) (fun hHeld => ?_)
      clear hK K
      try simp only [Act.put, sA1, sA2, sA3]
      obtain ⟨z0, z1, z2, z3⟩ := b4z H4
      have zf : ∀ i, W4.frozen? ⟨hb, i, none⟩ = false := fun i => H4.free i
      obtain ⟨t7, H7⟩ := b4st t4 H4 hnb q0 q1 q2 q3
      refine rd1 11 rfl fun K hK => ?_
      go_simp
      refine hK.out _ _ (pl_cells t7.blk hn) (fun hHeld => ?_)
      clear hK K
      try simp only [Act.put, sA1, sA2, sA3]
      clear z0 z1 z2 z3 zf
      generalize (((W4.setCell ⟨hb, 0, none⟩ (.int .i64 q0)).setCell ⟨hb, 1, none⟩ (.int .i64 q1)).setCell ⟨hb, 2, none⟩ (.int .i64 q2)).setCell ⟨hb, 3, none⟩ (.int .i64 q3) = w7 at t7 H7 hHeld ⊢
      refine wpAnyH_done (by kernel_rfl) ?_ _
      refine NoPanic.normal ?_
      have b7 := t7.blk
      have k0 : w7.cell? ⟨hb, 0, none⟩ = some (.int .i64 q0) := H7.cell 0
      have lh := H7.lt
      have c6 : w7.cell? ⟨p, 6, none⟩ = some (.int .i64 a.r.at_) := b7.cell 6
      by_cases hS : q0 = 2
      · have q5 : (q0 == 2) = true := by simp [hS]
        go_wp2_with (go_at_call 64; refine (cEnd b7 ⟨3, ⟨0, 0⟩, false⟩).mono ?_; rintro e w8 ⟨rfl, K8, b8⟩)
        exact bodyPost_ret (v := .tuple #[]) (by simp [results, Tryz.results75, go_sem]) rfl (ky.out hS _ (t7.kept K8 b8))
      · have q5 : (q0 == 2) = false := by simpa using hS
        go_wp2_with (first
          | (go_at_call 71; refine (cEnter b7 hr.1 hr.2.2.2.1 hr.2.2.2.2 (by have := hr.2.1; omega) (by have := hr.2.2.1; omega)).mono ?_; rintro e w8 ⟨rfl, K8, vd, b8, R8⟩))
        go_end0
        exact kn.out hS _ vd (t7.kept K8 b8) R8
  · go_simp
    refine hK.out _ _ (pl_cells (t0.blk.below ((Below.refl _ _).alloc (Nat.le_refl _) _)) hn) (fun hHeld => ?_)
    clear hK K
    try simp only [Act.put, sA1, sA2, sA3]
    have aa : Below w.heap.size w (w.alloc (.cells #[.int .i64 0, .int .i64 0, .int .i64 0, .int .i64 0] 93)).drew := ((Below.refl _ _).alloc (Nat.le_refl _) _).drew
    have tz : To ow w0 w (w.alloc (.cells #[.int .i64 0, .int .i64 0, .int .i64 0, .int .i64 0] 93)).drew b y p s1 s2 N a := ⟨h.below aa, B.below aa, Oth.below aa⟩
    have Hz : Blk w0 (w.alloc (.cells #[.int .i64 0, .int .i64 0, .int .i64 0, .int .i64 0] 93)).drew w.heap.size 93 #[.int .i64 0, .int .i64 0, .int .i64 0, .int .i64 0] := (Blk.new h.bel.size #[.int .i64 0, .int .i64 0, .int .i64 0, .int .i64 0] (by decide) : Blk w0 (w.alloc (.cells #[.int .i64 0, .int .i64 0, .int .i64 0, .int .i64 0] 93)) w.heap.size 93 #[.int .i64 0, .int .i64 0, .int .i64 0, .int .i64 0]).below (Below.refl _ _).drew
    have hnb : w.heap.size ≤ w.heap.size := Nat.le_refl _
    clear aa
    generalize (w.alloc (.cells #[.int .i64 0, .int .i64 0, .int .i64 0, .int .i64 0] 93)).drew = Wz at tz Hz hHeld ⊢
    obtain ⟨hb, hhb⟩ : ∃ q, w.heap.size = q := ⟨_, rfl⟩
    rw [hhb] at Hz ⊢
    have hnb : w.heap.size ≤ hb := hhb ▸ Nat.le_refl _
    clear hhb
    clear t0
    have t0 := tz
    have H0 := Hz
    clear tz Hz
    refine rd1 6 rfl fun K hK => ?_
    go_simp
    refine (cBlockX t0.blk hn hr.2.1 hr.2.2.1).mono ?_
    rintro e W1 ⟨rfl, hb0⟩
    have t1 := t0.below hb0
    have H1 := H0.below hb0
    refine hK.out _ _ (pl_cells t1.blk hn) (fun hHeld => ?_)
    clear hK K
    try simp only [Act.put, sA1, sA2, sA3]
    refine rd1 7 rfl fun K hK => ?_
    go_simp
    refine (P.cEntry 4 4 14 32 160 2 (by decide) (by decide) (by decide) (by decide) _).mono ?_
    rintro e W2 ⟨rfl, hw1⟩
    rw [show ((14 : Int) + 2) = 16 from rfl]
    have hb1 : Below W1.heap.size W1 W2 := (by rw [hw1]; exact (Below.refl _ _).alloc (Nat.le_refl _) _)
    have t2 := t1.below hb1
    clear hw1
    have H2 := H1.below hb1
    refine hK.out _ _ (pl_cells t2.blk hn) (fun hHeld => ?_)
    clear hK K
    try simp only [Act.put, sA1, sA2, sA3]
    refine rd1 8 rfl fun K hK => ?_
    go_simp
    refine (tLoad t2.two (by omega) 16).mono ?_
    rintro e W3 ⟨rfl, h4, o4⟩
    rw [hz]
    have t3 : To ow w0 w W3 b y p (s1.load 16) s2 (N + 1) a := ⟨h4, t2.blk.oth o4 (by simp), t2.oth.trans (o4.mono (by simp))⟩
    have H3 := H2.oth o4 (by simp)
    refine hK.out _ _ (pl_cells t3.blk hn) (fun hHeld => ?_)
    clear hK K
    try simp only [Act.put, sA1, sA2, sA3]
    refine rd1 9 rfl fun K hK => ?_
    go_simp
    refine (S.cOfBlock z hU.1 hU.2 _).mono ?_
    rintro e W4 ⟨rfl, hw3⟩
    rw [e0, e1, e2, e3] at hw3 ⊢
    have hb3 : Below W3.heap.size W3 W4 := (by rw [hw3]; exact (Below.refl _ _).alloc (Nat.le_refl _) _)
    have t4 := t3.below hb3
    clear hw3
    have H4 := H3.below hb3
    refine hK.out _ _ (pl_cells t4.blk hn) (fun hHeld => ?_)
    clear hK K
    try simp only [Act.put, sA1, sA2, sA3]
    obtain ⟨z0, z1, z2, z3⟩ := b4z H4
    have zf : ∀ i, W4.frozen? ⟨hb, i, none⟩ = false := fun i => H4.free i
    obtain ⟨t7, H7⟩ := b4st t4 H4 hnb q0 q1 q2 q3
    refine rd1 11 rfl fun K hK => ?_
    go_simp
    refine hK.out _ _ (pl_cells t7.blk hn) (fun hHeld => ?_)
    clear hK K
    try simp only [Act.put, sA1, sA2, sA3]
    clear z0 z1 z2 z3 zf
    generalize (((W4.setCell ⟨hb, 0, none⟩ (.int .i64 q0)).setCell ⟨hb, 1, none⟩ (.int .i64 q1)).setCell ⟨hb, 2, none⟩ (.int .i64 q2)).setCell ⟨hb, 3, none⟩ (.int .i64 q3) = w7 at t7 H7 hHeld ⊢
    refine wpAnyH_done (by kernel_rfl) ?_ _
    refine NoPanic.normal ?_
    have b7 := t7.blk
    have k0 : w7.cell? ⟨hb, 0, none⟩ = some (.int .i64 q0) := H7.cell 0
    have lh := H7.lt
    have c6 : w7.cell? ⟨p, 6, none⟩ = some (.int .i64 a.r.at_) := b7.cell 6
    by_cases hS : q0 = 2
    · have q5 : (q0 == 2) = true := by simp [hS]
      go_wp2_with (go_at_call 64; refine (cEnd b7 ⟨3, ⟨0, 0⟩, false⟩).mono ?_; rintro e w8 ⟨rfl, K8, b8⟩)
      exact bodyPost_ret (v := .tuple #[]) (by simp [results, Tryz.results75, go_sem]) rfl (ky.out hS _ (t7.kept K8 b8))
    · have q5 : (q0 == 2) = false := by simpa using hS
      go_wp2_with (first
        | (go_at_call 71; refine (cEnter b7 hr.1 hr.2.2.2.1 hr.2.2.2.2 (by have := hr.2.1; omega) (by have := hr.2.2.1; omega)).mono ?_; rintro e w8 ⟨rfl, K8, vd, b8, R8⟩))
      go_end0
      exact kn.out hS _ vd (t7.kept K8 b8) R8
theorem al_cells (B : Blk w0 w p 112 a.cells) (hal : a.al = nine) : w.cell? ⟨p, 21, none⟩ = some (.int .u64 a.z) ∧ w.cell? ⟨p, 12, none⟩ = some (.int .i64 0) ∧ w.cell? ⟨p, 13, none⟩ = some (.int .i64 9) := by
  have c0 := B.cell 12
  have c1 := B.cell 13
  simp only [Ax.cells, hal, nine] at c0 c1
  exact ⟨B.cell 21, c0, c1⟩
theorem rf {Q : Ending → World → Prop} (h : TwoT ow w0 w b y s1 s2 N) (B : Blk w0 w p 112 a.cells) (hN : N + 5 < 1000000) {g fa : Int} {u : Vl} (hr : a.r.Ok2) (hal : a.al = nine) (hl : In12 a.l) (hfa : (a.r.at_ + 1 + a.r.fd) = fa) (hg : s1.got fa = g) (hu : Vl.of g = u) (ks : Hid (g = 72 → ∀ w' vd, To ow w0 w w' b y p (s1.load fa) s2 (N + 1) ({ a with z := g, hit := true, pc := 6, d := Sx.new (a.l + 1 + a.r.fd) a.r a.h, vd := vd } : Ax) → RepO w' (Sx.new (a.l + 1 + a.r.fd) a.r a.h).k vd → Q (.returned (.tuple #[])) w')) (kr : Hid (g ≠ 72 → a.r.op = 1 → ∀ w', To ow w0 w w' b y p (s1.load fa) s2 (N + 1) ({ a with z := g, hit := true, o := ⟨0, u, false⟩, pc := 0 } : Ax) → Q (.returned (.tuple #[])) w')) (kx : Hid (g ≠ 72 → a.r.op = 3 → u ≠ a.r.x → ∀ w', To ow w0 w w' b y p (s1.load fa) s2 (N + 1) ({ a with z := g, hit := true, o := Ou.zero, pc := 0 } : Ax) → Q (.returned (.tuple #[])) w')) (kl : Hid (g ≠ 72 → (a.r.op = 2 ∨ a.r.op = 3 ∧ u = a.r.x) → (a.r.y = nine ∨ a.sh = true) → ∀ w', To ow w0 w w' b y p (s1.load fa) s2 (N + 1) ({ a with z := g, hit := true, o := ⟨3, Vl.zero, false⟩, pc := 0 } : Ax) → Q (.returned (.tuple #[])) w')) (kw : Hid (g ≠ 72 → (a.r.op = 2 ∨ a.r.op = 3 ∧ u = a.r.x) → a.r.y ≠ nine → a.sh = false → ∀ w', To ow w0 w w' b y p (s1.load fa) s2 (N + 1) ({ a with z := g, hit := true, pc := 4 } : Ax) → Q (.returned (.tuple #[])) w')) :
    Calls Tryz.prog 72 #[pt p, pt b] w fun e w' => Q e w' := by
  have hU : U64 g := hg ▸ h.rng1.got _
  have hk : F.Plain.kind g = u.k := congrArg Vl.k hu
  have hnn : F.Plain.num g = u.n := congrArg Vl.n hu
  obtain ⟨tb, tg⟩ : ∃ b, (g == 72) = b := ⟨_, rfl⟩
  have lp := B.lt
  go_enter Tryz.func72, Tryz.ntmps72
  go_upto_region 2 with (first
    | (go_at_call 89; refine (cField B (by have := hr.2.1; omega) (by have := hr.2.2.1; omega) hr.2.2.2.1 hr.2.2.2.2).mono ?_; rintro e w2 ⟨rfl, hb2⟩; rw [hfa]; have h2 := h.below hb2; have b2 := B.below hb2; have o2 : Oth [p] w w2 := Oth.below hb2; clear hb2)
    | (go_at_call 31; refine (tLoad h2 (by omega) fa).mono ?_; rintro e w3 ⟨rfl, h3, o3⟩; rw [hg]; have b3 := b2.oth o3 (by simp); have o3' : Oth [p] w w3 := o2.trans (o3.mono (by simp)); have d21 : w3.cell? ⟨p, 21, none⟩ = some (.int .u64 a.z) := b3.cell 21; have df21 := b3.free 21; have d34 : w3.cell? ⟨p, 34, none⟩ = some (.bool a.hit) := b3.cell 34; have df34 := b3.free 34; clear o3))
  have t4 : To ow w0 w ((w3.setCell ⟨p, 21, none⟩ (.int .u64 g)).setCell ⟨p, 34, none⟩ (.bool true)) b y p (s1.load fa) s2 (N + 1) ({ a with z := g, hit := true } : Ax) := (⟨h3, b3, o3'⟩ : To ow w0 w w3 b y p (s1.load fa) s2 (N + 1) a).kept ((Kept.setCell [p] _ _ _ (by simp)).tr (Kept.setCell [p] _ _ _ (by simp))) ((b3.s_z g).s_hit true)
  clear d21 df21 d34 df34 h3 b3 o3' h2 b2 o2
  generalize ((w3.setCell ⟨p, 21, none⟩ (.int .u64 g)).setCell ⟨p, 34, none⟩ (.bool true)) = w4 at t4 ⊢
  have b4 := t4.blk
  have c21 : w4.cell? ⟨p, 21, none⟩ = some (.int .u64 g) := b4.cell 21
  have lp4 := b4.lt
  go_upto_region 4 with (go_at_call 90; refine (F.cOf g hU.1 hU.2 _).mono ?_; rintro e w5 ⟨rfl, hw5⟩; rw [hk, hnn] at hw5 ⊢; have hb5 : Below w4.heap.size w4 w5 := (by rw [hw5]; go_grown); have t5 := t4.below hb5; clear hw5 hb5)
  have a6 : Below w5.heap.size w5 (w5.alloc (.cells #[.int .i64 u.k, .int .i64 u.n] 38)) := (Below.refl _ _).alloc (Nat.le_refl _) _
  have t6 := t5.below a6
  have V6 : Blk w0 (w5.alloc (.cells #[.int .i64 u.k, .int .i64 u.n] 38)) w5.heap.size 38 #[.int .i64 u.k, .int .i64 u.n] := Blk.new t5.two.bel.size _ (by decide)
  generalize w5.alloc (.cells #[.int .i64 u.k, .int .i64 u.n] 38) = w6 at t6 V6 ⊢
  generalize w5.heap.size = vb at V6 ⊢
  clear a6 t5 t4 c21 b4 lp4
  have hbd : Below w6.heap.size w6 w6.drew := (Below.refl _ _).drew
  have td := t6.below hbd
  refine wp_region_noPanic ?_
  refine wp_region_held_drew (S := fun w' => w'.cell? ⟨p, 21, none⟩ = some (.int .u64 g) ∧ w'.cell? ⟨p, 12, none⟩ = some (.int .i64 0) ∧ w'.cell? ⟨p, 13, none⟩ = some (.int .i64 9)) (by kernel_rfl) (al_cells td.blk hal) (fun hHeld => ?_)
  refine tkH (i := 0) 24 (pt p) rfl rfl ?_
  simp only [sA1, sA2, sA3]
  refine tkH (i := 1) 25 (pt p) rfl rfl ?_
  simp only [sA1, sA2, sA3]
  refine tkH (i := 2) 26 (.pointer (some ⟨p, 21, none⟩)) rfl rfl ?_
  simp only [sA1, sA2, sA3]
  refine tkH (i := 3) 27 (.int .u64 g) rfl rfl ?_
  simp only [sA1, sA2, sA3]
  refine tkH (i := 4) 28 (pt p) rfl rfl ?_
  simp only [sA1, sA2, sA3]
  refine tkH (i := 5) 29 (pt p) rfl rfl ?_
  simp only [sA1, sA2, sA3]
  refine tkH (i := 6) 30 (.pointer (some ⟨p, 12, none⟩)) rfl rfl ?_
  simp only [sA1, sA2, sA3]
  refine tkH (i := 7) 31 (.agg #[.int .i64 0, .int .i64 9]) rfl rfl ?_
  simp only [sA1, sA2, sA3]
  refine rd1 8 rfl fun K hK => ?_
  go_simp
  refine (F.cWord 0 9 _).mono ?_
  rintro e w7 ⟨rfl, hw7⟩
  rw [show F.Plain.word 0 9 = 72 by decide]
  have hb7 : Below w6.drew.heap.size w6.drew w7 := (by rw [hw7]; exact (Below.refl _ _).alloc (Nat.le_refl _) _)
  have t7 := td.below hb7
  clear hw7
  refine hK.out _ _ (al_cells t7.blk hal) (fun hHeld => ?_)
  clear hK K
  try simp only [Act.put, sA1, sA2, sA3]
  refine tkH (i := 9) 33 (.bool tb) rfl rfl ?_
  simp only [sA1, sA2, sA3]
  refine tkH (i := 10) 23 (.bool tb) rfl rfl ?_
  simp only [sA1, sA2, sA3]
  refine wpAnyH_done (by kernel_rfl) ?_ _
  refine NoPanic.normal ?_
  have V7 := (V6.below hbd).below hb7
  have b7 := t7.blk
  have v0 : w7.cell? ⟨vb, 0, none⟩ = some (.int .i64 u.k) := V7.cell 0
  have v1 : w7.cell? ⟨vb, 1, none⟩ = some (.int .i64 u.n) := V7.cell 1
  have vl := V7.lt
  rcases tb with _ | _
  · have hG : g ≠ 72 := by simpa using tg
    have c5 : w7.cell? ⟨p, 5, none⟩ = some (.int .i64 a.r.op) := b7.cell 5
    have c19 : w7.cell? ⟨p, 19, none⟩ = some (stFn a.pc) := b7.cell 19
    have f19 := b7.free 19
    rcases hr.1 with hop | hop | hop
    · have t1 : (a.r.op == 1) = true := by simp [hop]
      go_wp2_with (go_at_call 64; refine (cEnd b7 ⟨0, u, false⟩).mono ?_; rintro e w8 ⟨rfl, K8, b8⟩)
      go_end0
      exact kr.out hG hop _ (t7.kept K8 b8)
    · have t1 : (a.r.op == 1) = false := by simp [hop]
      rcases hsh : a.sh with _ | _
      · have c14 : w7.cell? ⟨p, 14, none⟩ = some (.bool false) := hsh ▸ b7.cell 14
        by_cases hla' : a.r.y = nine
        · have hla : Hid (a.r.y = nine) := hla'
          clear hla'
          go_wp2_with (first
            | (go_at_call 92; refine (cWrites2 b7 hop u).mono ?_; rintro e w8 ⟨rfl, hb8⟩; have t8 := t7.below hb8; have b8 := t8.blk; have d14 : w8.cell? ⟨p, 14, none⟩ = some (.bool false) := hsh ▸ b8.cell 14; have d19 : w8.cell? ⟨p, 19, none⟩ = some (stFn a.pc) := b8.cell 19; have df19 := b8.free 19)
            | (go_at_call 73; refine (cLays2 b8 hop hal (t := true) (by simpa using hla.out)).mono ?_; rintro e w9 ⟨rfl, hb9⟩; have t9 := t8.below hb9; have b9 := t9.blk; have g19 : w9.cell? ⟨p, 19, none⟩ = some (stFn a.pc) := b9.cell 19; have gf19 := b9.free 19)
            | (go_at_call 64; refine (cEnd b9 ⟨3, ⟨0, 0⟩, false⟩).mono ?_; rintro e w10 ⟨rfl, K10, b10⟩))
          go_end0
          exact kl.out hG (.inl hop) (.inl hla.out) _ (t9.kept K10 b10)
        · have hla : Hid (a.r.y ≠ nine) := hla'
          clear hla'
          go_wp2_with (first
            | (go_at_call 92; refine (cWrites2 b7 hop u).mono ?_; rintro e w8 ⟨rfl, hb8⟩; have t8 := t7.below hb8; have b8 := t8.blk; have d14 : w8.cell? ⟨p, 14, none⟩ = some (.bool false) := hsh ▸ b8.cell 14; have d19 : w8.cell? ⟨p, 19, none⟩ = some (stFn a.pc) := b8.cell 19; have df19 := b8.free 19)
            | (go_at_call 73; refine (cLays2 b8 hop hal (t := false) (by simpa using hla.out)).mono ?_; rintro e w9 ⟨rfl, hb9⟩; have t9 := t8.below hb9; have b9 := t9.blk; have g19 : w9.cell? ⟨p, 19, none⟩ = some (stFn a.pc) := b9.cell 19; have gf19 := b9.free 19))
          go_end0
          exact kw.out hG (.inl hop) hla.out hsh _ (t9.kept (Kept.setCell [p] _ _ _ (by simp)) (b9.s_pc 4))
      · have c14 : w7.cell? ⟨p, 14, none⟩ = some (.bool true) := hsh ▸ b7.cell 14
        go_wp2_with (first
          | (go_at_call 92; refine (cWrites2 b7 hop u).mono ?_; rintro e w8 ⟨rfl, hb8⟩; have t8 := t7.below hb8; have b8 := t8.blk; have d14 : w8.cell? ⟨p, 14, none⟩ = some (.bool true) := hsh ▸ b8.cell 14; have d19 : w8.cell? ⟨p, 19, none⟩ = some (stFn a.pc) := b8.cell 19; have df19 := b8.free 19)
          | (go_at_call 64; refine (cEnd b8 ⟨3, ⟨0, 0⟩, false⟩).mono ?_; rintro e w9 ⟨rfl, K9, b9⟩))
        go_end0
        exact kl.out hG (.inl hop) (.inr hsh) _ (t8.kept K9 b9)
    · have t1 : (a.r.op == 1) = false := by simp [hop]
      by_cases hx' : u = a.r.x
      · have hx : Hid (u = a.r.x) := hx'
        clear hx'
        rcases hsh : a.sh with _ | _
        · have c14 : w7.cell? ⟨p, 14, none⟩ = some (.bool false) := hsh ▸ b7.cell 14
          by_cases hla' : a.r.y = nine
          · have hla : Hid (a.r.y = nine) := hla'
            clear hla'
            go_wp2_with (first
              | (go_at_call 92; refine (cWrites3 b7 hop u (t := true) (by simpa using hx.out)).mono ?_; rintro e w8 ⟨rfl, hb8⟩; have t8 := t7.below hb8; have b8 := t8.blk; have d14 : w8.cell? ⟨p, 14, none⟩ = some (.bool false) := hsh ▸ b8.cell 14; have d19 : w8.cell? ⟨p, 19, none⟩ = some (stFn a.pc) := b8.cell 19; have df19 := b8.free 19)
              | (go_at_call 73; refine (cLays3 b8 hop hal (t := true) (by simpa using hla.out)).mono ?_; rintro e w9 ⟨rfl, hb9⟩; have t9 := t8.below hb9; have b9 := t9.blk; have g19 : w9.cell? ⟨p, 19, none⟩ = some (stFn a.pc) := b9.cell 19; have gf19 := b9.free 19)
              | (go_at_call 64; refine (cEnd b9 ⟨3, ⟨0, 0⟩, false⟩).mono ?_; rintro e w10 ⟨rfl, K10, b10⟩))
            go_end0
            exact kl.out hG (.inr ⟨hop, hx.out⟩) (.inl hla.out) _ (t9.kept K10 b10)
          · have hla : Hid (a.r.y ≠ nine) := hla'
            clear hla'
            go_wp2_with (first
              | (go_at_call 92; refine (cWrites3 b7 hop u (t := true) (by simpa using hx.out)).mono ?_; rintro e w8 ⟨rfl, hb8⟩; have t8 := t7.below hb8; have b8 := t8.blk; have d14 : w8.cell? ⟨p, 14, none⟩ = some (.bool false) := hsh ▸ b8.cell 14; have d19 : w8.cell? ⟨p, 19, none⟩ = some (stFn a.pc) := b8.cell 19; have df19 := b8.free 19)
              | (go_at_call 73; refine (cLays3 b8 hop hal (t := false) (by simpa using hla.out)).mono ?_; rintro e w9 ⟨rfl, hb9⟩; have t9 := t8.below hb9; have b9 := t9.blk; have g19 : w9.cell? ⟨p, 19, none⟩ = some (stFn a.pc) := b9.cell 19; have gf19 := b9.free 19))
            go_end0
            exact kw.out hG (.inr ⟨hop, hx.out⟩) hla.out hsh _ (t9.kept (Kept.setCell [p] _ _ _ (by simp)) (b9.s_pc 4))
        · have c14 : w7.cell? ⟨p, 14, none⟩ = some (.bool true) := hsh ▸ b7.cell 14
          go_wp2_with (first
            | (go_at_call 92; refine (cWrites3 b7 hop u (t := true) (by simpa using hx.out)).mono ?_; rintro e w8 ⟨rfl, hb8⟩; have t8 := t7.below hb8; have b8 := t8.blk; have d14 : w8.cell? ⟨p, 14, none⟩ = some (.bool true) := hsh ▸ b8.cell 14; have d19 : w8.cell? ⟨p, 19, none⟩ = some (stFn a.pc) := b8.cell 19; have df19 := b8.free 19)
            | (go_at_call 64; refine (cEnd b8 ⟨3, ⟨0, 0⟩, false⟩).mono ?_; rintro e w9 ⟨rfl, K9, b9⟩))
          go_end0
          exact kl.out hG (.inr ⟨hop, hx.out⟩) (.inr hsh) _ (t8.kept K9 b9)
      · have hx : Hid (u ≠ a.r.x) := hx'
        clear hx'
        go_wp2_with (first
          | (go_at_call 92; refine (cWrites3 b7 hop u (t := false) (by simpa using hx.out)).mono ?_; rintro e w8 ⟨rfl, hb8⟩; have t8 := t7.below hb8; have b8 := t8.blk)
          | (go_at_call 64; refine (cEnd b8 ⟨0, ⟨0, 0⟩, false⟩).mono ?_; rintro e w9 ⟨rfl, K9, b9⟩))
        go_end0
        exact kx.out hG hop hx.out _ (t8.kept K9 b9)
  · have c20 : w7.cell? ⟨p, 20, none⟩ = some (.int .i64 a.l) := b7.cell 20
    go_wp2_with (first
      | (go_at_call 71; refine (cEnter b7 hr.1 hr.2.2.2.1 hr.2.2.2.2 hl.1 hl.2).mono ?_; rintro e w8 ⟨rfl, K8, vd, b8, R8⟩))
    go_end0
    exact ks.out (by simpa using tg) _ vd (t7.kept K8 b8) R8
theorem sf {Q : Ending → World → Prop} (h : TwoT ow w0 w b y s1 s2 N) (B : Blk w0 w p 112 a.cells) (hN : N + 5 < 1000000) {fa wd : Int} {o3 okb : Bool} (hr : a.r.Ok2) (hfa : (a.r.at_ + 1 + a.r.fd) = fa) (hwd : a.r.y.w = wd) (ho3 : (a.r.op == 3) = o3) (hok : s1.ok1 fa a.z = okb) (kn : Hid (okb = false → ∀ w', To ow w0 w w' b y p (s1.cas fa a.z wd) s2 (N + 1) ({ a with pc := 3 } : Ax) → Q (.returned (.tuple #[])) w')) (ky : Hid (okb = true → ∀ w', To ow w0 w w' b y p (s1.cas fa a.z wd) s2 (N + 1) ({ a with hit := true, o := ⟨0, Vl.zero, o3⟩, pc := 0 } : Ax) → Q (.returned (.tuple #[])) w')) :
    Calls Tryz.prog 93 #[pt p, pt b] w fun e w' => Q e w' := by
  have hU : U64 wd := hwd ▸ Vl.u64 _
  have hwd : F.Plain.word a.r.y.k a.r.y.n = wd := hwd
  have c19 : w.cell? ⟨p, 19, none⟩ = some (stFn a.pc) := B.cell 19
  have f19 := B.free 19
  have t1 : To ow w0 w (w.setCell ⟨p, 19, none⟩ (stFn 3)) b y p s1 s2 N ({ a with pc := 3 } : Ax) := (⟨h, B, Oth.refl _ _⟩ : To ow w0 w w b y p s1 s2 N a).kept (Kept.setCell [p] _ _ _ (by simp)) (B.s_pc 3)
  go_enter Tryz.func93, Tryz.ntmps93
  go_upto_region 1 with (fail)
  change To ow w0 w (w.setCell ⟨p, 19, none⟩ (.func (.func 72) #[] #[])) b y p s1 s2 N _ at t1
  generalize w.setCell ⟨p, 19, none⟩ (.func (.func 72) #[] #[]) = w1 at t1 ⊢
  clear c19 f19
  have hbd : Below w1.heap.size w1 w1.drew := (Below.refl _ _).drew
  have td := t1.below hbd
  refine wp_region_noPanic ?_
  refine wp_region_held_drew (S := fun w' => w'.cell? ⟨p, 21, none⟩ = some (.int .u64 a.z) ∧ w'.cell? ⟨p, 10, none⟩ = some (.int .i64 a.r.y.k) ∧ w'.cell? ⟨p, 11, none⟩ = some (.int .i64 a.r.y.n)) (by kernel_rfl) ⟨td.blk.cell 21, td.blk.cell 10, td.blk.cell 11⟩ (fun hHeld => ?_)
  refine tkH (i := 0) 7 (pt b) rfl rfl ?_
  simp only [sA1, sA2, sA3]
  refine tkH (i := 1) 8 (pt p) rfl rfl ?_
  simp only [sA1, sA2, sA3]
  refine tkH (i := 3) 10 (pt p) rfl rfl ?_
  simp only [sA1, sA2, sA3]
  refine tkH (i := 4) 11 (pt p) rfl rfl ?_
  simp only [sA1, sA2, sA3]
  refine tkH (i := 5) 12 (.pointer (some ⟨p, 21, none⟩)) rfl rfl ?_
  simp only [sA1, sA2, sA3]
  refine tkH (i := 6) 13 (.int .u64 a.z) rfl rfl ?_
  simp only [sA1, sA2, sA3]
  refine tkH (i := 7) 14 (pt p) rfl rfl ?_
  simp only [sA1, sA2, sA3]
  refine tkH (i := 8) 15 (pt p) rfl rfl ?_
  simp only [sA1, sA2, sA3]
  refine tkH (i := 9) 16 (.pointer (some ⟨p, 5, none⟩)) rfl rfl ?_
  simp only [sA1, sA2, sA3]
  refine tkH (i := 10) 17 (.pointer (some ⟨p, 10, none⟩)) rfl rfl ?_
  simp only [sA1, sA2, sA3]
  refine tkH (i := 11) 18 (.agg #[.int .i64 a.r.y.k, .int .i64 a.r.y.n]) rfl rfl ?_
  simp only [sA1, sA2, sA3]
  refine rd1 2 rfl fun K hK => ?_
  go_simp
  refine (cField td.blk (by have := hr.2.1; simp only; omega) (by have := hr.2.2.1; simp only; omega) hr.2.2.2.1 hr.2.2.2.2).mono ?_
  rintro e w2 ⟨rfl, hb2⟩
  rw [hfa]
  have t2 := td.below hb2
  refine hK.out _ _ ⟨t2.blk.cell 21, t2.blk.cell 10, t2.blk.cell 11⟩ (fun hHeld => ?_)
  clear hK K
  try simp only [Act.put, sA1, sA2, sA3]
  refine rd1 12 rfl fun K hK => ?_
  go_simp
  refine (F.cWord a.r.y.k a.r.y.n _).mono ?_
  rintro e w3 ⟨rfl, hw3⟩
  rw [hwd]
  have hb3 : Below w2.heap.size w2 w3 := (by rw [hw3]; exact (Below.refl _ _).alloc (Nat.le_refl _) _)
  have t3 := t2.below hb3
  clear hw3
  refine hK.out _ _ ⟨t3.blk.cell 21, t3.blk.cell 10, t3.blk.cell 11⟩ (fun hHeld => ?_)
  clear hK K
  try simp only [Act.put, sA1, sA2, sA3]
  refine rd1 13 rfl fun K hK => ?_
  go_simp
  refine (tCAS t3.two (by omega) fa a.z hU).mono ?_
  rintro e w4 ⟨rfl, h4, o4⟩
  rw [hok]
  have t4 : To ow w0 w w4 b y p (s1.cas fa a.z wd) s2 (N + 1) ({ a with pc := 3 } : Ax) := ⟨h4, t3.blk.oth o4 (by simp), t3.oth.trans (o4.mono (by simp))⟩
  clear h4 o4
  refine hK.out _ _ ⟨t4.blk.cell 21, t4.blk.cell 10, t4.blk.cell 11⟩ (fun hHeld => ?_)
  clear hK K
  try simp only [Act.put, sA1, sA2, sA3]
  refine wpAnyH_done (by kernel_rfl) ?_ _
  refine NoPanic.normal ?_
  have b4 := t4.blk
  have c34 : w4.cell? ⟨p, 34, none⟩ = some (.bool a.hit) := b4.cell 34
  have f34 := b4.free 34
  have c5 : w4.cell? ⟨p, 5, none⟩ = some (.int .i64 a.r.op) := b4.cell 5
  rcases okb with _ | _
  · go_wp2
    go_end0
    exact kn.out (by trivial) _ t4
  · go_upto_region 3 with (fail)
    have t5 := t4.kept (Kept.setCell [p] _ ⟨p, 34, none⟩ (.bool true) (by simp)) (b4.s_hit true)
    clear c34 f34 c5
    generalize w4.setCell ⟨p, 34, none⟩ (.bool true) = w5 at t5 ⊢
    have b5 := t5.blk
    have c5 : w5.cell? ⟨p, 5, none⟩ = some (.int .i64 a.r.op) := b5.cell 5
    go_wp2_with (go_at_call 64; refine (cEnd b5 ⟨0, ⟨0, 0⟩, o3⟩).mono ?_; rintro e w8 ⟨rfl, K8, b8⟩)
    go_end0
    exact ky.out (by trivial) _ (t5.kept K8 b8)
theorem tPStepI (h : TwoT ow w0 w b y s1 s2 N) (B : Blk w0 w p 112 a.cells) (hx : a.p = x) (R : RepO w x.k a.vp) (ok : x.Ok) (hN : N < 1000000) :
    Calls Tryz.prog 63 #[.pointer (some ⟨p, 22, none⟩), pt b] w fun e w' => e = .returned (.bool (x.next s1).done) ∧ ∃ v', To ow w0 w w' b y p (x.mem s1) s2 (N + 1) ({ a with p := x.next s1, vp := v' } : Ax) ∧ RepO w' (x.next s1).k v' := by
  have ht := h.top1
  have hc' : s1.c < 1000000 := by omega
  have f := h.fit1
  have r := h.rng1
  obtain ⟨L, rfl, A, k⟩ := h.went1 B
  refine (cPStepI A hx R ok f hc' r).mono ?_
  rintro e w' ⟨rfl, v', L', A', g, R'⟩
  have := Sx.cnt (s := s1) ok
  obtain ⟨H1, B1, O1⟩ := k A' g (Sx.fit ok f hc') (Sx.rng ok r) (show _ ≤ ((N + 1 : Nat) : Int) by omega) (by omega)
  exact ⟨rfl, v', ⟨H1, B1, O1⟩, R'⟩
theorem stP {Q : Ending → World → Prop} (h : TwoT ow w0 w b y s1 s2 N) (B : Blk w0 w p 112 a.cells) (hN : N + 5 < 1000000) {x' : Sx} {dn : Bool} (hx : a.p = x) (R : RepO w x.k a.vp) (ok : x.Ok) (hx' : x.next s1 = x') (hd : x'.done = dn) (kn : Hid (dn = false → ∀ w' v', To ow w0 w w' b y p (x.mem s1) s2 (N + 1) ({ a with p := x', vp := v', hit := x'.hit } : Ax) → RepO w' x'.k v' → Q (.returned (.tuple #[])) w')) (kd : Hid (dn = true → ∀ w' v', To ow w0 w w' b y p (x.mem s1) s2 (N + 1) ({ a with o := x'.o, pc := 0, p := x', vp := v', hit := x'.hit } : Ax) → RepO w' x'.k v' → Q (.returned (.tuple #[])) w')) :
    Calls Tryz.prog 42 #[pt p, pt b] w fun e w' => Q e w' := by
  go_enter Tryz.func42, Tryz.ntmps42
  rcases dn with _ | _
  · go_wp2_with (first
    | (go_at_call 63; refine (tPStepI h B hx R ok (by omega)).mono ?_; rintro e w1 ⟨rfl, v', t1, R1⟩; rw [hx'] at t1 R1 ⊢; rw [hd]; have b1 := t1.blk; have c1 : w1.cell? ⟨p, 23, none⟩ = some (.bool x'.hit) := b1.cell 23; have c2 : w1.cell? ⟨p, 24, none⟩ = some (.int .i64 x'.o.c) := b1.cell 24; have c3 : w1.cell? ⟨p, 25, none⟩ = some (.int .i64 x'.o.v.k) := b1.cell 25; have c4 : w1.cell? ⟨p, 26, none⟩ = some (.int .i64 x'.o.v.n) := b1.cell 26; have c5 : w1.cell? ⟨p, 27, none⟩ = some (.bool x'.o.y) := b1.cell 27; have y34 : w1.cell? ⟨p, 34, none⟩ = some (.bool a.hit) := b1.cell 34; have yf34 := b1.free 34; have l1 := b1.lt)
    | (go_at_call 66; refine (cPHitI c1).mono ?_; rintro e wx ⟨rfl, hwx⟩; rw [hwx]; clear hwx wx))
    go_end0
    exact kn.out (by trivial) _ v' (t1.kept (Kept.setCell [p] _ _ _ (by simp)) (b1.s_hit x'.hit)) (R1.oth (F := [p]) (Oth.set _ _ _ _ (by simp)) (fun q hq => by simp at hq; subst hq; exact ⟨_, _, _, b1.at_, by decide⟩))
  · go_wp2_with (first
    | (go_at_call 63; refine (tPStepI h B hx R ok (by omega)).mono ?_; rintro e w1 ⟨rfl, v', t1, R1⟩; rw [hx'] at t1 R1 ⊢; rw [hd]; have b1 := t1.blk; have c1 : w1.cell? ⟨p, 23, none⟩ = some (.bool x'.hit) := b1.cell 23; have c2 : w1.cell? ⟨p, 24, none⟩ = some (.int .i64 x'.o.c) := b1.cell 24; have c3 : w1.cell? ⟨p, 25, none⟩ = some (.int .i64 x'.o.v.k) := b1.cell 25; have c4 : w1.cell? ⟨p, 26, none⟩ = some (.int .i64 x'.o.v.n) := b1.cell 26; have c5 : w1.cell? ⟨p, 27, none⟩ = some (.bool x'.o.y) := b1.cell 27; have y34 : w1.cell? ⟨p, 34, none⟩ = some (.bool a.hit) := b1.cell 34; have yf34 := b1.free 34; have l1 := b1.lt)
    | (go_at_call 65; refine (cPResultI l1 c2 c3 c4 c5).mono ?_; rintro e w2 ⟨rfl, hb2⟩; unfold Ou.val; have t2 := t1.below hb2; have b2 := t2.blk; have R2 := R1.below hb2)
    | (go_at_call 64; refine (cEnd b2 x'.o).mono ?_; rintro e w3 ⟨rfl, K3, b3⟩; have t3 := t2.kept K3 b3; have R3 := R2.oth (F := [p]) (Oth.kept K3) (fun q hq => by simp at hq; subst hq; exact ⟨_, _, _, b2.at_, by decide⟩); have z1 : w3.cell? ⟨p, 23, none⟩ = some (.bool x'.hit) := b3.cell 23; have z34 : w3.cell? ⟨p, 34, none⟩ = some (.bool a.hit) := b3.cell 34; have zf34 := b3.free 34)
    | (go_at_call 66; refine (cPHitI z1).mono ?_; rintro e wx ⟨rfl, hwx⟩; rw [hwx]; clear hwx wx))
    go_end0
    exact kd.out (by trivial) _ v' (t3.kept (Kept.setCell [p] _ _ _ (by simp)) (b3.s_hit x'.hit)) (R3.oth (F := [p]) (Oth.set _ _ _ _ (by simp)) (fun q hq => by simp at hq; subst hq; exact ⟨_, _, _, b3.at_, by decide⟩))
theorem tDStepI (h : TwoT ow w0 w b y s1 s2 N) (B : Blk w0 w p 112 a.cells) (hx : a.d = x) (R : RepO w x.k a.vd) (ok : x.Ok) (hN : N < 1000000) :
    Calls Tryz.prog 106 #[.pointer (some ⟨p, 28, none⟩), pt b] w fun e w' => e = .returned (.bool (x.next s1).done) ∧ ∃ v', To ow w0 w w' b y p (x.mem s1) s2 (N + 1) ({ a with d := x.next s1, vd := v' } : Ax) ∧ RepO w' (x.next s1).k v' := by
  have ht := h.top1
  have hc' : s1.c < 1000000 := by omega
  have f := h.fit1
  have r := h.rng1
  obtain ⟨L, rfl, A, k⟩ := h.went1 B
  refine (cDStepI A hx R ok f hc' r).mono ?_
  rintro e w' ⟨rfl, v', L', A', g, R'⟩
  have := Sx.cnt (s := s1) ok
  obtain ⟨H1, B1, O1⟩ := k A' g (Sx.fit ok f hc') (Sx.rng ok r) (show _ ≤ ((N + 1 : Nat) : Int) by omega) (by omega)
  exact ⟨rfl, v', ⟨H1, B1, O1⟩, R'⟩
theorem stD {Q : Ending → World → Prop} (h : TwoT ow w0 w b y s1 s2 N) (B : Blk w0 w p 112 a.cells) (hN : N + 5 < 1000000) {x' : Sx} {dn : Bool} (hx : a.d = x) (R : RepO w x.k a.vd) (ok : x.Ok) (hx' : x.next s1 = x') (hd : x'.done = dn) (kn : Hid (dn = false → ∀ w' v', To ow w0 w w' b y p (x.mem s1) s2 (N + 1) ({ a with d := x', vd := v', hit := x'.hit } : Ax) → RepO w' x'.k v' → Q (.returned (.tuple #[])) w')) (kd : Hid (dn = true → ∀ w' v', To ow w0 w w' b y p (x.mem s1) s2 (N + 1) ({ a with o := x'.o, pc := 0, d := x', vd := v', hit := x'.hit } : Ax) → RepO w' x'.k v' → Q (.returned (.tuple #[])) w')) :
    Calls Tryz.prog 88 #[pt p, pt b] w fun e w' => Q e w' := by
  go_enter Tryz.func88, Tryz.ntmps88
  rcases dn with _ | _
  · go_wp2_with (first
    | (go_at_call 106; refine (tDStepI h B hx R ok (by omega)).mono ?_; rintro e w1 ⟨rfl, v', t1, R1⟩; rw [hx'] at t1 R1 ⊢; rw [hd]; have b1 := t1.blk; have c1 : w1.cell? ⟨p, 29, none⟩ = some (.bool x'.hit) := b1.cell 29; have c2 : w1.cell? ⟨p, 30, none⟩ = some (.int .i64 x'.o.c) := b1.cell 30; have c3 : w1.cell? ⟨p, 31, none⟩ = some (.int .i64 x'.o.v.k) := b1.cell 31; have c4 : w1.cell? ⟨p, 32, none⟩ = some (.int .i64 x'.o.v.n) := b1.cell 32; have c5 : w1.cell? ⟨p, 33, none⟩ = some (.bool x'.o.y) := b1.cell 33; have y34 : w1.cell? ⟨p, 34, none⟩ = some (.bool a.hit) := b1.cell 34; have yf34 := b1.free 34; have l1 := b1.lt)
    | (go_at_call 108; refine (cDHitI c1).mono ?_; rintro e wx ⟨rfl, hwx⟩; rw [hwx]; clear hwx wx))
    go_end0
    exact kn.out (by trivial) _ v' (t1.kept (Kept.setCell [p] _ _ _ (by simp)) (b1.s_hit x'.hit)) (R1.oth (F := [p]) (Oth.set _ _ _ _ (by simp)) (fun q hq => by simp at hq; subst hq; exact ⟨_, _, _, b1.at_, by decide⟩))
  · go_wp2_with (first
    | (go_at_call 106; refine (tDStepI h B hx R ok (by omega)).mono ?_; rintro e w1 ⟨rfl, v', t1, R1⟩; rw [hx'] at t1 R1 ⊢; rw [hd]; have b1 := t1.blk; have c1 : w1.cell? ⟨p, 29, none⟩ = some (.bool x'.hit) := b1.cell 29; have c2 : w1.cell? ⟨p, 30, none⟩ = some (.int .i64 x'.o.c) := b1.cell 30; have c3 : w1.cell? ⟨p, 31, none⟩ = some (.int .i64 x'.o.v.k) := b1.cell 31; have c4 : w1.cell? ⟨p, 32, none⟩ = some (.int .i64 x'.o.v.n) := b1.cell 32; have c5 : w1.cell? ⟨p, 33, none⟩ = some (.bool x'.o.y) := b1.cell 33; have y34 : w1.cell? ⟨p, 34, none⟩ = some (.bool a.hit) := b1.cell 34; have yf34 := b1.free 34; have l1 := b1.lt)
    | (go_at_call 107; refine (cDResultI l1 c2 c3 c4 c5).mono ?_; rintro e w2 ⟨rfl, hb2⟩; unfold Ou.val; have t2 := t1.below hb2; have b2 := t2.blk; have R2 := R1.below hb2)
    | (go_at_call 64; refine (cEnd b2 x'.o).mono ?_; rintro e w3 ⟨rfl, K3, b3⟩; have t3 := t2.kept K3 b3; have R3 := R2.oth (F := [p]) (Oth.kept K3) (fun q hq => by simp at hq; subst hq; exact ⟨_, _, _, b2.at_, by decide⟩); have z1 : w3.cell? ⟨p, 29, none⟩ = some (.bool x'.hit) := b3.cell 29; have z34 : w3.cell? ⟨p, 34, none⟩ = some (.bool a.hit) := b3.cell 34; have zf34 := b3.free 34)
    | (go_at_call 108; refine (cDHitI z1).mono ?_; rintro e wx ⟨rfl, hwx⟩; rw [hwx]; clear hwx wx))
    go_end0
    exact kd.out (by trivial) _ v' (t3.kept (Kept.setCell [p] _ _ _ (by simp)) (b3.s_hit x'.hit)) (R3.oth (F := [p]) (Oth.set _ _ _ _ (by simp)) (fun q hq => by simp at hq; subst hq; exact ⟨_, _, _, b3.at_, by decide⟩))
end
end Go.Proofs.YtmlgohknbjfciaaGreatDoor

namespace Go.Proofs.YtmlgohknbjfciaaGreatDoor
set_option linter.unusedVariables false
set_option linter.unusedSimpArgs false
set_option maxRecDepth 100000
open Go.ChangeShapes Go.WideShapes Go.RowKit
open H.Plain (hw pS pC pN pM pG pT pL mv)

theorem pc7 {n : Nat} (h : n ≤ 6) : n = 0 ∨ n = 1 ∨ n = 2 ∨ n = 3 ∨ n = 4 ∨ n = 5 ∨ n = 6 := by omega
theorem fnEq (n : Nat) (h : n ≤ 6) (w : World) : (binOp .eql 103 (stFn n) .nilFunc).run Tryz.prog w = .ok (.bool (n == 0)) w := by
  rcases pc7 h with rfl | rfl | rfl | rfl | rfl | rfl | rfl <;> kernel_rfl
theorem fnGd (op : BinOp) (t : TypeId) (x y : Operand) (n : Nat) : eqGuard op t x y (stFn n) .nilFunc = pure () := by unfold stFn; split <;> cases op <;> rfl
section
variable {ow : Bool} {w0 w w' : World} {b y p : Nat} {s1 s2 s' : St} {N : Nat} {a : Ax} {Q : World → Ax → Prop}
set_option maxHeartbeats 1000000
theorem sStep0 (B : Blk w0 w p 112 a.cells) (hpc : a.pc = 0) : Calls Tryz.prog 18 #[pt p, pt b] w fun e w' => e = .returned (.bool true) ∧ w' = w := by
  have c19 : w.cell? ⟨p, 19, none⟩ = some .nilFunc := by have := B.cell 19; simp only [Ax.cells, hpc, stFn] at this; exact this
  have n1 : ∀ w, (binOp .neq 103 .nilFunc .nilFunc).run Tryz.prog w = .ok (.bool false) w := fun _ => by kernel_rfl
  have n2 : ∀ w, (binOp .eql 103 .nilFunc .nilFunc).run Tryz.prog w = .ok (.bool true) w := fun _ => by kernel_rfl
  go_enter Tryz.func18, Tryz.ntmps18
  go_wp2
  go_ret
  exact ⟨rfl, rfl⟩
theorem sStep1 (h : TwoT ow w0 w b y s1 s2 N) (B : Blk w0 w p 112 a.cells) (hpc : a.pc = 1)
    (hc : ∀ w1, To ow w0 w w1 b y p s1 s2 N ({ a with hit := false } : Ax) → Calls Tryz.prog 44 #[pt p, pt b] w1 fun e w' => e = .returned (.tuple #[]) ∧ ∃ a' : Ax, To ow w0 w1 w' b y p s' s2 (N + 1) a' ∧ a'.pc ≤ 6 ∧ Q w' a') :
    Calls Tryz.prog 18 #[pt p, pt b] w fun e w' => ∃ a' : Ax, e = .returned (.bool (a'.pc == 0)) ∧ To ow w0 w w' b y p s' s2 (N + 1) a' ∧ Q w' a' := by
  have c19 : w.cell? ⟨p, 19, none⟩ = some (.func (.func 44) #[] #[]) := by have := B.cell 19; simp only [Ax.cells, hpc, stFn] at this; exact this
  have n1 : ∀ w, (binOp .neq 103 (.func (.func 44) #[] #[]) .nilFunc).run Tryz.prog w = .ok (.bool true) w := fun _ => by kernel_rfl
  have c34 : w.cell? ⟨p, 34, none⟩ = some (.bool a.hit) := B.cell 34
  have f34 := B.free 34
  have t1 : To ow w0 w (w.setCell ⟨p, 34, none⟩ (.bool false)) b y p s1 s2 N ({ a with hit := false } : Ax) := (⟨h, B, Oth.refl _ _⟩ : To ow w0 w w b y p s1 s2 N a).kept (Kept.setCell [p] _ _ _ (by simp)) (B.s_hit false)
  go_enter Tryz.func18, Tryz.ntmps18
  go_upto_region 3 with (fail)
  generalize w.setCell ⟨p, 34, none⟩ (.bool false) = w1 at t1 ⊢
  clear c19 c34 f34
  have c19 : w1.cell? ⟨p, 19, none⟩ = some (.func (.func 44) #[] #[]) := by have := t1.blk.cell 19; simp only [Ax.cells, hpc, stFn] at this; exact this
  go_wp2_with (go_at_call 44; refine (hc w1 t1).mono ?_; rintro e w2 ⟨rfl, a', t2, hp6, q2⟩; have d19 : w2.cell? ⟨p, 19, none⟩ = some (stFn a'.pc) := t2.blk.cell 19; have e2 := fnEq a'.pc hp6; have gd := fnGd)
  go_ret
  exact ⟨a', rfl, ⟨t2.two, t2.blk, t1.oth.trans t2.oth⟩, q2⟩
theorem sStep2 (h : TwoT ow w0 w b y s1 s2 N) (B : Blk w0 w p 112 a.cells) (hpc : a.pc = 2)
    (hc : ∀ w1, To ow w0 w w1 b y p s1 s2 N ({ a with hit := false } : Ax) → Calls Tryz.prog 75 #[pt p, pt b] w1 fun e w' => e = .returned (.tuple #[]) ∧ ∃ a' : Ax, To ow w0 w1 w' b y p s' s2 (N + 1) a' ∧ a'.pc ≤ 6 ∧ Q w' a') :
    Calls Tryz.prog 18 #[pt p, pt b] w fun e w' => ∃ a' : Ax, e = .returned (.bool (a'.pc == 0)) ∧ To ow w0 w w' b y p s' s2 (N + 1) a' ∧ Q w' a' := by
  have c19 : w.cell? ⟨p, 19, none⟩ = some (.func (.func 75) #[] #[]) := by have := B.cell 19; simp only [Ax.cells, hpc, stFn] at this; exact this
  have n1 : ∀ w, (binOp .neq 103 (.func (.func 75) #[] #[]) .nilFunc).run Tryz.prog w = .ok (.bool true) w := fun _ => by kernel_rfl
  have c34 : w.cell? ⟨p, 34, none⟩ = some (.bool a.hit) := B.cell 34
  have f34 := B.free 34
  have t1 : To ow w0 w (w.setCell ⟨p, 34, none⟩ (.bool false)) b y p s1 s2 N ({ a with hit := false } : Ax) := (⟨h, B, Oth.refl _ _⟩ : To ow w0 w w b y p s1 s2 N a).kept (Kept.setCell [p] _ _ _ (by simp)) (B.s_hit false)
  go_enter Tryz.func18, Tryz.ntmps18
  go_upto_region 3 with (fail)
  generalize w.setCell ⟨p, 34, none⟩ (.bool false) = w1 at t1 ⊢
  clear c19 c34 f34
  have c19 : w1.cell? ⟨p, 19, none⟩ = some (.func (.func 75) #[] #[]) := by have := t1.blk.cell 19; simp only [Ax.cells, hpc, stFn] at this; exact this
  go_wp2_with (go_at_call 75; refine (hc w1 t1).mono ?_; rintro e w2 ⟨rfl, a', t2, hp6, q2⟩; have d19 : w2.cell? ⟨p, 19, none⟩ = some (stFn a'.pc) := t2.blk.cell 19; have e2 := fnEq a'.pc hp6; have gd := fnGd)
  go_ret
  exact ⟨a', rfl, ⟨t2.two, t2.blk, t1.oth.trans t2.oth⟩, q2⟩
theorem sStep3 (h : TwoT ow w0 w b y s1 s2 N) (B : Blk w0 w p 112 a.cells) (hpc : a.pc = 3)
    (hc : ∀ w1, To ow w0 w w1 b y p s1 s2 N ({ a with hit := false } : Ax) → Calls Tryz.prog 72 #[pt p, pt b] w1 fun e w' => e = .returned (.tuple #[]) ∧ ∃ a' : Ax, To ow w0 w1 w' b y p s' s2 (N + 1) a' ∧ a'.pc ≤ 6 ∧ Q w' a') :
    Calls Tryz.prog 18 #[pt p, pt b] w fun e w' => ∃ a' : Ax, e = .returned (.bool (a'.pc == 0)) ∧ To ow w0 w w' b y p s' s2 (N + 1) a' ∧ Q w' a' := by
  have c19 : w.cell? ⟨p, 19, none⟩ = some (.func (.func 72) #[] #[]) := by have := B.cell 19; simp only [Ax.cells, hpc, stFn] at this; exact this
  have n1 : ∀ w, (binOp .neq 103 (.func (.func 72) #[] #[]) .nilFunc).run Tryz.prog w = .ok (.bool true) w := fun _ => by kernel_rfl
  have c34 : w.cell? ⟨p, 34, none⟩ = some (.bool a.hit) := B.cell 34
  have f34 := B.free 34
  have t1 : To ow w0 w (w.setCell ⟨p, 34, none⟩ (.bool false)) b y p s1 s2 N ({ a with hit := false } : Ax) := (⟨h, B, Oth.refl _ _⟩ : To ow w0 w w b y p s1 s2 N a).kept (Kept.setCell [p] _ _ _ (by simp)) (B.s_hit false)
  go_enter Tryz.func18, Tryz.ntmps18
  go_upto_region 3 with (fail)
  generalize w.setCell ⟨p, 34, none⟩ (.bool false) = w1 at t1 ⊢
  clear c19 c34 f34
  have c19 : w1.cell? ⟨p, 19, none⟩ = some (.func (.func 72) #[] #[]) := by have := t1.blk.cell 19; simp only [Ax.cells, hpc, stFn] at this; exact this
  go_wp2_with (go_at_call 72; refine (hc w1 t1).mono ?_; rintro e w2 ⟨rfl, a', t2, hp6, q2⟩; have d19 : w2.cell? ⟨p, 19, none⟩ = some (stFn a'.pc) := t2.blk.cell 19; have e2 := fnEq a'.pc hp6; have gd := fnGd)
  go_ret
  exact ⟨a', rfl, ⟨t2.two, t2.blk, t1.oth.trans t2.oth⟩, q2⟩
theorem sStep4 (h : TwoT ow w0 w b y s1 s2 N) (B : Blk w0 w p 112 a.cells) (hpc : a.pc = 4)
    (hc : ∀ w1, To ow w0 w w1 b y p s1 s2 N ({ a with hit := false } : Ax) → Calls Tryz.prog 93 #[pt p, pt b] w1 fun e w' => e = .returned (.tuple #[]) ∧ ∃ a' : Ax, To ow w0 w1 w' b y p s' s2 (N + 1) a' ∧ a'.pc ≤ 6 ∧ Q w' a') :
    Calls Tryz.prog 18 #[pt p, pt b] w fun e w' => ∃ a' : Ax, e = .returned (.bool (a'.pc == 0)) ∧ To ow w0 w w' b y p s' s2 (N + 1) a' ∧ Q w' a' := by
  have c19 : w.cell? ⟨p, 19, none⟩ = some (.func (.func 93) #[] #[]) := by have := B.cell 19; simp only [Ax.cells, hpc, stFn] at this; exact this
  have n1 : ∀ w, (binOp .neq 103 (.func (.func 93) #[] #[]) .nilFunc).run Tryz.prog w = .ok (.bool true) w := fun _ => by kernel_rfl
  have c34 : w.cell? ⟨p, 34, none⟩ = some (.bool a.hit) := B.cell 34
  have f34 := B.free 34
  have t1 : To ow w0 w (w.setCell ⟨p, 34, none⟩ (.bool false)) b y p s1 s2 N ({ a with hit := false } : Ax) := (⟨h, B, Oth.refl _ _⟩ : To ow w0 w w b y p s1 s2 N a).kept (Kept.setCell [p] _ _ _ (by simp)) (B.s_hit false)
  go_enter Tryz.func18, Tryz.ntmps18
  go_upto_region 3 with (fail)
  generalize w.setCell ⟨p, 34, none⟩ (.bool false) = w1 at t1 ⊢
  clear c19 c34 f34
  have c19 : w1.cell? ⟨p, 19, none⟩ = some (.func (.func 93) #[] #[]) := by have := t1.blk.cell 19; simp only [Ax.cells, hpc, stFn] at this; exact this
  go_wp2_with (go_at_call 93; refine (hc w1 t1).mono ?_; rintro e w2 ⟨rfl, a', t2, hp6, q2⟩; have d19 : w2.cell? ⟨p, 19, none⟩ = some (stFn a'.pc) := t2.blk.cell 19; have e2 := fnEq a'.pc hp6; have gd := fnGd)
  go_ret
  exact ⟨a', rfl, ⟨t2.two, t2.blk, t1.oth.trans t2.oth⟩, q2⟩
theorem sStep5 (h : TwoT ow w0 w b y s1 s2 N) (B : Blk w0 w p 112 a.cells) (hpc : a.pc = 5)
    (hc : ∀ w1, To ow w0 w w1 b y p s1 s2 N ({ a with hit := false } : Ax) → Calls Tryz.prog 42 #[pt p, pt b] w1 fun e w' => e = .returned (.tuple #[]) ∧ ∃ a' : Ax, To ow w0 w1 w' b y p s' s2 (N + 1) a' ∧ a'.pc ≤ 6 ∧ Q w' a') :
    Calls Tryz.prog 18 #[pt p, pt b] w fun e w' => ∃ a' : Ax, e = .returned (.bool (a'.pc == 0)) ∧ To ow w0 w w' b y p s' s2 (N + 1) a' ∧ Q w' a' := by
  have c19 : w.cell? ⟨p, 19, none⟩ = some (.func (.func 42) #[] #[]) := by have := B.cell 19; simp only [Ax.cells, hpc, stFn] at this; exact this
  have n1 : ∀ w, (binOp .neq 103 (.func (.func 42) #[] #[]) .nilFunc).run Tryz.prog w = .ok (.bool true) w := fun _ => by kernel_rfl
  have c34 : w.cell? ⟨p, 34, none⟩ = some (.bool a.hit) := B.cell 34
  have f34 := B.free 34
  have t1 : To ow w0 w (w.setCell ⟨p, 34, none⟩ (.bool false)) b y p s1 s2 N ({ a with hit := false } : Ax) := (⟨h, B, Oth.refl _ _⟩ : To ow w0 w w b y p s1 s2 N a).kept (Kept.setCell [p] _ _ _ (by simp)) (B.s_hit false)
  go_enter Tryz.func18, Tryz.ntmps18
  go_upto_region 3 with (fail)
  generalize w.setCell ⟨p, 34, none⟩ (.bool false) = w1 at t1 ⊢
  clear c19 c34 f34
  have c19 : w1.cell? ⟨p, 19, none⟩ = some (.func (.func 42) #[] #[]) := by have := t1.blk.cell 19; simp only [Ax.cells, hpc, stFn] at this; exact this
  go_wp2_with (go_at_call 42; refine (hc w1 t1).mono ?_; rintro e w2 ⟨rfl, a', t2, hp6, q2⟩; have d19 : w2.cell? ⟨p, 19, none⟩ = some (stFn a'.pc) := t2.blk.cell 19; have e2 := fnEq a'.pc hp6; have gd := fnGd)
  go_ret
  exact ⟨a', rfl, ⟨t2.two, t2.blk, t1.oth.trans t2.oth⟩, q2⟩
theorem sStep6 (h : TwoT ow w0 w b y s1 s2 N) (B : Blk w0 w p 112 a.cells) (hpc : a.pc = 6)
    (hc : ∀ w1, To ow w0 w w1 b y p s1 s2 N ({ a with hit := false } : Ax) → Calls Tryz.prog 88 #[pt p, pt b] w1 fun e w' => e = .returned (.tuple #[]) ∧ ∃ a' : Ax, To ow w0 w1 w' b y p s' s2 (N + 1) a' ∧ a'.pc ≤ 6 ∧ Q w' a') :
    Calls Tryz.prog 18 #[pt p, pt b] w fun e w' => ∃ a' : Ax, e = .returned (.bool (a'.pc == 0)) ∧ To ow w0 w w' b y p s' s2 (N + 1) a' ∧ Q w' a' := by
  have c19 : w.cell? ⟨p, 19, none⟩ = some (.func (.func 88) #[] #[]) := by have := B.cell 19; simp only [Ax.cells, hpc, stFn] at this; exact this
  have n1 : ∀ w, (binOp .neq 103 (.func (.func 88) #[] #[]) .nilFunc).run Tryz.prog w = .ok (.bool true) w := fun _ => by kernel_rfl
  have c34 : w.cell? ⟨p, 34, none⟩ = some (.bool a.hit) := B.cell 34
  have f34 := B.free 34
  have t1 : To ow w0 w (w.setCell ⟨p, 34, none⟩ (.bool false)) b y p s1 s2 N ({ a with hit := false } : Ax) := (⟨h, B, Oth.refl _ _⟩ : To ow w0 w w b y p s1 s2 N a).kept (Kept.setCell [p] _ _ _ (by simp)) (B.s_hit false)
  go_enter Tryz.func18, Tryz.ntmps18
  go_upto_region 3 with (fail)
  generalize w.setCell ⟨p, 34, none⟩ (.bool false) = w1 at t1 ⊢
  clear c19 c34 f34
  have c19 : w1.cell? ⟨p, 19, none⟩ = some (.func (.func 88) #[] #[]) := by have := t1.blk.cell 19; simp only [Ax.cells, hpc, stFn] at this; exact this
  go_wp2_with (go_at_call 88; refine (hc w1 t1).mono ?_; rintro e w2 ⟨rfl, a', t2, hp6, q2⟩; have d19 : w2.cell? ⟨p, 19, none⟩ = some (stFn a'.pc) := t2.blk.cell 19; have e2 := fnEq a'.pc hp6; have gd := fnGd)
  go_ret
  exact ⟨a', rfl, ⟨t2.two, t2.blk, t1.oth.trans t2.oth⟩, q2⟩
end
structure Cm (w0 w : World) (p : Nat) (x : Cw) : Prop where
  it : ∃ a : Ax, Blk w0 w p 112 a.cells ∧ a.Is w x
  ok : x.Ok
section
variable {ow : Bool} {w0 w w' : World} {b y p q : Nat} {s1 s2 : St} {N : Nat} {x : Cw} {T : TypeId} {cs : Array Value} {F : List Nat}
theorem Cm.oth (h : Cm w0 w p x) (o : Oth F w w') (hp : p ∉ F) (hF : ∀ q ∈ F, ∃ cs T fz, w.heap[q]? = some (.cells cs T fz) ∧ T ∉ BTs) : Cm w0 w' p x := by
  obtain ⟨⟨a, B, I⟩, ok⟩ := h
  exact ⟨⟨a, B.oth o hp, I.oth o hF⟩, ok⟩
theorem Cm.oth0 (h : Cm w0 w p x) (o : Oth [] w w') : Cm w0 w' p x := h.oth o (by simp) (by simp)
theorem Cm.oth1 (h : Cm w0 w p x) (o : Oth [q] w w') (hq : Blk w0 w q T cs) (hT : T ∉ BTs) (hp : p ≠ q) : Cm w0 w' p x := h.oth o (by simpa using hp) fun k hk => by simp at hk; subst hk; exact ⟨_, _, _, hq.at_, hT⟩
theorem Cm.below (h : Cm w0 w p x) (hb : Below w.heap.size w w') : Cm w0 w' p x := h.oth0 (Oth.below hb)
theorem Cm.blk (h : Cm w0 w p x) : ∃ cs, Blk w0 w p 112 cs := by obtain ⟨⟨a, B, I⟩, ok⟩ := h; exact ⟨_, B⟩
theorem Cm.lt (h : Cm w0 w p x) : p < w.heap.size := by obtain ⟨cs, B⟩ := h.blk; exact B.lt
theorem is_pc {a : Ax} (I : a.Is w x) : a.pc ≤ 6 ∧ (a.pc == 0) = x.done := by
  cases x with
  | fin b o => rw [I.1]; exact ⟨by omega, rfl⟩
  | hd r sh fx => rw [I.1]; exact ⟨by omega, rfl⟩
  | bl r sh fx => rw [I.1]; exact ⟨by omega, rfl⟩
  | rd r sh fx l => rw [I.1]; exact ⟨by omega, rfl⟩
  | sw r sh fx l z => rw [I.1]; exact ⟨by omega, rfl⟩
  | pl x => rw [I.1]; exact ⟨by omega, rfl⟩
  | dr b x => rw [I.1]; exact ⟨by omega, rfl⟩
/-- what a method leaves -/
def Left (ow : Bool) (w0 w : World) (b y p : Nat) (s' s2 : St) (N : Nat) (x' : Cw) (e : Ending) (w' : World) : Prop := e = .returned (.tuple #[]) ∧ ∃ a' : Ax, To ow w0 w w' b y p s' s2 N a' ∧ a'.pc ≤ 6 ∧ a'.Is w' x'
theorem Left.of {s' : St} {x' : Cw} {a' : Ax} (t : To ow w0 w w' b y p s' s2 N a') (I : a'.Is w' x') : Left ow w0 w b y p s' s2 N x' (.returned (.tuple #[])) w' := ⟨rfl, a', t, (is_pc I).1, I⟩
theorem oth_rep {a : Ax} {w1 : World} {k : Option K} {v : Value} (B : Blk w0 w p 112 a.cells) (o : Oth [p] w w1) (R : RepO w k v) : RepO w1 k v := R.oth o fun q hq => by simp at hq; subst hq; exact ⟨_, _, _, B.at_, by decide⟩
section
variable {a : Ax} {r : Rq} {sh fx : Bool}
theorem mHd (h : TwoT ow w0 w b y s1 s2 N) (B : Blk w0 w p 112 a.cells) (hN : N + 5 < 1000000) (hit : a.hit = false) (I : a.On r sh fx) (ok : r.Ok2) :
    Calls Tryz.prog 44 #[pt p, pt b] w fun e w' => Left ow w0 w b y p ((Cw.hd r sh fx).mem s1) s2 (N + 1) ((Cw.hd r sh fx).next s1) e w' := by
  obtain ⟨i1, rfl, i3, i4, i5, i6⟩ := I
  have fd0 := ok.2.2.2.1
  refine rh h B hN ok i3 i1 rfl rfl rfl rfl rfl rfl rfl rfl ?_ ?_ ?_ ?_ ?_
  · intro q1 w' t
    have en : (Cw.hd a.r sh fx).next s1 = .fin false ⟨15, Vl.zero, false⟩ := by simp only [Cw.next]; rw [if_pos (.inr q1)]
    rw [en]
    exact Left.of t ⟨rfl, hit, rfl⟩
  · intro q1 q2 w' v t R
    have h0 : ¬ (a.r.fd < 0 ∨ pN (s1.got a.r.at_) ≤ a.r.fd) := by omega
    have en : (Cw.hd a.r sh fx).next s1 = Cw.go false a.r fx (pL (s1.got a.r.at_)) := by simp only [Cw.next]; rw [if_neg h0, if_pos q2]
    rw [en]
    rw [i5] at t R
    exact Left.of t ⟨rfl, hit, i6, rfl, R⟩
  · intro q1 q2 w' t
    have h0 : ¬ (a.r.fd < 0 ∨ pN (s1.got a.r.at_) ≤ a.r.fd) := by omega
    have en : (Cw.hd a.r sh fx).next s1 = .rd a.r sh fx (pL (s1.got a.r.at_)) := by simp only [Cw.next]; rw [if_neg h0, if_neg (show ¬ pT (s1.got a.r.at_) = 2 by omega), if_pos q2]
    rw [en]
    exact Left.of t ⟨rfl, hit, ⟨i1, rfl, i3, i4, i5, i6⟩, rfl⟩
  · intro q1 q2 q3 q4 w' v t R
    have h0 : ¬ (a.r.fd < 0 ∨ pN (s1.got a.r.at_) ≤ a.r.fd) := by omega
    have h5 : ¬ (pT (s1.got a.r.at_) ≠ 5 ∧ lays a.r) := fun e => q4.elim e.1 fun e' => e' e.2
    have en : (Cw.hd a.r sh fx).next s1 = Cw.go false a.r fx a.r.at_ := by simp only [Cw.next]; rw [if_neg h0, if_neg q2, if_neg q3, if_neg h5]
    rw [en]
    rw [i5] at t R
    exact Left.of t ⟨rfl, hit, i6, rfl, R⟩
  · intro q1 q2 q3 q4 q5 w' t
    have h0 : ¬ (a.r.fd < 0 ∨ pN (s1.got a.r.at_) ≤ a.r.fd) := by omega
    have en : (Cw.hd a.r sh fx).next s1 = .bl a.r sh fx := by simp only [Cw.next]; rw [if_neg h0, if_neg q2, if_neg q3, if_pos ⟨q4, q5⟩]
    rw [en]
    exact Left.of t ⟨rfl, hit, ⟨i1, rfl, i3, i4, i5, i6⟩⟩
theorem mBl (h : TwoT ow w0 w b y s1 s2 N) (B : Blk w0 w p 112 a.cells) (hN : N + 5 < 1000000) (hit : a.hit = false) (I : a.On r sh fx) (ok : r.Ok2) :
    Calls Tryz.prog 75 #[pt p, pt b] w fun e w' => Left ow w0 w b y p ((Cw.bl r sh fx).mem s1) s2 (N + 1) ((Cw.bl r sh fx).next s1) e w' := by
  obtain ⟨i1, rfl, i3, i4, i5, i6⟩ := I
  refine rb h B hN ok i1 rfl rfl rfl rfl rfl ?_ ?_
  · intro h1 w' t
    have en : (Cw.bl a.r sh fx).next s1 = .fin false ⟨3, Vl.zero, false⟩ := by simp only [Cw.next]; rw [if_pos h1]
    rw [en]
    exact Left.of t ⟨rfl, hit, rfl⟩
  · intro h1 w' v t R
    have en : (Cw.bl a.r sh fx).next s1 = Cw.go false a.r fx a.r.at_ := by simp only [Cw.next]; rw [if_neg h1]
    rw [en]
    rw [i5] at t R
    exact Left.of t ⟨rfl, hit, i6, rfl, R⟩
theorem mRd {l : Int} (h : TwoT ow w0 w b y s1 s2 N) (B : Blk w0 w p 112 a.cells) (hN : N + 5 < 1000000) (I : a.On r sh fx) (hl : a.l = l) (ok : r.Ok2) (hl2 : In12 l) :
    Calls Tryz.prog 72 #[pt p, pt b] w fun e w' => Left ow w0 w b y p ((Cw.rd r sh fx l).mem s1) s2 (N + 1) ((Cw.rd r sh fx l).next s1) e w' := by
  obtain ⟨i1, rfl, i3, i4, i5, i6⟩ := I
  subst hl
  have nx : (a.r.op = 2 ∨ a.r.op = 3 ∧ Vl.of (s1.got (a.r.at_ + 1 + a.r.fd)) = a.r.x) → ¬ a.r.op = 1 ∧ ¬ (a.r.op = 3 ∧ Vl.of (s1.got (a.r.at_ + 1 + a.r.fd)) ≠ a.r.x) := by
    rintro (e | ⟨e, e'⟩)
    · exact ⟨by omega, fun e2 => by omega⟩
    · exact ⟨by omega, fun e2 => e2.2 e'⟩
  refine rf h B hN ok i3 hl2 rfl rfl rfl ?_ ?_ ?_ ?_ ?_
  · intro h1 w' v t R
    have en : (Cw.rd a.r sh fx a.l).next s1 = Cw.go true a.r fx a.l := by simp only [Cw.next, Cw.seen]; rw [if_pos h1]
    rw [en]
    rw [i5] at t R
    exact Left.of t ⟨rfl, rfl, i6, rfl, R⟩
  · intro h1 o1 w' t
    have en : (Cw.rd a.r sh fx a.l).next s1 = .fin true ⟨0, Vl.of (s1.got (a.r.at_ + 1 + a.r.fd)), false⟩ := by simp only [Cw.next, Cw.seen]; rw [if_neg h1, if_pos o1]
    rw [en]
    exact Left.of t ⟨rfl, rfl, rfl⟩
  · intro h1 o1 h2 w' t
    have en : (Cw.rd a.r sh fx a.l).next s1 = .fin true Ou.zero := by simp only [Cw.next, Cw.seen]; rw [if_neg h1, if_neg (show ¬ a.r.op = 1 by omega), if_pos ⟨o1, h2⟩]
    rw [en]
    exact Left.of t ⟨rfl, rfl, rfl⟩
  · intro h1 h2 h3 w' t
    have h4 : sh = true ∨ a.r.y = nine := h3.elim .inr fun e => .inl (i4.symm.trans e)
    have en : (Cw.rd a.r sh fx a.l).next s1 = .fin true ⟨3, Vl.zero, false⟩ := by simp only [Cw.next, Cw.seen]; rw [if_neg h1, if_neg (nx h2).1, if_neg (nx h2).2, if_pos h4]
    rw [en]
    exact Left.of t ⟨rfl, rfl, rfl⟩
  · intro h1 h2 h3 h4 w' t
    have h5 : ¬ (sh = true ∨ a.r.y = nine) := fun e => e.elim (fun e => absurd (e.symm.trans (i4.symm.trans h4)) (by decide)) h3
    have en : (Cw.rd a.r sh fx a.l).next s1 = .sw a.r sh fx a.l (s1.got (a.r.at_ + 1 + a.r.fd)) := by simp only [Cw.next, Cw.seen]; rw [if_neg h1, if_neg (nx h2).1, if_neg (nx h2).2, if_neg h5]
    rw [en]
    exact Left.of t ⟨rfl, rfl, ⟨i1, rfl, i3, i4, i5, i6⟩, rfl, rfl⟩
theorem mSw {l z : Int} (h : TwoT ow w0 w b y s1 s2 N) (B : Blk w0 w p 112 a.cells) (hN : N + 5 < 1000000) (hit : a.hit = false) (I : a.On r sh fx) (hl : a.l = l) (hz : a.z = z) (ok : r.Ok2) :
    Calls Tryz.prog 93 #[pt p, pt b] w fun e w' => Left ow w0 w b y p ((Cw.sw r sh fx l z).mem s1) s2 (N + 1) ((Cw.sw r sh fx l z).next s1) e w' := by
  obtain ⟨i1, rfl, i3, i4, i5, i6⟩ := I
  subst hl hz
  refine sf h B hN ok rfl rfl rfl rfl ?_ ?_
  · intro h2 w' t
    have en : (Cw.sw a.r sh fx a.l a.z).next s1 = .rd a.r sh fx a.l := by simp only [Cw.next, h2]; rfl
    rw [en]
    exact Left.of t ⟨rfl, hit, ⟨i1, rfl, i3, i4, i5, i6⟩, rfl⟩
  · intro h2 w' t
    have en : (Cw.sw a.r sh fx a.l a.z).next s1 = .fin true ⟨0, Vl.zero, a.r.op == 3⟩ := by simp only [Cw.next, h2]; rfl
    rw [en]
    exact Left.of t ⟨rfl, rfl, rfl⟩
theorem mPl {x : Sx} (h : TwoT ow w0 w b y s1 s2 N) (B : Blk w0 w p 112 a.cells) (hN : N + 5 < 1000000) (ho : a.o = Ou.zero) (hpc : a.pc = 5) (hx : a.p = x) (R : RepO w x.k a.vp) (ok : x.Ok) :
    Calls Tryz.prog 42 #[pt p, pt b] w fun e w' => Left ow w0 w b y p ((Cw.pl x).mem s1) s2 (N + 1) ((Cw.pl x).next s1) e w' := by
  refine stP h B hN hx R ok rfl rfl ?_ ?_
  · intro hd w' v t R'
    have en : (Cw.pl x).next s1 = .pl (x.next s1) := by simp only [Cw.next, Cw.onP, hd]; rfl
    rw [en]
    exact Left.of t ⟨hpc, rfl, ho, rfl, R'⟩
  · intro hd w' v t R'
    have en : (Cw.pl x).next s1 = .fin (x.next s1).hit (x.next s1).o := by simp only [Cw.next, Cw.onP, hd]; rfl
    rw [en]
    exact Left.of t ⟨rfl, rfl, rfl⟩
theorem mDr {x : Sx} {c : Bool} (h : TwoT ow w0 w b y s1 s2 N) (B : Blk w0 w p 112 a.cells) (hN : N + 5 < 1000000) (ho : a.o = Ou.zero) (hpc : a.pc = 6) (hx : a.d = x) (R : RepO w x.k a.vd) (ok : x.Ok) :
    Calls Tryz.prog 88 #[pt p, pt b] w fun e w' => Left ow w0 w b y p ((Cw.dr c x).mem s1) s2 (N + 1) ((Cw.dr c x).next s1) e w' := by
  refine stD h B hN hx R ok rfl rfl ?_ ?_
  · intro hd w' v t R'
    have en : (Cw.dr c x).next s1 = .dr (x.next s1).hit (x.next s1) := by simp only [Cw.next, Cw.onD, hd]; rfl
    rw [en]
    exact Left.of t ⟨hpc, rfl, ho, rfl, R'⟩
  · intro hd w' v t R'
    have en : (Cw.dr c x).next s1 = .fin (x.next s1).hit (x.next s1).o := by simp only [Cw.next, Cw.onD, hd]; rfl
    rw [en]
    exact Left.of t ⟨rfl, rfl, rfl⟩
end
/-- it steps -/
theorem tC (h : TwoT ow w0 w b y s1 s2 N) (m : Cm w0 w p x) (hN : N + 5 < 1000000) :
    Calls Tryz.prog 18 #[pt p, pt b] w fun e w' => e = .returned (.bool (x.next s1).done) ∧ TwoT ow w0 w' b y (x.mem s1) s2 (N + 1) ∧ Cm w0 w' p (x.next s1) ∧ Oth [p] w w' := by
  have hR := h.rng1
  obtain ⟨⟨a, B, I⟩, ok⟩ := m
  have okn := ok.next hR
  have fin : ∀ {e : Ending} {w' : World}, (∃ a' : Ax, e = .returned (.bool (a'.pc == 0)) ∧ To ow w0 w w' b y p (x.mem s1) s2 (N + 1) a' ∧ a'.Is w' (x.next s1)) → e = .returned (.bool (x.next s1).done) ∧ TwoT ow w0 w' b y (x.mem s1) s2 (N + 1) ∧ Cm w0 w' p (x.next s1) ∧ Oth [p] w w' := by
    rintro e w' ⟨a', rfl, t, I'⟩
    exact ⟨by rw [(is_pc I').2], t.two, ⟨⟨a', t.blk, I'⟩, okn⟩, t.oth⟩
  cases x with
  | fin c o =>
    refine (sStep0 B I.1).mono ?_
    rintro e w' ⟨rfl, rfl⟩
    exact ⟨rfl, h.mono (by omega), ⟨⟨a, B, I⟩, ok⟩, Oth.refl _ _⟩
  | hd r sh fx => exact (sStep1 (Q := fun w' a' => a'.Is w' ((Cw.hd r sh fx).next s1)) h B I.1 fun w1 t1 => mHd t1.two t1.blk hN rfl ⟨I.2.2.n, I.2.2.r, I.2.2.al, I.2.2.sh, I.2.2.h, I.2.2.o⟩ ok).mono fun _ _ => fin
  | bl r sh fx => exact (sStep2 (Q := fun w' a' => a'.Is w' ((Cw.bl r sh fx).next s1)) h B I.1 fun w1 t1 => mBl t1.two t1.blk hN rfl ⟨I.2.2.n, I.2.2.r, I.2.2.al, I.2.2.sh, I.2.2.h, I.2.2.o⟩ ok).mono fun _ _ => fin
  | rd r sh fx l => exact (sStep3 (Q := fun w' a' => a'.Is w' ((Cw.rd r sh fx l).next s1)) h B I.1 fun w1 t1 => mRd t1.two t1.blk hN ⟨I.2.2.1.n, I.2.2.1.r, I.2.2.1.al, I.2.2.1.sh, I.2.2.1.h, I.2.2.1.o⟩ I.2.2.2 ok.1 ok.2).mono fun _ _ => fin
  | sw r sh fx l z => exact (sStep4 (Q := fun w' a' => a'.Is w' ((Cw.sw r sh fx l z).next s1)) h B I.1 fun w1 t1 => mSw t1.two t1.blk hN rfl ⟨I.2.2.1.n, I.2.2.1.r, I.2.2.1.al, I.2.2.1.sh, I.2.2.1.h, I.2.2.1.o⟩ I.2.2.2.1 I.2.2.2.2 ok.1).mono fun _ _ => fin
  | pl x => exact (sStep5 (Q := fun w' a' => a'.Is w' ((Cw.pl x).next s1)) h B I.1 fun w1 t1 => mPl t1.two t1.blk hN I.2.2.1 I.1 I.2.2.2.1 (oth_rep B t1.oth I.2.2.2.2) ok.1).mono fun _ _ => fin
  | dr c x => exact (sStep6 (Q := fun w' a' => a'.Is w' ((Cw.dr c x).next s1)) h B I.1 fun w1 t1 => mDr t1.two t1.blk hN I.2.2.1 I.1 I.2.2.2.1 (oth_rep B t1.oth I.2.2.2.2) ok.1).mono fun _ _ => fin
theorem cCHit (m : Cm w0 w p x) : Calls Tryz.prog 20 #[pt p] w fun e w' => e = .returned (.bool x.hit) ∧ w' = w := by
  obtain ⟨⟨a, B, I⟩, ok⟩ := m
  rw [← I.hit]
  have c1 : w.cell? ⟨p, 34, none⟩ = some (.bool a.hit) := B.cell 34
  go_enter Tryz.func20, Tryz.ntmps20
  go_wp2
  go_ret
  exact ⟨rfl, rfl⟩
theorem cCResult (m : Cm w0 w p x) : Calls Tryz.prog 21 #[pt p] w fun e w' => e = .returned x.o.val ∧ Below w.heap.size w w' := by
  obtain ⟨⟨a, B, I⟩, ok⟩ := m
  rw [← I.out]
  have c2 : w.cell? ⟨p, 35, none⟩ = some (.int .i64 a.o.c) := B.cell 35
  have c3 : w.cell? ⟨p, 36, none⟩ = some (.int .i64 a.o.v.k) := B.cell 36
  have c4 : w.cell? ⟨p, 37, none⟩ = some (.int .i64 a.o.v.n) := B.cell 37
  have c5 : w.cell? ⟨p, 38, none⟩ = some (.bool a.o.y) := B.cell 38
  have l := B.lt
  go_enter Tryz.func21, Tryz.ntmps21
  go_wp2
  exact bodyPost_ret (v := a.o.val) (by simp [results, Tryz.results21, go_sem, Ou.val]) rfl ⟨rfl, by go_grown⟩
end
/-- one that was made just now -/
structure MadeC (w w' : World) (p : Nat) (x : Cw) : Prop where
  blk : ∃ a : Ax, w'.heap[p]? = some (.cells a.cells 112 (0, 0)) ∧ a.Is w' x
  bel : Below w.heap.size w w'
  new : w.heap.size ≤ p
theorem MadeC.cm {w0 w w' : World} {p : Nat} {x : Cw} (M : MadeC w w' p x) (hs : w0.heap.size ≤ w.heap.size) (ok : x.Ok) : Cm w0 w' p x := by
  obtain ⟨a, e, I⟩ := M.blk
  exact ⟨⟨a, ⟨e, Nat.le_trans hs M.new, by decide⟩, I⟩, ok⟩
def Ax.zero (n : Pn) (r : Rq) (al : Vl) (sh : Bool) (h : Hw) (pc : Nat) (p : Sx) (vp : Value) (o : Ou) : Ax := ⟨n, r, al, sh, h, pc, 0, 0, p, vp, ⟨none, false, Ou.zero⟩, .nilFunc, false, o⟩
section
set_option maxHeartbeats 2000000
theorem cNewC (r : Rq) (e : En) (w : World) (hr : r.Ok) (hal : e.al = 9) :
    Calls Tryz.prog 13 #[.agg #[.int .i64 4, .int .i64 4, .int .i64 14, .int .i64 32, .int .i64 160], .agg #[.int .i64 r.op, .int .i64 r.at_, .int .i64 r.fd, .int .i64 r.x.k, .int .i64 r.x.n, .int .i64 r.y.k, .int .i64 r.y.n], .agg #[.int .i64 e.md, .int .i64 e.mr, .int .i64 e.al]] w fun e' w' => ∃ p, e' = .returned (pt p) ∧ MadeC w w' p (Cw.new r e) := by
  unfold Cw.new
  by_cases h : r.at_ = 0
  · rw [if_pos h]
    have q : (r.at_ == 0) = true := by simp [h]
    clear h hal
    go_enter Tryz.func13, Tryz.ntmps13
    go_wp2
    go_ret
    exact ⟨_, rfl, ⟨Ax.zero ⟨0, 0, 0, 0, 0⟩ ⟨0, 0, 0, ⟨0, 0⟩, ⟨0, 0⟩⟩ ⟨0, 0⟩ false ⟨false, false, false, 0⟩ 0 ⟨none, false, Ou.zero⟩ .nilFunc ⟨14, Vl.zero, false⟩, by first | exact newAt (by simp) | exact newAt rfl, rfl, rfl, rfl⟩, by go_grown, by first | omega | (simp; omega) | simp⟩
  · rw [if_neg h]
    have q : (r.at_ == 0) = false := by simpa using h
    by_cases h5 : e.md < 5
    · rw [if_pos h5]
      have q2 : decide (e.md < 5) = true := by simpa using h5
      have hpl : Sx.plain r e = ⟨some (.plain r e), false, Ou.zero⟩ := by unfold Sx.plain; rw [if_neg h]
      clear h5 h hal
      go_enter Tryz.func13, Tryz.ntmps13
      go_wp2_with (go_at_call 43; refine (cNewPlain r e _).mono ?_; rintro e' w1 ⟨p1, rfl, M⟩; rw [hpl] at M; have hb : Below w.heap.size w w1 := bel_trans (by go_grown) M.bel; obtain ⟨v, eb, R⟩ := M.blk; obtain ⟨nf, cf, hv⟩ := Rep.fn R; rw [hv] at eb R; have x0 : w1.cell? ⟨p1, 0, none⟩ = some (.func (.func nf) #[] cf) := cell_of_row w1 _ _ _ _ _ eb; have x1 : w1.cell? ⟨p1, 1, none⟩ = some (.bool false) := cell_of_row w1 _ _ _ _ _ eb; have x2 : w1.cell? ⟨p1, 2, none⟩ = some (.int .i64 0) := cell_of_row w1 _ _ _ _ _ eb; have x3 : w1.cell? ⟨p1, 3, none⟩ = some (.int .i64 0) := cell_of_row w1 _ _ _ _ _ eb; have x4 : w1.cell? ⟨p1, 4, none⟩ = some (.int .i64 0) := cell_of_row w1 _ _ _ _ _ eb; have x5 : w1.cell? ⟨p1, 5, none⟩ = some (.bool false) := cell_of_row w1 _ _ _ _ _ eb; have hs1 := hb.size; clear M eb hv)
      go_ret
      rw [hpl]
      exact ⟨_, rfl, ⟨Ax.zero ⟨0, 0, 0, 0, 0⟩ ⟨0, 0, 0, ⟨0, 0⟩, ⟨0, 0⟩⟩ ⟨0, 0⟩ false ⟨false, false, false, 0⟩ 5 ⟨some (.plain r e), false, Ou.zero⟩ (.func (.func nf) #[] cf) Ou.zero, by first | exact newAt (by simp) | exact newAt rfl, rfl, rfl, rfl, rfl, Rep.below R ((Below.refl _ _).alloc (Nat.le_refl _) _)⟩, hb.alloc hs1 _, by first | exact hs1 | omega | (simp; omega) | simp⟩
    · rw [if_neg h5]
      have q2 : decide (e.md < 5) = false := by simpa using h5
      clear h5 h
      obtain ⟨fx, hfx⟩ : ∃ fx, (e.md == 8) = fx := ⟨_, rfl⟩
      obtain ⟨sh, hsh⟩ : ∃ sh, decide (7 ≤ e.md) = sh := ⟨_, rfl⟩
      rw [hfx, hsh, hal]
      clear hal
      go_enter Tryz.func13, Tryz.ntmps13
      go_wp2
      go_ret
      exact ⟨_, rfl, ⟨Ax.zero pn4 r nine sh (hwC fx) 1 ⟨none, false, Ou.zero⟩ .nilFunc Ou.zero, by first | exact newAt (by simp) | exact newAt rfl, rfl, rfl, rfl, rfl, rfl, rfl, rfl, rfl⟩, by go_grown, by first | omega | (simp; omega) | simp⟩
end
end Go.Proofs.YtmlgohknbjfciaaGreatDoor
