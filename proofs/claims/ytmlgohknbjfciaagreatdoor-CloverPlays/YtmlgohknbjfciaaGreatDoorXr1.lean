/-
  The reference's access, one theorem a step: the header.
-/
import Derived.Test.YtmlgohknbjfciaaGreatDoorXr
import Derived.WalkMore
import Derived.BigQuiet
namespace Go.Proofs.YtmlgohknbjfciaaGreatDoor
set_option linter.unusedVariables false
set_option linter.unusedSimpArgs false
set_option maxRecDepth 100000
open Go.ChangeShapes Go.WideShapes Go.RowKit
open H.Plain (hw pS pC pN pM pG pT pL mv)

section
variable {w0 w w' : World} {b y p : Nat} {s1 s2 : St} {N : Nat} {d : RC}
set_option maxHeartbeats 6000000
theorem xs1 {Q : Ending → World → Prop} (h : Two w0 w b y s1 s2 N) (B : Blk w0 w p 65 d.cells) (hN : N + 5 < 1000000) {z q0 q1 q2 q3 q4 q5 q6 : Int} {fx : Bool} (hfx : (d.e.md == 8) = fx) (hpc : d.pc = 1) (hr : d.r.Ok2) (hal : d.e.al = 9) (hn : d.n = pn4) (hz : s2.got d.r.at_ = z) (e0 : pS z = q0) (e1 : pC z = q1) (e2 : pN z = q2) (e3 : pM z = q3) (e4 : pG z = q4) (e5 : pT z = q5) (e6 : pL z = q6) (ke : Hid (q2 ≤ d.r.fd → ∀ w', XTo w0 w w' b y p s1 (s2.load d.r.at_) (N + 1) ({ d with sh := false, h := ⟨q0, q1, q2, q3, q4, q5, q6⟩, o := ⟨15, d.o.v, d.o.y⟩, pc := 0 } : RC) → Q (.returned (.bool true)) w')) (km : Hid (d.r.fd < q2 → q5 = 2 → ∀ w' pd, w.heap.size ≤ pd → XTo w0 w w' b y p s1 (s2.load d.r.at_) (N + 1) ({ d with sh := false, h := ⟨q0, q1, q2, q3, q4, q5, q6⟩, pc := 9, y := pt pd } : RC) → Blk w0 w' pd 128 (RD.new (q6 + 1 + d.r.fd) d.r (hwC fx)).cells → Q (.returned (.bool false)) w')) (kc : Hid (d.r.fd < q2 → q5 = 4 → ∀ w', XTo w0 w w' b y p s1 (s2.load d.r.at_) (N + 1) ({ d with sh := false, h := ⟨q0, q1, q2, q3, q4, q5, q6⟩, pc := 3 } : RC) → Q (.returned (.bool false)) w')) (ks : Hid (d.r.fd < q2 → q5 ≠ 2 → q5 ≠ 4 → (q5 = 5 ∨ d.r.op = 1 ∨ d.r.y ≠ nine) → ∀ w' pd, w.heap.size ≤ pd → XTo w0 w w' b y p s1 (s2.load d.r.at_) (N + 1) ({ d with sh := false, h := ⟨q0, q1, q2, q3, q4, q5, q6⟩, pc := 9, y := pt pd } : RC) → Blk w0 w' pd 128 (RD.new (d.r.at_ + 1 + d.r.fd) d.r (hwC fx)).cells → Q (.returned (.bool false)) w')) (kb : Hid (d.r.fd < q2 → q5 ≠ 2 → q5 ≠ 4 → q5 ≠ 5 → d.r.op ≠ 1 → d.r.y = nine → ∀ w', XTo w0 w w' b y p s1 (s2.load d.r.at_) (N + 1) ({ d with sh := false, h := ⟨q0, q1, q2, q3, q4, q5, q6⟩, pc := 2 } : RC) → Q (.returned (.bool false)) w')) :
    Calls Tryz.prog 19 #[pt p, pt y] w fun e w' => Q e w' := by
  have hU : U64 z := hz ▸ h.rng2.got _
  have t0 : decide (d.r.fd < 0) = false := by have := hr.2.2.2.1; simpa using this
  have l0 := in12_pL z
  rw [e6] at l0
  obtain ⟨ye, hev⟩ : ∃ b, decide (d.r.y = nine) = b := ⟨_, rfl⟩
  have ev : ∀ w, (binOp .eql 38 (.agg #[.int .i64 d.r.y.k, .int .i64 d.r.y.n]) (.agg #[.int .i64 0, .int .i64 9])).run Tryz.prog w = .ok (.bool ye) w := fun w => by rw [← hev]; exact eqVal d.r.y nine w
  rcases hr.1 with hop | hop | hop
  all_goals (
    have c15 : w.cell? ⟨p, 15, none⟩ = some (.int .i64 1) := hpc ▸ B.cell 15
    have c26 : w.cell? ⟨p, 26, none⟩ = some (.bool d.sh) := B.cell 26
    have f26 := B.free 26
    have lp0 := B.lt
    have t2 : XTo w0 w (w.setCell ⟨p, 26, none⟩ (.bool false)) b y p s1 s2 N ({ d with sh := false } : RC) := (⟨h, B, Oth.refl _ _⟩ : XTo w0 w w b y p s1 s2 N d).kept (Kept.setCell [p] _ _ _ (by simp)) (B.r_sh false)
    go_enter Tryz.func19, Tryz.ntmps19
    go_upto_region 4 with (fail)
    generalize w.setCell ⟨p, 26, none⟩ (.bool false) = w2 at t2 ⊢
    clear c15 c26 f26
    have b2 := t2.blk
    have c14 : w2.cell? ⟨p, 14, none⟩ = some (.int .i64 9) := hal ▸ b2.cell 14
    go_upto_region 5 with (fail)
    have aS : Below w2.heap.size w2 (w2.alloc (.cells #[.int .i64 0, .int .i64 9] 38)) := (Below.refl _ _).alloc (Nat.le_refl _) _
    have t3 := t2.below aS
    have V3 : Blk w0 (w2.alloc (.cells #[.int .i64 0, .int .i64 9] 38)) w2.heap.size 38 #[.int .i64 0, .int .i64 9] := Blk.new t2.two.bel.size _ (by decide)
    generalize w2.alloc (.cells #[.int .i64 0, .int .i64 9] 38) = w3 at t3 V3 ⊢
    generalize w2.heap.size = sb at V3 ⊢
    clear aS c14 b2 t2
    have b3 := t3.blk
    have c5 : w3.cell? ⟨p, 5, none⟩ = some (.int .i64 d.r.op) := b3.cell 5
    rw [hop] at c5
    have c15 : w3.cell? ⟨p, 15, none⟩ = some (.int .i64 1) := hpc ▸ b3.cell 15
    go_upto_region 7 with (fail)
    clear c5
    have c6 : w3.cell? ⟨p, 6, none⟩ = some (.int .i64 d.r.at_) := b3.cell 6
    go_upto_region 9 with (first
      | (go_at_call 49; refine (yLoad t3.two (by omega) d.r.at_).mono ?_; rintro e w4 ⟨rfl, h4, o4⟩; rw [hz]; have t4 : XTo w0 w w4 b y p s1 (s2.load d.r.at_) (N + 1) ({ d with sh := false } : RC) := ⟨h4, t3.blk.oth o4 (by simp), t3.oth.trans (o4.mono (by simp))⟩; have V4 := V3.oth o4 (by simp); clear h4 o4)
      | (go_at_call 48; refine (H.rOf z hU.1 hU.2 _).mono ?_; rintro e w4b ⟨rfl, hw4⟩; rw [e0, e1, e2, e3, e4, e5, e6] at hw4 ⊢; have hb4 : Below w4.heap.size w4 w4b := (by rw [hw4]; go_grown); have t4b := t4.below hb4; have V4b := V4.below hb4; have b4 := t4b.blk; have k17 : w4b.cell? ⟨p, 17, none⟩ = some (.int .i64 d.h.h0) := b4.cell 17; have kf17 := b4.free 17; have k18 : w4b.cell? ⟨p, 18, none⟩ = some (.int .i64 d.h.h1) := b4.cell 18; have kf18 := b4.free 18; have k19 : w4b.cell? ⟨p, 19, none⟩ = some (.int .i64 d.h.h2) := b4.cell 19; have kf19 := b4.free 19; have k20 : w4b.cell? ⟨p, 20, none⟩ = some (.int .i64 d.h.h3) := b4.cell 20; have kf20 := b4.free 20; have k21 : w4b.cell? ⟨p, 21, none⟩ = some (.int .i64 d.h.h4) := b4.cell 21; have kf21 := b4.free 21; have k22 : w4b.cell? ⟨p, 22, none⟩ = some (.int .i64 d.h.h5) := b4.cell 22; have kf22 := b4.free 22; have k23 : w4b.cell? ⟨p, 23, none⟩ = some (.int .i64 d.h.h6) := b4.cell 23; have kf23 := b4.free 23; clear hw4 hb4))
    have K5 := kept7 w4b p q0 q1 q2 q3 q4 q5 q6
    have t5 : XTo w0 w _ b y p s1 (s2.load d.r.at_) (N + 1) ({ d with sh := false, h := ⟨q0, q1, q2, q3, q4, q5, q6⟩ } : RC) := t4b.kept K5 (b4.r_h q0 q1 q2 q3 q4 q5 q6)
    have V5 := V4b.oth (Oth.kept K5) (by simpa using V4b.ne b4 (by decide))
    clear k17 kf17 k18 kf18 k19 kf19 k20 kf20 k21 kf21 k22 kf22 k23 kf23 K5 c6 c15 b3
    generalize ((((((w4b.setCell ⟨p, 17, none⟩ (.int .i64 q0)).setCell ⟨p, 18, none⟩ (.int .i64 q1)).setCell ⟨p, 19, none⟩ (.int .i64 q2)).setCell ⟨p, 20, none⟩ (.int .i64 q3)).setCell ⟨p, 21, none⟩ (.int .i64 q4)).setCell ⟨p, 22, none⟩ (.int .i64 q5)).setCell ⟨p, 23, none⟩ (.int .i64 q6) = w5 at t5 V5 ⊢
    have hbd : Below w5.heap.size w5 w5.drew := (Below.refl _ _).drew
    have tD := t5.below hbd
    refine wp_region_noPanic ?_
    refine wp_region_held_drew (S := fun w' => w'.cell? ⟨p, 0, none⟩ = some (.int .i64 4) ∧ w'.cell? ⟨p, 1, none⟩ = some (.int .i64 4) ∧ w'.cell? ⟨p, 2, none⟩ = some (.int .i64 14) ∧ w'.cell? ⟨p, 3, none⟩ = some (.int .i64 32) ∧ w'.cell? ⟨p, 4, none⟩ = some (.int .i64 160) ∧ w'.cell? ⟨p, 6, none⟩ = some (.int .i64 d.r.at_)) (by kernel_rfl) (by have q := rn_cells tD.blk (by exact hn); exact q) (fun hHeld => ?_)
    refine tkH (i := 0) 58 (pt p) rfl rfl ?_
    simp only [sA1, sA2, sA3]
    refine tkH (i := 1) 59 (pt p) rfl rfl ?_
    simp only [sA1, sA2, sA3]
    refine tkH (i := 2) 60 (pt p) rfl rfl ?_
    simp only [sA1, sA2, sA3]
    refine tkH (i := 3) 61 (.agg #[.int .i64 4, .int .i64 4, .int .i64 14, .int .i64 32, .int .i64 160]) rfl rfl ?_
    simp only [sA1, sA2, sA3]
    refine tkH (i := 4) 62 (pt p) rfl rfl ?_
    simp only [sA1, sA2, sA3]
    refine tkH (i := 5) 63 (pt p) rfl rfl ?_
    simp only [sA1, sA2, sA3]
    refine tkH (i := 6) 64 (.pointer (some ⟨p, 5, none⟩)) rfl rfl ?_
    simp only [sA1, sA2, sA3]
    refine tkH (i := 7) 65 (.pointer (some ⟨p, 6, none⟩)) rfl rfl ?_
    simp only [sA1, sA2, sA3]
    refine tkH (i := 8) 66 (.int .i64 d.r.at_) rfl rfl ?_
    simp only [sA1, sA2, sA3]
    refine rd1 9 rfl fun K hK => ?_
    go_simp
    refine (P.rBlock 4 4 14 32 160 d.r.at_ (by decide) (by decide) (by decide) (by decide) (by decide) _).mono ?_
    rintro e w6 ⟨rfl, hw6⟩
    rw [bk2 hr.2.1 hr.2.2.1]
    have hb6 : Below w5.drew.heap.size w5.drew w6 := (by rw [hw6]; exact (Below.refl _ _).alloc (Nat.le_refl _) _)
    have t6 := tD.below hb6
    clear hw6
    refine hK.out _ _ (by have q := rn_cells t6.blk (by exact hn); exact q) (fun hHeld => ?_)
    clear hK K
    try simp only [Act.put, sA1, sA2, sA3]
    refine tkH (i := 10) 7 (.int .i64 2) rfl rfl ?_
    simp only [sA1, sA2, sA3]
    refine wpAnyH_done (by kernel_rfl) ?_ _
    refine NoPanic.normal ?_
    have V6 := (V5.below hbd).below hb6
    have b6 := t6.blk
    have c7 : w6.cell? ⟨p, 7, none⟩ = some (.int .i64 d.r.fd) := b6.cell 7
    have k19 : w6.cell? ⟨p, 19, none⟩ = some (.int .i64 q2) := b6.cell 19
    go_upto_region 10 with (fail)
    by_cases hN1 : q2 ≤ d.r.fd
    · have t1 : decide (q2 ≤ d.r.fd) = true := by simpa using hN1
      go_quiet (fail)
      have hq := S.bdr (Below.refl w6.heap.size w6) nq
      have t7 := t6.below hq
      have V7 := V6.below hq
      generalize w6.drewN nq = w7 at t7 V7 ⊢
      clear hq c7 k19 b6
      have b7 := t7.blk
      have c15 : w7.cell? ⟨p, 15, none⟩ = some (.int .i64 1) := hpc ▸ b7.cell 15
      have f15 := b7.free 15
      have c27 : w7.cell? ⟨p, 27, none⟩ = some (.int .i64 d.o.c) := b7.cell 27
      have f27 := b7.free 27
      go_wp2
      exact ke.out hN1 _ (t7.kept (kept2 w7 p 27 15 (.int .i64 15) (.int .i64 0)) ((b7.r_oc 15).r_pc 0))
    · have t1 : decide (q2 ≤ d.r.fd) = false := by simpa using hN1
      go_quiet (fail)
      have hq := S.bdr (Below.refl w6.heap.size w6) nq
      have t7 := t6.below hq
      have V7 := V6.below hq
      generalize w6.drewN nq = w7 at t7 V7 ⊢
      clear hq c7 k19 b6
      have b7 := t7.blk
      have c15 : w7.cell? ⟨p, 15, none⟩ = some (.int .i64 1) := hpc ▸ b7.cell 15
      have f15 := b7.free 15
      have k22 : w7.cell? ⟨p, 22, none⟩ = some (.int .i64 q5) := b7.cell 22
      have k23 : w7.cell? ⟨p, 23, none⟩ = some (.int .i64 q6) := b7.cell 23
      have c6 : w7.cell? ⟨p, 6, none⟩ = some (.int .i64 d.r.at_) := b7.cell 6
      by_cases hT : q5 = 2
      · have t2 : (q5 == 2) = true := by simp [hT]
        go_wp2_with (go_at_call 51; refine (rTo t7.blk hr hfx l0.1 l0.2).mono ?_; rintro e w8 ⟨rfl, K8, pd, np, b8, D8⟩; have c15' : w8.cell? ⟨p, 15, none⟩ = some (.int .i64 9) := b8.cell 15)
        exact km.out (by omega) hT _ pd (Nat.le_trans t7.oth.size np) (t7.kept K8 b8) D8
      · have t2 : (q5 == 2) = false := by simpa using hT
        by_cases hT2 : q5 = 4
        · have t3 : (q5 == 4) = true := by simp [hT2]
          go_wp2
          exact kc.out (by omega) hT2 _ (t7.kept (Kept.setCell [p] _ _ _ (by simp)) (b7.r_pc 3))
        · have t3 : (q5 == 4) = false := by simpa using hT2
          have c10 : w7.cell? ⟨p, 10, none⟩ = some (.int .i64 d.r.y.k) := b7.cell 10
          have c11 : w7.cell? ⟨p, 11, none⟩ = some (.int .i64 d.r.y.n) := b7.cell 11
          have s0 : w7.cell? ⟨sb, 0, none⟩ = some (.int .i64 0) := V7.cell 0
          have s1' : w7.cell? ⟨sb, 1, none⟩ = some (.int .i64 9) := V7.cell 1
          have sl := V7.lt
          by_cases hT3 : q5 = 5
          · have t4 : (q5 != 5) = false := by simp [hT3]
            rcases ye with _ | _
            all_goals (
              go_upto_region 17 with (fail)
              go_quiet (fail)
              have hq := S.bdr (Below.refl w7.heap.size w7) nq
              have t7' := t7.below hq
              generalize w7.drewN nq = w7' at t7' ⊢
              clear hq k22 k23 c6 c10 c11 c15 f15 s0 s1' sl
              have b7' := t7'.blk
              have c6 : w7'.cell? ⟨p, 6, none⟩ = some (.int .i64 d.r.at_) := b7'.cell 6
              have c15 : w7'.cell? ⟨p, 15, none⟩ = some (.int .i64 1) := hpc ▸ b7'.cell 15
              have f15 := b7'.free 15
              go_wp2_with (go_at_call 51; refine (rTo t7'.blk hr hfx (by have := hr.2.1; omega) (by have := hr.2.2.1; omega)).mono ?_; rintro e w8 ⟨rfl, K8, pd, np, b8, D8⟩; have c15' : w8.cell? ⟨p, 15, none⟩ = some (.int .i64 9) := b8.cell 15)
              exact ks.out (by omega) hT hT2 (.inl hT3) _ pd (Nat.le_trans t7'.oth.size np) (t7'.kept K8 b8) D8)
          · have t4 : (q5 != 5) = true := by simpa using hT3
            rcases ye with _ | _
            · go_upto_region 17 with (fail)
              go_quiet (fail)
              have hq := S.bdr (Below.refl w7.heap.size w7) nq
              have t7' := t7.below hq
              generalize w7.drewN nq = w7' at t7' ⊢
              clear hq k22 k23 c6 c10 c11 c15 f15 s0 s1' sl
              have b7' := t7'.blk
              have c6 : w7'.cell? ⟨p, 6, none⟩ = some (.int .i64 d.r.at_) := b7'.cell 6
              have c15 : w7'.cell? ⟨p, 15, none⟩ = some (.int .i64 1) := hpc ▸ b7'.cell 15
              have f15 := b7'.free 15
              go_wp2_with (go_at_call 51; refine (rTo t7'.blk hr hfx (by have := hr.2.1; omega) (by have := hr.2.2.1; omega)).mono ?_; rintro e w8 ⟨rfl, K8, pd, np, b8, D8⟩; have c15' : w8.cell? ⟨p, 15, none⟩ = some (.int .i64 9) := b8.cell 15)
              exact ks.out (by omega) hT hT2 (.inr (.inr (of_decide_eq_false hev))) _ pd (Nat.le_trans t7'.oth.size np) (t7'.kept K8 b8) D8
            · by_cases o1 : d.r.op = 1
              · first
                  | exact absurd (hop.symm.trans o1) (by decide)
                  | go_upto_region 17 with (fail)
                    go_quiet (fail)
                    have hq := S.bdr (Below.refl w7.heap.size w7) nq
                    have t7' := t7.below hq
                    generalize w7.drewN nq = w7' at t7' ⊢
                    clear hq k22 k23 c6 c10 c11 c15 f15 s0 s1' sl
                    have b7' := t7'.blk
                    have c6 : w7'.cell? ⟨p, 6, none⟩ = some (.int .i64 d.r.at_) := b7'.cell 6
                    have c15 : w7'.cell? ⟨p, 15, none⟩ = some (.int .i64 1) := hpc ▸ b7'.cell 15
                    have f15 := b7'.free 15
                    go_wp2_with (go_at_call 51; refine (rTo t7'.blk hr hfx (by have := hr.2.1; omega) (by have := hr.2.2.1; omega)).mono ?_; rintro e w8 ⟨rfl, K8, pd, np, b8, D8⟩; have c15' : w8.cell? ⟨p, 15, none⟩ = some (.int .i64 9) := b8.cell 15)
                    exact ks.out (by omega) hT hT2 (.inr (.inl o1)) _ pd (Nat.le_trans t7'.oth.size np) (t7'.kept K8 b8) D8
              · first
                  | exact absurd hop o1
                  | go_upto_region 17 with (fail)
                    go_quiet (fail)
                    have hq := S.bdr (Below.refl w7.heap.size w7) nq
                    have t7' := t7.below hq
                    generalize w7.drewN nq = w7' at t7' ⊢
                    clear hq k22 k23 c6 c10 c11 c15 f15 s0 s1' sl
                    have b7' := t7'.blk
                    have c6 : w7'.cell? ⟨p, 6, none⟩ = some (.int .i64 d.r.at_) := b7'.cell 6
                    have c15 : w7'.cell? ⟨p, 15, none⟩ = some (.int .i64 1) := hpc ▸ b7'.cell 15
                    have f15 := b7'.free 15
                    go_wp2
                    exact kb.out (by omega) hT hT2 hT3 o1 (of_decide_eq_true hev) _ (t7'.kept (Kept.setCell [p] _ _ _ (by simp)) (b7'.r_pc 2)))
end
end Go.Proofs.YtmlgohknbjfciaaGreatDoor
