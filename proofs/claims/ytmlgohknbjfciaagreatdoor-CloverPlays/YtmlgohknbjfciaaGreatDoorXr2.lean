/-
  The reference's access, one theorem a step: the block's stamp.
-/
import Derived.Test.YtmlgohknbjfciaaGreatDoorXr
import Derived.WalkMore
import Derived.BigQuiet
namespace Go.Proofs.YtmlgohknbjfciaaGreatDoor
set_option linter.unusedVariables false
set_option linter.unusedSimpArgs false
set_option maxRecDepth 100000
open Go.ChangeShapes Go.WideShapes Go.RowKit
open H.Plain (hw pS pC pN pM pG pT pL mv)

section
variable {w0 w w' : World} {b y p : Nat} {s1 s2 : St} {N : Nat} {d : RC}
set_option maxHeartbeats 6000000
theorem x2z {W : World} {hb : Nat} (G : Blk w0 W hb 93 #[.int .i64 0, .int .i64 0, .int .i64 0, .int .i64 0]) : W.cell? ⟨hb, 0, none⟩ = some (.int .i64 0) ∧ W.cell? ⟨hb, 1, none⟩ = some (.int .i64 0) ∧ W.cell? ⟨hb, 2, none⟩ = some (.int .i64 0) ∧ W.cell? ⟨hb, 3, none⟩ = some (.int .i64 0) := ⟨G.cell 0, G.cell 1, G.cell 2, G.cell 3⟩
theorem x2st {W : World} {hb N' : Nat} {s : St} {d' : RC} (t : XTo w0 w W b y p s1 s N' d') (G : Blk w0 W hb 93 #[.int .i64 0, .int .i64 0, .int .i64 0, .int .i64 0]) (hnb : w.heap.size ≤ hb) (q0 q1 q2 q3 : Int) : XTo w0 w ((((W.setCell ⟨hb, 0, none⟩ (.int .i64 q0)).setCell ⟨hb, 1, none⟩ (.int .i64 q1)).setCell ⟨hb, 2, none⟩ (.int .i64 q2)).setCell ⟨hb, 3, none⟩ (.int .i64 q3)) b y p s1 s N' d' ∧ Blk w0 ((((W.setCell ⟨hb, 0, none⟩ (.int .i64 q0)).setCell ⟨hb, 1, none⟩ (.int .i64 q1)).setCell ⟨hb, 2, none⟩ (.int .i64 q2)).setCell ⟨hb, 3, none⟩ (.int .i64 q3)) hb 93 #[.int .i64 q0, .int .i64 q1, .int .i64 q2, .int .i64 q3] := by
  have K6 : Kept [hb] W ((((W.setCell ⟨hb, 0, none⟩ (.int .i64 q0)).setCell ⟨hb, 1, none⟩ (.int .i64 q1)).setCell ⟨hb, 2, none⟩ (.int .i64 q2)).setCell ⟨hb, 3, none⟩ (.int .i64 q3)) := (((Kept.setCell [hb] _ _ _ (by simp)).tr (Kept.setCell [hb] _ _ _ (by simp))).tr (Kept.setCell [hb] _ _ _ (by simp))).tr (Kept.setCell [hb] _ _ _ (by simp))
  have o6 : Oth [hb, p] w ((((W.setCell ⟨hb, 0, none⟩ (.int .i64 q0)).setCell ⟨hb, 1, none⟩ (.int .i64 q1)).setCell ⟨hb, 2, none⟩ (.int .i64 q2)).setCell ⟨hb, 3, none⟩ (.int .i64 q3)) := (t.oth.mono (by simp)).trans ((Oth.kept K6).mono (by simp))
  exact ⟨⟨to_twoB t.two K6 G, t.blk.oth (Oth.kept K6) (by simpa using t.blk.ne G (by decide)), o6.drop hnb⟩, (((G.set 0 (.int .i64 q0)).set 1 (.int .i64 q1)).set 2 (.int .i64 q2)).set 3 (.int .i64 q3)⟩
theorem xs2 {Q : Ending → World → Prop} (h : Two w0 w b y s1 s2 N) (B : Blk w0 w p 65 d.cells) (hN : N + 5 < 1000000) {z q0 q1 q2 q3 : Int} {fx : Bool} (hfx : (d.e.md == 8) = fx) (hpc : d.pc = 2) (hr : d.r.Ok2) (hal : d.e.al = 9) (hn : d.n = pn4) (hz : s2.got 16 = z) (e0 : S.Plain.b0 z = q0) (e1 : S.Plain.b1 z = q1) (e2 : S.Plain.b2 z = q2) (e3 : S.Plain.b3 z = q3) (ky : Hid (q0 = 2 → ∀ w', XTo w0 w w' b y p s1 (s2.load 16) (N + 1) ({ d with sh := false, pc := 0, o := ⟨3, d.o.v, d.o.y⟩ } : RC) → Q (.returned (.bool true)) w')) (kn : Hid (q0 ≠ 2 → ∀ w' pd, w.heap.size ≤ pd → XTo w0 w w' b y p s1 (s2.load 16) (N + 1) ({ d with sh := false, o := ⟨0, d.o.v, d.o.y⟩, pc := 9, y := pt pd } : RC) → Blk w0 w' pd 128 (RD.new (d.r.at_ + 1 + d.r.fd) d.r (hwC fx)).cells → Q (.returned (.bool false)) w')) :
    Calls Tryz.prog 19 #[pt p, pt y] w fun e w' => Q e w' := by
  have hU : U64 z := hz ▸ h.rng2.got _
  rcases hr.1 with hop | hop | hop
  all_goals (
    have c15 : w.cell? ⟨p, 15, none⟩ = some (.int .i64 2) := hpc ▸ B.cell 15
    have c26 : w.cell? ⟨p, 26, none⟩ = some (.bool d.sh) := B.cell 26
    have f26 := B.free 26
    have lp0 := B.lt
    have t2 : XTo w0 w (w.setCell ⟨p, 26, none⟩ (.bool false)) b y p s1 s2 N ({ d with sh := false } : RC) := (⟨h, B, Oth.refl _ _⟩ : XTo w0 w w b y p s1 s2 N d).kept (Kept.setCell [p] _ _ _ (by simp)) (B.r_sh false)
    go_enter Tryz.func19, Tryz.ntmps19
    go_upto_region 4 with (fail)
    generalize w.setCell ⟨p, 26, none⟩ (.bool false) = w2 at t2 ⊢
    clear c15 c26 f26
    have b2 := t2.blk
    have c14 : w2.cell? ⟨p, 14, none⟩ = some (.int .i64 9) := hal ▸ b2.cell 14
    go_upto_region 5 with (fail)
    have aS : Below w2.heap.size w2 (w2.alloc (.cells #[.int .i64 0, .int .i64 9] 38)) := (Below.refl _ _).alloc (Nat.le_refl _) _
    have t3 := t2.below aS
    have V3 : Blk w0 (w2.alloc (.cells #[.int .i64 0, .int .i64 9] 38)) w2.heap.size 38 #[.int .i64 0, .int .i64 9] := Blk.new t2.two.bel.size _ (by decide)
    generalize w2.alloc (.cells #[.int .i64 0, .int .i64 9] 38) = w3 at t3 V3 ⊢
    generalize w2.heap.size = sb at V3 ⊢
    clear aS c14 b2 t2
    have b3 := t3.blk
    have c5 : w3.cell? ⟨p, 5, none⟩ = some (.int .i64 d.r.op) := b3.cell 5
    rw [hop] at c5
    have c15 : w3.cell? ⟨p, 15, none⟩ = some (.int .i64 2) := hpc ▸ b3.cell 15
    go_upto_region 7 with (fail)
    clear c5
    go_upto_region 21 with (fail)
    clear c15 b3
    have hbd : Below w3.heap.size w3 w3.drew := (Below.refl _ _).drew
    have u0 := t3.below hbd
    refine wp_region_noPanic ?_
    refine wp_region_held_drew (S := fun w' => w'.cell? ⟨p, 0, none⟩ = some (.int .i64 4) ∧ w'.cell? ⟨p, 1, none⟩ = some (.int .i64 4) ∧ w'.cell? ⟨p, 2, none⟩ = some (.int .i64 14) ∧ w'.cell? ⟨p, 3, none⟩ = some (.int .i64 32) ∧ w'.cell? ⟨p, 4, none⟩ = some (.int .i64 160) ∧ w'.cell? ⟨p, 6, none⟩ = some (.int .i64 d.r.at_)) (by kernel_rfl) (by have q := rn_cells u0.blk (by exact hn); exact q) (fun hHeld => ?_)
    refine tkH (i := 0) 150 (pt y) rfl rfl ?_
    simp only [sA1, sA2, sA3]
    refine tkH (i := 1) 151 (pt p) rfl rfl ?_
    simp only [sA1, sA2, sA3]
    refine tkH (i := 2) 152 (pt p) rfl rfl ?_
    simp only [sA1, sA2, sA3]
    refine tkH (i := 3) 153 (pt p) rfl rfl ?_
    simp only [sA1, sA2, sA3]
    refine tkH (i := 4) 154 (.agg #[.int .i64 4, .int .i64 4, .int .i64 14, .int .i64 32, .int .i64 160]) rfl rfl ?_
    simp only [sA1, sA2, sA3]
    refine tkH (i := 5) 155 (pt p) rfl rfl ?_
    simp only [sA1, sA2, sA3]
    refine tkH (i := 6) 156 (pt p) rfl rfl ?_
    simp only [sA1, sA2, sA3]
    refine tkH (i := 7) 157 (pt p) rfl rfl ?_
    simp only [sA1, sA2, sA3]
    refine tkH (i := 8) 158 (.agg #[.int .i64 4, .int .i64 4, .int .i64 14, .int .i64 32, .int .i64 160]) rfl rfl ?_
    simp only [sA1, sA2, sA3]
    refine tkH (i := 9) 159 (pt p) rfl rfl ?_
    simp only [sA1, sA2, sA3]
    refine tkH (i := 10) 160 (pt p) rfl rfl ?_
    simp only [sA1, sA2, sA3]
    refine tkH (i := 11) 161 (.pointer (some ⟨p, 5, none⟩)) rfl rfl ?_
    simp only [sA1, sA2, sA3]
    refine tkH (i := 12) 162 (.pointer (some ⟨p, 6, none⟩)) rfl rfl ?_
    simp only [sA1, sA2, sA3]
    refine tkH (i := 13) 163 (.int .i64 d.r.at_) rfl rfl ?_
    simp only [sA1, sA2, sA3]
    refine rd2 14 18 rfl rfl (fun K hK => ?_) (fun K hK => ?_)
    · go_simp
      refine (P.rBlock 4 4 14 32 160 d.r.at_ (by decide) (by decide) (by decide) (by decide) (by decide) _).mono ?_
      rintro e W1 ⟨rfl, hw0⟩
      rw [bk2 hr.2.1 hr.2.2.1]
      have hb0 : Below w3.drew.heap.size w3.drew W1 := (by rw [hw0]; exact (Below.refl _ _).alloc (Nat.le_refl _) _)
      have u1 := u0.below hb0
      clear hw0
      refine hK.out _ _ (by have q := rn_cells u1.blk (by exact hn); exact q) (fun hHeld => ?_)
      clear hK K
      try simp only [Act.put, sA1, sA2, sA3]
      refine rd2 15 18 rfl rfl (fun K hK => ?_) (fun K hK => ?_)
      · go_simp
        refine (P.rEntry 4 4 14 32 160 2 (by decide) (by decide) (by decide) (by decide) _).mono ?_
        rintro e W2 ⟨rfl, hw1⟩
        rw [show ((14 : Int) + 2) = 16 from rfl]
        have hb1 : Below W1.heap.size W1 W2 := (by rw [hw1]; exact (Below.refl _ _).alloc (Nat.le_refl _) _)
        have u2 := u1.below hb1
        clear hw1
        refine hK.out _ _ (by have q := rn_cells u2.blk (by exact hn); exact q) (fun hHeld => ?_)
        clear hK K
        try simp only [Act.put, sA1, sA2, sA3]
        refine rd2 16 18 rfl rfl (fun K hK => ?_) (fun K hK => ?_)
        · go_simp
          refine (yLoad u2.two (by omega) 16).mono ?_
          rintro e W3 ⟨rfl, h4, o4⟩
          rw [hz]
          have u3 : XTo w0 w W3 b y p s1 (s2.load 16) (N + 1) ({ d with sh := false } : RC) := ⟨h4, u2.blk.oth o4 (by simp), u2.oth.trans (o4.mono (by simp))⟩
          refine hK.out _ _ (by have q := rn_cells u3.blk (by exact hn); exact q) (fun hHeld => ?_)
          clear hK K
          try simp only [Act.put, sA1, sA2, sA3]
          refine rd2 17 18 rfl rfl (fun K hK => ?_) (fun K hK => ?_)
          · go_simp
            refine (S.rOfBlock z hU.1 hU.2 _).mono ?_
            rintro e W4 ⟨rfl, hw3⟩
            rw [e0, e1, e2, e3] at hw3 ⊢
            have hb3 : Below W3.heap.size W3 W4 := (by rw [hw3]; exact (Below.refl _ _).alloc (Nat.le_refl _) _)
            have u4 := u3.below hb3
            clear hw3
            refine hK.out _ _ (by have q := rn_cells u4.blk (by exact hn); exact q) (fun hHeld => ?_)
            clear hK K
            try simp only [Act.put, sA1, sA2, sA3]
            refine rd1 18 rfl fun K hK => ?_
            go_simp
            refine hK.out _ _ (rn_cellsA (u4.blk.below ((Below.refl _ _).alloc (Nat.le_refl _) _)) (by exact hn) rfl) (fun hHeld => ?_)
            clear hK K
            try simp only [Act.put, sA1, sA2, sA3]
            have aa : Below W4.heap.size W4 (W4.alloc (.cells #[.int .i64 0, .int .i64 0, .int .i64 0, .int .i64 0] 93)) := (Below.refl _ _).alloc (Nat.le_refl _) _
            have tz := u4.below aa
            have Gz : Blk w0 (W4.alloc (.cells #[.int .i64 0, .int .i64 0, .int .i64 0, .int .i64 0] 93)) W4.heap.size 93 #[.int .i64 0, .int .i64 0, .int .i64 0, .int .i64 0] := Blk.new u4.two.bel.size _ (by decide)
            have hnb : w.heap.size ≤ W4.heap.size := u4.oth.size
            clear aa
            generalize W4.alloc (.cells #[.int .i64 0, .int .i64 0, .int .i64 0, .int .i64 0] 93) = Wz at tz Gz hHeld ⊢
            generalize W4.heap.size = hb at Gz hnb ⊢
            clear u4
            have u4 := tz
            have G4 := Gz
            clear tz Gz
            obtain ⟨z0, z1, z2, z3⟩ := x2z G4
            have zf : ∀ i, Wz.frozen? ⟨hb, i, none⟩ = false := fun i => G4.free i
            obtain ⟨t7, G7⟩ := x2st u4 G4 hnb q0 q1 q2 q3
            refine rd1 19 rfl fun K hK => ?_
            go_simp
            refine hK.out _ _ (by have q := rn_cells t7.blk (by exact hn); exact q) (fun hHeld => ?_)
            clear hK K
            try simp only [Act.put, sA1, sA2, sA3]
            clear z0 z1 z2 z3 zf
            generalize (((Wz.setCell ⟨hb, 0, none⟩ (.int .i64 q0)).setCell ⟨hb, 1, none⟩ (.int .i64 q1)).setCell ⟨hb, 2, none⟩ (.int .i64 q2)).setCell ⟨hb, 3, none⟩ (.int .i64 q3) = w7 at t7 G7 hHeld ⊢
            refine wpAnyH_done (by kernel_rfl) ?_ _
            refine NoPanic.normal ?_
            have b7 := t7.blk
            have k0 : w7.cell? ⟨hb, 0, none⟩ = some (.int .i64 q0) := G7.cell 0
            have lh := G7.lt
            have nhb : p ≠ hb := b7.ne G7 (by decide)
            have c6 : w7.cell? ⟨p, 6, none⟩ = some (.int .i64 d.r.at_) := b7.cell 6
            have c15 : w7.cell? ⟨p, 15, none⟩ = some (.int .i64 2) := hpc ▸ b7.cell 15
            have f15 := b7.free 15
            have c27 : w7.cell? ⟨p, 27, none⟩ = some (.int .i64 d.o.c) := b7.cell 27
            have f27 := b7.free 27
            by_cases hS : q0 = 2
            · have q5 : (q0 != 2) = false := by simp [hS]
              go_wp2
              exact ky.out hS _ (t7.kept (kept2 w7 p 15 27 (.int .i64 0) (.int .i64 3)) ((b7.r_pc 0).r_oc 3))
            · have q5 : (q0 != 2) = true := by simpa using hS
              have t8 := t7.kept (kept3 w7 p 15 27 27 (.int .i64 0) (.int .i64 3) (.int .i64 0)) (((b7.r_pc 0).r_oc 3).r_oc 0)
              have kk0 : ((w7.setCell ⟨p, 15, none⟩ (.int .i64 0)).setCell ⟨p, 27, none⟩ (.int .i64 3)).cell? ⟨hb, 0, none⟩ = some (.int .i64 q0) := (G7.oth (Oth.kept (kept2 w7 p 15 27 (.int .i64 0) (.int .i64 3))) (by simpa using nhb.symm)).cell 0
              go_upto_region 26 with (fail)
              clear k0 lh c6 c15 f15 c27 f27 kk0
              generalize ((w7.setCell ⟨p, 15, none⟩ (.int .i64 0)).setCell ⟨p, 27, none⟩ (.int .i64 3)).setCell ⟨p, 27, none⟩ (.int .i64 0) = w8' at t8 ⊢
              have c6 : w8'.cell? ⟨p, 6, none⟩ = some (.int .i64 d.r.at_) := t8.blk.cell 6
              go_wp2_with (go_at_call 51; refine (rTo t8.blk hr hfx (by have := hr.2.1; omega) (by have := hr.2.2.1; omega)).mono ?_; rintro e w8 ⟨rfl, K8, pd, np, b8, D8⟩; have c15' : w8.cell? ⟨p, 15, none⟩ = some (.int .i64 9) := b8.cell 15)
              exact kn.out hS _ pd (Nat.le_trans t8.oth.size np) (t8.kept K8 b8) D8
          · go_simp
            refine hK.out _ _ (rn_cellsA (u3.blk.below ((Below.refl _ _).alloc (Nat.le_refl _) _)) (by exact hn) rfl) (fun hHeld => ?_)
            clear hK K
            try simp only [Act.put, sA1, sA2, sA3]
            have aa : Below W3.heap.size W3 (W3.alloc (.cells #[.int .i64 0, .int .i64 0, .int .i64 0, .int .i64 0] 93)) := (Below.refl _ _).alloc (Nat.le_refl _) _
            have tz := u3.below aa
            have Gz : Blk w0 (W3.alloc (.cells #[.int .i64 0, .int .i64 0, .int .i64 0, .int .i64 0] 93)) W3.heap.size 93 #[.int .i64 0, .int .i64 0, .int .i64 0, .int .i64 0] := Blk.new u3.two.bel.size _ (by decide)
            have hnb : w.heap.size ≤ W3.heap.size := u3.oth.size
            clear aa
            generalize W3.alloc (.cells #[.int .i64 0, .int .i64 0, .int .i64 0, .int .i64 0] 93) = Wz at tz Gz hHeld ⊢
            generalize W3.heap.size = hb at Gz hnb ⊢
            clear u3
            have u3 := tz
            have G3 := Gz
            clear tz Gz
            refine rd1 17 rfl fun K hK => ?_
            go_simp
            refine (S.rOfBlock z hU.1 hU.2 _).mono ?_
            rintro e W4 ⟨rfl, hw3⟩
            rw [e0, e1, e2, e3] at hw3 ⊢
            have hb3 : Below Wz.heap.size Wz W4 := (by rw [hw3]; exact (Below.refl _ _).alloc (Nat.le_refl _) _)
            have u4 := u3.below hb3
            clear hw3
            have G4 := G3.below hb3
            refine hK.out _ _ (by have q := rn_cells u4.blk (by exact hn); exact q) (fun hHeld => ?_)
            clear hK K
            try simp only [Act.put, sA1, sA2, sA3]
            obtain ⟨z0, z1, z2, z3⟩ := x2z G4
            have zf : ∀ i, W4.frozen? ⟨hb, i, none⟩ = false := fun i => G4.free i
            obtain ⟨t7, G7⟩ := x2st u4 G4 hnb q0 q1 q2 q3
            refine rd1 19 rfl fun K hK => ?_
            go_simp
            refine hK.out _ _ (by have q := rn_cells t7.blk (by exact hn); exact q) (fun hHeld => ?_)
            clear hK K
            try simp only [Act.put, sA1, sA2, sA3]
            clear z0 z1 z2 z3 zf
            generalize (((W4.setCell ⟨hb, 0, none⟩ (.int .i64 q0)).setCell ⟨hb, 1, none⟩ (.int .i64 q1)).setCell ⟨hb, 2, none⟩ (.int .i64 q2)).setCell ⟨hb, 3, none⟩ (.int .i64 q3) = w7 at t7 G7 hHeld ⊢
            refine wpAnyH_done (by kernel_rfl) ?_ _
            refine NoPanic.normal ?_
            have b7 := t7.blk
            have k0 : w7.cell? ⟨hb, 0, none⟩ = some (.int .i64 q0) := G7.cell 0
            have lh := G7.lt
            have nhb : p ≠ hb := b7.ne G7 (by decide)
            have c6 : w7.cell? ⟨p, 6, none⟩ = some (.int .i64 d.r.at_) := b7.cell 6
            have c15 : w7.cell? ⟨p, 15, none⟩ = some (.int .i64 2) := hpc ▸ b7.cell 15
            have f15 := b7.free 15
            have c27 : w7.cell? ⟨p, 27, none⟩ = some (.int .i64 d.o.c) := b7.cell 27
            have f27 := b7.free 27
            by_cases hS : q0 = 2
            · have q5 : (q0 != 2) = false := by simp [hS]
              go_wp2
              exact ky.out hS _ (t7.kept (kept2 w7 p 15 27 (.int .i64 0) (.int .i64 3)) ((b7.r_pc 0).r_oc 3))
            · have q5 : (q0 != 2) = true := by simpa using hS
              have t8 := t7.kept (kept3 w7 p 15 27 27 (.int .i64 0) (.int .i64 3) (.int .i64 0)) (((b7.r_pc 0).r_oc 3).r_oc 0)
              have kk0 : ((w7.setCell ⟨p, 15, none⟩ (.int .i64 0)).setCell ⟨p, 27, none⟩ (.int .i64 3)).cell? ⟨hb, 0, none⟩ = some (.int .i64 q0) := (G7.oth (Oth.kept (kept2 w7 p 15 27 (.int .i64 0) (.int .i64 3))) (by simpa using nhb.symm)).cell 0
              go_upto_region 26 with (fail)
              clear k0 lh c6 c15 f15 c27 f27 kk0
              generalize ((w7.setCell ⟨p, 15, none⟩ (.int .i64 0)).setCell ⟨p, 27, none⟩ (.int .i64 3)).setCell ⟨p, 27, none⟩ (.int .i64 0) = w8' at t8 ⊢
              have c6 : w8'.cell? ⟨p, 6, none⟩ = some (.int .i64 d.r.at_) := t8.blk.cell 6
              go_wp2_with (go_at_call 51; refine (rTo t8.blk hr hfx (by have := hr.2.1; omega) (by have := hr.2.2.1; omega)).mono ?_; rintro e w8 ⟨rfl, K8, pd, np, b8, D8⟩; have c15' : w8.cell? ⟨p, 15, none⟩ = some (.int .i64 9) := b8.cell 15)
              exact kn.out hS _ pd (Nat.le_trans t8.oth.size np) (t8.kept K8 b8) D8
        · go_simp
          refine hK.out _ _ (rn_cellsA (u2.blk.below ((Below.refl _ _).alloc (Nat.le_refl _) _)) (by exact hn) rfl) (fun hHeld => ?_)
          clear hK K
          try simp only [Act.put, sA1, sA2, sA3]
          have aa : Below W2.heap.size W2 (W2.alloc (.cells #[.int .i64 0, .int .i64 0, .int .i64 0, .int .i64 0] 93)) := (Below.refl _ _).alloc (Nat.le_refl _) _
          have tz := u2.below aa
          have Gz : Blk w0 (W2.alloc (.cells #[.int .i64 0, .int .i64 0, .int .i64 0, .int .i64 0] 93)) W2.heap.size 93 #[.int .i64 0, .int .i64 0, .int .i64 0, .int .i64 0] := Blk.new u2.two.bel.size _ (by decide)
          have hnb : w.heap.size ≤ W2.heap.size := u2.oth.size
          clear aa
          generalize W2.alloc (.cells #[.int .i64 0, .int .i64 0, .int .i64 0, .int .i64 0] 93) = Wz at tz Gz hHeld ⊢
          generalize W2.heap.size = hb at Gz hnb ⊢
          clear u2
          have u2 := tz
          have G2 := Gz
          clear tz Gz
          refine rd1 16 rfl fun K hK => ?_
          go_simp
          refine (yLoad u2.two (by omega) 16).mono ?_
          rintro e W3 ⟨rfl, h4, o4⟩
          rw [hz]
          have u3 : XTo w0 w W3 b y p s1 (s2.load 16) (N + 1) ({ d with sh := false } : RC) := ⟨h4, u2.blk.oth o4 (by simp), u2.oth.trans (o4.mono (by simp))⟩
          have G3 := G2.oth o4 (by simp)
          refine hK.out _ _ (by have q := rn_cells u3.blk (by exact hn); exact q) (fun hHeld => ?_)
          clear hK K
          try simp only [Act.put, sA1, sA2, sA3]
          refine rd1 17 rfl fun K hK => ?_
          go_simp
          refine (S.rOfBlock z hU.1 hU.2 _).mono ?_
          rintro e W4 ⟨rfl, hw3⟩
          rw [e0, e1, e2, e3] at hw3 ⊢
          have hb3 : Below W3.heap.size W3 W4 := (by rw [hw3]; exact (Below.refl _ _).alloc (Nat.le_refl _) _)
          have u4 := u3.below hb3
          clear hw3
          have G4 := G3.below hb3
          refine hK.out _ _ (by have q := rn_cells u4.blk (by exact hn); exact q) (fun hHeld => ?_)
          clear hK K
          try simp only [Act.put, sA1, sA2, sA3]
          obtain ⟨z0, z1, z2, z3⟩ := x2z G4
          have zf : ∀ i, W4.frozen? ⟨hb, i, none⟩ = false := fun i => G4.free i
          obtain ⟨t7, G7⟩ := x2st u4 G4 hnb q0 q1 q2 q3
          refine rd1 19 rfl fun K hK => ?_
          go_simp
          refine hK.out _ _ (by have q := rn_cells t7.blk (by exact hn); exact q) (fun hHeld => ?_)
          clear hK K
          try simp only [Act.put, sA1, sA2, sA3]
          clear z0 z1 z2 z3 zf
          generalize (((W4.setCell ⟨hb, 0, none⟩ (.int .i64 q0)).setCell ⟨hb, 1, none⟩ (.int .i64 q1)).setCell ⟨hb, 2, none⟩ (.int .i64 q2)).setCell ⟨hb, 3, none⟩ (.int .i64 q3) = w7 at t7 G7 hHeld ⊢
          refine wpAnyH_done (by kernel_rfl) ?_ _
          refine NoPanic.normal ?_
          have b7 := t7.blk
          have k0 : w7.cell? ⟨hb, 0, none⟩ = some (.int .i64 q0) := G7.cell 0
          have lh := G7.lt
          have nhb : p ≠ hb := b7.ne G7 (by decide)
          have c6 : w7.cell? ⟨p, 6, none⟩ = some (.int .i64 d.r.at_) := b7.cell 6
          have c15 : w7.cell? ⟨p, 15, none⟩ = some (.int .i64 2) := hpc ▸ b7.cell 15
          have f15 := b7.free 15
          have c27 : w7.cell? ⟨p, 27, none⟩ = some (.int .i64 d.o.c) := b7.cell 27
          have f27 := b7.free 27
          by_cases hS : q0 = 2
          · have q5 : (q0 != 2) = false := by simp [hS]
            go_wp2
            exact ky.out hS _ (t7.kept (kept2 w7 p 15 27 (.int .i64 0) (.int .i64 3)) ((b7.r_pc 0).r_oc 3))
          · have q5 : (q0 != 2) = true := by simpa using hS
            have t8 := t7.kept (kept3 w7 p 15 27 27 (.int .i64 0) (.int .i64 3) (.int .i64 0)) (((b7.r_pc 0).r_oc 3).r_oc 0)
            have kk0 : ((w7.setCell ⟨p, 15, none⟩ (.int .i64 0)).setCell ⟨p, 27, none⟩ (.int .i64 3)).cell? ⟨hb, 0, none⟩ = some (.int .i64 q0) := (G7.oth (Oth.kept (kept2 w7 p 15 27 (.int .i64 0) (.int .i64 3))) (by simpa using nhb.symm)).cell 0
            go_upto_region 26 with (fail)
            clear k0 lh c6 c15 f15 c27 f27 kk0
            generalize ((w7.setCell ⟨p, 15, none⟩ (.int .i64 0)).setCell ⟨p, 27, none⟩ (.int .i64 3)).setCell ⟨p, 27, none⟩ (.int .i64 0) = w8' at t8 ⊢
            have c6 : w8'.cell? ⟨p, 6, none⟩ = some (.int .i64 d.r.at_) := t8.blk.cell 6
            go_wp2_with (go_at_call 51; refine (rTo t8.blk hr hfx (by have := hr.2.1; omega) (by have := hr.2.2.1; omega)).mono ?_; rintro e w8 ⟨rfl, K8, pd, np, b8, D8⟩; have c15' : w8.cell? ⟨p, 15, none⟩ = some (.int .i64 9) := b8.cell 15)
            exact kn.out hS _ pd (Nat.le_trans t8.oth.size np) (t8.kept K8 b8) D8
      · go_simp
        refine hK.out _ _ (rn_cellsA (u1.blk.below ((Below.refl _ _).alloc (Nat.le_refl _) _)) (by exact hn) rfl) (fun hHeld => ?_)
        clear hK K
        try simp only [Act.put, sA1, sA2, sA3]
        have aa : Below W1.heap.size W1 (W1.alloc (.cells #[.int .i64 0, .int .i64 0, .int .i64 0, .int .i64 0] 93)) := (Below.refl _ _).alloc (Nat.le_refl _) _
        have tz := u1.below aa
        have Gz : Blk w0 (W1.alloc (.cells #[.int .i64 0, .int .i64 0, .int .i64 0, .int .i64 0] 93)) W1.heap.size 93 #[.int .i64 0, .int .i64 0, .int .i64 0, .int .i64 0] := Blk.new u1.two.bel.size _ (by decide)
        have hnb : w.heap.size ≤ W1.heap.size := u1.oth.size
        clear aa
        generalize W1.alloc (.cells #[.int .i64 0, .int .i64 0, .int .i64 0, .int .i64 0] 93) = Wz at tz Gz hHeld ⊢
        generalize W1.heap.size = hb at Gz hnb ⊢
        clear u1
        have u1 := tz
        have G1 := Gz
        clear tz Gz
        refine rd1 15 rfl fun K hK => ?_
        go_simp
        refine (P.rEntry 4 4 14 32 160 2 (by decide) (by decide) (by decide) (by decide) _).mono ?_
        rintro e W2 ⟨rfl, hw1⟩
        rw [show ((14 : Int) + 2) = 16 from rfl]
        have hb1 : Below Wz.heap.size Wz W2 := (by rw [hw1]; exact (Below.refl _ _).alloc (Nat.le_refl _) _)
        have u2 := u1.below hb1
        clear hw1
        have G2 := G1.below hb1
        refine hK.out _ _ (by have q := rn_cells u2.blk (by exact hn); exact q) (fun hHeld => ?_)
        clear hK K
        try simp only [Act.put, sA1, sA2, sA3]
        refine rd1 16 rfl fun K hK => ?_
        go_simp
        refine (yLoad u2.two (by omega) 16).mono ?_
        rintro e W3 ⟨rfl, h4, o4⟩
        rw [hz]
        have u3 : XTo w0 w W3 b y p s1 (s2.load 16) (N + 1) ({ d with sh := false } : RC) := ⟨h4, u2.blk.oth o4 (by simp), u2.oth.trans (o4.mono (by simp))⟩
        have G3 := G2.oth o4 (by simp)
        refine hK.out _ _ (by have q := rn_cells u3.blk (by exact hn); exact q) (fun hHeld => ?_)
        clear hK K
        try simp only [Act.put, sA1, sA2, sA3]
        refine rd1 17 rfl fun K hK => ?_
        go_simp
        refine (S.rOfBlock z hU.1 hU.2 _).mono ?_
        rintro e W4 ⟨rfl, hw3⟩
        rw [e0, e1, e2, e3] at hw3 ⊢
        have hb3 : Below W3.heap.size W3 W4 := (by rw [hw3]; exact (Below.refl _ _).alloc (Nat.le_refl _) _)
        have u4 := u3.below hb3
        clear hw3
        have G4 := G3.below hb3
        refine hK.out _ _ (by have q := rn_cells u4.blk (by exact hn); exact q) (fun hHeld => ?_)
        clear hK K
        try simp only [Act.put, sA1, sA2, sA3]
        obtain ⟨z0, z1, z2, z3⟩ := x2z G4
        have zf : ∀ i, W4.frozen? ⟨hb, i, none⟩ = false := fun i => G4.free i
        obtain ⟨t7, G7⟩ := x2st u4 G4 hnb q0 q1 q2 q3
        refine rd1 19 rfl fun K hK => ?_
        go_simp
        refine hK.out _ _ (by have q := rn_cells t7.blk (by exact hn); exact q) (fun hHeld => ?_)
        clear hK K
        try simp only [Act.put, sA1, sA2, sA3]
        clear z0 z1 z2 z3 zf
        generalize (((W4.setCell ⟨hb, 0, none⟩ (.int .i64 q0)).setCell ⟨hb, 1, none⟩ (.int .i64 q1)).setCell ⟨hb, 2, none⟩ (.int .i64 q2)).setCell ⟨hb, 3, none⟩ (.int .i64 q3) = w7 at t7 G7 hHeld ⊢
        refine wpAnyH_done (by kernel_rfl) ?_ _
        refine NoPanic.normal ?_
        have b7 := t7.blk
        have k0 : w7.cell? ⟨hb, 0, none⟩ = some (.int .i64 q0) := G7.cell 0
        have lh := G7.lt
        have nhb : p ≠ hb := b7.ne G7 (by decide)
        have c6 : w7.cell? ⟨p, 6, none⟩ = some (.int .i64 d.r.at_) := b7.cell 6
        have c15 : w7.cell? ⟨p, 15, none⟩ = some (.int .i64 2) := hpc ▸ b7.cell 15
        have f15 := b7.free 15
        have c27 : w7.cell? ⟨p, 27, none⟩ = some (.int .i64 d.o.c) := b7.cell 27
        have f27 := b7.free 27
        by_cases hS : q0 = 2
        · have q5 : (q0 != 2) = false := by simp [hS]
          go_wp2
          exact ky.out hS _ (t7.kept (kept2 w7 p 15 27 (.int .i64 0) (.int .i64 3)) ((b7.r_pc 0).r_oc 3))
        · have q5 : (q0 != 2) = true := by simpa using hS
          have t8 := t7.kept (kept3 w7 p 15 27 27 (.int .i64 0) (.int .i64 3) (.int .i64 0)) (((b7.r_pc 0).r_oc 3).r_oc 0)
          have kk0 : ((w7.setCell ⟨p, 15, none⟩ (.int .i64 0)).setCell ⟨p, 27, none⟩ (.int .i64 3)).cell? ⟨hb, 0, none⟩ = some (.int .i64 q0) := (G7.oth (Oth.kept (kept2 w7 p 15 27 (.int .i64 0) (.int .i64 3))) (by simpa using nhb.symm)).cell 0
          go_upto_region 26 with (fail)
          clear k0 lh c6 c15 f15 c27 f27 kk0
          generalize ((w7.setCell ⟨p, 15, none⟩ (.int .i64 0)).setCell ⟨p, 27, none⟩ (.int .i64 3)).setCell ⟨p, 27, none⟩ (.int .i64 0) = w8' at t8 ⊢
          have c6 : w8'.cell? ⟨p, 6, none⟩ = some (.int .i64 d.r.at_) := t8.blk.cell 6
          go_wp2_with (go_at_call 51; refine (rTo t8.blk hr hfx (by have := hr.2.1; omega) (by have := hr.2.2.1; omega)).mono ?_; rintro e w8 ⟨rfl, K8, pd, np, b8, D8⟩; have c15' : w8.cell? ⟨p, 15, none⟩ = some (.int .i64 9) := b8.cell 15)
          exact kn.out hS _ pd (Nat.le_trans t8.oth.size np) (t8.kept K8 b8) D8
    · go_simp
      refine hK.out _ _ (rn_cellsA (u0.blk.below ((Below.refl _ _).alloc (Nat.le_refl _) _)) (by exact hn) rfl) (fun hHeld => ?_)
      clear hK K
      try simp only [Act.put, sA1, sA2, sA3]
      have aa : Below w3.heap.size w3 (w3.alloc (.cells #[.int .i64 0, .int .i64 0, .int .i64 0, .int .i64 0] 93)).drew := ((Below.refl _ _).alloc (Nat.le_refl _) _).drew
      have tz := t3.below aa
      have Gz : Blk w0 (w3.alloc (.cells #[.int .i64 0, .int .i64 0, .int .i64 0, .int .i64 0] 93)).drew w3.heap.size 93 #[.int .i64 0, .int .i64 0, .int .i64 0, .int .i64 0] := (Blk.new t3.two.bel.size #[.int .i64 0, .int .i64 0, .int .i64 0, .int .i64 0] (by decide) : Blk w0 (w3.alloc (.cells #[.int .i64 0, .int .i64 0, .int .i64 0, .int .i64 0] 93)) w3.heap.size 93 #[.int .i64 0, .int .i64 0, .int .i64 0, .int .i64 0]).below (Below.refl _ _).drew
      have hnb : w.heap.size ≤ w3.heap.size := t3.oth.size
      clear aa
      generalize (w3.alloc (.cells #[.int .i64 0, .int .i64 0, .int .i64 0, .int .i64 0] 93)).drew = Wz at tz Gz hHeld ⊢
      generalize w3.heap.size = hb at Gz hnb ⊢
      clear u0
      have u0 := tz
      have G0 := Gz
      clear tz Gz
      refine rd1 14 rfl fun K hK => ?_
      go_simp
      refine (P.rBlock 4 4 14 32 160 d.r.at_ (by decide) (by decide) (by decide) (by decide) (by decide) _).mono ?_
      rintro e W1 ⟨rfl, hw0⟩
      rw [bk2 hr.2.1 hr.2.2.1]
      have hb0 : Below Wz.heap.size Wz W1 := (by rw [hw0]; exact (Below.refl _ _).alloc (Nat.le_refl _) _)
      have u1 := u0.below hb0
      clear hw0
      have G1 := G0.below hb0
      refine hK.out _ _ (by have q := rn_cells u1.blk (by exact hn); exact q) (fun hHeld => ?_)
      clear hK K
      try simp only [Act.put, sA1, sA2, sA3]
      refine rd1 15 rfl fun K hK => ?_
      go_simp
      refine (P.rEntry 4 4 14 32 160 2 (by decide) (by decide) (by decide) (by decide) _).mono ?_
      rintro e W2 ⟨rfl, hw1⟩
      rw [show ((14 : Int) + 2) = 16 from rfl]
      have hb1 : Below W1.heap.size W1 W2 := (by rw [hw1]; exact (Below.refl _ _).alloc (Nat.le_refl _) _)
      have u2 := u1.below hb1
      clear hw1
      have G2 := G1.below hb1
      refine hK.out _ _ (by have q := rn_cells u2.blk (by exact hn); exact q) (fun hHeld => ?_)
      clear hK K
      try simp only [Act.put, sA1, sA2, sA3]
      refine rd1 16 rfl fun K hK => ?_
      go_simp
      refine (yLoad u2.two (by omega) 16).mono ?_
      rintro e W3 ⟨rfl, h4, o4⟩
      rw [hz]
      have u3 : XTo w0 w W3 b y p s1 (s2.load 16) (N + 1) ({ d with sh := false } : RC) := ⟨h4, u2.blk.oth o4 (by simp), u2.oth.trans (o4.mono (by simp))⟩
      have G3 := G2.oth o4 (by simp)
      refine hK.out _ _ (by have q := rn_cells u3.blk (by exact hn); exact q) (fun hHeld => ?_)
      clear hK K
      try simp only [Act.put, sA1, sA2, sA3]
      refine rd1 17 rfl fun K hK => ?_
      go_simp
      refine (S.rOfBlock z hU.1 hU.2 _).mono ?_
      rintro e W4 ⟨rfl, hw3⟩
      rw [e0, e1, e2, e3] at hw3 ⊢
      have hb3 : Below W3.heap.size W3 W4 := (by rw [hw3]; exact (Below.refl _ _).alloc (Nat.le_refl _) _)
      have u4 := u3.below hb3
      clear hw3
      have G4 := G3.below hb3
      refine hK.out _ _ (by have q := rn_cells u4.blk (by exact hn); exact q) (fun hHeld => ?_)
      clear hK K
      try simp only [Act.put, sA1, sA2, sA3]
      obtain ⟨z0, z1, z2, z3⟩ := x2z G4
      have zf : ∀ i, W4.frozen? ⟨hb, i, none⟩ = false := fun i => G4.free i
      obtain ⟨t7, G7⟩ := x2st u4 G4 hnb q0 q1 q2 q3
      refine rd1 19 rfl fun K hK => ?_
      go_simp
      refine hK.out _ _ (by have q := rn_cells t7.blk (by exact hn); exact q) (fun hHeld => ?_)
      clear hK K
      try simp only [Act.put, sA1, sA2, sA3]
      clear z0 z1 z2 z3 zf
      generalize (((W4.setCell ⟨hb, 0, none⟩ (.int .i64 q0)).setCell ⟨hb, 1, none⟩ (.int .i64 q1)).setCell ⟨hb, 2, none⟩ (.int .i64 q2)).setCell ⟨hb, 3, none⟩ (.int .i64 q3) = w7 at t7 G7 hHeld ⊢
      refine wpAnyH_done (by kernel_rfl) ?_ _
      refine NoPanic.normal ?_
      have b7 := t7.blk
      have k0 : w7.cell? ⟨hb, 0, none⟩ = some (.int .i64 q0) := G7.cell 0
      have lh := G7.lt
      have nhb : p ≠ hb := b7.ne G7 (by decide)
      have c6 : w7.cell? ⟨p, 6, none⟩ = some (.int .i64 d.r.at_) := b7.cell 6
      have c15 : w7.cell? ⟨p, 15, none⟩ = some (.int .i64 2) := hpc ▸ b7.cell 15
      have f15 := b7.free 15
      have c27 : w7.cell? ⟨p, 27, none⟩ = some (.int .i64 d.o.c) := b7.cell 27
      have f27 := b7.free 27
      by_cases hS : q0 = 2
      · have q5 : (q0 != 2) = false := by simp [hS]
        go_wp2
        exact ky.out hS _ (t7.kept (kept2 w7 p 15 27 (.int .i64 0) (.int .i64 3)) ((b7.r_pc 0).r_oc 3))
      · have q5 : (q0 != 2) = true := by simpa using hS
        have t8 := t7.kept (kept3 w7 p 15 27 27 (.int .i64 0) (.int .i64 3) (.int .i64 0)) (((b7.r_pc 0).r_oc 3).r_oc 0)
        have kk0 : ((w7.setCell ⟨p, 15, none⟩ (.int .i64 0)).setCell ⟨p, 27, none⟩ (.int .i64 3)).cell? ⟨hb, 0, none⟩ = some (.int .i64 q0) := (G7.oth (Oth.kept (kept2 w7 p 15 27 (.int .i64 0) (.int .i64 3))) (by simpa using nhb.symm)).cell 0
        go_upto_region 26 with (fail)
        clear k0 lh c6 c15 f15 c27 f27 kk0
        generalize ((w7.setCell ⟨p, 15, none⟩ (.int .i64 0)).setCell ⟨p, 27, none⟩ (.int .i64 3)).setCell ⟨p, 27, none⟩ (.int .i64 0) = w8' at t8 ⊢
        have c6 : w8'.cell? ⟨p, 6, none⟩ = some (.int .i64 d.r.at_) := t8.blk.cell 6
        go_wp2_with (go_at_call 51; refine (rTo t8.blk hr hfx (by have := hr.2.1; omega) (by have := hr.2.2.1; omega)).mono ?_; rintro e w8 ⟨rfl, K8, pd, np, b8, D8⟩; have c15' : w8.cell? ⟨p, 15, none⟩ = some (.int .i64 9) := b8.cell 15)
        exact kn.out hS _ pd (Nat.le_trans t8.oth.size np) (t8.kept K8 b8) D8)
end
end Go.Proofs.YtmlgohknbjfciaaGreatDoor
