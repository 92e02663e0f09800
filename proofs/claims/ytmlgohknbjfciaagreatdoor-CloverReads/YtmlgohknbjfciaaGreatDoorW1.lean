/-
  The walk of the law on a read beside the one that copies.
-/
import Derived.Test.YtmlgohknbjfciaaGreatDoorCnw
import Derived.Test.YtmlgohknbjfciaaGreatDoorCg
import Derived.Test.YtmlgohknbjfciaaGreatDoorCo
namespace Go.Proofs.YtmlgohknbjfciaaGreatDoor
set_option linter.unusedVariables false
set_option linter.unusedSimpArgs false
set_option maxRecDepth 100000
open Go.ChangeShapes Go.WideShapes Go.RowKit
open H.Plain (hw pS pC pN pM pG pT pL mv)

set_option maxHeartbeats 4000000 in
theorem wCloverReads (av : Option Addr) (ll cv' : Nat) (zl : Nat → Vl) (fd : Int) (ap : Option Addr) (lp cp' : Nat) (zp : Nat → Int) (h10 : -9223372036854775808 ≤ fd) (h11 : fd ≤ 9223372036854775807) (w : World) (W : H.Wid w) (cv : CameV w av ll zl) (ci : CameI w ap lp zp) :
    Calls Tryz.prog 5 #[.slice av ll cv', .int .i64 fd, .slice ap lp cp'] w fun e w' => e = .returned (.bool true) ∧ Below w.heap.size w w' := by
  obtain ⟨S, hS⟩ : ∃ S, laidS 4 2 (clP ll zl) = S := ⟨_, rfl⟩
  have hSl : S.ws.length = 160 := by rw [← hS]; exact laid_len _ _ _
  have M0 := laid_m6 4 2 (clP ll zl)
  obtain ⟨O0, hc0⟩ := claimed_ob ll zl
  rw [hS] at M0 O0
  have kf := kd_lt fd 3 (by decide)
  obtain ⟨f, hf⟩ : ∃ f : Nat, kd fd 3 = (f : Int) := ⟨(kd fd 3).toNat, by omega⟩
  rw [hf] at kf
  have hf3 : f < 3 := by omega
  obtain ⟨old, hold'⟩ : ∃ old : Nat → Int, (fun k => (clP ll zl k).w) = old := ⟨_, rfl⟩
  rw [hold'] at M0 O0 hc0
  have hc0' : ∀ k, cur old (fun _ => 0) k = old k := fun k => by rw [hc0 k, ← hold']
  obtain ⟨wd, hold⟩ : ∃ wd, old f = wd := ⟨_, rfl⟩
  obtain ⟨u, hu⟩ : ∃ u, Vl.of wd = u := ⟨_, rfl⟩
  have hwd0 : S.word (97 + (f : Int)) = wd := by rw [M0.fa f hf3, hold]
  have hU : U64 wd := by rw [← hold, ← hold']; exact Vl.u64 _
  obtain ⟨ok1, ok0⟩ := ok_R hf3
  have okm : (Mo.mk 0 0).Ok := ⟨by simp, U64.zero⟩
  have G0 : RG old f (.hd (rqR f) false false) ⟨0, 0⟩ S 3 := ⟨okm, old, fun _ => 0, O0, fun k _ => hc0' k, .inl ⟨rfl, rfl⟩⟩
  go_enter Tryz.func5, Tryz.ntmps5
  go_upto_region 3 with (first
    | (go_at_call 7; refine (cShown _ (W.on (by go_grown))).mono ?_; rintro e w1 ⟨rfl, hb1⟩)
    | (go_at_call 24; refine (cClaimed w1 (cv.on hb1)).mono ?_; rintro e wc ⟨ao, cap, rfl, cvc, hbc⟩; have bc := bel_trans hb1 hbc))
  have acb : Below wc.heap.size wc (wc.alloc (.cells #[.int .i64 4, .int .i64 2, .slice ao (min ll 3) cap] 24)) := (Below.refl _ _).alloc (Nat.le_refl _) _
  have cvb := cvc.on acb
  have bb := bel_trans bc acb
  go_upto_region 8 with (first
    | (go_at_call 8; refine (cLaid _ (W.on bb) cvb (by decide) (by decide) (by decide) (by decide)).mono ?_; rintro e w2 ⟨b, y, rfl, h2⟩; rw [cl_fld, show kd 4 6 = 4 by decide, show kd 2 3 = 2 by decide, hS] at h2; have h3 := h2.lift bb W; clear h2)
    | (go_at_call 9; refine (cKind _ fd 3 h10 h11 (by decide)).mono ?_; rintro e wk ⟨rfl, hwk⟩; rw [hwk, hf]; clear hwk wk)
    | (go_at_call 14; refine (cAt _).mono ?_; rintro e wt ⟨rfl, hbt⟩; have ht := h3.below hbt)
    | (go_at_call 13; refine (cNewC (rqR f) ⟨6, 0, 9⟩ _ ok1 rfl).mono ?_; rintro e w4 ⟨p, rfl, Mp⟩; have h4 := ht.below Mp.bel; have m4 : Cm w w4 p (.hd (rqR f) false false) := Mp.cm ht.bel.size ok0; clear Mp))
  have a5 : Below w4.heap.size w4 (w4.alloc (.cells #[.int .i64 0, .int .u64 0] 72)) := (Below.refl _ _).alloc (Nat.le_refl _) _
  have h5 := h4.below a5
  have m5 := m4.below a5
  have q5 : Blk w (w4.alloc (.cells #[.int .i64 0, .int .u64 0] 72)) w4.heap.size 72 #[.int .i64 0, .int .u64 0] := Blk.new h4.bel.size _ (by decide)
  go_wp2_with (fail)
  obtain ⟨q, hq⟩ : ∃ q, w4.heap.size = q := ⟨_, rfl⟩
  rw [hq] at q5 ⊢
  generalize w4.alloc (.cells #[.int .i64 0, .int .u64 0] 72) = w5 at h5 m5 q5 ⊢
  clear a5 hq h4 m4 h3 ht hbt acb cvb bb bc cvc hbc
  go_loopw [14, 15] (fun dn i wr => ∃ j : Nat, j ≤ 90 ∧ i = .int .i64 j ∧ ∃ x m s r, RG old f x m s r ∧ dn = .bool x.done ∧ (80 ≤ j → r + j ≤ 90) ∧ Two w wr b y s S (20 + j) ∧ Cm w wr p x ∧ Blk w wr q 72 m.cells) (fun _ i _ => 90 - (intOf i).toNat)
  case atStart => exact ⟨0, Nat.zero_le _, rfl, _, ⟨0, 0⟩, S, 3, G0, rfl, fun h => by omega, h5, m5, q5⟩
  case round =>
    obtain ⟨j, hj, rfl, x, m, s, r, G, rfl, hjr, k1, k2, k3⟩ := hrel
    rcases hdn : x.done with _ | _
    · have hr0 : r ≠ 0 := fun h => by have := G.done.1.2 h; rw [hdn] at this; cases this
      rcases Nat.lt_or_ge j 90 with hj9 | hj9
      · have hji : (j : Int) < 90 := by omega
        obtain ⟨cx, Bx'⟩ := k2.blk
        obtain ⟨r', hr', G'⟩ := G.rx hf3 hr0
        by_cases hA : j < lp
        · by_cases hB : j < 60
          · have ci1 := ci.on k1.bel
            obtain ⟨vb, off, rfl, hvb, hz⟩ : ∃ b off, ap = some ⟨b, off, none⟩ ∧ b < wr.heap.size ∧ ∀ j, j < lp → wr.cell? ⟨b, off + j, none⟩ = some (.int .i64 (zp j)) ∧ -9223372036854775808 ≤ zp j ∧ zp j ≤ 9223372036854775807 := ci1.resolve_left (by omega)
            obtain ⟨dz, z0, z1⟩ := hz j hA
            obtain ⟨zj, hzj⟩ : ∃ zj, zp j = zj := ⟨_, rfl⟩
            rw [hzj] at dz z0 z1
            clear hz hzj ci1
            have hAi : (j : Int) < (lp : Int) := by omega
            have hBi : (j : Int) < 60 := by omega
            have kk := kd_lt zj 2 (by decide)
            obtain ⟨kz, hkz⟩ : ∃ kz, kd zj 2 = kz := ⟨_, rfl⟩
            rw [hkz] at kk
            have hCi : decide (80 ≤ (j : Int)) = false := by simp; omega
            have hC : j < 80 := by omega
            rcases (show kz = 0 ∨ kz = 1 by omega) with rfl | rfl
            · go_wp2_with (first
                | (go_at_call 18; refine (tC k1 k2 (by omega)).mono ?_; rintro e w6 ⟨rfl, k5, k6, o6⟩; have k7 := k3.oth o6 (by simpa using k3.ne Bx' (by decide)))
                | (go_at_call 9; refine (cKind _ zj 2 z0 z1 (by decide)).mono ?_; rintro e wk ⟨rfl, hwk⟩; rw [hwk, hkz]; clear hwk wk))
              go_roundw
              case rel => exact ⟨j + 1, by omega, by go_num, _, m, _, r', G', rfl, fun h => by have := G.le; omega, k5, k6, k7⟩
              case measure => simp [intOf]; omega
            · go_wp2_with (first
                | (go_at_call 26; refine (tMv k1 k3 G.ok (by omega)).mono ?_; rintro e w6 ⟨⟨dd, rfl⟩, k5, k6, o6⟩; have k7 := k2.oth1 o6 k3 (by decide) (Bx'.ne k3 (by decide)))
                | (go_at_call 9; refine (cKind _ zj 2 z0 z1 (by decide)).mono ?_; rintro e wk ⟨rfl, hwk⟩; rw [hwk, hkz]; clear hwk wk))
              go_roundw
              case rel => exact ⟨j + 1, by omega, by go_num, x, _, _, r, G.mo hf3 k1.rng1, by rw [hdn], fun h => by have := G.le; omega, k5, k7, k6⟩
              case measure => simp [intOf]; omega
          · have hAi : (j : Int) < (lp : Int) := by omega
            have hBi : ¬ (j : Int) < 60 := by omega
            rcases Nat.lt_or_ge j 80 with hC | hC
            · have hCi : decide (80 ≤ (j : Int)) = false := by simp; omega
              go_wp2_with (first
                | (go_at_call 26; refine (tMv k1 k3 G.ok (by omega)).mono ?_; rintro e w6 ⟨⟨dd, rfl⟩, k5, k6, o6⟩; have k7 := k2.oth1 o6 k3 (by decide) (Bx'.ne k3 (by decide))))
              go_roundw
              case rel => exact ⟨j + 1, by omega, by go_num, x, _, _, r, G.mo hf3 k1.rng1, by rw [hdn], fun h => by have := G.le; omega, k5, k7, k6⟩
              case measure => simp [intOf]; omega
            · have hCi : decide (80 ≤ (j : Int)) = true := by simp; omega
              go_wp2_with (first
                | (go_at_call 18; refine (tC k1 k2 (by omega)).mono ?_; rintro e w6 ⟨rfl, k5, k6, o6⟩; have k7 := k3.oth o6 (by simpa using k3.ne Bx' (by decide))))
              go_roundw
              case rel => exact ⟨j + 1, by omega, by go_num, _, m, _, r', G', rfl, fun h => by have := G.le; omega, k5, k6, k7⟩
              case measure => simp [intOf]; omega
        · have hAi : ¬ (j : Int) < (lp : Int) := by omega
          rcases Nat.lt_or_ge j 80 with hC | hC
          · have hCi : decide (80 ≤ (j : Int)) = false := by simp; omega
            go_wp2_with (first
              | (go_at_call 26; refine (tMv k1 k3 G.ok (by omega)).mono ?_; rintro e w6 ⟨⟨dd, rfl⟩, k5, k6, o6⟩; have k7 := k2.oth1 o6 k3 (by decide) (Bx'.ne k3 (by decide))))
            go_roundw
            case rel => exact ⟨j + 1, by omega, by go_num, x, _, _, r, G.mo hf3 k1.rng1, by rw [hdn], fun h => by have := G.le; omega, k5, k7, k6⟩
            case measure => simp [intOf]; omega
          · have hCi : decide (80 ≤ (j : Int)) = true := by simp; omega
            go_wp2_with (first
              | (go_at_call 18; refine (tC k1 k2 (by omega)).mono ?_; rintro e w6 ⟨rfl, k5, k6, o6⟩; have k7 := k3.oth o6 (by simpa using k3.ne Bx' (by decide))))
            go_roundw
            case rel => exact ⟨j + 1, by omega, by go_num, _, m, _, r', G', rfl, fun h => by have := G.le; omega, k5, k6, k7⟩
            case measure => simp [intOf]; omega
      · exact absurd (hjr (by omega)) (by omega)
    · have hr0 : r = 0 := G.done.1.1 hdn
      have hji : (j : Int) < 90 ∨ ¬ (j : Int) < 90 := by omega
      rcases hji with hji | hji
      · obtain ⟨g, cp, seen⟩ := k1.seen
        have c0 := seen.c0
        rw [hSl] at c0
        have cw := seen.at hSl (97 + f) (by omega)
        have hwd : S.word ((97 + f : Nat) : Int) = wd := (by rw [← hwd0]; congr 1)
        rw [hwd] at cw
        have hov : x.o.v = u := by rw [G.done.2 hr0, ← hu, ← hold]
        obtain ⟨oc, hoc⟩ : ∃ c, x.o.c = c := ⟨_, rfl⟩
        obtain ⟨oy, hoy⟩ : ∃ c, x.o.y = c := ⟨_, rfl⟩
        have hk : F.Plain.kind wd = u.k := congrArg Vl.k hu
        have hn : F.Plain.num wd = u.n := congrArg Vl.n hu
        have f1 := fOut1
        have e1 := eqVal_t (a := u) (b := u) rfl
        have i1 : IntKind.i64.wrap (97 + (f : Int)) = 97 + (f : Int) := by rw [IntKind.wrap_i64]; omega
        go_upto_region 16 with (fail)
        have hbd : Below wr.heap.size wr wr.drew := (Below.refl _ _).drew
        have sdc := (seen.below hbd).c0
        rw [hSl] at sdc
        have sdw := (seen.below hbd).at hSl (97 + f) (by omega)
        rw [hwd] at sdw
        refine wp_region_noPanic ?_
        refine wp_region_held_drew (S := fun w' => w'.cell? ⟨y, 0, none⟩ = some (.slice (some ⟨g, 0, none⟩) 160 cp) ∧ w'.cell? ⟨g, 97 + f, none⟩ = some (.int .u64 wd)) (by kernel_rfl) ⟨sdc, sdw⟩ (fun hHeld => ?_)
        refine takeH (i := 0) 75 (.bool true) rfl rfl (by kernel_rfl) (by kernel_rfl) (by kernel_rfl) (fun _ _ _ h => h) (by rfl) ?_ (by assumption) ?_
        · intro w hSw; (try dsimp only at hSw); go_simp
        simp only [List.setIfInBounds_toArray, List.set_cons_zero, List.set_cons_succ]
        refine takeH (i := 1) 76 (.bool true) rfl rfl (by kernel_rfl) (by kernel_rfl) (by kernel_rfl) (fun _ _ _ h => h) (by rfl) ?_ (by assumption) ?_
        · intro w hSw; (try dsimp only at hSw); go_simp
        simp only [List.setIfInBounds_toArray, List.set_cons_zero, List.set_cons_succ]
        refine takeH (i := 2) 77 (pt p) rfl rfl (by kernel_rfl) (by kernel_rfl) (by kernel_rfl) (fun _ _ _ h => h) (by rfl) ?_ (by assumption) ?_
        · intro w hSw; (try dsimp only at hSw); go_simp
        simp only [List.setIfInBounds_toArray, List.set_cons_zero, List.set_cons_succ]
        refine takeH (i := 5) 80 (pt y) rfl rfl (by kernel_rfl) (by kernel_rfl) (by kernel_rfl) (fun _ _ _ h => h) (by rfl) ?_ (by assumption) ?_
        · intro w hSw; (try dsimp only at hSw); go_simp
        simp only [List.setIfInBounds_toArray, List.set_cons_zero, List.set_cons_succ]
        refine takeH (i := 6) 81 (pt y) rfl rfl (by kernel_rfl) (by kernel_rfl) (by kernel_rfl) (fun _ _ _ h => h) (by rfl) ?_ (by assumption) ?_
        · intro w hSw; (try dsimp only at hSw); go_simp
        simp only [List.setIfInBounds_toArray, List.set_cons_zero, List.set_cons_succ]
        refine takeH (i := 7) 82 (pt y) rfl rfl (by kernel_rfl) (by kernel_rfl) (by kernel_rfl) (fun _ _ _ h => h) (by rfl) ?_ (by assumption) ?_
        · intro w hSw; (try dsimp only at hSw); go_simp
        simp only [List.setIfInBounds_toArray, List.set_cons_zero, List.set_cons_succ]
        refine takeH (i := 8) 83 (.slice (some ⟨g, 0, none⟩) 160 cp) rfl rfl (by kernel_rfl) (by kernel_rfl) (by kernel_rfl) (fun _ _ _ h => h) (by rfl) ?_ (by assumption) ?_
        · intro w hSw; (try dsimp only at hSw); go_simp
        simp only [List.setIfInBounds_toArray, List.set_cons_zero, List.set_cons_succ]
        refine takeH (i := 9) 84 (.int .i64 f) rfl rfl (by kernel_rfl) (by kernel_rfl) (by kernel_rfl) (fun _ _ _ h => h) (by rfl) ?_ (by assumption) ?_
        · intro w hSw; (try dsimp only at hSw); go_simp
        simp only [List.setIfInBounds_toArray, List.set_cons_zero, List.set_cons_succ]
        refine takeH (i := 10) 85 (.int .i64 (97 + f)) rfl rfl (by kernel_rfl) (by kernel_rfl) (by kernel_rfl) (fun _ _ _ h => h) (by rfl) ?_ (by assumption) ?_
        · intro w hSw; (try dsimp only at hSw); go_simp
        simp only [List.setIfInBounds_toArray, List.set_cons_zero, List.set_cons_succ]
        refine takeH (i := 11) 86 (.pointer (some ⟨g, 97 + f, none⟩)) rfl rfl (by kernel_rfl) (by kernel_rfl) (by kernel_rfl) (fun _ _ _ h => h) (by rfl) ?_ (by assumption) ?_
        · intro w hSw; (try dsimp only at hSw); go_simp; rw [if_pos (by omega)]; rw [show (97 + (f : Int)).toNat = 97 + f by omega]
        simp only [List.setIfInBounds_toArray, List.set_cons_zero, List.set_cons_succ]
        refine takeH (i := 12) 87 (.int .u64 wd) rfl rfl (by kernel_rfl) (by kernel_rfl) (by kernel_rfl) (fun _ _ _ h => h) (by rfl) ?_ (by assumption) ?_
        · intro w hSw; (try dsimp only at hSw); go_simp
        simp only [List.setIfInBounds_toArray, List.set_cons_zero, List.set_cons_succ]
        refine wpAnyH_ready (rs := [3]) (by kernel_rfl) (by simp) ?_
        refine AllReadyH.cons rfl (fun K hK => ?_) AllReadyH.nil
        go_simp
        refine (cCResult (k2.below hbd)).mono ?_
        rintro e w7 ⟨rfl, hb7⟩
        rw [show x.o.val = .agg #[.int .i64 oc, .int .i64 u.k, .int .i64 u.n, .bool oy] by rw [← hov, ← hoc, ← hoy]; rfl]
        have t7 := (k1.below hbd).below hb7
        have s7 := (seen.below hbd).below hb7
        have s7c := s7.c0
        rw [hSl] at s7c
        have s7w := s7.at hSl (97 + f) (by omega)
        rw [hwd] at s7w
        refine hK.out _ _ ⟨s7c, s7w⟩ (fun hHeld => ?_)
        clear hK K
        try simp only [Act.put, List.setIfInBounds_toArray, List.set_cons_zero, List.set_cons_succ]
        refine takeH (i := 4) 79 (.agg #[.int .i64 u.k, .int .i64 u.n]) rfl rfl (by kernel_rfl) (by kernel_rfl) (by kernel_rfl) (fun _ _ _ h => h) (by rfl) ?_ (by assumption) ?_
        · intro w hSw; (try dsimp only at hSw); go_simp
        simp only [List.setIfInBounds_toArray, List.set_cons_zero, List.set_cons_succ]
        refine wpAnyH_ready (rs := [13]) (by kernel_rfl) (by simp) ?_
        refine AllReadyH.cons rfl (fun K hK => ?_) AllReadyH.nil
        go_simp
        refine (F.rOf wd hU.1 hU.2 _).mono ?_
        rintro e w8 ⟨rfl, hw8⟩
        rw [hk, hn] at hw8 ⊢
        have hb8 : Below w7.heap.size w7 w8 := (by rw [hw8]; go_grown)
        have t8 := t7.below hb8
        have s8 := s7.below hb8
        clear hw8 hb8
        have s8c := s8.c0
        rw [hSl] at s8c
        have s8w := s8.at hSl (97 + f) (by omega)
        rw [hwd] at s8w
        refine hK.out _ _ ⟨s8c, s8w⟩ (fun hHeld => ?_)
        clear hK K
        try simp only [Act.put, List.setIfInBounds_toArray, List.set_cons_zero, List.set_cons_succ]
        refine takeH (i := 14) 89 (.bool true) rfl rfl (by kernel_rfl) (by kernel_rfl) (by kernel_rfl) (fun _ _ _ h => h) (by rfl) ?_ (by assumption) ?_
        · intro w hSw; (try dsimp only at hSw); go_simp
        simp only [List.setIfInBounds_toArray, List.set_cons_zero, List.set_cons_succ]
        refine takeH (i := 15) 90 (.bool true) rfl rfl (by kernel_rfl) (by kernel_rfl) (by kernel_rfl) (fun _ _ _ h => h) (by rfl) ?_ (by assumption) ?_
        · intro w hSw; (try dsimp only at hSw); go_simp
        simp only [List.setIfInBounds_toArray, List.set_cons_zero, List.set_cons_succ]
        refine takeH (i := 16) 6 (.bool true) rfl rfl (by kernel_rfl) (by kernel_rfl) (by kernel_rfl) (fun _ _ _ h => h) (by rfl) ?_ (by assumption) ?_
        · intro w hSw; (try dsimp only at hSw); go_simp
        simp only [List.setIfInBounds_toArray, List.set_cons_zero, List.set_cons_succ]
        refine wpAnyH_done (by kernel_rfl) ?_ _
        refine NoPanic.normal ?_
        go_wp2
        go_ret
        exact ⟨rfl, t8.bel⟩
      · obtain ⟨g, cp, seen⟩ := k1.seen
        have c0 := seen.c0
        rw [hSl] at c0
        have cw := seen.at hSl (97 + f) (by omega)
        have hwd : S.word ((97 + f : Nat) : Int) = wd := (by rw [← hwd0]; congr 1)
        rw [hwd] at cw
        have hov : x.o.v = u := by rw [G.done.2 hr0, ← hu, ← hold]
        obtain ⟨oc, hoc⟩ : ∃ c, x.o.c = c := ⟨_, rfl⟩
        obtain ⟨oy, hoy⟩ : ∃ c, x.o.y = c := ⟨_, rfl⟩
        have hk : F.Plain.kind wd = u.k := congrArg Vl.k hu
        have hn : F.Plain.num wd = u.n := congrArg Vl.n hu
        have f1 := fOut1
        have e1 := eqVal_t (a := u) (b := u) rfl
        have i1 : IntKind.i64.wrap (97 + (f : Int)) = 97 + (f : Int) := by rw [IntKind.wrap_i64]; omega
        go_upto_region 16 with (fail)
        have hbd : Below wr.heap.size wr wr.drew := (Below.refl _ _).drew
        have sdc := (seen.below hbd).c0
        rw [hSl] at sdc
        have sdw := (seen.below hbd).at hSl (97 + f) (by omega)
        rw [hwd] at sdw
        refine wp_region_noPanic ?_
        refine wp_region_held_drew (S := fun w' => w'.cell? ⟨y, 0, none⟩ = some (.slice (some ⟨g, 0, none⟩) 160 cp) ∧ w'.cell? ⟨g, 97 + f, none⟩ = some (.int .u64 wd)) (by kernel_rfl) ⟨sdc, sdw⟩ (fun hHeld => ?_)
        refine takeH (i := 0) 75 (.bool true) rfl rfl (by kernel_rfl) (by kernel_rfl) (by kernel_rfl) (fun _ _ _ h => h) (by rfl) ?_ (by assumption) ?_
        · intro w hSw; (try dsimp only at hSw); go_simp
        simp only [List.setIfInBounds_toArray, List.set_cons_zero, List.set_cons_succ]
        refine takeH (i := 1) 76 (.bool true) rfl rfl (by kernel_rfl) (by kernel_rfl) (by kernel_rfl) (fun _ _ _ h => h) (by rfl) ?_ (by assumption) ?_
        · intro w hSw; (try dsimp only at hSw); go_simp
        simp only [List.setIfInBounds_toArray, List.set_cons_zero, List.set_cons_succ]
        refine takeH (i := 2) 77 (pt p) rfl rfl (by kernel_rfl) (by kernel_rfl) (by kernel_rfl) (fun _ _ _ h => h) (by rfl) ?_ (by assumption) ?_
        · intro w hSw; (try dsimp only at hSw); go_simp
        simp only [List.setIfInBounds_toArray, List.set_cons_zero, List.set_cons_succ]
        refine takeH (i := 5) 80 (pt y) rfl rfl (by kernel_rfl) (by kernel_rfl) (by kernel_rfl) (fun _ _ _ h => h) (by rfl) ?_ (by assumption) ?_
        · intro w hSw; (try dsimp only at hSw); go_simp
        simp only [List.setIfInBounds_toArray, List.set_cons_zero, List.set_cons_succ]
        refine takeH (i := 6) 81 (pt y) rfl rfl (by kernel_rfl) (by kernel_rfl) (by kernel_rfl) (fun _ _ _ h => h) (by rfl) ?_ (by assumption) ?_
        · intro w hSw; (try dsimp only at hSw); go_simp
        simp only [List.setIfInBounds_toArray, List.set_cons_zero, List.set_cons_succ]
        refine takeH (i := 7) 82 (pt y) rfl rfl (by kernel_rfl) (by kernel_rfl) (by kernel_rfl) (fun _ _ _ h => h) (by rfl) ?_ (by assumption) ?_
        · intro w hSw; (try dsimp only at hSw); go_simp
        simp only [List.setIfInBounds_toArray, List.set_cons_zero, List.set_cons_succ]
        refine takeH (i := 8) 83 (.slice (some ⟨g, 0, none⟩) 160 cp) rfl rfl (by kernel_rfl) (by kernel_rfl) (by kernel_rfl) (fun _ _ _ h => h) (by rfl) ?_ (by assumption) ?_
        · intro w hSw; (try dsimp only at hSw); go_simp
        simp only [List.setIfInBounds_toArray, List.set_cons_zero, List.set_cons_succ]
        refine takeH (i := 9) 84 (.int .i64 f) rfl rfl (by kernel_rfl) (by kernel_rfl) (by kernel_rfl) (fun _ _ _ h => h) (by rfl) ?_ (by assumption) ?_
        · intro w hSw; (try dsimp only at hSw); go_simp
        simp only [List.setIfInBounds_toArray, List.set_cons_zero, List.set_cons_succ]
        refine takeH (i := 10) 85 (.int .i64 (97 + f)) rfl rfl (by kernel_rfl) (by kernel_rfl) (by kernel_rfl) (fun _ _ _ h => h) (by rfl) ?_ (by assumption) ?_
        · intro w hSw; (try dsimp only at hSw); go_simp
        simp only [List.setIfInBounds_toArray, List.set_cons_zero, List.set_cons_succ]
        refine takeH (i := 11) 86 (.pointer (some ⟨g, 97 + f, none⟩)) rfl rfl (by kernel_rfl) (by kernel_rfl) (by kernel_rfl) (fun _ _ _ h => h) (by rfl) ?_ (by assumption) ?_
        · intro w hSw; (try dsimp only at hSw); go_simp; rw [if_pos (by omega)]; rw [show (97 + (f : Int)).toNat = 97 + f by omega]
        simp only [List.setIfInBounds_toArray, List.set_cons_zero, List.set_cons_succ]
        refine takeH (i := 12) 87 (.int .u64 wd) rfl rfl (by kernel_rfl) (by kernel_rfl) (by kernel_rfl) (fun _ _ _ h => h) (by rfl) ?_ (by assumption) ?_
        · intro w hSw; (try dsimp only at hSw); go_simp
        simp only [List.setIfInBounds_toArray, List.set_cons_zero, List.set_cons_succ]
        refine wpAnyH_ready (rs := [3]) (by kernel_rfl) (by simp) ?_
        refine AllReadyH.cons rfl (fun K hK => ?_) AllReadyH.nil
        go_simp
        refine (cCResult (k2.below hbd)).mono ?_
        rintro e w7 ⟨rfl, hb7⟩
        rw [show x.o.val = .agg #[.int .i64 oc, .int .i64 u.k, .int .i64 u.n, .bool oy] by rw [← hov, ← hoc, ← hoy]; rfl]
        have t7 := (k1.below hbd).below hb7
        have s7 := (seen.below hbd).below hb7
        have s7c := s7.c0
        rw [hSl] at s7c
        have s7w := s7.at hSl (97 + f) (by omega)
        rw [hwd] at s7w
        refine hK.out _ _ ⟨s7c, s7w⟩ (fun hHeld => ?_)
        clear hK K
        try simp only [Act.put, List.setIfInBounds_toArray, List.set_cons_zero, List.set_cons_succ]
        refine takeH (i := 4) 79 (.agg #[.int .i64 u.k, .int .i64 u.n]) rfl rfl (by kernel_rfl) (by kernel_rfl) (by kernel_rfl) (fun _ _ _ h => h) (by rfl) ?_ (by assumption) ?_
        · intro w hSw; (try dsimp only at hSw); go_simp
        simp only [List.setIfInBounds_toArray, List.set_cons_zero, List.set_cons_succ]
        refine wpAnyH_ready (rs := [13]) (by kernel_rfl) (by simp) ?_
        refine AllReadyH.cons rfl (fun K hK => ?_) AllReadyH.nil
        go_simp
        refine (F.rOf wd hU.1 hU.2 _).mono ?_
        rintro e w8 ⟨rfl, hw8⟩
        rw [hk, hn] at hw8 ⊢
        have hb8 : Below w7.heap.size w7 w8 := (by rw [hw8]; go_grown)
        have t8 := t7.below hb8
        have s8 := s7.below hb8
        clear hw8 hb8
        have s8c := s8.c0
        rw [hSl] at s8c
        have s8w := s8.at hSl (97 + f) (by omega)
        rw [hwd] at s8w
        refine hK.out _ _ ⟨s8c, s8w⟩ (fun hHeld => ?_)
        clear hK K
        try simp only [Act.put, List.setIfInBounds_toArray, List.set_cons_zero, List.set_cons_succ]
        refine takeH (i := 14) 89 (.bool true) rfl rfl (by kernel_rfl) (by kernel_rfl) (by kernel_rfl) (fun _ _ _ h => h) (by rfl) ?_ (by assumption) ?_
        · intro w hSw; (try dsimp only at hSw); go_simp
        simp only [List.setIfInBounds_toArray, List.set_cons_zero, List.set_cons_succ]
        refine takeH (i := 15) 90 (.bool true) rfl rfl (by kernel_rfl) (by kernel_rfl) (by kernel_rfl) (fun _ _ _ h => h) (by rfl) ?_ (by assumption) ?_
        · intro w hSw; (try dsimp only at hSw); go_simp
        simp only [List.setIfInBounds_toArray, List.set_cons_zero, List.set_cons_succ]
        refine takeH (i := 16) 6 (.bool true) rfl rfl (by kernel_rfl) (by kernel_rfl) (by kernel_rfl) (fun _ _ _ h => h) (by rfl) ?_ (by assumption) ?_
        · intro w hSw; (try dsimp only at hSw); go_simp
        simp only [List.setIfInBounds_toArray, List.set_cons_zero, List.set_cons_succ]
        refine wpAnyH_done (by kernel_rfl) ?_ _
        refine NoPanic.normal ?_
        go_wp2
        go_ret
        exact ⟨rfl, t8.bel⟩
end Go.Proofs.YtmlgohknbjfciaaGreatDoor
