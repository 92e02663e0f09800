/-
  A heap of the reference is built.
-/
import Derived.Test.YtoablodmodnamaaDoorTeq
import Derived.Deep.Cut
import Derived.Deep.RegionHeld3
namespace Go.Proofs.YtoablodmodnamaaDoor
set_option linter.unusedVariables false
set_option linter.unusedSimpArgs false
set_option maxRecDepth 100000
open Go.ChangeShapes Go.WideShapes Go.RowKit
open S.Plain (t0 t1 tw nx bw b0 b1 b2 b3)
open H.Plain (hw pS pC pN pM pG pT pL)

theorem cNum (w : World) (c n : Int) (hc : -9223372036854775808 ≤ c) (hc' : c ≤ 9223372036854775807) (hn : 0 < n) :
    Calls Tryd.prog 24 #[.int .i64 c, .int .i64 n] w fun e w' => e = .returned (.int .i64 (kd c n)) ∧ w' = w := by
  unfold kd
  by_cases h : c < 0
  · rw [if_pos h, ← Int.tmod_eq_emod_of_nonneg (by omega), Int.neg_tmod]
    go_enter Tryd.func24, Tryd.ntmps24
    go_wp2
    go_ret
    exact ⟨rfl, rfl⟩
  · rw [if_neg h]
    go_enter Tryd.func24, Tryd.ntmps24
    go_wp2
    go_ret
    exact ⟨rfl, rfl⟩
theorem fhead2 (a b c d e f g : Int) (w : World) : (Instr.field 74 (.agg #[.int .i64 a, .int .i64 b, .int .i64 c, .int .i64 d, .int .i64 e, .int .i64 f, .int .i64 g]) 2).run Tryd.prog w = .ok (.int .i64 c) w := by kernel_rfl
set_option maxHeartbeats 4000000 in
theorem cBuilt (bl : Int) (b0 : -9223372036854775808 ≤ bl) (b1 : bl ≤ 9223372036854775807) (ac : Option Addr) (lc cc : Nat) (zc : Nat → Int) (af : Option Addr) (lf cf : Nat) (zf : Nat → Int) (e : Nat) (he : e ≤ 1) (w : World) (W : H.Wid w) (ic : CameI w ac lc zc) (jf : CameI w af lf zf) :
    Calls Tryd.prog 22 #[.agg #[.int .i64 bl, .slice ac lc cc, .slice none 0 0, .slice af lf cf], .int .i64 e] w fun r w' => ∃ (n y : Nat) (v : Value) (l : List Ob) (f : Int → Int) (s : St) (N : Nat), 1 ≤ n ∧ n ≤ 6 ∧ r = .returned (.tuple #[.agg #[.int .i64 (mkPl 2 n).t, .int .i64 (mkPl 2 n).b, .int .i64 (mkPl 2 n).tb, .int .i64 (mkPl 2 n).hp, .int .i64 (mkPl 2 n).sz], .pointer (some ⟨y, 0, none⟩), v]) ∧ Y1 w w' y s N ∧ Vw (32 + 32 * n) s f ∧ Lo (32 + 32 * n) l ∧ FI (32 + 32 * n) l f ∧ l.length ≤ 60 ∧ N ≤ 6000 ∧ w'.ownsRow 0 3 1 v l.length (ats l) ∧ ∀ k, v.ownBlock = some k → w.heap.size ≤ k := by
  obtain ⟨q6, hq6⟩ : ∃ q, kd bl 6 = q := ⟨_, rfl⟩
  have kb : 0 ≤ q6 ∧ q6 < 6 := hq6 ▸ kd_bounds bl 6 (by decide)
  obtain ⟨n, hn, hn1, hn6⟩ : ∃ n : Nat, 1 + q6 = (n : Int) ∧ 1 ≤ n ∧ n ≤ 6 := ⟨(1 + q6).toNat, by omega, by omega, by omega⟩
  have hq : Hid (kd bl 6 = q6) := hq6
  clear hq6
  go_enter Tryd.func22, Tryd.ntmps22
  go_upto_region 1 with (fail)
  have hb0 : Below w.heap.size w ((w.alloc (.cells #[.int .i64 bl, .slice ac lc cc, .slice none 0 0, .slice af lf cf] 66)).alloc (.cells #[.int .i64 0, .int .i64 0, .int .i64 0, .int .i64 0, .int .i64 0] 32)) := ((Below.refl _ _).alloc (Nat.le_refl _) _).alloc (by simp) _
  have B2 : Blk w ((w.alloc (.cells #[.int .i64 bl, .slice ac lc cc, .slice none 0 0, .slice af lf cf] 66)).alloc (.cells #[.int .i64 0, .int .i64 0, .int .i64 0, .int .i64 0, .int .i64 0] 32)) w.heap.size 66 #[.int .i64 bl, .slice ac lc cc, .slice none 0 0, .slice af lf cf] := (Blk.new (Nat.le_refl _) _ (by decide)).below ((Below.refl _ _).alloc (Nat.le_refl _) _)
  have B4 : Blk w ((w.alloc (.cells #[.int .i64 bl, .slice ac lc cc, .slice none 0 0, .slice af lf cf] 66)).alloc (.cells #[.int .i64 0, .int .i64 0, .int .i64 0, .int .i64 0, .int .i64 0] 32)) (w.heap.size + 1) 32 #[.int .i64 0, .int .i64 0, .int .i64 0, .int .i64 0, .int .i64 0] := by
    have := Blk.new (w0 := w) (w := w.alloc (.cells #[.int .i64 bl, .slice ac lc cc, .slice none 0 0, .slice af lf cf] 66)) (by simp) #[.int .i64 0, .int .i64 0, .int .i64 0, .int .i64 0, .int .i64 0] (T := 32) (by decide)
    simpa using this
  generalize (w.alloc (.cells #[.int .i64 bl, .slice ac lc cc, .slice none 0 0, .slice af lf cf] 66)).alloc (.cells #[.int .i64 0, .int .i64 0, .int .i64 0, .int .i64 0, .int .i64 0] 32) = w1 at hb0 B2 B4 ⊢
  have d0 : w1.cell? ⟨w.heap.size, 0, none⟩ = some (.int .i64 bl) := B2.cell 0
  have dl := B2.lt
  go_upto_region 2 with (first
    | (go_at_call 24; refine (cNum _ bl 6 b0 b1 (by decide)).mono ?_; rintro r wn ⟨rfl, hwn⟩; rw [hwn, hq.out]; clear hwn wn)
    | (go_at_call 8; (first | refine (kRNew 2 n (by decide) (by decide) hn1 (by omega) _).mono ?_ | refine (kRNew' (t := 2) (n := n) rfl hn (by decide) (by decide) hn1 (by omega) _).mono ?_); rintro r w2 ⟨rfl, hb2⟩))
  clear d0 dl
  have hb3 : Below w1.heap.size w1 (w2.alloc (.cells #[.int .i64 (mkPl 2 n).t, .int .i64 (mkPl 2 n).b, .int .i64 (mkPl 2 n).tb, .int .i64 (mkPl 2 n).hp, .int .i64 (mkPl 2 n).sz] 32)) := hb2.alloc hb2.size _
  have B7 : Blk w (w2.alloc (.cells #[.int .i64 (mkPl 2 n).t, .int .i64 (mkPl 2 n).b, .int .i64 (mkPl 2 n).tb, .int .i64 (mkPl 2 n).hp, .int .i64 (mkPl 2 n).sz] 32)) w2.heap.size 32 #[.int .i64 (mkPl 2 n).t, .int .i64 (mkPl 2 n).b, .int .i64 (mkPl 2 n).tb, .int .i64 (mkPl 2 n).hp, .int .i64 (mkPl 2 n).sz] := Blk.new (Nat.le_trans hb0.size hb2.size) _ (by decide)
  have hp7 : w1.heap.size ≤ w2.heap.size := hb2.size
  replace B2 := B2.below hb3
  have hl4 := B4.lt
  replace B4 := B4.below hb3
  have hb4 := bel_trans hb0 hb3
  have ne7 : w.heap.size + 1 ≠ w2.heap.size := by omega
  clear hb2 hb0 hb3 hp7 hl4 hn
  generalize w2.alloc (.cells #[.int .i64 (mkPl 2 n).t, .int .i64 (mkPl 2 n).b, .int .i64 (mkPl 2 n).tb, .int .i64 (mkPl 2 n).hp, .int .i64 (mkPl 2 n).sz] 32) = w3 at hb4 B2 B4 B7 ⊢
  generalize w2.heap.size = p7 at B7 ne7 ⊢
  have e0 : w3.cell? ⟨p7, 0, none⟩ = some (.int .i64 (mkPl 2 n).t) := B7.cell 0
  have e1 : w3.cell? ⟨p7, 1, none⟩ = some (.int .i64 (mkPl 2 n).b) := B7.cell 1
  have e2 : w3.cell? ⟨p7, 2, none⟩ = some (.int .i64 (mkPl 2 n).tb) := B7.cell 2
  have e3 : w3.cell? ⟨p7, 3, none⟩ = some (.int .i64 (mkPl 2 n).hp) := B7.cell 3
  have e4 : w3.cell? ⟨p7, 4, none⟩ = some (.int .i64 (mkPl 2 n).sz) := B7.cell 4
  have el := B7.lt
  go_upto_region 3 with (go_at_call 57; refine (cFresh (t := 2) (n := n) (by decide) hn1 (by omega) _).mono ?_; rintro r w5 ⟨M, rfl, hr, hb5, hfp⟩)
  clear e0 e1 e2 e3 e4 el
  have U0 : Bu w w5 M.b (frSt 2 n) 0 w.heap.size (w.heap.size + 1) p7 #[.int .i64 bl, .slice ac lc cc, .slice none 0 0, .slice af lf cf] #[.int .i64 0, .int .i64 0, .int .i64 0, .int .i64 0, .int .i64 0] #[.int .i64 (mkPl 2 n).t, .int .i64 (mkPl 2 n).b, .int .i64 (mkPl 2 n).tb, .int .i64 (mkPl 2 n).hp, .int .i64 (mkPl 2 n).sz] (.slice none 0 0) [] := ⟨⟨⟨M, rfl, hr, fun k hk => Nat.le_trans hb4.size (hfp k hk)⟩, bel_trans hb4 hb5, frSt_fit (by decide) hn1 (by omega), Int.le_refl _, frSt_rng _ _, W⟩, B2.below hb5, B4.below hb5, B7.below hb5, World.ownsRow_nil _ _ _ _, fun k hk => by simp [Value.ownBlock] at hk, ne7⟩
  have V0 := Vw.fresh hn6
  have H0 := Heap.new (e := e) hn1 hn6 he
  have hs0 : (frSt 2 n).c = 0 := rfl
  clear hr hb5 hfp B2 B4 B7 hb4 ne7
  generalize M.b = y at U0 ⊢
  obtain ⟨f0, hf0⟩ : ∃ f0 : Int → Int, (fun a => (frSt 2 n).word a) = f0 := ⟨_, rfl⟩
  rw [hf0] at V0 H0
  clear hf0
  generalize frSt 2 n = S0 at U0 V0 hs0
  clear M
  go_wp2_with (fail)
  go_loopw [10, 11] (fun vl vi wr => ∃ (i : Nat) (v : Value) (l : List Ob) (f : Int → Int) (s : St) (N : Nat), i ≤ lc ∧ i ≤ 60 ∧ vi = .int .i64 i ∧ v = vl ∧ Bu w wr y s N w.heap.size (w.heap.size + 1) p7 #[.int .i64 bl, .slice ac lc cc, .slice none 0 0, .slice af lf cf] #[.int .i64 0, .int .i64 0, .int .i64 0, .int .i64 0, .int .i64 0] #[.int .i64 (mkPl 2 n).t, .int .i64 (mkPl 2 n).b, .int .i64 (mkPl 2 n).tb, .int .i64 (mkPl 2 n).hp, .int .i64 (mkPl 2 n).sz] v l ∧ N ≤ 100 * i ∧ Vw (32 + 32 * n) s f ∧ Heap n e f l ∧ l.length ≤ i ∧ ∀ o ∈ l, o.g = 0) (fun _ vi _ => 60 - (intOf vi).toNat)
  case atStart => exact ⟨0, _, [], f0, S0, 0, by omega, by omega, rfl, rfl, U0, by omega, V0, H0, by simp, by simp⟩
  case round =>
    clear U0 V0 H0 hs0
    obtain ⟨i, v, l, f, s, N, hi, hi60, rfl, hv, U, hN, V, H, hll, hgz⟩ := hrel
    subst hv
    by_cases hlt : i < lc ∧ i < 60
    · obtain ⟨hlt, hlt60⟩ := hlt
      have hc1 : decide ((i : Int) < (lc : Int)) = true := by simp; omega
      have hc2 : decide ((i : Int) < 60) = true := by simp; omega
      have ei : (0 : Int) ≤ (i : Int) := by omega
      obtain ⟨kb, koff, hac, hkb, hz⟩ : ∃ b off, ac = some ⟨b, off, none⟩ ∧ b < wr.heap.size ∧ ∀ j, j < lc → wr.cell? ⟨b, off + j, none⟩ = some (.int .i64 (zc j)) ∧ -9223372036854775808 ≤ zc j ∧ zc j ≤ 9223372036854775807 := (ic.on U.mem.bel).resolve_left (by omega)
      obtain ⟨d0, dl, du⟩ := hz i hlt
      obtain ⟨z, hzz⟩ : ∃ z, zc i = z := ⟨_, rfl⟩
      rw [hzz] at d0 dl du
      clear hz hzz
      obtain ⟨m, hm', m7⟩ : ∃ m : Nat, kd z 8 = (m : Int) ∧ m ≤ 7 := ⟨(kd z 8).toNat, by have := kd_bounds z 8 (by decide); omega, by have := kd_bounds z 8 (by decide); omega⟩
      have hm : Hid (kd z 8 = (m : Int)) := hm'
      clear hm'
      have hac' : ∀ w', Blk w w' w.heap.size 66 #[.int .i64 bl, .slice ac lc cc, .slice none 0 0, .slice af lf cf] → w'.cell? ⟨w.heap.size, 1, none⟩ = some (.slice (some ⟨kb, koff, none⟩) lc cc) := fun w' B => hac ▸ B.cell 1
      clear hac
      have g1 := hac' _ U.b2
      have g2 : wr.cell? ⟨w.heap.size, 2, none⟩ = some (.slice none 0 0) := U.b2.cell 2
      have gl := U.b2.lt
      have hc3 : decide ((i : Int) < 0) = false := by simp
      go_upto_region 10 with (fail)
      clear hc1 hc2 hc3 g1 g2 gl
      have keep : ∀ w', Below wr.heap.size wr w' → w'.cell? ⟨p7, 0, none⟩ = some (.int .i64 (mkPl 2 n).t) ∧ w'.cell? ⟨p7, 1, none⟩ = some (.int .i64 (mkPl 2 n).b) ∧ w'.cell? ⟨p7, 2, none⟩ = some (.int .i64 (mkPl 2 n).tb) ∧ w'.cell? ⟨p7, 3, none⟩ = some (.int .i64 (mkPl 2 n).hp) ∧ w'.cell? ⟨p7, 4, none⟩ = some (.int .i64 (mkPl 2 n).sz) ∧ w'.cell? ⟨w.heap.size, 1, none⟩ = some (.slice (some ⟨kb, koff, none⟩) lc cc) ∧ w'.cell? ⟨kb, koff + i, none⟩ = some (.int .i64 z) := fun w' hb => ⟨(U.below hb).b7.cell 0, (U.below hb).b7.cell 1, (U.below hb).b7.cell 2, (U.below hb).b7.cell 3, (U.below hb).b7.cell 4, hac' _ (U.below hb).b2, (hb.cell hkb).trans d0⟩
      have hbd : Below wr.heap.size wr wr.drew := (Below.refl wr.heap.size wr).drew
      have RD := keep _ hbd
      have f1 := U.b7.lt
      have f2 := U.b2.lt
      go_region_held3 (fun w' => w'.cell? ⟨p7, 0, none⟩ = some (.int .i64 (mkPl 2 n).t) ∧ w'.cell? ⟨p7, 1, none⟩ = some (.int .i64 (mkPl 2 n).b) ∧ w'.cell? ⟨p7, 2, none⟩ = some (.int .i64 (mkPl 2 n).tb) ∧ w'.cell? ⟨p7, 3, none⟩ = some (.int .i64 (mkPl 2 n).hp) ∧ w'.cell? ⟨p7, 4, none⟩ = some (.int .i64 (mkPl 2 n).sz) ∧ w'.cell? ⟨w.heap.size, 1, none⟩ = some (.slice (some ⟨kb, koff, none⟩) lc cc) ∧ w'.cell? ⟨kb, koff + i, none⟩ = some (.int .i64 z)) (first | assumption | exact RD | exact keep _ (by assumption))
        (first
          | (go_at_call 24; refine (cNum _ z 8 dl du (by decide)).mono ?_; rintro r wn ⟨rfl, hwn⟩; rw [hwn, hm.out]; clear hwn wn)
          | (go_at_call 58; refine (alNew (w0 := w) (n := n) (m := m) (e := e) (mk := 0) (Nat.le_trans U.mem.bel.size hbd.size) hn6 m7 he).mono ?_; rintro r w2 ⟨ap, rp, xp, rfl, R0, hb2⟩; have hb2' := bel_trans hbd hb2))
      clear keep RD f1 f2
      have U1 := U.below hb2'
      obtain ⟨K, xf, sf, f', l', hK, RR, xf0, Vf, Hf, hres⟩ := H.alloc V hn6 hn1 he m7 0
      have ok0 : (AllS.new (mkPl 2 n) m 0 e).Ok := AllS.ok_new (mkPl_ok (by decide) (by omega)) (by omega) (by omega) (by omega) (by omega)
      clear U H V hbd hb2 hb2' hm d0 hkb dl du hac'
      obtain ⟨x0, hx0⟩ : ∃ x0, AllS.new (mkPl 2 n) m 0 e = x0 := ⟨_, rfl⟩
      rw [hx0] at R0 RR ok0
      clear hx0
      go_wp2_with (fail)
      go_loopw [14] (fun vk wr => ∃ (j r : Nat) (x : AllS) (s' : St) (N' xp : Nat) (yv : Value) (Y : List Nat), j + r = K ∧ vk = .int .i64 j ∧ Rn r x s' xf sf ∧ Bu w wr y s' N' w.heap.size (w.heap.size + 1) p7 #[.int .i64 bl, .slice ac lc cc, .slice none 0 0, .slice af lf cf] #[.int .i64 0, .int .i64 0, .int .i64 0, .int .i64 0, .int .i64 0] #[.int .i64 (mkPl 2 n).t, .int .i64 (mkPl 2 n).b, .int .i64 (mkPl 2 n).tb, .int .i64 (mkPl 2 n).hp, .int .i64 (mkPl 2 n).sz] v l ∧ N' ≤ N + j ∧ RAl w wr ap rp xp yv Y x ∧ x.Ok) (fun vk _ => 60 - (intOf vk).toNat)
      case atStart => exact ⟨0, K, x0, s, N, xp, _, _, by omega, rfl, RR, U1, by omega, R0, ok0⟩
      case round =>
        clear U1 R0 RR ok0
        obtain ⟨j, r, x, s', N', xp, yv, Y, hjr, rfl, RR, U2, hN', R, okx⟩ := hrel
        have hj60 : decide ((j : Int) < 60) = true := by simp; omega
        obtain ⟨qa, hqa⟩ := R.blk
        have c7 : wr.cell? ⟨ap, 7, none⟩ = some (.int .i64 x.pc) := hqa.cell 7
        have cl7 := hqa.lt
        clear hqa qa
        cases RR with
        | nil =>
          rw [xf0] at c7
          have c10 : wr.cell? ⟨ap, 10, none⟩ = some (.int .i64 xf.cell) := (R.blk.choose_spec.cell 10)
          have cal := R.blk.choose_spec.lt
          clear R
          rcases hres with ⟨z0, rfl⟩ | ⟨o, z0, z1, z2, z3, rfl⟩
          · rw [z0] at c10
            go_wp2_with (fail)
            go_roundw
            case rel => exact ⟨i + 1, _, l', f', sf, N', by omega, by omega, by go_num, rfl, U2, by omega, Vf, Hf, by omega, hgz⟩
            case measure => simp [intOf]; omega
          · rw [z0] at c10
            have zne : (o.at != 0) = true := by simpa using z1
            obtain ⟨i0, hi0, hz0, hz1, hz2⟩ := intInfo
            go_wp2_with (at_builtin; refine wpList_append_mine _ rfl _ _ 22 rfl 3 i0 _ 1 8 Tryd.underlying22 hi0 hz0 hz1 hz2 rfl (by decide) v l.length (ats l) rfl (U2.row.alloc _) ⟨wr.heap.size, 0, none⟩ 1 1 [.int .i64 o.at] rfl rfl (new1 _ _ rfl _ _) (by intro u hu; simp at hu; rw [hu]; rfl) (by unfold maxLen; omega) (by omega) (by decide) ?_; intro g3 cp3 w3 hrow3 hgr3 hn3)
            have U3 := U2.push hrow3 hgr3 hn3
            go_roundw
            case rel => exact ⟨i + 1, _, l ++ [o], f', sf, N', by omega, by omega, by go_num, rfl, U3, by omega, Vf, Hf, by simp; omega, fun c hc => by rw [List.mem_append, List.mem_singleton] at hc; exact hc.elim (hgz c) (fun e => e ▸ z3)⟩
            case measure => simp [intOf]; omega
        | cons h1 RR =>
          rename_i r
          have hpc : ((x.pc : Int) != 0) = true := by simp; omega
          go_wp2_with (go_at_call 59; refine (yAll U2.mem R okx h1 (by omega)).mono ?_; rintro v2 w2 ⟨rfl, Y2, xp2, yv2, Yl2, R2, o2, _⟩)
          have U3 := U2.oth Y2 o2 R.kind5
          have ok3 := okx.next (s := s') U2.mem.rng2
          go_roundw
          case rel => exact ⟨j + 1, r, _, _, N' + 1, xp2, yv2, Yl2, by omega, by go_num, RR, U3, by omega, R2, ok3⟩
          case measure => simp [intOf]; omega
    · have gl := U.b2.lt
      have g1 : wr.cell? ⟨w.heap.size, 1, none⟩ = some (.slice ac lc cc) := U.b2.cell 1
      obtain ⟨ao, cap, rfl, hao⟩ := U.rows
      by_cases hlt1 : i < lc
      · have hc1 : decide ((i : Int) < (lc : Int)) = true := by simp; omega
        have hc2 : decide ((i : Int) < 60) = false := by simp; omega
        have lo := H.lo hn6
        have fi := FI.new H hgz
        have hl60 : l.length ≤ 60 := by omega
        have hN60 : N ≤ 6000 := by omega
        clear H hgz
        go_wp2_with (fail)
        go_loopw [15, 16] (fun vn vi wr => ∃ (i nn : Nat) (f : Int → Int) (s : St), i ≤ l.length ∧ nn ≤ 7 * i ∧ vi = .int .i64 i ∧ vn = .int .i64 nn ∧ Bu w wr y s N w.heap.size (w.heap.size + 1) p7 #[.int .i64 bl, .slice ac lc cc, .slice none 0 0, .slice af lf cf] #[.int .i64 0, .int .i64 0, .int .i64 0, .int .i64 0, .int .i64 0] #[.int .i64 (mkPl 2 n).t, .int .i64 (mkPl 2 n).b, .int .i64 (mkPl 2 n).tb, .int .i64 (mkPl 2 n).hp, .int .i64 (mkPl 2 n).sz] (.slice ao l.length cap) l ∧ Vw (32 + 32 * n) s f ∧ FI (32 + 32 * n) l f) (fun _ vi _ => 60 - (intOf vi).toNat)
        case atStart => exact ⟨0, 0, f, s, by omega, by omega, rfl, rfl, U, V, fi⟩
        case round =>
          clear U V fi hi hi60 g1 gl hc1 hlt
          obtain ⟨i, nn, f, s, hi, hnn, rfl, rfl, U, V, fi⟩ := hrel
          by_cases hil : i < l.length
          · have hd1 : decide ((i : Int) < (l.length : Int)) = true := by simp; omega
            obtain ⟨gv, rfl⟩ := hao (by omega)
            obtain ⟨o, ho⟩ : ∃ o, l[i]? = some o := ⟨l[i], List.getElem?_eq_getElem hil⟩
            have hol : o ∈ l := List.mem_of_getElem? ho
            have hbo := lo.b o hol
            have hm7 := lo.m7 o hol
            obtain ⟨A, hA⟩ : ∃ A : Nat, o.at = (A : Int) := ⟨o.at.toNat, by omega⟩
            obtain ⟨g, cp, hY⟩ := U.lies
            obtain ⟨LN, hLN⟩ : ∃ LN : Nat, 32 + 32 * n = LN := ⟨_, rfl⟩
            have hlen : s.ws.length = LN := V.len.trans hLN
            obtain ⟨hdw, hh⟩ : ∃ hdw, s.word A = hdw := ⟨_, rfl⟩
            have hpn : Hid (pN hdw = (o.m : Int)) := by
              show pN hdw = _
              rw [← hh, V.word A (by omega) (by omega), ← hA, fi.hdr o hol]
              unfold H.Plain.hw H.Plain.pN; omega
            have hu : U64 hdw := hh ▸ U.mem.rng2.word _
            have ei : (0 : Int) ≤ (i : Int) := by omega
            have eA : (0 : Int) ≤ (A : Int) := by omega
            have hi' : (i : Int) < ((l.length : Nat) : Int) := by omega
            have hA' : (A : Int) < ((LN : Nat) : Int) := by omega
            have hvv : (.slice (some ⟨gv, 0, none⟩) l.length cap : Value) = .slice (some ⟨gv, 0, none⟩) l.length cap := rfl
            have keep : ∀ w', Below wr.heap.size wr w' → w'.cell? ⟨y, 0, none⟩ = some (.slice (some ⟨g, 0, none⟩) LN cp) ∧ w'.cell? ⟨gv, i, none⟩ = some (.int .i64 A) ∧ w'.cell? ⟨g, A, none⟩ = some (.int .u64 hdw) := fun w' hb => by
              obtain ⟨y1, y2, _⟩ := hY w' hb
              rw [hlen] at y1
              have y3 := (y2 A (by omega)).1
              rw [hh] at y3
              have y4 := U.rowAt hvv ho hb
              rw [hA] at y4
              exact ⟨y1, y4, y3⟩
            clear hvv
            have f2 := fhead2 (pS hdw) (pC hdw) o.m (pM hdw) (pG hdw) (pT hdw) (pL hdw)
            have hbd : Below wr.heap.size wr wr.drew := (Below.refl wr.heap.size wr).drew
            have RD := keep _ hbd
            go_upto_region 21 with (fail)
            go_region_held3 (fun w' => w'.cell? ⟨y, 0, none⟩ = some (.slice (some ⟨g, 0, none⟩) LN cp) ∧ w'.cell? ⟨gv, i, none⟩ = some (.int .i64 A) ∧ w'.cell? ⟨g, A, none⟩ = some (.int .u64 hdw)) (first | assumption | exact RD | exact keep _ (by assumption))
              (first | (go_at_call 27; refine (H.rOf hdw hu.1 hu.2 _).mono ?_; rintro r w2 ⟨rfl, hw2⟩; rw [hpn.out]; have hb2' : Below wr.heap.size wr w2 := hw2 ▸ (hbd.alloc hbd.size _); clear hw2))
            clear keep RD f2
            have U1 := U.below hb2'
            clear U hY hbd hb2' hA' hlen hh hpn hu hd1 eA
            go_wp2_with (fail)
            go_loopw [15, 18] (fun vn vf wr => ∃ (nn j : Nat) (f : Int → Int) (s : St), j ≤ o.m ∧ nn ≤ 7 * i + j ∧ vf = .int .i64 j ∧ vn = .int .i64 nn ∧ Bu w wr y s N w.heap.size (w.heap.size + 1) p7 #[.int .i64 bl, .slice ac lc cc, .slice none 0 0, .slice af lf cf] #[.int .i64 0, .int .i64 0, .int .i64 0, .int .i64 0, .int .i64 0] #[.int .i64 (mkPl 2 n).t, .int .i64 (mkPl 2 n).b, .int .i64 (mkPl 2 n).tb, .int .i64 (mkPl 2 n).hp, .int .i64 (mkPl 2 n).sz] (.slice (some ⟨gv, 0, none⟩) l.length cap) l ∧ Vw (32 + 32 * n) s f ∧ FI (32 + 32 * n) l f) (fun _ vf _ => 8 - (intOf vf).toNat)
            case atStart => exact ⟨nn, 0, f, s, by omega, by omega, rfl, rfl, U1, V, fi⟩
            case round =>
              clear U1 V fi hnn hi'
              obtain ⟨nn, j, f, s, hj, hnn, rfl, rfl, U, V, fi⟩ := hrel
              have c3 : wr.cell? ⟨w.heap.size, 3, none⟩ = some (.slice af lf cf) := U.b2.cell 3
              by_cases hjm : j < o.m
              · have hf1 : decide ((j : Int) < (o.m : Int)) = true := by simp; omega
                by_cases hlf : 0 < lf
                · have hf2 : decide ((lf : Int) > 0) = true := by simp; omega
                  go_upto_region 25 with (fail)
                  obtain ⟨kf, koff, haf, hkf, hz⟩ : ∃ b off, af = some ⟨b, off, none⟩ ∧ b < wr.heap.size ∧ ∀ j, j < lf → wr.cell? ⟨b, off + j, none⟩ = some (.int .i64 (zf j)) ∧ -9223372036854775808 ≤ zf j ∧ zf j ≤ 9223372036854775807 := (jf.on U.mem.bel).resolve_left (by omega)
                  obtain ⟨ix, hix, hixl⟩ : ∃ ix : Nat, (nn : Int).tmod (lf : Int) = (ix : Int) ∧ ix < lf := ⟨nn % lf, by rw [Int.tmod_eq_emod_of_nonneg (by omega)]; omega, Nat.mod_lt _ hlf⟩
                  have l0 : (lf : Int) ≠ 0 := by omega
                  have l1 : lf ≠ 0 := by omega
                  have l2 : ((lf : Int) == 0) = false := by simp; omega
                  have i0 : (0 : Int) ≤ (ix : Int) := by omega
                  have i1 : (ix : Int) < (lf : Int) := by omega
                  obtain ⟨d0, dl, du⟩ := hz ix hixl
                  obtain ⟨z, hzz⟩ : ∃ z, zf ix = z := ⟨_, rfl⟩
                  rw [hzz] at d0 dl du
                  clear hz hzz
                  obtain ⟨k, hk', k9⟩ : ∃ k : Nat, kd z 1000 = (k : Int) ∧ k ≤ 999 := ⟨(kd z 1000).toNat, by have := kd_bounds z 1000 (by decide); omega, by have := kd_bounds z 1000 (by decide); omega⟩
                  have hk : Hid (kd z 1000 = (k : Int)) := hk'
                  clear hk'
                  have c3' : ∀ w', Blk w w' w.heap.size 66 #[.int .i64 bl, .slice ac lc cc, .slice none 0 0, .slice af lf cf] → w'.cell? ⟨w.heap.size, 3, none⟩ = some (.slice (some ⟨kf, koff, none⟩) lf cf) := fun w' B => haf ▸ B.cell 3
                  have keep : ∀ w', Below wr.heap.size wr w' → w'.cell? ⟨w.heap.size, 3, none⟩ = some (.slice (some ⟨kf, koff, none⟩) lf cf) ∧ w'.cell? ⟨kf, koff + ix, none⟩ = some (.int .i64 z) := fun w' hb => ⟨c3' _ (U.below hb).b2, (hb.cell hkf).trans d0⟩
                  have hbd : Below wr.heap.size wr wr.drew := (Below.refl wr.heap.size wr).drew
                  have RD := keep _ hbd
                  clear c3 d0 c3' haf hkf
                  go_region_held3 (fun w' => w'.cell? ⟨w.heap.size, 3, none⟩ = some (.slice (some ⟨kf, koff, none⟩) lf cf) ∧ w'.cell? ⟨kf, koff + ix, none⟩ = some (.int .i64 z)) (first | assumption | exact RD | exact keep _ (by assumption))
                    (first | (go_at_call 24; refine (cNum _ z 1000 dl du (by decide)).mono ?_; rintro r wn ⟨rfl, hwn⟩; rw [hwn, hk.out]; clear hwn wn))
                  have U1 := U.below hbd
                  clear keep RD U hbd
                  generalize wr.drew = wd at U1 ⊢
                  clear hix hixl l0 l1 l2 i0 i1 dl du hk
                  obtain ⟨k10, hk10⟩ : ∃ q, (k : Int).tmod 10 = q := ⟨_, rfl⟩
                  obtain ⟨AJ, hAJ⟩ : ∃ AJ : Nat, (A : Int) + 1 + (j : Int) = (AJ : Int) := ⟨A + 1 + j, by omega⟩
                  have eA : (0 : Int) ≤ (A : Int) := by omega
                  have eA2 : (A : Int) ≤ 1000 := by omega
                  have ej : (j : Int) ≤ 7 := by omega
                  have wi1 : IntKind.i64.wrap ((A : Int) + 1) = (A : Int) + 1 := by rw [IntKind.wrap_i64]; omega
                  have wi2 : IntKind.i64.wrap ((A : Int) + 1 + (j : Int)) = (AJ : Int) := by rw [IntKind.wrap_i64]; omega
                  have wi3 : IntKind.i64.wrap (AJ : Int) = (AJ : Int) := by rw [IntKind.wrap_i64]; omega
                  have eAJ : (0 : Int) ≤ (AJ : Int) := by omega
                  have eAJ2 : (AJ : Int) < (LN : Int) := by omega
                  have hvv : (.slice (some ⟨gv, 0, none⟩) l.length cap : Value) = .slice (some ⟨gv, 0, none⟩) l.length cap := rfl
                  have bx0 : Blk w (wd.alloc (.cells #[.int .i64 0, .int .i64 k10] 82)) wd.heap.size 82 #[.int .i64 0, .int .i64 k10] := Blk.new U1.mem.bel.size _ (by decide)
                  have hb0 : Below wd.heap.size wd (wd.alloc (.cells #[.int .i64 0, .int .i64 k10] 82)) := (Below.refl _ _).alloc (Nat.le_refl _) _
                  by_cases h3 : (k : Int).tmod 3 = 0
                  · have ht : ((k : Int).tmod 3 != 0) = false := by simp [h3]
                    have ht2 : ((k : Int) % 3 != 0) = false := by rw [← Int.tmod_eq_emod_of_nonneg (by omega)]; exact ht
                    go_upto_region 30 with (fail)
                    obtain ⟨w3, hw3⟩ : ∃ w3, wd.alloc (.cells #[.int .i64 0, .int .i64 k10] 82) = w3 := ⟨_, rfl⟩
                    rw [hw3] at bx0 hb0 ⊢
                    obtain ⟨px, hpx⟩ : ∃ px, wd.heap.size = px := ⟨_, rfl⟩
                    have hb3 := hb0
                    rw [hpx] at bx0 ⊢
                    have bx := bx0
                    clear hb0 bx0 hw3 hpx ht ht2
                    have U3 := U1.below hb3
                    clear U1 hb3
                    obtain ⟨g, cp, hY⟩ := U3.lies
                    have hlen : s.ws.length = LN := V.len.trans hLN
                    have keep : ∀ w', Below w3.heap.size w3 w' → w'.cell? ⟨y, 0, none⟩ = some (.slice (some ⟨g, 0, none⟩) LN cp) ∧ w'.cell? ⟨gv, i, none⟩ = some (.int .i64 A) ∧ w'.cell? ⟨px, 0, none⟩ = some (.int .i64 0) ∧ w'.cell? ⟨px, 1, none⟩ = some (.int .i64 (k10)) := fun w' hb => by
                      obtain ⟨y1, y2, _⟩ := hY w' hb
                      rw [hlen] at y1
                      have y4 := U3.rowAt rfl ho hb
                      rw [hA] at y4
                      exact ⟨y1, y4, (bx.below hb).cell 0, (bx.below hb).cell 1⟩
                    have hbd : Below w3.heap.size w3 w3.drew := (Below.refl w3.heap.size w3).drew
                    have RD := keep _ hbd
                    go_region_held3 (fun w' => w'.cell? ⟨y, 0, none⟩ = some (.slice (some ⟨g, 0, none⟩) LN cp) ∧ w'.cell? ⟨gv, i, none⟩ = some (.int .i64 A) ∧ w'.cell? ⟨px, 0, none⟩ = some (.int .i64 0) ∧ w'.cell? ⟨px, 1, none⟩ = some (.int .i64 (k10))) (first | assumption | exact RD | exact keep _ (by assumption))
                      (first | (go_at_call 60; refine (F.rWord 0 (k10) _).mono ?_; rintro r w4 ⟨rfl, m4, hw4⟩; have hb4 : Below w3.heap.size w3 w4 := hw4 ▸ below_drewN (hbd.alloc hbd.size _) m4; clear hw4; obtain ⟨_, hW4, hS4⟩ := hY w4 hb4; have F3 := (hW4 AJ (by omega)).1; have G3 := (hW4 AJ (by omega)).2; obtain ⟨U4, o4, y4⟩ := hS4 AJ (F.Plain.word 0 (k10)) (u64_word _ _); have S4 : (w4.setCell ⟨g, AJ, none⟩ (.int .u64 (F.Plain.word 0 (k10)))).cell? ⟨y, 0, none⟩ = some (.slice (some ⟨g, 0, none⟩) LN cp) ∧ (w4.setCell ⟨g, AJ, none⟩ (.int .u64 (F.Plain.word 0 (k10)))).cell? ⟨gv, i, none⟩ = some (.int .i64 A) ∧ (w4.setCell ⟨g, AJ, none⟩ (.int .u64 (F.Plain.word 0 (k10)))).cell? ⟨px, 0, none⟩ = some (.int .i64 0) ∧ (w4.setCell ⟨g, AJ, none⟩ (.int .u64 (F.Plain.word 0 (k10)))).cell? ⟨px, 1, none⟩ = some (.int .i64 (k10)) := (by rw [hlen] at y4; have r4 := U4.rowAt rfl ho (Below.refl _ _); rw [hA] at r4; exact ⟨y4, r4, ((bx.below hb4).oth o4 (by simp)).cell 0, ((bx.below hb4).oth o4 (by simp)).cell 1⟩)))
                    go_wp2_with (fail)
                    go_roundw
                    case rel =>
                      refine ⟨nn + 1, j + 1, upd f (AJ : Int) (F.Plain.word 0 (k10)), s.put (AJ : Int) (F.Plain.word 0 (k10)), by omega, by omega, by go_num, by go_num, U4, V.put (by omega) _, ?_⟩
                      rw [← hAJ, ← hA]
                      exact fi.put lo hol hjm (fun h => absurd h (word_plain _))
                    case measure => simp [intOf]; omega
                  · have ht : ((k : Int).tmod 3 != 0) = true := by simpa using h3
                    have ht2 : ((k : Int) % 3 != 0) = true := by rw [← Int.tmod_eq_emod_of_nonneg (by omega)]; exact ht
                    obtain ⟨rx, hrx, hrxl⟩ : ∃ rx : Nat, (k : Int).tmod (l.length : Int) = (rx : Int) ∧ rx < l.length := ⟨k % l.length, by rw [Int.tmod_eq_emod_of_nonneg (by omega)]; omega, Nat.mod_lt _ (by omega)⟩
                    obtain ⟨r, hr⟩ : ∃ r, l[rx]? = some r := ⟨l[rx], List.getElem?_eq_getElem hrxl⟩
                    have hrl : r ∈ l := List.mem_of_getElem? hr
                    have hbr := lo.b r hrl
                    have l0 : (l.length : Int) ≠ 0 := by omega
                    have l1 : l.length ≠ 0 := by omega
                    have l2 : ((l.length : Int) == 0) = false := beq_eq_false_iff_ne.2 (by omega)
                    have i0 : (0 : Int) ≤ (rx : Int) := by omega
                    have i1 : (rx : Int) < (l.length : Int) := by omega
                    obtain ⟨ra, hra⟩ : ∃ ra, r.at = ra := ⟨_, rfl⟩
                    have rc := U1.rowAt rfl hr hb0
                    rw [hra] at rc
                    go_upto_region 30 with (fail)
                    have bx1 : Blk w (wd.alloc (.cells #[.int .i64 1, .int .i64 ra] 82)) wd.heap.size 82 #[.int .i64 1, .int .i64 ra] := Blk.new U1.mem.bel.size _ (by decide)
                    have hb1 : Below wd.heap.size wd (wd.alloc (.cells #[.int .i64 1, .int .i64 ra] 82)) := (Below.refl _ _).alloc (Nat.le_refl _) _
                    clear bx0 hb0
                    obtain ⟨w3, hw3⟩ : ∃ w3, wd.alloc (.cells #[.int .i64 1, .int .i64 ra] 82) = w3 := ⟨_, rfl⟩
                    rw [hw3] at bx1 hb1 ⊢
                    obtain ⟨px, hpx⟩ : ∃ px, wd.heap.size = px := ⟨_, rfl⟩
                    have hb3 := hb1
                    rw [hpx] at bx1 ⊢
                    have bx : Blk w w3 px 82 #[.int .i64 1, .int .i64 ra] := bx1
                    clear hb1 bx1 hw3 hpx ht ht2 l0 l1 l2 i0 i1 rc hrx
                    have U3 := U1.below hb3
                    clear U1 hb3
                    obtain ⟨g, cp, hY⟩ := U3.lies
                    have hlen : s.ws.length = LN := V.len.trans hLN
                    have keep : ∀ w', Below w3.heap.size w3 w' → w'.cell? ⟨y, 0, none⟩ = some (.slice (some ⟨g, 0, none⟩) LN cp) ∧ w'.cell? ⟨gv, i, none⟩ = some (.int .i64 A) ∧ w'.cell? ⟨px, 0, none⟩ = some (.int .i64 1) ∧ w'.cell? ⟨px, 1, none⟩ = some (.int .i64 (ra)) := fun w' hb => by
                      obtain ⟨y1, y2, _⟩ := hY w' hb
                      rw [hlen] at y1
                      have y4 := U3.rowAt rfl ho hb
                      rw [hA] at y4
                      exact ⟨y1, y4, (bx.below hb).cell 0, (bx.below hb).cell 1⟩
                    have hbd : Below w3.heap.size w3 w3.drew := (Below.refl w3.heap.size w3).drew
                    have RD := keep _ hbd
                    go_region_held3 (fun w' => w'.cell? ⟨y, 0, none⟩ = some (.slice (some ⟨g, 0, none⟩) LN cp) ∧ w'.cell? ⟨gv, i, none⟩ = some (.int .i64 A) ∧ w'.cell? ⟨px, 0, none⟩ = some (.int .i64 1) ∧ w'.cell? ⟨px, 1, none⟩ = some (.int .i64 (ra))) (first | assumption | exact RD | exact keep _ (by assumption))
                      (first | (go_at_call 60; refine (F.rWord 1 (ra) _).mono ?_; rintro r w4 ⟨rfl, m4, hw4⟩; have hb4 : Below w3.heap.size w3 w4 := hw4 ▸ below_drewN (hbd.alloc hbd.size _) m4; clear hw4; obtain ⟨_, hW4, hS4⟩ := hY w4 hb4; have F3 := (hW4 AJ (by omega)).1; have G3 := (hW4 AJ (by omega)).2; obtain ⟨U4, o4, y4⟩ := hS4 AJ (F.Plain.word 1 (ra)) (u64_word _ _); have S4 : (w4.setCell ⟨g, AJ, none⟩ (.int .u64 (F.Plain.word 1 (ra)))).cell? ⟨y, 0, none⟩ = some (.slice (some ⟨g, 0, none⟩) LN cp) ∧ (w4.setCell ⟨g, AJ, none⟩ (.int .u64 (F.Plain.word 1 (ra)))).cell? ⟨gv, i, none⟩ = some (.int .i64 A) ∧ (w4.setCell ⟨g, AJ, none⟩ (.int .u64 (F.Plain.word 1 (ra)))).cell? ⟨px, 0, none⟩ = some (.int .i64 1) ∧ (w4.setCell ⟨g, AJ, none⟩ (.int .u64 (F.Plain.word 1 (ra)))).cell? ⟨px, 1, none⟩ = some (.int .i64 (ra)) := (by rw [hlen] at y4; have r4 := U4.rowAt rfl ho (Below.refl _ _); rw [hA] at r4; exact ⟨y4, r4, ((bx.below hb4).oth o4 (by simp)).cell 0, ((bx.below hb4).oth o4 (by simp)).cell 1⟩)))
                    go_wp2_with (fail)
                    go_roundw
                    case rel =>
                      refine ⟨nn + 1, j + 1, upd f (AJ : Int) (F.Plain.word 1 (ra)), s.put (AJ : Int) (F.Plain.word 1 (ra)), by omega, by omega, by go_num, by go_num, U4, V.put (by omega) _, ?_⟩
                      rw [← hAJ, ← hA]
                      exact fi.put lo hol hjm (fun _ _ => ⟨r, hrl, by rw [hra, word_ref (by omega) (by omega)]⟩)
                    case measure => simp [intOf]; omega
                · have hf2 : decide ((lf : Int) > 0) = false := by simp; omega
                  go_wp2_with (fail)
                  go_roundw
                  case rel => exact ⟨i + 1, nn, f, s, by omega, by omega, by go_num, rfl, U, V, fi⟩
                  case measure => simp [intOf]; omega
              · have hf1 : decide ((j : Int) < (o.m : Int)) = false := by simp; omega
                go_wp2_with (fail)
                go_roundw
                case rel => exact ⟨i + 1, nn, f, s, by omega, by omega, by go_num, rfl, U, V, fi⟩
                case measure => simp [intOf]; omega
          · have hd1 : decide ((i : Int) < (l.length : Int)) = false := by simp; omega
            obtain ⟨hcell, U3⟩ := U.reset V.t
            obtain ⟨⟨u1, c1⟩, f1⟩ := hcell 1 (by omega)
            obtain ⟨⟨u3, c3⟩, f3⟩ := hcell 3 (by omega)
            have yl : y < wr.heap.size := U.ylt
            have ws : s.ws.length = 32 + 32 * n := V.len
            clear hcell hao
            go_upto_region 33 with (fail)
            clear c1 c3 f1 f3 yl U
            generalize (wr.setCell ⟨y, 1, none⟩ (.int .i64 0)).setCell ⟨y, 3, none⟩ (.slice none 0 0) = w5 at U3 ⊢
            have e0 : w5.cell? ⟨p7, 0, none⟩ = some (.int .i64 (mkPl 2 n).t) := U3.b7.cell 0
            have d0 : w5.cell? ⟨w.heap.size + 1, 0, none⟩ = some (.int .i64 0) := U3.b4.cell 0
            have df0 := U3.b4.free 0
            have e1 : w5.cell? ⟨p7, 1, none⟩ = some (.int .i64 (mkPl 2 n).b) := U3.b7.cell 1
            have d1 : w5.cell? ⟨w.heap.size + 1, 1, none⟩ = some (.int .i64 0) := U3.b4.cell 1
            have df1 := U3.b4.free 1
            have e2 : w5.cell? ⟨p7, 2, none⟩ = some (.int .i64 (mkPl 2 n).tb) := U3.b7.cell 2
            have d2 : w5.cell? ⟨w.heap.size + 1, 2, none⟩ = some (.int .i64 0) := U3.b4.cell 2
            have df2 := U3.b4.free 2
            have e3 : w5.cell? ⟨p7, 3, none⟩ = some (.int .i64 (mkPl 2 n).hp) := U3.b7.cell 3
            have d3 : w5.cell? ⟨w.heap.size + 1, 3, none⟩ = some (.int .i64 0) := U3.b4.cell 3
            have df3 := U3.b4.free 3
            have e4 : w5.cell? ⟨p7, 4, none⟩ = some (.int .i64 (mkPl 2 n).sz) := U3.b7.cell 4
            have d4 : w5.cell? ⟨w.heap.size + 1, 4, none⟩ = some (.int .i64 0) := U3.b4.cell 4
            have df4 := U3.b4.free 4
            have el := U3.b7.lt
            have dl := U3.b4.lt
            have ne := U3.ne
            go_wp2
            have B5 := ((((U3.b4.set 0 (.int .i64 (mkPl 2 n).t)).set 1 (.int .i64 (mkPl 2 n).b)).set 2 (.int .i64 (mkPl 2 n).tb)).set 3 (.int .i64 (mkPl 2 n).hp)).set 4 (.int .i64 (mkPl 2 n).sz)
            have g0 := B5.cell 0
            have g1 := B5.cell 1
            have g2 := B5.cell 2
            have g3 := B5.cell 3
            have g4 := B5.cell 4
            simp only [List.getElem?_toArray, Array.setIfInBounds, List.getElem?_cons_zero, List.getElem?_cons_succ] at g0 g1 g2 g3 g4
            refine bodyPost_ret (v := (.tuple #[.agg #[.int .i64 (mkPl 2 n).t, .int .i64 (mkPl 2 n).b, .int .i64 (mkPl 2 n).tb, .int .i64 (mkPl 2 n).hp, .int .i64 (mkPl 2 n).sz], .pointer (some ⟨y, 0, none⟩), .slice ao l.length cap])) (by simp [results, Tryd.results22, go_sem, g0, g1, g2, g3, g4]) rfl ?_
            exact ⟨n, y, _, l, f, _, N, hn1, hn6, rfl, built_end U3, V.reset, lo, fi, hl60, hN60, built_row U3, U3.old⟩
      · have hc1 : decide ((i : Int) < (lc : Int)) = false := by simp; omega
        have lo := H.lo hn6
        have fi := FI.new H hgz
        have hl60 : l.length ≤ 60 := by omega
        have hN60 : N ≤ 6000 := by omega
        clear H hgz
        go_wp2_with (fail)
        go_loopw [15, 16] (fun vn vi wr => ∃ (i nn : Nat) (f : Int → Int) (s : St), i ≤ l.length ∧ nn ≤ 7 * i ∧ vi = .int .i64 i ∧ vn = .int .i64 nn ∧ Bu w wr y s N w.heap.size (w.heap.size + 1) p7 #[.int .i64 bl, .slice ac lc cc, .slice none 0 0, .slice af lf cf] #[.int .i64 0, .int .i64 0, .int .i64 0, .int .i64 0, .int .i64 0] #[.int .i64 (mkPl 2 n).t, .int .i64 (mkPl 2 n).b, .int .i64 (mkPl 2 n).tb, .int .i64 (mkPl 2 n).hp, .int .i64 (mkPl 2 n).sz] (.slice ao l.length cap) l ∧ Vw (32 + 32 * n) s f ∧ FI (32 + 32 * n) l f) (fun _ vi _ => 60 - (intOf vi).toNat)
        case atStart => exact ⟨0, 0, f, s, by omega, by omega, rfl, rfl, U, V, fi⟩
        case round =>
          clear U V fi hi hi60 g1 gl hc1 hlt
          obtain ⟨i, nn, f, s, hi, hnn, rfl, rfl, U, V, fi⟩ := hrel
          by_cases hil : i < l.length
          · have hd1 : decide ((i : Int) < (l.length : Int)) = true := by simp; omega
            obtain ⟨gv, rfl⟩ := hao (by omega)
            obtain ⟨o, ho⟩ : ∃ o, l[i]? = some o := ⟨l[i], List.getElem?_eq_getElem hil⟩
            have hol : o ∈ l := List.mem_of_getElem? ho
            have hbo := lo.b o hol
            have hm7 := lo.m7 o hol
            obtain ⟨A, hA⟩ : ∃ A : Nat, o.at = (A : Int) := ⟨o.at.toNat, by omega⟩
            obtain ⟨g, cp, hY⟩ := U.lies
            obtain ⟨LN, hLN⟩ : ∃ LN : Nat, 32 + 32 * n = LN := ⟨_, rfl⟩
            have hlen : s.ws.length = LN := V.len.trans hLN
            obtain ⟨hdw, hh⟩ : ∃ hdw, s.word A = hdw := ⟨_, rfl⟩
            have hpn : Hid (pN hdw = (o.m : Int)) := by
              show pN hdw = _
              rw [← hh, V.word A (by omega) (by omega), ← hA, fi.hdr o hol]
              unfold H.Plain.hw H.Plain.pN; omega
            have hu : U64 hdw := hh ▸ U.mem.rng2.word _
            have ei : (0 : Int) ≤ (i : Int) := by omega
            have eA : (0 : Int) ≤ (A : Int) := by omega
            have hi' : (i : Int) < ((l.length : Nat) : Int) := by omega
            have hA' : (A : Int) < ((LN : Nat) : Int) := by omega
            have hvv : (.slice (some ⟨gv, 0, none⟩) l.length cap : Value) = .slice (some ⟨gv, 0, none⟩) l.length cap := rfl
            have keep : ∀ w', Below wr.heap.size wr w' → w'.cell? ⟨y, 0, none⟩ = some (.slice (some ⟨g, 0, none⟩) LN cp) ∧ w'.cell? ⟨gv, i, none⟩ = some (.int .i64 A) ∧ w'.cell? ⟨g, A, none⟩ = some (.int .u64 hdw) := fun w' hb => by
              obtain ⟨y1, y2, _⟩ := hY w' hb
              rw [hlen] at y1
              have y3 := (y2 A (by omega)).1
              rw [hh] at y3
              have y4 := U.rowAt hvv ho hb
              rw [hA] at y4
              exact ⟨y1, y4, y3⟩
            clear hvv
            have f2 := fhead2 (pS hdw) (pC hdw) o.m (pM hdw) (pG hdw) (pT hdw) (pL hdw)
            have hbd : Below wr.heap.size wr wr.drew := (Below.refl wr.heap.size wr).drew
            have RD := keep _ hbd
            go_upto_region 21 with (fail)
            go_region_held3 (fun w' => w'.cell? ⟨y, 0, none⟩ = some (.slice (some ⟨g, 0, none⟩) LN cp) ∧ w'.cell? ⟨gv, i, none⟩ = some (.int .i64 A) ∧ w'.cell? ⟨g, A, none⟩ = some (.int .u64 hdw)) (first | assumption | exact RD | exact keep _ (by assumption))
              (first | (go_at_call 27; refine (H.rOf hdw hu.1 hu.2 _).mono ?_; rintro r w2 ⟨rfl, hw2⟩; rw [hpn.out]; have hb2' : Below wr.heap.size wr w2 := hw2 ▸ (hbd.alloc hbd.size _); clear hw2))
            clear keep RD f2
            have U1 := U.below hb2'
            clear U hY hbd hb2' hA' hlen hh hpn hu hd1 eA
            go_wp2_with (fail)
            go_loopw [15, 18] (fun vn vf wr => ∃ (nn j : Nat) (f : Int → Int) (s : St), j ≤ o.m ∧ nn ≤ 7 * i + j ∧ vf = .int .i64 j ∧ vn = .int .i64 nn ∧ Bu w wr y s N w.heap.size (w.heap.size + 1) p7 #[.int .i64 bl, .slice ac lc cc, .slice none 0 0, .slice af lf cf] #[.int .i64 0, .int .i64 0, .int .i64 0, .int .i64 0, .int .i64 0] #[.int .i64 (mkPl 2 n).t, .int .i64 (mkPl 2 n).b, .int .i64 (mkPl 2 n).tb, .int .i64 (mkPl 2 n).hp, .int .i64 (mkPl 2 n).sz] (.slice (some ⟨gv, 0, none⟩) l.length cap) l ∧ Vw (32 + 32 * n) s f ∧ FI (32 + 32 * n) l f) (fun _ vf _ => 8 - (intOf vf).toNat)
            case atStart => exact ⟨nn, 0, f, s, by omega, by omega, rfl, rfl, U1, V, fi⟩
            case round =>
              clear U1 V fi hnn hi'
              obtain ⟨nn, j, f, s, hj, hnn, rfl, rfl, U, V, fi⟩ := hrel
              have c3 : wr.cell? ⟨w.heap.size, 3, none⟩ = some (.slice af lf cf) := U.b2.cell 3
              by_cases hjm : j < o.m
              · have hf1 : decide ((j : Int) < (o.m : Int)) = true := by simp; omega
                by_cases hlf : 0 < lf
                · have hf2 : decide ((lf : Int) > 0) = true := by simp; omega
                  go_upto_region 25 with (fail)
                  obtain ⟨kf, koff, haf, hkf, hz⟩ : ∃ b off, af = some ⟨b, off, none⟩ ∧ b < wr.heap.size ∧ ∀ j, j < lf → wr.cell? ⟨b, off + j, none⟩ = some (.int .i64 (zf j)) ∧ -9223372036854775808 ≤ zf j ∧ zf j ≤ 9223372036854775807 := (jf.on U.mem.bel).resolve_left (by omega)
                  obtain ⟨ix, hix, hixl⟩ : ∃ ix : Nat, (nn : Int).tmod (lf : Int) = (ix : Int) ∧ ix < lf := ⟨nn % lf, by rw [Int.tmod_eq_emod_of_nonneg (by omega)]; omega, Nat.mod_lt _ hlf⟩
                  have l0 : (lf : Int) ≠ 0 := by omega
                  have l1 : lf ≠ 0 := by omega
                  have l2 : ((lf : Int) == 0) = false := by simp; omega
                  have i0 : (0 : Int) ≤ (ix : Int) := by omega
                  have i1 : (ix : Int) < (lf : Int) := by omega
                  obtain ⟨d0, dl, du⟩ := hz ix hixl
                  obtain ⟨z, hzz⟩ : ∃ z, zf ix = z := ⟨_, rfl⟩
                  rw [hzz] at d0 dl du
                  clear hz hzz
                  obtain ⟨k, hk', k9⟩ : ∃ k : Nat, kd z 1000 = (k : Int) ∧ k ≤ 999 := ⟨(kd z 1000).toNat, by have := kd_bounds z 1000 (by decide); omega, by have := kd_bounds z 1000 (by decide); omega⟩
                  have hk : Hid (kd z 1000 = (k : Int)) := hk'
                  clear hk'
                  have c3' : ∀ w', Blk w w' w.heap.size 66 #[.int .i64 bl, .slice ac lc cc, .slice none 0 0, .slice af lf cf] → w'.cell? ⟨w.heap.size, 3, none⟩ = some (.slice (some ⟨kf, koff, none⟩) lf cf) := fun w' B => haf ▸ B.cell 3
                  have keep : ∀ w', Below wr.heap.size wr w' → w'.cell? ⟨w.heap.size, 3, none⟩ = some (.slice (some ⟨kf, koff, none⟩) lf cf) ∧ w'.cell? ⟨kf, koff + ix, none⟩ = some (.int .i64 z) := fun w' hb => ⟨c3' _ (U.below hb).b2, (hb.cell hkf).trans d0⟩
                  have hbd : Below wr.heap.size wr wr.drew := (Below.refl wr.heap.size wr).drew
                  have RD := keep _ hbd
                  clear c3 d0 c3' haf hkf
                  go_region_held3 (fun w' => w'.cell? ⟨w.heap.size, 3, none⟩ = some (.slice (some ⟨kf, koff, none⟩) lf cf) ∧ w'.cell? ⟨kf, koff + ix, none⟩ = some (.int .i64 z)) (first | assumption | exact RD | exact keep _ (by assumption))
                    (first | (go_at_call 24; refine (cNum _ z 1000 dl du (by decide)).mono ?_; rintro r wn ⟨rfl, hwn⟩; rw [hwn, hk.out]; clear hwn wn))
                  have U1 := U.below hbd
                  clear keep RD U hbd
                  generalize wr.drew = wd at U1 ⊢
                  clear hix hixl l0 l1 l2 i0 i1 dl du hk
                  obtain ⟨k10, hk10⟩ : ∃ q, (k : Int).tmod 10 = q := ⟨_, rfl⟩
                  obtain ⟨AJ, hAJ⟩ : ∃ AJ : Nat, (A : Int) + 1 + (j : Int) = (AJ : Int) := ⟨A + 1 + j, by omega⟩
                  have eA : (0 : Int) ≤ (A : Int) := by omega
                  have eA2 : (A : Int) ≤ 1000 := by omega
                  have ej : (j : Int) ≤ 7 := by omega
                  have wi1 : IntKind.i64.wrap ((A : Int) + 1) = (A : Int) + 1 := by rw [IntKind.wrap_i64]; omega
                  have wi2 : IntKind.i64.wrap ((A : Int) + 1 + (j : Int)) = (AJ : Int) := by rw [IntKind.wrap_i64]; omega
                  have wi3 : IntKind.i64.wrap (AJ : Int) = (AJ : Int) := by rw [IntKind.wrap_i64]; omega
                  have eAJ : (0 : Int) ≤ (AJ : Int) := by omega
                  have eAJ2 : (AJ : Int) < (LN : Int) := by omega
                  have hvv : (.slice (some ⟨gv, 0, none⟩) l.length cap : Value) = .slice (some ⟨gv, 0, none⟩) l.length cap := rfl
                  have bx0 : Blk w (wd.alloc (.cells #[.int .i64 0, .int .i64 k10] 82)) wd.heap.size 82 #[.int .i64 0, .int .i64 k10] := Blk.new U1.mem.bel.size _ (by decide)
                  have hb0 : Below wd.heap.size wd (wd.alloc (.cells #[.int .i64 0, .int .i64 k10] 82)) := (Below.refl _ _).alloc (Nat.le_refl _) _
                  by_cases h3 : (k : Int).tmod 3 = 0
                  · have ht : ((k : Int).tmod 3 != 0) = false := by simp [h3]
                    have ht2 : ((k : Int) % 3 != 0) = false := by rw [← Int.tmod_eq_emod_of_nonneg (by omega)]; exact ht
                    go_upto_region 30 with (fail)
                    obtain ⟨w3, hw3⟩ : ∃ w3, wd.alloc (.cells #[.int .i64 0, .int .i64 k10] 82) = w3 := ⟨_, rfl⟩
                    rw [hw3] at bx0 hb0 ⊢
                    obtain ⟨px, hpx⟩ : ∃ px, wd.heap.size = px := ⟨_, rfl⟩
                    have hb3 := hb0
                    rw [hpx] at bx0 ⊢
                    have bx := bx0
                    clear hb0 bx0 hw3 hpx ht ht2
                    have U3 := U1.below hb3
                    clear U1 hb3
                    obtain ⟨g, cp, hY⟩ := U3.lies
                    have hlen : s.ws.length = LN := V.len.trans hLN
                    have keep : ∀ w', Below w3.heap.size w3 w' → w'.cell? ⟨y, 0, none⟩ = some (.slice (some ⟨g, 0, none⟩) LN cp) ∧ w'.cell? ⟨gv, i, none⟩ = some (.int .i64 A) ∧ w'.cell? ⟨px, 0, none⟩ = some (.int .i64 0) ∧ w'.cell? ⟨px, 1, none⟩ = some (.int .i64 (k10)) := fun w' hb => by
                      obtain ⟨y1, y2, _⟩ := hY w' hb
                      rw [hlen] at y1
                      have y4 := U3.rowAt rfl ho hb
                      rw [hA] at y4
                      exact ⟨y1, y4, (bx.below hb).cell 0, (bx.below hb).cell 1⟩
                    have hbd : Below w3.heap.size w3 w3.drew := (Below.refl w3.heap.size w3).drew
                    have RD := keep _ hbd
                    go_region_held3 (fun w' => w'.cell? ⟨y, 0, none⟩ = some (.slice (some ⟨g, 0, none⟩) LN cp) ∧ w'.cell? ⟨gv, i, none⟩ = some (.int .i64 A) ∧ w'.cell? ⟨px, 0, none⟩ = some (.int .i64 0) ∧ w'.cell? ⟨px, 1, none⟩ = some (.int .i64 (k10))) (first | assumption | exact RD | exact keep _ (by assumption))
                      (first | (go_at_call 60; refine (F.rWord 0 (k10) _).mono ?_; rintro r w4 ⟨rfl, m4, hw4⟩; have hb4 : Below w3.heap.size w3 w4 := hw4 ▸ below_drewN (hbd.alloc hbd.size _) m4; clear hw4; obtain ⟨_, hW4, hS4⟩ := hY w4 hb4; have F3 := (hW4 AJ (by omega)).1; have G3 := (hW4 AJ (by omega)).2; obtain ⟨U4, o4, y4⟩ := hS4 AJ (F.Plain.word 0 (k10)) (u64_word _ _); have S4 : (w4.setCell ⟨g, AJ, none⟩ (.int .u64 (F.Plain.word 0 (k10)))).cell? ⟨y, 0, none⟩ = some (.slice (some ⟨g, 0, none⟩) LN cp) ∧ (w4.setCell ⟨g, AJ, none⟩ (.int .u64 (F.Plain.word 0 (k10)))).cell? ⟨gv, i, none⟩ = some (.int .i64 A) ∧ (w4.setCell ⟨g, AJ, none⟩ (.int .u64 (F.Plain.word 0 (k10)))).cell? ⟨px, 0, none⟩ = some (.int .i64 0) ∧ (w4.setCell ⟨g, AJ, none⟩ (.int .u64 (F.Plain.word 0 (k10)))).cell? ⟨px, 1, none⟩ = some (.int .i64 (k10)) := (by rw [hlen] at y4; have r4 := U4.rowAt rfl ho (Below.refl _ _); rw [hA] at r4; exact ⟨y4, r4, ((bx.below hb4).oth o4 (by simp)).cell 0, ((bx.below hb4).oth o4 (by simp)).cell 1⟩)))
                    go_wp2_with (fail)
                    go_roundw
                    case rel =>
                      refine ⟨nn + 1, j + 1, upd f (AJ : Int) (F.Plain.word 0 (k10)), s.put (AJ : Int) (F.Plain.word 0 (k10)), by omega, by omega, by go_num, by go_num, U4, V.put (by omega) _, ?_⟩
                      rw [← hAJ, ← hA]
                      exact fi.put lo hol hjm (fun h => absurd h (word_plain _))
                    case measure => simp [intOf]; omega
                  · have ht : ((k : Int).tmod 3 != 0) = true := by simpa using h3
                    have ht2 : ((k : Int) % 3 != 0) = true := by rw [← Int.tmod_eq_emod_of_nonneg (by omega)]; exact ht
                    obtain ⟨rx, hrx, hrxl⟩ : ∃ rx : Nat, (k : Int).tmod (l.length : Int) = (rx : Int) ∧ rx < l.length := ⟨k % l.length, by rw [Int.tmod_eq_emod_of_nonneg (by omega)]; omega, Nat.mod_lt _ (by omega)⟩
                    obtain ⟨r, hr⟩ : ∃ r, l[rx]? = some r := ⟨l[rx], List.getElem?_eq_getElem hrxl⟩
                    have hrl : r ∈ l := List.mem_of_getElem? hr
                    have hbr := lo.b r hrl
                    have l0 : (l.length : Int) ≠ 0 := by omega
                    have l1 : l.length ≠ 0 := by omega
                    have l2 : ((l.length : Int) == 0) = false := beq_eq_false_iff_ne.2 (by omega)
                    have i0 : (0 : Int) ≤ (rx : Int) := by omega
                    have i1 : (rx : Int) < (l.length : Int) := by omega
                    obtain ⟨ra, hra⟩ : ∃ ra, r.at = ra := ⟨_, rfl⟩
                    have rc := U1.rowAt rfl hr hb0
                    rw [hra] at rc
                    go_upto_region 30 with (fail)
                    have bx1 : Blk w (wd.alloc (.cells #[.int .i64 1, .int .i64 ra] 82)) wd.heap.size 82 #[.int .i64 1, .int .i64 ra] := Blk.new U1.mem.bel.size _ (by decide)
                    have hb1 : Below wd.heap.size wd (wd.alloc (.cells #[.int .i64 1, .int .i64 ra] 82)) := (Below.refl _ _).alloc (Nat.le_refl _) _
                    clear bx0 hb0
                    obtain ⟨w3, hw3⟩ : ∃ w3, wd.alloc (.cells #[.int .i64 1, .int .i64 ra] 82) = w3 := ⟨_, rfl⟩
                    rw [hw3] at bx1 hb1 ⊢
                    obtain ⟨px, hpx⟩ : ∃ px, wd.heap.size = px := ⟨_, rfl⟩
                    have hb3 := hb1
                    rw [hpx] at bx1 ⊢
                    have bx : Blk w w3 px 82 #[.int .i64 1, .int .i64 ra] := bx1
                    clear hb1 bx1 hw3 hpx ht ht2 l0 l1 l2 i0 i1 rc hrx
                    have U3 := U1.below hb3
                    clear U1 hb3
                    obtain ⟨g, cp, hY⟩ := U3.lies
                    have hlen : s.ws.length = LN := V.len.trans hLN
                    have keep : ∀ w', Below w3.heap.size w3 w' → w'.cell? ⟨y, 0, none⟩ = some (.slice (some ⟨g, 0, none⟩) LN cp) ∧ w'.cell? ⟨gv, i, none⟩ = some (.int .i64 A) ∧ w'.cell? ⟨px, 0, none⟩ = some (.int .i64 1) ∧ w'.cell? ⟨px, 1, none⟩ = some (.int .i64 (ra)) := fun w' hb => by
                      obtain ⟨y1, y2, _⟩ := hY w' hb
                      rw [hlen] at y1
                      have y4 := U3.rowAt rfl ho hb
                      rw [hA] at y4
                      exact ⟨y1, y4, (bx.below hb).cell 0, (bx.below hb).cell 1⟩
                    have hbd : Below w3.heap.size w3 w3.drew := (Below.refl w3.heap.size w3).drew
                    have RD := keep _ hbd
                    go_region_held3 (fun w' => w'.cell? ⟨y, 0, none⟩ = some (.slice (some ⟨g, 0, none⟩) LN cp) ∧ w'.cell? ⟨gv, i, none⟩ = some (.int .i64 A) ∧ w'.cell? ⟨px, 0, none⟩ = some (.int .i64 1) ∧ w'.cell? ⟨px, 1, none⟩ = some (.int .i64 (ra))) (first | assumption | exact RD | exact keep _ (by assumption))
                      (first | (go_at_call 60; refine (F.rWord 1 (ra) _).mono ?_; rintro r w4 ⟨rfl, m4, hw4⟩; have hb4 : Below w3.heap.size w3 w4 := hw4 ▸ below_drewN (hbd.alloc hbd.size _) m4; clear hw4; obtain ⟨_, hW4, hS4⟩ := hY w4 hb4; have F3 := (hW4 AJ (by omega)).1; have G3 := (hW4 AJ (by omega)).2; obtain ⟨U4, o4, y4⟩ := hS4 AJ (F.Plain.word 1 (ra)) (u64_word _ _); have S4 : (w4.setCell ⟨g, AJ, none⟩ (.int .u64 (F.Plain.word 1 (ra)))).cell? ⟨y, 0, none⟩ = some (.slice (some ⟨g, 0, none⟩) LN cp) ∧ (w4.setCell ⟨g, AJ, none⟩ (.int .u64 (F.Plain.word 1 (ra)))).cell? ⟨gv, i, none⟩ = some (.int .i64 A) ∧ (w4.setCell ⟨g, AJ, none⟩ (.int .u64 (F.Plain.word 1 (ra)))).cell? ⟨px, 0, none⟩ = some (.int .i64 1) ∧ (w4.setCell ⟨g, AJ, none⟩ (.int .u64 (F.Plain.word 1 (ra)))).cell? ⟨px, 1, none⟩ = some (.int .i64 (ra)) := (by rw [hlen] at y4; have r4 := U4.rowAt rfl ho (Below.refl _ _); rw [hA] at r4; exact ⟨y4, r4, ((bx.below hb4).oth o4 (by simp)).cell 0, ((bx.below hb4).oth o4 (by simp)).cell 1⟩)))
                    go_wp2_with (fail)
                    go_roundw
                    case rel =>
                      refine ⟨nn + 1, j + 1, upd f (AJ : Int) (F.Plain.word 1 (ra)), s.put (AJ : Int) (F.Plain.word 1 (ra)), by omega, by omega, by go_num, by go_num, U4, V.put (by omega) _, ?_⟩
                      rw [← hAJ, ← hA]
                      exact fi.put lo hol hjm (fun _ _ => ⟨r, hrl, by rw [hra, word_ref (by omega) (by omega)]⟩)
                    case measure => simp [intOf]; omega
                · have hf2 : decide ((lf : Int) > 0) = false := by simp; omega
                  go_wp2_with (fail)
                  go_roundw
                  case rel => exact ⟨i + 1, nn, f, s, by omega, by omega, by go_num, rfl, U, V, fi⟩
                  case measure => simp [intOf]; omega
              · have hf1 : decide ((j : Int) < (o.m : Int)) = false := by simp; omega
                go_wp2_with (fail)
                go_roundw
                case rel => exact ⟨i + 1, nn, f, s, by omega, by omega, by go_num, rfl, U, V, fi⟩
                case measure => simp [intOf]; omega
          · have hd1 : decide ((i : Int) < (l.length : Int)) = false := by simp; omega
            obtain ⟨hcell, U3⟩ := U.reset V.t
            obtain ⟨⟨u1, c1⟩, f1⟩ := hcell 1 (by omega)
            obtain ⟨⟨u3, c3⟩, f3⟩ := hcell 3 (by omega)
            have yl : y < wr.heap.size := U.ylt
            have ws : s.ws.length = 32 + 32 * n := V.len
            clear hcell hao
            go_upto_region 33 with (fail)
            clear c1 c3 f1 f3 yl U
            generalize (wr.setCell ⟨y, 1, none⟩ (.int .i64 0)).setCell ⟨y, 3, none⟩ (.slice none 0 0) = w5 at U3 ⊢
            have e0 : w5.cell? ⟨p7, 0, none⟩ = some (.int .i64 (mkPl 2 n).t) := U3.b7.cell 0
            have d0 : w5.cell? ⟨w.heap.size + 1, 0, none⟩ = some (.int .i64 0) := U3.b4.cell 0
            have df0 := U3.b4.free 0
            have e1 : w5.cell? ⟨p7, 1, none⟩ = some (.int .i64 (mkPl 2 n).b) := U3.b7.cell 1
            have d1 : w5.cell? ⟨w.heap.size + 1, 1, none⟩ = some (.int .i64 0) := U3.b4.cell 1
            have df1 := U3.b4.free 1
            have e2 : w5.cell? ⟨p7, 2, none⟩ = some (.int .i64 (mkPl 2 n).tb) := U3.b7.cell 2
            have d2 : w5.cell? ⟨w.heap.size + 1, 2, none⟩ = some (.int .i64 0) := U3.b4.cell 2
            have df2 := U3.b4.free 2
            have e3 : w5.cell? ⟨p7, 3, none⟩ = some (.int .i64 (mkPl 2 n).hp) := U3.b7.cell 3
            have d3 : w5.cell? ⟨w.heap.size + 1, 3, none⟩ = some (.int .i64 0) := U3.b4.cell 3
            have df3 := U3.b4.free 3
            have e4 : w5.cell? ⟨p7, 4, none⟩ = some (.int .i64 (mkPl 2 n).sz) := U3.b7.cell 4
            have d4 : w5.cell? ⟨w.heap.size + 1, 4, none⟩ = some (.int .i64 0) := U3.b4.cell 4
            have df4 := U3.b4.free 4
            have el := U3.b7.lt
            have dl := U3.b4.lt
            have ne := U3.ne
            go_wp2
            have B5 := ((((U3.b4.set 0 (.int .i64 (mkPl 2 n).t)).set 1 (.int .i64 (mkPl 2 n).b)).set 2 (.int .i64 (mkPl 2 n).tb)).set 3 (.int .i64 (mkPl 2 n).hp)).set 4 (.int .i64 (mkPl 2 n).sz)
            have g0 := B5.cell 0
            have g1 := B5.cell 1
            have g2 := B5.cell 2
            have g3 := B5.cell 3
            have g4 := B5.cell 4
            simp only [List.getElem?_toArray, Array.setIfInBounds, List.getElem?_cons_zero, List.getElem?_cons_succ] at g0 g1 g2 g3 g4
            refine bodyPost_ret (v := (.tuple #[.agg #[.int .i64 (mkPl 2 n).t, .int .i64 (mkPl 2 n).b, .int .i64 (mkPl 2 n).tb, .int .i64 (mkPl 2 n).hp, .int .i64 (mkPl 2 n).sz], .pointer (some ⟨y, 0, none⟩), .slice ao l.length cap])) (by simp [results, Tryd.results22, go_sem, g0, g1, g2, g3, g4]) rfl ?_
            exact ⟨n, y, _, l, f, _, N, hn1, hn6, rfl, built_end U3, V.reset, lo, fi, hl60, hN60, built_row U3, U3.old⟩
end Go.Proofs.YtoablodmodnamaaDoor
