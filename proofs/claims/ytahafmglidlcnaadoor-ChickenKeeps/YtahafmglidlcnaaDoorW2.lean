/-
  The walk of the law on a write beside the one that copies.
-/
import Derived.Test.YtahafmglidlcnaaDoorCnw
import Derived.Test.YtahafmglidlcnaaDoorCo
namespace Go.Proofs.YtahafmglidlcnaaDoor
set_option linter.unusedVariables false
set_option linter.unusedSimpArgs false
set_option maxRecDepth 100000
open Go.ChangeShapes Go.WideShapes Go.RowKit
open H.Plain (hw pS pC pN pM pG pT pL mv)

theorem neVal {a b : Vl} (h : a = b) (w : World) : (binOp .neq 24 (.agg #[.int .i64 a.k, .int .i64 a.n]) (.agg #[.int .i64 b.k, .int .i64 b.n])).run Tryd.prog w = .ok (.bool false) w := by
  subst h
  obtain ⟨x0, x1⟩ := a
  have u3 := Tryd.underlying3
  have a3 := Tryd.isAgg3
  have z3 := Tryd.sizeOf3
  have hS : Tryd.prog.underlying 24 = some (.struct (Tryd.prog.fieldsOf 24)) := by kernel_rfl
  have hp : Tryd.prog.stoodInHeld 24 = false := by kernel_rfl
  rw [run_neq_struct, show (10000 : Nat) = 9999 + 1 from rfl, run_equalIn_agg w 9999 24 _ _ hS hp]
  simp only [Program.fieldsOf, Tryd.underlying24]
  go_simp
set_option maxHeartbeats 6000000 in
theorem wChickenKeeps (av : Option Addr) (ll cv' : Nat) (zl : Nat → Vl) (q : Op15) (ap : Option Addr) (lp cp' : Nat) (zp : Nat → Int) (w : World) (W : H.Wid w) (cv : CameV w av ll zl) (fit : q.Fit) (ci : CameI w ap lp zp) :
    Calls Tryd.prog 3 #[.slice av ll cv', .agg q.cells, .slice ap lp cp'] w fun e w' => e = .returned (.bool true) ∧ Below w.heap.size w w' := by
  obtain ⟨S, hS⟩ : ∃ S, laidS 1 (fldP ll zl) = S := ⟨_, rfl⟩
  have hSl : S.ws.length = 160 := by rw [← hS]; exact laid_len _ _
  have M0 := laid_m6 1 (fldP ll zl)
  rw [hS] at M0
  have kf := kd_lt q.fd 3 (by decide)
  obtain ⟨f, hf⟩ : ∃ f : Nat, kd q.fd 3 = (f : Int) := ⟨(kd q.fd 3).toNat, by omega⟩
  rw [hf] at kf
  have hf3 : f < 3 := by omega
  obtain ⟨old, hold'⟩ : ∃ old : Nat → Int, (fun k => (fldP ll zl k).w) = old := ⟨_, rfl⟩
  rw [hold'] at M0
  have gv := good_valP q.y
  obtain ⟨v, hv⟩ : ∃ v, valP q.y = v := ⟨_, rfl⟩
  rw [hv] at gv
  have ok0 : (Cw.hd (rqW f v) false).Ok := ⟨.inr (.inl rfl), by simp [rqW], by simp [rqW], by simp [rqW], by simp only [rqW]; omega⟩
  have okm : (Mo.mk 0 0).Ok := ⟨by simp, U64.zero⟩
  have G0 : KG old v f (.hd (rqW f v) false) ⟨0, 0⟩ S 3 := ⟨okm, old, fun _ => 0, .inl ⟨M0, fun _ _ => rfl, ⟨by simp, fun k hk h => by simp only at h; omega, fun h => by simp at h⟩, .inl ⟨rfl, rfl⟩⟩⟩
  have a0 : Below w.heap.size w (w.alloc (.cells q.cells 28)) := (Below.refl _ _).alloc (Nat.le_refl _) _
  have C0 : Blk w (w.alloc (.cells q.cells 28)) w.heap.size 28 q.cells := Blk.new (Nat.le_refl _) _ (by decide)
  go_enter Tryd.func3, Tryd.ntmps3
  unfold Op15.cells
  go_upto_region 1 with (fail)
  obtain ⟨ob, hob⟩ : ∃ ob, w.heap.size = ob := ⟨_, rfl⟩
  change Blk w (w.alloc (.cells q.cells 28)) w.heap.size 28 q.cells at C0
  rw [hob] at C0
  unfold Op15.cells at C0 a0
  rw [hob]
  have cv0 := cv.on a0
  generalize hw0 : w.alloc _ = wa at C0 a0 cv0 ⊢
  clear hw0
  go_upto_region 3 with (first
    | (go_at_call 8; refine (cShown _ (W.on a0)).mono ?_; rintro e w1 ⟨rfl, hb1'⟩; have hb1 := bel_trans a0 hb1'; have C1 := C0.below hb1'; have cv1 := cv0.on hb1'; clear hb1')
    | (go_at_call 9; refine (cLaid w1 (W.on hb1) cv1).mono ?_; rintro e w2 ⟨b, y, rfl, h2⟩; rw [hS] at h2; have C2 := C1.below h2.bel; have h3 := h2.lift hb1 W; clear h2))
  have d1 : w2.cell? ⟨ob, 1, none⟩ = some (.int .i64 q.fd) := C2.cell 1
  have d6 : w2.cell? ⟨ob, 6, none⟩ = some (.int .i64 q.y.k) := C2.cell 6
  have d7 : w2.cell? ⟨ob, 7, none⟩ = some (.int .i64 q.y.n) := C2.cell 7
  go_upto_region 7 with (first
    | (go_at_call 10; refine (cKind _ q.fd 3 fit.fd.1 fit.fd.2 (by decide)).mono ?_; rintro e wk ⟨rfl, hwk⟩; rw [hwk, hf]; clear hwk wk)
    | (go_at_call 12; refine (cVal q.y fit.y _).mono ?_; rintro e w3 ⟨rfl, hb3⟩; rw [hv]; have h3' := h3.below hb3; have C3 := C2.below hb3; clear hb3)
    | (go_at_call 11; refine (cNewC (rqW f v) ⟨6, 0, 0⟩ _ ok0).mono ?_; rintro e w4 ⟨p, rfl, Mp⟩; have h4 := h3'.below Mp.bel; have C4 := C3.below Mp.bel; have m4 : Cm w w4 p (.hd (rqW f v) false) := Mp.cm h3'.bel.size ok0; clear Mp))
  have a5 : Below w4.heap.size w4 (w4.alloc (.cells #[.int .i64 0, .int .u64 0] 45)) := (Below.refl _ _).alloc (Nat.le_refl _) _
  have h5 := h4.below a5
  have m5 := m4.below a5
  have C5 := C4.below a5
  have q5 : Blk w (w4.alloc (.cells #[.int .i64 0, .int .u64 0] 45)) w4.heap.size 45 #[.int .i64 0, .int .u64 0] := Blk.new h4.bel.size _ (by decide)
  go_wp2_with (fail)
  obtain ⟨qm, hq⟩ : ∃ q, w4.heap.size = q := ⟨_, rfl⟩
  rw [hq] at q5 ⊢
  generalize w4.alloc (.cells #[.int .i64 0, .int .u64 0] 45) = w5 at h5 m5 q5 C5 ⊢
  clear a5 hq h4 m4 h3 h3' C4 C3 C2 C1 C0 d1 d6 d7 cv0 cv1
  go_loopw [13, 14] (fun dn i wr => ∃ j : Nat, j ≤ 90 ∧ i = .int .i64 j ∧ ∃ x m s r dv, KG old v f x m s r ∧ dn = .bool dv ∧ (76 ≤ j → dv = x.done) ∧ (75 ≤ j → r + j ≤ 90) ∧ Two w wr b y s S (18 + j) ∧ Cm w wr p x ∧ Blk w wr qm 45 m.cells ∧ Blk w wr ob 28 q.cells) (fun _ i _ => 90 - (intOf i).toNat)
  case atStart => exact ⟨0, Nat.zero_le _, rfl, _, ⟨0, 0⟩, S, 3, false, G0, rfl, fun h => by omega, fun h => by omega, h5, m5, q5, C5⟩
  case round =>
    obtain ⟨j, hj, rfl, x, m, s, r, dv, G, rfl, hdn, hjr, k1, k2, k3, k4⟩ := hrel
    rcases Nat.lt_or_ge j 90 with hj9 | hj9
    · have hji : (j : Int) < 90 := by omega
      obtain ⟨cx, Bx'⟩ := k2.blk
      obtain ⟨r', G'⟩ := G.mo k1.rng1
      by_cases hA : j < lp
      · by_cases hB : j < 60
        · have ci1 := ci.on k1.bel
          obtain ⟨vb, off, rfl, hvb, hz⟩ : ∃ b off, ap = some ⟨b, off, none⟩ ∧ b < wr.heap.size ∧ ∀ j, j < lp → wr.cell? ⟨b, off + j, none⟩ = some (.int .i64 (zp j)) ∧ -9223372036854775808 ≤ zp j ∧ zp j ≤ 9223372036854775807 := ci1.resolve_left (by omega)
          obtain ⟨dz, z0, z1⟩ := hz j hA
          obtain ⟨zj, hzj⟩ : ∃ zj, zp j = zj := ⟨_, rfl⟩
          rw [hzj] at dz z0 z1
          clear hz hzj ci1
          have hAi : (j : Int) < (lp : Int) := by omega
          have hBi : (j : Int) < 60 := by omega
          have kk := kd_lt zj 2 (by decide)
          obtain ⟨kz, hkz⟩ : ∃ kz, kd zj 2 = kz := ⟨_, rfl⟩
          rw [hkz] at kk
          have hCi : decide (75 ≤ (j : Int)) = false := by simp; omega
          have hC : j < 75 := by omega
          rcases (show kz = 0 ∨ kz = 1 by omega) with rfl | rfl
          · go_wp2_with (first
              | (go_at_call 13; refine (tC k1 k2 (by omega)).mono ?_; rintro e w6 ⟨rfl, k5, k6, o6⟩; have k7 := k3.oth o6 (by simpa using k3.ne Bx' (by decide)); have k8 := k4.oth o6 (by simpa using k4.ne Bx' (by decide)))
              | (go_at_call 10; refine (cKind _ zj 2 z0 z1 (by decide)).mono ?_; rintro e wk ⟨rfl, hwk⟩; rw [hwk, hkz]; clear hwk wk))
            go_roundw
            case rel => exact ⟨j + 1, by omega, by go_num, _, m, _, r - 1, _, G.w hf3, rfl, fun _ => rfl, fun h => by have := G.le; omega, k5, k6, k7, k8⟩
            case measure => simp [intOf]; omega
          · go_wp2_with (first
              | (go_at_call 14; refine (tMv k1 k3 G.ok (by omega)).mono ?_; rintro e w6 ⟨⟨dd, rfl⟩, k5, k6, o6⟩; have k7 := k2.oth1 o6 k3 (by decide) (Bx'.ne k3 (by decide)); have k8 := k4.oth o6 (by simpa using k4.ne k3 (by decide)))
              | (go_at_call 10; refine (cKind _ zj 2 z0 z1 (by decide)).mono ?_; rintro e wk ⟨rfl, hwk⟩; rw [hwk, hkz]; clear hwk wk))
            go_roundw
            case rel => exact ⟨j + 1, by omega, by go_num, x, _, _, r', dv, G', rfl, fun h => by omega, fun h => by have := G'.le; omega, k5, k7, k6, k8⟩
            case measure => simp [intOf]; omega
        · have hAi : (j : Int) < (lp : Int) := by omega
          have hBi : ¬ (j : Int) < 60 := by omega
          rcases Nat.lt_or_ge j 75 with hC | hC
          · have hCi : decide (75 ≤ (j : Int)) = false := by simp; omega
            go_wp2_with (first
              | (go_at_call 14; refine (tMv k1 k3 G.ok (by omega)).mono ?_; rintro e w6 ⟨⟨dd, rfl⟩, k5, k6, o6⟩; have k7 := k2.oth1 o6 k3 (by decide) (Bx'.ne k3 (by decide)); have k8 := k4.oth o6 (by simpa using k4.ne k3 (by decide))))
            go_roundw
            case rel => exact ⟨j + 1, by omega, by go_num, x, _, _, r', dv, G', rfl, fun h => by omega, fun h => by have := G'.le; omega, k5, k7, k6, k8⟩
            case measure => simp [intOf]; omega
          · have hCi : decide (75 ≤ (j : Int)) = true := by simp; omega
            go_wp2_with (first
              | (go_at_call 13; refine (tC k1 k2 (by omega)).mono ?_; rintro e w6 ⟨rfl, k5, k6, o6⟩; have k7 := k3.oth o6 (by simpa using k3.ne Bx' (by decide)); have k8 := k4.oth o6 (by simpa using k4.ne Bx' (by decide))))
            go_roundw
            case rel => exact ⟨j + 1, by omega, by go_num, _, m, _, r - 1, _, G.w hf3, rfl, fun _ => rfl, fun h => by have := G.le; omega, k5, k6, k7, k8⟩
            case measure => simp [intOf]; omega
      · have hAi : ¬ (j : Int) < (lp : Int) := by omega
        rcases Nat.lt_or_ge j 75 with hC | hC
        · have hCi : decide (75 ≤ (j : Int)) = false := by simp; omega
          go_wp2_with (first
            | (go_at_call 14; refine (tMv k1 k3 G.ok (by omega)).mono ?_; rintro e w6 ⟨⟨dd, rfl⟩, k5, k6, o6⟩; have k7 := k2.oth1 o6 k3 (by decide) (Bx'.ne k3 (by decide)); have k8 := k4.oth o6 (by simpa using k4.ne k3 (by decide))))
          go_roundw
          case rel => exact ⟨j + 1, by omega, by go_num, x, _, _, r', dv, G', rfl, fun h => by omega, fun h => by have := G'.le; omega, k5, k7, k6, k8⟩
          case measure => simp [intOf]; omega
        · have hCi : decide (75 ≤ (j : Int)) = true := by simp; omega
          go_wp2_with (first
            | (go_at_call 13; refine (tC k1 k2 (by omega)).mono ?_; rintro e w6 ⟨rfl, k5, k6, o6⟩; have k7 := k3.oth o6 (by simpa using k3.ne Bx' (by decide)); have k8 := k4.oth o6 (by simpa using k4.ne Bx' (by decide))))
          go_roundw
          case rel => exact ⟨j + 1, by omega, by go_num, _, m, _, r - 1, _, G.w hf3, rfl, fun _ => rfl, fun h => by have := G.le; omega, k5, k6, k7, k8⟩
          case measure => simp [intOf]; omega
    · have hji : ¬ (j : Int) < 90 := by omega
      obtain rfl : r = 0 := by have := hjr (by omega); omega
      obtain ⟨xd, A⟩ := G.fin
      obtain rfl : dv = true := by rw [hdn (by omega), xd]
      have k1' : Two w wr b y s S (108 + 20 * 0) := k1.mono (by omega)
      go_wp2_with (fail)
      go_loopw [15] (fun i wr => ∃ n : Nat, n ≤ 3 ∧ i = .int .i64 n ∧ ∃ s, At3 s (updN old f v.w) ∧ Two w wr b y s S (108 + 20 * n) ∧ Blk w wr ob 28 q.cells) (fun i _ => 3 - (intOf i).toNat)
      case atStart => exact ⟨0, Nat.zero_le _, rfl, s, A, k1', k4⟩
      case round =>
        clear k1 k2 k3 k4 A G k1' hdn hjr
        obtain ⟨n, hn', rfl, s, A, k1, k4⟩ := hrel
        rcases Nat.lt_or_ge n 3 with hn3 | hn3
        · have hni : (n : Int) < 3 := by omega
          obtain ⟨g, cp, seen⟩ := k1.seen
          have c0 := seen.c0
          rw [hSl] at c0
          obtain ⟨ix, hix⟩ : ∃ ix, 97 + n = ix := ⟨_, rfl⟩
          have i1 : 97 + (n : Int) = (ix : Int) := by omega
          have i5 : IntKind.i64.wrap (ix : Int) = (ix : Int) := by rw [IntKind.wrap_i64]; omega
          have hixi : (ix : Int) < 160 := by omega
          have cw := seen.at hSl ix (by omega)
          have hwd : S.word ((ix : Nat) : Int) = old n := (by rw [← i1]; exact M0.fa n hn3)
          rw [hwd] at cw
          have hU : U64 (old n) := by rw [← hold']; exact Vl.u64 _
          obtain ⟨wd, hwn⟩ : ∃ wd, old n = wd := ⟨_, rfl⟩
          rw [hwn] at cw hU
          obtain ⟨u, hu⟩ : ∃ u, Vl.of wd = u := ⟨_, rfl⟩
          have hk : F.Plain.kind wd = u.k := congrArg Vl.k hu
          have hn : F.Plain.num wd = u.n := congrArg Vl.n hu
          have ly := seen.ly
          have lg := seen.lg
          go_upto_region 19 with (go_at_call 15; refine (F.rOf wd hU.1 hU.2 _).mono ?_; rintro e w7 ⟨rfl, hw7⟩; rw [hk, hn] at hw7 ⊢; have hb7 : Below wr.heap.size wr w7 := (by rw [hw7]; go_grown); have t7 := k1.below hb7; have C7 := k4.below hb7; clear hw7 hb7)
          have a8 : Below w7.heap.size w7 (w7.alloc (.cells #[.int .i64 u.k, .int .i64 u.n] 24)) := (Below.refl _ _).alloc (Nat.le_refl _) _
          have t8 := t7.below a8
          have C8 := C7.below a8
          have B8 : Blk w (w7.alloc (.cells #[.int .i64 u.k, .int .i64 u.n] 24)) w7.heap.size 24 #[.int .i64 u.k, .int .i64 u.n] := Blk.new t7.bel.size _ (by decide)
          obtain ⟨vb, hvb⟩ : ∃ vb, w7.heap.size = vb := ⟨_, rfl⟩
          rw [hvb] at B8 ⊢
          generalize w7.alloc (.cells #[.int .i64 u.k, .int .i64 u.n] 24) = w8 at t8 C8 B8 ⊢
          clear c0 cw seen ly lg a8 t7 C7 hvb
          by_cases hnf : n = f
          · have q1 : ((n : Int) == (f : Int)) = true := by simp [hnf]
            have hnf' : Hid (n = f) := hnf
            clear hnf
            have o6 : w8.cell? ⟨ob, 6, none⟩ = some (.int .i64 q.y.k) := C8.cell 6
            have o7 : w8.cell? ⟨ob, 7, none⟩ = some (.int .i64 q.y.n) := C8.cell 7
            go_upto_region 21 with (go_at_call 12; refine (cVal q.y fit.y _).mono ?_; rintro e w9 ⟨rfl, hb9⟩; rw [hv]; have t9 := t8.below hb9; have C9 := C8.below hb9; have B9 := B8.below hb9; have e0 : w9.cell? ⟨vb, 0, none⟩ = some (.int .i64 u.k) := B9.cell 0; have e1 : w9.cell? ⟨vb, 1, none⟩ = some (.int .i64 u.n) := B9.cell 1; have ef0 := B9.free 0; have ef1 := B9.free 1)
            have K : Kept [vb] w9 ((w9.setCell ⟨vb, 0, none⟩ (.int .i64 v.k)).setCell ⟨vb, 1, none⟩ (.int .i64 v.n)) := (Kept.setCell [vb] _ _ _ (by simp)).trans (Kept.setCell [vb] _ _ _ (by simp)) (fun _ h => .inl h)
            have t8' := to_twoB t9 K B9
            have C8' := C9.oth (Oth.kept K) (by simpa using C9.ne B9 (by decide))
            have B8' : Blk w ((w9.setCell ⟨vb, 0, none⟩ (.int .i64 v.k)).setCell ⟨vb, 1, none⟩ (.int .i64 v.n)) vb 24 #[.int .i64 v.k, .int .i64 v.n] := (B9.set 0 _).set 1 _
            clear o6 o7 e0 e1 ef0 ef1 t8 C8 B8
            have t8 := t8'
            have C8 := C8'
            have B8 := B8'
            clear t8' C8' B8'
            generalize (w9.setCell ⟨vb, 0, none⟩ (.int .i64 v.k)).setCell ⟨vb, 1, none⟩ (.int .i64 v.n) = w8 at t8 C8 B8 ⊢
            have hgn : Vl.of (updN old f v.w n) = v := by rw [show updN old f v.w n = v.w by simp [updN, hnf'.out]]; exact gv.of
            have ne1 := neVal (a := v) (b := v) rfl
            have hbd : Below w8.heap.size w8 w8.drew := (Below.refl _ _).drew
            have bd := B8.below hbd
            refine wp_region_noPanic ?_
            refine wp_region_held_drew (S := fun w' => w'.cell? ⟨vb, 0, none⟩ = some (.int .i64 v.k) ∧ w'.cell? ⟨vb, 1, none⟩ = some (.int .i64 v.n)) (by kernel_rfl) ⟨bd.cell 0, bd.cell 1⟩ (fun hHeld => ?_)
            refine takeH (i := 0) 92 (pt b) rfl rfl (by kernel_rfl) (by kernel_rfl) (by kernel_rfl) (fun _ _ _ h => h) (by rfl) ?_ (by assumption) ?_
            · intro w hSw; (try dsimp only at hSw); go_simp
            simp only [List.setIfInBounds_toArray, List.set_cons_zero, List.set_cons_succ]
            refine takeH (i := 1) 93 (.int .i64 n) rfl rfl (by kernel_rfl) (by kernel_rfl) (by kernel_rfl) (fun _ _ _ h => h) (by rfl) ?_ (by assumption) ?_
            · intro w hSw; (try dsimp only at hSw); go_simp
            simp only [List.setIfInBounds_toArray, List.set_cons_zero, List.set_cons_succ]
            refine takeH (i := 3) 95 (.agg #[.int .i64 v.k, .int .i64 v.n]) rfl rfl (by kernel_rfl) (by kernel_rfl) (by kernel_rfl) (fun _ _ _ h => h) (by rfl) ?_ (by assumption) ?_
            · intro w hSw; (try dsimp only at hSw); go_simp
            simp only [List.setIfInBounds_toArray, List.set_cons_zero, List.set_cons_succ]
            refine wpAnyH_ready (rs := [2]) (by kernel_rfl) (by simp) ?_
            refine AllReadyH.cons rfl (fun K hK => ?_) AllReadyH.nil
            go_simp
            refine (cNow (t8.below hbd) A hn3 (by omega)).mono ?_
            rintro e w10 ⟨rfl, s', t10, A', o10⟩
            rw [hgn]
            have B10 := (B8.below hbd).oth o10 (by simp)
            have C10 := (C8.below hbd).oth o10 (by simp)
            refine hK.out _ _ ⟨B10.cell 0, B10.cell 1⟩ (fun hHeld => ?_)
            clear hK K
            try simp only [Act.put, List.setIfInBounds_toArray, List.set_cons_zero, List.set_cons_succ]
            refine takeH (i := 4) 96 (.bool false) rfl rfl (by kernel_rfl) (by kernel_rfl) (by kernel_rfl) (fun _ _ _ h => h) (by rfl) ?_ (by assumption) ?_
            · intro w hSw; (try dsimp only at hSw); go_simp
            simp only [List.setIfInBounds_toArray, List.set_cons_zero, List.set_cons_succ]
            refine wpAnyH_done (by kernel_rfl) ?_ _
            refine NoPanic.normal ?_
            go_wp2
            go_roundw
            case rel => exact ⟨n + 1, by omega, by go_num, s', A', t10.mono (by omega), C10⟩
            case measure => simp [intOf]; omega
          · have q1 : ((n : Int) == (f : Int)) = false := by simp; omega
            go_upto_region 21 with (fail)
            have hgn : Vl.of (updN old f v.w n) = u := by rw [show updN old f v.w n = old n by simp [updN, hnf], hwn]; exact hu
            have ne1 := neVal (a := u) (b := u) rfl
            have hbd : Below w8.heap.size w8 w8.drew := (Below.refl _ _).drew
            have bd := B8.below hbd
            refine wp_region_noPanic ?_
            refine wp_region_held_drew (S := fun w' => w'.cell? ⟨vb, 0, none⟩ = some (.int .i64 u.k) ∧ w'.cell? ⟨vb, 1, none⟩ = some (.int .i64 u.n)) (by kernel_rfl) ⟨bd.cell 0, bd.cell 1⟩ (fun hHeld => ?_)
            refine takeH (i := 0) 92 (pt b) rfl rfl (by kernel_rfl) (by kernel_rfl) (by kernel_rfl) (fun _ _ _ h => h) (by rfl) ?_ (by assumption) ?_
            · intro w hSw; (try dsimp only at hSw); go_simp
            simp only [List.setIfInBounds_toArray, List.set_cons_zero, List.set_cons_succ]
            refine takeH (i := 1) 93 (.int .i64 n) rfl rfl (by kernel_rfl) (by kernel_rfl) (by kernel_rfl) (fun _ _ _ h => h) (by rfl) ?_ (by assumption) ?_
            · intro w hSw; (try dsimp only at hSw); go_simp
            simp only [List.setIfInBounds_toArray, List.set_cons_zero, List.set_cons_succ]
            refine takeH (i := 3) 95 (.agg #[.int .i64 u.k, .int .i64 u.n]) rfl rfl (by kernel_rfl) (by kernel_rfl) (by kernel_rfl) (fun _ _ _ h => h) (by rfl) ?_ (by assumption) ?_
            · intro w hSw; (try dsimp only at hSw); go_simp
            simp only [List.setIfInBounds_toArray, List.set_cons_zero, List.set_cons_succ]
            refine wpAnyH_ready (rs := [2]) (by kernel_rfl) (by simp) ?_
            refine AllReadyH.cons rfl (fun K hK => ?_) AllReadyH.nil
            go_simp
            refine (cNow (t8.below hbd) A hn3 (by omega)).mono ?_
            rintro e w10 ⟨rfl, s', t10, A', o10⟩
            rw [hgn]
            have B10 := (B8.below hbd).oth o10 (by simp)
            have C10 := (C8.below hbd).oth o10 (by simp)
            refine hK.out _ _ ⟨B10.cell 0, B10.cell 1⟩ (fun hHeld => ?_)
            clear hK K
            try simp only [Act.put, List.setIfInBounds_toArray, List.set_cons_zero, List.set_cons_succ]
            refine takeH (i := 4) 96 (.bool false) rfl rfl (by kernel_rfl) (by kernel_rfl) (by kernel_rfl) (fun _ _ _ h => h) (by rfl) ?_ (by assumption) ?_
            · intro w hSw; (try dsimp only at hSw); go_simp
            simp only [List.setIfInBounds_toArray, List.set_cons_zero, List.set_cons_succ]
            refine wpAnyH_done (by kernel_rfl) ?_ _
            refine NoPanic.normal ?_
            go_wp2
            go_roundw
            case rel => exact ⟨n + 1, by omega, by go_num, s', A', t10.mono (by omega), C10⟩
            case measure => simp [intOf]; omega
        · have hni : ¬ (n : Int) < 3 := by omega
          have ht : s.t = 0 := A.t
          go_wp2_with (go_at_call 17; refine (hTraps k1.one).mono ?_; rintro e wt ⟨rfl, hwt⟩; rw [hwt, ht]; clear hwt wt)
          go_ret
          exact ⟨rfl, k1.bel⟩
end Go.Proofs.YtahafmglidlcnaaDoor
