/-
  The walk of StoplessWhere.
-/
import Derived.Test.YtpcoldpphihfmaaGreatDoorVsh
import Derived.Test.YtpcoldpphihfmaaGreatDoorVl
import Derived.Test.YtpcoldpphihfmaaGreatDoorVy
import Derived.Test.YtpcoldpphihfmaaGreatDoorVd
namespace Go.Proofs.YtpcoldpphihfmaaGreatDoor
set_option linter.unusedVariables false
set_option linter.unusedSimpArgs false
set_option maxRecDepth 100000
open Go.ChangeShapes Go.WideShapes Go.RowKit
open H.Plain (hw pS pC pN pM pG pT pL mv)

theorem of_glS {t : Int} {l : Nat → Vl} {st : Nat → Int} {k : Nat} (hk : k < 3) (hg : (l k).Good) : Vl.of (gl t l st (1 + k)) = l k := by
  rw [((gl_at t l st).2.2.2.2 k hk).1]
  split
  · exact (good_fz hg).2.2
  · exact hg.of
theorem Cm.oth_hd {w0 w w' : World} {p : Nat} {q' : Wq} {F : List Nat} (h : Cm w0 w p (.hd q')) (o : Oth F w w') (hp : p ∉ F) : Cm w0 w' p (.hd q') := by
  obtain ⟨⟨a, B, I⟩, ok, bh⟩ := h
  exact ⟨⟨a, B.oth o hp, I.1, I.2⟩, ok, bh⟩
theorem runC_ok {x : Cw} {s : St} (ok : x.Ok) (R : s.Rng) (j : Nat) : (runC x s j).1.Ok ∧ (runC x s j).2.Rng ∧ (runC x s j).2.ws.length = s.ws.length := by
  induction j with
  | zero => exact ⟨ok, R, rfl⟩
  | succ j ih =>
    obtain ⟨a, b, c⟩ := ih
    exact ⟨a.next b, Cw.rng a b, (Cw.len a).trans c⟩
set_option maxHeartbeats 8000000 in
theorem wStoplessWhere (tg : Int) (at_ : Option Addr) (lt ct : Nat) (zt : Nat → Int) (av : Option Addr) (ll cv' : Nat) (zl : Nat → Vl) (x1 x2 : Int) (h00 : -9223372036854775808 ≤ tg) (h01 : tg ≤ 9223372036854775807) (h10 : -9223372036854775808 ≤ x1) (h11 : x1 ≤ 9223372036854775807) (h20 : -9223372036854775808 ≤ x2) (h21 : x2 ≤ 9223372036854775807) (w : World) (L : Laid w) (ci : CameI w at_ lt zt) (cv : CameV w av ll zl) :
    Calls Tryz.prog 7 #[.agg #[.int .i64 tg, .slice at_ lt ct, .slice av ll cv'], .int .i64 x1, .int .i64 x2] w fun e w' => e = .returned (.bool true) ∧ Below w.heap.size w w' := by
  have kf := kd_lt x1 3 (by decide)
  obtain ⟨f, hf⟩ : ∃ f : Nat, kd x1 3 = (f : Int) := ⟨(kd x1 3).toNat, by omega⟩
  rw [hf] at kf
  have hf3 : f < 3 := by omega
  have km := kd_lt x2 4 (by decide)
  obtain ⟨mk, hmk⟩ : ∃ m, kd x2 4 = m := ⟨_, rfl⟩
  rw [hmk] at km
  obtain ⟨md, hmd⟩ : ∃ m, 5 + mk = m := ⟨_, rfl⟩
  have imd : IntKind.i64.wrap (5 + mk) = md := by rw [IntKind.wrap_i64]; omega
  obtain ⟨W, Bw⟩ := L
  have a0 : Below w.heap.size w (w.alloc (.cells #[.int .i64 tg, .slice at_ lt ct, .slice av ll cv'] 25)) := (Below.refl _ _).alloc (Nat.le_refl _) _
  have X0 : Blk w (w.alloc (.cells #[.int .i64 tg, .slice at_ lt ct, .slice av ll cv'] 25)) w.heap.size 25 #[.int .i64 tg, .slice at_ lt ct, .slice av ll cv'] := Blk.new (Nat.le_refl _) _ (by decide)
  go_enter Tryz.func7, Tryz.ntmps7
  go_upto_region 1 with (fail)
  obtain ⟨ob, hob⟩ : ∃ q, w.heap.size = q := ⟨_, rfl⟩
  rw [hob] at X0 ⊢
  generalize hwx : w.alloc _ = wa at a0 X0 ⊢
  clear hwx
  have hol : w.heap.size ≤ ob := by omega
  clear hob
  have La : Laid wa := ⟨W.on a0, Bw.on a0⟩
  go_upto_region 2 with (go_at_call 9; refine (cShown _ La).mono ?_; rintro e w1 ⟨rfl, hb1⟩; have X1 := X0.below hb1; have b1 := a0.trans (hb1.mono a0.size))
  have x0 : w1.cell? ⟨ob, 0, none⟩ = some (.int .i64 tg) := X1.cell 0
  have x0f := X1.free 0
  have x0l := X1.lt
  go_upto_region 3 with (fail)
  have X2 : Blk w (w1.setCell ⟨ob, 0, none⟩ (.int .i64 3)) ob 25 #[.int .i64 3, .slice at_ lt ct, .slice av ll cv'] := X1.set 0 _
  have b2 : Below w.heap.size w (w1.setCell ⟨ob, 0, none⟩ (.int .i64 3)) := b1.setCell hol _
  have K2 : Kept [ob] w1 (w1.setCell ⟨ob, 0, none⟩ (.int .i64 3)) := Kept.setCell [ob] _ _ _ (by simp)
  generalize w1.setCell ⟨ob, 0, none⟩ (.int .i64 3) = w2 at X2 b2 K2 ⊢
  clear x0 x0f x0l X1 X0 K2 b1 a0 hb1 La
  have W2 := W.on b2
  have B2 := Bw.on b2
  have cv2 : CameV w2 av ll zl := cv.on b2
  have ci2 := ci.on b2
  have g0 : w2.cell? ⟨ob, 0, none⟩ = some (.int .i64 3) := X2.cell 0
  have g1 : w2.cell? ⟨ob, 1, none⟩ = some (.slice at_ lt ct) := X2.cell 1
  have g2 : w2.cell? ⟨ob, 2, none⟩ = some (.slice av ll cv') := X2.cell 2
  have gl_ := X2.lt
  obtain ⟨old, hold⟩ : ∃ q, fldP ll zl = q := ⟨_, rfl⟩
  obtain ⟨stt, hstt⟩ : ∃ q, stP lt zt = q := ⟨_, rfl⟩
  have go : ∀ k, (old k).Good := fun k => hold ▸ good_fld _ _ k
  have gs : ∀ k, 0 ≤ stt k ∧ stt k < 5 := fun k => hstt ▸ st_rng _ _ k
  go_upto_region 4 with (go_at_call 10; refine (cLaid w2 W2 ci2 cv2 (by decide) (by decide)).mono ?_; rintro e w3 ⟨b, y, s, s2, rfl, h3, ews, M⟩; rw [show kd 3 6 = 3 by decide, hold, hstt] at M; have O := ob_gl M go gs; have X3 := X2.below h3.bel)
  clear g0 g1 g2 gl_
  have hSl : s.ws.length = 160 := M.len
  have hSR : s.Rng := h3.rng1
  obtain ⟨q, hq⟩ : ∃ q : Wq, q = ⟨rqR f, decide (md < 7), md == 8⟩ := ⟨_, rfl⟩
  have okq : (Cw.hd q).Ok := hq ▸ ok_R hf3 _ _
  have enew : Cw.new (rqR f) ⟨md, 0, 0⟩ = (Cw.hd q) := by rw [hq]; unfold Cw.new; rw [if_neg (by simp [rqR]), if_neg (by simp only; omega)]
  obtain ⟨u, hu0⟩ : ∃ u, old f = u := ⟨_, rfl⟩
  have Wh : Hid (∃ d bt s', d ≤ 11 ∧ Run (Cw.hd q) s d (.fin bt ⟨0, u, false⟩) s' ∧ Fx f s s') := by
    have := where_runs hf3 O (decide (md < 7)) (md == 8)
    rw [hu0] at this
    rw [hq]
    exact this
  go_upto_region 5 with (go_at_call 11; refine (cKind _ x1 3 h10 h11 (by decide)).mono ?_; rintro e wk ⟨rfl, hwk⟩; rw [hwk, hf]; clear hwk wk)
  go_upto_region 6 with (first
    | (go_at_call 11; refine (cKind _ x2 4 h20 h21 (by decide)).mono ?_; rintro e wk ⟨rfl, hwk⟩; rw [hwk, hmk]; clear hwk wk)
    | (go_at_call 15; refine (cNewC (rqR f) ⟨md, 0, 0⟩ _).mono ?_; rintro e w4 ⟨p, rfl, Mp⟩; rw [enew] at Mp; have h4 := h3.below Mp.bel; have m4 : Cm w2 w4 p (Cw.hd q) := Mp.cm h3.bel.size okq B2; have X4 := X3.below Mp.bel; clear Mp))
  go_upto_region 9 with (go_at_call 33; refine (hClone h4.one).mono ?_; rintro e w5 ⟨c, rfl, Hc⟩; have h5 : TwoT true w2 w5 b c s s 50 := h4.one.duo Hc (Nat.le_refl _); have m5 := m4.below Hc.bel; have X5 := X4.below Hc.bel; clear Hc)
  clear h3 h4 m4 X3 X4
  go_upto_region 12 with (fail)
  have B6b : Below w5.heap.size w5 (w5.alloc (.cells #[.int .i64 0, .int .i64 0] 38)) := (Below.refl _ _).alloc (Nat.le_refl _) _
  have B6 : Blk w2 (w5.alloc (.cells #[.int .i64 0, .int .i64 0] 38)) w5.heap.size 38 #[.int .i64 0, .int .i64 0] := Blk.new h5.bel.size _ (by decide)
  have h6 := h5.below B6b
  have m6 := m5.below B6b
  have X6 := X5.below B6b
  generalize w5.alloc (.cells #[.int .i64 0, .int .i64 0] 38) = w6 at B6 h6 m6 X6 ⊢
  generalize w5.heap.size = vb at B6 ⊢
  clear B6b
  clear h5 m5 X5
  have g2 : w6.cell? ⟨ob, 2, none⟩ = some (.slice av ll cv') := X6.cell 2
  have gl_ := X6.lt
  by_cases hin : f < ll
  · have cv6 := cv.on (b2.trans (h6.bel.mono b2.size))
    obtain ⟨vb', off, rfl, hvb, hz⟩ : ∃ b off, av = some ⟨b, off, none⟩ ∧ b < w6.heap.size ∧ ∀ j, j < ll → w6.cell? ⟨b, off + j * 2, none⟩ = some (.int .i64 (zl j).k) ∧ w6.cell? ⟨b, off + (j * 2 + 1), none⟩ = some (.int .i64 (zl j).n) ∧ (zl j).Fit := (cv6.resolve_left (by omega))
    obtain ⟨d0, d1, df⟩ := hz f hin
    obtain ⟨qv, hqv⟩ : ∃ qv, zl f = qv := ⟨_, rfl⟩
    rw [hqv] at d0 d1 df
    have hlx : valP qv = u := by rw [← hu0, ← hold, fldP, if_pos hin, hqv]
    have hini : (f : Int) < (ll : Int) := by omega
    rw [← Nat.add_assoc] at d1
    clear hz hqv
    go_upto_region 14 with (go_at_call 28; refine (cVal qv df _).mono ?_; rintro e w7 ⟨rfl, hb7⟩; rw [hlx]; have h7 := h6.below hb7; have m7 := m6.below hb7; have B7 := B6.below hb7; have e0 : w7.cell? ⟨vb, 0, none⟩ = some (.int .i64 0) := B7.cell 0; have e1 : w7.cell? ⟨vb, 1, none⟩ = some (.int .i64 0) := B7.cell 1; have f0 := B7.free 0; have f1 := B7.free 1)
    have K : Kept [vb] w7 ((w7.setCell ⟨vb, 0, none⟩ (.int .i64 u.k)).setCell ⟨vb, 1, none⟩ (.int .i64 u.n)) := (Kept.one ..).tr (Kept.one ..)
    have h8 := to_twoB h7 K B7
    obtain ⟨cx7, Bx7⟩ := m7.blk
    have m8 := m7.oth_hd (Oth.kept K) (by simpa using Bx7.ne B7 (by decide))
    have B8 : Blk w2 ((w7.setCell ⟨vb, 0, none⟩ (.int .i64 u.k)).setCell ⟨vb, 1, none⟩ (.int .i64 u.n)) vb 38 #[.int .i64 u.k, .int .i64 u.n] := (B7.set 0 _).set 1 _
    clear e0 e1 f0 f1 K Bx7 h7 m7 B7 h6 m6 X6 B6 g2 gl_ d0 d1 hlx
    generalize (w7.setCell ⟨vb, 0, none⟩ (.int .i64 u.k)).setCell ⟨vb, 1, none⟩ (.int .i64 u.n) = w8 at h8 m8 B8 ⊢
    have w0 := Wh.out
    obtain ⟨d, bt, s', hd, E, hF⟩ := w0
    have hs' : (runC (Cw.hd q) s d).2 = s' := by rw [E.at_]
    go_wp2_with (fail)
    go_loopw [14, 15] (fun dn i wr => ∃ j : Nat, j ≤ d ∧ i = .int .i64 j ∧ dn = .bool (runC (Cw.hd q) s j).1.done ∧ TwoT true w2 wr b c (runC (Cw.hd q) s j).2 s (50 + j) ∧ Cm w2 wr p (runC (Cw.hd q) s j).1 ∧ Blk w2 wr vb 38 #[.int .i64 u.k, .int .i64 u.n]) (fun _ i _ => 12 - (intOf i).toNat)
    case atStart => exact ⟨0, Nat.zero_le _, rfl, rfl, h8, m8, B8⟩
    case round =>
      clear h8 m8 B8
      obtain ⟨j, hj, rfl, rfl, k1, k2, k3⟩ := hrel
      rcases Nat.lt_or_ge j d with hjd | hjd
      · have hdn : (runC (Cw.hd q) s j).1.done = false := E.not j hjd
        have hji : (j : Int) < 12 := by omega
        obtain ⟨XX, hX⟩ : ∃ X, (runC (Cw.hd q) s j).1 = X := ⟨_, rfl⟩
        obtain ⟨SX, hSX⟩ : ∃ X, (runC (Cw.hd q) s j).2 = X := ⟨_, rfl⟩
        rw [hX] at k2 hdn
        rw [hSX] at k1
        rw [hX, hdn]
        obtain ⟨cx, Bx'⟩ := k2.blk
        go_wp2_with (go_at_call 19; refine (tC k1 k2 (by omega)).mono ?_; rintro e w20 ⟨rfl, k4, k5, o6⟩; have k6 := k3.oth o6 (by simpa using k3.ne Bx' (by decide)))
        go_roundw
        case rel => exact ⟨j + 1, by omega, by go_num, by simp only [runC, hX, hSX], by simp only [runC, hX, hSX]; exact k4, by simp only [runC, hX, hSX]; exact k5, k6⟩
        case measure => simp [intOf]; omega
      · obtain rfl : j = d := by omega
        have hdn : (runC (Cw.hd q) s j).1.done = true := by rw [E.at_]; rfl
        rw [hdn]
        rw [E.at_] at k1 k2
        simp only at k1 k2
        have hji : (j : Int) < 12 := by omega
        have hRl : s'.ws.length = 160 := by have := (runC_ok okq hSR j).2.2; rw [E.at_] at this; exact this.trans hSl
        go_wp2_with (fail)
        go_loopw [16] (fun i wr => ∃ n : Nat, n ≤ 160 ∧ i = .int .i64 n ∧ ∃ t1 t2 : St, t1.ws = s'.ws ∧ t2.ws = s.ws ∧ TwoT true w2 wr b c t1 t2 (62 + 2 * n) ∧ Cm w2 wr p (.fin bt ⟨0, u, false⟩) ∧ Blk w2 wr vb 38 #[.int .i64 u.k, .int .i64 u.n]) (fun i _ => 160 - (intOf i).toNat)
        case atStart => exact ⟨0, Nat.zero_le _, rfl, s', s, rfl, rfl, k1.mono (by omega), k2, k3⟩
        case round =>
          clear k1 k2 k3 hdn
          obtain ⟨n, hn', rfl, t1, t2, e1, e2, k1, k2, k3⟩ := hrel
          rcases Nat.lt_or_ge n 160 with hn | hn
          · have hni : (n : Int) < 160 := by omega
            obtain ⟨hn2, hh⟩ : ∃ q : Nat, n / 2 = q := ⟨_, rfl⟩
            have i2 : (n : Int).tdiv 2 = (hn2 : Int) := by rw [Int.tdiv_eq_ediv_of_nonneg (by omega)]; omega
            have i3 : IntKind.i64.wrap (hn2 : Int) = (hn2 : Int) := by rw [IntKind.wrap_i64]; omega
            have i4 : IntKind.i64.wrap (53 + (f : Int)) = 53 + (f : Int) := by rw [IntKind.wrap_i64]; omega
            by_cases hq : hn2 = 53 + f
            · have q1 : ((hn2 : Int) == 53 + (f : Int)) = true := by simp; omega
              have q2 : ((hn2 : Int) != 53 + (f : Int)) = false := by simp; omega
              clear hq
              go_wp2_with (fail)
              go_roundw
              case rel => exact ⟨n + 1, by omega, by go_num, t1, t2, e1, e2, k1.mono (by omega), k2, k3⟩
              case measure => simp [intOf]; omega
            · have q1 : ((hn2 : Int) == 53 + (f : Int)) = false := by simp; omega
              have q2 : ((hn2 : Int) != 53 + (f : Int)) = true := by simp; omega
              obtain ⟨wd, hwd⟩ : ∃ z, t1.got (n : Int) = z := ⟨_, rfl⟩
              have hwd2 : t2.got (n : Int) = wd := by
                have l1 : t1.ws.length = 160 := by rw [e1]; exact hRl
                have l2 : t2.ws.length = 160 := by rw [e2]; exact hSl
                have iN : In (n : Int) := ⟨by omega, by omega⟩
                rw [← hwd, iN.got l1, iN.got l2]
                have a1 : t1.word (n : Int) = s'.word (n : Int) := by simp only [St.word, e1]
                have a2 : t2.word (n : Int) = s.word (n : Int) := by simp only [St.word, e2]
                rw [a1, a2]
                exact (hF (n : Int) (by omega) (by omega) (by omega)).symm
              have q3 : (wd == wd) = true := by simp
              have q4 : (wd != wd) = false := by simp
              clear hq hh
              go_wp2_with (first
                | (go_at_call 34; refine (tLoad k4.flip (by omega) (n : Int)).mono ?_; rintro e w22 ⟨rfl, k7, o7⟩; rw [hwd2]; have k8 := k5.oth0 o7; have k9 := k6.oth o7 (by simp))
                | (go_at_call 34; refine (tLoad k1 (by omega) (n : Int)).mono ?_; rintro e w21 ⟨rfl, k4, o4⟩; rw [hwd]; have k5 := k2.oth0 o4; have k6 := k3.oth o4 (by simp)))
              go_roundw
              case rel => exact ⟨n + 1, by omega, by go_num, t1.load n, t2.load n, e1, e2, k7.flip.mono (by omega), k8, k9⟩
              case measure => simp [intOf]; omega
          · have hni : ¬ (n : Int) < 160 := by omega
            have f1 := fOut1
            have ev := eqVal_t (a := u) (b := u) rfl
            go_upto_region 25 with (go_at_call 22; refine (cCResult k2).mono ?_; rintro e w23 ⟨rfl, hb23⟩; simp only [Cw.o, Ou.val]; have k5 := k1.below hb23; have k6 := k3.below hb23)
            have N24b : Below w23.heap.size w23 (w23.alloc (.cells #[.int .i64 u.k, .int .i64 u.n] 38)) := (Below.refl _ _).alloc (Nat.le_refl _) _
            have N24 : Blk w2 (w23.alloc (.cells #[.int .i64 u.k, .int .i64 u.n] 38)) w23.heap.size 38 #[.int .i64 u.k, .int .i64 u.n] := Blk.new k5.bel.size _ (by decide)
            have k7 := k5.below N24b
            have k8 := k6.below N24b
            generalize w23.alloc (.cells #[.int .i64 u.k, .int .i64 u.n] 38) = w24 at N24 k7 k8 ⊢
            generalize w23.heap.size = nb at N24 ⊢
            clear N24b
            have n0 : w24.cell? ⟨nb, 0, none⟩ = some (.int .i64 u.k) := N24.cell 0
            have n1 : w24.cell? ⟨nb, 1, none⟩ = some (.int .i64 u.n) := N24.cell 1
            have nl := N24.lt
            have v0 : w24.cell? ⟨vb, 0, none⟩ = some (.int .i64 u.k) := k8.cell 0
            have v1 : w24.cell? ⟨vb, 1, none⟩ = some (.int .i64 u.n) := k8.cell 1
            have vl := k8.lt
            clear k1 k2 k3 k5 k6
            go_wp2
            go_ret
            exact ⟨rfl, b2.trans (k7.bel.mono b2.size)⟩
  · have hini : ¬ (f : Int) < (ll : Int) := by omega
    have hu00 : u = Vl.zero := by rw [← hu0, ← hold, fldP, if_neg hin]
    have h8 := h6
    have m8 := m6
    have B8 : Blk w2 w6 vb 38 #[.int .i64 u.k, .int .i64 u.n] := by rw [hu00]; exact B6
    go_upto_region 14 with (fail)
    clear g2 gl_ h6 m6 X6 B6 hu00
    have w0 := Wh.out
    obtain ⟨d, bt, s', hd, E, hF⟩ := w0
    have hs' : (runC (Cw.hd q) s d).2 = s' := by rw [E.at_]
    go_wp2_with (fail)
    go_loopw [14, 15] (fun dn i wr => ∃ j : Nat, j ≤ d ∧ i = .int .i64 j ∧ dn = .bool (runC (Cw.hd q) s j).1.done ∧ TwoT true w2 wr b c (runC (Cw.hd q) s j).2 s (50 + j) ∧ Cm w2 wr p (runC (Cw.hd q) s j).1 ∧ Blk w2 wr vb 38 #[.int .i64 u.k, .int .i64 u.n]) (fun _ i _ => 12 - (intOf i).toNat)
    case atStart => exact ⟨0, Nat.zero_le _, rfl, rfl, h8, m8, B8⟩
    case round =>
      clear h8 m8 B8
      obtain ⟨j, hj, rfl, rfl, k1, k2, k3⟩ := hrel
      rcases Nat.lt_or_ge j d with hjd | hjd
      · have hdn : (runC (Cw.hd q) s j).1.done = false := E.not j hjd
        have hji : (j : Int) < 12 := by omega
        obtain ⟨XX, hX⟩ : ∃ X, (runC (Cw.hd q) s j).1 = X := ⟨_, rfl⟩
        obtain ⟨SX, hSX⟩ : ∃ X, (runC (Cw.hd q) s j).2 = X := ⟨_, rfl⟩
        rw [hX] at k2 hdn
        rw [hSX] at k1
        rw [hX, hdn]
        obtain ⟨cx, Bx'⟩ := k2.blk
        go_wp2_with (go_at_call 19; refine (tC k1 k2 (by omega)).mono ?_; rintro e w20 ⟨rfl, k4, k5, o6⟩; have k6 := k3.oth o6 (by simpa using k3.ne Bx' (by decide)))
        go_roundw
        case rel => exact ⟨j + 1, by omega, by go_num, by simp only [runC, hX, hSX], by simp only [runC, hX, hSX]; exact k4, by simp only [runC, hX, hSX]; exact k5, k6⟩
        case measure => simp [intOf]; omega
      · obtain rfl : j = d := by omega
        have hdn : (runC (Cw.hd q) s j).1.done = true := by rw [E.at_]; rfl
        rw [hdn]
        rw [E.at_] at k1 k2
        simp only at k1 k2
        have hji : (j : Int) < 12 := by omega
        have hRl : s'.ws.length = 160 := by have := (runC_ok okq hSR j).2.2; rw [E.at_] at this; exact this.trans hSl
        go_wp2_with (fail)
        go_loopw [16] (fun i wr => ∃ n : Nat, n ≤ 160 ∧ i = .int .i64 n ∧ ∃ t1 t2 : St, t1.ws = s'.ws ∧ t2.ws = s.ws ∧ TwoT true w2 wr b c t1 t2 (62 + 2 * n) ∧ Cm w2 wr p (.fin bt ⟨0, u, false⟩) ∧ Blk w2 wr vb 38 #[.int .i64 u.k, .int .i64 u.n]) (fun i _ => 160 - (intOf i).toNat)
        case atStart => exact ⟨0, Nat.zero_le _, rfl, s', s, rfl, rfl, k1.mono (by omega), k2, k3⟩
        case round =>
          clear k1 k2 k3 hdn
          obtain ⟨n, hn', rfl, t1, t2, e1, e2, k1, k2, k3⟩ := hrel
          rcases Nat.lt_or_ge n 160 with hn | hn
          · have hni : (n : Int) < 160 := by omega
            obtain ⟨hn2, hh⟩ : ∃ q : Nat, n / 2 = q := ⟨_, rfl⟩
            have i2 : (n : Int).tdiv 2 = (hn2 : Int) := by rw [Int.tdiv_eq_ediv_of_nonneg (by omega)]; omega
            have i3 : IntKind.i64.wrap (hn2 : Int) = (hn2 : Int) := by rw [IntKind.wrap_i64]; omega
            have i4 : IntKind.i64.wrap (53 + (f : Int)) = 53 + (f : Int) := by rw [IntKind.wrap_i64]; omega
            by_cases hq : hn2 = 53 + f
            · have q1 : ((hn2 : Int) == 53 + (f : Int)) = true := by simp; omega
              have q2 : ((hn2 : Int) != 53 + (f : Int)) = false := by simp; omega
              clear hq
              go_wp2_with (fail)
              go_roundw
              case rel => exact ⟨n + 1, by omega, by go_num, t1, t2, e1, e2, k1.mono (by omega), k2, k3⟩
              case measure => simp [intOf]; omega
            · have q1 : ((hn2 : Int) == 53 + (f : Int)) = false := by simp; omega
              have q2 : ((hn2 : Int) != 53 + (f : Int)) = true := by simp; omega
              obtain ⟨wd, hwd⟩ : ∃ z, t1.got (n : Int) = z := ⟨_, rfl⟩
              have hwd2 : t2.got (n : Int) = wd := by
                have l1 : t1.ws.length = 160 := by rw [e1]; exact hRl
                have l2 : t2.ws.length = 160 := by rw [e2]; exact hSl
                have iN : In (n : Int) := ⟨by omega, by omega⟩
                rw [← hwd, iN.got l1, iN.got l2]
                have a1 : t1.word (n : Int) = s'.word (n : Int) := by simp only [St.word, e1]
                have a2 : t2.word (n : Int) = s.word (n : Int) := by simp only [St.word, e2]
                rw [a1, a2]
                exact (hF (n : Int) (by omega) (by omega) (by omega)).symm
              have q3 : (wd == wd) = true := by simp
              have q4 : (wd != wd) = false := by simp
              clear hq hh
              go_wp2_with (first
                | (go_at_call 34; refine (tLoad k4.flip (by omega) (n : Int)).mono ?_; rintro e w22 ⟨rfl, k7, o7⟩; rw [hwd2]; have k8 := k5.oth0 o7; have k9 := k6.oth o7 (by simp))
                | (go_at_call 34; refine (tLoad k1 (by omega) (n : Int)).mono ?_; rintro e w21 ⟨rfl, k4, o4⟩; rw [hwd]; have k5 := k2.oth0 o4; have k6 := k3.oth o4 (by simp)))
              go_roundw
              case rel => exact ⟨n + 1, by omega, by go_num, t1.load n, t2.load n, e1, e2, k7.flip.mono (by omega), k8, k9⟩
              case measure => simp [intOf]; omega
          · have hni : ¬ (n : Int) < 160 := by omega
            have f1 := fOut1
            have ev := eqVal_t (a := u) (b := u) rfl
            go_upto_region 25 with (go_at_call 22; refine (cCResult k2).mono ?_; rintro e w23 ⟨rfl, hb23⟩; simp only [Cw.o, Ou.val]; have k5 := k1.below hb23; have k6 := k3.below hb23)
            have N24b : Below w23.heap.size w23 (w23.alloc (.cells #[.int .i64 u.k, .int .i64 u.n] 38)) := (Below.refl _ _).alloc (Nat.le_refl _) _
            have N24 : Blk w2 (w23.alloc (.cells #[.int .i64 u.k, .int .i64 u.n] 38)) w23.heap.size 38 #[.int .i64 u.k, .int .i64 u.n] := Blk.new k5.bel.size _ (by decide)
            have k7 := k5.below N24b
            have k8 := k6.below N24b
            generalize w23.alloc (.cells #[.int .i64 u.k, .int .i64 u.n] 38) = w24 at N24 k7 k8 ⊢
            generalize w23.heap.size = nb at N24 ⊢
            clear N24b
            have n0 : w24.cell? ⟨nb, 0, none⟩ = some (.int .i64 u.k) := N24.cell 0
            have n1 : w24.cell? ⟨nb, 1, none⟩ = some (.int .i64 u.n) := N24.cell 1
            have nl := N24.lt
            have v0 : w24.cell? ⟨vb, 0, none⟩ = some (.int .i64 u.k) := k8.cell 0
            have v1 : w24.cell? ⟨vb, 1, none⟩ = some (.int .i64 u.n) := k8.cell 1
            have vl := k8.lt
            clear k1 k2 k3 k5 k6
            go_wp2
            go_ret
            exact ⟨rfl, b2.trans (k7.bel.mono b2.size)⟩
end Go.Proofs.YtpcoldpphihfmaaGreatDoor
