/-
  The walk of StoplessWrites.
-/
import Derived.Test.YtpcoldpphihfmaaGreatDoorVsh
import Derived.Test.YtpcoldpphihfmaaGreatDoorVl
import Derived.Test.YtpcoldpphihfmaaGreatDoorVy
import Derived.Test.YtpcoldpphihfmaaGreatDoorVd
namespace Go.Proofs.YtpcoldpphihfmaaGreatDoor
set_option linter.unusedVariables false
set_option linter.unusedSimpArgs false
set_option maxRecDepth 100000
open Go.ChangeShapes Go.WideShapes Go.RowKit
open H.Plain (hw pS pC pN pM pG pT pL mv)

theorem of_glS {t : Int} {l : Nat → Vl} {st : Nat → Int} {k : Nat} (hk : k < 3) (hg : (l k).Good) : Vl.of (gl t l st (1 + k)) = l k := by
  rw [((gl_at t l st).2.2.2.2 k hk).1]
  split
  · exact (good_fz hg).2.2
  · exact hg.of
theorem Cm.oth_hd {w0 w w' : World} {p : Nat} {q' : Wq} {F : List Nat} (h : Cm w0 w p (.hd q')) (o : Oth F w w') (hp : p ∉ F) : Cm w0 w' p (.hd q') := by
  obtain ⟨⟨a, B, I⟩, ok, bh⟩ := h
  exact ⟨⟨a, B.oth o hp, I.1, I.2⟩, ok, bh⟩
theorem runC_ok {x : Cw} {s : St} (ok : x.Ok) (R : s.Rng) (j : Nat) : (runC x s j).1.Ok ∧ (runC x s j).2.Rng ∧ (runC x s j).2.ws.length = s.ws.length := by
  induction j with
  | zero => exact ⟨ok, R, rfl⟩
  | succ j ih =>
    obtain ⟨a, b, c⟩ := ih
    exact ⟨a.next b, Cw.rng a b, (Cw.len a).trans c⟩
set_option maxHeartbeats 8000000 in
theorem wStoplessWrites (tg : Int) (at_ : Option Addr) (lt ct : Nat) (zt : Nat → Int) (av : Option Addr) (ll cv' : Nat) (zl : Nat → Vl) (o : Op15) (h00 : -9223372036854775808 ≤ tg) (h01 : tg ≤ 9223372036854775807) (w : World) (L : Laid w) (ci : CameI w at_ lt zt) (cv : CameV w av ll zl) (fit : o.Fit) :
    Calls Tryz.prog 8 #[.agg #[.int .i64 tg, .slice at_ lt ct, .slice av ll cv'], .agg o.cells] w fun e w' => e = .returned (.bool true) ∧ Below w.heap.size w w' := by
  have kf := kd_lt o.fd 3 (by decide)
  obtain ⟨f, hf⟩ : ∃ f : Nat, kd o.fd 3 = (f : Int) := ⟨(kd o.fd 3).toNat, by omega⟩
  rw [hf] at kf
  have hf3 : f < 3 := by omega
  have km := kd_lt o.md 3 (by decide)
  obtain ⟨mk, hmk⟩ : ∃ m, kd o.md 3 = m := ⟨_, rfl⟩
  rw [hmk] at km
  obtain ⟨md, hmd⟩ : ∃ m, 5 + mk = m := ⟨_, rfl⟩
  have imd : IntKind.i64.wrap (5 + mk) = md := by rw [IntKind.wrap_i64]; omega
  have gv := good_valP o.y
  obtain ⟨v, hv⟩ : ∃ v, valP o.y = v := ⟨_, rfl⟩
  rw [hv] at gv
  obtain ⟨W, Bw⟩ := L
  have a0 : Below w.heap.size w ((w.alloc (.cells #[.int .i64 tg, .slice at_ lt ct, .slice av ll cv'] 25)).alloc (.cells o.cells 42)) := by go_grown
  have X0a : Blk w (w.alloc (.cells #[.int .i64 tg, .slice at_ lt ct, .slice av ll cv'] 25)) w.heap.size 25 #[.int .i64 tg, .slice at_ lt ct, .slice av ll cv'] := Blk.new (Nat.le_refl _) _ (by decide)
  have X0 := X0a.below ((Below.refl _ _).alloc (Nat.le_refl _) (.cells o.cells 42))
  have C0 : Blk w ((w.alloc (.cells #[.int .i64 tg, .slice at_ lt ct, .slice av ll cv'] 25)).alloc (.cells o.cells 42)) (w.heap.size + 1) 42 o.cells := (by have q := Blk.new (w0 := w) (w := w.alloc (.cells #[.int .i64 tg, .slice at_ lt ct, .slice av ll cv'] 25)) (T := 42) (by simp) o.cells (by decide); simpa using q)
  go_enter Tryz.func8, Tryz.ntmps8
  unfold Op15.cells
  go_upto_region 1 with (fail)
  obtain ⟨ob, hob⟩ : ∃ q, w.heap.size = q := ⟨_, rfl⟩
  obtain ⟨pb, hpb⟩ : ∃ q, ob + 1 = q := ⟨_, rfl⟩
  have hnp : ob ≠ pb := by omega
  rw [hob] at C0 X0 ⊢
  rw [hpb] at C0 ⊢
  unfold Op15.cells at C0 X0 a0
  generalize hwx : (w.alloc _).alloc _ = wa at a0 X0 C0 ⊢
  clear hwx hpb X0a
  have hol : w.heap.size ≤ ob := by omega
  clear hob
  have La : Laid wa := ⟨W.on a0, Bw.on a0⟩
  go_upto_region 2 with (go_at_call 9; refine (cShown _ La).mono ?_; rintro e w1 ⟨rfl, hb1⟩; have X1 := X0.below hb1; have b1 := a0.trans (hb1.mono a0.size); have C1 := C0.below hb1)
  have x0 : w1.cell? ⟨ob, 0, none⟩ = some (.int .i64 tg) := X1.cell 0
  have x0f := X1.free 0
  have x0l := X1.lt
  go_upto_region 3 with (fail)
  have X2 : Blk w (w1.setCell ⟨ob, 0, none⟩ (.int .i64 3)) ob 25 #[.int .i64 3, .slice at_ lt ct, .slice av ll cv'] := X1.set 0 _
  have b2 : Below w.heap.size w (w1.setCell ⟨ob, 0, none⟩ (.int .i64 3)) := b1.setCell hol _
  have K2 : Kept [ob] w1 (w1.setCell ⟨ob, 0, none⟩ (.int .i64 3)) := Kept.setCell [ob] _ _ _ (by simp)
  have C2 := C1.oth (Oth.kept K2) (by simpa using Ne.symm hnp)
  generalize w1.setCell ⟨ob, 0, none⟩ (.int .i64 3) = w2 at X2 b2 C2 K2 ⊢
  clear x0 x0f x0l X1 X0 K2 b1 a0 hb1 La C1 C0
  have W2 := W.on b2
  have B2 := Bw.on b2
  have cv2 : CameV w2 av ll zl := cv.on b2
  have ci2 := ci.on b2
  have g0 : w2.cell? ⟨ob, 0, none⟩ = some (.int .i64 3) := X2.cell 0
  have g1 : w2.cell? ⟨ob, 1, none⟩ = some (.slice at_ lt ct) := X2.cell 1
  have g2 : w2.cell? ⟨ob, 2, none⟩ = some (.slice av ll cv') := X2.cell 2
  have gl_ := X2.lt
  obtain ⟨old, hold⟩ : ∃ q, fldP ll zl = q := ⟨_, rfl⟩
  obtain ⟨stt, hstt⟩ : ∃ q, stP lt zt = q := ⟨_, rfl⟩
  have go : ∀ k, (old k).Good := fun k => hold ▸ good_fld _ _ k
  have gs : ∀ k, 0 ≤ stt k ∧ stt k < 5 := fun k => hstt ▸ st_rng _ _ k
  go_upto_region 4 with (go_at_call 10; refine (cLaid w2 W2 ci2 cv2 (by decide) (by decide)).mono ?_; rintro e w3 ⟨b, y, s, s2, rfl, h3, ews, M⟩; rw [show kd 3 6 = 3 by decide, hold, hstt] at M; have O := ob_gl M go gs; have X3 := X2.below h3.bel; have C3 := C2.below h3.bel)
  clear g0 g1 g2 gl_
  have hSl : s.ws.length = 160 := M.len
  have hSR : s.Rng := h3.rng1
  obtain ⟨lo, hlo⟩ : ∃ t, decide (md < 7) = t := ⟨_, rfl⟩
  obtain ⟨q, hq⟩ : ∃ q : Wq, q = ⟨rqU f v, lo, false⟩ := ⟨_, rfl⟩
  have okq : (Cw.hd q).Ok := hq ▸ ⟨.inr (.inl rfl), by simp [rqU], by simp [rqU], by simp [rqU], by simp only [rqU]; omega⟩
  have enew : Cw.new (rqU f v) ⟨md, 0, 0⟩ = (Cw.hd q) := by rw [hq]; unfold Cw.new; rw [if_neg (by simp [rqU]), if_neg (by simp only; omega), hlo, show (md == 8) = false by simp; omega]
  have X4 := X3
  obtain ⟨fw, hfw⟩ : ∃ z, gl 3 old stt (1 + f) = z := ⟨_, rfl⟩
  obtain ⟨sw, hsw⟩ : ∃ z, gl 3 old stt (10 + 2 * f) = z := ⟨_, rfl⟩
  obtain ⟨z, hz⟩ : ∃ z, F.Plain.froz fw = z := ⟨_, rfl⟩
  have hst := O.st hf3
  rw [hsw] at hst
  have Wr := write_runs hf3 O v lo
  rw [hfw, hsw, hz] at Wr
  obtain ⟨d, s', hd, E, hEnd⟩ := Wr
  rw [← hq] at E
  obtain ⟨bt, ot, hwr⟩ : ∃ bt ot, Cw.wrote q = .fin bt ot := ⟨_, _, rfl⟩
  rw [hwr] at E
  have hEndH : Hid (lo = true ∧ z = false ∧ EndO f v s' ∨ (lo = false ∨ z = true) ∧ (sw = 3 ∨ sw = 2 ∨ lo = false) ∧ EndF f v s' ∨ z = true ∧ sw ≠ 3 ∧ sw ≠ 2 ∧ lo = true ∧ EndP f v s') := hEnd
  clear hEnd hwr
  have c1 : w3.cell? ⟨pb, 1, none⟩ = some (.int .i64 o.fd) := C3.cell 1
  have c3 : w3.cell? ⟨pb, 3, none⟩ = some (.int .i64 o.md) := C3.cell 3
  have c6 : w3.cell? ⟨pb, 6, none⟩ = some (.int .i64 o.y.k) := C3.cell 6
  have c7 : w3.cell? ⟨pb, 7, none⟩ = some (.int .i64 o.y.n) := C3.cell 7
  have cl := C3.lt
  have fl : w3.cell? ⟨pb, 1, none⟩ = some (.int .i64 o.fd) := c1
  go_upto_region 5 with (go_at_call 11; refine (cKind _ o.fd 3 fit.fd.1 fit.fd.2 (by decide)).mono ?_; rintro e wk ⟨rfl, hwk⟩; rw [hwk, hf]; clear hwk wk)
  go_upto_region 6 with (go_at_call 11; refine (cKind _ o.md 3 fit.md.1 fit.md.2 (by decide)).mono ?_; rintro e wk ⟨rfl, hwk⟩; rw [hwk, hmk]; clear hwk wk)
  go_upto_region 7 with (go_at_call 28; refine (cVal o.y fit.y _).mono ?_; rintro e w4 ⟨rfl, hb4⟩; rw [hv]; have h4 := h3.below hb4; clear hb4)
  have B5b : Below w4.heap.size w4 (w4.alloc (.cells #[.int .i64 v.k, .int .i64 v.n] 38)) := (Below.refl _ _).alloc (Nat.le_refl _) _
  have B5 : Blk w2 (w4.alloc (.cells #[.int .i64 v.k, .int .i64 v.n] 38)) w4.heap.size 38 #[.int .i64 v.k, .int .i64 v.n] := Blk.new h4.bel.size _ (by decide)
  have h5 := h4.below B5b
  generalize w4.alloc (.cells #[.int .i64 v.k, .int .i64 v.n] 38) = w5 at B5 h5 ⊢
  generalize w4.heap.size = vb at B5 ⊢
  clear B5b
  clear c1 c3 c6 c7 cl fl h3 h4 C3 X3 X4
  have v0 : w5.cell? ⟨vb, 0, none⟩ = some (.int .i64 v.k) := B5.cell 0
  have v1 : w5.cell? ⟨vb, 1, none⟩ = some (.int .i64 v.n) := B5.cell 1
  have vl := B5.lt
  go_upto_region 8 with (go_at_call 15; refine (cNewC (rqU f v) ⟨md, 0, 0⟩ _).mono ?_; rintro e w6 ⟨p, rfl, Mp⟩; rw [enew] at Mp; have h6 := h5.below Mp.bel; have m6 : Cm w2 w6 p (Cw.hd q) := Mp.cm h5.bel.size okq B2; have B6 := B5.below Mp.bel; clear Mp)
  clear v0 v1 vl h5 B5
  go_wp2_with (fail)
  go_loopw [12, 13] (fun dn i wr => ∃ j : Nat, j ≤ d ∧ i = .int .i64 j ∧ dn = .bool (runC (Cw.hd q) s j).1.done ∧ Two w2 wr b y (runC (Cw.hd q) s j).2 s2 (50 + j) ∧ Cm w2 wr p (runC (Cw.hd q) s j).1 ∧ Blk w2 wr vb 38 #[.int .i64 v.k, .int .i64 v.n]) (fun _ i _ => 30 - (intOf i).toNat)
  case atStart => exact ⟨0, Nat.zero_le _, rfl, rfl, h6, m6, B6⟩
  case round =>
    clear h6 m6 B6
    obtain ⟨j, hj, rfl, rfl, k1, k2, k3⟩ := hrel
    rcases Nat.lt_or_ge j d with hjd | hjd
    · have hdn : (runC (Cw.hd q) s j).1.done = false := E.not j hjd
      have hji : (j : Int) < 30 := by omega
      obtain ⟨XX, hX⟩ : ∃ X, (runC (Cw.hd q) s j).1 = X := ⟨_, rfl⟩
      obtain ⟨SX, hSX⟩ : ∃ X, (runC (Cw.hd q) s j).2 = X := ⟨_, rfl⟩
      rw [hX] at k2 hdn
      rw [hSX] at k1
      rw [hX, hdn]
      obtain ⟨cx, Bx'⟩ := k2.blk
      go_wp2_with (go_at_call 19; refine (tC k1 k2 (by omega)).mono ?_; rintro e w20 ⟨rfl, k4, k5, o6⟩; have k6 := k3.oth o6 (by simpa using k3.ne Bx' (by decide)))
      go_roundw
      case rel => exact ⟨j + 1, by omega, by go_num, by simp only [runC, hX, hSX], by simp only [runC, hX, hSX]; exact k4, by simp only [runC, hX, hSX]; exact k5, k6⟩
      case measure => simp [intOf]; omega
    · obtain rfl : j = d := by omega
      have hdn : (runC (Cw.hd q) s j).1.done = true := by rw [E.at_]; rfl
      rw [hdn]
      rw [E.at_] at k1 k2
      simp only at k1 k2
      have hji : (j : Int) < 30 := by omega
      have hRl : s'.ws.length = 160 := by have := (runC_ok okq hSR j).2.2; rw [E.at_] at this; exact this.trans hSl
      have hSl2 : s2.ws.length = 160 := by rw [← ews]; exact hSl
      obtain ⟨ia, hia⟩ : ∃ z : Nat, 106 + 2 * f = z := ⟨_, rfl⟩
      obtain ⟨ib, hib⟩ : ∃ z : Nat, 97 + f = z := ⟨_, rfl⟩
      have ea : s2.word ((ia : Nat) : Int) = sw := by
        have : s.word (106 + 2 * (f : Int)) = gl 3 old stt (10 + 2 * f) := by rw [eP]; exact M.at_ (10 + 2 * f) (by omega)
        rw [show ((ia : Nat) : Int) = 106 + 2 * (f : Int) by omega, ← hsw, ← this]
        simp only [St.word, ews]
      have eb : s2.word ((ib : Nat) : Int) = fw := by
        have : s.word (97 + (f : Int)) = gl 3 old stt (1 + f) := by rw [eO]; exact M.at_ (1 + f) (by omega)
        rw [show ((ib : Nat) : Int) = 97 + (f : Int) by omega, ← hfw, ← this]
        simp only [St.word, ews]
      have uF : U64 fw := by rw [← eb]; exact k1.rng2.word _
      have uS : U64 sw := by rw [← ea]; exact k1.rng2.word _
      obtain ⟨vw, hvw⟩ : ∃ z, v.w = z := ⟨_, rfl⟩
      have hvw' : F.Plain.word v.k v.n = vw := hvw
      have i0 : IntKind.i64.wrap (2 * (f : Int)) = 2 * (f : Int) := by rw [IntKind.wrap_i64]; omega
      have i1 : IntKind.i64.wrap (106 + 2 * (f : Int)) = 106 + 2 * (f : Int) := by rw [IntKind.wrap_i64]; omega
      have i2 : IntKind.i64.wrap (97 + (f : Int)) = 97 + (f : Int) := by rw [IntKind.wrap_i64]; omega
      have i3 : IntKind.i64.wrap (113 + (f : Int)) = 113 + (f : Int) := by rw [IntKind.wrap_i64]; omega
      have i4 : IntKind.i64.wrap (107 + 2 * (f : Int)) = 107 + 2 * (f : Int) := by rw [IntKind.wrap_i64]; omega
      have n1 : (106 + 2 * (f : Int)).toNat = ia := by omega
      have n2 : (97 + (f : Int)).toNat = ib := by omega
      have la1 : 106 + 2 * (f : Int) < 160 := by omega
      have la2 : 97 + (f : Int) < 160 := by omega
      have hE := hEndH.out
      have qvw : (vw == vw) = true := by simp
      rcases hE with ⟨hl, hzz, E1, E2⟩ | ⟨h1, h2, E1, E2⟩ | ⟨hzz, h2, h3, hl, E1, E2⟩
      · have hmd7 : md < 7 := by rw [hl] at hlo; simpa using hlo
        have hz := hz.trans hzz
        have r1 : s'.got (106 + 2 * (f : Int)) = 0 := by rw [(show In (106 + 2 * (f : Int)) from ⟨by omega, by omega⟩).got hRl]; exact E1
        have r2 : (s'.load (106 + 2 * (f : Int))).got (97 + (f : Int)) = vw := by rw [(show In (97 + (f : Int)) from ⟨by omega, by omega⟩).got (by exact hRl), ← hvw]; exact E2
        go_upto_region 16 with (go_at_call 34; refine (tLoad k1 (by omega) (106 + 2 * (f : Int))).mono ?_; rintro e w21 ⟨rfl, k4, o4⟩; rw [r1]; have k5 := k3.oth o4 (by simp))
        obtain ⟨g, cp, seen⟩ := Two.seen k4
        have sc0 := seen.c0
        rw [hSl2] at sc0
        have sly := seen.ly
        have slg := seen.lg
        have sca := seen.at hSl2 ia (by omega)
        have scb := seen.at hSl2 ib (by omega)
        rw [ea] at sca
        rw [eb] at scb
        have v0 : w21.cell? ⟨vb, 0, none⟩ = some (.int .i64 v.k) := k5.cell 0
        have v1 : w21.cell? ⟨vb, 1, none⟩ = some (.int .i64 v.n) := k5.cell 1
        have vl := k5.lt
        go_upto_region 19 with (first
          | (go_at_call 35; refine (F.rFrozen fw uF.1 uF.2 _).mono ?_; rintro e wz ⟨rfl, hwz⟩; rw [hwz, hz]; clear hwz wz)
          | (go_at_call 36; refine (F.rWord v.k v.n _).mono ?_; rintro e w22 ⟨rfl, m22, hw22⟩; rw [hvw']; have hb22 : Below w21.heap.size w21 w22 := (by rw [hw22]; exact F.bdr ((Below.refl _ _).alloc (Nat.le_refl _) _) _); have k6 := k4.below hb22; clear hw22 hb22))
        go_wp2_with (go_at_call 34; refine (tLoad k6 (by omega) (97 + (f : Int))).mono ?_; rintro e w23 ⟨rfl, k7, o7⟩; rw [r2])
        go_ret
        exact ⟨rfl, b2.trans (k7.bel.mono b2.size)⟩
      · have F1 := E1
        rcases hlb : lo with _ | _
        · have hmd7 : ¬ md < 7 := by rw [hlb] at hlo; simpa using hlo
          have b7 : (md == 7) = true := by simp; omega
          rcases b3 : (sw == 3) with _ | _
          · rcases bw2 : (sw == 2) with _ | _
            have r1 : s'.got (106 + 2 * (f : Int)) = 3 := by rw [(show In (106 + 2 * (f : Int)) from ⟨by omega, by omega⟩).got hRl]; exact E1
            have r2 : (s'.load (106 + 2 * (f : Int))).got (113 + (f : Int)) = vw := by rw [(show In (113 + (f : Int)) from ⟨by omega, by omega⟩).got (by exact hRl), ← hvw]; exact E2
            go_upto_region 16 with (go_at_call 34; refine (tLoad k1 (by omega) (106 + 2 * (f : Int))).mono ?_; rintro e w21 ⟨rfl, k4, o4⟩; rw [r1]; have k5 := k3.oth o4 (by simp))
            obtain ⟨g, cp, seen⟩ := Two.seen k4
            have sc0 := seen.c0
            rw [hSl2] at sc0
            have sly := seen.ly
            have slg := seen.lg
            have sca := seen.at hSl2 ia (by omega)
            have scb := seen.at hSl2 ib (by omega)
            rw [ea] at sca
            rw [eb] at scb
            have v0 : w21.cell? ⟨vb, 0, none⟩ = some (.int .i64 v.k) := k5.cell 0
            have v1 : w21.cell? ⟨vb, 1, none⟩ = some (.int .i64 v.n) := k5.cell 1
            have vl := k5.lt
            go_upto_region 19 with (first
              | (go_at_call 35; refine (F.rFrozen fw uF.1 uF.2 _).mono ?_; rintro e wz ⟨rfl, hwz⟩; rw [hwz, hz]; clear hwz wz)
              | (go_at_call 36; refine (F.rWord v.k v.n _).mono ?_; rintro e w22 ⟨rfl, m22, hw22⟩; rw [hvw']; have hb22 : Below w21.heap.size w21 w22 := (by rw [hw22]; exact F.bdr ((Below.refl _ _).alloc (Nat.le_refl _) _) _); have k6 := k4.below hb22; clear hw22 hb22))
            go_wp2_with (go_at_call 34; refine (tLoad k6 (by omega) (113 + (f : Int))).mono ?_; rintro e w23 ⟨rfl, k7, o7⟩; rw [r2])
            go_ret
            exact ⟨rfl, b2.trans (k7.bel.mono b2.size)⟩
            · have r1 : s'.got (106 + 2 * (f : Int)) = 3 := by rw [(show In (106 + 2 * (f : Int)) from ⟨by omega, by omega⟩).got hRl]; exact E1
              have r2 : (s'.load (106 + 2 * (f : Int))).got (113 + (f : Int)) = vw := by rw [(show In (113 + (f : Int)) from ⟨by omega, by omega⟩).got (by exact hRl), ← hvw]; exact E2
              go_upto_region 16 with (go_at_call 34; refine (tLoad k1 (by omega) (106 + 2 * (f : Int))).mono ?_; rintro e w21 ⟨rfl, k4, o4⟩; rw [r1]; have k5 := k3.oth o4 (by simp))
              obtain ⟨g, cp, seen⟩ := Two.seen k4
              have sc0 := seen.c0
              rw [hSl2] at sc0
              have sly := seen.ly
              have slg := seen.lg
              have sca := seen.at hSl2 ia (by omega)
              have scb := seen.at hSl2 ib (by omega)
              rw [ea] at sca
              rw [eb] at scb
              have v0 : w21.cell? ⟨vb, 0, none⟩ = some (.int .i64 v.k) := k5.cell 0
              have v1 : w21.cell? ⟨vb, 1, none⟩ = some (.int .i64 v.n) := k5.cell 1
              have vl := k5.lt
              go_upto_region 19 with (first
                | (go_at_call 35; refine (F.rFrozen fw uF.1 uF.2 _).mono ?_; rintro e wz ⟨rfl, hwz⟩; rw [hwz, hz]; clear hwz wz)
                | (go_at_call 36; refine (F.rWord v.k v.n _).mono ?_; rintro e w22 ⟨rfl, m22, hw22⟩; rw [hvw']; have hb22 : Below w21.heap.size w21 w22 := (by rw [hw22]; exact F.bdr ((Below.refl _ _).alloc (Nat.le_refl _) _) _); have k6 := k4.below hb22; clear hw22 hb22))
              go_wp2_with (go_at_call 34; refine (tLoad k6 (by omega) (113 + (f : Int))).mono ?_; rintro e w23 ⟨rfl, k7, o7⟩; rw [r2])
              go_ret
              exact ⟨rfl, b2.trans (k7.bel.mono b2.size)⟩
          · have r1 : s'.got (106 + 2 * (f : Int)) = 3 := by rw [(show In (106 + 2 * (f : Int)) from ⟨by omega, by omega⟩).got hRl]; exact E1
            have r2 : (s'.load (106 + 2 * (f : Int))).got (113 + (f : Int)) = vw := by rw [(show In (113 + (f : Int)) from ⟨by omega, by omega⟩).got (by exact hRl), ← hvw]; exact E2
            go_upto_region 16 with (go_at_call 34; refine (tLoad k1 (by omega) (106 + 2 * (f : Int))).mono ?_; rintro e w21 ⟨rfl, k4, o4⟩; rw [r1]; have k5 := k3.oth o4 (by simp))
            obtain ⟨g, cp, seen⟩ := Two.seen k4
            have sc0 := seen.c0
            rw [hSl2] at sc0
            have sly := seen.ly
            have slg := seen.lg
            have sca := seen.at hSl2 ia (by omega)
            have scb := seen.at hSl2 ib (by omega)
            rw [ea] at sca
            rw [eb] at scb
            have v0 : w21.cell? ⟨vb, 0, none⟩ = some (.int .i64 v.k) := k5.cell 0
            have v1 : w21.cell? ⟨vb, 1, none⟩ = some (.int .i64 v.n) := k5.cell 1
            have vl := k5.lt
            go_upto_region 19 with (first
              | (go_at_call 35; refine (F.rFrozen fw uF.1 uF.2 _).mono ?_; rintro e wz ⟨rfl, hwz⟩; rw [hwz, hz]; clear hwz wz)
              | (go_at_call 36; refine (F.rWord v.k v.n _).mono ?_; rintro e w22 ⟨rfl, m22, hw22⟩; rw [hvw']; have hb22 : Below w21.heap.size w21 w22 := (by rw [hw22]; exact F.bdr ((Below.refl _ _).alloc (Nat.le_refl _) _) _); have k6 := k4.below hb22; clear hw22 hb22))
            go_wp2_with (go_at_call 34; refine (tLoad k6 (by omega) (113 + (f : Int))).mono ?_; rintro e w23 ⟨rfl, k7, o7⟩; rw [r2])
            go_ret
            exact ⟨rfl, b2.trans (k7.bel.mono b2.size)⟩
        · have hmd7 : md < 7 := by rw [hlb] at hlo; simpa using hlo
          have hzz : z = true := h1.resolve_left (by rw [hlb]; decide)
          have hz := hz.trans hzz
          rcases b3 : (sw == 3) with _ | _
          · have bw2 : (sw == 2) = true := by
              rcases h2 with h | h | h
              · rw [h] at b3; simp at b3
              · rw [h]; rfl
              · rw [hlb] at h; cases h
            have r1 : s'.got (106 + 2 * (f : Int)) = 3 := by rw [(show In (106 + 2 * (f : Int)) from ⟨by omega, by omega⟩).got hRl]; exact E1
            have r2 : (s'.load (106 + 2 * (f : Int))).got (113 + (f : Int)) = vw := by rw [(show In (113 + (f : Int)) from ⟨by omega, by omega⟩).got (by exact hRl), ← hvw]; exact E2
            go_upto_region 16 with (go_at_call 34; refine (tLoad k1 (by omega) (106 + 2 * (f : Int))).mono ?_; rintro e w21 ⟨rfl, k4, o4⟩; rw [r1]; have k5 := k3.oth o4 (by simp))
            obtain ⟨g, cp, seen⟩ := Two.seen k4
            have sc0 := seen.c0
            rw [hSl2] at sc0
            have sly := seen.ly
            have slg := seen.lg
            have sca := seen.at hSl2 ia (by omega)
            have scb := seen.at hSl2 ib (by omega)
            rw [ea] at sca
            rw [eb] at scb
            have v0 : w21.cell? ⟨vb, 0, none⟩ = some (.int .i64 v.k) := k5.cell 0
            have v1 : w21.cell? ⟨vb, 1, none⟩ = some (.int .i64 v.n) := k5.cell 1
            have vl := k5.lt
            go_upto_region 19 with (first
              | (go_at_call 35; refine (F.rFrozen fw uF.1 uF.2 _).mono ?_; rintro e wz ⟨rfl, hwz⟩; rw [hwz, hz]; clear hwz wz)
              | (go_at_call 36; refine (F.rWord v.k v.n _).mono ?_; rintro e w22 ⟨rfl, m22, hw22⟩; rw [hvw']; have hb22 : Below w21.heap.size w21 w22 := (by rw [hw22]; exact F.bdr ((Below.refl _ _).alloc (Nat.le_refl _) _) _); have k6 := k4.below hb22; clear hw22 hb22))
            go_wp2_with (go_at_call 34; refine (tLoad k6 (by omega) (113 + (f : Int))).mono ?_; rintro e w23 ⟨rfl, k7, o7⟩; rw [r2])
            go_ret
            exact ⟨rfl, b2.trans (k7.bel.mono b2.size)⟩
          · have r1 : s'.got (106 + 2 * (f : Int)) = 3 := by rw [(show In (106 + 2 * (f : Int)) from ⟨by omega, by omega⟩).got hRl]; exact E1
            have r2 : (s'.load (106 + 2 * (f : Int))).got (113 + (f : Int)) = vw := by rw [(show In (113 + (f : Int)) from ⟨by omega, by omega⟩).got (by exact hRl), ← hvw]; exact E2
            go_upto_region 16 with (go_at_call 34; refine (tLoad k1 (by omega) (106 + 2 * (f : Int))).mono ?_; rintro e w21 ⟨rfl, k4, o4⟩; rw [r1]; have k5 := k3.oth o4 (by simp))
            obtain ⟨g, cp, seen⟩ := Two.seen k4
            have sc0 := seen.c0
            rw [hSl2] at sc0
            have sly := seen.ly
            have slg := seen.lg
            have sca := seen.at hSl2 ia (by omega)
            have scb := seen.at hSl2 ib (by omega)
            rw [ea] at sca
            rw [eb] at scb
            have v0 : w21.cell? ⟨vb, 0, none⟩ = some (.int .i64 v.k) := k5.cell 0
            have v1 : w21.cell? ⟨vb, 1, none⟩ = some (.int .i64 v.n) := k5.cell 1
            have vl := k5.lt
            go_upto_region 19 with (first
              | (go_at_call 35; refine (F.rFrozen fw uF.1 uF.2 _).mono ?_; rintro e wz ⟨rfl, hwz⟩; rw [hwz, hz]; clear hwz wz)
              | (go_at_call 36; refine (F.rWord v.k v.n _).mono ?_; rintro e w22 ⟨rfl, m22, hw22⟩; rw [hvw']; have hb22 : Below w21.heap.size w21 w22 := (by rw [hw22]; exact F.bdr ((Below.refl _ _).alloc (Nat.le_refl _) _) _); have k6 := k4.below hb22; clear hw22 hb22))
            go_wp2_with (go_at_call 34; refine (tLoad k6 (by omega) (113 + (f : Int))).mono ?_; rintro e w23 ⟨rfl, k7, o7⟩; rw [r2])
            go_ret
            exact ⟨rfl, b2.trans (k7.bel.mono b2.size)⟩
      · have hmd7 : md < 7 := by rw [hl] at hlo; simpa using hlo
        have hz := hz.trans hzz
        have b3 : (sw == 3) = false := by simpa using h2
        have bw2 : (sw == 2) = false := by simpa using h3
        have b7 : (md == 7) = false := by simp; omega
        have r1 : s'.got (106 + 2 * (f : Int)) = 1 := by rw [(show In (106 + 2 * (f : Int)) from ⟨by omega, by omega⟩).got hRl]; exact E1
        have r2 : (s'.load (106 + 2 * (f : Int))).got (107 + 2 * (f : Int)) = vw := by rw [(show In (107 + 2 * (f : Int)) from ⟨by omega, by omega⟩).got (by exact hRl), ← hvw]; exact E2
        go_upto_region 16 with (go_at_call 34; refine (tLoad k1 (by omega) (106 + 2 * (f : Int))).mono ?_; rintro e w21 ⟨rfl, k4, o4⟩; rw [r1]; have k5 := k3.oth o4 (by simp))
        obtain ⟨g, cp, seen⟩ := Two.seen k4
        have sc0 := seen.c0
        rw [hSl2] at sc0
        have sly := seen.ly
        have slg := seen.lg
        have sca := seen.at hSl2 ia (by omega)
        have scb := seen.at hSl2 ib (by omega)
        rw [ea] at sca
        rw [eb] at scb
        have v0 : w21.cell? ⟨vb, 0, none⟩ = some (.int .i64 v.k) := k5.cell 0
        have v1 : w21.cell? ⟨vb, 1, none⟩ = some (.int .i64 v.n) := k5.cell 1
        have vl := k5.lt
        go_upto_region 19 with (first
          | (go_at_call 35; refine (F.rFrozen fw uF.1 uF.2 _).mono ?_; rintro e wz ⟨rfl, hwz⟩; rw [hwz, hz]; clear hwz wz)
          | (go_at_call 36; refine (F.rWord v.k v.n _).mono ?_; rintro e w22 ⟨rfl, m22, hw22⟩; rw [hvw']; have hb22 : Below w21.heap.size w21 w22 := (by rw [hw22]; exact F.bdr ((Below.refl _ _).alloc (Nat.le_refl _) _) _); have k6 := k4.below hb22; clear hw22 hb22))
        go_wp2_with (go_at_call 34; refine (tLoad k6 (by omega) (107 + 2 * (f : Int))).mono ?_; rintro e w23 ⟨rfl, k7, o7⟩; rw [r2])
        go_ret
        exact ⟨rfl, b2.trans (k7.bel.mono b2.size)⟩
end Go.Proofs.YtpcoldpphihfmaaGreatDoor
