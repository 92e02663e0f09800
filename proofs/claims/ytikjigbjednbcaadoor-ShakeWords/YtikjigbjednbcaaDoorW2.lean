/-
  The walk of ShakeWords.
-/
import Derived.Test.YtikjigbjednbcaaDoorKz
import Derived.Deep.Cut
import Derived.Deep.RegionHeld3
namespace Go.Proofs.YtikjigbjednbcaaDoor
set_option linter.unusedVariables false
set_option linter.unusedSimpArgs false
set_option maxRecDepth 100000
open Go.ChangeShapes Go.WideShapes Go.RowKit
open S.Plain (t0 t1 tw nx p0 p1 p2 p3 pw)
open H.Plain (hw pS pC pN pM pG pT pL)

set_option maxHeartbeats 8000000 in
theorem wShakeWords (mode : Int) (ao : Option Addr) (len cap : Nat) (z : Nat → Int) (th : Int) (m0 : -9223372036854775808 ≤ mode) (m1 : mode ≤ 9223372036854775807) (t0 : -9223372036854775808 ≤ th) (t1 : th ≤ 9223372036854775807) (w : World) (W : H.Wid w) (ci : CameI w ao len z) :
    Calls Tryd.prog 7 #[.int .i64 mode, .slice ao len cap, .int .i64 th] w fun e w' => e = .returned (.bool true) ∧ Below w.heap.size w w' := by
  obtain ⟨n, hn⟩ : ∃ n, someN len = n := ⟨_, rfl⟩
  obtain ⟨l, hl⟩ : ∃ l, someL len z = l := ⟨_, rfl⟩
  have hn8 : n ≤ 8 := hn ▸ someN_le len
  obtain ⟨S, hS⟩ : ∃ S, laidS (tagP 0 (fun _ => 0)) (kd 5 1000) = S := ⟨_, rfl⟩
  have hSl : S.ws.length = 160 := by rw [← hS]; exact laid_len _ _
  have hS9 : S.got 9 = 5 := by rw [← hS]; decide +kernel
  have hSa : S.got 10 = 0 ∧ S.got 11 = 0 ∧ S.got 12 = 0 := by rw [← hS]; decide +kernel
  obtain ⟨km, hkm⟩ : ∃ km, kd mode 9 = km := ⟨_, rfl⟩
  have hkb : 0 ≤ km ∧ km < 9 := hkm ▸ kd_lt mode 9 (by decide)
  obtain ⟨t, htd, ht3⟩ : ∃ t : Nat, kd th 3 = (t : Int) ∧ t < 3 := ⟨(kd th 3).toNat, by have := kd_lt th 3 (by decide); omega, by have := kd_lt th 3 (by decide); omega⟩
  have hti : (0 : Int) ≤ (t : Int) ∧ (t : Int) ≤ 1000 := by omega
  by_cases hk2 : km = 2
  · have hk2' : (km == 2) = true := by simp [hk2]
    go_enter Tryd.func7, Tryd.ntmps7
    go_upto_region 2 with (go_at_call 8; refine (cShown _ W).mono ?_; rintro e w1 ⟨rfl, hb1⟩)
    go_upto_region 3 with (go_at_call 9; refine (cLaid _ (W.on hb1) (lt := 0) (zt := fun _ => 0) (.inl rfl) (by decide) (by decide)).mono ?_; rintro e w2 ⟨b, y, rfl, h2⟩; have T2 := h2.lift hb1 W; rw [hS] at T2; clear h2)
    clear hb1
    go_upto_region 4 with (go_at_call 10; refine (cPlan34 _).mono ?_; rintro e v0 ⟨rfl, hv0⟩)
    have hvp : Below w2.heap.size w2 (v0.alloc (.cells #[.int .i64 3, .int .i64 4, .int .i64 13, .int .i64 32, .int .i64 160] 32)) := hv0.alloc hv0.size _
    have Tp := T2.below hvp
    have Bp : Blk w (v0.alloc (.cells #[.int .i64 3, .int .i64 4, .int .i64 13, .int .i64 32, .int .i64 160] 32)) v0.heap.size 32 planC := Blk.new (Nat.le_trans T2.bel.size hv0.size) _ (by decide)
    clear hvp
    generalize v0.alloc (.cells #[.int .i64 3, .int .i64 4, .int .i64 13, .int .i64 32, .int .i64 160] 32) = wp at Tp Bp ⊢
    generalize v0.heap.size = qp at Bp ⊢
    clear hv0 T2
    go_upto_region 7 with (go_at_call 14; refine (cKind _ mode 9 m0 m1 (by decide)).mono ?_; rintro e wk ⟨rfl, hwk⟩; rw [hwk, hkm]; clear hwk wk)
    have Tq := Tp.alloc (.cells #[.int .i64 3, .int .i64 3, .int .i64 1, .int .i64 0] 37)
    have Bp' := Bp.below ((Below.refl wp.heap.size wp).alloc (Nat.le_refl _) (.cells #[.int .i64 3, .int .i64 3, .int .i64 1, .int .i64 0] 37))
    have Bq : Blk w (wp.alloc (.cells #[.int .i64 3, .int .i64 3, .int .i64 1, .int .i64 0] 37)) wp.heap.size 37 #[.int .i64 3, .int .i64 3, .int .i64 1, .int .i64 0] := Blk.new Tp.bel.size _ (by decide)
    generalize wp.alloc (.cells #[.int .i64 3, .int .i64 3, .int .i64 1, .int .i64 0] 37) = wq at Tq Bp' Bq ⊢
    generalize wp.heap.size = qq at Bq ⊢
    clear Tp Bp
    obtain ⟨q, hq⟩ : ∃ q : Ph, q = ⟨3, 3, 1, 0⟩ := ⟨_, rfl⟩
    have hqw : Ph.of q.w = q := of_w q (by rw [hq]; simp) (by rw [hq]; simp) (by rw [hq]; simp) (by rw [hq]; simp)
    have hq3 : q.no = 3 := by rw [hq]
    have hq0 : q.no ≠ 0 := by rw [hq]; simp
    have hq2 : q.md ≠ 2 := by rw [hq]; simp
    have hu3 : IntKind.u64.wrap q.no = 3 := by rw [hq3]; decide
    have Bq' : Blk w wq qq 37 q.cells := by rw [hq]; exact Bq
    clear Bq hkm hk2 hk2' hq3
    clear hq
    have x0 : wq.cell? ⟨qp, 0, none⟩ = some (.int .i64 3) := Bp'.cell 0
    have x1 : wq.cell? ⟨qp, 1, none⟩ = some (.int .i64 4) := Bp'.cell 1
    have x2 : wq.cell? ⟨qp, 2, none⟩ = some (.int .i64 13) := Bp'.cell 2
    have x3 : wq.cell? ⟨qp, 3, none⟩ = some (.int .i64 32) := Bp'.cell 3
    have x4 : wq.cell? ⟨qp, 4, none⟩ = some (.int .i64 160) := Bp'.cell 4
    have xl := Bp'.lt
    have y0 : wq.cell? ⟨qq, 0, none⟩ = some (.int .i64 q.no) := Bq'.cell 0
    have y1 : wq.cell? ⟨qq, 1, none⟩ = some (.int .i64 q.md) := Bq'.cell 1
    have y2 : wq.cell? ⟨qq, 2, none⟩ = some (.int .i64 q.mr) := Bq'.cell 2
    have y3 : wq.cell? ⟨qq, 3, none⟩ = some (.int .i64 q.ls) := Bq'.cell 3
    have yl := Bq'.lt
    go_upto_region 9 with (first
      | (go_at_call 14; refine (cKind _ th 3 t0 t1 (by decide)).mono ?_; rintro e wk ⟨rfl, hwk⟩; rw [hwk, htd]; clear hwk wk)
      | (go_at_call 12; refine (nAsk (w0 := w) U34 q 3 Tq.bel.size).mono ?_; rintro e w3 ⟨za, rfl, MA, hb3, hz3⟩))
    have L3 : Lw false w w3 b y 34 S S qp qq za q (AskS.new q 3) := ⟨Tq.below hb3, Bp'.below hb3, Bq'.below hb3, MA⟩
    clear x0 x1 x2 x3 x4 xl
    clear y0 y1 y2 y3 yl
    clear Tq Bp' Bq' MA hb3 hz3
    have keep : ∀ w', Below w3.heap.size w3 w' → w'.cell? ⟨qp, 0, none⟩ = some (.int .i64 3) ∧ w'.cell? ⟨qp, 1, none⟩ = some (.int .i64 4) ∧ w'.cell? ⟨qp, 2, none⟩ = some (.int .i64 13) ∧ w'.cell? ⟨qp, 3, none⟩ = some (.int .i64 32) ∧ w'.cell? ⟨qp, 4, none⟩ = some (.int .i64 160) := fun w' hb => ⟨(L3.bp.below hb).cell 0, (L3.bp.below hb).cell 1, (L3.bp.below hb).cell 2, (L3.bp.below hb).cell 3, (L3.bp.below hb).cell 4⟩
    have hbd : Below w3.heap.size w3 w3.drew := (Below.refl w3.heap.size w3).drew
    have RD := keep _ hbd
    have hcd := ci.on (L3.below hbd).two.bel
    go_region_held3 (fun w' => w'.cell? ⟨qp, 0, none⟩ = some (.int .i64 3) ∧ w'.cell? ⟨qp, 1, none⟩ = some (.int .i64 4) ∧ w'.cell? ⟨qp, 2, none⟩ = some (.int .i64 13) ∧ w'.cell? ⟨qp, 3, none⟩ = some (.int .i64 32) ∧ w'.cell? ⟨qp, 4, none⟩ = some (.int .i64 160)) (first | assumption | exact RD | exact keep _ (by assumption))
      (first
        | (go_at_call 11; refine (cSome hcd).mono ?_; rintro e w4 ⟨rfl, hb4'⟩; rw [hn, hl]; have hb4 : Below w3.heap.size w3 w4 := bel_trans hbd hb4'; clear hb4')
        | (go_at_call 17; refine (nPoll (w0 := w) U34 (i := (t : Int)) hti.1 hti.2 Ph.zero 0 n l (Nat.le_trans L3.two.bel.size hb4.size)).mono ?_; rintro e w5 ⟨zb, rfl, MB, hb5', hz5⟩; have hb5 : Below w3.heap.size w3 w5 := bel_trans hb4 hb5'; clear hb5'))
    have L6 : Lm false w w5 b y 34 S S qp qq za zb q (AskS.new q 3) (PollS.new (10 + (t : Int)) Ph.zero 0 n l) := ⟨L3.below hb5, MB⟩
    clear keep RD hcd hbd L3 hb4 hb5 MB hz5 hn hl hS
    have okA : (AskS.new q 3).Ok := ⟨by show 1 ≤ 2; omega, fun h => by simp [AskS.new] at h, by show 1 ≤ 3; omega, by show 3 ≤ 64; omega⟩
    have okA2 : (AskS.mk q 3 2 0).Ok := ⟨by show 2 ≤ 2; omega, fun _ => by show 0 < 3; omega, by show 1 ≤ 3; omega, by show 3 ≤ 64; omega⟩
    go_upto_region 13 with (go_at_call 27; refine (lmClone L6).mono ?_; rintro e w6 ⟨c, rfl, L7, hb6⟩)
    clear L6 hb6
    go_upto_region 14 with (go_at_call 15; refine (lmAsk L7 okA rfl (by decide)).mono ?_; rintro e w7 ⟨rfl, L8, _⟩)
    clear L7
    rw [ask1_mem, ask1_next] at L8
    obtain ⟨s', hs'⟩ : ∃ s', S.store 0 q.w = s' := ⟨_, rfl⟩
    have hsl : s'.ws.length = 160 := by rw [← hs']; exact n_store' hSl _ _
    have hg : Ph.of (s'.got 0) = q := by rw [← hs', asked S hSl q, hqw]
    have hrest : ∀ i, In i → i ≠ 0 → s'.got i = S.got i := fun i hi h0 => by
      rw [In.got hsl hi, In.got hSl hi, ← hs', word_store hSl In0 hi, if_neg (Ne.symm h0)]
    have hs9 : s'.got 9 = 5 := by rw [hrest 9 ⟨by omega, by omega⟩ (by omega)]; exact hS9
    have hs10 : s'.got 10 = 0 := by rw [hrest 10 ⟨by omega, by omega⟩ (by omega)]; exact hSa.1
    rw [hs'] at L8
    go_upto_region 15 with (go_at_call 15; refine (lmAsk L8 okA2 rfl (by decide)).mono ?_; rintro e w8 ⟨rfl, L9, _⟩)
    clear L8
    have hA3 : (AskS.mk q 3 2 0).next s' = AskS.mk q 3 2 0 := by
      have : ¬ s'.got (10 + ((0 : Nat) : Int)) = IntKind.u64.wrap q.no := by rw [hu3]; show ¬ s'.got 10 = 3; rw [hs10]; decide
      simp only [AskS.next, if_neg this]
    rw [hA3] at L9
    have W0 : Wq s' q (10 + (t : Int)) n (PollS.new (10 + (t : Int)) Ph.zero 0 n l) ((AskS.mk q 3 2 0).mem s') 11 := ⟨rfl, rfl, rfl, rfl, rfl, rfl⟩
    have inA : In (10 + (t : Int)) := ⟨by omega, by omega⟩
    clear hs' hqw okA okA2 hA3
    go_wp2_with (fail)
    go_loopw [17, 18] (fun dn i wr => ∃ (j r : Nat) (x : PollS) (s : St), r + j ≤ 11 ∧ i = .int .i64 j ∧ dn = .bool (x.wh.pc == 0) ∧ Lm true w wr b c (40 + j) s S qp qq za zb q ⟨q, 3, 2, 0⟩ x ∧ Wq s' q (10 + (t : Int)) n x s r) (fun _ i _ => 20 - (intOf i).toNat)
    case atStart => exact ⟨0, 11, _, _, by omega, rfl, rfl, L9.mono (by decide), W0⟩
    case round =>
      obtain ⟨j, r, x, s, hrj, rfl, rfl, L, Wx⟩ := hrel
      clear L9 W0
      have hj20 : (j : Int) < 20 := by omega
      have rk := Wx.rank hn8
      by_cases hr : r = 0
      case neg =>
        have nd : x.wh.pc ≠ 0 := fun h => hr (rk.1.1 h)
        have hdn : (x.wh.pc == 0) = false := by simpa using nd
        rw [hdn]
        obtain ⟨r', hr', Wx'⟩ := Wx.step hn8 nd hsl hg hq0 hq2 hs9 inA
        have hn8' : x.n ≤ 8 := by rw [Wx.2.1]; exact hn8
        have okx := Wx.ok
        obtain ⟨dn, hdn'⟩ : ∃ d, ((x.next s).wh.pc == 0) = d := ⟨_, rfl⟩
        have hrj' : r' + (j + 1) ≤ 11 := by omega
        clear hdn rk Wx hr hr'
        go_wp2_with (go_at_call 19; refine (lmPoll L okx nd hn8' (by omega)).mono ?_; rintro e w9 ⟨rfl, L10, _⟩; rw [hdn'])
        go_roundw
        case rel => exact ⟨j + 1, r', x.next s, x.mem s, hrj', by go_num, by rw [hdn'], L10.mono (by omega), Wx'⟩
        case measure => simp [intOf]; omega
      case pos =>
        subst hr
        have hpc := rk.1.2 rfl
        have hdn : (x.wh.pc == 0) = true := by simpa using hpc
        have hws : s.ws = (s'.put (10 + (t : Int)) 3).ws ∧ (x.al = 5 ↔ q.md = 5) := by
          obtain ⟨_, _, h⟩ := Wx
          revert h hpc
          cases x.wh <;> intro hpc h
          · rw [← hu3]; exact ⟨h.1, h.2.1⟩
          all_goals simp [Wh.pc] at hpc
        rw [hdn]
        clear hdn rk Wx hpc hrj
        obtain ⟨d, hd5⟩ : ∃ d, (x.al == 5) = d := ⟨_, rfl⟩
        have hd6 : (q.md == 5) = d := by rw [← hd5, Bool.eq_iff_iff, beq_iff_eq, beq_iff_eq]; exact hws.2.symm
        have hw1 := hws.1
        clear hws
        go_upto_region 21 with (go_at_call 20; refine (hResult L.poll).mono ?_; rintro e w10 ⟨rfl, hb10⟩)
        have hbb : Below w10.heap.size w10 ((w10.alloc (.cells #[.int .i64 x.own.no, .int .i64 x.own.md, .int .i64 x.own.mr, .int .i64 x.own.ls] 37)).alloc (.cells #[.int .i64 x.n, .int .i64 (x.l 0), .int .i64 (x.l 1), .int .i64 (x.l 2), .int .i64 (x.l 3), .int .i64 (x.l 4), .int .i64 (x.l 5), .int .i64 (x.l 6), .int .i64 (x.l 7)] 42)) := ((Below.refl _ _).alloc (Nat.le_refl _) _).alloc (by simp) _
        have L11 := (L.toLw.below hb10).below hbb
        clear L hbb hb10
        generalize (w10.alloc (.cells #[.int .i64 x.own.no, .int .i64 x.own.md, .int .i64 x.own.mr, .int .i64 x.own.ls] 37)).alloc (.cells #[.int .i64 x.n, .int .i64 (x.l 0), .int .i64 (x.l 1), .int .i64 (x.l 2), .int .i64 (x.l 3), .int .i64 (x.l 4), .int .i64 (x.l 5), .int .i64 (x.l 6), .int .i64 (x.l 7)] 42) = w11 at L11 ⊢
        generalize w10.heap.size + 1 = qs
        generalize w10.heap.size = qo
        have L12 : Lw true w w11 b c 60 s S qp qq za q ⟨q, 3, 2, 0⟩ := L11.mono (by omega)
        clear L11
        have hbnd : ∀ i : Nat, i < 160 → (i : Int) ≠ 0 → (i : Int) ≠ 10 + (t : Int) → s.got (i : Int) = S.got (i : Int) := fun i hi h0 h1 => by
          have ii : In (i : Int) := ⟨by omega, by omega⟩
          have hlp : s.ws.length = 160 := by rw [hw1]; simp only [St.put, List.length_set]; exact hsl
          rw [In.got hlp ii, ← hrest (i : Int) ii h0, In.got hsl ii, ← show (s'.put (10 + (t : Int)) 3).word (i : Int) = s'.word (i : Int) from by rw [word_put hsl inA ii, if_neg (Ne.symm h1)]]
          unfold St.word
          rw [hw1]
        have hack : s.got (10 + (t : Int)) = 3 := by
          have hlp : s.ws.length = 160 := by rw [hw1]; simp only [St.put, List.length_set]; exact hsl
          rw [In.got hlp inA, ← show (s'.put (10 + (t : Int)) 3).word (10 + (t : Int)) = 3 from by rw [word_put hsl inA inA, if_pos rfl]]
          unfold St.word
          rw [hw1]
        obtain ⟨ad, had⟩ : ∃ ad : Nat, ad = 10 + t := ⟨_, rfl⟩
        have hadi : (10 + (t : Int)) = (ad : Int) := by omega
        have had13 : ad < 13 := by omega
        rw [hadi] at hbnd hack
        clear hrest hg hs9 hs10 hSa hS9 hw1 hsl inA had
        have bq : ∀ w, (binOp .eql 4 (.bool d) (.bool d)).run Tryd.prog w = .ok (.bool true) w := fun w => by cases d <;> kernel_rfl
        go_wp2_with (fail)
        go_loopw [22] (fun i wr => ∃ k : Nat, k ≤ 160 ∧ i = .int .i64 k ∧ ∃ s1 s2, Lw true w wr b c (60 + 2 * k) s1 s2 qp qq za q ⟨q, 3, 2, 0⟩ ∧ s1.ws = s.ws ∧ s2.ws = S.ws) (fun i _ => 160 - (intOf i).toNat)
        case atStart => exact ⟨0, Nat.zero_le _, rfl, _, _, L12, rfl, rfl⟩
        case round =>
          obtain ⟨k, hk, rfl, s1, s2, L, h1, h2⟩ := hrel
          clear L12
          have x0 : wr.cell? ⟨qp, 0, none⟩ = some (.int .i64 3) := L.bp.cell 0
          have x1 : wr.cell? ⟨qp, 1, none⟩ = some (.int .i64 4) := L.bp.cell 1
          have x2 : wr.cell? ⟨qp, 2, none⟩ = some (.int .i64 13) := L.bp.cell 2
          have x3 : wr.cell? ⟨qp, 3, none⟩ = some (.int .i64 32) := L.bp.cell 3
          have x4 : wr.cell? ⟨qp, 4, none⟩ = some (.int .i64 160) := L.bp.cell 4
          have xl := L.bp.lt
          by_cases hk160 : k < 160
          case pos =>
            have hkd : (k : Int) < 160 := by omega
            by_cases hk0 : k = 0
            · have q1 : ((k : Int) != 0) = false := by simp [hk0]
              clear hk0 bq
              go_wp2
              go_roundw
              case rel => exact ⟨k + 1, by omega, by go_num, _, _, L.mono (by omega), h1, h2⟩
              case measure => simp [intOf]; omega
            have q1 : ((k : Int) != 0) = true := by simp; exact hk0
            by_cases hka : k = ad
            · have q2 : ((k : Int) != (ad : Int)) = false := by simp [hka]
              clear hka bq
              go_wp2_with (go_at_call 28; refine (P.rAck _ _ _ _ _ (t : Int) hti.1 hti.2 _).mono ?_; rintro e w12 ⟨rfl, hw12⟩; rw [hadi]; have L13 := L.below (by rw [hw12]; exact (Below.refl _ _).alloc (Nat.le_refl _) _ : Below wr.heap.size wr w12); clear hw12)
              go_roundw
              case rel => exact ⟨k + 1, by omega, by go_num, _, _, L13.mono (by omega), h1, h2⟩
              case measure => simp [intOf]; omega
            have q2 : ((k : Int) != (ad : Int)) = true := by simp; omega
            obtain ⟨v, hv⟩ : ∃ v, S.got (k : Int) = v := ⟨_, rfl⟩
            have e1 : s1.got (k : Int) = v := (got_ws h1 _).trans ((hbnd k hk160 (by omega) (by omega)).trans hv)
            have e2 : s2.got (k : Int) = v := (got_ws h2 _).trans hv
            clear hv hk0 hka bq hbnd
            go_wp2_with (first
              | (go_at_call 28; refine (P.rAck _ _ _ _ _ (t : Int) hti.1 hti.2 _).mono ?_; rintro e w12 ⟨rfl, hw12⟩; rw [hadi]; have L13 := L.below (by rw [hw12]; exact (Below.refl _ _).alloc (Nat.le_refl _) _ : Below wr.heap.size wr w12); clear hw12)
              | (have hh := L14; go_at_call 26; refine (lwLoad2 L14 (by omega) k).mono ?_; rintro e w14 ⟨rfl, L15, _⟩; rw [e2])
              | (go_at_call 26; refine (lwLoad L13 (by omega) k).mono ?_; rintro e w13 ⟨rfl, L14, _⟩; rw [e1]))
            go_roundw
            case rel => exact ⟨k + 1, by omega, by go_num, _, _, L15.mono (by omega), h1, h2⟩
            case measure => simp [intOf]; omega
          case neg =>
            have hkd : decide ((k : Int) < 160) = false := by simp; omega
            have e1 : s1.got (ad : Int) = 3 := (got_ws h1 _).trans hack
            clear hack hbnd
            have y1 : wr.cell? ⟨qq, 1, none⟩ = some (.int .i64 q.md) := L.bq.cell 1
            have yl := L.bq.lt
            go_wp2_with (first
              | (go_at_call 28; refine (P.rAck _ _ _ _ _ (t : Int) hti.1 hti.2 _).mono ?_; rintro e w12 ⟨rfl, hw12⟩; rw [hadi]; have L13 := L.below (by rw [hw12]; exact (Below.refl _ _).alloc (Nat.le_refl _) _ : Below wr.heap.size wr w12); clear hw12)
              | (go_at_call 26; refine (lwLoad L13 (by omega) ad).mono ?_; rintro e w13 ⟨rfl, L14, _⟩; rw [e1]; have z1 : w13.cell? ⟨qq, 1, none⟩ = some (.int .i64 q.md) := L14.bq.cell 1; have zl := L14.bq.lt))
            go_ret
            exact ⟨rfl, L14.two.bel⟩
  · have hk2' : (km == 2) = false := by simpa using hk2
    go_enter Tryd.func7, Tryd.ntmps7
    go_upto_region 2 with (go_at_call 8; refine (cShown _ W).mono ?_; rintro e w1 ⟨rfl, hb1⟩)
    go_upto_region 3 with (go_at_call 9; refine (cLaid _ (W.on hb1) (lt := 0) (zt := fun _ => 0) (.inl rfl) (by decide) (by decide)).mono ?_; rintro e w2 ⟨b, y, rfl, h2⟩; have T2 := h2.lift hb1 W; rw [hS] at T2; clear h2)
    clear hb1
    go_upto_region 4 with (go_at_call 10; refine (cPlan34 _).mono ?_; rintro e v0 ⟨rfl, hv0⟩)
    have hvp : Below w2.heap.size w2 (v0.alloc (.cells #[.int .i64 3, .int .i64 4, .int .i64 13, .int .i64 32, .int .i64 160] 32)) := hv0.alloc hv0.size _
    have Tp := T2.below hvp
    have Bp : Blk w (v0.alloc (.cells #[.int .i64 3, .int .i64 4, .int .i64 13, .int .i64 32, .int .i64 160] 32)) v0.heap.size 32 planC := Blk.new (Nat.le_trans T2.bel.size hv0.size) _ (by decide)
    clear hvp
    generalize v0.alloc (.cells #[.int .i64 3, .int .i64 4, .int .i64 13, .int .i64 32, .int .i64 160] 32) = wp at Tp Bp ⊢
    generalize v0.heap.size = qp at Bp ⊢
    clear hv0 T2
    go_upto_region 7 with (go_at_call 14; refine (cKind _ mode 9 m0 m1 (by decide)).mono ?_; rintro e wk ⟨rfl, hwk⟩; rw [hwk, hkm]; clear hwk wk)
    have Tq := Tp.alloc (.cells #[.int .i64 3, .int .i64 km, .int .i64 1, .int .i64 0] 37)
    have Bp' := Bp.below ((Below.refl wp.heap.size wp).alloc (Nat.le_refl _) (.cells #[.int .i64 3, .int .i64 km, .int .i64 1, .int .i64 0] 37))
    have Bq : Blk w (wp.alloc (.cells #[.int .i64 3, .int .i64 km, .int .i64 1, .int .i64 0] 37)) wp.heap.size 37 #[.int .i64 3, .int .i64 km, .int .i64 1, .int .i64 0] := Blk.new Tp.bel.size _ (by decide)
    generalize wp.alloc (.cells #[.int .i64 3, .int .i64 km, .int .i64 1, .int .i64 0] 37) = wq at Tq Bp' Bq ⊢
    generalize wp.heap.size = qq at Bq ⊢
    clear Tp Bp
    obtain ⟨q, hq⟩ : ∃ q : Ph, q = ⟨3, km, 1, 0⟩ := ⟨_, rfl⟩
    have hqw : Ph.of q.w = q := of_w q (by rw [hq]; simp) (by rw [hq]; simp; omega) (by rw [hq]; simp) (by rw [hq]; simp)
    have hq3 : q.no = 3 := by rw [hq]
    have hq0 : q.no ≠ 0 := by rw [hq]; simp
    have hq2 : q.md ≠ 2 := by rw [hq]; simp; exact hk2
    have hu3 : IntKind.u64.wrap q.no = 3 := by rw [hq3]; decide
    have Bq' : Blk w wq qq 37 q.cells := by rw [hq]; exact Bq
    clear Bq hkm hk2 hk2' hq3
    clear hq
    have x0 : wq.cell? ⟨qp, 0, none⟩ = some (.int .i64 3) := Bp'.cell 0
    have x1 : wq.cell? ⟨qp, 1, none⟩ = some (.int .i64 4) := Bp'.cell 1
    have x2 : wq.cell? ⟨qp, 2, none⟩ = some (.int .i64 13) := Bp'.cell 2
    have x3 : wq.cell? ⟨qp, 3, none⟩ = some (.int .i64 32) := Bp'.cell 3
    have x4 : wq.cell? ⟨qp, 4, none⟩ = some (.int .i64 160) := Bp'.cell 4
    have xl := Bp'.lt
    have y0 : wq.cell? ⟨qq, 0, none⟩ = some (.int .i64 q.no) := Bq'.cell 0
    have y1 : wq.cell? ⟨qq, 1, none⟩ = some (.int .i64 q.md) := Bq'.cell 1
    have y2 : wq.cell? ⟨qq, 2, none⟩ = some (.int .i64 q.mr) := Bq'.cell 2
    have y3 : wq.cell? ⟨qq, 3, none⟩ = some (.int .i64 q.ls) := Bq'.cell 3
    have yl := Bq'.lt
    go_upto_region 9 with (first
      | (go_at_call 14; refine (cKind _ th 3 t0 t1 (by decide)).mono ?_; rintro e wk ⟨rfl, hwk⟩; rw [hwk, htd]; clear hwk wk)
      | (go_at_call 12; refine (nAsk (w0 := w) U34 q 3 Tq.bel.size).mono ?_; rintro e w3 ⟨za, rfl, MA, hb3, hz3⟩))
    have L3 : Lw false w w3 b y 34 S S qp qq za q (AskS.new q 3) := ⟨Tq.below hb3, Bp'.below hb3, Bq'.below hb3, MA⟩
    clear x0 x1 x2 x3 x4 xl
    clear y0 y1 y2 y3 yl
    clear Tq Bp' Bq' MA hb3 hz3
    have keep : ∀ w', Below w3.heap.size w3 w' → w'.cell? ⟨qp, 0, none⟩ = some (.int .i64 3) ∧ w'.cell? ⟨qp, 1, none⟩ = some (.int .i64 4) ∧ w'.cell? ⟨qp, 2, none⟩ = some (.int .i64 13) ∧ w'.cell? ⟨qp, 3, none⟩ = some (.int .i64 32) ∧ w'.cell? ⟨qp, 4, none⟩ = some (.int .i64 160) := fun w' hb => ⟨(L3.bp.below hb).cell 0, (L3.bp.below hb).cell 1, (L3.bp.below hb).cell 2, (L3.bp.below hb).cell 3, (L3.bp.below hb).cell 4⟩
    have hbd : Below w3.heap.size w3 w3.drew := (Below.refl w3.heap.size w3).drew
    have RD := keep _ hbd
    have hcd := ci.on (L3.below hbd).two.bel
    go_region_held3 (fun w' => w'.cell? ⟨qp, 0, none⟩ = some (.int .i64 3) ∧ w'.cell? ⟨qp, 1, none⟩ = some (.int .i64 4) ∧ w'.cell? ⟨qp, 2, none⟩ = some (.int .i64 13) ∧ w'.cell? ⟨qp, 3, none⟩ = some (.int .i64 32) ∧ w'.cell? ⟨qp, 4, none⟩ = some (.int .i64 160)) (first | assumption | exact RD | exact keep _ (by assumption))
      (first
        | (go_at_call 11; refine (cSome hcd).mono ?_; rintro e w4 ⟨rfl, hb4'⟩; rw [hn, hl]; have hb4 : Below w3.heap.size w3 w4 := bel_trans hbd hb4'; clear hb4')
        | (go_at_call 17; refine (nPoll (w0 := w) U34 (i := (t : Int)) hti.1 hti.2 Ph.zero 0 n l (Nat.le_trans L3.two.bel.size hb4.size)).mono ?_; rintro e w5 ⟨zb, rfl, MB, hb5', hz5⟩; have hb5 : Below w3.heap.size w3 w5 := bel_trans hb4 hb5'; clear hb5'))
    have L6 : Lm false w w5 b y 34 S S qp qq za zb q (AskS.new q 3) (PollS.new (10 + (t : Int)) Ph.zero 0 n l) := ⟨L3.below hb5, MB⟩
    clear keep RD hcd hbd L3 hb4 hb5 MB hz5 hn hl hS
    have okA : (AskS.new q 3).Ok := ⟨by show 1 ≤ 2; omega, fun h => by simp [AskS.new] at h, by show 1 ≤ 3; omega, by show 3 ≤ 64; omega⟩
    have okA2 : (AskS.mk q 3 2 0).Ok := ⟨by show 2 ≤ 2; omega, fun _ => by show 0 < 3; omega, by show 1 ≤ 3; omega, by show 3 ≤ 64; omega⟩
    go_upto_region 13 with (go_at_call 27; refine (lmClone L6).mono ?_; rintro e w6 ⟨c, rfl, L7, hb6⟩)
    clear L6 hb6
    go_upto_region 14 with (go_at_call 15; refine (lmAsk L7 okA rfl (by decide)).mono ?_; rintro e w7 ⟨rfl, L8, _⟩)
    clear L7
    rw [ask1_mem, ask1_next] at L8
    obtain ⟨s', hs'⟩ : ∃ s', S.store 0 q.w = s' := ⟨_, rfl⟩
    have hsl : s'.ws.length = 160 := by rw [← hs']; exact n_store' hSl _ _
    have hg : Ph.of (s'.got 0) = q := by rw [← hs', asked S hSl q, hqw]
    have hrest : ∀ i, In i → i ≠ 0 → s'.got i = S.got i := fun i hi h0 => by
      rw [In.got hsl hi, In.got hSl hi, ← hs', word_store hSl In0 hi, if_neg (Ne.symm h0)]
    have hs9 : s'.got 9 = 5 := by rw [hrest 9 ⟨by omega, by omega⟩ (by omega)]; exact hS9
    have hs10 : s'.got 10 = 0 := by rw [hrest 10 ⟨by omega, by omega⟩ (by omega)]; exact hSa.1
    rw [hs'] at L8
    go_upto_region 15 with (go_at_call 15; refine (lmAsk L8 okA2 rfl (by decide)).mono ?_; rintro e w8 ⟨rfl, L9, _⟩)
    clear L8
    have hA3 : (AskS.mk q 3 2 0).next s' = AskS.mk q 3 2 0 := by
      have : ¬ s'.got (10 + ((0 : Nat) : Int)) = IntKind.u64.wrap q.no := by rw [hu3]; show ¬ s'.got 10 = 3; rw [hs10]; decide
      simp only [AskS.next, if_neg this]
    rw [hA3] at L9
    have W0 : Wq s' q (10 + (t : Int)) n (PollS.new (10 + (t : Int)) Ph.zero 0 n l) ((AskS.mk q 3 2 0).mem s') 11 := ⟨rfl, rfl, rfl, rfl, rfl, rfl⟩
    have inA : In (10 + (t : Int)) := ⟨by omega, by omega⟩
    clear hs' hqw okA okA2 hA3
    go_wp2_with (fail)
    go_loopw [17, 18] (fun dn i wr => ∃ (j r : Nat) (x : PollS) (s : St), r + j ≤ 11 ∧ i = .int .i64 j ∧ dn = .bool (x.wh.pc == 0) ∧ Lm true w wr b c (40 + j) s S qp qq za zb q ⟨q, 3, 2, 0⟩ x ∧ Wq s' q (10 + (t : Int)) n x s r) (fun _ i _ => 20 - (intOf i).toNat)
    case atStart => exact ⟨0, 11, _, _, by omega, rfl, rfl, L9.mono (by decide), W0⟩
    case round =>
      obtain ⟨j, r, x, s, hrj, rfl, rfl, L, Wx⟩ := hrel
      clear L9 W0
      have hj20 : (j : Int) < 20 := by omega
      have rk := Wx.rank hn8
      by_cases hr : r = 0
      case neg =>
        have nd : x.wh.pc ≠ 0 := fun h => hr (rk.1.1 h)
        have hdn : (x.wh.pc == 0) = false := by simpa using nd
        rw [hdn]
        obtain ⟨r', hr', Wx'⟩ := Wx.step hn8 nd hsl hg hq0 hq2 hs9 inA
        have hn8' : x.n ≤ 8 := by rw [Wx.2.1]; exact hn8
        have okx := Wx.ok
        obtain ⟨dn, hdn'⟩ : ∃ d, ((x.next s).wh.pc == 0) = d := ⟨_, rfl⟩
        have hrj' : r' + (j + 1) ≤ 11 := by omega
        clear hdn rk Wx hr hr'
        go_wp2_with (go_at_call 19; refine (lmPoll L okx nd hn8' (by omega)).mono ?_; rintro e w9 ⟨rfl, L10, _⟩; rw [hdn'])
        go_roundw
        case rel => exact ⟨j + 1, r', x.next s, x.mem s, hrj', by go_num, by rw [hdn'], L10.mono (by omega), Wx'⟩
        case measure => simp [intOf]; omega
      case pos =>
        subst hr
        have hpc := rk.1.2 rfl
        have hdn : (x.wh.pc == 0) = true := by simpa using hpc
        have hws : s.ws = (s'.put (10 + (t : Int)) 3).ws ∧ (x.al = 5 ↔ q.md = 5) := by
          obtain ⟨_, _, h⟩ := Wx
          revert h hpc
          cases x.wh <;> intro hpc h
          · rw [← hu3]; exact ⟨h.1, h.2.1⟩
          all_goals simp [Wh.pc] at hpc
        rw [hdn]
        clear hdn rk Wx hpc hrj
        obtain ⟨d, hd5⟩ : ∃ d, (x.al == 5) = d := ⟨_, rfl⟩
        have hd6 : (q.md == 5) = d := by rw [← hd5, Bool.eq_iff_iff, beq_iff_eq, beq_iff_eq]; exact hws.2.symm
        have hw1 := hws.1
        clear hws
        go_upto_region 21 with (go_at_call 20; refine (hResult L.poll).mono ?_; rintro e w10 ⟨rfl, hb10⟩)
        have hbb : Below w10.heap.size w10 ((w10.alloc (.cells #[.int .i64 x.own.no, .int .i64 x.own.md, .int .i64 x.own.mr, .int .i64 x.own.ls] 37)).alloc (.cells #[.int .i64 x.n, .int .i64 (x.l 0), .int .i64 (x.l 1), .int .i64 (x.l 2), .int .i64 (x.l 3), .int .i64 (x.l 4), .int .i64 (x.l 5), .int .i64 (x.l 6), .int .i64 (x.l 7)] 42)) := ((Below.refl _ _).alloc (Nat.le_refl _) _).alloc (by simp) _
        have L11 := (L.toLw.below hb10).below hbb
        clear L hbb hb10
        generalize (w10.alloc (.cells #[.int .i64 x.own.no, .int .i64 x.own.md, .int .i64 x.own.mr, .int .i64 x.own.ls] 37)).alloc (.cells #[.int .i64 x.n, .int .i64 (x.l 0), .int .i64 (x.l 1), .int .i64 (x.l 2), .int .i64 (x.l 3), .int .i64 (x.l 4), .int .i64 (x.l 5), .int .i64 (x.l 6), .int .i64 (x.l 7)] 42) = w11 at L11 ⊢
        generalize w10.heap.size + 1 = qs
        generalize w10.heap.size = qo
        have L12 : Lw true w w11 b c 60 s S qp qq za q ⟨q, 3, 2, 0⟩ := L11.mono (by omega)
        clear L11
        have hbnd : ∀ i : Nat, i < 160 → (i : Int) ≠ 0 → (i : Int) ≠ 10 + (t : Int) → s.got (i : Int) = S.got (i : Int) := fun i hi h0 h1 => by
          have ii : In (i : Int) := ⟨by omega, by omega⟩
          have hlp : s.ws.length = 160 := by rw [hw1]; simp only [St.put, List.length_set]; exact hsl
          rw [In.got hlp ii, ← hrest (i : Int) ii h0, In.got hsl ii, ← show (s'.put (10 + (t : Int)) 3).word (i : Int) = s'.word (i : Int) from by rw [word_put hsl inA ii, if_neg (Ne.symm h1)]]
          unfold St.word
          rw [hw1]
        have hack : s.got (10 + (t : Int)) = 3 := by
          have hlp : s.ws.length = 160 := by rw [hw1]; simp only [St.put, List.length_set]; exact hsl
          rw [In.got hlp inA, ← show (s'.put (10 + (t : Int)) 3).word (10 + (t : Int)) = 3 from by rw [word_put hsl inA inA, if_pos rfl]]
          unfold St.word
          rw [hw1]
        obtain ⟨ad, had⟩ : ∃ ad : Nat, ad = 10 + t := ⟨_, rfl⟩
        have hadi : (10 + (t : Int)) = (ad : Int) := by omega
        have had13 : ad < 13 := by omega
        rw [hadi] at hbnd hack
        clear hrest hg hs9 hs10 hSa hS9 hw1 hsl inA had
        have bq : ∀ w, (binOp .eql 4 (.bool d) (.bool d)).run Tryd.prog w = .ok (.bool true) w := fun w => by cases d <;> kernel_rfl
        go_wp2_with (fail)
        go_loopw [22] (fun i wr => ∃ k : Nat, k ≤ 160 ∧ i = .int .i64 k ∧ ∃ s1 s2, Lw true w wr b c (60 + 2 * k) s1 s2 qp qq za q ⟨q, 3, 2, 0⟩ ∧ s1.ws = s.ws ∧ s2.ws = S.ws) (fun i _ => 160 - (intOf i).toNat)
        case atStart => exact ⟨0, Nat.zero_le _, rfl, _, _, L12, rfl, rfl⟩
        case round =>
          obtain ⟨k, hk, rfl, s1, s2, L, h1, h2⟩ := hrel
          clear L12
          have x0 : wr.cell? ⟨qp, 0, none⟩ = some (.int .i64 3) := L.bp.cell 0
          have x1 : wr.cell? ⟨qp, 1, none⟩ = some (.int .i64 4) := L.bp.cell 1
          have x2 : wr.cell? ⟨qp, 2, none⟩ = some (.int .i64 13) := L.bp.cell 2
          have x3 : wr.cell? ⟨qp, 3, none⟩ = some (.int .i64 32) := L.bp.cell 3
          have x4 : wr.cell? ⟨qp, 4, none⟩ = some (.int .i64 160) := L.bp.cell 4
          have xl := L.bp.lt
          by_cases hk160 : k < 160
          case pos =>
            have hkd : (k : Int) < 160 := by omega
            by_cases hk0 : k = 0
            · have q1 : ((k : Int) != 0) = false := by simp [hk0]
              clear hk0 bq
              go_wp2
              go_roundw
              case rel => exact ⟨k + 1, by omega, by go_num, _, _, L.mono (by omega), h1, h2⟩
              case measure => simp [intOf]; omega
            have q1 : ((k : Int) != 0) = true := by simp; exact hk0
            by_cases hka : k = ad
            · have q2 : ((k : Int) != (ad : Int)) = false := by simp [hka]
              clear hka bq
              go_wp2_with (go_at_call 28; refine (P.rAck _ _ _ _ _ (t : Int) hti.1 hti.2 _).mono ?_; rintro e w12 ⟨rfl, hw12⟩; rw [hadi]; have L13 := L.below (by rw [hw12]; exact (Below.refl _ _).alloc (Nat.le_refl _) _ : Below wr.heap.size wr w12); clear hw12)
              go_roundw
              case rel => exact ⟨k + 1, by omega, by go_num, _, _, L13.mono (by omega), h1, h2⟩
              case measure => simp [intOf]; omega
            have q2 : ((k : Int) != (ad : Int)) = true := by simp; omega
            obtain ⟨v, hv⟩ : ∃ v, S.got (k : Int) = v := ⟨_, rfl⟩
            have e1 : s1.got (k : Int) = v := (got_ws h1 _).trans ((hbnd k hk160 (by omega) (by omega)).trans hv)
            have e2 : s2.got (k : Int) = v := (got_ws h2 _).trans hv
            clear hv hk0 hka bq hbnd
            go_wp2_with (first
              | (go_at_call 28; refine (P.rAck _ _ _ _ _ (t : Int) hti.1 hti.2 _).mono ?_; rintro e w12 ⟨rfl, hw12⟩; rw [hadi]; have L13 := L.below (by rw [hw12]; exact (Below.refl _ _).alloc (Nat.le_refl _) _ : Below wr.heap.size wr w12); clear hw12)
              | (have hh := L14; go_at_call 26; refine (lwLoad2 L14 (by omega) k).mono ?_; rintro e w14 ⟨rfl, L15, _⟩; rw [e2])
              | (go_at_call 26; refine (lwLoad L13 (by omega) k).mono ?_; rintro e w13 ⟨rfl, L14, _⟩; rw [e1]))
            go_roundw
            case rel => exact ⟨k + 1, by omega, by go_num, _, _, L15.mono (by omega), h1, h2⟩
            case measure => simp [intOf]; omega
          case neg =>
            have hkd : decide ((k : Int) < 160) = false := by simp; omega
            have e1 : s1.got (ad : Int) = 3 := (got_ws h1 _).trans hack
            clear hack hbnd
            have y1 : wr.cell? ⟨qq, 1, none⟩ = some (.int .i64 q.md) := L.bq.cell 1
            have yl := L.bq.lt
            go_wp2_with (first
              | (go_at_call 28; refine (P.rAck _ _ _ _ _ (t : Int) hti.1 hti.2 _).mono ?_; rintro e w12 ⟨rfl, hw12⟩; rw [hadi]; have L13 := L.below (by rw [hw12]; exact (Below.refl _ _).alloc (Nat.le_refl _) _ : Below wr.heap.size wr w12); clear hw12)
              | (go_at_call 26; refine (lwLoad L13 (by omega) ad).mono ?_; rintro e w13 ⟨rfl, L14, _⟩; rw [e1]; have z1 : w13.cell? ⟨qq, 1, none⟩ = some (.int .i64 q.md) := L14.bq.cell 1; have zl := L14.bq.lt))
            go_ret
            exact ⟨rfl, L14.two.bel⟩
end Go.Proofs.YtikjigbjednbcaaDoor
