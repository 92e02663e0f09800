/-
  The walk of ShakeStays.
-/
import Derived.Test.YtikjigbjednbcaaDoorKx
import Derived.Deep.Cut
import Derived.Deep.RegionHeld3
namespace Go.Proofs.YtikjigbjednbcaaDoor
set_option linter.unusedVariables false
set_option linter.unusedSimpArgs false
set_option maxRecDepth 100000
open Go.ChangeShapes Go.WideShapes Go.RowKit
open S.Plain (t0 t1 tw nx p0 p1 p2 p3 pw)
open H.Plain (hw pS pC pN pM pG pT pL)

set_option maxHeartbeats 6000000 in
theorem wShakeStays (mode : Int) (ao : Option Addr) (len cap : Nat) (z : Nat → Int) (al : Int) (m0 : -9223372036854775808 ≤ mode) (m1 : mode ≤ 9223372036854775807) (l0 : -9223372036854775808 ≤ al) (l1 : al ≤ 9223372036854775807) (w : World) (W : H.Wid w) (ci : CameI w ao len z) :
    Calls Tryd.prog 6 #[.int .i64 mode, .slice ao len cap, .int .i64 al] w fun e w' => e = .returned (.bool true) ∧ Below w.heap.size w w' := by
  obtain ⟨n, hn⟩ : ∃ n, someN len = n := ⟨_, rfl⟩
  obtain ⟨l, hl⟩ : ∃ l, someL len z = l := ⟨_, rfl⟩
  have hn8 : n ≤ 8 := hn ▸ someN_le len
  obtain ⟨S, hS⟩ : ∃ S, laidS (tagP 0 (fun _ => 0)) (kd 5 1000) = S := ⟨_, rfl⟩
  have hSl : S.ws.length = 160 := by rw [← hS]; exact laid_len _ _
  obtain ⟨km, hkm⟩ : ∃ km, kd mode 9 = km := ⟨_, rfl⟩
  have hkb : 0 ≤ km ∧ km < 9 := hkm ▸ kd_lt mode 9 (by decide)
  go_enter Tryd.func6, Tryd.ntmps6
  go_upto_region 2 with (go_at_call 8; refine (cShown _ W).mono ?_; rintro e w1 ⟨rfl, hb1⟩)
  go_upto_region 3 with (go_at_call 9; refine (cLaid _ (W.on hb1) (lt := 0) (zt := fun _ => 0) (.inl rfl) (by decide) (by decide)).mono ?_; rintro e w2 ⟨b, y, rfl, h2⟩; have T2 := h2.lift hb1 W; rw [hS] at T2; clear h2)
  clear hb1
  go_upto_region 4 with (go_at_call 10; refine (cPlan34 _).mono ?_; rintro e v0 ⟨rfl, hv0⟩)
  have hvp : Below w2.heap.size w2 (v0.alloc (.cells #[.int .i64 3, .int .i64 4, .int .i64 13, .int .i64 32, .int .i64 160] 32)) := hv0.alloc hv0.size _
  have Tp := T2.below hvp
  have Bp : Blk w (v0.alloc (.cells #[.int .i64 3, .int .i64 4, .int .i64 13, .int .i64 32, .int .i64 160] 32)) v0.heap.size 32 planC := Blk.new (Nat.le_trans T2.bel.size hv0.size) _ (by decide)
  clear hvp
  generalize v0.alloc (.cells #[.int .i64 3, .int .i64 4, .int .i64 13, .int .i64 32, .int .i64 160] 32) = wp at Tp Bp ⊢
  generalize v0.heap.size = qp at Bp ⊢
  clear hv0 T2
  go_upto_region 5 with (go_at_call 14; refine (cKind _ mode 9 m0 m1 (by decide)).mono ?_; rintro e wk ⟨rfl, hwk⟩; rw [hwk, hkm]; clear hwk wk)
  have Tq := Tp.alloc (.cells #[.int .i64 3, .int .i64 km, .int .i64 1, .int .i64 0] 37)
  have Bp' := Bp.below ((Below.refl wp.heap.size wp).alloc (Nat.le_refl _) (.cells #[.int .i64 3, .int .i64 km, .int .i64 1, .int .i64 0] 37))
  have Bq : Blk w (wp.alloc (.cells #[.int .i64 3, .int .i64 km, .int .i64 1, .int .i64 0] 37)) wp.heap.size 37 #[.int .i64 3, .int .i64 km, .int .i64 1, .int .i64 0] := Blk.new Tp.bel.size _ (by decide)
  generalize wp.alloc (.cells #[.int .i64 3, .int .i64 km, .int .i64 1, .int .i64 0] 37) = wq at Tq Bp' Bq ⊢
  generalize wp.heap.size = qq at Bq ⊢
  clear Tp Bp
  obtain ⟨q, hq⟩ : ∃ q : Ph, q = ⟨3, km, 1, 0⟩ := ⟨_, rfl⟩
  have hqw : Ph.of q.w = q := of_w q (by rw [hq]; simp) (by rw [hq]; simp; omega) (by rw [hq]; simp) (by rw [hq]; simp)
  have Bq' : Blk w wq qq 37 q.cells := by rw [hq]; exact Bq
  clear Bq hkm
  clear hq
  have x0 : wq.cell? ⟨qp, 0, none⟩ = some (.int .i64 3) := Bp'.cell 0
  have x1 : wq.cell? ⟨qp, 1, none⟩ = some (.int .i64 4) := Bp'.cell 1
  have x2 : wq.cell? ⟨qp, 2, none⟩ = some (.int .i64 13) := Bp'.cell 2
  have x3 : wq.cell? ⟨qp, 3, none⟩ = some (.int .i64 32) := Bp'.cell 3
  have x4 : wq.cell? ⟨qp, 4, none⟩ = some (.int .i64 160) := Bp'.cell 4
  have xl := Bp'.lt
  have y0 : wq.cell? ⟨qq, 0, none⟩ = some (.int .i64 q.no) := Bq'.cell 0
  have y1 : wq.cell? ⟨qq, 1, none⟩ = some (.int .i64 q.md) := Bq'.cell 1
  have y2 : wq.cell? ⟨qq, 2, none⟩ = some (.int .i64 q.mr) := Bq'.cell 2
  have y3 : wq.cell? ⟨qq, 3, none⟩ = some (.int .i64 q.ls) := Bq'.cell 3
  have yl := Bq'.lt
  go_upto_region 6 with (go_at_call 12; refine (nAsk (w0 := w) U34 q 3 Tq.bel.size).mono ?_; rintro e w3 ⟨za, rfl, MA, hb3, hz3⟩)
  have L3 : Lw false w w3 b y 34 S S qp qq za q (AskS.new q 3) := ⟨Tq.below hb3, Bp'.below hb3, Bq'.below hb3, MA⟩
  clear x0 x1 x2 x3 x4 xl
  clear y0 y1 y2 y3 yl
  clear Tq Bp' Bq' MA hb3 hz3
  go_upto_region 7 with (go_at_call 11; refine (cSome (ci.on L3.two.bel)).mono ?_; rintro e w4 ⟨rfl, hb4⟩; rw [hn, hl])
  have L5 := (L3.below hb4).below ((Below.refl w4.heap.size w4).alloc (Nat.le_refl _) (.cells #[.int .i64 n, .int .i64 (l 0), .int .i64 (l 1), .int .i64 (l 2), .int .i64 (l 3), .int .i64 (l 4), .int .i64 (l 5), .int .i64 (l 6), .int .i64 (l 7)] 42))
  have Br : Blk w (w4.alloc (.cells #[.int .i64 n, .int .i64 (l 0), .int .i64 (l 1), .int .i64 (l 2), .int .i64 (l 3), .int .i64 (l 4), .int .i64 (l 5), .int .i64 (l 6), .int .i64 (l 7)] 42)) w4.heap.size 42 (RCells n l) := Blk.new (Nat.le_trans L3.two.bel.size hb4.size) _ (by decide)
  generalize w4.alloc (.cells #[.int .i64 n, .int .i64 (l 0), .int .i64 (l 1), .int .i64 (l 2), .int .i64 (l 3), .int .i64 (l 4), .int .i64 (l 5), .int .i64 (l 6), .int .i64 (l 7)] 42) = w5 at L5 Br ⊢
  generalize w4.heap.size = qr at Br ⊢
  clear L3 hb4 hn hl
  have x0 : w5.cell? ⟨qp, 0, none⟩ = some (.int .i64 3) := L5.bp.cell 0
  have x1 : w5.cell? ⟨qp, 1, none⟩ = some (.int .i64 4) := L5.bp.cell 1
  have x2 : w5.cell? ⟨qp, 2, none⟩ = some (.int .i64 13) := L5.bp.cell 2
  have x3 : w5.cell? ⟨qp, 3, none⟩ = some (.int .i64 32) := L5.bp.cell 3
  have x4 : w5.cell? ⟨qp, 4, none⟩ = some (.int .i64 160) := L5.bp.cell 4
  have xl := L5.bp.lt
  have y0 : w5.cell? ⟨qq, 0, none⟩ = some (.int .i64 q.no) := L5.bq.cell 0
  have y1 : w5.cell? ⟨qq, 1, none⟩ = some (.int .i64 q.md) := L5.bq.cell 1
  have y2 : w5.cell? ⟨qq, 2, none⟩ = some (.int .i64 q.mr) := L5.bq.cell 2
  have y3 : w5.cell? ⟨qq, 3, none⟩ = some (.int .i64 q.ls) := L5.bq.cell 3
  have yl := L5.bq.lt
  have r0 : w5.cell? ⟨qr, 0, none⟩ = some (.int .i64 n) := Br.cell 0
  have r1 : w5.cell? ⟨qr, 1, none⟩ = some (.int .i64 (l 0)) := Br.cell 1
  have r2 : w5.cell? ⟨qr, 2, none⟩ = some (.int .i64 (l 1)) := Br.cell 2
  have r3 : w5.cell? ⟨qr, 3, none⟩ = some (.int .i64 (l 2)) := Br.cell 3
  have r4 : w5.cell? ⟨qr, 4, none⟩ = some (.int .i64 (l 3)) := Br.cell 4
  have r5 : w5.cell? ⟨qr, 5, none⟩ = some (.int .i64 (l 4)) := Br.cell 5
  have r6 : w5.cell? ⟨qr, 6, none⟩ = some (.int .i64 (l 5)) := Br.cell 6
  have r7 : w5.cell? ⟨qr, 7, none⟩ = some (.int .i64 (l 6)) := Br.cell 7
  have r8 : w5.cell? ⟨qr, 8, none⟩ = some (.int .i64 (l 7)) := Br.cell 8
  have rl := Br.lt
  go_upto_region 8 with (go_at_call 17; refine (nPoll (w0 := w) U34 (i := 1) (by decide) (by decide) q al n l L5.two.bel.size).mono ?_; rintro e w6 ⟨zb, rfl, MB, hb6, hz6⟩)
  have L6 : Lm false w w6 b y 34 S S qp qq za zb q (AskS.new q 3) (PollS.new (10 + 1) q al n l) := ⟨L5.below hb6, MB⟩
  have Br6 := Br.below hb6
  clear x0 x1 x2 x3 x4 xl
  clear y0 y1 y2 y3 yl
  clear r0 r1 r2 r3 r4 r5 r6 r7 r8 rl
  clear L5 Br MB hb6 hz6
  have okA : (AskS.new q 3).Ok := ⟨by show 1 ≤ 2; omega, fun h => by simp [AskS.new] at h, by show 1 ≤ 3; omega, by show 3 ≤ 64; omega⟩
  go_upto_region 11 with (go_at_call 15; refine (lmAsk L6 okA rfl (by decide)).mono ?_; rintro e w7 ⟨rfl, L7, o7⟩)
  have Br7 := Br6.oth o7 (by simpa using Br6.ne L6.ask (by decide))
  clear L6 Br6 o7
  rw [ask1_mem, ask1_next] at L7
  obtain ⟨s', hs'⟩ : ∃ s', S.store 0 q.w = s' := ⟨_, rfl⟩
  have hsl : s'.ws.length = 160 := by rw [← hs']; exact n_store' hSl _ _
  have hg : Ph.of (s'.got 0) = q := by rw [← hs', asked S hSl q, hqw]
  rw [hs'] at L7
  have hx : (PollS.new (10 + 1) q al n l).next s' = PollS.mk (10 + 1) q q al n l .done := by simp only [PollS.new, PollS.next, hg, if_true]
  have hm : (PollS.new (10 + 1) q al n l).mem s' = s'.load 0 := rfl
  go_upto_region 12 with (go_at_call 27; refine (lmClone L7).mono ?_; rintro e w8 ⟨c, rfl, L8, hb8⟩)
  have Br8 := Br7.below hb8
  clear L7 Br7 hb8
  go_upto_region 13 with (go_at_call 19; refine (lmPoll L8 trivial (by show (1 : Nat) ≠ 0; omega) hn8 (by decide)).mono ?_; rintro e w9 ⟨rfl, L9, o9⟩; rw [hx] at L9; rw [hm] at L9; rw [hx])
  have Br9 := Br8.oth o9 (by have := L8.poll.ne Br8 (by decide); simpa using Ne.symm this)
  clear L8 Br8 o9
  go_upto_region 14 with (go_at_call 20; refine (hResult L9.poll).mono ?_; rintro e w10 ⟨rfl, hb10⟩; dsimp only)
  have hbb : Below w10.heap.size w10 ((w10.alloc (.cells #[.int .i64 q.no, .int .i64 q.md, .int .i64 q.mr, .int .i64 q.ls] 37)).alloc (.cells #[.int .i64 n, .int .i64 (l 0), .int .i64 (l 1), .int .i64 (l 2), .int .i64 (l 3), .int .i64 (l 4), .int .i64 (l 5), .int .i64 (l 6), .int .i64 (l 7)] 42)) := ((Below.refl _ _).alloc (Nat.le_refl _) _).alloc (by simp) _
  have L11 := (L9.toLw.below hb10).below hbb
  have Br11 := (Br9.below hb10).below hbb
  have Bo11 : Blk w ((w10.alloc (.cells #[.int .i64 q.no, .int .i64 q.md, .int .i64 q.mr, .int .i64 q.ls] 37)).alloc (.cells #[.int .i64 n, .int .i64 (l 0), .int .i64 (l 1), .int .i64 (l 2), .int .i64 (l 3), .int .i64 (l 4), .int .i64 (l 5), .int .i64 (l 6), .int .i64 (l 7)] 42)) w10.heap.size 37 q.cells := (Blk.new (Nat.le_trans L9.two.bel.size hb10.size) _ (by decide)).below ((Below.refl _ _).alloc (Nat.le_refl _) _)
  have Bs11 : Blk w ((w10.alloc (.cells #[.int .i64 q.no, .int .i64 q.md, .int .i64 q.mr, .int .i64 q.ls] 37)).alloc (.cells #[.int .i64 n, .int .i64 (l 0), .int .i64 (l 1), .int .i64 (l 2), .int .i64 (l 3), .int .i64 (l 4), .int .i64 (l 5), .int .i64 (l 6), .int .i64 (l 7)] 42)) (w10.heap.size + 1) 42 (RCells n l) := blk2 _ _ (Nat.le_trans L9.two.bel.size hb10.size) (by decide)
  clear L9 Br9 hb10 hbb
  generalize (w10.alloc (.cells #[.int .i64 q.no, .int .i64 q.md, .int .i64 q.mr, .int .i64 q.ls] 37)).alloc (.cells #[.int .i64 n, .int .i64 (l 0), .int .i64 (l 1), .int .i64 (l 2), .int .i64 (l 3), .int .i64 (l 4), .int .i64 (l 5), .int .i64 (l 6), .int .i64 (l 7)] 42) = w11 at L11 Br11 Bo11 Bs11 ⊢
  generalize w10.heap.size + 1 = qs at Bs11 ⊢
  generalize w10.heap.size = qo at Bo11 ⊢
  have y0 : w11.cell? ⟨qq, 0, none⟩ = some (.int .i64 q.no) := L11.bq.cell 0
  have y1 : w11.cell? ⟨qq, 1, none⟩ = some (.int .i64 q.md) := L11.bq.cell 1
  have y2 : w11.cell? ⟨qq, 2, none⟩ = some (.int .i64 q.mr) := L11.bq.cell 2
  have y3 : w11.cell? ⟨qq, 3, none⟩ = some (.int .i64 q.ls) := L11.bq.cell 3
  have yl := L11.bq.lt
  have r0 : w11.cell? ⟨qr, 0, none⟩ = some (.int .i64 n) := Br11.cell 0
  have r1 : w11.cell? ⟨qr, 1, none⟩ = some (.int .i64 (l 0)) := Br11.cell 1
  have r2 : w11.cell? ⟨qr, 2, none⟩ = some (.int .i64 (l 1)) := Br11.cell 2
  have r3 : w11.cell? ⟨qr, 3, none⟩ = some (.int .i64 (l 2)) := Br11.cell 3
  have r4 : w11.cell? ⟨qr, 4, none⟩ = some (.int .i64 (l 3)) := Br11.cell 4
  have r5 : w11.cell? ⟨qr, 5, none⟩ = some (.int .i64 (l 4)) := Br11.cell 5
  have r6 : w11.cell? ⟨qr, 6, none⟩ = some (.int .i64 (l 5)) := Br11.cell 6
  have r7 : w11.cell? ⟨qr, 7, none⟩ = some (.int .i64 (l 6)) := Br11.cell 7
  have r8 : w11.cell? ⟨qr, 8, none⟩ = some (.int .i64 (l 7)) := Br11.cell 8
  have rl := Br11.lt
  have u0 : w11.cell? ⟨qo, 0, none⟩ = some (.int .i64 q.no) := Bo11.cell 0
  have u1 : w11.cell? ⟨qo, 1, none⟩ = some (.int .i64 q.md) := Bo11.cell 1
  have u2 : w11.cell? ⟨qo, 2, none⟩ = some (.int .i64 q.mr) := Bo11.cell 2
  have u3 : w11.cell? ⟨qo, 3, none⟩ = some (.int .i64 q.ls) := Bo11.cell 3
  have ul := Bo11.lt
  have t0 : w11.cell? ⟨qs, 0, none⟩ = some (.int .i64 n) := Bs11.cell 0
  have t1 : w11.cell? ⟨qs, 1, none⟩ = some (.int .i64 (l 0)) := Bs11.cell 1
  have t2 : w11.cell? ⟨qs, 2, none⟩ = some (.int .i64 (l 1)) := Bs11.cell 2
  have t3 : w11.cell? ⟨qs, 3, none⟩ = some (.int .i64 (l 2)) := Bs11.cell 3
  have t4 : w11.cell? ⟨qs, 4, none⟩ = some (.int .i64 (l 3)) := Bs11.cell 4
  have t5 : w11.cell? ⟨qs, 5, none⟩ = some (.int .i64 (l 4)) := Bs11.cell 5
  have t6 : w11.cell? ⟨qs, 6, none⟩ = some (.int .i64 (l 5)) := Bs11.cell 6
  have t7 : w11.cell? ⟨qs, 7, none⟩ = some (.int .i64 (l 6)) := Bs11.cell 7
  have t8 : w11.cell? ⟨qs, 8, none⟩ = some (.int .i64 (l 7)) := Bs11.cell 8
  have tl := Bs11.lt
  have hE1 := nePh q.no q.md q.mr q.ls
  have hE2 := neRoots (n : Int) l
  clear hg hx hm hs' okA
  go_upto_region 17 with (fail)
  clear hE1 hE2
  clear y0 y1 y2 y3 yl
  clear r0 r1 r2 r3 r4 r5 r6 r7 r8 rl
  clear u0 u1 u2 u3 ul
  clear t0 t1 t2 t3 t4 t5 t6 t7 t8 tl
  clear Br11 Bo11 Bs11
  go_wp2_with (fail)
  go_loopw [21] (fun i wr => ∃ j : Nat, j ≤ 160 ∧ i = .int .i64 j ∧ ∃ s1 s2, Lw true w wr b c (40 + 2 * j) s1 s2 qp qq za q ⟨q, 3, 2, 0⟩ ∧ s1.ws = s'.ws ∧ s2.ws = s'.ws) (fun i _ => 160 - (intOf i).toNat)
  case atStart => exact ⟨0, Nat.zero_le _, rfl, _, _, L11.mono (by decide), rfl, rfl⟩
  case round =>
    obtain ⟨j, hj, rfl, s1, s2, L, h1, h2⟩ := hrel
    clear L11
    have x4 : wr.cell? ⟨qp, 4, none⟩ = some (.int .i64 160) := L.bp.cell 4
    have xl := L.bp.lt
    by_cases hj8 : j < 160
    case pos =>
      have hjd : decide ((j : Int) < 160) = true := by simp; omega
      obtain ⟨v, hv⟩ : ∃ v, s'.got (j : Int) = v := ⟨_, rfl⟩
      have e1 : s1.got (j : Int) = v := (got_ws h1 _).trans hv
      have e2 : s2.got (j : Int) = v := (got_ws h2 _).trans hv
      clear hv
      go_wp2_with (first
        | (have hh := L3'; go_at_call 26; refine (lwLoad2 L3' (by omega) j).mono ?_; rintro e w13 ⟨rfl, L4', _⟩; rw [e2])
        | (go_at_call 26; refine (lwLoad L (by omega) j).mono ?_; rintro e w12 ⟨rfl, L3', _⟩; rw [e1]))
      go_roundw
      case rel => exact ⟨j + 1, by omega, by go_num, _, _, L4'.mono (by omega), h1, h2⟩
      case measure => simp [intOf]; omega
    case neg =>
      have hjd : decide ((j : Int) < 160) = false := by simp; omega
      go_wp2
      go_ret
      exact ⟨rfl, L.two.bel⟩
end Go.Proofs.YtikjigbjednbcaaDoor
