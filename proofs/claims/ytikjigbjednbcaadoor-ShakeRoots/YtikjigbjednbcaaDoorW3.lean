/-
  The walk of ShakeRoots.
-/
import Derived.Test.YtikjigbjednbcaaDoorKg
import Derived.Deep.Cut
import Derived.Deep.RegionHeld3
namespace Go.Proofs.YtikjigbjednbcaaDoor
set_option linter.unusedVariables false
set_option linter.unusedSimpArgs false
set_option maxRecDepth 100000
open Go.ChangeShapes Go.WideShapes Go.RowKit
open S.Plain (t0 t1 tw nx p0 p1 p2 p3 pw)
open H.Plain (hw pS pC pN pM pG pT pL)

set_option maxHeartbeats 8000000 in
theorem wShakeRoots (at_ : Option Addr) (lt ct : Nat) (zt : Nat → Int) (ao : Option Addr) (len cap : Nat) (z : Nat → Int) (fx : Bool) (w : World) (W : H.Wid w) (ci : CameI w at_ lt zt) (ci2 : CameI w ao len z) :
    Calls Tryd.prog 5 #[.slice at_ lt ct, .slice ao len cap, .bool fx] w fun e w' => e = .returned (.bool true) ∧ Below w.heap.size w w' := by
  obtain ⟨n, hn⟩ : ∃ n, someN len = n := ⟨_, rfl⟩
  obtain ⟨l, hl⟩ : ∃ l, someL len z = l := ⟨_, rfl⟩
  have hn8 : n ≤ 8 := hn ▸ someN_le len
  have ho : ∀ j, l j = 0 ∨ Obj (l j) := fun j => hl ▸ someL_obj' len z j
  obtain ⟨S, hS⟩ : ∃ S, laidS (tagP lt zt) (kd 0 1000) = S := ⟨_, rfl⟩
  have gS : Good S := hS ▸ laid_good _ _
  have rS : S.Rng := hS ▸ laid_rng _ _
  cases fx
  · go_enter Tryd.func5, Tryd.ntmps5
    go_upto_region 2 with (go_at_call 8; refine (cShown _ W).mono ?_; rintro e w1 ⟨rfl, hb1⟩)
    go_upto_region 3 with (go_at_call 9; refine (cLaid _ (W.on hb1) (ci.on hb1) (by decide) (by decide)).mono ?_; rintro e w2 ⟨b, y, rfl, h2⟩; have T2 := h2.lift hb1 W; rw [hS] at T2; clear h2)
    clear hb1
    go_upto_region 4 with (go_at_call 10; refine (cPlan34 _).mono ?_; rintro e v0 ⟨rfl, hv0⟩)
    have hvp : Below w2.heap.size w2 (v0.alloc (.cells #[.int .i64 3, .int .i64 4, .int .i64 13, .int .i64 32, .int .i64 160] 32)) := hv0.alloc hv0.size _
    have Tp := T2.below hvp
    have Bp : Blk w (v0.alloc (.cells #[.int .i64 3, .int .i64 4, .int .i64 13, .int .i64 32, .int .i64 160] 32)) v0.heap.size 32 planC := Blk.new (Nat.le_trans T2.bel.size hv0.size) _ (by decide)
    clear hvp
    generalize v0.alloc (.cells #[.int .i64 3, .int .i64 4, .int .i64 13, .int .i64 32, .int .i64 160] 32) = wp at Tp Bp ⊢
    generalize v0.heap.size = qp at Bp ⊢
    clear hv0 T2
    go_upto_region 7 with (fail)
    have Tq := Tp.alloc (.cells #[.int .i64 5, .int .i64 2, .int .i64 1, .int .i64 0] 37)
    have Bp' := Bp.below ((Below.refl wp.heap.size wp).alloc (Nat.le_refl _) (.cells #[.int .i64 5, .int .i64 2, .int .i64 1, .int .i64 0] 37))
    have Bq : Blk w (wp.alloc (.cells #[.int .i64 5, .int .i64 2, .int .i64 1, .int .i64 0] 37)) wp.heap.size 37 #[.int .i64 5, .int .i64 2, .int .i64 1, .int .i64 0] := Blk.new Tp.bel.size _ (by decide)
    generalize wp.alloc (.cells #[.int .i64 5, .int .i64 2, .int .i64 1, .int .i64 0] 37) = wq at Tq Bp' Bq ⊢
    generalize wp.heap.size = qq at Bq ⊢
    clear Tp Bp
    obtain ⟨q, hq⟩ : ∃ q : Ph, q = ⟨5, 2, 1, 0⟩ := ⟨_, rfl⟩
    have hqw : Ph.of q.w = q := of_w q (by rw [hq]; simp) (by rw [hq]; simp) (by rw [hq]; simp) (by rw [hq]; simp)
    have hq0 : q.no ≠ 0 := by rw [hq]; simp
    have hqm : Hid (q.md = 2 ∧ q.mr = 1) := by rw [hq]; exact ⟨rfl, rfl⟩
    have Bq' : Blk w wq qq 37 q.cells := by rw [hq]; exact Bq
    clear Bq hq
    have x0 : wq.cell? ⟨qp, 0, none⟩ = some (.int .i64 3) := Bp'.cell 0
    have x1 : wq.cell? ⟨qp, 1, none⟩ = some (.int .i64 4) := Bp'.cell 1
    have x2 : wq.cell? ⟨qp, 2, none⟩ = some (.int .i64 13) := Bp'.cell 2
    have x3 : wq.cell? ⟨qp, 3, none⟩ = some (.int .i64 32) := Bp'.cell 3
    have x4 : wq.cell? ⟨qp, 4, none⟩ = some (.int .i64 160) := Bp'.cell 4
    have xl := Bp'.lt
    have y0 : wq.cell? ⟨qq, 0, none⟩ = some (.int .i64 q.no) := Bq'.cell 0
    have y1 : wq.cell? ⟨qq, 1, none⟩ = some (.int .i64 q.md) := Bq'.cell 1
    have y2 : wq.cell? ⟨qq, 2, none⟩ = some (.int .i64 q.mr) := Bq'.cell 2
    have y3 : wq.cell? ⟨qq, 3, none⟩ = some (.int .i64 q.ls) := Bq'.cell 3
    have yl := Bq'.lt
    go_upto_region 8 with (go_at_call 12; refine (nAsk (w0 := w) U34 q 3 Tq.bel.size).mono ?_; rintro e w3 ⟨za, rfl, MA, hb3, hz3⟩)
    have L3 : Lw false w w3 b y 34 S S qp qq za q (AskS.new q 3) := ⟨Tq.below hb3, Bp'.below hb3, Bq'.below hb3, MA⟩
    clear x0 x1 x2 x3 x4 xl
    clear y0 y1 y2 y3 yl
    clear Tq Bp' Bq' MA hb3 hz3
    go_upto_region 9 with (go_at_call 11; refine (cSome (ci2.on L3.two.bel)).mono ?_; rintro e w4 ⟨rfl, hb4⟩; rw [hn, hl])
    have L5 := (L3.below hb4).below ((Below.refl w4.heap.size w4).alloc (Nat.le_refl _) (.cells #[.int .i64 n, .int .i64 (l 0), .int .i64 (l 1), .int .i64 (l 2), .int .i64 (l 3), .int .i64 (l 4), .int .i64 (l 5), .int .i64 (l 6), .int .i64 (l 7)] 42))
    have Br : Blk w (w4.alloc (.cells #[.int .i64 n, .int .i64 (l 0), .int .i64 (l 1), .int .i64 (l 2), .int .i64 (l 3), .int .i64 (l 4), .int .i64 (l 5), .int .i64 (l 6), .int .i64 (l 7)] 42)) w4.heap.size 42 (RCells n l) := Blk.new (Nat.le_trans L3.two.bel.size hb4.size) _ (by decide)
    generalize w4.alloc (.cells #[.int .i64 n, .int .i64 (l 0), .int .i64 (l 1), .int .i64 (l 2), .int .i64 (l 3), .int .i64 (l 4), .int .i64 (l 5), .int .i64 (l 6), .int .i64 (l 7)] 42) = w5 at L5 Br ⊢
    generalize w4.heap.size = qr at Br ⊢
    clear L3 hb4 hn hl
    have x0 : w5.cell? ⟨qp, 0, none⟩ = some (.int .i64 3) := L5.bp.cell 0
    have x1 : w5.cell? ⟨qp, 1, none⟩ = some (.int .i64 4) := L5.bp.cell 1
    have x2 : w5.cell? ⟨qp, 2, none⟩ = some (.int .i64 13) := L5.bp.cell 2
    have x3 : w5.cell? ⟨qp, 3, none⟩ = some (.int .i64 32) := L5.bp.cell 3
    have x4 : w5.cell? ⟨qp, 4, none⟩ = some (.int .i64 160) := L5.bp.cell 4
    have xl := L5.bp.lt
    have r0 : w5.cell? ⟨qr, 0, none⟩ = some (.int .i64 n) := Br.cell 0
    have r1 : w5.cell? ⟨qr, 1, none⟩ = some (.int .i64 (l 0)) := Br.cell 1
    have r2 : w5.cell? ⟨qr, 2, none⟩ = some (.int .i64 (l 1)) := Br.cell 2
    have r3 : w5.cell? ⟨qr, 3, none⟩ = some (.int .i64 (l 2)) := Br.cell 3
    have r4 : w5.cell? ⟨qr, 4, none⟩ = some (.int .i64 (l 3)) := Br.cell 4
    have r5 : w5.cell? ⟨qr, 5, none⟩ = some (.int .i64 (l 4)) := Br.cell 5
    have r6 : w5.cell? ⟨qr, 6, none⟩ = some (.int .i64 (l 5)) := Br.cell 6
    have r7 : w5.cell? ⟨qr, 7, none⟩ = some (.int .i64 (l 6)) := Br.cell 7
    have r8 : w5.cell? ⟨qr, 8, none⟩ = some (.int .i64 (l 7)) := Br.cell 8
    have rl := Br.lt
    go_upto_region 10 with (go_at_call 17; refine (nPoll (w0 := w) U34 (i := 0) (by decide) (by decide) Ph.zero 0 n l L5.two.bel.size).mono ?_; rintro e w6 ⟨zb, rfl, MB, hb6, hz6⟩)
    have L6 : Lm false w w6 b y 34 S S qp qq za zb q (AskS.new q 3) (PollS.new (10 + 0) Ph.zero 0 n l) := ⟨L5.below hb6, MB⟩
    have Br6 := Br.below hb6
    clear x0 x1 x2 x3 x4 xl
    clear r0 r1 r2 r3 r4 r5 r6 r7 r8 rl
    clear L5 Br MB hb6 hz6 hS
    have okA : (AskS.new q 3).Ok := ⟨by show 1 ≤ 2; omega, fun h => by simp [AskS.new] at h, by show 1 ≤ 3; omega, by show 3 ≤ 64; omega⟩
    go_upto_region 13 with (go_at_call 15; refine (lmAsk L6 okA rfl (by decide)).mono ?_; rintro e w7 ⟨rfl, L7, o7⟩)
    have Br7 := Br6.oth o7 (by simpa using Br6.ne L6.ask (by decide))
    clear L6 Br6 o7
    rw [ask1_mem, ask1_next] at L7
    obtain ⟨s', hs'⟩ : ∃ s', S.store 0 q.w = s' := ⟨_, rfl⟩
    have gs' : Good s' := hs' ▸ gS.asked q
    have hg : Ph.of (s'.got 0) = q := by rw [← hs', asked S gS.len q, hqw]
    have rs' : s'.Rng := hs' ▸ rS.store 0 (u64_pw _ _ _ _)
    have hso : ∀ a, Obj a → s'.got a = S.got a := fun a ha => by
      have := ha.ge
      rw [In.got gs'.len ha.in, In.got gS.len ha.in, ← hs', word_store gS.len In0 ha.in, if_neg (by omega)]
    rw [hs'] at L7
    have W0 : Wr s' q n l (PollS.new (10 + 0) Ph.zero 0 n l) s' 42 := ⟨gs', rs', rfl, rfl, rfl, rfl, rfl, rfl⟩
    clear hs' hqw okA rs'
    go_wp2_with (fail)
    go_loopw [16, 17] (fun dn i wr => ∃ (j r : Nat) (x : PollS) (s : St), r + j ≤ 42 ∧ i = .int .i64 j ∧ dn = .bool (x.wh.pc == 0) ∧ Lm false w wr b y (40 + j) s S qp qq za zb q ⟨q, 3, 2, 0⟩ x ∧ Blk w wr qr 42 (RCells n l) ∧ Wr s' q n l x s r) (fun _ i _ => 60 - (intOf i).toNat)
    case atStart => exact ⟨0, 42, _, _, by omega, rfl, rfl, L7.mono (by decide), Br7, W0⟩
    case round =>
      obtain ⟨j, r, x, s, hrj, rfl, rfl, L, Br, Wx⟩ := hrel
      clear L7 W0 Br7
      have hj60 : (j : Int) < 60 := by omega
      have rk := Wx.rank hn8
      by_cases hr : r = 0
      case neg =>
        have nd : x.wh.pc ≠ 0 := fun h => hr (rk.1.1 h)
        have hdn : (x.wh.pc == 0) = false := by simpa using nd
        rw [hdn]
        obtain ⟨r', hr', Wx'⟩ := Wx.step hn8 nd (fun j _ => ho j) hg hq0 hqm.1 hqm.2
        have hn8' : x.n ≤ 8 := by rw [Wx.2.2.1]; exact hn8
        have okx := Wx.ok
        obtain ⟨dn, hdn'⟩ : ∃ d, ((x.next s).wh.pc == 0) = d := ⟨_, rfl⟩
        have hrj' : r' + (j + 1) ≤ 42 := by omega
        clear hdn rk Wx hr hr'
        go_wp2_with (go_at_call 19; refine (lmPoll L okx nd hn8' (by omega)).mono ?_; rintro e w9 ⟨rfl, L10, o10⟩; rw [hdn']; have Br10 := Br.oth o10 (by have := L.poll.ne Br (by decide); simpa using Ne.symm this))
        go_roundw
        case rel => exact ⟨j + 1, r', x.next s, x.mem s, hrj', by go_num, by rw [hdn'], L10.mono (by omega), Br10, Wx'⟩
        case measure => simp [intOf]; omega
      case pos =>
        subst hr
        have hpc := rk.1.2 rfl
        have hdn : (x.wh.pc == 0) = true := by simpa using hpc
        have hfin : x.n = n ∧ x.own = q ∧ s.ws.length = 160 ∧ (∀ i, i < n → x.l i = l i) ∧ (∀ i, i < n → l i ≠ 0 → pM (s.got (l i)) = 1) := by
          obtain ⟨g, _, h2, h3, _, h⟩ := Wx
          revert h hpc
          cases x.wh <;> intro hpc h
          · exact ⟨h2, h.1, g.len, fun i _ => by rw [h3], fun i hi h0 => by rw [In.got g.len ((ho i).resolve_left h0).in]; exact h.2.1 i hi h0⟩
          all_goals simp [Wh.pc] at hpc
        rw [hdn]
        obtain ⟨hxn, hxo, hsl, hfin⟩ := hfin
        clear hdn rk Wx hpc hrj
        go_upto_region 19 with (go_at_call 20; refine (hResult L.poll).mono ?_; rintro e w10 ⟨rfl, hb10⟩; rw [hxn, hxo])
        have hbb : Below w10.heap.size w10 ((w10.alloc (.cells #[.int .i64 q.no, .int .i64 q.md, .int .i64 q.mr, .int .i64 q.ls] 37)).alloc (.cells #[.int .i64 n, .int .i64 (x.l 0), .int .i64 (x.l 1), .int .i64 (x.l 2), .int .i64 (x.l 3), .int .i64 (x.l 4), .int .i64 (x.l 5), .int .i64 (x.l 6), .int .i64 (x.l 7)] 42)) := ((Below.refl _ _).alloc (Nat.le_refl _) _).alloc (by simp) _
        have L11 := (L.toLw.below hb10).below hbb
        have Br11 := (Br.below hb10).below hbb
        have Bo11 : Blk w ((w10.alloc (.cells #[.int .i64 q.no, .int .i64 q.md, .int .i64 q.mr, .int .i64 q.ls] 37)).alloc (.cells #[.int .i64 n, .int .i64 (x.l 0), .int .i64 (x.l 1), .int .i64 (x.l 2), .int .i64 (x.l 3), .int .i64 (x.l 4), .int .i64 (x.l 5), .int .i64 (x.l 6), .int .i64 (x.l 7)] 42)) w10.heap.size 37 q.cells := (Blk.new (Nat.le_trans L.two.bel.size hb10.size) _ (by decide)).below ((Below.refl _ _).alloc (Nat.le_refl _) _)
        have Bs11 : Blk w ((w10.alloc (.cells #[.int .i64 q.no, .int .i64 q.md, .int .i64 q.mr, .int .i64 q.ls] 37)).alloc (.cells #[.int .i64 n, .int .i64 (x.l 0), .int .i64 (x.l 1), .int .i64 (x.l 2), .int .i64 (x.l 3), .int .i64 (x.l 4), .int .i64 (x.l 5), .int .i64 (x.l 6), .int .i64 (x.l 7)] 42)) (w10.heap.size + 1) 42 (RCells n x.l) := blk2 _ _ (Nat.le_trans L.two.bel.size hb10.size) (by decide)
        have L12 : Lw false w ((w10.alloc (.cells #[.int .i64 q.no, .int .i64 q.md, .int .i64 q.mr, .int .i64 q.ls] 37)).alloc (.cells #[.int .i64 n, .int .i64 (x.l 0), .int .i64 (x.l 1), .int .i64 (x.l 2), .int .i64 (x.l 3), .int .i64 (x.l 4), .int .i64 (x.l 5), .int .i64 (x.l 6), .int .i64 (x.l 7)] 42)) b y 110 s S qp qq za q ⟨q, 3, 2, 0⟩ := L11.mono (by omega)
        clear L Br hbb hb10 L11
        generalize (w10.alloc (.cells #[.int .i64 q.no, .int .i64 q.md, .int .i64 q.mr, .int .i64 q.ls] 37)).alloc (.cells #[.int .i64 n, .int .i64 (x.l 0), .int .i64 (x.l 1), .int .i64 (x.l 2), .int .i64 (x.l 3), .int .i64 (x.l 4), .int .i64 (x.l 5), .int .i64 (x.l 6), .int .i64 (x.l 7)] 42) = w11 at L12 Br11 Bo11 Bs11 ⊢
        generalize w10.heap.size + 1 = qs at Bs11 ⊢
        generalize w10.heap.size = qo at Bo11 ⊢
        generalize hxl : x.l = lx at Bs11 hfin ⊢
        clear hxl hxn hxo
        have y0 : w11.cell? ⟨qq, 0, none⟩ = some (.int .i64 q.no) := L12.bq.cell 0
        have y1 : w11.cell? ⟨qq, 1, none⟩ = some (.int .i64 q.md) := L12.bq.cell 1
        have y2 : w11.cell? ⟨qq, 2, none⟩ = some (.int .i64 q.mr) := L12.bq.cell 2
        have y3 : w11.cell? ⟨qq, 3, none⟩ = some (.int .i64 q.ls) := L12.bq.cell 3
        have yl := L12.bq.lt
        have u0 : w11.cell? ⟨qo, 0, none⟩ = some (.int .i64 q.no) := Bo11.cell 0
        have u1 : w11.cell? ⟨qo, 1, none⟩ = some (.int .i64 q.md) := Bo11.cell 1
        have u2 : w11.cell? ⟨qo, 2, none⟩ = some (.int .i64 q.mr) := Bo11.cell 2
        have u3 : w11.cell? ⟨qo, 3, none⟩ = some (.int .i64 q.ls) := Bo11.cell 3
        have ul := Bo11.lt
        have r0 : w11.cell? ⟨qr, 0, none⟩ = some (.int .i64 n) := Br11.cell 0
        have rl := Br11.lt
        have t0 : w11.cell? ⟨qs, 0, none⟩ = some (.int .i64 n) := Bs11.cell 0
        have tl := Bs11.lt
        have hE1 := nePh q.no q.md q.mr q.ls
        go_upto_region 21 with (fail)
        clear hE1 y0 y1 y2 y3 yl u0 u1 u2 u3 ul r0 rl t0 tl Bo11
        go_wp2_with (fail)
        go_loopw [21] (fun i wr => ∃ k : Nat, k ≤ n ∧ i = .int .i64 k ∧ ∃ s1, Lw false w wr b y (110 + k) s1 S qp qq za q ⟨q, 3, 2, 0⟩ ∧ s1.ws = s.ws ∧ Blk w wr qr 42 (RCells n l) ∧ Blk w wr qs 42 (RCells n lx)) (fun i _ => 8 - (intOf i).toNat)
        case atStart => exact ⟨0, Nat.zero_le _, rfl, _, L12, rfl, Br11, Bs11⟩
        case round =>
          obtain ⟨k, hk, rfl, s1, L, h1, Br, Bs⟩ := hrel
          clear L12 Br11 Bs11
          have r0 : wr.cell? ⟨qr, 0, none⟩ = some (.int .i64 n) := Br.cell 0
          have rl := Br.lt
          have tl := Bs.lt
          by_cases hkn : k < n
          case neg =>
            have hkd : decide ((k : Int) < (n : Int)) = false := by simp; omega
            go_wp2
            go_ret
            exact ⟨rfl, L.two.bel⟩
          case pos =>
            have hkd : (k : Int) < (n : Int) := by omega
            have hk8 : k < 8 := by omega
            have hki : (0 : Int) ≤ (k : Int) ∧ (k : Int) < 8 := by omega
            obtain ⟨a, ha⟩ : ∃ a, l k = a := ⟨_, rfl⟩
            have hoa : a = 0 ∨ Obj a := ha ▸ ho k
            have rk : wr.cell? ⟨qr, 1 + k, none⟩ = some (.int .i64 a) := (Br.cell _).trans ((RCells.get _ _ k hk8).trans (by rw [ha]))
            obtain ⟨v, hv⟩ : ∃ v, lx k = v := ⟨_, rfl⟩
            have tk : wr.cell? ⟨qs, 1 + k, none⟩ = some (.int .i64 v) := (Bs.cell _).trans ((RCells.get _ _ k hk8).trans (by rw [hv]))
            have hw : v = a := by rw [← hv, ← ha]; exact hfin.1 k hkn
            subst hw
            by_cases ha0 : v = 0
            · subst ha0
              clear hfin hoa ha hv
              go_wp2
              go_roundw
              case rel => exact ⟨k + 1, by omega, by go_num, _, L.mono (by omega), h1, Br, Bs⟩
              case measure => simp [intOf]; omega
            · have q1 : (v != 0) = true := by simpa using ha0
              have hM := hfin.2 k hkn (by rw [ha]; exact ha0)
              rw [ha] at hM
              obtain ⟨u, hu⟩ : ∃ u, s1.got v = u := ⟨_, rfl⟩
              rw [← got_ws h1, hu] at hM
              have hru : U64 u := hu ▸ L.two.rng1.got v
              have f3 := fh3 u
              rw [hM] at f3
              clear hfin hoa ha hv ha0
              go_wp2_with (first
                | (go_at_call 26; refine (lwLoad L (by omega) v).mono ?_; rintro e w12 ⟨rfl, L13, o13⟩; rw [hu])
                | (go_at_call 25; refine (H.rOf u hru.1 hru.2 _).mono ?_; rintro e w13 ⟨rfl, hw13⟩; rw [hM]; have hb13 : Below w12.heap.size w12 w13 := (by rw [hw13]; go_grown); clear hw13))
              go_roundw
              case rel => exact ⟨k + 1, by omega, by go_num, _, (L13.below hb13).mono (by omega), h1, (Br.oth o13 (by simp)).below hb13, (Bs.oth o13 (by simp)).below hb13⟩
              case measure => simp [intOf]; omega
  · go_enter Tryd.func5, Tryd.ntmps5
    go_upto_region 2 with (go_at_call 8; refine (cShown _ W).mono ?_; rintro e w1 ⟨rfl, hb1⟩)
    go_upto_region 3 with (go_at_call 9; refine (cLaid _ (W.on hb1) (ci.on hb1) (by decide) (by decide)).mono ?_; rintro e w2 ⟨b, y, rfl, h2⟩; have T2 := h2.lift hb1 W; rw [hS] at T2; clear h2)
    clear hb1
    go_upto_region 4 with (go_at_call 10; refine (cPlan34 _).mono ?_; rintro e v0 ⟨rfl, hv0⟩)
    have hvp : Below w2.heap.size w2 (v0.alloc (.cells #[.int .i64 3, .int .i64 4, .int .i64 13, .int .i64 32, .int .i64 160] 32)) := hv0.alloc hv0.size _
    have Tp := T2.below hvp
    have Bp : Blk w (v0.alloc (.cells #[.int .i64 3, .int .i64 4, .int .i64 13, .int .i64 32, .int .i64 160] 32)) v0.heap.size 32 planC := Blk.new (Nat.le_trans T2.bel.size hv0.size) _ (by decide)
    clear hvp
    generalize v0.alloc (.cells #[.int .i64 3, .int .i64 4, .int .i64 13, .int .i64 32, .int .i64 160] 32) = wp at Tp Bp ⊢
    generalize v0.heap.size = qp at Bp ⊢
    clear hv0 T2
    go_upto_region 7 with (fail)
    have Tq := Tp.alloc (.cells #[.int .i64 5, .int .i64 8, .int .i64 1, .int .i64 0] 37)
    have Bp' := Bp.below ((Below.refl wp.heap.size wp).alloc (Nat.le_refl _) (.cells #[.int .i64 5, .int .i64 8, .int .i64 1, .int .i64 0] 37))
    have Bq : Blk w (wp.alloc (.cells #[.int .i64 5, .int .i64 8, .int .i64 1, .int .i64 0] 37)) wp.heap.size 37 #[.int .i64 5, .int .i64 8, .int .i64 1, .int .i64 0] := Blk.new Tp.bel.size _ (by decide)
    generalize wp.alloc (.cells #[.int .i64 5, .int .i64 8, .int .i64 1, .int .i64 0] 37) = wq at Tq Bp' Bq ⊢
    generalize wp.heap.size = qq at Bq ⊢
    clear Tp Bp
    obtain ⟨q, hq⟩ : ∃ q : Ph, q = ⟨5, 8, 1, 0⟩ := ⟨_, rfl⟩
    have hqw : Ph.of q.w = q := of_w q (by rw [hq]; simp) (by rw [hq]; simp) (by rw [hq]; simp) (by rw [hq]; simp)
    have hq0 : q.no ≠ 0 := by rw [hq]; simp
    have hqm : Hid (q.md = 8 ∧ q.mr = 1) := by rw [hq]; exact ⟨rfl, rfl⟩
    have Bq' : Blk w wq qq 37 q.cells := by rw [hq]; exact Bq
    clear Bq hq
    have x0 : wq.cell? ⟨qp, 0, none⟩ = some (.int .i64 3) := Bp'.cell 0
    have x1 : wq.cell? ⟨qp, 1, none⟩ = some (.int .i64 4) := Bp'.cell 1
    have x2 : wq.cell? ⟨qp, 2, none⟩ = some (.int .i64 13) := Bp'.cell 2
    have x3 : wq.cell? ⟨qp, 3, none⟩ = some (.int .i64 32) := Bp'.cell 3
    have x4 : wq.cell? ⟨qp, 4, none⟩ = some (.int .i64 160) := Bp'.cell 4
    have xl := Bp'.lt
    have y0 : wq.cell? ⟨qq, 0, none⟩ = some (.int .i64 q.no) := Bq'.cell 0
    have y1 : wq.cell? ⟨qq, 1, none⟩ = some (.int .i64 q.md) := Bq'.cell 1
    have y2 : wq.cell? ⟨qq, 2, none⟩ = some (.int .i64 q.mr) := Bq'.cell 2
    have y3 : wq.cell? ⟨qq, 3, none⟩ = some (.int .i64 q.ls) := Bq'.cell 3
    have yl := Bq'.lt
    go_upto_region 8 with (go_at_call 12; refine (nAsk (w0 := w) U34 q 3 Tq.bel.size).mono ?_; rintro e w3 ⟨za, rfl, MA, hb3, hz3⟩)
    have L3 : Lw false w w3 b y 34 S S qp qq za q (AskS.new q 3) := ⟨Tq.below hb3, Bp'.below hb3, Bq'.below hb3, MA⟩
    clear x0 x1 x2 x3 x4 xl
    clear y0 y1 y2 y3 yl
    clear Tq Bp' Bq' MA hb3 hz3
    go_upto_region 9 with (go_at_call 11; refine (cSome (ci2.on L3.two.bel)).mono ?_; rintro e w4 ⟨rfl, hb4⟩; rw [hn, hl])
    have L5 := (L3.below hb4).below ((Below.refl w4.heap.size w4).alloc (Nat.le_refl _) (.cells #[.int .i64 n, .int .i64 (l 0), .int .i64 (l 1), .int .i64 (l 2), .int .i64 (l 3), .int .i64 (l 4), .int .i64 (l 5), .int .i64 (l 6), .int .i64 (l 7)] 42))
    have Br : Blk w (w4.alloc (.cells #[.int .i64 n, .int .i64 (l 0), .int .i64 (l 1), .int .i64 (l 2), .int .i64 (l 3), .int .i64 (l 4), .int .i64 (l 5), .int .i64 (l 6), .int .i64 (l 7)] 42)) w4.heap.size 42 (RCells n l) := Blk.new (Nat.le_trans L3.two.bel.size hb4.size) _ (by decide)
    generalize w4.alloc (.cells #[.int .i64 n, .int .i64 (l 0), .int .i64 (l 1), .int .i64 (l 2), .int .i64 (l 3), .int .i64 (l 4), .int .i64 (l 5), .int .i64 (l 6), .int .i64 (l 7)] 42) = w5 at L5 Br ⊢
    generalize w4.heap.size = qr at Br ⊢
    clear L3 hb4 hn hl
    have x0 : w5.cell? ⟨qp, 0, none⟩ = some (.int .i64 3) := L5.bp.cell 0
    have x1 : w5.cell? ⟨qp, 1, none⟩ = some (.int .i64 4) := L5.bp.cell 1
    have x2 : w5.cell? ⟨qp, 2, none⟩ = some (.int .i64 13) := L5.bp.cell 2
    have x3 : w5.cell? ⟨qp, 3, none⟩ = some (.int .i64 32) := L5.bp.cell 3
    have x4 : w5.cell? ⟨qp, 4, none⟩ = some (.int .i64 160) := L5.bp.cell 4
    have xl := L5.bp.lt
    have r0 : w5.cell? ⟨qr, 0, none⟩ = some (.int .i64 n) := Br.cell 0
    have r1 : w5.cell? ⟨qr, 1, none⟩ = some (.int .i64 (l 0)) := Br.cell 1
    have r2 : w5.cell? ⟨qr, 2, none⟩ = some (.int .i64 (l 1)) := Br.cell 2
    have r3 : w5.cell? ⟨qr, 3, none⟩ = some (.int .i64 (l 2)) := Br.cell 3
    have r4 : w5.cell? ⟨qr, 4, none⟩ = some (.int .i64 (l 3)) := Br.cell 4
    have r5 : w5.cell? ⟨qr, 5, none⟩ = some (.int .i64 (l 4)) := Br.cell 5
    have r6 : w5.cell? ⟨qr, 6, none⟩ = some (.int .i64 (l 5)) := Br.cell 6
    have r7 : w5.cell? ⟨qr, 7, none⟩ = some (.int .i64 (l 6)) := Br.cell 7
    have r8 : w5.cell? ⟨qr, 8, none⟩ = some (.int .i64 (l 7)) := Br.cell 8
    have rl := Br.lt
    go_upto_region 10 with (go_at_call 17; refine (nPoll (w0 := w) U34 (i := 0) (by decide) (by decide) Ph.zero 0 n l L5.two.bel.size).mono ?_; rintro e w6 ⟨zb, rfl, MB, hb6, hz6⟩)
    have L6 : Lm false w w6 b y 34 S S qp qq za zb q (AskS.new q 3) (PollS.new (10 + 0) Ph.zero 0 n l) := ⟨L5.below hb6, MB⟩
    have Br6 := Br.below hb6
    clear x0 x1 x2 x3 x4 xl
    clear r0 r1 r2 r3 r4 r5 r6 r7 r8 rl
    clear L5 Br MB hb6 hz6 hS
    have okA : (AskS.new q 3).Ok := ⟨by show 1 ≤ 2; omega, fun h => by simp [AskS.new] at h, by show 1 ≤ 3; omega, by show 3 ≤ 64; omega⟩
    go_upto_region 13 with (go_at_call 15; refine (lmAsk L6 okA rfl (by decide)).mono ?_; rintro e w7 ⟨rfl, L7, o7⟩)
    have Br7 := Br6.oth o7 (by simpa using Br6.ne L6.ask (by decide))
    clear L6 Br6 o7
    rw [ask1_mem, ask1_next] at L7
    obtain ⟨s', hs'⟩ : ∃ s', S.store 0 q.w = s' := ⟨_, rfl⟩
    have gs' : Good s' := hs' ▸ gS.asked q
    have hg : Ph.of (s'.got 0) = q := by rw [← hs', asked S gS.len q, hqw]
    have rs' : s'.Rng := hs' ▸ rS.store 0 (u64_pw _ _ _ _)
    have hso : ∀ a, Obj a → s'.got a = S.got a := fun a ha => by
      have := ha.ge
      rw [In.got gs'.len ha.in, In.got gS.len ha.in, ← hs', word_store gS.len In0 ha.in, if_neg (by omega)]
    rw [hs'] at L7
    have W0 : Wf s' q n l (PollS.new (10 + 0) Ph.zero 0 n l) s' 42 := ⟨gs'.len, rfl, rfl, rfl, rfl, rfl⟩
    clear hs' hqw okA rs'
    go_wp2_with (fail)
    go_loopw [16, 17] (fun dn i wr => ∃ (j r : Nat) (x : PollS) (s : St), r + j ≤ 42 ∧ i = .int .i64 j ∧ dn = .bool (x.wh.pc == 0) ∧ Lm false w wr b y (40 + j) s S qp qq za zb q ⟨q, 3, 2, 0⟩ x ∧ Blk w wr qr 42 (RCells n l) ∧ Wf s' q n l x s r) (fun _ i _ => 60 - (intOf i).toNat)
    case atStart => exact ⟨0, 42, _, _, by omega, rfl, rfl, L7.mono (by decide), Br7, W0⟩
    case round =>
      obtain ⟨j, r, x, s, hrj, rfl, rfl, L, Br, Wx⟩ := hrel
      clear L7 W0 Br7
      have hj60 : (j : Int) < 60 := by omega
      have rk := Wx.rank hn8
      by_cases hr : r = 0
      case neg =>
        have nd : x.wh.pc ≠ 0 := fun h => hr (rk.1.1 h)
        have hdn : (x.wh.pc == 0) = false := by simpa using nd
        rw [hdn]
        obtain ⟨r', hr', Wx'⟩ := Wx.step hn8 nd hg hq0 hqm.1
        have hn8' : x.n ≤ 8 := by rw [Wx.2.1]; exact hn8
        have okx := Wx.ok
        obtain ⟨dn, hdn'⟩ : ∃ d, ((x.next s).wh.pc == 0) = d := ⟨_, rfl⟩
        have hrj' : r' + (j + 1) ≤ 42 := by omega
        clear hdn rk Wx hr hr'
        go_wp2_with (go_at_call 19; refine (lmPoll L okx nd hn8' (by omega)).mono ?_; rintro e w9 ⟨rfl, L10, o10⟩; rw [hdn']; have Br10 := Br.oth o10 (by have := L.poll.ne Br (by decide); simpa using Ne.symm this))
        go_roundw
        case rel => exact ⟨j + 1, r', x.next s, x.mem s, hrj', by go_num, by rw [hdn'], L10.mono (by omega), Br10, Wx'⟩
        case measure => simp [intOf]; omega
      case pos =>
        subst hr
        have hpc := rk.1.2 rfl
        have hdn : (x.wh.pc == 0) = true := by simpa using hpc
        have hfin : x.n = n ∧ x.own = q ∧ s.ws.length = 160 ∧ (∀ i, i < n → x.l i = want s' l i) := by
          obtain ⟨h1, h2, h⟩ := Wx
          revert h hpc
          cases x.wh <;> intro hpc h
          · exact ⟨h2, h.1, h1, h.2.1⟩
          all_goals simp [Wh.pc] at hpc
        rw [hdn]
        obtain ⟨hxn, hxo, hsl, hfin⟩ := hfin
        clear hdn rk Wx hpc hrj
        go_upto_region 19 with (go_at_call 20; refine (hResult L.poll).mono ?_; rintro e w10 ⟨rfl, hb10⟩; rw [hxn, hxo])
        have hbb : Below w10.heap.size w10 ((w10.alloc (.cells #[.int .i64 q.no, .int .i64 q.md, .int .i64 q.mr, .int .i64 q.ls] 37)).alloc (.cells #[.int .i64 n, .int .i64 (x.l 0), .int .i64 (x.l 1), .int .i64 (x.l 2), .int .i64 (x.l 3), .int .i64 (x.l 4), .int .i64 (x.l 5), .int .i64 (x.l 6), .int .i64 (x.l 7)] 42)) := ((Below.refl _ _).alloc (Nat.le_refl _) _).alloc (by simp) _
        have L11 := (L.toLw.below hb10).below hbb
        have Br11 := (Br.below hb10).below hbb
        have Bo11 : Blk w ((w10.alloc (.cells #[.int .i64 q.no, .int .i64 q.md, .int .i64 q.mr, .int .i64 q.ls] 37)).alloc (.cells #[.int .i64 n, .int .i64 (x.l 0), .int .i64 (x.l 1), .int .i64 (x.l 2), .int .i64 (x.l 3), .int .i64 (x.l 4), .int .i64 (x.l 5), .int .i64 (x.l 6), .int .i64 (x.l 7)] 42)) w10.heap.size 37 q.cells := (Blk.new (Nat.le_trans L.two.bel.size hb10.size) _ (by decide)).below ((Below.refl _ _).alloc (Nat.le_refl _) _)
        have Bs11 : Blk w ((w10.alloc (.cells #[.int .i64 q.no, .int .i64 q.md, .int .i64 q.mr, .int .i64 q.ls] 37)).alloc (.cells #[.int .i64 n, .int .i64 (x.l 0), .int .i64 (x.l 1), .int .i64 (x.l 2), .int .i64 (x.l 3), .int .i64 (x.l 4), .int .i64 (x.l 5), .int .i64 (x.l 6), .int .i64 (x.l 7)] 42)) (w10.heap.size + 1) 42 (RCells n x.l) := blk2 _ _ (Nat.le_trans L.two.bel.size hb10.size) (by decide)
        have L12 : Lw false w ((w10.alloc (.cells #[.int .i64 q.no, .int .i64 q.md, .int .i64 q.mr, .int .i64 q.ls] 37)).alloc (.cells #[.int .i64 n, .int .i64 (x.l 0), .int .i64 (x.l 1), .int .i64 (x.l 2), .int .i64 (x.l 3), .int .i64 (x.l 4), .int .i64 (x.l 5), .int .i64 (x.l 6), .int .i64 (x.l 7)] 42)) b y 110 s S qp qq za q ⟨q, 3, 2, 0⟩ := L11.mono (by omega)
        clear L Br hbb hb10 L11
        generalize (w10.alloc (.cells #[.int .i64 q.no, .int .i64 q.md, .int .i64 q.mr, .int .i64 q.ls] 37)).alloc (.cells #[.int .i64 n, .int .i64 (x.l 0), .int .i64 (x.l 1), .int .i64 (x.l 2), .int .i64 (x.l 3), .int .i64 (x.l 4), .int .i64 (x.l 5), .int .i64 (x.l 6), .int .i64 (x.l 7)] 42) = w11 at L12 Br11 Bo11 Bs11 ⊢
        generalize w10.heap.size + 1 = qs at Bs11 ⊢
        generalize w10.heap.size = qo at Bo11 ⊢
        generalize hxl : x.l = lx at Bs11 hfin ⊢
        clear hxl hxn hxo
        have y0 : w11.cell? ⟨qq, 0, none⟩ = some (.int .i64 q.no) := L12.bq.cell 0
        have y1 : w11.cell? ⟨qq, 1, none⟩ = some (.int .i64 q.md) := L12.bq.cell 1
        have y2 : w11.cell? ⟨qq, 2, none⟩ = some (.int .i64 q.mr) := L12.bq.cell 2
        have y3 : w11.cell? ⟨qq, 3, none⟩ = some (.int .i64 q.ls) := L12.bq.cell 3
        have yl := L12.bq.lt
        have u0 : w11.cell? ⟨qo, 0, none⟩ = some (.int .i64 q.no) := Bo11.cell 0
        have u1 : w11.cell? ⟨qo, 1, none⟩ = some (.int .i64 q.md) := Bo11.cell 1
        have u2 : w11.cell? ⟨qo, 2, none⟩ = some (.int .i64 q.mr) := Bo11.cell 2
        have u3 : w11.cell? ⟨qo, 3, none⟩ = some (.int .i64 q.ls) := Bo11.cell 3
        have ul := Bo11.lt
        have r0 : w11.cell? ⟨qr, 0, none⟩ = some (.int .i64 n) := Br11.cell 0
        have rl := Br11.lt
        have t0 : w11.cell? ⟨qs, 0, none⟩ = some (.int .i64 n) := Bs11.cell 0
        have tl := Bs11.lt
        have hE1 := nePh q.no q.md q.mr q.ls
        go_upto_region 21 with (fail)
        clear hE1 y0 y1 y2 y3 yl u0 u1 u2 u3 ul r0 rl t0 tl Bo11
        go_wp2_with (fail)
        go_loopw [21] (fun i wr => ∃ k : Nat, k ≤ n ∧ i = .int .i64 k ∧ ∃ s1, Lw false w wr b y (110 + k) s1 S qp qq za q ⟨q, 3, 2, 0⟩ ∧ s1.ws = s.ws ∧ Blk w wr qr 42 (RCells n l) ∧ Blk w wr qs 42 (RCells n lx)) (fun i _ => 8 - (intOf i).toNat)
        case atStart => exact ⟨0, Nat.zero_le _, rfl, _, L12, rfl, Br11, Bs11⟩
        case round =>
          obtain ⟨k, hk, rfl, s1, L, h1, Br, Bs⟩ := hrel
          clear L12 Br11 Bs11
          have r0 : wr.cell? ⟨qr, 0, none⟩ = some (.int .i64 n) := Br.cell 0
          have rl := Br.lt
          have tl := Bs.lt
          by_cases hkn : k < n
          case neg =>
            have hkd : decide ((k : Int) < (n : Int)) = false := by simp; omega
            go_wp2
            go_ret
            exact ⟨rfl, L.two.bel⟩
          case pos =>
            have hkd : (k : Int) < (n : Int) := by omega
            have hk8 : k < 8 := by omega
            have hki : (0 : Int) ≤ (k : Int) ∧ (k : Int) < 8 := by omega
            obtain ⟨a, ha⟩ : ∃ a, l k = a := ⟨_, rfl⟩
            have hoa : a = 0 ∨ Obj a := ha ▸ ho k
            have rk : wr.cell? ⟨qr, 1 + k, none⟩ = some (.int .i64 a) := (Br.cell _).trans ((RCells.get _ _ k hk8).trans (by rw [ha]))
            obtain ⟨v, hv⟩ : ∃ v, lx k = v := ⟨_, rfl⟩
            have tk : wr.cell? ⟨qs, 1 + k, none⟩ = some (.int .i64 v) := (Bs.cell _).trans ((RCells.get _ _ k hk8).trans (by rw [hv]))
            have hw := hfin k hkn
            rw [hv, want, ha] at hw
            by_cases ha0 : a = 0
            · subst ha0
              rw [if_pos rfl] at hw
              subst hw
              clear hfin hoa ha hv
              go_wp2
              go_roundw
              case rel => exact ⟨k + 1, by omega, by go_num, _, L.mono (by omega), h1, Br, Bs⟩
              case measure => simp [intOf]; omega
            · rw [if_neg ha0, hso a (hoa.resolve_left ha0)] at hw
              have q1 : (a != 0) = true := by simpa using ha0
              obtain ⟨i, hi, hai⟩ := hoa.resolve_left ha0
              obtain ⟨an, han⟩ : ∃ an : Nat, a = (an : Int) := ⟨96 + 4 * i, by omega⟩
              have hI : In a := ⟨by omega, by omega⟩
              obtain ⟨g, cp, hSn⟩ := seen2 L.two
              obtain ⟨u, hu⟩ : ∃ u, S.ws.getD an 0 = u := ⟨_, rfl⟩
              have hgu : S.got a = u := by rw [In.got gS.len hI, ← hu, han]; simp only [St.word, Int.toNat_natCast]
              have hru : U64 u := hgu ▸ rS.got a
              have x0 : wr.cell? ⟨y, 0, none⟩ = some (.slice (some ⟨g, 0, none⟩) 160 cp) := gS.len ▸ hSn.c0
              have xj : wr.cell? ⟨g, an, none⟩ = some (.int .u64 u) := hu ▸ hSn.cw an (by rw [gS.len]; omega)
              rw [hgu] at hw
              have ly := hSn.ly
              have lg := hSn.lg
              have han160 : an < 160 := by omega
              clear hi hai hoa ha0 hfin ha hv hgu hu hSn
              subst han
              have hmv : H.Plain.mv u (an : Int) = v := hw.symm
              clear hw hI
              go_wp2_with (go_at_call 24; refine (H.rMoved u (an : Int) hru.1 hru.2 _).mono ?_; rintro e w12 ⟨rfl, hw12⟩; rw [hmv]; have hb12 : Below wr.heap.size wr w12 := (by rw [hw12]; go_grown); clear hw12; have L13 := L.below hb12; have Br13 := Br.below hb12; have Bs13 := Bs.below hb12; have tk2 : w12.cell? ⟨qs, 1 + k, none⟩ = some (.int .i64 v) := (hb12.cell tl).trans tk; have rk2 : w12.cell? ⟨qr, 1 + k, none⟩ = some (.int .i64 (an : Int)) := (hb12.cell rl).trans rk; have tl2 := Bs13.lt; have rl2 := Br13.lt)
              go_roundw
              case rel => exact ⟨k + 1, by omega, by go_num, _, L13.mono (by omega), h1, Br13, Bs13⟩
              case measure => simp [intOf]; omega
end Go.Proofs.YtikjigbjednbcaaDoor
