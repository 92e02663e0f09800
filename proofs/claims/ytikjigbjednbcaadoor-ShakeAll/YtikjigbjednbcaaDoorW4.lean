/-
  The walk of ShakeAll.
-/
import Derived.Test.YtikjigbjednbcaaDoorKk
import Derived.Test.YtikjigbjednbcaaDoorOi
import Derived.Deep.Cut
import Derived.Deep.RegionHeld3
namespace Go.Proofs.YtikjigbjednbcaaDoor
set_option linter.unusedVariables false
set_option linter.unusedSimpArgs false
set_option maxRecDepth 100000
open Go.ChangeShapes Go.WideShapes Go.RowKit
open S.Plain (t0 t1 tw nx p0 p1 p2 p3 pw)
open H.Plain (hw pS pC pN pM pG pT pL)

set_option maxHeartbeats 8000000 in
theorem wShakeAll (mode : Int) (ap : Option Addr) (lp cp : Nat) (zp : Nat → Int) (m0 : -9223372036854775808 ≤ mode) (m1 : mode ≤ 9223372036854775807) (w : World) (W : H.Wid w) (ip : CameI w ap lp zp) (hl : lp ≤ 17592186044416) :
    Calls Tryd.prog 4 #[.int .i64 mode, .slice ap lp cp] w fun e w' => e = .returned (.bool true) ∧ Below w.heap.size w w' := by
  obtain ⟨S, hS⟩ : ∃ S, laidS (tagP 0 (fun _ => 0)) (kd 0 1000) = S := ⟨_, rfl⟩
  have hSl : S.ws.length = 160 := by rw [← hS]; exact laid_len _ _
  have hSa : S.got 10 = 0 ∧ S.got 11 = 0 ∧ S.got 12 = 0 ∧ S.t = 0 := by rw [← hS]; decide +kernel
  obtain ⟨km, hkm⟩ : ∃ km, kd mode 9 = km := ⟨_, rfl⟩
  have hkb : 0 ≤ km ∧ km < 9 := hkm ▸ kd_lt mode 9 (by decide)
  obtain ⟨m1', hm1⟩ : ∃ m : Nat, m = if lp < 100 then lp else 100 := ⟨_, rfl⟩
  have hmm : m1' ≤ 100 ∧ m1' ≤ lp ∧ (m1' = lp ∨ m1' = 100) := by rw [hm1]; split <;> omega
  clear hm1
  go_enter Tryd.func4, Tryd.ntmps4
  go_upto_region 2 with (go_at_call 8; refine (cShown _ W).mono ?_; rintro e w1 ⟨rfl, hb1⟩)
  go_upto_region 3 with (go_at_call 9; refine (cLaid _ (W.on hb1) (lt := 0) (zt := fun _ => 0) (.inl rfl) (by decide) (by decide)).mono ?_; rintro e w2 ⟨b, y, rfl, h2⟩; have T2 := h2.lift hb1 W; rw [hS] at T2; clear h2)
  clear hb1
  go_upto_region 4 with (go_at_call 10; refine (cPlan34 _).mono ?_; rintro e v0 ⟨rfl, hv0⟩)
  have hvp : Below w2.heap.size w2 (v0.alloc (.cells #[.int .i64 3, .int .i64 4, .int .i64 13, .int .i64 32, .int .i64 160] 32)) := hv0.alloc hv0.size _
  have Tp := T2.below hvp
  have Bp : Blk w (v0.alloc (.cells #[.int .i64 3, .int .i64 4, .int .i64 13, .int .i64 32, .int .i64 160] 32)) v0.heap.size 32 planC := Blk.new (Nat.le_trans T2.bel.size hv0.size) _ (by decide)
  clear hvp
  generalize v0.alloc (.cells #[.int .i64 3, .int .i64 4, .int .i64 13, .int .i64 32, .int .i64 160] 32) = wp at Tp Bp ⊢
  generalize v0.heap.size = qp at Bp ⊢
  clear hv0 T2
  go_upto_region 5 with (go_at_call 14; refine (cKind _ mode 9 m0 m1 (by decide)).mono ?_; rintro e wk ⟨rfl, hwk⟩; rw [hwk, hkm]; clear hwk wk)
  have Tq := Tp.alloc (.cells #[.int .i64 5, .int .i64 km, .int .i64 0, .int .i64 0] 37)
  have Bp' := Bp.below ((Below.refl wp.heap.size wp).alloc (Nat.le_refl _) (.cells #[.int .i64 5, .int .i64 km, .int .i64 0, .int .i64 0] 37))
  have Bq : Blk w (wp.alloc (.cells #[.int .i64 5, .int .i64 km, .int .i64 0, .int .i64 0] 37)) wp.heap.size 37 #[.int .i64 5, .int .i64 km, .int .i64 0, .int .i64 0] := Blk.new Tp.bel.size _ (by decide)
  generalize wp.alloc (.cells #[.int .i64 5, .int .i64 km, .int .i64 0, .int .i64 0] 37) = wq at Tq Bp' Bq ⊢
  generalize wp.heap.size = qq at Bq ⊢
  clear Tp Bp
  obtain ⟨q, hq⟩ : ∃ q : Ph, q = ⟨5, km, 0, 0⟩ := ⟨_, rfl⟩
  have hqw : Ph.of q.w = q := of_w q (by rw [hq]; simp) (by rw [hq]; simp; omega) (by rw [hq]; simp) (by rw [hq]; simp)
  have hq5 : Hid (q.no = 5) := by rw [hq]; rfl
  have Bq' : Blk w wq qq 37 q.cells := by rw [hq]; exact Bq
  clear Bq hkm hq hkb
  have x0 : wq.cell? ⟨qp, 0, none⟩ = some (.int .i64 3) := Bp'.cell 0
  have x1 : wq.cell? ⟨qp, 1, none⟩ = some (.int .i64 4) := Bp'.cell 1
  have x2 : wq.cell? ⟨qp, 2, none⟩ = some (.int .i64 13) := Bp'.cell 2
  have x3 : wq.cell? ⟨qp, 3, none⟩ = some (.int .i64 32) := Bp'.cell 3
  have x4 : wq.cell? ⟨qp, 4, none⟩ = some (.int .i64 160) := Bp'.cell 4
  have xl := Bp'.lt
  have y0 : wq.cell? ⟨qq, 0, none⟩ = some (.int .i64 q.no) := Bq'.cell 0
  have y1 : wq.cell? ⟨qq, 1, none⟩ = some (.int .i64 q.md) := Bq'.cell 1
  have y2 : wq.cell? ⟨qq, 2, none⟩ = some (.int .i64 q.mr) := Bq'.cell 2
  have y3 : wq.cell? ⟨qq, 3, none⟩ = some (.int .i64 q.ls) := Bq'.cell 3
  have yl := Bq'.lt
  go_upto_region 6 with (go_at_call 12; refine (nAsk (w0 := w) U34 q 3 Tq.bel.size).mono ?_; rintro e w3 ⟨za, rfl, MA, hb3, hz3⟩)
  have L3 : Lw false w w3 b y 34 S S qp qq za q (AskS.new q 3) := ⟨Tq.below hb3, Bp'.below hb3, Bq'.below hb3, MA⟩
  clear x0 x1 x2 x3 x4 xl
  clear y0 y1 y2 y3 yl
  clear Tq Bp' Bq' MA hb3 hz3 hS
  have okA : (AskS.new q 3).Ok := ⟨by show 1 ≤ 2; omega, fun h => by simp [AskS.new] at h, by show 1 ≤ 3; omega, by show 3 ≤ 64; omega⟩
  go_upto_region 9 with (go_at_call 15; refine (lwAsk L3 okA rfl (by decide)).mono ?_; rintro e w7 ⟨rfl, L7, _⟩)
  clear L3
  rw [ask1_mem, ask1_next] at L7
  obtain ⟨s', hs'⟩ : ∃ s', S.store 0 q.w = s' := ⟨_, rfl⟩
  have gm : Gm q s' := ⟨by rw [← hs']; exact n_store' hSl _ _, by rw [← hs', t_store hSl In0]; exact hSa.2.2.2, by rw [← hs']; exact asked S hSl q⟩
  have hak : ∀ k : Nat, k < 3 → s'.got (10 + (k : Int)) ≠ 5 := fun k hk => by
    have ii : In (10 + (k : Int)) := ⟨by omega, by omega⟩
    have e : s'.got (10 + (k : Int)) = S.got (10 + (k : Int)) := by rw [In.got gm.len ii, In.got hSl ii, ← hs', word_store hSl In0 ii, if_neg (by omega)]
    rw [e]
    rcases k3 hk with rfl | rfl | rfl
    · rw [show (10 + ((0 : Nat) : Int)) = 10 from rfl, hSa.1]; omega
    · rw [show (10 + ((1 : Nat) : Int)) = 11 from rfl, hSa.2.1]; omega
    · rw [show (10 + ((2 : Nat) : Int)) = 12 from rfl, hSa.2.2.1]; omega
  rw [hs'] at L7
  have T0 : ∀ k : Nat, k < 3 → Th q s' k Ph.zero none 3 := fun k hk => .inl ⟨rfl, rfl, hak k hk⟩
  have A0 : Ak q s' ⟨q, 3, 2, 0⟩ 3 := ⟨rfl, rfl, ⟨by show 2 ≤ 2; omega, fun _ => by show 0 < 3; omega, by show 1 ≤ 3; omega, by show 3 ≤ 64; omega⟩, .inr ⟨rfl, by show 0 < 3; omega, rfl, fun j hj => absurd hj (Nat.not_lt_zero j)⟩⟩
  have R0 := Rk.start m1'
  clear hak hs' hSa okA
  go_upto_region 10 with (fail)
  have hbo : Below w7.heap.size w7 (w7.alloc (.cells #[.int .i64 0, .int .i64 0, .int .i64 0, .int .i64 0, .int .i64 0, .int .i64 0, .int .i64 0, .int .i64 0, .int .i64 0, .int .i64 0, .int .i64 0, .int .i64 0] 38)) := (Below.refl _ _).alloc (Nat.le_refl _) _
  have Bo8 : Blk w (w7.alloc (.cells #[.int .i64 0, .int .i64 0, .int .i64 0, .int .i64 0, .int .i64 0, .int .i64 0, .int .i64 0, .int .i64 0, .int .i64 0, .int .i64 0, .int .i64 0, .int .i64 0] 38)) w7.heap.size 38 (own3 (fun _ => Ph.zero)) := Blk.new L7.two.bel.size _ (by decide)
  have L8 := L7.below hbo
  generalize w7.alloc (.cells #[.int .i64 0, .int .i64 0, .int .i64 0, .int .i64 0, .int .i64 0, .int .i64 0, .int .i64 0, .int .i64 0, .int .i64 0, .int .i64 0, .int .i64 0, .int .i64 0] 38) = w8 at L8 Bo8 ⊢
  generalize w7.heap.size = qo at Bo8 ⊢
  clear L7 hbo
  go_upto_region 11 with (fail)
  have hba : Below w8.heap.size w8 (w8.alloc (.cells #[.pointer none, .pointer none, .pointer none] 46)) := (Below.refl _ _).alloc (Nat.le_refl _) _
  have Ba9 : Blk w (w8.alloc (.cells #[.pointer none, .pointer none, .pointer none] 46)) w8.heap.size 46 (arr3 (fun _ => .pointer none)) := Blk.new L8.two.bel.size _ (by decide)
  have M9 : Al w (w8.alloc (.cells #[.pointer none, .pointer none, .pointer none] 46)) b y 35 s' S qp qq za qo w8.heap.size q ⟨q, 3, 2, 0⟩ (fun _ => Ph.zero) (fun _ => .pointer none) (fun _ => none) := ⟨L8.below hba, Bo8.below hba, Ba9, fun k hk => .inl ⟨rfl, rfl⟩, fun j k p _ _ _ e1 _ => by simp at e1⟩
  generalize w8.alloc (.cells #[.pointer none, .pointer none, .pointer none] 46) = w9 at M9 ⊢
  generalize w8.heap.size = qa at M9 ⊢
  clear L8 Bo8 Ba9 hba
  go_wp2_with (fail)
  go_loopw [14] (fun i wr => ∃ (j : Nat) (s : St) (a : AskS) (ow : Nat → Ph) (pa : Nat → Value) (bs : Nat → Option PollS) (r : Nat → Nat) (ra : Nat), j ≤ m1' + 40 ∧ i = .int .i64 j ∧ Al w wr b y (100 + 2 * j) s S qp qq za qo qa q a ow pa bs ∧ Gm q s ∧ (∀ k, k < 3 → Th q s k (ow k) (bs k) (r k)) ∧ Ak q s a ra ∧ Rk m1' j r ra) (fun i _ => 140 - (intOf i).toNat)
  case atStart => exact ⟨0, s', _, _, _, _, _, _, by omega, rfl, M9.mono (by decide), gm, T0, A0, R0⟩
  case round =>
    obtain ⟨j, s, a, ow, pa, bs, r, ra, hj, rfl, M, g, T, A, R⟩ := hrel
    clear M9 gm T0 A0 R0
    have hlp : (lp : Int) ≤ 17592186044416 := by omega
    have hlp0 : (0 : Int) ≤ (lp : Int) := by omega
    have hj140 : (0 : Int) ≤ (j : Int) ∧ (j : Int) ≤ 140 := by omega
    have hml := hmm
    by_cases hje : j < m1' + 40
    case neg =>
      obtain rfl : j = m1' + 40 := by omega
      have hra : ra = 0 := R.last
      subst hra
      have hpc : a.pc = 0 := by
        rcases A.at_ with ⟨h, _⟩ | ⟨_, h1, h2, _⟩
        · exact h
        · omega
      have hst : a.next s = a ∧ a.mem s = s := by
        obtain ⟨aq, aN, pc, k⟩ := a
        obtain rfl : pc = 0 := hpc
        exact ⟨rfl, rfl⟩
      have hd : ((a.next s).pc == 0) = true := by rw [hst.1, hpc]; rfl
      have ht := g.t
      have hcond : decide (((m1' + 40 : Nat) : Int) < (lp : Int) + 40) = false ∨ decide (((m1' + 40 : Nat) : Int) < (lp : Int) + 40) = true ∧ decide (((m1' + 40 : Nat) : Int) < 140) = false := by
        rcases Nat.lt_or_ge m1' lp with h | h
        · exact .inr ⟨by simp; omega, by simp; omega⟩
        · exact .inl (by simp; omega)
      obtain ⟨jj, hjj⟩ : ∃ jj : Nat, m1' + 40 = jj := ⟨_, rfl⟩
      rw [hjj] at hcond M ⊢
      have hjb : jj ≤ 140 := by omega
      clear hjj hmm hj140 hje hpc R hml
      rcases hcond with h1 | ⟨h1, h2⟩
      all_goals (
        go_wp2_with (first
          | (go_at_call 15; refine (alAsk M A.ok A.N (by omega)).mono ?_; rintro e w9 ⟨rfl, M9⟩; rw [hd]; rw [hst.2] at M9)
          | (go_at_call 23; refine (hTraps M9.two.one).mono ?_; rintro e wt ⟨rfl, hwt⟩; rw [hwt]; (try rw [ht]); clear hwt wt))
        go_ret
        exact ⟨rfl, M9.two.bel⟩)
    case pos =>
      have hc1 : decide ((j : Int) < (lp : Int) + 40) = true := by simp; omega
      have hc2 : decide ((j : Int) < 140) = true := by simp; omega
      clear hml
      go_upto_region 15 with (fail)
      generalize hrem : (j : Int) % 4 = rr
      by_cases hjm : j < m1'
      · obtain ⟨kb, koff, rfl, hkb, hz⟩ : ∃ b off, ap = some ⟨b, off, none⟩ ∧ b < wr.heap.size ∧ ∀ j, j < lp → wr.cell? ⟨b, off + j, none⟩ = some (.int .i64 (zp j)) ∧ -9223372036854775808 ≤ zp j ∧ zp j ≤ 9223372036854775807 := (ip.on M.two.bel).resolve_left (by omega)
        obtain ⟨d0, dl, du⟩ := hz j (by omega)
        obtain ⟨z, hzz⟩ : ∃ z, zp j = z := ⟨_, rfl⟩
        rw [hzz] at d0 dl du
        clear hz hzz
        obtain ⟨kk, hkk, hk4⟩ : ∃ kk : Nat, kd z 4 = (kk : Int) ∧ kk < 4 := ⟨(kd z 4).toNat, by have := kd_lt z 4 (by decide); omega, by have := kd_lt z 4 (by decide); omega⟩
        have hki : m1' ≤ j → kk = j % 4 := fun h => by omega
        have hd3 : decide ((j : Int) < (lp : Int)) = true := by simp; omega
        have hd4 : decide ((j : Int) < 100) = true := by simp; omega
        clear hrem
        go_upto_region 17 with (go_at_call 14; refine (cKind _ z 4 dl du (by decide)).mono ?_; rintro e wk ⟨rfl, hwk⟩; rw [hwk, hkk]; clear hwk wk)
        clear d0 hkb hd3 hd4
        by_cases hk3' : kk = 3
        · have hk3 : ((kk : Int) == 3) = true := by simp [hk3']
          obtain ⟨gm', hsame, hall, ra', hle, A', hdec⟩ := A.turn g hq5
          have T' : ∀ i, i < 3 → Th q (a.mem s) i (ow i) (bs i) (r i) := fun i hi => (T i hi).same (hsame _)
          have R' : Rk m1' (j + 1) r ra' := R.ask (fun h => by have := hki h; omega) hle (fun hz => hdec (fun i hi => ((hz i hi) ▸ T i hi : Th q s i (ow i) (bs i) 0).zero.2))
          clear hdec hk3'
          rcases hd : (a.next s).pc == 0 with _ | _
          · clear hall
            go_wp2_with (go_at_call 15; refine (alAsk M A.ok A.N (by omega)).mono ?_; rintro e w9 ⟨rfl, M9⟩; rw [hd])
            go_roundw
            case rel => exact ⟨j + 1, a.mem s, a.next s, ow, pa, bs, r, ra', by omega, by go_num, M9.mono (by omega), gm', T', A', R'⟩
            case measure => simp [intOf]; omega
            all_goals exact ⟨⟨j + 1, a.mem s, a.next s, ow, pa, bs, r, ra', by omega, by go_num, M9.mono (by omega), gm', T', A', R'⟩, by simp [intOf]; omega⟩
          · have hz : (a.next s).pc = 0 := by simpa using hd
            have hO : ∀ i, i < 3 → ow i = q := fun i hi => (T i hi).acked (hall hz i hi)
            clear hall hz
            go_upto_region 19 with (go_at_call 15; refine (alAsk M A.ok A.N (by omega)).mono ?_; rintro e w9 ⟨rfl, M9⟩; rw [hd])
            obtain ⟨c0, c1, c2, c3⟩ := M9.co (by decide : 0 < 3) (hO 0 (by decide))
            obtain ⟨c4, c5, c6, c7⟩ := M9.co (by decide : 1 < 3) (hO 1 (by decide))
            obtain ⟨c8, c9, c10, c11⟩ := M9.co (by decide : 2 < 3) (hO 2 (by decide))
            simp only [Nat.zero_mul, Nat.one_mul, Nat.zero_add, Nat.reduceMul, Nat.reduceAdd] at c0 c1 c2 c3 c4 c5 c6 c7 c8 c9 c10 c11
            have cl := M9.bo.lt
            have y0 : w9.cell? ⟨qq, 0, none⟩ = some (.int .i64 q.no) := M9.bq.cell 0
            have y1 : w9.cell? ⟨qq, 1, none⟩ = some (.int .i64 q.md) := M9.bq.cell 1
            have y2 : w9.cell? ⟨qq, 2, none⟩ = some (.int .i64 q.mr) := M9.bq.cell 2
            have y3 : w9.cell? ⟨qq, 3, none⟩ = some (.int .i64 q.ls) := M9.bq.cell 3
            have yl := M9.bq.lt
            have hE := nePh q.no q.md q.mr q.ls
            clear hO
            go_wp2_with (fail)
            go_roundw
            case rel => exact ⟨j + 1, a.mem s, a.next s, ow, pa, bs, r, ra', by omega, by go_num, M9.mono (by omega), gm', T', A', R'⟩
            case measure => simp [intOf]; omega
            all_goals exact ⟨⟨j + 1, a.mem s, a.next s, ow, pa, bs, r, ra', by omega, by go_num, M9.mono (by omega), gm', T', A', R'⟩, by simp [intOf]; omega⟩
        · have hk3 : kk < 3 := by omega
          have hkq : ((kk : Int) == 3) = false := by simp; omega
          have hki3 : (0 : Int) ≤ (kk : Int) ∧ (kk : Int) < 3 := by omega
          rcases M.either hk3 with ⟨hpk, hbk⟩ | ⟨p, X, hpk, hbk, _⟩
          · have Tn : Turn q s kk (ow kk) (PollS.new (10 + (kk : Int)) (ow kk) 0 0 no0) (r kk) := by have := (T kk hk3).turn hk3 g hqw hq5; rw [hbk] at this; exact this
            obtain ⟨o, ho⟩ : ∃ o, ow kk = o := ⟨_, rfl⟩
            rw [ho] at Tn
            have cp := M.ca hk3 hpk
            have cpl := M.ba.lt
            go_upto_region 22 with (fail)
            clear cp cpl
            have keep : ∀ w', Below wr.heap.size wr w' → w'.cell? ⟨qp, 0, none⟩ = some (.int .i64 3) ∧ w'.cell? ⟨qp, 1, none⟩ = some (.int .i64 4) ∧ w'.cell? ⟨qp, 2, none⟩ = some (.int .i64 13) ∧ w'.cell? ⟨qp, 3, none⟩ = some (.int .i64 32) ∧ w'.cell? ⟨qp, 4, none⟩ = some (.int .i64 160) ∧ w'.cell? ⟨qo, kk * 4, none⟩ = some (.int .i64 o.no) ∧ w'.cell? ⟨qo, kk * 4 + 1, none⟩ = some (.int .i64 o.md) ∧ w'.cell? ⟨qo, kk * 4 + 2, none⟩ = some (.int .i64 o.mr) ∧ w'.cell? ⟨qo, kk * 4 + 3, none⟩ = some (.int .i64 o.ls) := fun w' hb => ⟨(M.below hb).bp.cell 0, (M.below hb).bp.cell 1, (M.below hb).bp.cell 2, (M.below hb).bp.cell 3, (M.below hb).bp.cell 4, ((M.below hb).co hk3 ho).1, ((M.below hb).co hk3 ho).2.1, ((M.below hb).co hk3 ho).2.2.1, ((M.below hb).co hk3 ho).2.2.2⟩
            have hbd : Below wr.heap.size wr wr.drew := (Below.refl wr.heap.size wr).drew
            have RD := keep _ hbd
            have pl := M.bp.lt
            have ol := M.bo.lt
            have al := M.ba.lt
            have hki' : (0 : Int) ≤ (kk : Int) ∧ (kk : Int) < 3 := by omega
            go_region_held3 (fun w' => w'.cell? ⟨qp, 0, none⟩ = some (.int .i64 3) ∧ w'.cell? ⟨qp, 1, none⟩ = some (.int .i64 4) ∧ w'.cell? ⟨qp, 2, none⟩ = some (.int .i64 13) ∧ w'.cell? ⟨qp, 3, none⟩ = some (.int .i64 32) ∧ w'.cell? ⟨qp, 4, none⟩ = some (.int .i64 160) ∧ w'.cell? ⟨qo, kk * 4, none⟩ = some (.int .i64 o.no) ∧ w'.cell? ⟨qo, kk * 4 + 1, none⟩ = some (.int .i64 o.md) ∧ w'.cell? ⟨qo, kk * 4 + 2, none⟩ = some (.int .i64 o.mr) ∧ w'.cell? ⟨qo, kk * 4 + 3, none⟩ = some (.int .i64 o.ls)) (first | assumption | exact RD | exact S6 | exact keep _ (by assumption))
              ((go_at_call 17; refine (nPoll (w0 := w) U34 (i := (kk : Int)) (by omega) (by omega) o 0 0 no0 (Nat.le_trans M.two.bel.size hbd.size)).mono ?_; rintro e w5 ⟨zb, rfl, MB, hb5', hz5⟩; have hb5 : Below wr.heap.size wr w5 := bel_trans hbd hb5'; have M6 := M.born hk3 hb5 MB (Nat.le_trans hbd.size hz5); have S6 : (w5.setCell ⟨qa, kk, none⟩ (pt zb)).cell? ⟨qp, 0, none⟩ = some (.int .i64 3) ∧ (w5.setCell ⟨qa, kk, none⟩ (pt zb)).cell? ⟨qp, 1, none⟩ = some (.int .i64 4) ∧ (w5.setCell ⟨qa, kk, none⟩ (pt zb)).cell? ⟨qp, 2, none⟩ = some (.int .i64 13) ∧ (w5.setCell ⟨qa, kk, none⟩ (pt zb)).cell? ⟨qp, 3, none⟩ = some (.int .i64 32) ∧ (w5.setCell ⟨qa, kk, none⟩ (pt zb)).cell? ⟨qp, 4, none⟩ = some (.int .i64 160) ∧ (w5.setCell ⟨qa, kk, none⟩ (pt zb)).cell? ⟨qo, kk * 4, none⟩ = some (.int .i64 o.no) ∧ (w5.setCell ⟨qa, kk, none⟩ (pt zb)).cell? ⟨qo, kk * 4 + 1, none⟩ = some (.int .i64 o.md) ∧ (w5.setCell ⟨qa, kk, none⟩ (pt zb)).cell? ⟨qo, kk * 4 + 2, none⟩ = some (.int .i64 o.mr) ∧ (w5.setCell ⟨qa, kk, none⟩ (pt zb)).cell? ⟨qo, kk * 4 + 3, none⟩ = some (.int .i64 o.ls) := ⟨M6.bp.cell 0, M6.bp.cell 1, M6.bp.cell 2, M6.bp.cell 3, M6.bp.cell 4, (M6.co hk3 ho).1, (M6.co hk3 ho).2.1, (M6.co hk3 ho).2.2.1, (M6.co hk3 ho).2.2.2⟩; have ca5 := (M.below hb5).ca hk3 hpk; have caf5 := (M.below hb5).ba.free kk; have cal5 := (M.below hb5).ba.lt))
            clear keep RD pl ol al ca5 caf5 cal5 S6
            generalize w5.setCell ⟨qa, kk, none⟩ (pt zb) = w6 at M6 ⊢
            obtain ⟨X, hX⟩ : ∃ X, PollS.new (10 + (kk : Int)) o 0 0 no0 = X := ⟨_, rfl⟩
            rw [hX] at Tn M6
            rw [← ho] at Tn
            clear hX MB hb5 hb5' hz5
            have cp := M6.ca hk3 (updN_at pa kk (pt zb))
            have cpl := M6.ba.lt
            obtain ⟨okx, nd, n8, gm', oth, r', hr', hr3, out⟩ := Tn
            have T' : ∀ i, i < 3 → i ≠ kk → Th q (X.mem s) i (ow i) (bs i) (r i) := fun i hi hne => (T i hi).same (oth i hne hi)
            have hack : ∀ i : Nat, i < 3 → s.got (10 + (i : Int)) = 5 → (X.mem s).got (10 + (i : Int)) = 5 := fun i hi h5 => by
              by_cases e : i = kk
              · subst e
                have ho := (T i hi).acked h5
                rcases out with ⟨_, hh⟩ | ⟨_, _, hh⟩
                · exact absurd (hh.1.symm.trans ho) (fun e => by have := congrArg Ph.no e; rw [hq5] at this; simp [Ph.zero] at this)
                · rcases hh with ⟨e1, _, _⟩ | ⟨_, _, hh⟩
                  · exact absurd e1 (fun e => by have := congrArg Ph.no e; rw [hq5] at this; simp [Ph.zero] at this)
                  · exact hh
              · rw [oth i e hi]; exact h5
            have A' := A.same hack
            have R' := R.poll hk3 hki hr' hr3
            rcases hd : (X.next s).wh.pc == 0 with _ | _
            · have hnz : (X.next s).wh.pc ≠ 0 := by simpa using hd
              have Tk : Th q (X.mem s) kk (ow kk) (some (X.next s)) r' := by
                rcases out with ⟨_, h⟩ | ⟨h, _⟩
                · exact h
                · exact absurd h hnz
              clear out hack hnz
              go_wp2_with (go_at_call 19; refine (alPoll M6 hk3 (updN_at pa kk (pt zb)) (updN_at bs kk (some X)) okx nd n8 (by omega)).mono ?_; rintro e w9 ⟨rfl, M9, _⟩; rw [hd])
              go_roundw
              case rel =>
                refine ⟨j + 1, X.mem s, a, ow, (updN pa kk (pt zb)), updN (updN bs kk (some X)) kk (some (X.next s)), updN r kk r', ra, by omega, by go_num, M9.mono (by omega), gm', fun i hi => ?_, A', R'⟩
                by_cases e : i = kk
                · subst e; rw [updN_at, updN_at]; exact Tk
                · rw [updN_ne _ _ e, updN_ne _ _ e]; rw [updN_ne _ _ e]; exact T' i hi e
              case measure => simp [intOf]; omega
            · have hz : (X.next s).wh.pc = 0 := by simpa using hd
              have Tk : (X.next s).own = q ∧ Th q (X.mem s) kk q none r' := by
                rcases out with ⟨h, _⟩ | ⟨_, h⟩
                · exact absurd hz h
                · exact h
              obtain ⟨hown, Tk⟩ := Tk
              clear out hack hz
              go_upto_region 26 with (go_at_call 19; refine (alPoll M6 hk3 (updN_at pa kk (pt zb)) (updN_at bs kk (some X)) okx nd n8 (by omega)).mono ?_; rintro e w9 ⟨rfl, M9, mX⟩; rw [hd])
              clear cp cpl
              have cp := M9.ca hk3 (updN_at pa kk (pt zb))
              have cpl := M9.ba.lt
              go_upto_region 28 with (go_at_call 20; refine (hResult mX).mono ?_; rintro e w10 ⟨rfl, hb10⟩; rw [hown])
              have hbb : Below w10.heap.size w10 ((w10.alloc (.cells #[.int .i64 q.no, .int .i64 q.md, .int .i64 q.mr, .int .i64 q.ls] 37)).alloc (.cells #[.int .i64 (X.next s).n, .int .i64 ((X.next s).l 0), .int .i64 ((X.next s).l 1), .int .i64 ((X.next s).l 2), .int .i64 ((X.next s).l 3), .int .i64 ((X.next s).l 4), .int .i64 ((X.next s).l 5), .int .i64 ((X.next s).l 6), .int .i64 ((X.next s).l 7)] 42)) := ((Below.refl _ _).alloc (Nat.le_refl _) _).alloc (by simp) _
              have M11 := (M9.below hb10).below hbb
              have Bo11 : Blk w ((w10.alloc (.cells #[.int .i64 q.no, .int .i64 q.md, .int .i64 q.mr, .int .i64 q.ls] 37)).alloc (.cells #[.int .i64 (X.next s).n, .int .i64 ((X.next s).l 0), .int .i64 ((X.next s).l 1), .int .i64 ((X.next s).l 2), .int .i64 ((X.next s).l 3), .int .i64 ((X.next s).l 4), .int .i64 ((X.next s).l 5), .int .i64 ((X.next s).l 6), .int .i64 ((X.next s).l 7)] 42)) w10.heap.size 37 q.cells := (Blk.new (Nat.le_trans M9.two.bel.size hb10.size) _ (by decide)).below ((Below.refl _ _).alloc (Nat.le_refl _) _)
              clear M9 mX hbb hb10 cp cpl
              generalize (w10.alloc (.cells #[.int .i64 q.no, .int .i64 q.md, .int .i64 q.mr, .int .i64 q.ls] 37)).alloc (.cells #[.int .i64 (X.next s).n, .int .i64 ((X.next s).l 0), .int .i64 ((X.next s).l 1), .int .i64 ((X.next s).l 2), .int .i64 ((X.next s).l 3), .int .i64 ((X.next s).l 4), .int .i64 ((X.next s).l 5), .int .i64 ((X.next s).l 6), .int .i64 ((X.next s).l 7)] 42) = w11 at M11 Bo11 ⊢
              generalize w10.heap.size + 1 = qs
              generalize w10.heap.size = qw at Bo11 ⊢
              obtain ⟨c0, c1, c2, c3⟩ := M11.co hk3 (rfl : ow kk = ow kk)
              have f0 := M11.bo.free (kk * 4)
              have f1 := M11.bo.free (kk * 4 + 1)
              have f2 := M11.bo.free (kk * 4 + 2)
              have f3 := M11.bo.free (kk * 4 + 3)
              have cl := M11.bo.lt
              have u0 : w11.cell? ⟨qw, 0, none⟩ = some (.int .i64 q.no) := Bo11.cell 0
              have u1 : w11.cell? ⟨qw, 1, none⟩ = some (.int .i64 q.md) := Bo11.cell 1
              have u2 : w11.cell? ⟨qw, 2, none⟩ = some (.int .i64 q.mr) := Bo11.cell 2
              have u3 : w11.cell? ⟨qw, 3, none⟩ = some (.int .i64 q.ls) := Bo11.cell 3
              have ul := Bo11.lt
              go_upto_region 29 with (fail)
              have M12 := M11.owned hk3 q
              clear c0 c1 c2 c3 f0 f1 f2 f3 cl u0 u1 u2 u3 ul Bo11 M11
              generalize (((w11.setCell ⟨qo, kk * 4, none⟩ (.int .i64 q.no)).setCell ⟨qo, kk * 4 + 1, none⟩ (.int .i64 q.md)).setCell ⟨qo, kk * 4 + 2, none⟩ (.int .i64 q.mr)).setCell ⟨qo, kk * 4 + 3, none⟩ (.int .i64 q.ls) = w12 at M12 ⊢
              have cp := M12.ca hk3 (updN_at pa kk (pt zb))
              have cpf := M12.ba.free kk
              have cpl := M12.ba.lt
              go_upto_region 30 with (fail)
              have M13 := M12.off hk3
              clear cp cpf cpl M12
              generalize w12.setCell ⟨qa, kk, none⟩ (.pointer none) = w13 at M13 ⊢
              obtain ⟨c0, c1, c2, c3⟩ := M13.co hk3 (updN_at ow kk q)
              have cl := M13.bo.lt
              have y0 : w13.cell? ⟨qq, 0, none⟩ = some (.int .i64 q.no) := M13.bq.cell 0
              have y1 : w13.cell? ⟨qq, 1, none⟩ = some (.int .i64 q.md) := M13.bq.cell 1
              have y2 : w13.cell? ⟨qq, 2, none⟩ = some (.int .i64 q.mr) := M13.bq.cell 2
              have y3 : w13.cell? ⟨qq, 3, none⟩ = some (.int .i64 q.ls) := M13.bq.cell 3
              have yl := M13.bq.lt
              have hE := nePh q.no q.md q.mr q.ls
              go_quiet (fail)
              go_wp2
              go_roundw
              case rel =>
                refine ⟨j + 1, X.mem s, a, updN ow kk q, updN (updN pa kk (pt zb)) kk (.pointer none), updN (updN (updN bs kk (some X)) kk (some (X.next s))) kk none, updN r kk r', ra, by omega, by go_num, (M13.below (Go.Proofs.YtikjigbjednbcaaDoor.S.bdr (Below.refl _ _) _)).mono (by omega), gm', fun i hi => ?_, A', R'⟩
                by_cases e : i = kk
                · subst e; rw [updN_at, updN_at, updN_at]; exact Tk
                · rw [updN_ne _ _ e, updN_ne _ _ e, updN_ne _ _ e, updN_ne _ _ e]; rw [updN_ne _ _ e]; exact T' i hi e
              case measure => simp [intOf]; omega
          · have Tn : Turn q s kk (ow kk) X (r kk) := by have := (T kk hk3).turn hk3 g hqw hq5; rw [hbk] at this; exact this
            have cp := M.ca hk3 hpk
            have cpl := M.ba.lt
            obtain ⟨okx, nd, n8, gm', oth, r', hr', hr3, out⟩ := Tn
            have T' : ∀ i, i < 3 → i ≠ kk → Th q (X.mem s) i (ow i) (bs i) (r i) := fun i hi hne => (T i hi).same (oth i hne hi)
            have hack : ∀ i : Nat, i < 3 → s.got (10 + (i : Int)) = 5 → (X.mem s).got (10 + (i : Int)) = 5 := fun i hi h5 => by
              by_cases e : i = kk
              · subst e
                have ho := (T i hi).acked h5
                rcases out with ⟨_, hh⟩ | ⟨_, _, hh⟩
                · exact absurd (hh.1.symm.trans ho) (fun e => by have := congrArg Ph.no e; rw [hq5] at this; simp [Ph.zero] at this)
                · rcases hh with ⟨e1, _, _⟩ | ⟨_, _, hh⟩
                  · exact absurd e1 (fun e => by have := congrArg Ph.no e; rw [hq5] at this; simp [Ph.zero] at this)
                  · exact hh
              · rw [oth i e hi]; exact h5
            have A' := A.same hack
            have R' := R.poll hk3 hki hr' hr3
            rcases hd : (X.next s).wh.pc == 0 with _ | _
            · have hnz : (X.next s).wh.pc ≠ 0 := by simpa using hd
              have Tk : Th q (X.mem s) kk (ow kk) (some (X.next s)) r' := by
                rcases out with ⟨_, h⟩ | ⟨h, _⟩
                · exact h
                · exact absurd h hnz
              clear out hack hnz
              go_wp2_with (go_at_call 19; refine (alPoll M hk3 hpk hbk okx nd n8 (by omega)).mono ?_; rintro e w9 ⟨rfl, M9, _⟩; rw [hd])
              go_roundw
              case rel =>
                refine ⟨j + 1, X.mem s, a, ow, pa, updN bs kk (some (X.next s)), updN r kk r', ra, by omega, by go_num, M9.mono (by omega), gm', fun i hi => ?_, A', R'⟩
                by_cases e : i = kk
                · subst e; rw [updN_at, updN_at]; exact Tk
                · rw [updN_ne _ _ e, updN_ne _ _ e]; exact T' i hi e
              case measure => simp [intOf]; omega
            · have hz : (X.next s).wh.pc = 0 := by simpa using hd
              have Tk : (X.next s).own = q ∧ Th q (X.mem s) kk q none r' := by
                rcases out with ⟨h, _⟩ | ⟨_, h⟩
                · exact absurd hz h
                · exact h
              obtain ⟨hown, Tk⟩ := Tk
              clear out hack hz
              go_upto_region 26 with (go_at_call 19; refine (alPoll M hk3 hpk hbk okx nd n8 (by omega)).mono ?_; rintro e w9 ⟨rfl, M9, mX⟩; rw [hd])
              clear cp cpl
              have cp := M9.ca hk3 hpk
              have cpl := M9.ba.lt
              go_upto_region 28 with (go_at_call 20; refine (hResult mX).mono ?_; rintro e w10 ⟨rfl, hb10⟩; rw [hown])
              have hbb : Below w10.heap.size w10 ((w10.alloc (.cells #[.int .i64 q.no, .int .i64 q.md, .int .i64 q.mr, .int .i64 q.ls] 37)).alloc (.cells #[.int .i64 (X.next s).n, .int .i64 ((X.next s).l 0), .int .i64 ((X.next s).l 1), .int .i64 ((X.next s).l 2), .int .i64 ((X.next s).l 3), .int .i64 ((X.next s).l 4), .int .i64 ((X.next s).l 5), .int .i64 ((X.next s).l 6), .int .i64 ((X.next s).l 7)] 42)) := ((Below.refl _ _).alloc (Nat.le_refl _) _).alloc (by simp) _
              have M11 := (M9.below hb10).below hbb
              have Bo11 : Blk w ((w10.alloc (.cells #[.int .i64 q.no, .int .i64 q.md, .int .i64 q.mr, .int .i64 q.ls] 37)).alloc (.cells #[.int .i64 (X.next s).n, .int .i64 ((X.next s).l 0), .int .i64 ((X.next s).l 1), .int .i64 ((X.next s).l 2), .int .i64 ((X.next s).l 3), .int .i64 ((X.next s).l 4), .int .i64 ((X.next s).l 5), .int .i64 ((X.next s).l 6), .int .i64 ((X.next s).l 7)] 42)) w10.heap.size 37 q.cells := (Blk.new (Nat.le_trans M9.two.bel.size hb10.size) _ (by decide)).below ((Below.refl _ _).alloc (Nat.le_refl _) _)
              clear M9 mX hbb hb10 cp cpl
              generalize (w10.alloc (.cells #[.int .i64 q.no, .int .i64 q.md, .int .i64 q.mr, .int .i64 q.ls] 37)).alloc (.cells #[.int .i64 (X.next s).n, .int .i64 ((X.next s).l 0), .int .i64 ((X.next s).l 1), .int .i64 ((X.next s).l 2), .int .i64 ((X.next s).l 3), .int .i64 ((X.next s).l 4), .int .i64 ((X.next s).l 5), .int .i64 ((X.next s).l 6), .int .i64 ((X.next s).l 7)] 42) = w11 at M11 Bo11 ⊢
              generalize w10.heap.size + 1 = qs
              generalize w10.heap.size = qw at Bo11 ⊢
              obtain ⟨c0, c1, c2, c3⟩ := M11.co hk3 (rfl : ow kk = ow kk)
              have f0 := M11.bo.free (kk * 4)
              have f1 := M11.bo.free (kk * 4 + 1)
              have f2 := M11.bo.free (kk * 4 + 2)
              have f3 := M11.bo.free (kk * 4 + 3)
              have cl := M11.bo.lt
              have u0 : w11.cell? ⟨qw, 0, none⟩ = some (.int .i64 q.no) := Bo11.cell 0
              have u1 : w11.cell? ⟨qw, 1, none⟩ = some (.int .i64 q.md) := Bo11.cell 1
              have u2 : w11.cell? ⟨qw, 2, none⟩ = some (.int .i64 q.mr) := Bo11.cell 2
              have u3 : w11.cell? ⟨qw, 3, none⟩ = some (.int .i64 q.ls) := Bo11.cell 3
              have ul := Bo11.lt
              go_upto_region 29 with (fail)
              have M12 := M11.owned hk3 q
              clear c0 c1 c2 c3 f0 f1 f2 f3 cl u0 u1 u2 u3 ul Bo11 M11
              generalize (((w11.setCell ⟨qo, kk * 4, none⟩ (.int .i64 q.no)).setCell ⟨qo, kk * 4 + 1, none⟩ (.int .i64 q.md)).setCell ⟨qo, kk * 4 + 2, none⟩ (.int .i64 q.mr)).setCell ⟨qo, kk * 4 + 3, none⟩ (.int .i64 q.ls) = w12 at M12 ⊢
              have cp := M12.ca hk3 hpk
              have cpf := M12.ba.free kk
              have cpl := M12.ba.lt
              go_upto_region 30 with (fail)
              have M13 := M12.off hk3
              clear cp cpf cpl M12
              generalize w12.setCell ⟨qa, kk, none⟩ (.pointer none) = w13 at M13 ⊢
              obtain ⟨c0, c1, c2, c3⟩ := M13.co hk3 (updN_at ow kk q)
              have cl := M13.bo.lt
              have y0 : w13.cell? ⟨qq, 0, none⟩ = some (.int .i64 q.no) := M13.bq.cell 0
              have y1 : w13.cell? ⟨qq, 1, none⟩ = some (.int .i64 q.md) := M13.bq.cell 1
              have y2 : w13.cell? ⟨qq, 2, none⟩ = some (.int .i64 q.mr) := M13.bq.cell 2
              have y3 : w13.cell? ⟨qq, 3, none⟩ = some (.int .i64 q.ls) := M13.bq.cell 3
              have yl := M13.bq.lt
              have hE := nePh q.no q.md q.mr q.ls
              go_quiet (fail)
              go_wp2
              go_roundw
              case rel =>
                refine ⟨j + 1, X.mem s, a, updN ow kk q, updN pa kk (.pointer none), updN (updN bs kk (some (X.next s))) kk none, updN r kk r', ra, by omega, by go_num, (M13.below (Go.Proofs.YtikjigbjednbcaaDoor.S.bdr (Below.refl _ _) _)).mono (by omega), gm', fun i hi => ?_, A', R'⟩
                by_cases e : i = kk
                · subst e; rw [updN_at, updN_at, updN_at]; exact Tk
                · rw [updN_ne _ _ e, updN_ne _ _ e, updN_ne _ _ e, updN_ne _ _ e]; exact T' i hi e
              case measure => simp [intOf]; omega
      · obtain ⟨kk, hkk, hk4⟩ : ∃ kk : Nat, rr = (kk : Int) ∧ kk < 4 := ⟨j % 4, by omega, by omega⟩
        have hki : m1' ≤ j → kk = j % 4 := fun h => by omega
        subst hkk
        clear hrem
        go_upto_region 17 with (fail)
        all_goals first
          | (exfalso; omega)
          | (skip
             by_cases hk3' : kk = 3
             · have hk3 : ((kk : Int) == 3) = true := by simp [hk3']
               obtain ⟨gm', hsame, hall, ra', hle, A', hdec⟩ := A.turn g hq5
               have T' : ∀ i, i < 3 → Th q (a.mem s) i (ow i) (bs i) (r i) := fun i hi => (T i hi).same (hsame _)
               have R' : Rk m1' (j + 1) r ra' := R.ask (fun h => by have := hki h; omega) hle (fun hz => hdec (fun i hi => ((hz i hi) ▸ T i hi : Th q s i (ow i) (bs i) 0).zero.2))
               clear hdec hk3'
               rcases hd : (a.next s).pc == 0 with _ | _
               · clear hall
                 go_wp2_with (go_at_call 15; refine (alAsk M A.ok A.N (by omega)).mono ?_; rintro e w9 ⟨rfl, M9⟩; rw [hd])
                 go_roundw
                 case rel => exact ⟨j + 1, a.mem s, a.next s, ow, pa, bs, r, ra', by omega, by go_num, M9.mono (by omega), gm', T', A', R'⟩
                 case measure => simp [intOf]; omega
                 all_goals exact ⟨⟨j + 1, a.mem s, a.next s, ow, pa, bs, r, ra', by omega, by go_num, M9.mono (by omega), gm', T', A', R'⟩, by simp [intOf]; omega⟩
               · have hz : (a.next s).pc = 0 := by simpa using hd
                 have hO : ∀ i, i < 3 → ow i = q := fun i hi => (T i hi).acked (hall hz i hi)
                 clear hall hz
                 go_upto_region 19 with (go_at_call 15; refine (alAsk M A.ok A.N (by omega)).mono ?_; rintro e w9 ⟨rfl, M9⟩; rw [hd])
                 obtain ⟨c0, c1, c2, c3⟩ := M9.co (by decide : 0 < 3) (hO 0 (by decide))
                 obtain ⟨c4, c5, c6, c7⟩ := M9.co (by decide : 1 < 3) (hO 1 (by decide))
                 obtain ⟨c8, c9, c10, c11⟩ := M9.co (by decide : 2 < 3) (hO 2 (by decide))
                 simp only [Nat.zero_mul, Nat.one_mul, Nat.zero_add, Nat.reduceMul, Nat.reduceAdd] at c0 c1 c2 c3 c4 c5 c6 c7 c8 c9 c10 c11
                 have cl := M9.bo.lt
                 have y0 : w9.cell? ⟨qq, 0, none⟩ = some (.int .i64 q.no) := M9.bq.cell 0
                 have y1 : w9.cell? ⟨qq, 1, none⟩ = some (.int .i64 q.md) := M9.bq.cell 1
                 have y2 : w9.cell? ⟨qq, 2, none⟩ = some (.int .i64 q.mr) := M9.bq.cell 2
                 have y3 : w9.cell? ⟨qq, 3, none⟩ = some (.int .i64 q.ls) := M9.bq.cell 3
                 have yl := M9.bq.lt
                 have hE := nePh q.no q.md q.mr q.ls
                 clear hO
                 go_wp2_with (fail)
                 go_roundw
                 case rel => exact ⟨j + 1, a.mem s, a.next s, ow, pa, bs, r, ra', by omega, by go_num, M9.mono (by omega), gm', T', A', R'⟩
                 case measure => simp [intOf]; omega
                 all_goals exact ⟨⟨j + 1, a.mem s, a.next s, ow, pa, bs, r, ra', by omega, by go_num, M9.mono (by omega), gm', T', A', R'⟩, by simp [intOf]; omega⟩
             · have hk3 : kk < 3 := by omega
               have hkq : ((kk : Int) == 3) = false := by simp; omega
               have hki3 : (0 : Int) ≤ (kk : Int) ∧ (kk : Int) < 3 := by omega
               rcases M.either hk3 with ⟨hpk, hbk⟩ | ⟨p, X, hpk, hbk, _⟩
               · have Tn : Turn q s kk (ow kk) (PollS.new (10 + (kk : Int)) (ow kk) 0 0 no0) (r kk) := by have := (T kk hk3).turn hk3 g hqw hq5; rw [hbk] at this; exact this
                 obtain ⟨o, ho⟩ : ∃ o, ow kk = o := ⟨_, rfl⟩
                 rw [ho] at Tn
                 have cp := M.ca hk3 hpk
                 have cpl := M.ba.lt
                 go_upto_region 22 with (fail)
                 clear cp cpl
                 have keep : ∀ w', Below wr.heap.size wr w' → w'.cell? ⟨qp, 0, none⟩ = some (.int .i64 3) ∧ w'.cell? ⟨qp, 1, none⟩ = some (.int .i64 4) ∧ w'.cell? ⟨qp, 2, none⟩ = some (.int .i64 13) ∧ w'.cell? ⟨qp, 3, none⟩ = some (.int .i64 32) ∧ w'.cell? ⟨qp, 4, none⟩ = some (.int .i64 160) ∧ w'.cell? ⟨qo, kk * 4, none⟩ = some (.int .i64 o.no) ∧ w'.cell? ⟨qo, kk * 4 + 1, none⟩ = some (.int .i64 o.md) ∧ w'.cell? ⟨qo, kk * 4 + 2, none⟩ = some (.int .i64 o.mr) ∧ w'.cell? ⟨qo, kk * 4 + 3, none⟩ = some (.int .i64 o.ls) := fun w' hb => ⟨(M.below hb).bp.cell 0, (M.below hb).bp.cell 1, (M.below hb).bp.cell 2, (M.below hb).bp.cell 3, (M.below hb).bp.cell 4, ((M.below hb).co hk3 ho).1, ((M.below hb).co hk3 ho).2.1, ((M.below hb).co hk3 ho).2.2.1, ((M.below hb).co hk3 ho).2.2.2⟩
                 have hbd : Below wr.heap.size wr wr.drew := (Below.refl wr.heap.size wr).drew
                 have RD := keep _ hbd
                 have pl := M.bp.lt
                 have ol := M.bo.lt
                 have al := M.ba.lt
                 have hki' : (0 : Int) ≤ (kk : Int) ∧ (kk : Int) < 3 := by omega
                 go_region_held3 (fun w' => w'.cell? ⟨qp, 0, none⟩ = some (.int .i64 3) ∧ w'.cell? ⟨qp, 1, none⟩ = some (.int .i64 4) ∧ w'.cell? ⟨qp, 2, none⟩ = some (.int .i64 13) ∧ w'.cell? ⟨qp, 3, none⟩ = some (.int .i64 32) ∧ w'.cell? ⟨qp, 4, none⟩ = some (.int .i64 160) ∧ w'.cell? ⟨qo, kk * 4, none⟩ = some (.int .i64 o.no) ∧ w'.cell? ⟨qo, kk * 4 + 1, none⟩ = some (.int .i64 o.md) ∧ w'.cell? ⟨qo, kk * 4 + 2, none⟩ = some (.int .i64 o.mr) ∧ w'.cell? ⟨qo, kk * 4 + 3, none⟩ = some (.int .i64 o.ls)) (first | assumption | exact RD | exact S6 | exact keep _ (by assumption))
                   ((go_at_call 17; refine (nPoll (w0 := w) U34 (i := (kk : Int)) (by omega) (by omega) o 0 0 no0 (Nat.le_trans M.two.bel.size hbd.size)).mono ?_; rintro e w5 ⟨zb, rfl, MB, hb5', hz5⟩; have hb5 : Below wr.heap.size wr w5 := bel_trans hbd hb5'; have M6 := M.born hk3 hb5 MB (Nat.le_trans hbd.size hz5); have S6 : (w5.setCell ⟨qa, kk, none⟩ (pt zb)).cell? ⟨qp, 0, none⟩ = some (.int .i64 3) ∧ (w5.setCell ⟨qa, kk, none⟩ (pt zb)).cell? ⟨qp, 1, none⟩ = some (.int .i64 4) ∧ (w5.setCell ⟨qa, kk, none⟩ (pt zb)).cell? ⟨qp, 2, none⟩ = some (.int .i64 13) ∧ (w5.setCell ⟨qa, kk, none⟩ (pt zb)).cell? ⟨qp, 3, none⟩ = some (.int .i64 32) ∧ (w5.setCell ⟨qa, kk, none⟩ (pt zb)).cell? ⟨qp, 4, none⟩ = some (.int .i64 160) ∧ (w5.setCell ⟨qa, kk, none⟩ (pt zb)).cell? ⟨qo, kk * 4, none⟩ = some (.int .i64 o.no) ∧ (w5.setCell ⟨qa, kk, none⟩ (pt zb)).cell? ⟨qo, kk * 4 + 1, none⟩ = some (.int .i64 o.md) ∧ (w5.setCell ⟨qa, kk, none⟩ (pt zb)).cell? ⟨qo, kk * 4 + 2, none⟩ = some (.int .i64 o.mr) ∧ (w5.setCell ⟨qa, kk, none⟩ (pt zb)).cell? ⟨qo, kk * 4 + 3, none⟩ = some (.int .i64 o.ls) := ⟨M6.bp.cell 0, M6.bp.cell 1, M6.bp.cell 2, M6.bp.cell 3, M6.bp.cell 4, (M6.co hk3 ho).1, (M6.co hk3 ho).2.1, (M6.co hk3 ho).2.2.1, (M6.co hk3 ho).2.2.2⟩; have ca5 := (M.below hb5).ca hk3 hpk; have caf5 := (M.below hb5).ba.free kk; have cal5 := (M.below hb5).ba.lt))
                 clear keep RD pl ol al ca5 caf5 cal5 S6
                 generalize w5.setCell ⟨qa, kk, none⟩ (pt zb) = w6 at M6 ⊢
                 obtain ⟨X, hX⟩ : ∃ X, PollS.new (10 + (kk : Int)) o 0 0 no0 = X := ⟨_, rfl⟩
                 rw [hX] at Tn M6
                 rw [← ho] at Tn
                 clear hX MB hb5 hb5' hz5
                 have cp := M6.ca hk3 (updN_at pa kk (pt zb))
                 have cpl := M6.ba.lt
                 obtain ⟨okx, nd, n8, gm', oth, r', hr', hr3, out⟩ := Tn
                 have T' : ∀ i, i < 3 → i ≠ kk → Th q (X.mem s) i (ow i) (bs i) (r i) := fun i hi hne => (T i hi).same (oth i hne hi)
                 have hack : ∀ i : Nat, i < 3 → s.got (10 + (i : Int)) = 5 → (X.mem s).got (10 + (i : Int)) = 5 := fun i hi h5 => by
                   by_cases e : i = kk
                   · subst e
                     have ho := (T i hi).acked h5
                     rcases out with ⟨_, hh⟩ | ⟨_, _, hh⟩
                     · exact absurd (hh.1.symm.trans ho) (fun e => by have := congrArg Ph.no e; rw [hq5] at this; simp [Ph.zero] at this)
                     · rcases hh with ⟨e1, _, _⟩ | ⟨_, _, hh⟩
                       · exact absurd e1 (fun e => by have := congrArg Ph.no e; rw [hq5] at this; simp [Ph.zero] at this)
                       · exact hh
                   · rw [oth i e hi]; exact h5
                 have A' := A.same hack
                 have R' := R.poll hk3 hki hr' hr3
                 rcases hd : (X.next s).wh.pc == 0 with _ | _
                 · have hnz : (X.next s).wh.pc ≠ 0 := by simpa using hd
                   have Tk : Th q (X.mem s) kk (ow kk) (some (X.next s)) r' := by
                     rcases out with ⟨_, h⟩ | ⟨h, _⟩
                     · exact h
                     · exact absurd h hnz
                   clear out hack hnz
                   go_wp2_with (go_at_call 19; refine (alPoll M6 hk3 (updN_at pa kk (pt zb)) (updN_at bs kk (some X)) okx nd n8 (by omega)).mono ?_; rintro e w9 ⟨rfl, M9, _⟩; rw [hd])
                   go_roundw
                   case rel =>
                     refine ⟨j + 1, X.mem s, a, ow, (updN pa kk (pt zb)), updN (updN bs kk (some X)) kk (some (X.next s)), updN r kk r', ra, by omega, by go_num, M9.mono (by omega), gm', fun i hi => ?_, A', R'⟩
                     by_cases e : i = kk
                     · subst e; rw [updN_at, updN_at]; exact Tk
                     · rw [updN_ne _ _ e, updN_ne _ _ e]; rw [updN_ne _ _ e]; exact T' i hi e
                   case measure => simp [intOf]; omega
                 · have hz : (X.next s).wh.pc = 0 := by simpa using hd
                   have Tk : (X.next s).own = q ∧ Th q (X.mem s) kk q none r' := by
                     rcases out with ⟨h, _⟩ | ⟨_, h⟩
                     · exact absurd hz h
                     · exact h
                   obtain ⟨hown, Tk⟩ := Tk
                   clear out hack hz
                   go_upto_region 26 with (go_at_call 19; refine (alPoll M6 hk3 (updN_at pa kk (pt zb)) (updN_at bs kk (some X)) okx nd n8 (by omega)).mono ?_; rintro e w9 ⟨rfl, M9, mX⟩; rw [hd])
                   clear cp cpl
                   have cp := M9.ca hk3 (updN_at pa kk (pt zb))
                   have cpl := M9.ba.lt
                   go_upto_region 28 with (go_at_call 20; refine (hResult mX).mono ?_; rintro e w10 ⟨rfl, hb10⟩; rw [hown])
                   have hbb : Below w10.heap.size w10 ((w10.alloc (.cells #[.int .i64 q.no, .int .i64 q.md, .int .i64 q.mr, .int .i64 q.ls] 37)).alloc (.cells #[.int .i64 (X.next s).n, .int .i64 ((X.next s).l 0), .int .i64 ((X.next s).l 1), .int .i64 ((X.next s).l 2), .int .i64 ((X.next s).l 3), .int .i64 ((X.next s).l 4), .int .i64 ((X.next s).l 5), .int .i64 ((X.next s).l 6), .int .i64 ((X.next s).l 7)] 42)) := ((Below.refl _ _).alloc (Nat.le_refl _) _).alloc (by simp) _
                   have M11 := (M9.below hb10).below hbb
                   have Bo11 : Blk w ((w10.alloc (.cells #[.int .i64 q.no, .int .i64 q.md, .int .i64 q.mr, .int .i64 q.ls] 37)).alloc (.cells #[.int .i64 (X.next s).n, .int .i64 ((X.next s).l 0), .int .i64 ((X.next s).l 1), .int .i64 ((X.next s).l 2), .int .i64 ((X.next s).l 3), .int .i64 ((X.next s).l 4), .int .i64 ((X.next s).l 5), .int .i64 ((X.next s).l 6), .int .i64 ((X.next s).l 7)] 42)) w10.heap.size 37 q.cells := (Blk.new (Nat.le_trans M9.two.bel.size hb10.size) _ (by decide)).below ((Below.refl _ _).alloc (Nat.le_refl _) _)
                   clear M9 mX hbb hb10 cp cpl
                   generalize (w10.alloc (.cells #[.int .i64 q.no, .int .i64 q.md, .int .i64 q.mr, .int .i64 q.ls] 37)).alloc (.cells #[.int .i64 (X.next s).n, .int .i64 ((X.next s).l 0), .int .i64 ((X.next s).l 1), .int .i64 ((X.next s).l 2), .int .i64 ((X.next s).l 3), .int .i64 ((X.next s).l 4), .int .i64 ((X.next s).l 5), .int .i64 ((X.next s).l 6), .int .i64 ((X.next s).l 7)] 42) = w11 at M11 Bo11 ⊢
                   generalize w10.heap.size + 1 = qs
                   generalize w10.heap.size = qw at Bo11 ⊢
                   obtain ⟨c0, c1, c2, c3⟩ := M11.co hk3 (rfl : ow kk = ow kk)
                   have f0 := M11.bo.free (kk * 4)
                   have f1 := M11.bo.free (kk * 4 + 1)
                   have f2 := M11.bo.free (kk * 4 + 2)
                   have f3 := M11.bo.free (kk * 4 + 3)
                   have cl := M11.bo.lt
                   have u0 : w11.cell? ⟨qw, 0, none⟩ = some (.int .i64 q.no) := Bo11.cell 0
                   have u1 : w11.cell? ⟨qw, 1, none⟩ = some (.int .i64 q.md) := Bo11.cell 1
                   have u2 : w11.cell? ⟨qw, 2, none⟩ = some (.int .i64 q.mr) := Bo11.cell 2
                   have u3 : w11.cell? ⟨qw, 3, none⟩ = some (.int .i64 q.ls) := Bo11.cell 3
                   have ul := Bo11.lt
                   go_upto_region 29 with (fail)
                   have M12 := M11.owned hk3 q
                   clear c0 c1 c2 c3 f0 f1 f2 f3 cl u0 u1 u2 u3 ul Bo11 M11
                   generalize (((w11.setCell ⟨qo, kk * 4, none⟩ (.int .i64 q.no)).setCell ⟨qo, kk * 4 + 1, none⟩ (.int .i64 q.md)).setCell ⟨qo, kk * 4 + 2, none⟩ (.int .i64 q.mr)).setCell ⟨qo, kk * 4 + 3, none⟩ (.int .i64 q.ls) = w12 at M12 ⊢
                   have cp := M12.ca hk3 (updN_at pa kk (pt zb))
                   have cpf := M12.ba.free kk
                   have cpl := M12.ba.lt
                   go_upto_region 30 with (fail)
                   have M13 := M12.off hk3
                   clear cp cpf cpl M12
                   generalize w12.setCell ⟨qa, kk, none⟩ (.pointer none) = w13 at M13 ⊢
                   obtain ⟨c0, c1, c2, c3⟩ := M13.co hk3 (updN_at ow kk q)
                   have cl := M13.bo.lt
                   have y0 : w13.cell? ⟨qq, 0, none⟩ = some (.int .i64 q.no) := M13.bq.cell 0
                   have y1 : w13.cell? ⟨qq, 1, none⟩ = some (.int .i64 q.md) := M13.bq.cell 1
                   have y2 : w13.cell? ⟨qq, 2, none⟩ = some (.int .i64 q.mr) := M13.bq.cell 2
                   have y3 : w13.cell? ⟨qq, 3, none⟩ = some (.int .i64 q.ls) := M13.bq.cell 3
                   have yl := M13.bq.lt
                   have hE := nePh q.no q.md q.mr q.ls
                   go_quiet (fail)
                   go_wp2
                   go_roundw
                   case rel =>
                     refine ⟨j + 1, X.mem s, a, updN ow kk q, updN (updN pa kk (pt zb)) kk (.pointer none), updN (updN (updN bs kk (some X)) kk (some (X.next s))) kk none, updN r kk r', ra, by omega, by go_num, (M13.below (Go.Proofs.YtikjigbjednbcaaDoor.S.bdr (Below.refl _ _) _)).mono (by omega), gm', fun i hi => ?_, A', R'⟩
                     by_cases e : i = kk
                     · subst e; rw [updN_at, updN_at, updN_at]; exact Tk
                     · rw [updN_ne _ _ e, updN_ne _ _ e, updN_ne _ _ e, updN_ne _ _ e]; rw [updN_ne _ _ e]; exact T' i hi e
                   case measure => simp [intOf]; omega
               · have Tn : Turn q s kk (ow kk) X (r kk) := by have := (T kk hk3).turn hk3 g hqw hq5; rw [hbk] at this; exact this
                 have cp := M.ca hk3 hpk
                 have cpl := M.ba.lt
                 obtain ⟨okx, nd, n8, gm', oth, r', hr', hr3, out⟩ := Tn
                 have T' : ∀ i, i < 3 → i ≠ kk → Th q (X.mem s) i (ow i) (bs i) (r i) := fun i hi hne => (T i hi).same (oth i hne hi)
                 have hack : ∀ i : Nat, i < 3 → s.got (10 + (i : Int)) = 5 → (X.mem s).got (10 + (i : Int)) = 5 := fun i hi h5 => by
                   by_cases e : i = kk
                   · subst e
                     have ho := (T i hi).acked h5
                     rcases out with ⟨_, hh⟩ | ⟨_, _, hh⟩
                     · exact absurd (hh.1.symm.trans ho) (fun e => by have := congrArg Ph.no e; rw [hq5] at this; simp [Ph.zero] at this)
                     · rcases hh with ⟨e1, _, _⟩ | ⟨_, _, hh⟩
                       · exact absurd e1 (fun e => by have := congrArg Ph.no e; rw [hq5] at this; simp [Ph.zero] at this)
                       · exact hh
                   · rw [oth i e hi]; exact h5
                 have A' := A.same hack
                 have R' := R.poll hk3 hki hr' hr3
                 rcases hd : (X.next s).wh.pc == 0 with _ | _
                 · have hnz : (X.next s).wh.pc ≠ 0 := by simpa using hd
                   have Tk : Th q (X.mem s) kk (ow kk) (some (X.next s)) r' := by
                     rcases out with ⟨_, h⟩ | ⟨h, _⟩
                     · exact h
                     · exact absurd h hnz
                   clear out hack hnz
                   go_wp2_with (go_at_call 19; refine (alPoll M hk3 hpk hbk okx nd n8 (by omega)).mono ?_; rintro e w9 ⟨rfl, M9, _⟩; rw [hd])
                   go_roundw
                   case rel =>
                     refine ⟨j + 1, X.mem s, a, ow, pa, updN bs kk (some (X.next s)), updN r kk r', ra, by omega, by go_num, M9.mono (by omega), gm', fun i hi => ?_, A', R'⟩
                     by_cases e : i = kk
                     · subst e; rw [updN_at, updN_at]; exact Tk
                     · rw [updN_ne _ _ e, updN_ne _ _ e]; exact T' i hi e
                   case measure => simp [intOf]; omega
                 · have hz : (X.next s).wh.pc = 0 := by simpa using hd
                   have Tk : (X.next s).own = q ∧ Th q (X.mem s) kk q none r' := by
                     rcases out with ⟨h, _⟩ | ⟨_, h⟩
                     · exact absurd hz h
                     · exact h
                   obtain ⟨hown, Tk⟩ := Tk
                   clear out hack hz
                   go_upto_region 26 with (go_at_call 19; refine (alPoll M hk3 hpk hbk okx nd n8 (by omega)).mono ?_; rintro e w9 ⟨rfl, M9, mX⟩; rw [hd])
                   clear cp cpl
                   have cp := M9.ca hk3 hpk
                   have cpl := M9.ba.lt
                   go_upto_region 28 with (go_at_call 20; refine (hResult mX).mono ?_; rintro e w10 ⟨rfl, hb10⟩; rw [hown])
                   have hbb : Below w10.heap.size w10 ((w10.alloc (.cells #[.int .i64 q.no, .int .i64 q.md, .int .i64 q.mr, .int .i64 q.ls] 37)).alloc (.cells #[.int .i64 (X.next s).n, .int .i64 ((X.next s).l 0), .int .i64 ((X.next s).l 1), .int .i64 ((X.next s).l 2), .int .i64 ((X.next s).l 3), .int .i64 ((X.next s).l 4), .int .i64 ((X.next s).l 5), .int .i64 ((X.next s).l 6), .int .i64 ((X.next s).l 7)] 42)) := ((Below.refl _ _).alloc (Nat.le_refl _) _).alloc (by simp) _
                   have M11 := (M9.below hb10).below hbb
                   have Bo11 : Blk w ((w10.alloc (.cells #[.int .i64 q.no, .int .i64 q.md, .int .i64 q.mr, .int .i64 q.ls] 37)).alloc (.cells #[.int .i64 (X.next s).n, .int .i64 ((X.next s).l 0), .int .i64 ((X.next s).l 1), .int .i64 ((X.next s).l 2), .int .i64 ((X.next s).l 3), .int .i64 ((X.next s).l 4), .int .i64 ((X.next s).l 5), .int .i64 ((X.next s).l 6), .int .i64 ((X.next s).l 7)] 42)) w10.heap.size 37 q.cells := (Blk.new (Nat.le_trans M9.two.bel.size hb10.size) _ (by decide)).below ((Below.refl _ _).alloc (Nat.le_refl _) _)
                   clear M9 mX hbb hb10 cp cpl
                   generalize (w10.alloc (.cells #[.int .i64 q.no, .int .i64 q.md, .int .i64 q.mr, .int .i64 q.ls] 37)).alloc (.cells #[.int .i64 (X.next s).n, .int .i64 ((X.next s).l 0), .int .i64 ((X.next s).l 1), .int .i64 ((X.next s).l 2), .int .i64 ((X.next s).l 3), .int .i64 ((X.next s).l 4), .int .i64 ((X.next s).l 5), .int .i64 ((X.next s).l 6), .int .i64 ((X.next s).l 7)] 42) = w11 at M11 Bo11 ⊢
                   generalize w10.heap.size + 1 = qs
                   generalize w10.heap.size = qw at Bo11 ⊢
                   obtain ⟨c0, c1, c2, c3⟩ := M11.co hk3 (rfl : ow kk = ow kk)
                   have f0 := M11.bo.free (kk * 4)
                   have f1 := M11.bo.free (kk * 4 + 1)
                   have f2 := M11.bo.free (kk * 4 + 2)
                   have f3 := M11.bo.free (kk * 4 + 3)
                   have cl := M11.bo.lt
                   have u0 : w11.cell? ⟨qw, 0, none⟩ = some (.int .i64 q.no) := Bo11.cell 0
                   have u1 : w11.cell? ⟨qw, 1, none⟩ = some (.int .i64 q.md) := Bo11.cell 1
                   have u2 : w11.cell? ⟨qw, 2, none⟩ = some (.int .i64 q.mr) := Bo11.cell 2
                   have u3 : w11.cell? ⟨qw, 3, none⟩ = some (.int .i64 q.ls) := Bo11.cell 3
                   have ul := Bo11.lt
                   go_upto_region 29 with (fail)
                   have M12 := M11.owned hk3 q
                   clear c0 c1 c2 c3 f0 f1 f2 f3 cl u0 u1 u2 u3 ul Bo11 M11
                   generalize (((w11.setCell ⟨qo, kk * 4, none⟩ (.int .i64 q.no)).setCell ⟨qo, kk * 4 + 1, none⟩ (.int .i64 q.md)).setCell ⟨qo, kk * 4 + 2, none⟩ (.int .i64 q.mr)).setCell ⟨qo, kk * 4 + 3, none⟩ (.int .i64 q.ls) = w12 at M12 ⊢
                   have cp := M12.ca hk3 hpk
                   have cpf := M12.ba.free kk
                   have cpl := M12.ba.lt
                   go_upto_region 30 with (fail)
                   have M13 := M12.off hk3
                   clear cp cpf cpl M12
                   generalize w12.setCell ⟨qa, kk, none⟩ (.pointer none) = w13 at M13 ⊢
                   obtain ⟨c0, c1, c2, c3⟩ := M13.co hk3 (updN_at ow kk q)
                   have cl := M13.bo.lt
                   have y0 : w13.cell? ⟨qq, 0, none⟩ = some (.int .i64 q.no) := M13.bq.cell 0
                   have y1 : w13.cell? ⟨qq, 1, none⟩ = some (.int .i64 q.md) := M13.bq.cell 1
                   have y2 : w13.cell? ⟨qq, 2, none⟩ = some (.int .i64 q.mr) := M13.bq.cell 2
                   have y3 : w13.cell? ⟨qq, 3, none⟩ = some (.int .i64 q.ls) := M13.bq.cell 3
                   have yl := M13.bq.lt
                   have hE := nePh q.no q.md q.mr q.ls
                   go_quiet (fail)
                   go_wp2
                   go_roundw
                   case rel =>
                     refine ⟨j + 1, X.mem s, a, updN ow kk q, updN pa kk (.pointer none), updN (updN bs kk (some (X.next s))) kk none, updN r kk r', ra, by omega, by go_num, (M13.below (Go.Proofs.YtikjigbjednbcaaDoor.S.bdr (Below.refl _ _) _)).mono (by omega), gm', fun i hi => ?_, A', R'⟩
                     by_cases e : i = kk
                     · subst e; rw [updN_at, updN_at, updN_at]; exact Tk
                     · rw [updN_ne _ _ e, updN_ne _ _ e, updN_ne _ _ e, updN_ne _ _ e]; exact T' i hi e
                   case measure => simp [intOf]; omega)
end Go.Proofs.YtikjigbjednbcaaDoor
