/-
  CarveOnce, walked.
-/
import Derived.Test.YtilknjihceemhaaDoorKw
import Derived.Test.YtilknjihceemhaaDoorZa
import Derived.Test.YtilknjihceemhaaDoorOi
import Derived.Deep.Cut
namespace Go.Proofs.YtilknjihceemhaaDoor
set_option linter.unusedVariables false
set_option maxRecDepth 100000
open Go.ChangeShapes Go.WideShapes Go.RowKit
open S.Plain (t0 t1 tw nx bw b0 b1 b2 b3)
open H.Plain (hw pL)

theorem kd_nat (c n : Int) (h : 0 < n) : ∃ m : Nat, kd c n = m ∧ (m : Int) < n := by
  have := kd_bounds c n h
  exact ⟨(kd c n).toNat, by omega, by omega⟩
theorem upd_upd {α : Type} (f : Nat → α) (k : Nat) (v u : α) : upd (upd f k v) k u = upd f k u := by funext i; unfold upd; split <;> rfl
/-- what a round starts with -/
structure Rnd (w wr : World) (b n o tb xb nb S0 i : Nat) (f : Nat) (s : St) (j : Nat) (jb : Nat → Option TakeS) (pp : Nat → Nat) (nn : Nat → Bool) (T : Nat → Nat) : Prop where
  hand : Hand w wr b s (S0 + i)
  crew : Crew w wr n o tb xb nb jb pp nn T
  game : Game n s j jb nn T
  live : Live n s j jb nn i
  fnd : f ≤ sum8 T
  fnd' : sum8 T ≤ f
set_option maxHeartbeats 8000000 in
theorem wCarveOnce (a : Int) (ao : Option Addr) (len cap : Nat) (z : Nat → Int) (ha : -9223372036854775808 ≤ a) (ha' : a ≤ 9223372036854775807) (w : World) (W : Laid w) (hl : CameI w ao len z) :
    Calls Tryd.prog 3 #[.int .i64 a, .slice ao len cap] w fun e w' => e = .returned (.bool true) ∧ Below w.heap.size w w' := by
  have ka := kd_bounds a 8 (by decide)
  obtain ⟨n, hn⟩ : ∃ n : Nat, 1 + kd a 8 = n := ⟨(1 + kd a 8).toNat, by omega⟩
  have n1 : 1 ≤ n := by omega
  have n8 : n ≤ 8 := by omega
  clear ka
  go_enter Tryd.func3, Tryd.ntmps3
  go_upto_region 6 with (first
    | (go_at_call 6; refine (cShown _ W).mono ?_; rintro e w1 ⟨rfl, hb1⟩)
    | (go_at_call_of 8 (Value.int .i64 8); refine (cKind _ a 8 ha ha' (by decide)).mono ?_; rintro e wx ⟨rfl, hwx⟩; rw [hwx]; clear hwx wx)
    | (go_at_call 7; refine (kRNew' (t := 3) (n := n) rfl rfl (by decide) (by decide) n1 (by omega) _).mono ?_; rintro e w2 ⟨rfl, hb2⟩; have hba : Below w.heap.size w (w2.alloc (.cells (mkPl 3 n).cells 25)) := S.bal (bel_trans hb1 hb2) _; have hBa : PB w (w2.alloc (.cells (mkPl 3 n).cells 25)) w2.heap.size (mkPl 3 n) := Blk.new (bel_trans hb1 hb2).size _ (by decide))
    | (go_at_call 9; refine (cFr (t := 3) (n := n) (by decide) n1 (by omega) _ (W.on hba)).mono ?_; rintro e w3 ⟨b, y, rfl, h3⟩; obtain ⟨s, h4, hws, F, hz⟩ := fresh_hand (by decide) n1 (by omega) h3; have hB := hBa.below h4.bel; have h5 : Hand w w3 b s (szN 3 n) := h4.lift hba W; clear h3 h4 hz hws))
  have sz : szN 3 n ≤ 1000 := by unfold szN hpN; omega
  obtain ⟨S0, hS0⟩ : ∃ S0, szN 3 n = S0 := ⟨_, rfl⟩
  rw [hS0] at sz h5
  obtain ⟨o, ho⟩ : ∃ o, w2.heap.size = o := ⟨_, rfl⟩
  rw [ho] at hB ⊢
  clear ho hBa hba hb1 hb2 hS0
  have H0 := h5
  have P_0 := hB
  clear h5 hB
  refine wp_region_lit ?_
  refine wpList_zeros rfl rfl rfl 34 37 10 rfl rfl rfl rfl rfl rfl #[.int .i64 0, .int .i64 0, .int .i64 0, .int .i64 0, .int .i64 0, .int .i64 0, .int .i64 0, .int .i64 0] 8 (by kernel_rfl) (by kernel_rfl) rfl (by kernel_rfl) (by kernel_rfl) (by kernel_rfl) ?_
  refine wpList_nil ?_
  have b0 : Blk w (w3.alloc (.cells #[.int .i64 0, .int .i64 0, .int .i64 0, .int .i64 0, .int .i64 0, .int .i64 0, .int .i64 0, .int .i64 0] 34)) w3.heap.size 34 #[.int .i64 0, .int .i64 0, .int .i64 0, .int .i64 0, .int .i64 0, .int .i64 0, .int .i64 0, .int .i64 0] := Blk.new H0.bel.size _ (by decide)
  have H1 := H0.alloc (.cells #[.int .i64 0, .int .i64 0, .int .i64 0, .int .i64 0, .int .i64 0, .int .i64 0, .int .i64 0, .int .i64 0] 34)
  have P_1 := P_0.below (S.bal (Below.refl w3.heap.size w3) (.cells #[.int .i64 0, .int .i64 0, .int .i64 0, .int .i64 0, .int .i64 0, .int .i64 0, .int .i64 0, .int .i64 0] 34))
  obtain ⟨tb, htb⟩ : ∃ tb, w3.heap.size = tb := ⟨_, rfl⟩
  rw [htb] at b0 ⊢
  clear htb H0 P_0
  generalize w3.alloc (.cells #[.int .i64 0, .int .i64 0, .int .i64 0, .int .i64 0, .int .i64 0, .int .i64 0, .int .i64 0, .int .i64 0] 34) = wa at b0 H1 P_1 ⊢
  go_upto_region 8 with fail
  refine wp_region_lit ?_
  refine wpList_zeros rfl rfl rfl 36 38 12 rfl rfl rfl rfl rfl rfl #[.pointer none, .pointer none, .pointer none] 3 (by kernel_rfl) (by kernel_rfl) rfl (by kernel_rfl) (by kernel_rfl) (by kernel_rfl) ?_
  refine wpList_nil ?_
  have b1 : Blk w (wa.alloc (.cells #[.pointer none, .pointer none, .pointer none] 36)) wa.heap.size 36 #[.pointer none, .pointer none, .pointer none] := Blk.new H1.bel.size _ (by decide)
  have H2 := H1.alloc (.cells #[.pointer none, .pointer none, .pointer none] 36)
  have P_2 := P_1.below (S.bal (Below.refl wa.heap.size wa) (.cells #[.pointer none, .pointer none, .pointer none] 36))
  have b0_2 := b0.below (S.bal (Below.refl wa.heap.size wa) (.cells #[.pointer none, .pointer none, .pointer none] 36))
  obtain ⟨xb, hxb⟩ : ∃ xb, wa.heap.size = xb := ⟨_, rfl⟩
  rw [hxb] at b1 ⊢
  clear hxb H1 P_1 b0
  generalize wa.alloc (.cells #[.pointer none, .pointer none, .pointer none] 36) = wb at b1 H2 P_2 b0_2 ⊢
  go_upto_region 9 with fail
  refine wp_region_lit ?_
  refine wpList_zeros rfl rfl rfl 37 39 13 rfl rfl rfl rfl rfl rfl #[.bool false, .bool false, .bool false] 3 (by kernel_rfl) (by kernel_rfl) rfl (by kernel_rfl) (by kernel_rfl) (by kernel_rfl) ?_
  refine wpList_nil ?_
  have b2 : Blk w (wb.alloc (.cells #[.bool false, .bool false, .bool false] 37)) wb.heap.size 37 #[.bool false, .bool false, .bool false] := Blk.new H2.bel.size _ (by decide)
  have H3 := H2.alloc (.cells #[.bool false, .bool false, .bool false] 37)
  have P_3 := P_2.below (S.bal (Below.refl wb.heap.size wb) (.cells #[.bool false, .bool false, .bool false] 37))
  have b0_3 := b0_2.below (S.bal (Below.refl wb.heap.size wb) (.cells #[.bool false, .bool false, .bool false] 37))
  have b1_3 := b1.below (S.bal (Below.refl wb.heap.size wb) (.cells #[.bool false, .bool false, .bool false] 37))
  obtain ⟨nb, hnb⟩ : ∃ nb, wb.heap.size = nb := ⟨_, rfl⟩
  rw [hnb] at b2 ⊢
  clear hnb H2 P_2 b0_2 b1
  generalize wb.alloc (.cells #[.bool false, .bool false, .bool false] 37) = wc at b2 H3 P_3 b0_3 b1_3 ⊢
  go_wp2
  have C0 := Crew.start P_3 b0_3 b1_3 b2
  have G0 : Game n s 0 (fun _ => none) (fun _ => false) (fun _ => 0) := ⟨F, n8, Nat.zero_le _, fun k hk x e => absurd e (by simp), fun a ha => by simp [sum3, hold], fun k hk e => absurd e (by simp)⟩
  clear P_3 b0_3 b1_3 b2 F
  go_loopw [11, 14] (fun fv iv wr => ∃ i : Nat, i ≤ 1200 ∧ iv = .int .i64 i ∧ ∃ f : Nat, f ≤ i ∧ fv = .int .i64 f ∧ ∃ s j jb pp nn T, Rnd w wr b n o tb xb nb S0 i f s j jb pp nn T) (fun _ iv _ => 1200 - (intOf iv).toNat)
  case atStart => exact ⟨0, by omega, rfl, 0, Nat.le_refl _, rfl, s, 0, _, _, _, _, H3, C0, G0, fun k hk => .inr (.inl (by omega)), by simp, by simp [sum8]⟩
  case round =>
    clear H3 C0 G0
    obtain ⟨i, hi, rfl, f, hf, rfl, s, j, jb, pp, nn, T, R⟩ := hrel
    obtain ⟨q1, q2, q3, q4, q5, q6⟩ := R
    by_cases hi12 : i < 1200
    case pos =>
      have p0 := q2.pl.box.c0
      have p1 := q2.pl.box.c1
      have p2 := q2.pl.box.c2
      have p3 := q2.pl.box.c3
      have p4 := q2.pl.box.c4
      obtain ⟨r3, hr3⟩ : ∃ r3 : Nat, (i : Int) % 3 = r3 := ⟨i % 3, by omega⟩
      by_cases hA : i < len
      · by_cases hB : i < 400
        · obtain ⟨c, off, rfl, hcb, hcell⟩ := hl.resolve_left (by omega)
          obtain ⟨hcj, hz1, hz2⟩ := hcell i hA
          have hcj' : wr.cell? ⟨c, off + i, none⟩ = some (.int .i64 (z i)) := (q1.bel.cell hcb).trans hcj
          obtain ⟨kk, hkk, hk3'⟩ := kd_nat (z i) 3 (by decide)
          have hk3 : kk < 3 := by omega
          have hik : 400 ≤ i → kk = i % 3 := fun h => by omega
          clear hcell hcj
          have kk0 : (0 : Int) ≤ (kk : Int) := by omega
          have kk3 : (kk : Int) < 3 := by omega
          have nk := q2.nc hk3
          have nkf := q2.n.free kk
          have xk0 := q2.xc hk3
          have xkf := q2.x.free kk
          rcases hnn : nn kk with _ | _
          · rw [hnn] at nk
            rcases hjb : jb kk with _ | x
            · rw [hjb] at xk0
              have xk0' : wr.cell? ⟨xb, kk, none⟩ = some (.pointer none) := xk0
              clear xk0
              have ok0 := TakeS.ok_new (mkPl_ok (t := 3) (n := n) (by decide) (by omega)) (show (0 : Int) ≤ kk by omega) (show (kk : Int) ≤ 2 by omega) (show (0 : Int) ≤ 0 by decide) (show (0 : Int) ≤ 1 by decide)
              have O := game_new q3 hk3 hnn hjb
              obtain ⟨x, hx⟩ : ∃ x, TakeS.new (mkPl 3 n) kk 0 = x := ⟨_, rfl⟩
              rw [hx] at O ok0
              rcases O with ⟨j', hpc, g, d, od⟩ | ⟨hpc, hc, g, od⟩ | ⟨a', han, hpc, hc, h0, g, d, od⟩
              · as_aux_lemma =>
                go_wp2_with (first | (go_at_call 8; refine (cKind _ (z i) 3 hz1 hz2 (by decide)).mono ?_; rintro e wx ⟨rfl, hwx⟩; rw [hwx, hkk]; clear hwx wx) | (go_at_call 10; refine (hNewTake q1 (mkPl 3 n) kk 0).mono ?_; rintro e w4 ⟨p, rfl, h4, B4, hb4, hp4⟩; rw [hx] at B4; have x4 := (hb4.cell q2.x.lt).trans xk0'; have xf4 := (q2.below hb4).x.free kk; have C4 := q2.new hk3 hb4 B4 ok0 hp4; have H4 := h4.set (q2.below hb4).x kk (.pointer (some ⟨p, 0, none⟩)); have B4' := C4.m kk hk3 x (upd_eq _ _ _); rw [upd_eq] at B4'))
                go_wp2_with (go_at_call 11; refine (oTake H4 B4'.1 B4'.2 (by omega)).mono ?_; rintro e w5 ⟨rfl, k1, k2, k3⟩; rw [hpc]; have C5 := (C4).step hk3 (upd_eq _ _ _) (by rw [upd_eq]; exact k2) (B4'.2.next H4.rng) (by rw [upd_eq]; exact k3))
                go_roundw
                case rel => exact ⟨i + 1, by omega, by go_num, f, by omega, rfl, _, j', _, _, nn, T, ⟨k1.mono (by omega), (by rw [upd_upd] at C5; exact C5), g, q4.next g hk3 hik (.inr ⟨hnn, by rw [upd_eq]; exact d⟩) (fun m hm hmk => ⟨rfl, by rw [upd_ne _ _ hmk]; exact od m hm hmk⟩), q5, q6⟩⟩
                case measure => simp [intOf]; omega
              · as_aux_lemma =>
                go_wp2_with (first | (go_at_call 8; refine (cKind _ (z i) 3 hz1 hz2 (by decide)).mono ?_; rintro e wx ⟨rfl, hwx⟩; rw [hwx, hkk]; clear hwx wx) | (go_at_call 10; refine (hNewTake q1 (mkPl 3 n) kk 0).mono ?_; rintro e w4 ⟨p, rfl, h4, B4, hb4, hp4⟩; rw [hx] at B4; have x4 := (hb4.cell q2.x.lt).trans xk0'; have xf4 := (q2.below hb4).x.free kk; have C4 := q2.new hk3 hb4 B4 ok0 hp4; have H4 := h4.set (q2.below hb4).x kk (.pointer (some ⟨p, 0, none⟩)); have B4' := C4.m kk hk3 x (upd_eq _ _ _); rw [upd_eq] at B4'))
                go_wp2_with (go_at_call 11; refine (oTake H4 B4'.1 B4'.2 (by omega)).mono ?_; rintro e w5 ⟨rfl, k1, k2, k3⟩; rw [hpc]; have C5 := (C4).step hk3 (upd_eq _ _ _) (by rw [upd_eq]; exact k2) (B4'.2.next H4.rng) (by rw [upd_eq]; exact k3))
                have okn := B4'.2.next H4.rng
                have xk := (C5.xc hk3)
                rw [upd_eq, upd_eq] at xk
                have S0' : ∀ w', Below w5.heap.size w5 w' → w'.cell? ⟨o, 0, none⟩ = some (.int .i64 (mkPl 3 n).t) ∧ w'.cell? ⟨o, 1, none⟩ = some (.int .i64 (mkPl 3 n).b) ∧ w'.cell? ⟨o, 2, none⟩ = some (.int .i64 (mkPl 3 n).tb) ∧ w'.cell? ⟨o, 3, none⟩ = some (.int .i64 (mkPl 3 n).hp) ∧ w'.cell? ⟨o, 4, none⟩ = some (.int .i64 (mkPl 3 n).sz) ∧ w'.cell? ⟨xb, kk, none⟩ = some (.pointer (some ⟨p, 0, none⟩)) := fun w' hb => by
                  have B := (C5.below hb).pl.box
                  exact ⟨B.c0, B.c1, B.c2, B.c3, B.c4, (hb.cell C5.x.lt).trans xk⟩
                have hbd : Below w5.heap.size w5 w5.drew := (Below.refl w5.heap.size w5).drew
                have RD := S0' _ hbd
                clear p0 p1 p2 p3 p4
                have hbk := bk_none (t := 3) (n := n)
                go_region_held3 (fun w' => w'.cell? ⟨o, 0, none⟩ = some (.int .i64 (mkPl 3 n).t) ∧ w'.cell? ⟨o, 1, none⟩ = some (.int .i64 (mkPl 3 n).b) ∧ w'.cell? ⟨o, 2, none⟩ = some (.int .i64 (mkPl 3 n).tb) ∧ w'.cell? ⟨o, 3, none⟩ = some (.int .i64 (mkPl 3 n).hp) ∧ w'.cell? ⟨o, 4, none⟩ = some (.int .i64 (mkPl 3 n).sz) ∧ w'.cell? ⟨xb, kk, none⟩ = some (.pointer (some ⟨p, 0, none⟩))) (first | assumption | exact RD | exact S0' _ (by assumption))
                  (first
                    | (go_at_call 13; refine (oCell (k2.below hbd) okn (k1.below hbd).widw).mono ?_; rintro e w6 ⟨rfl, hb6⟩; rw [hc]; have hb6' := bel_trans hbd hb6)
                    | (go_at_call 12; refine (kRBlock 3 n (by decide) (by omega) _ _).mono ?_; rintro e w7 ⟨rfl, hb7⟩; rw [hbk]; have hb7' := bel_trans hb6' hb7; have C7 := C5.below hb7'; have k7 := k1.below hb7'; have x7 : w7.cell? ⟨xb, kk, none⟩ = some (.pointer (some ⟨p, 0, none⟩)) := (hb7'.cell C5.x.lt).trans xk; have xf7 := C7.x.free kk; have C8 := C7.drop hk3; have k8 := k7.set C7.x kk (.pointer none); have n8' := C8.nc hk3; have nf8 := C8.n.free kk; have C9 := C8.setN hk3; have k9 := k8.set C8.n kk (.bool true)))
                go_wp2
                go_roundw
                case rel => exact ⟨i + 1, by omega, by go_num, f, by omega, rfl, _, j, _, _, _, T, ⟨k9.mono (by omega), (by simp only [upd_upd] at C9; exact C9), g, q4.next g hk3 hik (.inl (upd_eq _ _ _)) (fun m hm hmk => ⟨upd_ne _ _ hmk, by rw [upd_ne _ _ hmk]; exact od m hm hmk⟩), q5, q6⟩⟩
                case measure => simp [intOf]; omega
              · as_aux_lemma =>
                go_wp2_with (first | (go_at_call 8; refine (cKind _ (z i) 3 hz1 hz2 (by decide)).mono ?_; rintro e wx ⟨rfl, hwx⟩; rw [hwx, hkk]; clear hwx wx) | (go_at_call 10; refine (hNewTake q1 (mkPl 3 n) kk 0).mono ?_; rintro e w4 ⟨p, rfl, h4, B4, hb4, hp4⟩; rw [hx] at B4; have x4 := (hb4.cell q2.x.lt).trans xk0'; have xf4 := (q2.below hb4).x.free kk; have C4 := q2.new hk3 hb4 B4 ok0 hp4; have H4 := h4.set (q2.below hb4).x kk (.pointer (some ⟨p, 0, none⟩)); have B4' := C4.m kk hk3 x (upd_eq _ _ _); rw [upd_eq] at B4'))
                go_wp2_with (go_at_call 11; refine (oTake H4 B4'.1 B4'.2 (by omega)).mono ?_; rintro e w5 ⟨rfl, k1, k2, k3⟩; rw [hpc]; have C5 := (C4).step hk3 (upd_eq _ _ _) (by rw [upd_eq]; exact k2) (B4'.2.next H4.rng) (by rw [upd_eq]; exact k3))
                have okn := B4'.2.next H4.rng
                have xk := (C5.xc hk3)
                rw [upd_eq, upd_eq] at xk
                have S0' : ∀ w', Below w5.heap.size w5 w' → w'.cell? ⟨o, 0, none⟩ = some (.int .i64 (mkPl 3 n).t) ∧ w'.cell? ⟨o, 1, none⟩ = some (.int .i64 (mkPl 3 n).b) ∧ w'.cell? ⟨o, 2, none⟩ = some (.int .i64 (mkPl 3 n).tb) ∧ w'.cell? ⟨o, 3, none⟩ = some (.int .i64 (mkPl 3 n).hp) ∧ w'.cell? ⟨o, 4, none⟩ = some (.int .i64 (mkPl 3 n).sz) ∧ w'.cell? ⟨xb, kk, none⟩ = some (.pointer (some ⟨p, 0, none⟩)) := fun w' hb => by
                  have B := (C5.below hb).pl.box
                  exact ⟨B.c0, B.c1, B.c2, B.c3, B.c4, (hb.cell C5.x.lt).trans xk⟩
                have hbd : Below w5.heap.size w5 w5.drew := (Below.refl w5.heap.size w5).drew
                have RD := S0' _ hbd
                clear p0 p1 p2 p3 p4
                have hbk := bk_cel (t := 3) (n := n) (by decide) (by omega) han kk
                have ia0 : (0 : Int) ≤ (a' : Int) := by omega
                have ia1 : (a' : Int) < 8 := by omega
                have hng : decide ((a' : Int) < 0) = false := decide_eq_false (by omega)
                go_region_held3 (fun w' => w'.cell? ⟨o, 0, none⟩ = some (.int .i64 (mkPl 3 n).t) ∧ w'.cell? ⟨o, 1, none⟩ = some (.int .i64 (mkPl 3 n).b) ∧ w'.cell? ⟨o, 2, none⟩ = some (.int .i64 (mkPl 3 n).tb) ∧ w'.cell? ⟨o, 3, none⟩ = some (.int .i64 (mkPl 3 n).hp) ∧ w'.cell? ⟨o, 4, none⟩ = some (.int .i64 (mkPl 3 n).sz) ∧ w'.cell? ⟨xb, kk, none⟩ = some (.pointer (some ⟨p, 0, none⟩))) (first | assumption | exact RD | exact S0' _ (by assumption))
                  (first
                    | (go_at_call 13; refine (oCell (k2.below hbd) okn (k1.below hbd).widw).mono ?_; rintro e w6 ⟨rfl, hb6⟩; rw [hc]; have hb6' := bel_trans hbd hb6)
                    | (go_at_call 12; refine (kRBlock 3 n (by decide) (by omega) _ _).mono ?_; rintro e w7 ⟨rfl, hb7⟩; rw [hbk]; have hb7' := bel_trans hb6' hb7; have C7 := C5.below hb7'; have k7 := k1.below hb7'; have x7 : w7.cell? ⟨xb, kk, none⟩ = some (.pointer (some ⟨p, 0, none⟩)) := (hb7'.cell C5.x.lt).trans xk; have xf7 := C7.x.free kk; have C8 := C7.drop hk3; have k8 := k7.set C7.x kk (.pointer none); have t8 := C8.tc (show a' < 8 by omega); rw [h0] at t8; have tf8 := C8.t.free a'; have C9 := C8.setT (show a' < 8 by omega); have k9 := k8.set C8.t a' (.int .i64 1)))
                go_wp2
                have hs8 := sum8_upd (f := T) (v := 1) (show a' < 8 by omega)
                go_roundw
                case rel => exact ⟨i + 1, by omega, by go_num, f + 1, by omega, by go_num, _, j, _, _, nn, _, ⟨k9.mono (by omega), (by simp only [upd_upd] at C9; exact C9), g, q4.next g hk3 hik (.inr ⟨hnn, by rw [upd_eq]; exact d⟩) (fun m hm hmk => ⟨rfl, by rw [upd_ne _ _ hmk]; exact od m hm hmk⟩), by omega, by omega⟩⟩
                case measure => simp [intOf]; omega
            · rw [hjb] at xk0
              have O := game_step q3 hk3 hnn hjb
              have B0 := q2.m kk hk3 x hjb
              obtain ⟨p, hp⟩ : ∃ p, pp kk = p := ⟨_, rfl⟩
              rw [hp] at B0
              have xk0' : wr.cell? ⟨xb, kk, none⟩ = some (.pointer (some ⟨p, 0, none⟩)) := hp ▸ xk0
              clear xk0
              rcases O with ⟨j', hpc, g, d, od⟩ | ⟨hpc, hc, g, od⟩ | ⟨a', han, hpc, hc, h0, g, d, od⟩
              · as_aux_lemma =>
                go_wp2_with (go_at_call 8; refine (cKind _ (z i) 3 hz1 hz2 (by decide)).mono ?_; rintro e wx ⟨rfl, hwx⟩; rw [hwx, hkk]; clear hwx wx)
                go_wp2_with (go_at_call 11; refine (oTake q1 B0.1 B0.2 (by omega)).mono ?_; rintro e w5 ⟨rfl, k1, k2, k3⟩; rw [hpc]; have C5 := (q2).step hk3 hjb (hp ▸ k2) (B0.2.next q1.rng) (hp ▸ k3))
                go_roundw
                case rel => exact ⟨i + 1, by omega, by go_num, f, by omega, rfl, _, j', _, _, nn, T, ⟨k1.mono (by omega), C5, g, q4.next g hk3 hik (.inr ⟨hnn, by rw [upd_eq]; exact d⟩) (fun m hm hmk => ⟨rfl, by rw [upd_ne _ _ hmk]; exact od m hm hmk⟩), q5, q6⟩⟩
                case measure => simp [intOf]; omega
              · as_aux_lemma =>
                go_wp2_with (go_at_call 8; refine (cKind _ (z i) 3 hz1 hz2 (by decide)).mono ?_; rintro e wx ⟨rfl, hwx⟩; rw [hwx, hkk]; clear hwx wx)
                go_wp2_with (go_at_call 11; refine (oTake q1 B0.1 B0.2 (by omega)).mono ?_; rintro e w5 ⟨rfl, k1, k2, k3⟩; rw [hpc]; have C5 := (q2).step hk3 hjb (hp ▸ k2) (B0.2.next q1.rng) (hp ▸ k3))
                have okn := B0.2.next q1.rng
                have xk := (C5.xc hk3)
                rw [upd_eq, hp] at xk
                have S0' : ∀ w', Below w5.heap.size w5 w' → w'.cell? ⟨o, 0, none⟩ = some (.int .i64 (mkPl 3 n).t) ∧ w'.cell? ⟨o, 1, none⟩ = some (.int .i64 (mkPl 3 n).b) ∧ w'.cell? ⟨o, 2, none⟩ = some (.int .i64 (mkPl 3 n).tb) ∧ w'.cell? ⟨o, 3, none⟩ = some (.int .i64 (mkPl 3 n).hp) ∧ w'.cell? ⟨o, 4, none⟩ = some (.int .i64 (mkPl 3 n).sz) ∧ w'.cell? ⟨xb, kk, none⟩ = some (.pointer (some ⟨p, 0, none⟩)) := fun w' hb => by
                  have B := (C5.below hb).pl.box
                  exact ⟨B.c0, B.c1, B.c2, B.c3, B.c4, (hb.cell C5.x.lt).trans xk⟩
                have hbd : Below w5.heap.size w5 w5.drew := (Below.refl w5.heap.size w5).drew
                have RD := S0' _ hbd
                clear p0 p1 p2 p3 p4
                have hbk := bk_none (t := 3) (n := n)
                go_region_held3 (fun w' => w'.cell? ⟨o, 0, none⟩ = some (.int .i64 (mkPl 3 n).t) ∧ w'.cell? ⟨o, 1, none⟩ = some (.int .i64 (mkPl 3 n).b) ∧ w'.cell? ⟨o, 2, none⟩ = some (.int .i64 (mkPl 3 n).tb) ∧ w'.cell? ⟨o, 3, none⟩ = some (.int .i64 (mkPl 3 n).hp) ∧ w'.cell? ⟨o, 4, none⟩ = some (.int .i64 (mkPl 3 n).sz) ∧ w'.cell? ⟨xb, kk, none⟩ = some (.pointer (some ⟨p, 0, none⟩))) (first | assumption | exact RD | exact S0' _ (by assumption))
                  (first
                    | (go_at_call 13; refine (oCell (k2.below hbd) okn (k1.below hbd).widw).mono ?_; rintro e w6 ⟨rfl, hb6⟩; rw [hc]; have hb6' := bel_trans hbd hb6)
                    | (go_at_call 12; refine (kRBlock 3 n (by decide) (by omega) _ _).mono ?_; rintro e w7 ⟨rfl, hb7⟩; rw [hbk]; have hb7' := bel_trans hb6' hb7; have C7 := C5.below hb7'; have k7 := k1.below hb7'; have x7 : w7.cell? ⟨xb, kk, none⟩ = some (.pointer (some ⟨p, 0, none⟩)) := (hb7'.cell C5.x.lt).trans xk; have xf7 := C7.x.free kk; have C8 := C7.drop hk3; have k8 := k7.set C7.x kk (.pointer none); have n8' := C8.nc hk3; have nf8 := C8.n.free kk; have C9 := C8.setN hk3; have k9 := k8.set C8.n kk (.bool true)))
                go_wp2
                go_roundw
                case rel => exact ⟨i + 1, by omega, by go_num, f, by omega, rfl, _, j, _, _, _, T, ⟨k9.mono (by omega), (by simp only [upd_upd] at C9; exact C9), g, q4.next g hk3 hik (.inl (upd_eq _ _ _)) (fun m hm hmk => ⟨upd_ne _ _ hmk, by rw [upd_ne _ _ hmk]; exact od m hm hmk⟩), q5, q6⟩⟩
                case measure => simp [intOf]; omega
              · as_aux_lemma =>
                go_wp2_with (go_at_call 8; refine (cKind _ (z i) 3 hz1 hz2 (by decide)).mono ?_; rintro e wx ⟨rfl, hwx⟩; rw [hwx, hkk]; clear hwx wx)
                go_wp2_with (go_at_call 11; refine (oTake q1 B0.1 B0.2 (by omega)).mono ?_; rintro e w5 ⟨rfl, k1, k2, k3⟩; rw [hpc]; have C5 := (q2).step hk3 hjb (hp ▸ k2) (B0.2.next q1.rng) (hp ▸ k3))
                have okn := B0.2.next q1.rng
                have xk := (C5.xc hk3)
                rw [upd_eq, hp] at xk
                have S0' : ∀ w', Below w5.heap.size w5 w' → w'.cell? ⟨o, 0, none⟩ = some (.int .i64 (mkPl 3 n).t) ∧ w'.cell? ⟨o, 1, none⟩ = some (.int .i64 (mkPl 3 n).b) ∧ w'.cell? ⟨o, 2, none⟩ = some (.int .i64 (mkPl 3 n).tb) ∧ w'.cell? ⟨o, 3, none⟩ = some (.int .i64 (mkPl 3 n).hp) ∧ w'.cell? ⟨o, 4, none⟩ = some (.int .i64 (mkPl 3 n).sz) ∧ w'.cell? ⟨xb, kk, none⟩ = some (.pointer (some ⟨p, 0, none⟩)) := fun w' hb => by
                  have B := (C5.below hb).pl.box
                  exact ⟨B.c0, B.c1, B.c2, B.c3, B.c4, (hb.cell C5.x.lt).trans xk⟩
                have hbd : Below w5.heap.size w5 w5.drew := (Below.refl w5.heap.size w5).drew
                have RD := S0' _ hbd
                clear p0 p1 p2 p3 p4
                have hbk := bk_cel (t := 3) (n := n) (by decide) (by omega) han kk
                have ia0 : (0 : Int) ≤ (a' : Int) := by omega
                have ia1 : (a' : Int) < 8 := by omega
                have hng : decide ((a' : Int) < 0) = false := decide_eq_false (by omega)
                go_region_held3 (fun w' => w'.cell? ⟨o, 0, none⟩ = some (.int .i64 (mkPl 3 n).t) ∧ w'.cell? ⟨o, 1, none⟩ = some (.int .i64 (mkPl 3 n).b) ∧ w'.cell? ⟨o, 2, none⟩ = some (.int .i64 (mkPl 3 n).tb) ∧ w'.cell? ⟨o, 3, none⟩ = some (.int .i64 (mkPl 3 n).hp) ∧ w'.cell? ⟨o, 4, none⟩ = some (.int .i64 (mkPl 3 n).sz) ∧ w'.cell? ⟨xb, kk, none⟩ = some (.pointer (some ⟨p, 0, none⟩))) (first | assumption | exact RD | exact S0' _ (by assumption))
                  (first
                    | (go_at_call 13; refine (oCell (k2.below hbd) okn (k1.below hbd).widw).mono ?_; rintro e w6 ⟨rfl, hb6⟩; rw [hc]; have hb6' := bel_trans hbd hb6)
                    | (go_at_call 12; refine (kRBlock 3 n (by decide) (by omega) _ _).mono ?_; rintro e w7 ⟨rfl, hb7⟩; rw [hbk]; have hb7' := bel_trans hb6' hb7; have C7 := C5.below hb7'; have k7 := k1.below hb7'; have x7 : w7.cell? ⟨xb, kk, none⟩ = some (.pointer (some ⟨p, 0, none⟩)) := (hb7'.cell C5.x.lt).trans xk; have xf7 := C7.x.free kk; have C8 := C7.drop hk3; have k8 := k7.set C7.x kk (.pointer none); have t8 := C8.tc (show a' < 8 by omega); rw [h0] at t8; have tf8 := C8.t.free a'; have C9 := C8.setT (show a' < 8 by omega); have k9 := k8.set C8.t a' (.int .i64 1)))
                go_wp2
                have hs8 := sum8_upd (f := T) (v := 1) (show a' < 8 by omega)
                go_roundw
                case rel => exact ⟨i + 1, by omega, by go_num, f + 1, by omega, by go_num, _, j, _, _, nn, _, ⟨k9.mono (by omega), (by simp only [upd_upd] at C9; exact C9), g, q4.next g hk3 hik (.inr ⟨hnn, by rw [upd_eq]; exact d⟩) (fun m hm hmk => ⟨rfl, by rw [upd_ne _ _ hmk]; exact od m hm hmk⟩), by omega, by omega⟩⟩
                case measure => simp [intOf]; omega
          · rw [hnn] at nk
            go_wp2_with (go_at_call 8; refine (cKind _ (z i) 3 hz1 hz2 (by decide)).mono ?_; rintro e wx ⟨rfl, hwx⟩; rw [hwx, hkk]; clear hwx wx)
            go_roundw
            case rel => exact ⟨i + 1, by omega, by go_num, f, by omega, rfl, s, j, jb, pp, nn, T, ⟨q1.mono (by omega), q2, q3, q4.skip q3 hk3 hik hnn, q5, q6⟩⟩
            case measure => simp [intOf]; omega
        · obtain ⟨kk, hkk⟩ : ∃ kk, r3 = kk := ⟨_, rfl⟩
          have hk3 : kk < 3 := by omega
          have hik : 400 ≤ i → kk = i % 3 := fun h => by omega
          rw [hkk] at hr3
          have kk0 : (0 : Int) ≤ (kk : Int) := by omega
          have kk3 : (kk : Int) < 3 := by omega
          have nk := q2.nc hk3
          have nkf := q2.n.free kk
          have xk0 := q2.xc hk3
          have xkf := q2.x.free kk
          rcases hnn : nn kk with _ | _
          · rw [hnn] at nk
            rcases hjb : jb kk with _ | x
            · rw [hjb] at xk0
              have xk0' : wr.cell? ⟨xb, kk, none⟩ = some (.pointer none) := xk0
              clear xk0
              have ok0 := TakeS.ok_new (mkPl_ok (t := 3) (n := n) (by decide) (by omega)) (show (0 : Int) ≤ kk by omega) (show (kk : Int) ≤ 2 by omega) (show (0 : Int) ≤ 0 by decide) (show (0 : Int) ≤ 1 by decide)
              have O := game_new q3 hk3 hnn hjb
              obtain ⟨x, hx⟩ : ∃ x, TakeS.new (mkPl 3 n) kk 0 = x := ⟨_, rfl⟩
              rw [hx] at O ok0
              rcases O with ⟨j', hpc, g, d, od⟩ | ⟨hpc, hc, g, od⟩ | ⟨a', han, hpc, hc, h0, g, d, od⟩
              · as_aux_lemma =>
                go_wp2_with (go_at_call 10; refine (hNewTake q1 (mkPl 3 n) kk 0).mono ?_; rintro e w4 ⟨p, rfl, h4, B4, hb4, hp4⟩; rw [hx] at B4; have x4 := (hb4.cell q2.x.lt).trans xk0'; have xf4 := (q2.below hb4).x.free kk; have C4 := q2.new hk3 hb4 B4 ok0 hp4; have H4 := h4.set (q2.below hb4).x kk (.pointer (some ⟨p, 0, none⟩)); have B4' := C4.m kk hk3 x (upd_eq _ _ _); rw [upd_eq] at B4')
                go_wp2_with (go_at_call 11; refine (oTake H4 B4'.1 B4'.2 (by omega)).mono ?_; rintro e w5 ⟨rfl, k1, k2, k3⟩; rw [hpc]; have C5 := (C4).step hk3 (upd_eq _ _ _) (by rw [upd_eq]; exact k2) (B4'.2.next H4.rng) (by rw [upd_eq]; exact k3))
                go_roundw
                case rel => exact ⟨i + 1, by omega, by go_num, f, by omega, rfl, _, j', _, _, nn, T, ⟨k1.mono (by omega), (by rw [upd_upd] at C5; exact C5), g, q4.next g hk3 hik (.inr ⟨hnn, by rw [upd_eq]; exact d⟩) (fun m hm hmk => ⟨rfl, by rw [upd_ne _ _ hmk]; exact od m hm hmk⟩), q5, q6⟩⟩
                case measure => simp [intOf]; omega
              · as_aux_lemma =>
                go_wp2_with (go_at_call 10; refine (hNewTake q1 (mkPl 3 n) kk 0).mono ?_; rintro e w4 ⟨p, rfl, h4, B4, hb4, hp4⟩; rw [hx] at B4; have x4 := (hb4.cell q2.x.lt).trans xk0'; have xf4 := (q2.below hb4).x.free kk; have C4 := q2.new hk3 hb4 B4 ok0 hp4; have H4 := h4.set (q2.below hb4).x kk (.pointer (some ⟨p, 0, none⟩)); have B4' := C4.m kk hk3 x (upd_eq _ _ _); rw [upd_eq] at B4')
                go_wp2_with (go_at_call 11; refine (oTake H4 B4'.1 B4'.2 (by omega)).mono ?_; rintro e w5 ⟨rfl, k1, k2, k3⟩; rw [hpc]; have C5 := (C4).step hk3 (upd_eq _ _ _) (by rw [upd_eq]; exact k2) (B4'.2.next H4.rng) (by rw [upd_eq]; exact k3))
                have okn := B4'.2.next H4.rng
                have xk := (C5.xc hk3)
                rw [upd_eq, upd_eq] at xk
                have S0' : ∀ w', Below w5.heap.size w5 w' → w'.cell? ⟨o, 0, none⟩ = some (.int .i64 (mkPl 3 n).t) ∧ w'.cell? ⟨o, 1, none⟩ = some (.int .i64 (mkPl 3 n).b) ∧ w'.cell? ⟨o, 2, none⟩ = some (.int .i64 (mkPl 3 n).tb) ∧ w'.cell? ⟨o, 3, none⟩ = some (.int .i64 (mkPl 3 n).hp) ∧ w'.cell? ⟨o, 4, none⟩ = some (.int .i64 (mkPl 3 n).sz) ∧ w'.cell? ⟨xb, kk, none⟩ = some (.pointer (some ⟨p, 0, none⟩)) := fun w' hb => by
                  have B := (C5.below hb).pl.box
                  exact ⟨B.c0, B.c1, B.c2, B.c3, B.c4, (hb.cell C5.x.lt).trans xk⟩
                have hbd : Below w5.heap.size w5 w5.drew := (Below.refl w5.heap.size w5).drew
                have RD := S0' _ hbd
                clear p0 p1 p2 p3 p4
                have hbk := bk_none (t := 3) (n := n)
                go_region_held3 (fun w' => w'.cell? ⟨o, 0, none⟩ = some (.int .i64 (mkPl 3 n).t) ∧ w'.cell? ⟨o, 1, none⟩ = some (.int .i64 (mkPl 3 n).b) ∧ w'.cell? ⟨o, 2, none⟩ = some (.int .i64 (mkPl 3 n).tb) ∧ w'.cell? ⟨o, 3, none⟩ = some (.int .i64 (mkPl 3 n).hp) ∧ w'.cell? ⟨o, 4, none⟩ = some (.int .i64 (mkPl 3 n).sz) ∧ w'.cell? ⟨xb, kk, none⟩ = some (.pointer (some ⟨p, 0, none⟩))) (first | assumption | exact RD | exact S0' _ (by assumption))
                  (first
                    | (go_at_call 13; refine (oCell (k2.below hbd) okn (k1.below hbd).widw).mono ?_; rintro e w6 ⟨rfl, hb6⟩; rw [hc]; have hb6' := bel_trans hbd hb6)
                    | (go_at_call 12; refine (kRBlock 3 n (by decide) (by omega) _ _).mono ?_; rintro e w7 ⟨rfl, hb7⟩; rw [hbk]; have hb7' := bel_trans hb6' hb7; have C7 := C5.below hb7'; have k7 := k1.below hb7'; have x7 : w7.cell? ⟨xb, kk, none⟩ = some (.pointer (some ⟨p, 0, none⟩)) := (hb7'.cell C5.x.lt).trans xk; have xf7 := C7.x.free kk; have C8 := C7.drop hk3; have k8 := k7.set C7.x kk (.pointer none); have n8' := C8.nc hk3; have nf8 := C8.n.free kk; have C9 := C8.setN hk3; have k9 := k8.set C8.n kk (.bool true)))
                go_wp2
                go_roundw
                case rel => exact ⟨i + 1, by omega, by go_num, f, by omega, rfl, _, j, _, _, _, T, ⟨k9.mono (by omega), (by simp only [upd_upd] at C9; exact C9), g, q4.next g hk3 hik (.inl (upd_eq _ _ _)) (fun m hm hmk => ⟨upd_ne _ _ hmk, by rw [upd_ne _ _ hmk]; exact od m hm hmk⟩), q5, q6⟩⟩
                case measure => simp [intOf]; omega
              · as_aux_lemma =>
                go_wp2_with (go_at_call 10; refine (hNewTake q1 (mkPl 3 n) kk 0).mono ?_; rintro e w4 ⟨p, rfl, h4, B4, hb4, hp4⟩; rw [hx] at B4; have x4 := (hb4.cell q2.x.lt).trans xk0'; have xf4 := (q2.below hb4).x.free kk; have C4 := q2.new hk3 hb4 B4 ok0 hp4; have H4 := h4.set (q2.below hb4).x kk (.pointer (some ⟨p, 0, none⟩)); have B4' := C4.m kk hk3 x (upd_eq _ _ _); rw [upd_eq] at B4')
                go_wp2_with (go_at_call 11; refine (oTake H4 B4'.1 B4'.2 (by omega)).mono ?_; rintro e w5 ⟨rfl, k1, k2, k3⟩; rw [hpc]; have C5 := (C4).step hk3 (upd_eq _ _ _) (by rw [upd_eq]; exact k2) (B4'.2.next H4.rng) (by rw [upd_eq]; exact k3))
                have okn := B4'.2.next H4.rng
                have xk := (C5.xc hk3)
                rw [upd_eq, upd_eq] at xk
                have S0' : ∀ w', Below w5.heap.size w5 w' → w'.cell? ⟨o, 0, none⟩ = some (.int .i64 (mkPl 3 n).t) ∧ w'.cell? ⟨o, 1, none⟩ = some (.int .i64 (mkPl 3 n).b) ∧ w'.cell? ⟨o, 2, none⟩ = some (.int .i64 (mkPl 3 n).tb) ∧ w'.cell? ⟨o, 3, none⟩ = some (.int .i64 (mkPl 3 n).hp) ∧ w'.cell? ⟨o, 4, none⟩ = some (.int .i64 (mkPl 3 n).sz) ∧ w'.cell? ⟨xb, kk, none⟩ = some (.pointer (some ⟨p, 0, none⟩)) := fun w' hb => by
                  have B := (C5.below hb).pl.box
                  exact ⟨B.c0, B.c1, B.c2, B.c3, B.c4, (hb.cell C5.x.lt).trans xk⟩
                have hbd : Below w5.heap.size w5 w5.drew := (Below.refl w5.heap.size w5).drew
                have RD := S0' _ hbd
                clear p0 p1 p2 p3 p4
                have hbk := bk_cel (t := 3) (n := n) (by decide) (by omega) han kk
                have ia0 : (0 : Int) ≤ (a' : Int) := by omega
                have ia1 : (a' : Int) < 8 := by omega
                have hng : decide ((a' : Int) < 0) = false := decide_eq_false (by omega)
                go_region_held3 (fun w' => w'.cell? ⟨o, 0, none⟩ = some (.int .i64 (mkPl 3 n).t) ∧ w'.cell? ⟨o, 1, none⟩ = some (.int .i64 (mkPl 3 n).b) ∧ w'.cell? ⟨o, 2, none⟩ = some (.int .i64 (mkPl 3 n).tb) ∧ w'.cell? ⟨o, 3, none⟩ = some (.int .i64 (mkPl 3 n).hp) ∧ w'.cell? ⟨o, 4, none⟩ = some (.int .i64 (mkPl 3 n).sz) ∧ w'.cell? ⟨xb, kk, none⟩ = some (.pointer (some ⟨p, 0, none⟩))) (first | assumption | exact RD | exact S0' _ (by assumption))
                  (first
                    | (go_at_call 13; refine (oCell (k2.below hbd) okn (k1.below hbd).widw).mono ?_; rintro e w6 ⟨rfl, hb6⟩; rw [hc]; have hb6' := bel_trans hbd hb6)
                    | (go_at_call 12; refine (kRBlock 3 n (by decide) (by omega) _ _).mono ?_; rintro e w7 ⟨rfl, hb7⟩; rw [hbk]; have hb7' := bel_trans hb6' hb7; have C7 := C5.below hb7'; have k7 := k1.below hb7'; have x7 : w7.cell? ⟨xb, kk, none⟩ = some (.pointer (some ⟨p, 0, none⟩)) := (hb7'.cell C5.x.lt).trans xk; have xf7 := C7.x.free kk; have C8 := C7.drop hk3; have k8 := k7.set C7.x kk (.pointer none); have t8 := C8.tc (show a' < 8 by omega); rw [h0] at t8; have tf8 := C8.t.free a'; have C9 := C8.setT (show a' < 8 by omega); have k9 := k8.set C8.t a' (.int .i64 1)))
                go_wp2
                have hs8 := sum8_upd (f := T) (v := 1) (show a' < 8 by omega)
                go_roundw
                case rel => exact ⟨i + 1, by omega, by go_num, f + 1, by omega, by go_num, _, j, _, _, nn, _, ⟨k9.mono (by omega), (by simp only [upd_upd] at C9; exact C9), g, q4.next g hk3 hik (.inr ⟨hnn, by rw [upd_eq]; exact d⟩) (fun m hm hmk => ⟨rfl, by rw [upd_ne _ _ hmk]; exact od m hm hmk⟩), by omega, by omega⟩⟩
                case measure => simp [intOf]; omega
            · rw [hjb] at xk0
              have O := game_step q3 hk3 hnn hjb
              have B0 := q2.m kk hk3 x hjb
              obtain ⟨p, hp⟩ : ∃ p, pp kk = p := ⟨_, rfl⟩
              rw [hp] at B0
              have xk0' : wr.cell? ⟨xb, kk, none⟩ = some (.pointer (some ⟨p, 0, none⟩)) := hp ▸ xk0
              clear xk0
              rcases O with ⟨j', hpc, g, d, od⟩ | ⟨hpc, hc, g, od⟩ | ⟨a', han, hpc, hc, h0, g, d, od⟩
              · as_aux_lemma =>
                go_wp2_with (go_at_call 11; refine (oTake q1 B0.1 B0.2 (by omega)).mono ?_; rintro e w5 ⟨rfl, k1, k2, k3⟩; rw [hpc]; have C5 := (q2).step hk3 hjb (hp ▸ k2) (B0.2.next q1.rng) (hp ▸ k3))
                go_roundw
                case rel => exact ⟨i + 1, by omega, by go_num, f, by omega, rfl, _, j', _, _, nn, T, ⟨k1.mono (by omega), C5, g, q4.next g hk3 hik (.inr ⟨hnn, by rw [upd_eq]; exact d⟩) (fun m hm hmk => ⟨rfl, by rw [upd_ne _ _ hmk]; exact od m hm hmk⟩), q5, q6⟩⟩
                case measure => simp [intOf]; omega
              · as_aux_lemma =>
                go_wp2_with (go_at_call 11; refine (oTake q1 B0.1 B0.2 (by omega)).mono ?_; rintro e w5 ⟨rfl, k1, k2, k3⟩; rw [hpc]; have C5 := (q2).step hk3 hjb (hp ▸ k2) (B0.2.next q1.rng) (hp ▸ k3))
                have okn := B0.2.next q1.rng
                have xk := (C5.xc hk3)
                rw [upd_eq, hp] at xk
                have S0' : ∀ w', Below w5.heap.size w5 w' → w'.cell? ⟨o, 0, none⟩ = some (.int .i64 (mkPl 3 n).t) ∧ w'.cell? ⟨o, 1, none⟩ = some (.int .i64 (mkPl 3 n).b) ∧ w'.cell? ⟨o, 2, none⟩ = some (.int .i64 (mkPl 3 n).tb) ∧ w'.cell? ⟨o, 3, none⟩ = some (.int .i64 (mkPl 3 n).hp) ∧ w'.cell? ⟨o, 4, none⟩ = some (.int .i64 (mkPl 3 n).sz) ∧ w'.cell? ⟨xb, kk, none⟩ = some (.pointer (some ⟨p, 0, none⟩)) := fun w' hb => by
                  have B := (C5.below hb).pl.box
                  exact ⟨B.c0, B.c1, B.c2, B.c3, B.c4, (hb.cell C5.x.lt).trans xk⟩
                have hbd : Below w5.heap.size w5 w5.drew := (Below.refl w5.heap.size w5).drew
                have RD := S0' _ hbd
                clear p0 p1 p2 p3 p4
                have hbk := bk_none (t := 3) (n := n)
                go_region_held3 (fun w' => w'.cell? ⟨o, 0, none⟩ = some (.int .i64 (mkPl 3 n).t) ∧ w'.cell? ⟨o, 1, none⟩ = some (.int .i64 (mkPl 3 n).b) ∧ w'.cell? ⟨o, 2, none⟩ = some (.int .i64 (mkPl 3 n).tb) ∧ w'.cell? ⟨o, 3, none⟩ = some (.int .i64 (mkPl 3 n).hp) ∧ w'.cell? ⟨o, 4, none⟩ = some (.int .i64 (mkPl 3 n).sz) ∧ w'.cell? ⟨xb, kk, none⟩ = some (.pointer (some ⟨p, 0, none⟩))) (first | assumption | exact RD | exact S0' _ (by assumption))
                  (first
                    | (go_at_call 13; refine (oCell (k2.below hbd) okn (k1.below hbd).widw).mono ?_; rintro e w6 ⟨rfl, hb6⟩; rw [hc]; have hb6' := bel_trans hbd hb6)
                    | (go_at_call 12; refine (kRBlock 3 n (by decide) (by omega) _ _).mono ?_; rintro e w7 ⟨rfl, hb7⟩; rw [hbk]; have hb7' := bel_trans hb6' hb7; have C7 := C5.below hb7'; have k7 := k1.below hb7'; have x7 : w7.cell? ⟨xb, kk, none⟩ = some (.pointer (some ⟨p, 0, none⟩)) := (hb7'.cell C5.x.lt).trans xk; have xf7 := C7.x.free kk; have C8 := C7.drop hk3; have k8 := k7.set C7.x kk (.pointer none); have n8' := C8.nc hk3; have nf8 := C8.n.free kk; have C9 := C8.setN hk3; have k9 := k8.set C8.n kk (.bool true)))
                go_wp2
                go_roundw
                case rel => exact ⟨i + 1, by omega, by go_num, f, by omega, rfl, _, j, _, _, _, T, ⟨k9.mono (by omega), (by simp only [upd_upd] at C9; exact C9), g, q4.next g hk3 hik (.inl (upd_eq _ _ _)) (fun m hm hmk => ⟨upd_ne _ _ hmk, by rw [upd_ne _ _ hmk]; exact od m hm hmk⟩), q5, q6⟩⟩
                case measure => simp [intOf]; omega
              · as_aux_lemma =>
                go_wp2_with (go_at_call 11; refine (oTake q1 B0.1 B0.2 (by omega)).mono ?_; rintro e w5 ⟨rfl, k1, k2, k3⟩; rw [hpc]; have C5 := (q2).step hk3 hjb (hp ▸ k2) (B0.2.next q1.rng) (hp ▸ k3))
                have okn := B0.2.next q1.rng
                have xk := (C5.xc hk3)
                rw [upd_eq, hp] at xk
                have S0' : ∀ w', Below w5.heap.size w5 w' → w'.cell? ⟨o, 0, none⟩ = some (.int .i64 (mkPl 3 n).t) ∧ w'.cell? ⟨o, 1, none⟩ = some (.int .i64 (mkPl 3 n).b) ∧ w'.cell? ⟨o, 2, none⟩ = some (.int .i64 (mkPl 3 n).tb) ∧ w'.cell? ⟨o, 3, none⟩ = some (.int .i64 (mkPl 3 n).hp) ∧ w'.cell? ⟨o, 4, none⟩ = some (.int .i64 (mkPl 3 n).sz) ∧ w'.cell? ⟨xb, kk, none⟩ = some (.pointer (some ⟨p, 0, none⟩)) := fun w' hb => by
                  have B := (C5.below hb).pl.box
                  exact ⟨B.c0, B.c1, B.c2, B.c3, B.c4, (hb.cell C5.x.lt).trans xk⟩
                have hbd : Below w5.heap.size w5 w5.drew := (Below.refl w5.heap.size w5).drew
                have RD := S0' _ hbd
                clear p0 p1 p2 p3 p4
                have hbk := bk_cel (t := 3) (n := n) (by decide) (by omega) han kk
                have ia0 : (0 : Int) ≤ (a' : Int) := by omega
                have ia1 : (a' : Int) < 8 := by omega
                have hng : decide ((a' : Int) < 0) = false := decide_eq_false (by omega)
                go_region_held3 (fun w' => w'.cell? ⟨o, 0, none⟩ = some (.int .i64 (mkPl 3 n).t) ∧ w'.cell? ⟨o, 1, none⟩ = some (.int .i64 (mkPl 3 n).b) ∧ w'.cell? ⟨o, 2, none⟩ = some (.int .i64 (mkPl 3 n).tb) ∧ w'.cell? ⟨o, 3, none⟩ = some (.int .i64 (mkPl 3 n).hp) ∧ w'.cell? ⟨o, 4, none⟩ = some (.int .i64 (mkPl 3 n).sz) ∧ w'.cell? ⟨xb, kk, none⟩ = some (.pointer (some ⟨p, 0, none⟩))) (first | assumption | exact RD | exact S0' _ (by assumption))
                  (first
                    | (go_at_call 13; refine (oCell (k2.below hbd) okn (k1.below hbd).widw).mono ?_; rintro e w6 ⟨rfl, hb6⟩; rw [hc]; have hb6' := bel_trans hbd hb6)
                    | (go_at_call 12; refine (kRBlock 3 n (by decide) (by omega) _ _).mono ?_; rintro e w7 ⟨rfl, hb7⟩; rw [hbk]; have hb7' := bel_trans hb6' hb7; have C7 := C5.below hb7'; have k7 := k1.below hb7'; have x7 : w7.cell? ⟨xb, kk, none⟩ = some (.pointer (some ⟨p, 0, none⟩)) := (hb7'.cell C5.x.lt).trans xk; have xf7 := C7.x.free kk; have C8 := C7.drop hk3; have k8 := k7.set C7.x kk (.pointer none); have t8 := C8.tc (show a' < 8 by omega); rw [h0] at t8; have tf8 := C8.t.free a'; have C9 := C8.setT (show a' < 8 by omega); have k9 := k8.set C8.t a' (.int .i64 1)))
                go_wp2
                have hs8 := sum8_upd (f := T) (v := 1) (show a' < 8 by omega)
                go_roundw
                case rel => exact ⟨i + 1, by omega, by go_num, f + 1, by omega, by go_num, _, j, _, _, nn, _, ⟨k9.mono (by omega), (by simp only [upd_upd] at C9; exact C9), g, q4.next g hk3 hik (.inr ⟨hnn, by rw [upd_eq]; exact d⟩) (fun m hm hmk => ⟨rfl, by rw [upd_ne _ _ hmk]; exact od m hm hmk⟩), by omega, by omega⟩⟩
                case measure => simp [intOf]; omega
          · rw [hnn] at nk
            go_wp2
            go_roundw
            case rel => exact ⟨i + 1, by omega, by go_num, f, by omega, rfl, s, j, jb, pp, nn, T, ⟨q1.mono (by omega), q2, q3, q4.skip q3 hk3 hik hnn, q5, q6⟩⟩
            case measure => simp [intOf]; omega
      · obtain ⟨kk, hkk⟩ : ∃ kk, r3 = kk := ⟨_, rfl⟩
        have hk3 : kk < 3 := by omega
        have hik : 400 ≤ i → kk = i % 3 := fun h => by omega
        rw [hkk] at hr3
        have kk0 : (0 : Int) ≤ (kk : Int) := by omega
        have kk3 : (kk : Int) < 3 := by omega
        have nk := q2.nc hk3
        have nkf := q2.n.free kk
        have xk0 := q2.xc hk3
        have xkf := q2.x.free kk
        rcases hnn : nn kk with _ | _
        · rw [hnn] at nk
          rcases hjb : jb kk with _ | x
          · rw [hjb] at xk0
            have xk0' : wr.cell? ⟨xb, kk, none⟩ = some (.pointer none) := xk0
            clear xk0
            have ok0 := TakeS.ok_new (mkPl_ok (t := 3) (n := n) (by decide) (by omega)) (show (0 : Int) ≤ kk by omega) (show (kk : Int) ≤ 2 by omega) (show (0 : Int) ≤ 0 by decide) (show (0 : Int) ≤ 1 by decide)
            have O := game_new q3 hk3 hnn hjb
            obtain ⟨x, hx⟩ : ∃ x, TakeS.new (mkPl 3 n) kk 0 = x := ⟨_, rfl⟩
            rw [hx] at O ok0
            rcases O with ⟨j', hpc, g, d, od⟩ | ⟨hpc, hc, g, od⟩ | ⟨a', han, hpc, hc, h0, g, d, od⟩
            · as_aux_lemma =>
              go_wp2_with (go_at_call 10; refine (hNewTake q1 (mkPl 3 n) kk 0).mono ?_; rintro e w4 ⟨p, rfl, h4, B4, hb4, hp4⟩; rw [hx] at B4; have x4 := (hb4.cell q2.x.lt).trans xk0'; have xf4 := (q2.below hb4).x.free kk; have C4 := q2.new hk3 hb4 B4 ok0 hp4; have H4 := h4.set (q2.below hb4).x kk (.pointer (some ⟨p, 0, none⟩)); have B4' := C4.m kk hk3 x (upd_eq _ _ _); rw [upd_eq] at B4')
              go_wp2_with (go_at_call 11; refine (oTake H4 B4'.1 B4'.2 (by omega)).mono ?_; rintro e w5 ⟨rfl, k1, k2, k3⟩; rw [hpc]; have C5 := (C4).step hk3 (upd_eq _ _ _) (by rw [upd_eq]; exact k2) (B4'.2.next H4.rng) (by rw [upd_eq]; exact k3))
              go_roundw
              case rel => exact ⟨i + 1, by omega, by go_num, f, by omega, rfl, _, j', _, _, nn, T, ⟨k1.mono (by omega), (by rw [upd_upd] at C5; exact C5), g, q4.next g hk3 hik (.inr ⟨hnn, by rw [upd_eq]; exact d⟩) (fun m hm hmk => ⟨rfl, by rw [upd_ne _ _ hmk]; exact od m hm hmk⟩), q5, q6⟩⟩
              case measure => simp [intOf]; omega
            · as_aux_lemma =>
              go_wp2_with (go_at_call 10; refine (hNewTake q1 (mkPl 3 n) kk 0).mono ?_; rintro e w4 ⟨p, rfl, h4, B4, hb4, hp4⟩; rw [hx] at B4; have x4 := (hb4.cell q2.x.lt).trans xk0'; have xf4 := (q2.below hb4).x.free kk; have C4 := q2.new hk3 hb4 B4 ok0 hp4; have H4 := h4.set (q2.below hb4).x kk (.pointer (some ⟨p, 0, none⟩)); have B4' := C4.m kk hk3 x (upd_eq _ _ _); rw [upd_eq] at B4')
              go_wp2_with (go_at_call 11; refine (oTake H4 B4'.1 B4'.2 (by omega)).mono ?_; rintro e w5 ⟨rfl, k1, k2, k3⟩; rw [hpc]; have C5 := (C4).step hk3 (upd_eq _ _ _) (by rw [upd_eq]; exact k2) (B4'.2.next H4.rng) (by rw [upd_eq]; exact k3))
              have okn := B4'.2.next H4.rng
              have xk := (C5.xc hk3)
              rw [upd_eq, upd_eq] at xk
              have S0' : ∀ w', Below w5.heap.size w5 w' → w'.cell? ⟨o, 0, none⟩ = some (.int .i64 (mkPl 3 n).t) ∧ w'.cell? ⟨o, 1, none⟩ = some (.int .i64 (mkPl 3 n).b) ∧ w'.cell? ⟨o, 2, none⟩ = some (.int .i64 (mkPl 3 n).tb) ∧ w'.cell? ⟨o, 3, none⟩ = some (.int .i64 (mkPl 3 n).hp) ∧ w'.cell? ⟨o, 4, none⟩ = some (.int .i64 (mkPl 3 n).sz) ∧ w'.cell? ⟨xb, kk, none⟩ = some (.pointer (some ⟨p, 0, none⟩)) := fun w' hb => by
                have B := (C5.below hb).pl.box
                exact ⟨B.c0, B.c1, B.c2, B.c3, B.c4, (hb.cell C5.x.lt).trans xk⟩
              have hbd : Below w5.heap.size w5 w5.drew := (Below.refl w5.heap.size w5).drew
              have RD := S0' _ hbd
              clear p0 p1 p2 p3 p4
              have hbk := bk_none (t := 3) (n := n)
              go_region_held3 (fun w' => w'.cell? ⟨o, 0, none⟩ = some (.int .i64 (mkPl 3 n).t) ∧ w'.cell? ⟨o, 1, none⟩ = some (.int .i64 (mkPl 3 n).b) ∧ w'.cell? ⟨o, 2, none⟩ = some (.int .i64 (mkPl 3 n).tb) ∧ w'.cell? ⟨o, 3, none⟩ = some (.int .i64 (mkPl 3 n).hp) ∧ w'.cell? ⟨o, 4, none⟩ = some (.int .i64 (mkPl 3 n).sz) ∧ w'.cell? ⟨xb, kk, none⟩ = some (.pointer (some ⟨p, 0, none⟩))) (first | assumption | exact RD | exact S0' _ (by assumption))
                (first
                  | (go_at_call 13; refine (oCell (k2.below hbd) okn (k1.below hbd).widw).mono ?_; rintro e w6 ⟨rfl, hb6⟩; rw [hc]; have hb6' := bel_trans hbd hb6)
                  | (go_at_call 12; refine (kRBlock 3 n (by decide) (by omega) _ _).mono ?_; rintro e w7 ⟨rfl, hb7⟩; rw [hbk]; have hb7' := bel_trans hb6' hb7; have C7 := C5.below hb7'; have k7 := k1.below hb7'; have x7 : w7.cell? ⟨xb, kk, none⟩ = some (.pointer (some ⟨p, 0, none⟩)) := (hb7'.cell C5.x.lt).trans xk; have xf7 := C7.x.free kk; have C8 := C7.drop hk3; have k8 := k7.set C7.x kk (.pointer none); have n8' := C8.nc hk3; have nf8 := C8.n.free kk; have C9 := C8.setN hk3; have k9 := k8.set C8.n kk (.bool true)))
              go_wp2
              go_roundw
              case rel => exact ⟨i + 1, by omega, by go_num, f, by omega, rfl, _, j, _, _, _, T, ⟨k9.mono (by omega), (by simp only [upd_upd] at C9; exact C9), g, q4.next g hk3 hik (.inl (upd_eq _ _ _)) (fun m hm hmk => ⟨upd_ne _ _ hmk, by rw [upd_ne _ _ hmk]; exact od m hm hmk⟩), q5, q6⟩⟩
              case measure => simp [intOf]; omega
            · as_aux_lemma =>
              go_wp2_with (go_at_call 10; refine (hNewTake q1 (mkPl 3 n) kk 0).mono ?_; rintro e w4 ⟨p, rfl, h4, B4, hb4, hp4⟩; rw [hx] at B4; have x4 := (hb4.cell q2.x.lt).trans xk0'; have xf4 := (q2.below hb4).x.free kk; have C4 := q2.new hk3 hb4 B4 ok0 hp4; have H4 := h4.set (q2.below hb4).x kk (.pointer (some ⟨p, 0, none⟩)); have B4' := C4.m kk hk3 x (upd_eq _ _ _); rw [upd_eq] at B4')
              go_wp2_with (go_at_call 11; refine (oTake H4 B4'.1 B4'.2 (by omega)).mono ?_; rintro e w5 ⟨rfl, k1, k2, k3⟩; rw [hpc]; have C5 := (C4).step hk3 (upd_eq _ _ _) (by rw [upd_eq]; exact k2) (B4'.2.next H4.rng) (by rw [upd_eq]; exact k3))
              have okn := B4'.2.next H4.rng
              have xk := (C5.xc hk3)
              rw [upd_eq, upd_eq] at xk
              have S0' : ∀ w', Below w5.heap.size w5 w' → w'.cell? ⟨o, 0, none⟩ = some (.int .i64 (mkPl 3 n).t) ∧ w'.cell? ⟨o, 1, none⟩ = some (.int .i64 (mkPl 3 n).b) ∧ w'.cell? ⟨o, 2, none⟩ = some (.int .i64 (mkPl 3 n).tb) ∧ w'.cell? ⟨o, 3, none⟩ = some (.int .i64 (mkPl 3 n).hp) ∧ w'.cell? ⟨o, 4, none⟩ = some (.int .i64 (mkPl 3 n).sz) ∧ w'.cell? ⟨xb, kk, none⟩ = some (.pointer (some ⟨p, 0, none⟩)) := fun w' hb => by
                have B := (C5.below hb).pl.box
                exact ⟨B.c0, B.c1, B.c2, B.c3, B.c4, (hb.cell C5.x.lt).trans xk⟩
              have hbd : Below w5.heap.size w5 w5.drew := (Below.refl w5.heap.size w5).drew
              have RD := S0' _ hbd
              clear p0 p1 p2 p3 p4
              have hbk := bk_cel (t := 3) (n := n) (by decide) (by omega) han kk
              have ia0 : (0 : Int) ≤ (a' : Int) := by omega
              have ia1 : (a' : Int) < 8 := by omega
              have hng : decide ((a' : Int) < 0) = false := decide_eq_false (by omega)
              go_region_held3 (fun w' => w'.cell? ⟨o, 0, none⟩ = some (.int .i64 (mkPl 3 n).t) ∧ w'.cell? ⟨o, 1, none⟩ = some (.int .i64 (mkPl 3 n).b) ∧ w'.cell? ⟨o, 2, none⟩ = some (.int .i64 (mkPl 3 n).tb) ∧ w'.cell? ⟨o, 3, none⟩ = some (.int .i64 (mkPl 3 n).hp) ∧ w'.cell? ⟨o, 4, none⟩ = some (.int .i64 (mkPl 3 n).sz) ∧ w'.cell? ⟨xb, kk, none⟩ = some (.pointer (some ⟨p, 0, none⟩))) (first | assumption | exact RD | exact S0' _ (by assumption))
                (first
                  | (go_at_call 13; refine (oCell (k2.below hbd) okn (k1.below hbd).widw).mono ?_; rintro e w6 ⟨rfl, hb6⟩; rw [hc]; have hb6' := bel_trans hbd hb6)
                  | (go_at_call 12; refine (kRBlock 3 n (by decide) (by omega) _ _).mono ?_; rintro e w7 ⟨rfl, hb7⟩; rw [hbk]; have hb7' := bel_trans hb6' hb7; have C7 := C5.below hb7'; have k7 := k1.below hb7'; have x7 : w7.cell? ⟨xb, kk, none⟩ = some (.pointer (some ⟨p, 0, none⟩)) := (hb7'.cell C5.x.lt).trans xk; have xf7 := C7.x.free kk; have C8 := C7.drop hk3; have k8 := k7.set C7.x kk (.pointer none); have t8 := C8.tc (show a' < 8 by omega); rw [h0] at t8; have tf8 := C8.t.free a'; have C9 := C8.setT (show a' < 8 by omega); have k9 := k8.set C8.t a' (.int .i64 1)))
              go_wp2
              have hs8 := sum8_upd (f := T) (v := 1) (show a' < 8 by omega)
              go_roundw
              case rel => exact ⟨i + 1, by omega, by go_num, f + 1, by omega, by go_num, _, j, _, _, nn, _, ⟨k9.mono (by omega), (by simp only [upd_upd] at C9; exact C9), g, q4.next g hk3 hik (.inr ⟨hnn, by rw [upd_eq]; exact d⟩) (fun m hm hmk => ⟨rfl, by rw [upd_ne _ _ hmk]; exact od m hm hmk⟩), by omega, by omega⟩⟩
              case measure => simp [intOf]; omega
          · rw [hjb] at xk0
            have O := game_step q3 hk3 hnn hjb
            have B0 := q2.m kk hk3 x hjb
            obtain ⟨p, hp⟩ : ∃ p, pp kk = p := ⟨_, rfl⟩
            rw [hp] at B0
            have xk0' : wr.cell? ⟨xb, kk, none⟩ = some (.pointer (some ⟨p, 0, none⟩)) := hp ▸ xk0
            clear xk0
            rcases O with ⟨j', hpc, g, d, od⟩ | ⟨hpc, hc, g, od⟩ | ⟨a', han, hpc, hc, h0, g, d, od⟩
            · as_aux_lemma =>
              go_wp2_with (go_at_call 11; refine (oTake q1 B0.1 B0.2 (by omega)).mono ?_; rintro e w5 ⟨rfl, k1, k2, k3⟩; rw [hpc]; have C5 := (q2).step hk3 hjb (hp ▸ k2) (B0.2.next q1.rng) (hp ▸ k3))
              go_roundw
              case rel => exact ⟨i + 1, by omega, by go_num, f, by omega, rfl, _, j', _, _, nn, T, ⟨k1.mono (by omega), C5, g, q4.next g hk3 hik (.inr ⟨hnn, by rw [upd_eq]; exact d⟩) (fun m hm hmk => ⟨rfl, by rw [upd_ne _ _ hmk]; exact od m hm hmk⟩), q5, q6⟩⟩
              case measure => simp [intOf]; omega
            · as_aux_lemma =>
              go_wp2_with (go_at_call 11; refine (oTake q1 B0.1 B0.2 (by omega)).mono ?_; rintro e w5 ⟨rfl, k1, k2, k3⟩; rw [hpc]; have C5 := (q2).step hk3 hjb (hp ▸ k2) (B0.2.next q1.rng) (hp ▸ k3))
              have okn := B0.2.next q1.rng
              have xk := (C5.xc hk3)
              rw [upd_eq, hp] at xk
              have S0' : ∀ w', Below w5.heap.size w5 w' → w'.cell? ⟨o, 0, none⟩ = some (.int .i64 (mkPl 3 n).t) ∧ w'.cell? ⟨o, 1, none⟩ = some (.int .i64 (mkPl 3 n).b) ∧ w'.cell? ⟨o, 2, none⟩ = some (.int .i64 (mkPl 3 n).tb) ∧ w'.cell? ⟨o, 3, none⟩ = some (.int .i64 (mkPl 3 n).hp) ∧ w'.cell? ⟨o, 4, none⟩ = some (.int .i64 (mkPl 3 n).sz) ∧ w'.cell? ⟨xb, kk, none⟩ = some (.pointer (some ⟨p, 0, none⟩)) := fun w' hb => by
                have B := (C5.below hb).pl.box
                exact ⟨B.c0, B.c1, B.c2, B.c3, B.c4, (hb.cell C5.x.lt).trans xk⟩
              have hbd : Below w5.heap.size w5 w5.drew := (Below.refl w5.heap.size w5).drew
              have RD := S0' _ hbd
              clear p0 p1 p2 p3 p4
              have hbk := bk_none (t := 3) (n := n)
              go_region_held3 (fun w' => w'.cell? ⟨o, 0, none⟩ = some (.int .i64 (mkPl 3 n).t) ∧ w'.cell? ⟨o, 1, none⟩ = some (.int .i64 (mkPl 3 n).b) ∧ w'.cell? ⟨o, 2, none⟩ = some (.int .i64 (mkPl 3 n).tb) ∧ w'.cell? ⟨o, 3, none⟩ = some (.int .i64 (mkPl 3 n).hp) ∧ w'.cell? ⟨o, 4, none⟩ = some (.int .i64 (mkPl 3 n).sz) ∧ w'.cell? ⟨xb, kk, none⟩ = some (.pointer (some ⟨p, 0, none⟩))) (first | assumption | exact RD | exact S0' _ (by assumption))
                (first
                  | (go_at_call 13; refine (oCell (k2.below hbd) okn (k1.below hbd).widw).mono ?_; rintro e w6 ⟨rfl, hb6⟩; rw [hc]; have hb6' := bel_trans hbd hb6)
                  | (go_at_call 12; refine (kRBlock 3 n (by decide) (by omega) _ _).mono ?_; rintro e w7 ⟨rfl, hb7⟩; rw [hbk]; have hb7' := bel_trans hb6' hb7; have C7 := C5.below hb7'; have k7 := k1.below hb7'; have x7 : w7.cell? ⟨xb, kk, none⟩ = some (.pointer (some ⟨p, 0, none⟩)) := (hb7'.cell C5.x.lt).trans xk; have xf7 := C7.x.free kk; have C8 := C7.drop hk3; have k8 := k7.set C7.x kk (.pointer none); have n8' := C8.nc hk3; have nf8 := C8.n.free kk; have C9 := C8.setN hk3; have k9 := k8.set C8.n kk (.bool true)))
              go_wp2
              go_roundw
              case rel => exact ⟨i + 1, by omega, by go_num, f, by omega, rfl, _, j, _, _, _, T, ⟨k9.mono (by omega), (by simp only [upd_upd] at C9; exact C9), g, q4.next g hk3 hik (.inl (upd_eq _ _ _)) (fun m hm hmk => ⟨upd_ne _ _ hmk, by rw [upd_ne _ _ hmk]; exact od m hm hmk⟩), q5, q6⟩⟩
              case measure => simp [intOf]; omega
            · as_aux_lemma =>
              go_wp2_with (go_at_call 11; refine (oTake q1 B0.1 B0.2 (by omega)).mono ?_; rintro e w5 ⟨rfl, k1, k2, k3⟩; rw [hpc]; have C5 := (q2).step hk3 hjb (hp ▸ k2) (B0.2.next q1.rng) (hp ▸ k3))
              have okn := B0.2.next q1.rng
              have xk := (C5.xc hk3)
              rw [upd_eq, hp] at xk
              have S0' : ∀ w', Below w5.heap.size w5 w' → w'.cell? ⟨o, 0, none⟩ = some (.int .i64 (mkPl 3 n).t) ∧ w'.cell? ⟨o, 1, none⟩ = some (.int .i64 (mkPl 3 n).b) ∧ w'.cell? ⟨o, 2, none⟩ = some (.int .i64 (mkPl 3 n).tb) ∧ w'.cell? ⟨o, 3, none⟩ = some (.int .i64 (mkPl 3 n).hp) ∧ w'.cell? ⟨o, 4, none⟩ = some (.int .i64 (mkPl 3 n).sz) ∧ w'.cell? ⟨xb, kk, none⟩ = some (.pointer (some ⟨p, 0, none⟩)) := fun w' hb => by
                have B := (C5.below hb).pl.box
                exact ⟨B.c0, B.c1, B.c2, B.c3, B.c4, (hb.cell C5.x.lt).trans xk⟩
              have hbd : Below w5.heap.size w5 w5.drew := (Below.refl w5.heap.size w5).drew
              have RD := S0' _ hbd
              clear p0 p1 p2 p3 p4
              have hbk := bk_cel (t := 3) (n := n) (by decide) (by omega) han kk
              have ia0 : (0 : Int) ≤ (a' : Int) := by omega
              have ia1 : (a' : Int) < 8 := by omega
              have hng : decide ((a' : Int) < 0) = false := decide_eq_false (by omega)
              go_region_held3 (fun w' => w'.cell? ⟨o, 0, none⟩ = some (.int .i64 (mkPl 3 n).t) ∧ w'.cell? ⟨o, 1, none⟩ = some (.int .i64 (mkPl 3 n).b) ∧ w'.cell? ⟨o, 2, none⟩ = some (.int .i64 (mkPl 3 n).tb) ∧ w'.cell? ⟨o, 3, none⟩ = some (.int .i64 (mkPl 3 n).hp) ∧ w'.cell? ⟨o, 4, none⟩ = some (.int .i64 (mkPl 3 n).sz) ∧ w'.cell? ⟨xb, kk, none⟩ = some (.pointer (some ⟨p, 0, none⟩))) (first | assumption | exact RD | exact S0' _ (by assumption))
                (first
                  | (go_at_call 13; refine (oCell (k2.below hbd) okn (k1.below hbd).widw).mono ?_; rintro e w6 ⟨rfl, hb6⟩; rw [hc]; have hb6' := bel_trans hbd hb6)
                  | (go_at_call 12; refine (kRBlock 3 n (by decide) (by omega) _ _).mono ?_; rintro e w7 ⟨rfl, hb7⟩; rw [hbk]; have hb7' := bel_trans hb6' hb7; have C7 := C5.below hb7'; have k7 := k1.below hb7'; have x7 : w7.cell? ⟨xb, kk, none⟩ = some (.pointer (some ⟨p, 0, none⟩)) := (hb7'.cell C5.x.lt).trans xk; have xf7 := C7.x.free kk; have C8 := C7.drop hk3; have k8 := k7.set C7.x kk (.pointer none); have t8 := C8.tc (show a' < 8 by omega); rw [h0] at t8; have tf8 := C8.t.free a'; have C9 := C8.setT (show a' < 8 by omega); have k9 := k8.set C8.t a' (.int .i64 1)))
              go_wp2
              have hs8 := sum8_upd (f := T) (v := 1) (show a' < 8 by omega)
              go_roundw
              case rel => exact ⟨i + 1, by omega, by go_num, f + 1, by omega, by go_num, _, j, _, _, nn, _, ⟨k9.mono (by omega), (by simp only [upd_upd] at C9; exact C9), g, q4.next g hk3 hik (.inr ⟨hnn, by rw [upd_eq]; exact d⟩) (fun m hm hmk => ⟨rfl, by rw [upd_ne _ _ hmk]; exact od m hm hmk⟩), by omega, by omega⟩⟩
              case measure => simp [intOf]; omega
        · rw [hnn] at nk
          go_wp2
          go_roundw
          case rel => exact ⟨i + 1, by omega, by go_num, f, by omega, rfl, s, j, jb, pp, nn, T, ⟨q1.mono (by omega), q2, q3, q4.skip q3 hk3 hik hnn, q5, q6⟩⟩
          case measure => simp [intOf]; omega
    case neg =>
      obtain rfl : i = 1200 := by omega
      have e0 := q4.end_ (k := 0) (by decide)
      have e1 := q4.end_ (k := 1) (by decide)
      have e2 := q4.end_ (k := 2) (by decide)
      have c0 : wr.cell? ⟨nb, 0, none⟩ = some (.bool true) := e0 ▸ q2.nc (k := 0) (by decide)
      have c1 : wr.cell? ⟨nb, 1, none⟩ = some (.bool true) := e1 ▸ q2.nc (k := 1) (by decide)
      have c2 : wr.cell? ⟨nb, 2, none⟩ = some (.bool true) := e2 ▸ q2.nc (k := 2) (by decide)
      have p1 : wr.cell? ⟨o, 1, none⟩ = some (.int .i64 n) := q2.pl.box.c1
      have j0 := q3.nn 0 (by decide) e0
      have j1 := q3.nn 1 (by decide) e1
      have j2 := q3.nn 2 (by decide) e2
      have hT : ∀ a, a < 8 → T a = if a < n then 1 else 0 := fun a ha => by
        have := q3.cnt a ha
        rw [j0.2] at this
        rw [← this]
        simp only [sum3, j0.1, j1.1, j2.1, hold_none]
        omega
      have hs8 : sum8 T = n := by
        unfold sum8
        rw [hT 0 (by decide), hT 1 (by decide), hT 2 (by decide), hT 3 (by decide), hT 4 (by decide), hT 5 (by decide), hT 6 (by decide), hT 7 (by decide)]
        have : n = 1 ∨ n = 2 ∨ n = 3 ∨ n = 4 ∨ n = 5 ∨ n = 6 ∨ n = 7 ∨ n = 8 := by omega
        rcases this with rfl | rfl | rfl | rfl | rfl | rfl | rfl | rfl <;> rfl
      have hfn : ((f : Int) == (n : Int)) = true := by simp; omega
      have ht := q3.fr.trap
      clear j0 j1 j2 hT hs8 e0 e1 e2 q4 q5 q6 hl hn
      go_wp2_with (go_at_call 14; refine (hTraps q1).mono ?_; rintro e w4 ⟨rfl, hw4⟩; rw [hw4, ht]; clear hw4 w4)
      go_ret
      exact ⟨rfl, q1.bel⟩
end Go.Proofs.YtilknjihceemhaaDoor
