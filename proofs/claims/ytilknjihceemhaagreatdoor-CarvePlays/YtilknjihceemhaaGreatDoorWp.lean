/-
  The walk of the law on steps in any order.
-/
import Derived.Test.YtilknjihceemhaaGreatDoorRw
import Derived.Test.YtilknjihceemhaaGreatDoorOi
import Derived.Test.YtilknjihceemhaaGreatDoorZa
import Derived.Test.YtilknjihceemhaaGreatDoorKsh
import Derived.Deep.Cut
import Derived.Deep.RegionHeld3
namespace Go.Proofs.YtilknjihceemhaaGreatDoor
set_option linter.unusedVariables false
set_option maxRecDepth 100000
open Go.ChangeShapes Go.WideShapes Go.RowKit
open S.Plain (t0 t1 tw nx bw b3)
open H.Plain (hw pL)

theorem hLen {w0 w : World} {b N : Nat} {s : St} (h : Hand w0 w b s N) : Calls Tryz.prog 29 #[.pointer (some ⟨b, 0, none⟩)] w fun e w' => e = .returned (.int .i64 s.ws.length) ∧ w' = w := by
  obtain ⟨⟨L, rfl, hm, _⟩, _⟩ := h
  exact cLen hm
theorem hClone {w0 w : World} {b N : Nat} {s : St} (h : Hand w0 w b s N) : Calls Tryz.prog 28 #[.pointer (some ⟨b, 0, none⟩)] w fun e w' => ∃ c, e = .returned (.pointer (some ⟨c, 0, none⟩)) ∧ Hand w w' c s N := by
  have hwd := h.widw
  obtain ⟨⟨L, rfl, hm, _⟩, _, f, t, r, _⟩ := h
  refine (cClone hm f).mono ?_
  rintro e w' ⟨L', rfl, hm', hb', hl'⟩
  exact ⟨_, rfl, ⟨⟨L', rfl, hm', hl'⟩, hb', f, t, r, hwd⟩⟩
theorem Two.lift {w w1 w' : World} {b y N : Nat} {s1 s2 : St} (h : Two w1 w' b y s1 s2 N) (hb : Below w.heap.size w w1) (W : Laid w) : Two w w' b y s1 s2 N := by
  obtain ⟨⟨L, M, e1, e2, hm, hr, hl, hl2⟩, hb', f1, f2, t1, t2, r1, r2, wd⟩ := h
  exact ⟨⟨L, M, e1, e2, hm, hr, fun k hk => ⟨Nat.le_trans hb.size (hl k hk).1, (hl k hk).2⟩, fun k hk => Nat.le_trans hb.size (hl2 k hk)⟩, bel_trans hb hb', f1, f2, t1, t2, r1, r2, W⟩
set_option maxHeartbeats 4000000 in
theorem cSame {w w0 : World} {b y N K : Nat} {s1 s2 : St} (h : Two w0 w b y s1 s2 N) (hws : s1.ws = s2.ws) (hK : s1.ws.length = K) (hK1 : K ≤ 100000) (hN : N ≤ 100000) :
    Calls Tryz.prog 10 #[.pointer (some ⟨b, 0, none⟩), .pointer (some ⟨y, 0, none⟩)] w fun e w' => e = .returned (.bool true) ∧ Below w.heap.size w w' := by
  obtain ⟨g, cp, hS⟩ := h.seen
  have hK2 : s2.ws.length = K := by rw [← hws]; exact hK
  have h1 := h.one
  have c0 := hS.c0
  rw [hK2] at c0
  go_enter Tryz.func10, Tryz.ntmps10
  go_wp2_with (go_at_call 28; refine (hClone h1).mono ?_; rintro e w1 ⟨c, rfl, q0⟩)
  have d0 : w1.drew.cell? ⟨y, 0, none⟩ = some (.slice (some ⟨g, 0, none⟩) K cp) := (q0.bel.cell hS.ly).trans c0
  go_region_held3 (fun w' => w'.cell? ⟨y, 0, none⟩ = some (.slice (some ⟨g, 0, none⟩) K cp)) (first | assumption)
    ((go_at_call 29; refine (hLen q0.drew).mono ?_; rintro e w2 ⟨rfl, hw2⟩; rw [hw2, hK]; clear hw2 w2))
  all_goals go_wp2
  go_loopw [6] (fun i wr => ∃ j : Nat, j ≤ K ∧ i = .int .i64 j ∧ ∃ s3, Hand w wr c s3 (N + j) ∧ s3.ws = s1.ws) (fun i _ => K - (intOf i).toNat)
  case atStart => exact ⟨0, Nat.zero_le _, rfl, s1, q0.drew, rfl⟩
  case round =>
    obtain ⟨j, hj, rfl, s3, q1, q2⟩ := hrel
    have hS1 := hS.below q1.bel
    have x0 := hS1.c0
    rw [hK2] at x0
    by_cases hj8 : j < K
    case pos =>
      have xj := hS1.cw j (by omega)
      have gj : s3.got j = s2.ws.getD j 0 := by
        rw [St.In.got (show s3.In (j : Int) from ⟨by omega, by rw [q2, hK]; omega⟩)]
        simp only [St.word, q2, hws, Int.toNat_natCast]
      obtain ⟨v, hv⟩ : ∃ v, s2.ws.getD j 0 = v := ⟨_, rfl⟩
      rw [hv] at xj gj
      clear hv d0 c0 hS1
      go_wp2
      have x0d : wr.drew.cell? ⟨y, 0, none⟩ = some (.slice (some ⟨g, 0, none⟩) K cp) := x0
      have xjd : wr.drew.cell? ⟨g, j, none⟩ = some (.int .u64 v) := xj
      go_region_held3 (fun w' => w'.cell? ⟨y, 0, none⟩ = some (.slice (some ⟨g, 0, none⟩) K cp) ∧ w'.cell? ⟨g, j, none⟩ = some (.int .u64 v)) (first | assumption | exact ⟨x0d, xjd⟩)
        ((go_at_call 30; refine (hLoad q1.drew (by omega) j).mono ?_; rintro e w7 ⟨rfl, h7, _⟩; rw [gj]; have hS7 := hS.below h7.bel; have x7 : w7.cell? ⟨y, 0, none⟩ = some (.slice (some ⟨g, 0, none⟩) K cp) ∧ w7.cell? ⟨g, j, none⟩ = some (.int .u64 v) := ⟨(h7.bel.cell hS.ly).trans ((q1.bel.cell hS.ly).symm.trans x0), (h7.bel.cell hS.lg).trans ((q1.bel.cell hS.lg).symm.trans xj)⟩; clear hS7))
      all_goals go_wp2
      all_goals go_roundw
      case rel => exact ⟨j + 1, by omega, by go_num, _, h7, q2⟩
      case measure => simp [intOf]; omega
    case neg =>
      clear d0 c0
      go_wp2
      go_ret
      exact ⟨rfl, q1.bel⟩

theorem kd_nat (c n : Int) (h : 0 < n) : ∃ m : Nat, kd c n = m ∧ (m : Int) < n := by
  have := kd_bounds c n h
  exact ⟨(kd c n).toNat, by omega, by omega⟩
/-- a plan's box of the law's own -/
abbrev PB (w0 w : World) (o : Nat) (q : Pl) : Prop := Blk w0 w o 25 q.cells
theorem Blk.box {w0 w : World} {o : Nat} {q : Pl} (h : Blk w0 w o 25 q.cells) : PBox w o q := h.at_
def Wk.zero : Wk := ⟨.idle, 0, 0, none, .pointer none, .pointer none, .slice none 0 0, []⟩
theorem team_zero {w0 w : World} (h : w0.heap.size ≤ w.heap.size) : Team w0 (w.alloc (.cells #[.pointer none, .pointer none, .pointer none, .pointer none, .slice none 0 0, .pointer none, .pointer none, .pointer none, .pointer none, .slice none 0 0, .pointer none, .pointer none, .pointer none, .pointer none, .slice none 0 0, .pointer none, .pointer none, .pointer none, .pointer none, .slice none 0 0] 40)) w.heap.size (fun _ => Wk.zero) 0 where
  arr := ⟨_, Blk.new h _ (by decide), rfl, fun k hk i hi => by
    match k, hk with
    | 0, _ => match i, hi with | 0, _ => rfl | 1, _ => rfl | 2, _ => rfl | 3, _ => rfl | 4, _ => rfl
    | 1, _ => match i, hi with | 0, _ => rfl | 1, _ => rfl | 2, _ => rfl | 3, _ => rfl | 4, _ => rfl
    | 2, _ => match i, hi with | 0, _ => rfl | 1, _ => rfl | 2, _ => rfl | 3, _ => rfl | 4, _ => rfl
    | 3, _ => match i, hi with | 0, _ => rfl | 1, _ => rfl | 2, _ => rfl | 3, _ => rfl | 4, _ => rfl⟩
  is := fun k hk => ⟨trivial, RowI.nil _ _, fun a ha => by simp [Wk.zero] at ha⟩
  apart := fun j hj k hk hjk x hx => by simp [Wk.zero, Wk.fp, Wk.mps, Value.ownBlock] at hx
  len := fun k hk => Nat.le_refl _

set_option maxHeartbeats 8000000 in
theorem wCarvePlays (a : Int) (ao : Option Addr) (len cap : Nat) (z : Nat → Int) (ha : -9223372036854775808 ≤ a) (ha' : a ≤ 9223372036854775807) (w : World) (W : Laid w) (hl : CameI w ao len z) :
    Calls Tryz.prog 3 #[.int .i64 a, .slice ao len cap] w fun e w' => e = .returned (.bool true) ∧ Below w.heap.size w w' := by
  have ka := kd_bounds a 8 (by decide)
  obtain ⟨n, hn⟩ : ∃ n : Nat, 1 + kd a 8 = n := ⟨(1 + kd a 8).toNat, by omega⟩
  have n1 : 1 ≤ n := by omega
  have n8 : n ≤ 8 := by omega
  clear ka
  go_enter Tryz.func3, Tryz.ntmps3
  go_upto_region 6 with (first
    | (go_at_call 4; refine (cShown _ W).mono ?_; rintro e w1 ⟨rfl, hb1⟩)
    | (go_at_call_of 6 (Value.int .i64 8); refine (cKind _ a 8 ha ha' (by decide)).mono ?_; rintro e wx ⟨rfl, hwx⟩; rw [hwx]; clear hwx wx)
    | (go_at_call 5; refine (kRNew' (t := 4) (n := n) rfl rfl (by decide) (by decide) n1 (by omega) _).mono ?_; rintro e w2 ⟨rfl, hb2⟩; have hba : Below w.heap.size w (w2.alloc (.cells (mkPl 4 n).cells 25)) := S.bal (bel_trans hb1 hb2) _; have hBa : PB w (w2.alloc (.cells (mkPl 4 n).cells 25)) w2.heap.size (mkPl 4 n) := Blk.new (bel_trans hb1 hb2).size _ (by decide))
    | (go_at_call 7; refine (cFr (t := 4) (n := n) (by decide) n1 (by omega) _ (W.on hba)).mono ?_; rintro e w3 ⟨b, y, rfl, h3⟩; have h4 := h3; clear h3))
  have sz : szN 4 n ≤ 1000 := by unfold szN hpN; omega
  have hl1 := frSt_len 4 n
  obtain ⟨la, _⟩ := laidTo_all (frSt 4 n).ws
  rw [hl1] at la
  have lb : (laidTo (frSt 4 n).ws (szN 4 n)).ws.length = szN 4 n := by rw [la, hl1]
  obtain ⟨S0, hS0⟩ : ∃ S0, szN 4 n = S0 := ⟨_, rfl⟩
  rw [hS0] at sz h4 la lb
  generalize laidTo (frSt 4 n).ws S0 = s1 at h4 la lb
  generalize frSt 4 n = s2 at h4 la
  obtain ⟨o, ho⟩ : ∃ o, w2.heap.size = o := ⟨_, rfl⟩
  rw [ho] at hBa ⊢
  clear ho hb1 hb2 hS0 hl1
  generalize w2.alloc (.cells (mkPl 4 n).cells 25) = wv at h4 hba hBa
  have olt : o < wv.heap.size := lt_of_block hBa.at_
  have P0 := hBa.box.c0
  have P1 := hBa.box.c1
  have P2 := hBa.box.c2
  have P3 := hBa.box.c3
  have P4 := hBa.box.c4
  refine wp_region_lit ?_
  refine wpList_zeros rfl rfl rfl 40 36 10 rfl rfl rfl rfl rfl rfl #[.pointer none, .pointer none, .pointer none, .pointer none, .slice none 0 0, .pointer none, .pointer none, .pointer none, .pointer none, .slice none 0 0, .pointer none, .pointer none, .pointer none, .pointer none, .slice none 0 0, .pointer none, .pointer none, .pointer none, .pointer none, .slice none 0 0] 20 (by kernel_rfl) (by kernel_rfl) rfl (by kernel_rfl) (by kernel_rfl) (by kernel_rfl) ?_
  refine wpList_nil ?_
  have T5 : Team wv (w3.alloc (.cells #[.pointer none, .pointer none, .pointer none, .pointer none, .slice none 0 0, .pointer none, .pointer none, .pointer none, .pointer none, .slice none 0 0, .pointer none, .pointer none, .pointer none, .pointer none, .slice none 0 0, .pointer none, .pointer none, .pointer none, .pointer none, .slice none 0 0] 40)) w3.heap.size (fun _ => Wk.zero) 0 := team_zero h4.bel.size
  have h5 := h4.alloc (.cells #[.pointer none, .pointer none, .pointer none, .pointer none, .slice none 0 0, .pointer none, .pointer none, .pointer none, .pointer none, .slice none 0 0, .pointer none, .pointer none, .pointer none, .pointer none, .slice none 0 0, .pointer none, .pointer none, .pointer none, .pointer none, .slice none 0 0] 40)
  obtain ⟨B, hBe⟩ : ∃ B, w3.heap.size = B := ⟨_, rfl⟩
  rw [hBe] at T5 ⊢
  clear hBe h4
  generalize w3.alloc (.cells #[.pointer none, .pointer none, .pointer none, .pointer none, .slice none 0 0, .pointer none, .pointer none, .pointer none, .pointer none, .slice none 0 0, .pointer none, .pointer none, .pointer none, .pointer none, .slice none 0 0, .pointer none, .pointer none, .pointer none, .pointer none, .slice none 0 0] 40) = w5 at T5 h5 ⊢
  go_wp2
  go_loopw [11] (fun i wr => ∃ j : Nat, j ≤ 300 ∧ j ≤ len ∧ i = .int .i64 j ∧ ∃ s1 s2 wk, Two wv wr b y s1 s2 (1000 + 2 * j) ∧ s1.ws = s2.ws ∧ s1.ws.length = S0 ∧ Team wv wr B wk j) (fun i _ => 300 - (intOf i).toNat)
  case atStart => exact ⟨0, Nat.zero_le _, Nat.zero_le _, rfl, _, _, _, h5.mono (by omega), la, lb, T5⟩
  case round =>
    clear h5 T5 la lb s1 s2
    obtain ⟨j, hj, hjl, rfl, s1, s2, wk, q1, qw, q2, q3⟩ := hrel
    by_cases hjn : j < len ∧ j < 300
    case pos =>
      obtain ⟨hj1, hj2⟩ := hjn
      obtain ⟨c, off, rfl, hcb, hcell⟩ := hl.resolve_left (by omega)
      obtain ⟨hcj, hz1, hz2⟩ := hcell j hj1
      have hcj' : wr.cell? ⟨c, off + j, none⟩ = some (.int .i64 (z j)) := ((bel_trans hba q1.bel).cell hcb).trans hcj
      obtain ⟨q, hq, hq8⟩ : ∃ q : Nat, kd (z j) 24 = q ∧ (q : Int) < 24 := kd_nat (z j) 24 (by decide)
      have hq4 : q % 4 < 4 := by omega
      have p0 := (q1.bel.cell olt).trans P0
      have p1 := (q1.bel.cell olt).trans P1
      have p2 := (q1.bel.cell olt).trans P2
      have p3 := (q1.bel.cell olt).trans P3
      have p4 := (q1.bel.cell olt).trans P4
      clear hcell hcj
      go_wp2_with (first
        | (go_at_call 6; refine (cKind _ (z j) 24 hz1 hz2 (by decide)).mono ?_; rintro e w6 ⟨rfl, hw6⟩; rw [hw6, hq]; clear hw6 w6)
        | (go_at_call 8; refine (wBegin q1 q3 hq4 (by omega) (by omega) _ (by omega) (by omega)).mono ?_; rintro e w6 ⟨rfl, q4, wk1, q5⟩; have r0 := (q4.bel.cell olt).trans P0; have r1 := (q4.bel.cell olt).trans P1; have r2 := (q4.bel.cell olt).trans P2; have r3 := (q4.bel.cell olt).trans P3; have r4 := (q4.bel.cell olt).trans P4)
        | (go_at_call 9; refine (wStep q4 qw (by omega) q5 hq4 (by omega) (by omega)).mono ?_; rintro e w7 ⟨rfl, s1', s2', wk2, q6, q6w, q7, q8⟩; rw [q2] at q7)
        | (go_at_call 10; refine (cSame q6 q6w q7 (by omega) (by omega)).mono ?_; rintro e w8 ⟨rfl, hb8⟩; have q9 := q6.below hb8; have q10 := q8.below hb8; clear hb8))
      · go_roundw
        case rel => exact ⟨j + 1, by omega, by omega, by go_num, s1', s2', wk2, q9, q6w, q7, q10⟩
        case measure => simp [intOf]; omega
      · go_roundw
        case rel => exact ⟨j + 1, by omega, by omega, by go_num, s1', s2', wk2, q6, q6w, q7, q8⟩
        case measure => simp [intOf]; omega
    case neg =>
      by_cases hj1 : j < len
      · have hj2 : ¬ j < 300 := fun h => hjn ⟨hj1, h⟩
        go_wp2_with (go_at_call 10; refine (cSame q1 qw q2 (by omega) (by omega)).mono ?_; rintro e w8 ⟨rfl, hb8⟩; have q9 := q1.below hb8; clear hb8)
        go_ret
        exact ⟨rfl, bel_trans hba q9.bel⟩
      · go_wp2_with (go_at_call 10; refine (cSame q1 qw q2 (by omega) (by omega)).mono ?_; rintro e w8 ⟨rfl, hb8⟩; have q9 := q1.below hb8; clear hb8)
        go_ret
        exact ⟨rfl, bel_trans hba q9.bel⟩
end Go.Proofs.YtilknjihceemhaaGreatDoor
