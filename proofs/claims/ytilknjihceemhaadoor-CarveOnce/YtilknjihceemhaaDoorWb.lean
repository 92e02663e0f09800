/-
  CarveBack, walked.
-/
import Derived.Test.YtilknjihceemhaaDoorKsh
namespace Go.Proofs.YtilknjihceemhaaDoor
set_option linter.unusedVariables false
set_option maxRecDepth 100000
open Go.ChangeShapes Go.WideShapes Go.RowKit
open S.Plain (t0 t1 tw nx bw b0 b1 b2 b3)
open H.Plain (hw pL)

/-- the blocks below k, the greatest first -/
def dn : Nat → List Nat
  | 0 => []
  | k + 1 => k :: dn k
theorem mem_dn {i : Nat} : ∀ {k : Nat}, i ∈ dn k ↔ i < k := by
  intro k
  induction k with
  | zero => simp [dn]
  | succ k ih => simp only [dn, List.mem_cons, ih]; omega
/-- a plan's box of the law's own -/
abbrev PB (w0 w : World) (o : Nat) (q : Pl) : Prop := Blk w0 w o 25 q.cells
theorem Blk.box {w0 w : World} {o : Nat} {q : Pl} (h : Blk w0 w o 25 q.cells) : PBox w o q := h.at_

set_option maxHeartbeats 400000 in
theorem wCarveBack (a c d : Int) (ha : -9223372036854775808 ≤ a) (ha' : a ≤ 9223372036854775807) (hc : -9223372036854775808 ≤ c) (hc' : c ≤ 9223372036854775807) (hd : -9223372036854775808 ≤ d) (hd' : d ≤ 9223372036854775807) (w : World) (W : Laid w) :
    Calls Tryd.prog 5 #[.int .i64 a, .int .i64 c, .int .i64 d] w fun e w' => e = .returned (.bool true) ∧ Below w.heap.size w w' := by
  have ka := kd_bounds a 8 (by decide)
  have kc := kd_bounds c 3 (by decide)
  obtain ⟨n, hn⟩ : ∃ n : Nat, 1 + kd a 8 = n := ⟨(1 + kd a 8).toNat, by omega⟩
  obtain ⟨C, hC⟩ : ∃ C, kd c 3 = C := ⟨_, rfl⟩
  rw [hC] at kc
  have n1 : 1 ≤ n := by omega
  have n8 : n ≤ 8 := by omega
  have kb := kd_bounds d ((n : Int) + 1) (by omega)
  obtain ⟨k, hk⟩ : ∃ k : Nat, kd d ((n : Int) + 1) = k := ⟨(kd d ((n : Int) + 1)).toNat, by omega⟩
  have kn : k ≤ n := by omega
  clear ka kb
  have c0 : 0 ≤ C := kc.1
  have c2 : C ≤ 2 := by omega
  go_enter Tryd.func5, Tryd.ntmps5
  go_wp2_with (go_at_call 6; refine (cShown _ W).mono ?_; rintro e w1 ⟨rfl, hb1⟩)
  go_wp2_with (first
    | (go_at_call_of 8 (Value.int .i64 8); refine (cKind _ a 8 ha ha' (by decide)).mono ?_; rintro e wx ⟨rfl, hwx⟩; rw [hwx]; clear hwx wx)
    | (go_at_call 7; refine (kRNew' (t := 1) (n := n) rfl rfl (by decide) (by decide) n1 (by omega) _).mono ?_; rintro e w2 ⟨rfl, hb2⟩; have hba : Below w.heap.size w (w2.alloc (.cells (mkPl 1 n).cells 25)) := S.bal (bel_trans hb1 hb2) _; have hBa : PB w (w2.alloc (.cells (mkPl 1 n).cells 25)) w2.heap.size (mkPl 1 n) := Blk.new (bel_trans hb1 hb2).size _ (by decide))
    | (go_at_call 9; refine (cFr (t := 1) (n := n) (by decide) n1 (by omega) _ (W.on hba)).mono ?_; rintro e w3 ⟨b, y, rfl, h3⟩; obtain ⟨s, h4, hws, F, hz⟩ := fresh_hand (by decide) n1 (by omega) h3; have hB := hBa.below h4.bel; have h5 : Hand w w3 b s (szN 1 n) := h4.lift hba W; clear h3 h4 hz hws)
    | (go_at_call_of 8 (Value.int .i64 3); refine (cKind _ c 3 hc hc' (by decide)).mono ?_; rintro e wx ⟨rfl, hwx⟩; rw [hwx, hC]; clear hwx wx))
  have sz : szN 1 n ≤ 1000 := by unfold szN hpN; omega
  obtain ⟨S0, hS0⟩ : ∃ S0, szN 1 n = S0 := ⟨_, rfl⟩
  rw [hS0] at sz h5
  obtain ⟨o, ho⟩ : ∃ o, w2.heap.size = o := ⟨_, rfl⟩
  rw [ho] at hB ⊢
  clear ho hBa hba hb1 hb2 hS0
  go_loopw [13] (fun i wr => ∃ j : Nat, j ≤ n ∧ i = .int .i64 j ∧ PB w wr o (mkPl 1 n) ∧ ∃ s, Hand w wr b s (S0 + 14 * j) ∧ Fr 1 n s (upto j n) j) (fun i _ => n - (intOf i).toNat)
  case atStart => exact ⟨0, by omega, rfl, hB, s, h5, F⟩
  case round =>
    clear F h5 hB s w3 w2 w1
    obtain ⟨j, hj, rfl, q1, s, q2, q3⟩ := hrel
    have p0 := q1.box.c0
    have p1 : wr.cell? ⟨o, 1, none⟩ = some (.int .i64 n) := q1.box.c1
    have p2 := q1.box.c2
    have p3 := q1.box.c3
    have p4 := q1.box.c4
    by_cases hl : j < n
    case pos =>
      rw [upto_cons hl] at q3
      go_wp2_with (go_at_call 24; refine (cTaken q2 (by omega) q3 (by omega) c0 c2).mono ?_; rintro e w4 ⟨rfl, s4, q4, q5, o4⟩)
      go_roundw
      case rel => exact ⟨j + 1, by omega, by go_num, q1.oth o4 (by simp), s4, q4.mono (by omega), q5⟩
      case measure => simp [intOf]; omega
    case neg =>
      obtain rfl : j = n := by omega
      rw [upto_nil] at q3
      have ok0 := TakeS.ok_new (mkPl_ok (t := 1) (n := j) (by decide) (by omega)) c0 c2 (show (0 : Int) ≤ 0 by decide) (show (0 : Int) ≤ 1 by decide)
      obtain ⟨N1, N2, N3⟩ := take_none (x := TakeS.new (mkPl 1 j) C 0) q3 rfl
      have oke := ok0.next q2.rng
      obtain ⟨x0, hx0⟩ : ∃ x0, TakeS.new (mkPl 1 j) C 0 = x0 := ⟨_, rfl⟩
      rw [hx0] at N1 N2 N3 ok0 oke
      have e1 : ((x0.next s).pc == 0) = true := by rw [N1]; rfl
      go_wp2_with (first
        | (go_at_call 10; refine (hNewTake q2 (mkPl 1 j) C 0).mono ?_; rintro e w4 ⟨p, rfl, h4, B4, hb4, hp4⟩; rw [hx0] at B4; have q1a := q1.below hb4; have hpo : o ≠ p := (by have := q1.lt; omega))
        | (go_at_call 11; refine (oTake h4 B4 ok0 (by omega)).mono ?_; rintro e w5 ⟨rfl, h5, B5, o5⟩; rw [e1]; have q1b := q1a.oth o5 (by simpa using hpo))
        | (go_at_call 13; refine (oCell B5 oke h5.widw).mono ?_; rintro e w6 ⟨rfl, hb6⟩; rw [N2]; have h6 := h5.below hb6; have q1c := q1b.below hb6; have r1 : w6.cell? ⟨o, 1, none⟩ = some (.int .i64 j) := q1c.box.c1)
        | (go_at_call 8; refine (cKind _ d ((j : Int) + 1) hd hd' (by omega)).mono ?_; rintro e wx ⟨rfl, hwx⟩; rw [hwx, hk]; clear hwx wx))
      clear p0 p1 p2 p3 p4 q1 q1a q1b B4 B5 h4 h5 q2 q3 r1 o5 hb4 hp4 hb6 hpo
      generalize x0.mem s = s1 at N3 h6
      go_loopw [16] (fun i wr => ∃ m : Nat, m ≤ k ∧ i = .int .i64 m ∧ PB w wr o (mkPl 1 j) ∧ ∃ s, Hand w wr b s (S0 + 14 * j + 1 + 3 * m) ∧ Fr 1 j s (dn m) (j + m)) (fun i _ => k - (intOf i).toNat)
      case atStart => exact ⟨0, by omega, rfl, q1c, s1, h6, N3⟩
      case round =>
        clear N1 N2 N3 h6 q1c e1 oke ok0
        obtain ⟨m, hm, rfl, q1, s, q2, q3⟩ := hrel
        have p0 := q1.box.c0
        have p1 := q1.box.c1
        have p2 := q1.box.c2
        have p3 := q1.box.c3
        have p4 := q1.box.c4
        by_cases hl : m < k
        case pos =>
          obtain ⟨y1, y2, y3, s1, s2, s3, f1, f2, f3, f4, f5, f6, g1, g2, g3, F3⟩ := give_solo (b := m) q3 (by omega) (by omega) (by rw [mem_dn]; omega)
          have k0 := GiveS.ok_new (mkPl_ok (t := 1) (n := j) (by decide) (by omega)) (show (-1 : Int) ≤ m by omega) (show (m : Int) ≤ 100 by omega)
          have k1 := k0.next q2.rng
          rw [f1] at k1
          have r1 := GiveS.rng k0 q2.rng
          rw [f2] at r1
          have k2 := k1.next r1
          rw [f3] at k2
          have e3 : (y3.pc == 0) = true := by rw [g3]; rfl
          go_wp2_with (go_at_call 25; refine (hNewGive q2 (mkPl 1 j) m).mono ?_; rintro e w4 ⟨p, rfl, h4, B4, hb4, hp4⟩; have q1a := q1.below hb4; have hpo : o ≠ p := (by have := q1.lt; omega))
          go_wp2_with (go_at_call 26; refine (oGive h4 B4 k0 (by omega)).mono ?_; rintro e w5 ⟨rfl, h5, B5, o5⟩; rw [f1] at B5 ⊢; rw [f2] at h5; rw [g1]; have q1b := q1a.oth o5 (by simpa using hpo))
          go_wp2_with (go_at_call 26; refine (oGive h5 B5 k1 (by omega)).mono ?_; rintro e w6 ⟨rfl, h6, B6, o6⟩; rw [f3] at B6 ⊢; rw [f4] at h6; rw [g2]; have q1c := q1b.oth o6 (by simpa using hpo))
          go_wp2_with (go_at_call 26; refine (oGive h6 B6 k2 (by omega)).mono ?_; rintro e w7 ⟨rfl, h7, B7, o7⟩; rw [f5] at B7 ⊢; rw [f6] at h7; rw [e3]; have q1d := q1c.oth o7 (by simpa using hpo))
          go_roundw
          case rel => exact ⟨m + 1, by omega, by go_num, q1d, s3, h7.mono (by omega), F3⟩
          case measure => simp [intOf]; omega
        case neg =>
          have em : m = k := by omega
          go_wp2
          go_loopw [19] (fun i wr => ∃ z : Nat, z ≤ k + 1 ∧ i = .int .i64 ((k : Int) - 1 - z) ∧ PB w wr o (mkPl 1 j) ∧ ∃ s, Hand w wr b s (S0 + 14 * j + 1 + 3 * k + 14 * z) ∧ ∃ v, v ≤ j + k + z ∧ Fr 1 j s (dn (k - z)) v) (fun i _ => (intOf i + 2).toNat)
          case atStart => exact ⟨0, by omega, by simp, q1, s, em ▸ q2, j + m, by omega, em ▸ q3⟩
          case round =>
            clear p0 p1 p2 p3 p4 q1 q2 q3 em
            obtain ⟨z, hz, rfl, q1, s, q2, v, hv, q3⟩ := hrel
            have p0 := q1.box.c0
            have p1 := q1.box.c1
            have p2 := q1.box.c2
            have p3 := q1.box.c3
            have p4 := q1.box.c4
            by_cases hzk : z < k
            · obtain ⟨i, hi⟩ : ∃ i : Nat, k - z = i + 1 := ⟨k - z - 1, by omega⟩
              rw [hi] at q3
              have hq : (k : Int) - 1 - z = i := by omega
              rw [hq]
              go_wp2_with (go_at_call 24; refine (cTaken q2 (by omega) q3 (by omega) c0 c2).mono ?_; rintro e w4 ⟨rfl, s4, q4, q5, o4⟩)
              go_roundw
              case rel => exact ⟨z + 1, by omega, by go_num, q1.oth o4 (by simp), s4, q4.mono (by omega), v + 1, by omega, by rw [show k - (z + 1) = i by omega]; exact q5⟩
              case measure => simp [intOf]; omega
            · by_cases hze : z = k
              · subst hze
                rw [Nat.sub_self] at q3
                have hq : (z : Int) - 1 - z = -1 := by omega
                rw [hq]
                go_wp2_with (go_at_call 24; refine (cTakenNone q2 (by omega) q3 c0 c2).mono ?_; rintro e w4 ⟨rfl, s4, q4, q5, o4⟩)
                go_roundw
                case rel => exact ⟨z + 1, by omega, by go_num, q1.oth o4 (by simp), s4, q4.mono (by omega), v, by omega, by rw [show z - (z + 1) = 0 by omega]; exact q5⟩
                case measure => simp [intOf]
              · have hq : (k : Int) - 1 - z = -2 := by omega
                have ht := q3.trap
                rw [hq]
                go_wp2_with (go_at_call 14; refine (hTraps q2).mono ?_; rintro e w4 ⟨rfl, hw4⟩; rw [hw4, ht]; clear hw4 w4)
                go_ret
                exact ⟨rfl, q2.bel⟩
end Go.Proofs.YtilknjihceemhaaDoor
