/-
  AllocAll, walked.
-/
import Derived.Test.YtbojljkdpebheaaDoorAs
namespace Go.Proofs.YtbojljkdpebheaaDoor
set_option linter.unusedVariables false
set_option maxRecDepth 100000
open Go.ChangeShapes Go.WideShapes Go.RowKit
open S.Plain (t0 t1 tw nx bw b0 b1 b2 b3)
open H.Plain (hw pL)

theorem allChk_zero {q : Pl} {c z : Int} {l : List Int} (h : allChk q c 0 l z = true) : (mkW 60 (AllS.new q c 0 0) (psW q c l z)).1 = z ∧ (mkW 60 (AllS.new q c 0 0) (mkW 60 (AllS.new q c 0 0) (psW q c l z)).2).1 = 0 := by
  rw [allChk] at h
  generalize mkW 60 (AllS.new q c 0 0) (psW q c l z) = r at h
  obtain ⟨v, l'⟩ := r
  simpa using h
theorem allChk_succ {q : Pl} {c z : Int} {k : Nat} {l : List Int} (h : allChk q c (k + 1) l z = true) : 0 ≤ (mkW 60 (AllS.new q c 0 0) l).1 ∧ ((mkW 60 (AllS.new q c 0 0) l).1 = 0 ↔ k = 0) ∧ allChk q c k (mkW 60 (AllS.new q c 0 0) l).2 (if 0 < (mkW 60 (AllS.new q c 0 0) l).1 then (mkW 60 (AllS.new q c 0 0) l).1 else z) = true := by
  rw [allChk] at h
  generalize mkW 60 (AllS.new q c 0 0) l = r at h
  obtain ⟨v, l'⟩ := r
  simp only [Bool.and_eq_true, decide_eq_true_eq, beq_iff_eq] at h
  refine ⟨h.1.1, ?_, h.2⟩
  have := h.1.2
  by_cases e : v = 0 <;> by_cases e' : k = 0 <;> simp_all
set_option maxHeartbeats 400000 in
theorem wAllocAll (a d : Int) (ha : -9223372036854775808 ≤ a) (ha' : a ≤ 9223372036854775807) (hd : -9223372036854775808 ≤ d) (hd' : d ≤ 9223372036854775807) (w : World) (W : Laid w) :
    Calls Tryd.prog 4 #[.int .i64 a, .int .i64 d] w fun e w' => e = .returned (.bool true) ∧ Below w.heap.size w w' := by
  have ka := kd_bounds a 4 (by decide)
  have kc := kd_bounds d 8 (by decide)
  obtain ⟨n, hn⟩ : ∃ n : Nat, 1 + kd a 4 = n := ⟨(1 + kd a 4).toNat, by omega⟩
  obtain ⟨c, hC⟩ : ∃ c : Nat, kd d 8 = c := ⟨(kd d 8).toNat, by omega⟩
  have n1 : 1 ≤ n := by omega
  have n4 : n ≤ 4 := by omega
  have c8 : c < 8 := by omega
  clear ka kc
  have chk := all_chk (n - 1) (by omega) c c8
  rw [show n - 1 + 1 = n by omega] at chk
  have c0 : (0 : Int) ≤ c := by omega
  have c7 : (c : Int) ≤ 7 := by omega
  have clb := cl_bounds c0 c7
  obtain ⟨K, hK⟩ : ∃ K, P.Plain.cl (c : Int) = K := ⟨_, rfl⟩
  have csb := cs_bounds (c := K) (by omega) (by omega)
  rw [hK] at chk clb
  obtain ⟨M, hM⟩ : ∃ M, n * (P.Plain.cs K).toNat = M := ⟨_, rfl⟩
  rw [hM] at chk
  have M32 : M ≤ 32 := by
    rw [← hM]
    have h1 : (P.Plain.cs K).toNat ≤ 8 := by omega
    have := Nat.mul_le_mul n4 h1
    omega
  have hM' : (n : Int) * P.Plain.cs K = (M : Int) := by
    rw [← hM, Int.natCast_mul]
    congr 1
    omega
  have wr : IntKind.i64.wrap (M : Int) = (M : Int) := by rw [IntKind.wrap_i64]; omega
  clear hM csb
  have pok := mkPl_ok (t := 1) (n := n) (by decide) (by omega)
  go_enter Tryd.func4, Tryd.ntmps4
  go_wp2_with (go_at_call 7; refine (cShown _ W).mono ?_; rintro e w1 ⟨rfl, hb1⟩)
  go_wp2_with (first
    | (go_at_call_of 9 (Value.int .i64 4); refine (cKind _ a 4 ha ha' (by decide)).mono ?_; rintro e wx ⟨rfl, hwx⟩; rw [hwx]; clear hwx wx)
    | (go_at_call 8; refine (kRNew' (t := 1) (n := n) rfl rfl (by decide) (by decide) n1 (by omega) _).mono ?_; rintro e w2 ⟨rfl, hb2⟩; have hba : Below w.heap.size w (w2.alloc (.cells (mkPl 1 n).cells 25)) := S.bal (bel_trans hb1 hb2) _; have hBa : PB w (w2.alloc (.cells (mkPl 1 n).cells 25)) w2.heap.size (mkPl 1 n) := Blk.new (bel_trans hb1 hb2).size _ (by decide))
    | (go_at_call 10; refine (cFr (t := 1) (n := n) (by decide) n1 (by omega) _ (W.on hba)).mono ?_; rintro e w3 ⟨b, y, rfl, h3'⟩; obtain ⟨s, h4, hws, ht⟩ := fresh_hand h3'; have hB := hBa.below h4.bel; have h5 : Hand w w3 b s (szN 1 n) := h4.lift hba W; clear h3' h4 ht hBa; obtain ⟨o, ho⟩ : ∃ o, w2.heap.size = o := ⟨_, rfl⟩; rw [ho] at hB ⊢; clear ho)
    | (go_at_call_of 9 (Value.int .i64 8); refine (cKind _ d 8 hd hd' (by decide)).mono ?_; rintro e wx ⟨rfl, hwx⟩; rw [hwx, hC]; clear hwx wx))
  clear hba hb1 hb2
  have sz : szN 1 n ≤ 1000 := by unfold szN hpN; omega
  obtain ⟨S0, hS0⟩ : ∃ S0, szN 1 n = S0 := ⟨_, rfl⟩
  rw [hS0] at sz h5
  clear hS0
  rw [← hws] at chk
  have keep : ∀ w', Below w3.heap.size w3 w' → w'.cell? ⟨o, 1, none⟩ = some (.int .i64 n) := fun w' hb => (hB.below hb).box.c1
  have hbd : Below w3.heap.size w3 w3.drew := (Below.refl w3.heap.size w3).drew
  have RD := keep _ hbd
  go_region_held3 (fun w' => w'.cell? ⟨o, 1, none⟩ = some (.int .i64 n)) (first | assumption | exact RD | exact keep _ (by assumption))
    (first
      | (go_at_call 17; refine (P.rClass c _).mono ?_; rintro e w4 ⟨rfl, hw4⟩; rw [hK]; have hb4 : Below w3.heap.size w3 w4 := (by rw [hw4]; exact hbd); clear hw4)
      | (go_at_call 22; refine (P.rCells K _).mono ?_; rintro e w5 ⟨rfl, hw5⟩; have hb5 : Below w3.heap.size w3 w5 := (by rw [hw5]; exact hb4); clear hw5))
  have hB5 := hB.below hb5
  have h6 := h5.below hb5
  clear hB h5 RD keep hbd hb4 hb5 hws
  go_wp2
  go_loopw [12, 13] (fun z i wr => ∃ (j : Nat) (Z : Int) (s : St), j ≤ M + 1 ∧ i = .int .i64 j ∧ z = .int .i64 Z ∧ PB w wr o (mkPl 1 n) ∧ Hand w wr b s (S0 + 60 * j) ∧ allChk (mkPl 1 n) c (M + 1 - j) s.ws Z = true) (fun _ i _ => M + 1 - (intOf i).toNat)
  case atStart => exact ⟨0, 0, s, by omega, rfl, rfl, hB5, h6, by rw [Nat.sub_zero]; exact chk⟩
  case round =>
    clear hB5 h6 chk s
    obtain ⟨j, Z, s, hj, rfl, rfl, q1, q2, q3⟩ := hrel
    have p0 := q1.box.c0
    have p1 := q1.box.c1
    have p2 := q1.box.c2
    have p3 := q1.box.c3
    have p4 := q1.box.c4
    by_cases hl : j ≤ M
    case pos =>
      obtain ⟨k, hk⟩ : ∃ k, M + 1 - j = k + 1 := ⟨M - j, by omega⟩
      rw [hk] at q3
      obtain ⟨g1, g2, g3⟩ := allChk_succ q3
      have G := cMade q2 (by omega) pok c0 c7
      obtain ⟨R, hR⟩ : ∃ R, mkW 60 (AllS.new (mkPl 1 n) c 0 0) s.ws = R := ⟨_, rfl⟩
      rw [hR] at g1 g2 g3 G
      clear hR
      obtain ⟨v, l'⟩ := R
      simp only at g1 g2 g3 G
      by_cases e0 : v = 0
      · subst e0
        have ek : k = 0 := g2.1 rfl
        have ej : M ≤ j := by omega
        have ed : ((j : Int) == (M : Int)) = true := by simp; omega
        have nr : ∀ w', (binOp .neq 4 (.bool true) (.bool true)).run Tryd.prog w' = .ok (.bool false) w' := fun w' => by kernel_rfl
        rw [if_neg (by omega)] at g3
        go_wp2_with (go_at_call 23; refine G.mono ?_; rintro e w6 ⟨s6, rfl, e6, q6, o6⟩)
        go_roundw
        case rel => exact ⟨j + 1, Z, s6, by omega, by go_num, rfl, q1.oth o6 (by simp), q6.mono (by omega), by rw [show M + 1 - (j + 1) = k by omega, e6]; exact g3⟩
        case measure => simp [intOf]; omega
      · have hv : 0 < v := by omega
        have ek : k ≠ 0 := fun h => e0 (g2.2 h)
        have ed : ((j : Int) == (M : Int)) = false := by simp; omega
        have ev : (v == 0) = false := by simpa using e0
        rw [if_pos hv] at g3
        go_wp2_with (go_at_call 23; refine G.mono ?_; rintro e w6 ⟨s6, rfl, e6, q6, o6⟩)
        go_roundw
        case rel => exact ⟨j + 1, v, s6, by omega, by go_num, rfl, q1.oth o6 (by simp), q6.mono (by omega), by rw [show M + 1 - (j + 1) = k by omega, e6]; exact g3⟩
        case measure => simp [intOf]; omega
    case neg =>
      have hk : M + 1 - j = 0 := by omega
      rw [hk] at q3
      obtain ⟨g1, g2⟩ := allChk_zero q3
      obtain ⟨H, hH⟩ : ∃ H, 3 + 3 * 0 + K = H := ⟨_, rfl⟩
      have k0 := PushS.ok_new H Z Z K
      have k1 := k0.next q2.rng
      have r1 := PushS.rng k0 q2.rng
      have k2 := k1.next r1
      have r2 := PushS.rng k1 r1
      obtain ⟨x0, hx0⟩ : ∃ x0, PushS.new H Z Z K = x0 := ⟨_, rfl⟩
      rw [hx0] at k0 k1 k2 r1 r2
      have hps : (((x0.next s).next (x0.mem s)).mem ((x0.next s).mem (x0.mem s))).ws = psW (mkPl 1 n) c s.ws Z := by
        unfold psW
        rw [hK, hH, hx0]
        have e1 : (bare s.ws).ws = s.ws := rfl
        rw [PushS.next_ws e1]
        have e2 : (bare (x0.mem (bare s.ws)).ws).ws = (x0.mem s).ws := by rw [bare_ws]; exact PushS.mem_ws e1 _
        rw [PushS.next_ws e2]
        exact (PushS.mem_ws (by rw [bare_ws]; exact PushS.mem_ws e2 _) _).symm
      generalize psW (mkPl 1 n) c s.ws Z = l1 at g1 g2 hps
      go_wp2_with (first
        | (go_at_call 17; refine (P.rClass c _).mono ?_; rintro e wx ⟨rfl, hwx⟩; rw [hwx, hK]; clear hwx wx)
        | (go_at_call 16; refine (P.rList 0 K (by decide) (by decide) clb.1 (by omega) _).mono ?_; rintro e wx ⟨rfl, hwx⟩; rw [hwx, hH]; clear hwx wx)
        | (go_at_call 24; refine (hNewPush q2 H Z Z K).mono ?_; rintro e w5 ⟨p, rfl, h5, B5, hb5, hp5⟩; rw [hx0] at B5; have q5 := q1.below hb5; have hne : o ≠ p := (by have := q1.lt; omega)))
      go_wp2_with (go_at_call 25; refine (oPush h5 B5 k0 (by omega)).mono ?_; rintro e w6 ⟨rfl, h6, B6, o6⟩; have q6 := q5.oth o6 (by simpa using hne))
      go_wp2_with (go_at_call 25; refine (oPush h6 B6 k1 (by omega)).mono ?_; rintro e w7 ⟨rfl, h7, B7, o7⟩; have q7 := q6.oth o7 (by simpa using hne))
      clear p0 p1 p2 p3 p4
      go_wp2_with (go_at_call 25; refine (oPush h7 B7 k2 (by omega)).mono ?_; rintro e w8 ⟨rfl, h8, B8, o8⟩; have q8 := q7.oth o8 (by simpa using hne); have p0 := q8.box.c0; have p1 := q8.box.c1; have p2 := q8.box.c2; have p3 := q8.box.c3; have p4 := q8.box.c4)
      have G1 := cMade h8 (by omega) pok c0 c7
      rw [hps, g1] at G1
      go_wp2_with (first
        | (have hh := q9; go_at_call 23; have G2 := cMade q9 (by omega) pok c0 c7; rw [e9, g2] at G2; refine G2.mono ?_; rintro e w10 ⟨s10, rfl, e10, q10, o10⟩)
        | (go_at_call 23; refine G1.mono ?_; rintro e w9 ⟨s9, rfl, e9, q9, o9⟩; have q8' := q8.oth o9 (by simp); have r0 := q8'.box.c0; have r1 := q8'.box.c1; have r2 := q8'.box.c2; have r3 := q8'.box.c3; have r4 := q8'.box.c4))
      go_ret
      exact ⟨rfl, q10.bel⟩
end Go.Proofs.YtbojljkdpebheaaDoor
