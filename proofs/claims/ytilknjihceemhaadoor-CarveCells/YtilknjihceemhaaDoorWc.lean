/-
  CarveCells, walked.
-/
import Derived.Test.YtilknjihceemhaaDoorWb
import Derived.Test.YtilknjihceemhaaDoorHand
namespace Go.Proofs.YtilknjihceemhaaDoor
set_option linter.unusedVariables false
set_option maxRecDepth 100000
open Go.ChangeShapes Go.WideShapes Go.RowKit
open S.Plain (t0 t1 tw nx bw b0 b1 b2 b3)
open H.Plain (hw pL)

/-- the cells from the k-th on are on the list -/
structure On (n : Nat) (c e : Int) (k : Nat) (s : St) : Prop where
  fr : ∃ fl v, Fr 1 n s fl v
  ent : s.word (10 + 1 + 0) = bw 1 c e 0
  hd : s.word (3 + 3 * e + c) = tw (if (k : Int) < P.Plain.cs c then cel 1 n 0 c k else 0) k
  cls : ∀ j : Int, 1 ≤ j → j < P.Plain.cs c → s.word (cel 1 n 0 c j) = hw 0 c 0 0 0 0 (if j + 1 < P.Plain.cs c then cel 1 n 0 c (j + 1) else 0)
theorem pL_hw0 (c l : Int) (h : 0 ≤ l) (h' : l ≤ 4095) : pL (hw 0 c 0 0 0 0 l) = l := by unfold H.Plain.pL H.Plain.hw; omega
theorem on_pop {n k : Nat} {c e : Int} {s : St} (c0 : 0 ≤ c) (c2 : c ≤ 2) (e0 : 0 ≤ e) (e1 : e ≤ 1) (h : On n c e k s) (k1 : 1 ≤ k) (hk : (k : Int) < P.Plain.cs c) : ∃ x1 x2 x3 s1 s2 s3, (PopS.new (3 + 3 * e + c)).next s = x1 ∧ (PopS.new (3 + 3 * e + c)).mem s = s1 ∧ x1.next s1 = x2 ∧ x1.mem s1 = s2 ∧ x2.next s2 = x3 ∧ x2.mem s2 = s3 ∧
    x1.pc = 2 ∧ x2.pc = 3 ∧ x3.pc = 0 ∧ x3.at_ = cel 1 n 0 c k ∧ On n c e (k + 1) s3 := by
  obtain ⟨⟨fl, v, F⟩, he, hh, hc⟩ := h
  have n1 := F.n1
  have cb := cs_bounds c0 c2
  rw [if_pos hk] at hh
  have inK := F.in_cel (i := 0) (by omega) c0 c2 (show (0 : Int) ≤ k by omega) hk
  have inH : s.In (3 + 3 * e + c) := F.in_low (by omega) (by omega)
  have lk := hc k (by omega) hk
  have hl : pL (s.word (cel 1 n 0 c k)) = if (k : Int) + 1 < P.Plain.cs c then cel 1 n 0 c (k + 1) else 0 := by
    rw [lk]
    by_cases h2 : (k : Int) + 1 < P.Plain.cs c
    · have inK2 := F.in_cel (i := 0) (by omega) c0 c2 (show (0 : Int) ≤ (k : Int) + 1 by omega) h2
      rw [if_pos h2, pL_hw0 _ _ inK2.1.1 inK2.2.2]
    · rw [if_neg h2, pL_hw0 _ _ (by omega) (by omega)]
  obtain ⟨x1, x2, x3, s1, s2, s3, f1, f2, f3, f4, f5, f6, g1, g2, g3, g4, l3, t3, w3, o3⟩ := pop_solo inH inK.1 (v := k) (by omega) hh (by omega) inK.2.2 hl
  refine ⟨x1, x2, x3, s1, s2, s3, f1, f2, f3, f4, f5, f6, g1, g2, g3, g4, ⟨⟨fl, v, ?_⟩, ?_, ?_, ?_⟩⟩
  · exact F.keep l3 t3 (o3 2 F.two (by omega)) fun j hj => o3 _ (F.in_low (by omega) (by have := F.lt j hj; omega)) (by omega)
  · rw [o3 _ (F.in_low (by omega) (by omega)) (by omega)]; exact he
  · rw [w3]; rfl
  · intro j j0 j1
    have inJ := F.in_cel (i := 0) (by omega) c0 c2 (show (0 : Int) ≤ j by omega) j1
    rw [o3 _ inJ.1 (by omega)]
    exact hc j j0 j1
theorem on_took {n : Nat} {c e : Int} {r : List Nat} {v : Nat} {x : TakeS} {s : St} (c0 : 0 ≤ c) (c2 : c ≤ 2) (h : Took 1 n 0 c e 0 r v x s) : On n c e 1 s := by
  have cb := cs_bounds c0 c2
  refine ⟨⟨r, v, h.fr⟩, h.ent, ?_, ?_⟩
  · rw [h.hd, if_pos (by omega)]
    show nx 0 (cel 1 n 0 c 1) = _
    unfold S.Plain.nx
    rfl
  · exact h.cls
theorem eqBlock (x0 x1 x2 x3 : Int) (w : World) : (binOp .eql 51 (.agg #[.int .i64 x0, .int .i64 x1, .int .i64 x2, .int .i64 x3]) (.agg #[.int .i64 x0, .int .i64 x1, .int .i64 x2, .int .i64 x3])).run Tryd.prog w = .ok (.bool true) w := by
  have u3 := Tryd.underlying3
  have a3 := Tryd.isAgg3
  have z3 := Tryd.sizeOf3
  have hS : Tryd.prog.underlying 51 = some (.struct (Tryd.prog.fieldsOf 51)) := by kernel_rfl
  have hp : Tryd.prog.stoodInHeld 51 = false := by kernel_rfl
  rw [run_eql_struct, show (10000 : Nat) = 9999 + 1 from rfl, run_equalIn_agg w 9999 51 _ _ hS hp]
  simp only [Program.fieldsOf, Tryd.underlying51]
  go_simp
theorem mk_cell (n : Nat) (c k : Int) : (mkPl 1 n).cell 0 c k = cel 1 n 0 c k := by unfold Pl.cell cel mkPl; simp
set_option maxHeartbeats 2000000 in
theorem wCarveCells (a c d : Int) (ha : -9223372036854775808 ≤ a) (ha' : a ≤ 9223372036854775807) (hc : -9223372036854775808 ≤ c) (hc' : c ≤ 9223372036854775807) (hd : -9223372036854775808 ≤ d) (hd' : d ≤ 9223372036854775807) (w : World) (W : Laid w) :
    Calls Tryd.prog 4 #[.int .i64 a, .int .i64 c, .int .i64 d] w fun e w' => e = .returned (.bool true) ∧ Below w.heap.size w w' := by
  have ka := kd_bounds a 8 (by decide)
  have kc := kd_bounds c 3 (by decide)
  have ke := kd_bounds d 2 (by decide)
  obtain ⟨n, hn⟩ : ∃ n : Nat, 1 + kd a 8 = n := ⟨(1 + kd a 8).toNat, by omega⟩
  obtain ⟨C, hC⟩ : ∃ C, kd c 3 = C := ⟨_, rfl⟩
  obtain ⟨E, hE⟩ : ∃ E, kd d 2 = E := ⟨_, rfl⟩
  rw [hC] at kc
  rw [hE] at ke
  have n1 : 1 ≤ n := by omega
  have n8 : n ≤ 8 := by omega
  clear ka
  have c0 : 0 ≤ C := kc.1
  have c2 : C ≤ 2 := by omega
  have e0 : 0 ≤ E := ke.1
  have e1 : E ≤ 1 := by omega
  have cb := cs_bounds c0 c2
  go_enter Tryd.func4, Tryd.ntmps4
  go_wp2_with (go_at_call 6; refine (cShown _ W).mono ?_; rintro e w1 ⟨rfl, hb1⟩)
  go_wp2_with (first
    | (go_at_call_of 8 (Value.int .i64 8); refine (cKind _ a 8 ha ha' (by decide)).mono ?_; rintro e wx ⟨rfl, hwx⟩; rw [hwx]; clear hwx wx)
    | (go_at_call 7; refine (kRNew' (t := 1) (n := n) rfl rfl (by decide) (by decide) n1 (by omega) _).mono ?_; rintro e w2 ⟨rfl, hb2⟩; have hba : Below w.heap.size w (w2.alloc (.cells (mkPl 1 n).cells 25)) := S.bal (bel_trans hb1 hb2) _; have hBa : PB w (w2.alloc (.cells (mkPl 1 n).cells 25)) w2.heap.size (mkPl 1 n) := Blk.new (bel_trans hb1 hb2).size _ (by decide))
    | (go_at_call 9; refine (cFr (t := 1) (n := n) (by decide) n1 (by omega) _ (W.on hba)).mono ?_; rintro e w3 ⟨b, y, rfl, h3⟩; obtain ⟨s, h4, hws, F, hz⟩ := fresh_hand (by decide) n1 (by omega) h3; have hB := hBa.below h4.bel; have h5 : Hand w w3 b s (szN 1 n) := h4.lift hba W; have p0 := hB.box.c0; have p1 := hB.box.c1; have p2 := hB.box.c2; have p3 := hB.box.c3; have p4 := hB.box.c4; clear h3 h4 hws)
    | (go_at_call_of 8 (Value.int .i64 3); refine (cKind _ c 3 hc hc' (by decide)).mono ?_; rintro e wx ⟨rfl, hwx⟩; rw [hwx, hC]; clear hwx wx)
    | (go_at_call_of 8 (Value.int .i64 2); refine (cKind _ d 2 hd hd' (by decide)).mono ?_; rintro e wx ⟨rfl, hwx⟩; rw [hwx, hE]; clear hwx wx)
    | (go_at_call 10; refine (hNewTake h5 (mkPl 1 n) C E).mono ?_; rintro e w4 ⟨p, rfl, h6, B6, hb6, hp6⟩; have hB6 := hB.below hb6; have hpo : w2.heap.size ≠ p := (by have := hB.lt; omega)))
  have sz : szN 1 n ≤ 1000 := by unfold szN hpN; omega
  obtain ⟨S0, hS0⟩ : ∃ S0, szN 1 n = S0 := ⟨_, rfl⟩
  rw [hS0] at sz h6
  obtain ⟨o, ho⟩ : ∃ o, w2.heap.size = o := ⟨_, rfl⟩
  rw [ho] at hB6 hpo ⊢
  clear ho hBa hba hb1 hb2 hS0 p0 p1 p2 p3 p4 hB hb6 hp6
  rw [upto_cons (by omega)] at F
  obtain ⟨m, hm⟩ : ∃ m : Nat, (m : Int) = 6 + P.Plain.cs C := ⟨(6 + P.Plain.cs C).toNat, by omega⟩
  obtain ⟨P1, P2⟩ := take_solo F (by decide) c0 c2 e0 e1 hm
  have z4 : s.word (3 + 3 * E + C) = 0 := by
    obtain ⟨z, hz'⟩ : ∃ z : Nat, 3 + 3 * E + C = z := ⟨(3 + 3 * E + C).toNat, by omega⟩
    rw [hz']; exact hz z (by omega) (by omega)
  rw [z4] at P2
  have ok := it_ok (TakeS.ok_new (mkPl_ok (t := 1) (n := n) (by decide) (by omega)) c0 c2 e0 e1) h6.rng
  obtain ⟨x0, hx0⟩ : ∃ x0, TakeS.new (mkPl 1 n) C E = x0 := ⟨_, rfl⟩
  rw [hx0] at P1 P2 ok B6
  clear hz z4 F h5
  have key : ∀ j, j < m → (it x0 s j).1.cell = 0 := fun j hj => if_neg fun h => P1 j hj h.1
  go_loopw [15, 16, 17] (fun dn st i wr => ∃ j : Nat, j ≤ m ∧ dn = .bool (decide (j = m)) ∧ st = .int .i64 j ∧ i = .int .i64 j ∧ Hand w wr b (it x0 s j).2 (S0 + j) ∧ Blk w wr p 73 (it x0 s j).1.cells ∧ PB w wr o (mkPl 1 n)) (fun _ _ i _ => m + 1 - (intOf i).toNat)
  case atStart => exact ⟨0, by omega, by rw [decide_eq_false (by omega)], rfl, rfl, h6, B6, hB6⟩
  case round =>
    clear h6 B6 hB6
    obtain ⟨j, hj, rfl, rfl, rfl, q1, q2, q3⟩ := hrel
    by_cases hl : j < m
    case pos =>
      have hjm : decide (j = m) = false := decide_eq_false (by omega)
      have okj := (ok j).1
      have e1' : ((it x0 s (j + 1)).1.pc == 0) = decide (j + 1 = m) := by
        by_cases h : j + 1 = m
        · rw [decide_eq_true h, h, P2.pc]; rfl
        · rw [decide_eq_false h]; simpa using P1 (j + 1) (by omega)
      have kj := key j hl
      rw [hjm]
      go_wp2_with (first
        | (go_at_call 13; refine (oCell q2 okj q1.widw).mono ?_; rintro e w5 ⟨rfl, hb5⟩; rw [kj]; have q1' := q1.below hb5; have q2' := q2.below hb5; have q3' := q3.below hb5)
        | (go_at_call 11; refine (hIt q1' q2' okj (by omega)).mono ?_; rintro e w6 ⟨rfl, q5, q6, q7⟩; rw [e1']; have q8 := q3'.oth q7 (by simpa using hpo)))
      go_roundw
      case rel => exact ⟨j + 1, by omega, rfl, by go_num, by go_num, q5, q6, q8⟩
      case measure => simp [intOf]; omega
    case neg =>
      obtain rfl : j = m := by omega
      rw [decide_eq_true rfl]
      have hm1 : (j : Int) ≤ 6 + P.Plain.cs C := by omega
      have hm2 : 6 + P.Plain.cs C ≤ (j : Int) := by omega
      obtain ⟨Q, hQ⟩ : ∃ Q : Nat, P.Plain.cs C = Q := ⟨(P.Plain.cs C).toNat, by omega⟩
      have wr6 : IntKind.i64.wrap (6 + (Q : Int)) = 6 + (Q : Int) := wrap_small _ (by omega) (by omega)
      have hne : ((j : Int) != 6 + (Q : Int)) = false := by rw [hm, hQ]; simp
      have okj := (ok j).1
      have cj := P2.cell
      have O1 := on_took c0 c2 P2
      have mc := mk_cell n C 0
      obtain ⟨Z, hZ⟩ : ∃ Z, cel 1 n 0 C 0 = Z := ⟨_, rfl⟩
      rw [hZ] at cj mc
      clear hm P1 P2 key hl hj
      go_wp2
      have S1 : ∀ w', Below wr.heap.size wr w' → w'.cell? ⟨o, 0, none⟩ = some (.int .i64 (mkPl 1 n).t) ∧ w'.cell? ⟨o, 1, none⟩ = some (.int .i64 (mkPl 1 n).b) ∧ w'.cell? ⟨o, 2, none⟩ = some (.int .i64 (mkPl 1 n).tb) ∧ w'.cell? ⟨o, 3, none⟩ = some (.int .i64 (mkPl 1 n).hp) ∧ w'.cell? ⟨o, 4, none⟩ = some (.int .i64 (mkPl 1 n).sz) := fun w' hb => by
        have B := (q3.below hb).box
        exact ⟨B.c0, B.c1, B.c2, B.c3, B.c4⟩
      have hbd : Below wr.heap.size wr wr.drew := (Below.refl wr.heap.size wr).drew
      have RD := S1 _ hbd
      go_region_held3 (fun w' => w'.cell? ⟨o, 0, none⟩ = some (.int .i64 (mkPl 1 n).t) ∧ w'.cell? ⟨o, 1, none⟩ = some (.int .i64 (mkPl 1 n).b) ∧ w'.cell? ⟨o, 2, none⟩ = some (.int .i64 (mkPl 1 n).tb) ∧ w'.cell? ⟨o, 3, none⟩ = some (.int .i64 (mkPl 1 n).hp) ∧ w'.cell? ⟨o, 4, none⟩ = some (.int .i64 (mkPl 1 n).sz)) (first | assumption | exact RD | exact S1 _ (by assumption))
        (first
          | (go_at_call 13; refine (oCell (q2.below hbd) okj (q1.below hbd).widw).mono ?_; rintro e w4 ⟨rfl, hb4⟩; rw [cj]; have hb4' := bel_trans hbd hb4)
          | (go_at_call 15; refine (kRCell (mkPl_ok (t := 1) (n := n) (by decide) (by omega)) C (by decide) (by decide) (by decide) (by decide) _).mono ?_; rintro e w5 ⟨rfl, hb5⟩; rw [mc]; have hb5' := bel_trans hb4' hb5)
          | (go_at_call 16; refine (P.rCells C _).mono ?_; rintro e w6 ⟨rfl, hw6⟩; rw [hw6, hQ]; clear hw6))
      go_wp2
      have q1a := q1.below hb5'
      have q3a := q3.below hb5'
      generalize (it x0 s j).2 = s5 at q1a O1
      clear q1 q2 S1 hbd RD okj cj mc hZ wr6 hne
      obtain ⟨H, hH⟩ : ∃ H, 3 + 3 * E + C = H := ⟨_, rfl⟩
      have j14 : j ≤ 14 := by omega
      go_loopw [18] (fun i wr => ∃ k : Nat, 1 ≤ k ∧ k ≤ Q + 1 ∧ i = .int .i64 k ∧ PB w wr o (mkPl 1 n) ∧ ∃ s, Hand w wr b s (S0 + j + 3 * k) ∧ ∃ kk : Nat, (k ≤ Q → kk = k) ∧ On n C E kk s) (fun i _ => Q + 2 - (intOf i).toNat)
      case atStart => exact ⟨1, by omega, by omega, rfl, q3a, s5, q1a.mono (by omega), 1, fun _ => rfl, O1⟩
      case round =>
        clear q1a q3a O1
        obtain ⟨k, k1, kQ, rfl, q1, s, q2, kk, hkk, q3⟩ := hrel
        have p0 := q1.box.c0
        have p1 := q1.box.c1
        have p2 := q1.box.c2
        have p3 := q1.box.c3
        have p4 := q1.box.c4
        have pok := mkPl_ok (t := 1) (n := n) (by decide) (by omega)
        by_cases hl : k < Q
        · obtain rfl := hkk (by omega)
          have kc' : (kk : Int) < P.Plain.cs C := by omega
          obtain ⟨y1, y2, y3, s1, s2, s3, f1, f2, f3, f4, f5, f6, g1, g2, g3, g4, O3⟩ := on_pop c0 c2 e0 e1 q3 k1 kc'
          have mc := mk_cell n C kk
          obtain ⟨Z', hZ'⟩ : ∃ Z, cel 1 n 0 C kk = Z := ⟨_, rfl⟩
          rw [hZ'] at mc g4
          rw [hH] at f1 f2
          have z0 := PopS.ok_new H
          have z1 := z0.next q2.rng
          rw [f1] at z1
          have r1 := PopS.rng z0 q2.rng
          rw [f2] at r1
          have z2 := z1.next r1
          rw [f3] at z2
          have r2 := PopS.rng z1 r1
          rw [f4] at r2
          have z3 := z2.next r2
          rw [f5] at z3
          have hle : decide ((kk : Int) ≤ (Q : Int)) = true := decide_eq_true (by omega)
          have hkq : ((kk : Int) == (Q : Int)) = false := by simp; omega
          clear q3 kc' hZ' r1 r2
          go_wp2_with (first
            | (go_at_call 16; refine (P.rCells C _).mono ?_; rintro e wx ⟨rfl, hwx⟩; rw [hwx, hQ]; clear hwx wx)
            | (go_at_call 18; refine (P.rList E C e0 e1 c0 c2 _).mono ?_; rintro e wx ⟨rfl, hwx⟩; rw [hwx, hH]; clear hwx wx)
            | (go_at_call 17; refine (hNewPop q2 H).mono ?_; rintro e w5 ⟨p2', rfl, q8, B8, hb8, hp8⟩; have q1a := q1.below hb8; have hop : o ≠ p2' := (by have := q1.lt; omega)))
          go_wp2_with (go_at_call 19; refine (oPop q8 B8 z0 (by omega)).mono ?_; rintro e w6 ⟨rfl, q9, B9, o9⟩; rw [f1] at B9 ⊢; rw [f2] at q9; rw [g1]; have q1b := q1a.oth o9 (by simpa using hop))
          go_wp2_with (go_at_call 19; refine (oPop q9 B9 z1 (by omega)).mono ?_; rintro e w7 ⟨rfl, q10, B10, o10⟩; rw [f3] at B10 ⊢; rw [f4] at q10; rw [g2]; have q1c := q1b.oth o10 (by simpa using hop))
          go_wp2_with (go_at_call 19; refine (oPop q10 B10 z2 (by omega)).mono ?_; rintro e w8 ⟨rfl, q11, B11, o11⟩; rw [f5] at B11 ⊢; rw [f6] at q11; rw [g3]; have q1d := q1c.oth o11 (by simpa using hop))
          go_wp2_with (first
            | (go_at_call 20; refine (oResult B11 z3).mono ?_; rintro e w9 ⟨rfl, hb9⟩; rw [g4]; have q12 := q11.below hb9; have q1e := q1d.below hb9; have t0 := q1e.box.c0; have t1 := q1e.box.c1; have t2 := q1e.box.c2; have t3 := q1e.box.c3; have t4 := q1e.box.c4)
            | (go_at_call 15; refine (kRCell pok C (by decide) (by decide) (by omega) (by omega) _).mono ?_; rintro e w10 ⟨rfl, hb10⟩; rw [mc]; have q13 := q12.below hb10; have q1f := q1e.below hb10)
            | (go_at_call 16; refine (P.rCells C _).mono ?_; rintro e wx ⟨rfl, hwx⟩; rw [hwx, hQ]; clear hwx wx))
          go_roundw
          case rel => exact ⟨kk + 1, by omega, by omega, by go_num, q1f, s3, q13.mono (by omega), kk + 1, fun _ => rfl, O3⟩
          case measure => simp [intOf]; omega
        · by_cases hk2 : k = Q
          · subst hk2
            obtain rfl := hkk (by omega)
            have z4 : t0 (s.word (3 + 3 * E + C)) = 0 := by rw [q3.hd, if_neg (by omega)]; exact t0_small (by decide) (by decide) _
            obtain ⟨fl, v, F⟩ := q3.fr
            have inH : s.In (3 + 3 * E + C) := F.in_low (by omega) (by omega)
            obtain ⟨y1, f1, f2, g1, g2⟩ := pop_empty inH z4
            rw [hH] at f1 f2 inH
            have z0 := PopS.ok_new H
            have z1 := z0.next q2.rng
            rw [f1] at z1
            have hle : decide ((kk : Int) ≤ (kk : Int)) = true := decide_eq_true (by omega)
            have hkq : ((kk : Int) == (kk : Int)) = true := by simp
            have e1' : (y1.pc == 0) = true := by rw [g1]; rfl
            have O3 : On n C E kk (s.load H) := ⟨⟨fl, v, F.load inH⟩, q3.ent, q3.hd, q3.cls⟩
            clear q3 F
            go_wp2_with (first
              | (go_at_call 16; refine (P.rCells C _).mono ?_; rintro e wx ⟨rfl, hwx⟩; rw [hwx, hQ]; clear hwx wx)
              | (go_at_call 18; refine (P.rList E C e0 e1 c0 c2 _).mono ?_; rintro e wx ⟨rfl, hwx⟩; rw [hwx, hH]; clear hwx wx)
              | (go_at_call 17; refine (hNewPop q2 H).mono ?_; rintro e w5 ⟨p2', rfl, q8, B8, hb8, hp8⟩; have q1a := q1.below hb8; have hop : o ≠ p2' := (by have := q1.lt; omega)))
            go_wp2_with (go_at_call 19; refine (oPop q8 B8 z0 (by omega)).mono ?_; rintro e w6 ⟨rfl, q9, B9, o9⟩; rw [f1] at B9 ⊢; rw [f2] at q9; rw [e1']; have q1b := q1a.oth o9 (by simpa using hop))
            go_wp2_with (first
              | (go_at_call 19; refine (oPop0 q9 B9 g1).mono ?_; rintro e wx ⟨rfl, hwx⟩; rw [hwx]; clear hwx wx)
              | (go_at_call 20; refine (oResult B9 z1).mono ?_; rintro e w9 ⟨rfl, hb9⟩; rw [g2]; have q12 := q9.below hb9; have q1e := q1b.below hb9; have t0 := q1e.box.c0; have t1 := q1e.box.c1; have t2 := q1e.box.c2; have t3 := q1e.box.c3; have t4 := q1e.box.c4)
              | (go_at_call 15; refine (kRCell pok C (by decide) (by decide) (by omega) (by omega) _).mono ?_; rintro e w10 ⟨rfl, hb10⟩; have q13 := q12.below hb10; have q1f := q1e.below hb10)
              | (go_at_call 16; refine (P.rCells C _).mono ?_; rintro e wx ⟨rfl, hwx⟩; rw [hwx, hQ]; clear hwx wx))
            go_roundw
            case rel => exact ⟨kk + 1, by omega, by omega, by go_num, q1f, s.load H, q13.mono (by omega), kk, fun h => by omega, O3⟩
            case measure => simp [intOf]
          · have hle : decide ((k : Int) ≤ (Q : Int)) = false := decide_eq_false (by omega)
            have we := q3.ent
            obtain ⟨fl, v, F⟩ := q3.fr
            have ge : s.got 11 = bw 1 C E 0 := by rw [St.In.got (F.in_low (by decide) (by omega))]; exact we
            have u := u64_bw 1 C E 0
            have x0' : b0 (bw 1 C E 0) = 1 := by rw [S.Plain.b0_bw]; rfl
            have x1' : b1 (bw 1 C E 0) = C := by rw [S.Plain.b1_bw]; omega
            have x2' : b2 (bw 1 C E 0) = E := by rw [S.Plain.b2_bw]; omega
            have x3' : b3 (bw 1 C E 0) = 0 := by rw [S.Plain.b3_bw]; rfl
            have eB := eqBlock 1 C E 0
            have tbe : (mkPl 1 n).tb + 0 = 10 + 1 + 0 := rfl
            clear q3 F we hkk
            go_wp2_with (first
              | (go_at_call 16; refine (P.rCells C _).mono ?_; rintro e wx ⟨rfl, hwx⟩; rw [hwx, hQ]; clear hwx wx)
              | (go_at_call 23; refine (kREntry pok (by decide) (by decide) _).mono ?_; rintro e w5 ⟨rfl, hb5⟩; rw [tbe]; have q2a := q2.below hb5)
              | (go_at_call 22; refine (hLoad q2a (by omega) 11).mono ?_; rintro e w6 ⟨rfl, q2b, _⟩; rw [ge])
              | (go_at_call 21; refine (S.rOfBlock _ u.1 u.2 _).mono ?_; rintro e w7 ⟨rfl, hw7⟩; rw [x0', x1', x2', x3']; have q2c : Hand w w7 b _ _ := (hw7 ▸ q2b.alloc _); clear hw7))
            go_ret
            exact ⟨rfl, q2c.bel⟩
end Go.Proofs.YtilknjihceemhaaDoor
