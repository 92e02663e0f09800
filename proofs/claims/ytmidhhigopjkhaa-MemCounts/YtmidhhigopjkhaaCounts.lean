/-
  The walk of the law on counts.
-/
import Derived.Test.YtmidhhigopjkhaaOwn2
namespace Go.Proofs.Ytmidhhigopjkhaa
set_option linter.unusedVariables false
open Go.ChangeShapes Go.WideShapes Go.RowKit

theorem kHand0 {w wo : World} {mb N : Nat} {s : St} {q : Op6} {n : Int} (ho : Own w wo mb s N) (c : Int) (hc : -9223372036854775808 ≤ c) (hc' : c ≤ 9223372036854775807) (hn : 0 < n) :
    Calls Try.prog 11 #[.int .i64 c, .int .i64 n] (wo.alloc (.cells #[.int .i64 q.k, .int .i64 q.a, .int .u64 q.x, .int .u64 q.x1, .int .u64 q.y, .int .u64 q.y1] 33)) fun e w' =>
      e = .returned (.int .i64 (kd c n)) ∧ Own w w' mb s N ∧ w'.heap[wo.heap.size]? = some (.cells (opv q) 33 (0, 0)) := by
  refine (cKind _ c n hc hc' hn).mono ?_
  rintro e w' ⟨rfl, rfl⟩
  exact ⟨rfl, ho.alloc _, heap_alloc_new _ _⟩

set_option maxHeartbeats 16000000 in
set_option maxRecDepth 100000 in
theorem wCounts (n : Int) (hn : -9223372036854775808 ≤ n) (hn' : n ≤ 9223372036854775807) (b off len cap : Nat) (z : Nat → Op6) (w : World) (hl : Ops w b off len z) :
    Calls Try.prog 5 #[.int .i64 n, .slice (some ⟨b, off, none⟩) len cap] w fun e w' => e = .returned (.bool true) ∧ Below w.heap.size w w' := by
  obtain ⟨n0, hn0, hn64⟩ : ∃ m : Nat, kd n 64 = m ∧ m < 64 := ⟨(kd n 64).toNat, by have := kd_bounds n 64 (by decide); omega, by have := kd_bounds n 64 (by decide); omega⟩
  go_enter Try.func5, Try.ntmps5
  go_wp2_with (first
    | (go_at_call 8; refine (cShown w).mono ?_; rintro e w1 ⟨rfl, hb1⟩)
    | (go_at_call 11; refine (cKind w1 n 64 hn hn' (by decide)).mono ?_; rintro e w2 ⟨rfl, hw2⟩; rw [hw2, hn0]; clear hw2 w2)
    | (go_at_call 9; refine (oNew w1 (1 + n0) (by omega) (by omega) hb1).mono ?_; rintro e w2 ⟨mb, rfl, h2⟩))
  go_loopw [8, 9, 10] (fun tk bd i wr => ∃ k : Nat, k ≤ 80 ∧ k ≤ len ∧ i = .int .i64 k ∧ ∃ s, Own w wr mb s k ∧ s.ws.length = 1 + n0 ∧ s.c = k ∧ ∃ m : Nat, tk = .int .i64 m ∧ m + s.l.length = k ∧ bd = .int .i64 s.t)
    (fun _ _ i _ => 80 - (intOf i).toNat)
  case atStart => exact ⟨0, by omega, Nat.zero_le _, rfl, St.new (1 + n0), h2, by simp [St.new], rfl, 0, rfl, rfl, rfl⟩
  case round =>
    obtain ⟨k, hk80, hkl, rfl, s, ho, h8, hcc, m, rfl, hml, rfl⟩ := hrel
    obtain ⟨wo, rfl⟩ : ∃ wo : World, wo = wr := ⟨_, rfl⟩
    have ht0 := ho.fit.t0
    have htc := ho.fit.tc
    clear h2 hb1
    by_cases hgo : k < len ∧ k < 80
    case neg =>
      have hmin : min (len : Int) 80 = k := by omega
      have u1 : s.took.l.length = 0 := rfl
      have u2 : s.took.took.t = s.t := rfl
      have u3 : s.took.took.c = k := hcc
      have u4 : s.took.c = k := hcc
      by_cases hlt : k < len
      · have h80 : ¬ k < 80 := fun h => hgo ⟨hlt, h⟩
        clear hgo
        go_wp2_with (first
          | (go_at_call 21; refine (oTake (by assumption)).mono ?_; rintro e w7 ⟨ao7, cp7, rfl, o7, t7, k7⟩)
          | (go_at_call 24; refine (oCount (by assumption)).mono ?_; rintro e w8 ⟨rfl, hw8⟩; rw [hw8]; clear hw8 w8)
          | (go_at_call 25; refine (oTraps (by assumption)).mono ?_; rintro e w8 ⟨rfl, hw8⟩; rw [hw8]; clear hw8 w8))
        all_goals go_ret
        all_goals exact ⟨by simp, o7.bel⟩
      · clear hgo
        go_wp2_with (first
          | (go_at_call 21; refine (oTake (by assumption)).mono ?_; rintro e w7 ⟨ao7, cp7, rfl, o7, t7, k7⟩)
          | (go_at_call 24; refine (oCount (by assumption)).mono ?_; rintro e w8 ⟨rfl, hw8⟩; rw [hw8]; clear hw8 w8)
          | (go_at_call 25; refine (oTraps (by assumption)).mono ?_; rintro e w8 ⟨rfl, hw8⟩; rw [hw8]; clear hw8 w8))
        all_goals go_ret
        all_goals exact ⟨by simp, o7.bel⟩
    obtain ⟨hlt, h80⟩ := hgo
    have L := hl.on ho.bel
    have l0 := L.c0 k hlt
    have l1 := L.c1 k hlt
    have l2 := L.c2 k hlt
    have l3 := L.c3 k hlt
    have l4 := L.c4 k hlt
    have l5 := L.c5 k hlt
    have lf := L.fit k hlt
    generalize z k = q at l0 l1 l2 l3 l4 l5 lf
    clear L hl z
    have hkb := kd_bounds q.k 4 (by decide)
    have hcase : kd q.k 4 = 0 ∨ kd q.k 4 = 1 ∨ kd q.k 4 = 2 ∨ kd q.k 4 = 3 := by omega
    clear hkb
    have hways : q.a < 0 ∨ (¬ q.a < 0 ∧ (1 + n0 : Int) ≤ q.a) ∨ (¬ q.a < 0 ∧ ¬ (1 + n0 : Int) ≤ q.a ∧ ¬ q.a % 2 = 0) ∨ (¬ q.a < 0 ∧ ¬ (1 + n0 : Int) ≤ q.a ∧ q.a % 2 = 0 ∧ q.a = n0) ∨ (¬ q.a < 0 ∧ ¬ (1 + n0 : Int) ≤ q.a ∧ q.a % 2 = 0 ∧ ¬ q.a = n0) := by omega
    rcases hcase with hK | hK | hK | hK
    · have hways' : q.a < 0 ∨ (¬ q.a < 0 ∧ (1 + n0 : Int) ≤ q.a) ∨ (¬ q.a < 0 ∧ ¬ (1 + n0 : Int) ≤ q.a) := by omega
      clear hways
      rcases hways' with hw0 | ⟨hw0, hw1⟩ | ⟨hw0, hw1⟩
      · as_aux_lemma =>
          have FB : s.is1 q.a = !true := by simp [St.is1]; omega
          have g0 : decide (q.a < 0) = true := by simpa using hw0
          clear hw0
          go_wp2_with (first
            | (go_at_call 11; refine (kHand0 (q := q) ho q.k lf.k0 lf.k1 (by decide)).mono ?_; rintro e w3 ⟨rfl, o3, v3⟩; rw [hK]; have v3c := opv_cells v3; obtain ⟨d0, d1, d2, d3, d4, d5⟩ := v3c)
            | (go_at_call 12; refine (oLoad o3 (by omega) q.a).mono ?_; rintro e w5 ⟨rfl, o5, t5⟩; have D := did_load s q.a (bad := true) FB; generalize s.load q.a = s' at o5 D; obtain ⟨D1, D2, D3, ok, D4⟩ := D; have v5 := t5 _ _ _ _ (by decide) v3; have v5c := opv_cells v5; obtain ⟨e0, e1, e2, e3, e4, e5⟩ := v5c))
          go_quiet ((go_at_call 26; exact Calls.quiet_of_same (oLen (o5.drewN _))))
          have o6 := o5.drewN nq
          have v6 : (w5.drewN nq).heap[wo.heap.size]? = some (.cells (opv q) 33 (0, 0)) := v5
          go_wp2_with (go_at_call 21; refine (oTake o6).mono ?_; rintro e w7 ⟨ao7, cp7, rfl, o7, t7, k7⟩; have v7 := t7 _ _ _ _ (by decide) v6; have v7c := opv_cells v7; obtain ⟨g0', g1', g2', g3', g4', g5'⟩ := v7c)
          · obtain ⟨g, rfl, y0, y1, _⟩ := k7.cells s.l.length (1, q.a, ok) (by rw [D4]; simp)
            have hD3 : s'.t = s.t + 1 := by simpa using D3
            have R : ∃ s2, Own w w7 mb s2 (k + 1) ∧ s2.ws.length = 1 + n0 ∧ s2.c = ((k + 1 : Nat) : Int) ∧ (m + (s.l.length + 1)) + s2.l.length = k + 1 ∧ s2.t = s.t + 1 := ⟨s'.took, o7, D1.trans h8, by show s'.c = _; rw [D2, hcc]; rfl, by simp [St.took]; omega, hD3⟩
            clear D1 D2 D3 D4 o7 o6 o5 t7 t5 k7 hD3 o3
            have hq1 := wrap_small ((s.l.length : Int) + 1 - 1) (by omega) (by omega)
            have hq2 := wrap_small (s.l.length : Int) (by omega) (by omega)
            have hq3 : (0 : Int) ≤ s.l.length := by omega
            have hq4 : (s.l.length : Int) < (s.l.length : Int) + 1 := by omega
            have hq5 : (s.l.length : Int) + 1 - 1 = s.l.length := by omega
            have hq8 : IntKind.i64.wrap 1 = 1 := wrap_small 1 (by decide) (by decide)
            have hq9 : ((s.l.length : Int) + 1 == 0) = false := by simp; omega
            have hq6 : ¬ (s.l.length : Int) < 0 := by omega
            have hq7 : (s.l.length : Int) < ((s.l.length + 1 : Nat) : Int) := by omega
            have S0 : w7.drew.cell? ⟨g, s.l.length * 3, none⟩ = some (.int .i64 1) ∧ w7.drew.cell? ⟨g, s.l.length * 3 + 1, none⟩ = some (.int .i64 q.a) ∧ w7.drew.cell? ⟨wo.heap.size, 1, none⟩ = some (.int .i64 q.a) := ⟨y0, y1, g1'⟩
            go_region_held3 (fun w' => w'.cell? ⟨g, s.l.length * 3, none⟩ = some (.int .i64 1) ∧ w'.cell? ⟨g, s.l.length * 3 + 1, none⟩ = some (.int .i64 q.a) ∧ w'.cell? ⟨wo.heap.size, 1, none⟩ = some (.int .i64 q.a)) (first | assumption) (first | fail)
            clear hq1 hq2 hq3 hq4 hq5 hq6 hq7 hq8 hq9 S0 y0 y1
            go_wp2
            obtain ⟨s2, R1, R2, R3, R4, R5⟩ := R
            go_roundw
            case rel => exact ⟨k + 1, by omega, by omega, by go_num, s2, R1.drew, R2, R3, m + (s.l.length + 1), by first | rfl | go_num | (simp; omega), R4, by rw [R5]; try simp⟩
            case measure => simp [intOf]; omega
          · go_roundw
            case rel => exact ⟨k + 1, by omega, by omega, by go_num, s', o6, D1.trans h8, by rw [D2, hcc]; rfl, m, rfl, by rw [D4]; simp; omega, by have hD3 : s'.t = s.t + 1 := (by simpa using D3); rw [hD3]; try simp⟩
            case measure => simp [intOf]; omega
      · as_aux_lemma =>
          have FB : s.is1 q.a = !true := by simp [St.is1]; omega
          have g0 : decide (q.a < 0) = false := by simpa using hw0
          have g1 : decide ((1 + n0 : Int) ≤ q.a) = true := by simpa using hw1
          clear hw0 hw1
          go_wp2_with (first
            | (go_at_call 11; refine (kHand0 (q := q) ho q.k lf.k0 lf.k1 (by decide)).mono ?_; rintro e w3 ⟨rfl, o3, v3⟩; rw [hK]; have v3c := opv_cells v3; obtain ⟨d0, d1, d2, d3, d4, d5⟩ := v3c)
            | (go_at_call 12; refine (oLoad o3 (by omega) q.a).mono ?_; rintro e w5 ⟨rfl, o5, t5⟩; have D := did_load s q.a (bad := true) FB; generalize s.load q.a = s' at o5 D; obtain ⟨D1, D2, D3, ok, D4⟩ := D; have v5 := t5 _ _ _ _ (by decide) v3; have v5c := opv_cells v5; obtain ⟨e0, e1, e2, e3, e4, e5⟩ := v5c))
          go_quiet ((go_at_call 26; exact Calls.quiet_of_same (oLen (o5.drewN _))))
          have o6 := o5.drewN nq
          have v6 : (w5.drewN nq).heap[wo.heap.size]? = some (.cells (opv q) 33 (0, 0)) := v5
          go_wp2_with (go_at_call 21; refine (oTake o6).mono ?_; rintro e w7 ⟨ao7, cp7, rfl, o7, t7, k7⟩; have v7 := t7 _ _ _ _ (by decide) v6; have v7c := opv_cells v7; obtain ⟨g0', g1', g2', g3', g4', g5'⟩ := v7c)
          · obtain ⟨g, rfl, y0, y1, _⟩ := k7.cells s.l.length (1, q.a, ok) (by rw [D4]; simp)
            have hD3 : s'.t = s.t + 1 := by simpa using D3
            have R : ∃ s2, Own w w7 mb s2 (k + 1) ∧ s2.ws.length = 1 + n0 ∧ s2.c = ((k + 1 : Nat) : Int) ∧ (m + (s.l.length + 1)) + s2.l.length = k + 1 ∧ s2.t = s.t + 1 := ⟨s'.took, o7, D1.trans h8, by show s'.c = _; rw [D2, hcc]; rfl, by simp [St.took]; omega, hD3⟩
            clear D1 D2 D3 D4 o7 o6 o5 t7 t5 k7 hD3 o3
            have hq1 := wrap_small ((s.l.length : Int) + 1 - 1) (by omega) (by omega)
            have hq2 := wrap_small (s.l.length : Int) (by omega) (by omega)
            have hq3 : (0 : Int) ≤ s.l.length := by omega
            have hq4 : (s.l.length : Int) < (s.l.length : Int) + 1 := by omega
            have hq5 : (s.l.length : Int) + 1 - 1 = s.l.length := by omega
            have hq8 : IntKind.i64.wrap 1 = 1 := wrap_small 1 (by decide) (by decide)
            have hq9 : ((s.l.length : Int) + 1 == 0) = false := by simp; omega
            have hq6 : ¬ (s.l.length : Int) < 0 := by omega
            have hq7 : (s.l.length : Int) < ((s.l.length + 1 : Nat) : Int) := by omega
            have S0 : w7.drew.cell? ⟨g, s.l.length * 3, none⟩ = some (.int .i64 1) ∧ w7.drew.cell? ⟨g, s.l.length * 3 + 1, none⟩ = some (.int .i64 q.a) ∧ w7.drew.cell? ⟨wo.heap.size, 1, none⟩ = some (.int .i64 q.a) := ⟨y0, y1, g1'⟩
            go_region_held3 (fun w' => w'.cell? ⟨g, s.l.length * 3, none⟩ = some (.int .i64 1) ∧ w'.cell? ⟨g, s.l.length * 3 + 1, none⟩ = some (.int .i64 q.a) ∧ w'.cell? ⟨wo.heap.size, 1, none⟩ = some (.int .i64 q.a)) (first | assumption) (first | fail)
            clear hq1 hq2 hq3 hq4 hq5 hq6 hq7 hq8 hq9 S0 y0 y1
            go_wp2
            obtain ⟨s2, R1, R2, R3, R4, R5⟩ := R
            go_roundw
            case rel => exact ⟨k + 1, by omega, by omega, by go_num, s2, R1.drew, R2, R3, m + (s.l.length + 1), by first | rfl | go_num | (simp; omega), R4, by rw [R5]; try simp⟩
            case measure => simp [intOf]; omega
          · go_roundw
            case rel => exact ⟨k + 1, by omega, by omega, by go_num, s', o6, D1.trans h8, by rw [D2, hcc]; rfl, m, rfl, by rw [D4]; simp; omega, by have hD3 : s'.t = s.t + 1 := (by simpa using D3); rw [hD3]; try simp⟩
            case measure => simp [intOf]; omega
      · as_aux_lemma =>
          have FB : s.is1 q.a = !false := by simp [St.is1]; omega
          have g0 : decide (q.a < 0) = false := by simpa using hw0
          have g1 : decide ((1 + n0 : Int) ≤ q.a) = false := by simpa using hw1
          clear hw0 hw1
          go_wp2_with (first
            | (go_at_call 11; refine (kHand0 (q := q) ho q.k lf.k0 lf.k1 (by decide)).mono ?_; rintro e w3 ⟨rfl, o3, v3⟩; rw [hK]; have v3c := opv_cells v3; obtain ⟨d0, d1, d2, d3, d4, d5⟩ := v3c)
            | (go_at_call 12; refine (oLoad o3 (by omega) q.a).mono ?_; rintro e w5 ⟨rfl, o5, t5⟩; have D := did_load s q.a (bad := false) FB; generalize s.load q.a = s' at o5 D; obtain ⟨D1, D2, D3, ok, D4⟩ := D; have v5 := t5 _ _ _ _ (by decide) v3; have v5c := opv_cells v5; obtain ⟨e0, e1, e2, e3, e4, e5⟩ := v5c))
          go_quiet ((go_at_call 26; exact Calls.quiet_of_same (oLen (o5.drewN _))))
          have o6 := o5.drewN nq
          have v6 : (w5.drewN nq).heap[wo.heap.size]? = some (.cells (opv q) 33 (0, 0)) := v5
          go_wp2_with (go_at_call 21; refine (oTake o6).mono ?_; rintro e w7 ⟨ao7, cp7, rfl, o7, t7, k7⟩; have v7 := t7 _ _ _ _ (by decide) v6; have v7c := opv_cells v7; obtain ⟨g0', g1', g2', g3', g4', g5'⟩ := v7c)
          · obtain ⟨g, rfl, y0, y1, _⟩ := k7.cells s.l.length (1, q.a, ok) (by rw [D4]; simp)
            have hD3 : s'.t = s.t + 0 := by simpa using D3
            have R : ∃ s2, Own w w7 mb s2 (k + 1) ∧ s2.ws.length = 1 + n0 ∧ s2.c = ((k + 1 : Nat) : Int) ∧ (m + (s.l.length + 1)) + s2.l.length = k + 1 ∧ s2.t = s.t + 0 := ⟨s'.took, o7, D1.trans h8, by show s'.c = _; rw [D2, hcc]; rfl, by simp [St.took]; omega, hD3⟩
            clear D1 D2 D3 D4 o7 o6 o5 t7 t5 k7 hD3 o3
            have hq1 := wrap_small ((s.l.length : Int) + 1 - 1) (by omega) (by omega)
            have hq2 := wrap_small (s.l.length : Int) (by omega) (by omega)
            have hq3 : (0 : Int) ≤ s.l.length := by omega
            have hq4 : (s.l.length : Int) < (s.l.length : Int) + 1 := by omega
            have hq5 : (s.l.length : Int) + 1 - 1 = s.l.length := by omega
            have hq8 : IntKind.i64.wrap 1 = 1 := wrap_small 1 (by decide) (by decide)
            have hq9 : ((s.l.length : Int) + 1 == 0) = false := by simp; omega
            have hq6 : ¬ (s.l.length : Int) < 0 := by omega
            have hq7 : (s.l.length : Int) < ((s.l.length + 1 : Nat) : Int) := by omega
            have S0 : w7.drew.cell? ⟨g, s.l.length * 3, none⟩ = some (.int .i64 1) ∧ w7.drew.cell? ⟨g, s.l.length * 3 + 1, none⟩ = some (.int .i64 q.a) ∧ w7.drew.cell? ⟨wo.heap.size, 1, none⟩ = some (.int .i64 q.a) := ⟨y0, y1, g1'⟩
            go_region_held3 (fun w' => w'.cell? ⟨g, s.l.length * 3, none⟩ = some (.int .i64 1) ∧ w'.cell? ⟨g, s.l.length * 3 + 1, none⟩ = some (.int .i64 q.a) ∧ w'.cell? ⟨wo.heap.size, 1, none⟩ = some (.int .i64 q.a)) (first | assumption) (first | fail)
            clear hq1 hq2 hq3 hq4 hq5 hq6 hq7 hq8 hq9 S0 y0 y1
            go_wp2
            obtain ⟨s2, R1, R2, R3, R4, R5⟩ := R
            go_roundw
            case rel => exact ⟨k + 1, by omega, by omega, by go_num, s2, R1.drew, R2, R3, m + (s.l.length + 1), by first | rfl | go_num | (simp; omega), R4, by rw [R5]; try simp⟩
            case measure => simp [intOf]; omega
          · go_roundw
            case rel => exact ⟨k + 1, by omega, by omega, by go_num, s', o6, D1.trans h8, by rw [D2, hcc]; rfl, m, rfl, by rw [D4]; simp; omega, by have hD3 : s'.t = s.t + 0 := (by simpa using D3); rw [hD3]; try simp⟩
            case measure => simp [intOf]; omega
    · have hways' : q.a < 0 ∨ (¬ q.a < 0 ∧ (1 + n0 : Int) ≤ q.a) ∨ (¬ q.a < 0 ∧ ¬ (1 + n0 : Int) ≤ q.a) := by omega
      clear hways
      rcases hways' with hw0 | ⟨hw0, hw1⟩ | ⟨hw0, hw1⟩
      · as_aux_lemma =>
          have FB : s.is1 q.a = !true := by simp [St.is1]; omega
          have g0 : decide (q.a < 0) = true := by simpa using hw0
          clear hw0
          go_wp2_with (first
            | (go_at_call 11; refine (kHand0 (q := q) ho q.k lf.k0 lf.k1 (by decide)).mono ?_; rintro e w3 ⟨rfl, o3, v3⟩; rw [hK]; have v3c := opv_cells v3; obtain ⟨d0, d1, d2, d3, d4, d5⟩ := v3c)
            | (go_at_call 14; refine (oStore o3 (by omega) q.a q.x).mono ?_; rintro e w5 ⟨rfl, o5, t5⟩; have D := did_store s q.a q.x (bad := true) FB; generalize s.store q.a q.x = s' at o5 D; obtain ⟨D1, D2, D3, ok, D4⟩ := D; have v5 := t5 _ _ _ _ (by decide) v3; have v5c := opv_cells v5; obtain ⟨e0, e1, e2, e3, e4, e5⟩ := v5c))
          go_quiet ((go_at_call 26; exact Calls.quiet_of_same (oLen (o5.drewN _))))
          have o6 := o5.drewN nq
          have v6 : (w5.drewN nq).heap[wo.heap.size]? = some (.cells (opv q) 33 (0, 0)) := v5
          go_wp2_with (go_at_call 21; refine (oTake o6).mono ?_; rintro e w7 ⟨ao7, cp7, rfl, o7, t7, k7⟩; have v7 := t7 _ _ _ _ (by decide) v6; have v7c := opv_cells v7; obtain ⟨g0', g1', g2', g3', g4', g5'⟩ := v7c)
          · obtain ⟨g, rfl, y0, y1, _⟩ := k7.cells s.l.length (2, q.a, ok) (by rw [D4]; simp)
            have hD3 : s'.t = s.t + 1 := by simpa using D3
            have R : ∃ s2, Own w w7 mb s2 (k + 1) ∧ s2.ws.length = 1 + n0 ∧ s2.c = ((k + 1 : Nat) : Int) ∧ (m + (s.l.length + 1)) + s2.l.length = k + 1 ∧ s2.t = s.t + 1 := ⟨s'.took, o7, D1.trans h8, by show s'.c = _; rw [D2, hcc]; rfl, by simp [St.took]; omega, hD3⟩
            clear D1 D2 D3 D4 o7 o6 o5 t7 t5 k7 hD3 o3
            have hq1 := wrap_small ((s.l.length : Int) + 1 - 1) (by omega) (by omega)
            have hq2 := wrap_small (s.l.length : Int) (by omega) (by omega)
            have hq3 : (0 : Int) ≤ s.l.length := by omega
            have hq4 : (s.l.length : Int) < (s.l.length : Int) + 1 := by omega
            have hq5 : (s.l.length : Int) + 1 - 1 = s.l.length := by omega
            have hq8 : IntKind.i64.wrap 2 = 2 := wrap_small 2 (by decide) (by decide)
            have hq9 : ((s.l.length : Int) + 1 == 0) = false := by simp; omega
            have hq6 : ¬ (s.l.length : Int) < 0 := by omega
            have hq7 : (s.l.length : Int) < ((s.l.length + 1 : Nat) : Int) := by omega
            have S0 : w7.drew.cell? ⟨g, s.l.length * 3, none⟩ = some (.int .i64 2) ∧ w7.drew.cell? ⟨g, s.l.length * 3 + 1, none⟩ = some (.int .i64 q.a) ∧ w7.drew.cell? ⟨wo.heap.size, 1, none⟩ = some (.int .i64 q.a) := ⟨y0, y1, g1'⟩
            go_region_held3 (fun w' => w'.cell? ⟨g, s.l.length * 3, none⟩ = some (.int .i64 2) ∧ w'.cell? ⟨g, s.l.length * 3 + 1, none⟩ = some (.int .i64 q.a) ∧ w'.cell? ⟨wo.heap.size, 1, none⟩ = some (.int .i64 q.a)) (first | assumption) (first | fail)
            clear hq1 hq2 hq3 hq4 hq5 hq6 hq7 hq8 hq9 S0 y0 y1
            go_wp2
            obtain ⟨s2, R1, R2, R3, R4, R5⟩ := R
            go_roundw
            case rel => exact ⟨k + 1, by omega, by omega, by go_num, s2, R1.drew, R2, R3, m + (s.l.length + 1), by first | rfl | go_num | (simp; omega), R4, by rw [R5]; try simp⟩
            case measure => simp [intOf]; omega
          · go_roundw
            case rel => exact ⟨k + 1, by omega, by omega, by go_num, s', o6, D1.trans h8, by rw [D2, hcc]; rfl, m, rfl, by rw [D4]; simp; omega, by have hD3 : s'.t = s.t + 1 := (by simpa using D3); rw [hD3]; try simp⟩
            case measure => simp [intOf]; omega
      · as_aux_lemma =>
          have FB : s.is1 q.a = !true := by simp [St.is1]; omega
          have g0 : decide (q.a < 0) = false := by simpa using hw0
          have g1 : decide ((1 + n0 : Int) ≤ q.a) = true := by simpa using hw1
          clear hw0 hw1
          go_wp2_with (first
            | (go_at_call 11; refine (kHand0 (q := q) ho q.k lf.k0 lf.k1 (by decide)).mono ?_; rintro e w3 ⟨rfl, o3, v3⟩; rw [hK]; have v3c := opv_cells v3; obtain ⟨d0, d1, d2, d3, d4, d5⟩ := v3c)
            | (go_at_call 14; refine (oStore o3 (by omega) q.a q.x).mono ?_; rintro e w5 ⟨rfl, o5, t5⟩; have D := did_store s q.a q.x (bad := true) FB; generalize s.store q.a q.x = s' at o5 D; obtain ⟨D1, D2, D3, ok, D4⟩ := D; have v5 := t5 _ _ _ _ (by decide) v3; have v5c := opv_cells v5; obtain ⟨e0, e1, e2, e3, e4, e5⟩ := v5c))
          go_quiet ((go_at_call 26; exact Calls.quiet_of_same (oLen (o5.drewN _))))
          have o6 := o5.drewN nq
          have v6 : (w5.drewN nq).heap[wo.heap.size]? = some (.cells (opv q) 33 (0, 0)) := v5
          go_wp2_with (go_at_call 21; refine (oTake o6).mono ?_; rintro e w7 ⟨ao7, cp7, rfl, o7, t7, k7⟩; have v7 := t7 _ _ _ _ (by decide) v6; have v7c := opv_cells v7; obtain ⟨g0', g1', g2', g3', g4', g5'⟩ := v7c)
          · obtain ⟨g, rfl, y0, y1, _⟩ := k7.cells s.l.length (2, q.a, ok) (by rw [D4]; simp)
            have hD3 : s'.t = s.t + 1 := by simpa using D3
            have R : ∃ s2, Own w w7 mb s2 (k + 1) ∧ s2.ws.length = 1 + n0 ∧ s2.c = ((k + 1 : Nat) : Int) ∧ (m + (s.l.length + 1)) + s2.l.length = k + 1 ∧ s2.t = s.t + 1 := ⟨s'.took, o7, D1.trans h8, by show s'.c = _; rw [D2, hcc]; rfl, by simp [St.took]; omega, hD3⟩
            clear D1 D2 D3 D4 o7 o6 o5 t7 t5 k7 hD3 o3
            have hq1 := wrap_small ((s.l.length : Int) + 1 - 1) (by omega) (by omega)
            have hq2 := wrap_small (s.l.length : Int) (by omega) (by omega)
            have hq3 : (0 : Int) ≤ s.l.length := by omega
            have hq4 : (s.l.length : Int) < (s.l.length : Int) + 1 := by omega
            have hq5 : (s.l.length : Int) + 1 - 1 = s.l.length := by omega
            have hq8 : IntKind.i64.wrap 2 = 2 := wrap_small 2 (by decide) (by decide)
            have hq9 : ((s.l.length : Int) + 1 == 0) = false := by simp; omega
            have hq6 : ¬ (s.l.length : Int) < 0 := by omega
            have hq7 : (s.l.length : Int) < ((s.l.length + 1 : Nat) : Int) := by omega
            have S0 : w7.drew.cell? ⟨g, s.l.length * 3, none⟩ = some (.int .i64 2) ∧ w7.drew.cell? ⟨g, s.l.length * 3 + 1, none⟩ = some (.int .i64 q.a) ∧ w7.drew.cell? ⟨wo.heap.size, 1, none⟩ = some (.int .i64 q.a) := ⟨y0, y1, g1'⟩
            go_region_held3 (fun w' => w'.cell? ⟨g, s.l.length * 3, none⟩ = some (.int .i64 2) ∧ w'.cell? ⟨g, s.l.length * 3 + 1, none⟩ = some (.int .i64 q.a) ∧ w'.cell? ⟨wo.heap.size, 1, none⟩ = some (.int .i64 q.a)) (first | assumption) (first | fail)
            clear hq1 hq2 hq3 hq4 hq5 hq6 hq7 hq8 hq9 S0 y0 y1
            go_wp2
            obtain ⟨s2, R1, R2, R3, R4, R5⟩ := R
            go_roundw
            case rel => exact ⟨k + 1, by omega, by omega, by go_num, s2, R1.drew, R2, R3, m + (s.l.length + 1), by first | rfl | go_num | (simp; omega), R4, by rw [R5]; try simp⟩
            case measure => simp [intOf]; omega
          · go_roundw
            case rel => exact ⟨k + 1, by omega, by omega, by go_num, s', o6, D1.trans h8, by rw [D2, hcc]; rfl, m, rfl, by rw [D4]; simp; omega, by have hD3 : s'.t = s.t + 1 := (by simpa using D3); rw [hD3]; try simp⟩
            case measure => simp [intOf]; omega
      · as_aux_lemma =>
          have FB : s.is1 q.a = !false := by simp [St.is1]; omega
          have g0 : decide (q.a < 0) = false := by simpa using hw0
          have g1 : decide ((1 + n0 : Int) ≤ q.a) = false := by simpa using hw1
          clear hw0 hw1
          go_wp2_with (first
            | (go_at_call 11; refine (kHand0 (q := q) ho q.k lf.k0 lf.k1 (by decide)).mono ?_; rintro e w3 ⟨rfl, o3, v3⟩; rw [hK]; have v3c := opv_cells v3; obtain ⟨d0, d1, d2, d3, d4, d5⟩ := v3c)
            | (go_at_call 14; refine (oStore o3 (by omega) q.a q.x).mono ?_; rintro e w5 ⟨rfl, o5, t5⟩; have D := did_store s q.a q.x (bad := false) FB; generalize s.store q.a q.x = s' at o5 D; obtain ⟨D1, D2, D3, ok, D4⟩ := D; have v5 := t5 _ _ _ _ (by decide) v3; have v5c := opv_cells v5; obtain ⟨e0, e1, e2, e3, e4, e5⟩ := v5c))
          go_quiet ((go_at_call 26; exact Calls.quiet_of_same (oLen (o5.drewN _))))
          have o6 := o5.drewN nq
          have v6 : (w5.drewN nq).heap[wo.heap.size]? = some (.cells (opv q) 33 (0, 0)) := v5
          go_wp2_with (go_at_call 21; refine (oTake o6).mono ?_; rintro e w7 ⟨ao7, cp7, rfl, o7, t7, k7⟩; have v7 := t7 _ _ _ _ (by decide) v6; have v7c := opv_cells v7; obtain ⟨g0', g1', g2', g3', g4', g5'⟩ := v7c)
          · obtain ⟨g, rfl, y0, y1, _⟩ := k7.cells s.l.length (2, q.a, ok) (by rw [D4]; simp)
            have hD3 : s'.t = s.t + 0 := by simpa using D3
            have R : ∃ s2, Own w w7 mb s2 (k + 1) ∧ s2.ws.length = 1 + n0 ∧ s2.c = ((k + 1 : Nat) : Int) ∧ (m + (s.l.length + 1)) + s2.l.length = k + 1 ∧ s2.t = s.t + 0 := ⟨s'.took, o7, D1.trans h8, by show s'.c = _; rw [D2, hcc]; rfl, by simp [St.took]; omega, hD3⟩
            clear D1 D2 D3 D4 o7 o6 o5 t7 t5 k7 hD3 o3
            have hq1 := wrap_small ((s.l.length : Int) + 1 - 1) (by omega) (by omega)
            have hq2 := wrap_small (s.l.length : Int) (by omega) (by omega)
            have hq3 : (0 : Int) ≤ s.l.length := by omega
            have hq4 : (s.l.length : Int) < (s.l.length : Int) + 1 := by omega
            have hq5 : (s.l.length : Int) + 1 - 1 = s.l.length := by omega
            have hq8 : IntKind.i64.wrap 2 = 2 := wrap_small 2 (by decide) (by decide)
            have hq9 : ((s.l.length : Int) + 1 == 0) = false := by simp; omega
            have hq6 : ¬ (s.l.length : Int) < 0 := by omega
            have hq7 : (s.l.length : Int) < ((s.l.length + 1 : Nat) : Int) := by omega
            have S0 : w7.drew.cell? ⟨g, s.l.length * 3, none⟩ = some (.int .i64 2) ∧ w7.drew.cell? ⟨g, s.l.length * 3 + 1, none⟩ = some (.int .i64 q.a) ∧ w7.drew.cell? ⟨wo.heap.size, 1, none⟩ = some (.int .i64 q.a) := ⟨y0, y1, g1'⟩
            go_region_held3 (fun w' => w'.cell? ⟨g, s.l.length * 3, none⟩ = some (.int .i64 2) ∧ w'.cell? ⟨g, s.l.length * 3 + 1, none⟩ = some (.int .i64 q.a) ∧ w'.cell? ⟨wo.heap.size, 1, none⟩ = some (.int .i64 q.a)) (first | assumption) (first | fail)
            clear hq1 hq2 hq3 hq4 hq5 hq6 hq7 hq8 hq9 S0 y0 y1
            go_wp2
            obtain ⟨s2, R1, R2, R3, R4, R5⟩ := R
            go_roundw
            case rel => exact ⟨k + 1, by omega, by omega, by go_num, s2, R1.drew, R2, R3, m + (s.l.length + 1), by first | rfl | go_num | (simp; omega), R4, by rw [R5]; try simp⟩
            case measure => simp [intOf]; omega
          · go_roundw
            case rel => exact ⟨k + 1, by omega, by omega, by go_num, s', o6, D1.trans h8, by rw [D2, hcc]; rfl, m, rfl, by rw [D4]; simp; omega, by have hD3 : s'.t = s.t + 0 := (by simpa using D3); rw [hD3]; try simp⟩
            case measure => simp [intOf]; omega
    · have hways' : q.a < 0 ∨ (¬ q.a < 0 ∧ (1 + n0 : Int) ≤ q.a) ∨ (¬ q.a < 0 ∧ ¬ (1 + n0 : Int) ≤ q.a) := by omega
      clear hways
      rcases hways' with hw0 | ⟨hw0, hw1⟩ | ⟨hw0, hw1⟩
      · as_aux_lemma =>
          have FB : s.is1 q.a = !true := by simp [St.is1]; omega
          have g0 : decide (q.a < 0) = true := by simpa using hw0
          clear hw0
          go_wp2_with (first
            | (go_at_call 11; refine (kHand0 (q := q) ho q.k lf.k0 lf.k1 (by decide)).mono ?_; rintro e w3 ⟨rfl, o3, v3⟩; rw [hK]; have v3c := opv_cells v3; obtain ⟨d0, d1, d2, d3, d4, d5⟩ := v3c)
            | (go_at_call 16; refine (oCAS o3 (by omega) q.a q.x q.y).mono ?_; rintro e w5 ⟨rfl, o5, t5⟩; have D := did_cas s q.a q.x q.y (bad := true) FB; generalize s.cas q.a q.x q.y = s' at o5 D; obtain ⟨D1, D2, D3, ok, D4⟩ := D; have v5 := t5 _ _ _ _ (by decide) v3; have v5c := opv_cells v5; obtain ⟨e0, e1, e2, e3, e4, e5⟩ := v5c))
          go_quiet ((go_at_call 26; exact Calls.quiet_of_same (oLen (o5.drewN _))))
          have o6 := o5.drewN nq
          have v6 : (w5.drewN nq).heap[wo.heap.size]? = some (.cells (opv q) 33 (0, 0)) := v5
          go_wp2_with (go_at_call 21; refine (oTake o6).mono ?_; rintro e w7 ⟨ao7, cp7, rfl, o7, t7, k7⟩; have v7 := t7 _ _ _ _ (by decide) v6; have v7c := opv_cells v7; obtain ⟨g0', g1', g2', g3', g4', g5'⟩ := v7c)
          · obtain ⟨g, rfl, y0, y1, _⟩ := k7.cells s.l.length (3, q.a, ok) (by rw [D4]; simp)
            have hD3 : s'.t = s.t + 1 := by simpa using D3
            have R : ∃ s2, Own w w7 mb s2 (k + 1) ∧ s2.ws.length = 1 + n0 ∧ s2.c = ((k + 1 : Nat) : Int) ∧ (m + (s.l.length + 1)) + s2.l.length = k + 1 ∧ s2.t = s.t + 1 := ⟨s'.took, o7, D1.trans h8, by show s'.c = _; rw [D2, hcc]; rfl, by simp [St.took]; omega, hD3⟩
            clear D1 D2 D3 D4 o7 o6 o5 t7 t5 k7 hD3 o3
            have hq1 := wrap_small ((s.l.length : Int) + 1 - 1) (by omega) (by omega)
            have hq2 := wrap_small (s.l.length : Int) (by omega) (by omega)
            have hq3 : (0 : Int) ≤ s.l.length := by omega
            have hq4 : (s.l.length : Int) < (s.l.length : Int) + 1 := by omega
            have hq5 : (s.l.length : Int) + 1 - 1 = s.l.length := by omega
            have hq8 : IntKind.i64.wrap 3 = 3 := wrap_small 3 (by decide) (by decide)
            have hq9 : ((s.l.length : Int) + 1 == 0) = false := by simp; omega
            have hq6 : ¬ (s.l.length : Int) < 0 := by omega
            have hq7 : (s.l.length : Int) < ((s.l.length + 1 : Nat) : Int) := by omega
            have S0 : w7.drew.cell? ⟨g, s.l.length * 3, none⟩ = some (.int .i64 3) ∧ w7.drew.cell? ⟨g, s.l.length * 3 + 1, none⟩ = some (.int .i64 q.a) ∧ w7.drew.cell? ⟨wo.heap.size, 1, none⟩ = some (.int .i64 q.a) := ⟨y0, y1, g1'⟩
            go_region_held3 (fun w' => w'.cell? ⟨g, s.l.length * 3, none⟩ = some (.int .i64 3) ∧ w'.cell? ⟨g, s.l.length * 3 + 1, none⟩ = some (.int .i64 q.a) ∧ w'.cell? ⟨wo.heap.size, 1, none⟩ = some (.int .i64 q.a)) (first | assumption) (first | fail)
            clear hq1 hq2 hq3 hq4 hq5 hq6 hq7 hq8 hq9 S0 y0 y1
            go_wp2
            obtain ⟨s2, R1, R2, R3, R4, R5⟩ := R
            go_roundw
            case rel => exact ⟨k + 1, by omega, by omega, by go_num, s2, R1.drew, R2, R3, m + (s.l.length + 1), by first | rfl | go_num | (simp; omega), R4, by rw [R5]; try simp⟩
            case measure => simp [intOf]; omega
          · go_roundw
            case rel => exact ⟨k + 1, by omega, by omega, by go_num, s', o6, D1.trans h8, by rw [D2, hcc]; rfl, m, rfl, by rw [D4]; simp; omega, by have hD3 : s'.t = s.t + 1 := (by simpa using D3); rw [hD3]; try simp⟩
            case measure => simp [intOf]; omega
      · as_aux_lemma =>
          have FB : s.is1 q.a = !true := by simp [St.is1]; omega
          have g0 : decide (q.a < 0) = false := by simpa using hw0
          have g1 : decide ((1 + n0 : Int) ≤ q.a) = true := by simpa using hw1
          clear hw0 hw1
          go_wp2_with (first
            | (go_at_call 11; refine (kHand0 (q := q) ho q.k lf.k0 lf.k1 (by decide)).mono ?_; rintro e w3 ⟨rfl, o3, v3⟩; rw [hK]; have v3c := opv_cells v3; obtain ⟨d0, d1, d2, d3, d4, d5⟩ := v3c)
            | (go_at_call 16; refine (oCAS o3 (by omega) q.a q.x q.y).mono ?_; rintro e w5 ⟨rfl, o5, t5⟩; have D := did_cas s q.a q.x q.y (bad := true) FB; generalize s.cas q.a q.x q.y = s' at o5 D; obtain ⟨D1, D2, D3, ok, D4⟩ := D; have v5 := t5 _ _ _ _ (by decide) v3; have v5c := opv_cells v5; obtain ⟨e0, e1, e2, e3, e4, e5⟩ := v5c))
          go_quiet ((go_at_call 26; exact Calls.quiet_of_same (oLen (o5.drewN _))))
          have o6 := o5.drewN nq
          have v6 : (w5.drewN nq).heap[wo.heap.size]? = some (.cells (opv q) 33 (0, 0)) := v5
          go_wp2_with (go_at_call 21; refine (oTake o6).mono ?_; rintro e w7 ⟨ao7, cp7, rfl, o7, t7, k7⟩; have v7 := t7 _ _ _ _ (by decide) v6; have v7c := opv_cells v7; obtain ⟨g0', g1', g2', g3', g4', g5'⟩ := v7c)
          · obtain ⟨g, rfl, y0, y1, _⟩ := k7.cells s.l.length (3, q.a, ok) (by rw [D4]; simp)
            have hD3 : s'.t = s.t + 1 := by simpa using D3
            have R : ∃ s2, Own w w7 mb s2 (k + 1) ∧ s2.ws.length = 1 + n0 ∧ s2.c = ((k + 1 : Nat) : Int) ∧ (m + (s.l.length + 1)) + s2.l.length = k + 1 ∧ s2.t = s.t + 1 := ⟨s'.took, o7, D1.trans h8, by show s'.c = _; rw [D2, hcc]; rfl, by simp [St.took]; omega, hD3⟩
            clear D1 D2 D3 D4 o7 o6 o5 t7 t5 k7 hD3 o3
            have hq1 := wrap_small ((s.l.length : Int) + 1 - 1) (by omega) (by omega)
            have hq2 := wrap_small (s.l.length : Int) (by omega) (by omega)
            have hq3 : (0 : Int) ≤ s.l.length := by omega
            have hq4 : (s.l.length : Int) < (s.l.length : Int) + 1 := by omega
            have hq5 : (s.l.length : Int) + 1 - 1 = s.l.length := by omega
            have hq8 : IntKind.i64.wrap 3 = 3 := wrap_small 3 (by decide) (by decide)
            have hq9 : ((s.l.length : Int) + 1 == 0) = false := by simp; omega
            have hq6 : ¬ (s.l.length : Int) < 0 := by omega
            have hq7 : (s.l.length : Int) < ((s.l.length + 1 : Nat) : Int) := by omega
            have S0 : w7.drew.cell? ⟨g, s.l.length * 3, none⟩ = some (.int .i64 3) ∧ w7.drew.cell? ⟨g, s.l.length * 3 + 1, none⟩ = some (.int .i64 q.a) ∧ w7.drew.cell? ⟨wo.heap.size, 1, none⟩ = some (.int .i64 q.a) := ⟨y0, y1, g1'⟩
            go_region_held3 (fun w' => w'.cell? ⟨g, s.l.length * 3, none⟩ = some (.int .i64 3) ∧ w'.cell? ⟨g, s.l.length * 3 + 1, none⟩ = some (.int .i64 q.a) ∧ w'.cell? ⟨wo.heap.size, 1, none⟩ = some (.int .i64 q.a)) (first | assumption) (first | fail)
            clear hq1 hq2 hq3 hq4 hq5 hq6 hq7 hq8 hq9 S0 y0 y1
            go_wp2
            obtain ⟨s2, R1, R2, R3, R4, R5⟩ := R
            go_roundw
            case rel => exact ⟨k + 1, by omega, by omega, by go_num, s2, R1.drew, R2, R3, m + (s.l.length + 1), by first | rfl | go_num | (simp; omega), R4, by rw [R5]; try simp⟩
            case measure => simp [intOf]; omega
          · go_roundw
            case rel => exact ⟨k + 1, by omega, by omega, by go_num, s', o6, D1.trans h8, by rw [D2, hcc]; rfl, m, rfl, by rw [D4]; simp; omega, by have hD3 : s'.t = s.t + 1 := (by simpa using D3); rw [hD3]; try simp⟩
            case measure => simp [intOf]; omega
      · as_aux_lemma =>
          have FB : s.is1 q.a = !false := by simp [St.is1]; omega
          have g0 : decide (q.a < 0) = false := by simpa using hw0
          have g1 : decide ((1 + n0 : Int) ≤ q.a) = false := by simpa using hw1
          clear hw0 hw1
          go_wp2_with (first
            | (go_at_call 11; refine (kHand0 (q := q) ho q.k lf.k0 lf.k1 (by decide)).mono ?_; rintro e w3 ⟨rfl, o3, v3⟩; rw [hK]; have v3c := opv_cells v3; obtain ⟨d0, d1, d2, d3, d4, d5⟩ := v3c)
            | (go_at_call 16; refine (oCAS o3 (by omega) q.a q.x q.y).mono ?_; rintro e w5 ⟨rfl, o5, t5⟩; have D := did_cas s q.a q.x q.y (bad := false) FB; generalize s.cas q.a q.x q.y = s' at o5 D; obtain ⟨D1, D2, D3, ok, D4⟩ := D; have v5 := t5 _ _ _ _ (by decide) v3; have v5c := opv_cells v5; obtain ⟨e0, e1, e2, e3, e4, e5⟩ := v5c))
          go_quiet ((go_at_call 26; exact Calls.quiet_of_same (oLen (o5.drewN _))))
          have o6 := o5.drewN nq
          have v6 : (w5.drewN nq).heap[wo.heap.size]? = some (.cells (opv q) 33 (0, 0)) := v5
          go_wp2_with (go_at_call 21; refine (oTake o6).mono ?_; rintro e w7 ⟨ao7, cp7, rfl, o7, t7, k7⟩; have v7 := t7 _ _ _ _ (by decide) v6; have v7c := opv_cells v7; obtain ⟨g0', g1', g2', g3', g4', g5'⟩ := v7c)
          · obtain ⟨g, rfl, y0, y1, _⟩ := k7.cells s.l.length (3, q.a, ok) (by rw [D4]; simp)
            have hD3 : s'.t = s.t + 0 := by simpa using D3
            have R : ∃ s2, Own w w7 mb s2 (k + 1) ∧ s2.ws.length = 1 + n0 ∧ s2.c = ((k + 1 : Nat) : Int) ∧ (m + (s.l.length + 1)) + s2.l.length = k + 1 ∧ s2.t = s.t + 0 := ⟨s'.took, o7, D1.trans h8, by show s'.c = _; rw [D2, hcc]; rfl, by simp [St.took]; omega, hD3⟩
            clear D1 D2 D3 D4 o7 o6 o5 t7 t5 k7 hD3 o3
            have hq1 := wrap_small ((s.l.length : Int) + 1 - 1) (by omega) (by omega)
            have hq2 := wrap_small (s.l.length : Int) (by omega) (by omega)
            have hq3 : (0 : Int) ≤ s.l.length := by omega
            have hq4 : (s.l.length : Int) < (s.l.length : Int) + 1 := by omega
            have hq5 : (s.l.length : Int) + 1 - 1 = s.l.length := by omega
            have hq8 : IntKind.i64.wrap 3 = 3 := wrap_small 3 (by decide) (by decide)
            have hq9 : ((s.l.length : Int) + 1 == 0) = false := by simp; omega
            have hq6 : ¬ (s.l.length : Int) < 0 := by omega
            have hq7 : (s.l.length : Int) < ((s.l.length + 1 : Nat) : Int) := by omega
            have S0 : w7.drew.cell? ⟨g, s.l.length * 3, none⟩ = some (.int .i64 3) ∧ w7.drew.cell? ⟨g, s.l.length * 3 + 1, none⟩ = some (.int .i64 q.a) ∧ w7.drew.cell? ⟨wo.heap.size, 1, none⟩ = some (.int .i64 q.a) := ⟨y0, y1, g1'⟩
            go_region_held3 (fun w' => w'.cell? ⟨g, s.l.length * 3, none⟩ = some (.int .i64 3) ∧ w'.cell? ⟨g, s.l.length * 3 + 1, none⟩ = some (.int .i64 q.a) ∧ w'.cell? ⟨wo.heap.size, 1, none⟩ = some (.int .i64 q.a)) (first | assumption) (first | fail)
            clear hq1 hq2 hq3 hq4 hq5 hq6 hq7 hq8 hq9 S0 y0 y1
            go_wp2
            obtain ⟨s2, R1, R2, R3, R4, R5⟩ := R
            go_roundw
            case rel => exact ⟨k + 1, by omega, by omega, by go_num, s2, R1.drew, R2, R3, m + (s.l.length + 1), by first | rfl | go_num | (simp; omega), R4, by rw [R5]; try simp⟩
            case measure => simp [intOf]; omega
          · go_roundw
            case rel => exact ⟨k + 1, by omega, by omega, by go_num, s', o6, D1.trans h8, by rw [D2, hcc]; rfl, m, rfl, by rw [D4]; simp; omega, by have hD3 : s'.t = s.t + 0 := (by simpa using D3); rw [hD3]; try simp⟩
            case measure => simp [intOf]; omega
    · rcases hways with hw0 | ⟨hw0, hw1⟩ | ⟨hw0, hw1, hw2⟩ | ⟨hw0, hw1, hw2, hw3⟩ | ⟨hw0, hw1, hw2, hw3⟩
      · as_aux_lemma =>
          have FB : s.is2 q.a = !true := by simp [St.is2]; omega
          have g0 : decide (q.a < 0) = true := by simpa using hw0
          clear hw0
          go_wp2_with (first
            | (go_at_call 11; refine (kHand0 (q := q) ho q.k lf.k0 lf.k1 (by decide)).mono ?_; rintro e w3 ⟨rfl, o3, v3⟩; rw [hK]; have v3c := opv_cells v3; obtain ⟨d0, d1, d2, d3, d4, d5⟩ := v3c)
            | (go_at_call 18; refine (oCAS2 o3 (by omega) q.a q.x q.x1 q.y q.y1).mono ?_; rintro e w5 ⟨rfl, o5, t5⟩; have D := did_cas2 s q.a q.x q.x1 q.y q.y1 (bad := true) FB; generalize s.cas2 q.a q.x q.x1 q.y q.y1 = s' at o5 D; obtain ⟨D1, D2, D3, ok, D4⟩ := D; have v5 := t5 _ _ _ _ (by decide) v3; have v5c := opv_cells v5; obtain ⟨e0, e1, e2, e3, e4, e5⟩ := v5c))
          go_quiet ((go_at_call 26; exact Calls.quiet_of_same (oLen (o5.drewN _))))
          have o6 := o5.drewN nq
          have v6 : (w5.drewN nq).heap[wo.heap.size]? = some (.cells (opv q) 33 (0, 0)) := v5
          go_wp2_with (go_at_call 21; refine (oTake o6).mono ?_; rintro e w7 ⟨ao7, cp7, rfl, o7, t7, k7⟩; have v7 := t7 _ _ _ _ (by decide) v6; have v7c := opv_cells v7; obtain ⟨g0', g1', g2', g3', g4', g5'⟩ := v7c)
          · obtain ⟨g, rfl, y0, y1, _⟩ := k7.cells s.l.length (4, q.a, ok) (by rw [D4]; simp)
            have hD3 : s'.t = s.t + 1 := by simpa using D3
            have R : ∃ s2, Own w w7 mb s2 (k + 1) ∧ s2.ws.length = 1 + n0 ∧ s2.c = ((k + 1 : Nat) : Int) ∧ (m + (s.l.length + 1)) + s2.l.length = k + 1 ∧ s2.t = s.t + 1 := ⟨s'.took, o7, D1.trans h8, by show s'.c = _; rw [D2, hcc]; rfl, by simp [St.took]; omega, hD3⟩
            clear D1 D2 D3 D4 o7 o6 o5 t7 t5 k7 hD3 o3
            have hq1 := wrap_small ((s.l.length : Int) + 1 - 1) (by omega) (by omega)
            have hq2 := wrap_small (s.l.length : Int) (by omega) (by omega)
            have hq3 : (0 : Int) ≤ s.l.length := by omega
            have hq4 : (s.l.length : Int) < (s.l.length : Int) + 1 := by omega
            have hq5 : (s.l.length : Int) + 1 - 1 = s.l.length := by omega
            have hq8 : IntKind.i64.wrap 4 = 4 := wrap_small 4 (by decide) (by decide)
            have hq9 : ((s.l.length : Int) + 1 == 0) = false := by simp; omega
            have hq6 : ¬ (s.l.length : Int) < 0 := by omega
            have hq7 : (s.l.length : Int) < ((s.l.length + 1 : Nat) : Int) := by omega
            have S0 : w7.drew.cell? ⟨g, s.l.length * 3, none⟩ = some (.int .i64 4) ∧ w7.drew.cell? ⟨g, s.l.length * 3 + 1, none⟩ = some (.int .i64 q.a) ∧ w7.drew.cell? ⟨wo.heap.size, 1, none⟩ = some (.int .i64 q.a) := ⟨y0, y1, g1'⟩
            go_region_held3 (fun w' => w'.cell? ⟨g, s.l.length * 3, none⟩ = some (.int .i64 4) ∧ w'.cell? ⟨g, s.l.length * 3 + 1, none⟩ = some (.int .i64 q.a) ∧ w'.cell? ⟨wo.heap.size, 1, none⟩ = some (.int .i64 q.a)) (first | assumption) (first | fail)
            clear hq1 hq2 hq3 hq4 hq5 hq6 hq7 hq8 hq9 S0 y0 y1
            go_wp2
            obtain ⟨s2, R1, R2, R3, R4, R5⟩ := R
            go_roundw
            case rel => exact ⟨k + 1, by omega, by omega, by go_num, s2, R1.drew, R2, R3, m + (s.l.length + 1), by first | rfl | go_num | (simp; omega), R4, by rw [R5]; try simp⟩
            case measure => simp [intOf]; omega
          · go_roundw
            case rel => exact ⟨k + 1, by omega, by omega, by go_num, s', o6, D1.trans h8, by rw [D2, hcc]; rfl, m, rfl, by rw [D4]; simp; omega, by have hD3 : s'.t = s.t + 1 := (by simpa using D3); rw [hD3]; try simp⟩
            case measure => simp [intOf]; omega
      · as_aux_lemma =>
          have FB : s.is2 q.a = !true := by simp [St.is2]; omega
          have g0 : decide (q.a < 0) = false := by simpa using hw0
          have g1 : decide ((1 + n0 : Int) ≤ q.a) = true := by simpa using hw1
          clear hw0 hw1
          go_wp2_with (first
            | (go_at_call 11; refine (kHand0 (q := q) ho q.k lf.k0 lf.k1 (by decide)).mono ?_; rintro e w3 ⟨rfl, o3, v3⟩; rw [hK]; have v3c := opv_cells v3; obtain ⟨d0, d1, d2, d3, d4, d5⟩ := v3c)
            | (go_at_call 18; refine (oCAS2 o3 (by omega) q.a q.x q.x1 q.y q.y1).mono ?_; rintro e w5 ⟨rfl, o5, t5⟩; have D := did_cas2 s q.a q.x q.x1 q.y q.y1 (bad := true) FB; generalize s.cas2 q.a q.x q.x1 q.y q.y1 = s' at o5 D; obtain ⟨D1, D2, D3, ok, D4⟩ := D; have v5 := t5 _ _ _ _ (by decide) v3; have v5c := opv_cells v5; obtain ⟨e0, e1, e2, e3, e4, e5⟩ := v5c))
          go_quiet ((go_at_call 26; exact Calls.quiet_of_same (oLen (o5.drewN _))))
          have o6 := o5.drewN nq
          have v6 : (w5.drewN nq).heap[wo.heap.size]? = some (.cells (opv q) 33 (0, 0)) := v5
          go_wp2_with (go_at_call 21; refine (oTake o6).mono ?_; rintro e w7 ⟨ao7, cp7, rfl, o7, t7, k7⟩; have v7 := t7 _ _ _ _ (by decide) v6; have v7c := opv_cells v7; obtain ⟨g0', g1', g2', g3', g4', g5'⟩ := v7c)
          · obtain ⟨g, rfl, y0, y1, _⟩ := k7.cells s.l.length (4, q.a, ok) (by rw [D4]; simp)
            have hD3 : s'.t = s.t + 1 := by simpa using D3
            have R : ∃ s2, Own w w7 mb s2 (k + 1) ∧ s2.ws.length = 1 + n0 ∧ s2.c = ((k + 1 : Nat) : Int) ∧ (m + (s.l.length + 1)) + s2.l.length = k + 1 ∧ s2.t = s.t + 1 := ⟨s'.took, o7, D1.trans h8, by show s'.c = _; rw [D2, hcc]; rfl, by simp [St.took]; omega, hD3⟩
            clear D1 D2 D3 D4 o7 o6 o5 t7 t5 k7 hD3 o3
            have hq1 := wrap_small ((s.l.length : Int) + 1 - 1) (by omega) (by omega)
            have hq2 := wrap_small (s.l.length : Int) (by omega) (by omega)
            have hq3 : (0 : Int) ≤ s.l.length := by omega
            have hq4 : (s.l.length : Int) < (s.l.length : Int) + 1 := by omega
            have hq5 : (s.l.length : Int) + 1 - 1 = s.l.length := by omega
            have hq8 : IntKind.i64.wrap 4 = 4 := wrap_small 4 (by decide) (by decide)
            have hq9 : ((s.l.length : Int) + 1 == 0) = false := by simp; omega
            have hq6 : ¬ (s.l.length : Int) < 0 := by omega
            have hq7 : (s.l.length : Int) < ((s.l.length + 1 : Nat) : Int) := by omega
            have S0 : w7.drew.cell? ⟨g, s.l.length * 3, none⟩ = some (.int .i64 4) ∧ w7.drew.cell? ⟨g, s.l.length * 3 + 1, none⟩ = some (.int .i64 q.a) ∧ w7.drew.cell? ⟨wo.heap.size, 1, none⟩ = some (.int .i64 q.a) := ⟨y0, y1, g1'⟩
            go_region_held3 (fun w' => w'.cell? ⟨g, s.l.length * 3, none⟩ = some (.int .i64 4) ∧ w'.cell? ⟨g, s.l.length * 3 + 1, none⟩ = some (.int .i64 q.a) ∧ w'.cell? ⟨wo.heap.size, 1, none⟩ = some (.int .i64 q.a)) (first | assumption) (first | fail)
            clear hq1 hq2 hq3 hq4 hq5 hq6 hq7 hq8 hq9 S0 y0 y1
            go_wp2
            obtain ⟨s2, R1, R2, R3, R4, R5⟩ := R
            go_roundw
            case rel => exact ⟨k + 1, by omega, by omega, by go_num, s2, R1.drew, R2, R3, m + (s.l.length + 1), by first | rfl | go_num | (simp; omega), R4, by rw [R5]; try simp⟩
            case measure => simp [intOf]; omega
          · go_roundw
            case rel => exact ⟨k + 1, by omega, by omega, by go_num, s', o6, D1.trans h8, by rw [D2, hcc]; rfl, m, rfl, by rw [D4]; simp; omega, by have hD3 : s'.t = s.t + 1 := (by simpa using D3); rw [hD3]; try simp⟩
            case measure => simp [intOf]; omega
      · as_aux_lemma =>
          have FB : s.is2 q.a = !true := by simp [St.is2]; omega
          have g0 : decide (q.a < 0) = false := by simpa using hw0
          have g1 : decide ((1 + n0 : Int) ≤ q.a) = false := by simpa using hw1
          have g2 : (q.a.tmod 2 != 0) = true := by rw [Int.tmod_eq_emod_of_nonneg (by omega)]; simpa using hw2
          clear hw0 hw1 hw2
          go_wp2_with (first
            | (go_at_call 11; refine (kHand0 (q := q) ho q.k lf.k0 lf.k1 (by decide)).mono ?_; rintro e w3 ⟨rfl, o3, v3⟩; rw [hK]; have v3c := opv_cells v3; obtain ⟨d0, d1, d2, d3, d4, d5⟩ := v3c)
            | (go_at_call 18; refine (oCAS2 o3 (by omega) q.a q.x q.x1 q.y q.y1).mono ?_; rintro e w5 ⟨rfl, o5, t5⟩; have D := did_cas2 s q.a q.x q.x1 q.y q.y1 (bad := true) FB; generalize s.cas2 q.a q.x q.x1 q.y q.y1 = s' at o5 D; obtain ⟨D1, D2, D3, ok, D4⟩ := D; have v5 := t5 _ _ _ _ (by decide) v3; have v5c := opv_cells v5; obtain ⟨e0, e1, e2, e3, e4, e5⟩ := v5c))
          go_quiet ((go_at_call 26; exact Calls.quiet_of_same (oLen (o5.drewN _))))
          have o6 := o5.drewN nq
          have v6 : (w5.drewN nq).heap[wo.heap.size]? = some (.cells (opv q) 33 (0, 0)) := v5
          go_wp2_with (go_at_call 21; refine (oTake o6).mono ?_; rintro e w7 ⟨ao7, cp7, rfl, o7, t7, k7⟩; have v7 := t7 _ _ _ _ (by decide) v6; have v7c := opv_cells v7; obtain ⟨g0', g1', g2', g3', g4', g5'⟩ := v7c)
          · obtain ⟨g, rfl, y0, y1, _⟩ := k7.cells s.l.length (4, q.a, ok) (by rw [D4]; simp)
            have hD3 : s'.t = s.t + 1 := by simpa using D3
            have R : ∃ s2, Own w w7 mb s2 (k + 1) ∧ s2.ws.length = 1 + n0 ∧ s2.c = ((k + 1 : Nat) : Int) ∧ (m + (s.l.length + 1)) + s2.l.length = k + 1 ∧ s2.t = s.t + 1 := ⟨s'.took, o7, D1.trans h8, by show s'.c = _; rw [D2, hcc]; rfl, by simp [St.took]; omega, hD3⟩
            clear D1 D2 D3 D4 o7 o6 o5 t7 t5 k7 hD3 o3
            have hq1 := wrap_small ((s.l.length : Int) + 1 - 1) (by omega) (by omega)
            have hq2 := wrap_small (s.l.length : Int) (by omega) (by omega)
            have hq3 : (0 : Int) ≤ s.l.length := by omega
            have hq4 : (s.l.length : Int) < (s.l.length : Int) + 1 := by omega
            have hq5 : (s.l.length : Int) + 1 - 1 = s.l.length := by omega
            have hq8 : IntKind.i64.wrap 4 = 4 := wrap_small 4 (by decide) (by decide)
            have hq9 : ((s.l.length : Int) + 1 == 0) = false := by simp; omega
            have hq6 : ¬ (s.l.length : Int) < 0 := by omega
            have hq7 : (s.l.length : Int) < ((s.l.length + 1 : Nat) : Int) := by omega
            have S0 : w7.drew.cell? ⟨g, s.l.length * 3, none⟩ = some (.int .i64 4) ∧ w7.drew.cell? ⟨g, s.l.length * 3 + 1, none⟩ = some (.int .i64 q.a) ∧ w7.drew.cell? ⟨wo.heap.size, 1, none⟩ = some (.int .i64 q.a) := ⟨y0, y1, g1'⟩
            go_region_held3 (fun w' => w'.cell? ⟨g, s.l.length * 3, none⟩ = some (.int .i64 4) ∧ w'.cell? ⟨g, s.l.length * 3 + 1, none⟩ = some (.int .i64 q.a) ∧ w'.cell? ⟨wo.heap.size, 1, none⟩ = some (.int .i64 q.a)) (first | assumption) (first | fail)
            clear hq1 hq2 hq3 hq4 hq5 hq6 hq7 hq8 hq9 S0 y0 y1
            go_wp2
            obtain ⟨s2, R1, R2, R3, R4, R5⟩ := R
            go_roundw
            case rel => exact ⟨k + 1, by omega, by omega, by go_num, s2, R1.drew, R2, R3, m + (s.l.length + 1), by first | rfl | go_num | (simp; omega), R4, by rw [R5]; try simp⟩
            case measure => simp [intOf]; omega
          · go_roundw
            case rel => exact ⟨k + 1, by omega, by omega, by go_num, s', o6, D1.trans h8, by rw [D2, hcc]; rfl, m, rfl, by rw [D4]; simp; omega, by have hD3 : s'.t = s.t + 1 := (by simpa using D3); rw [hD3]; try simp⟩
            case measure => simp [intOf]; omega
      · as_aux_lemma =>
          have FB : s.is2 q.a = !true := by simp [St.is2]; omega
          have g0 : decide (q.a < 0) = false := by simpa using hw0
          have g1 : decide ((1 + n0 : Int) ≤ q.a) = false := by simpa using hw1
          have g2 : (q.a.tmod 2 != 0) = false := by rw [Int.tmod_eq_emod_of_nonneg (by omega)]; simpa using hw2
          have g3 : (q.a == (n0 : Int)) = true := by simpa using hw3
          clear hw0 hw1 hw2 hw3
          go_wp2_with (first
            | (go_at_call 11; refine (kHand0 (q := q) ho q.k lf.k0 lf.k1 (by decide)).mono ?_; rintro e w3 ⟨rfl, o3, v3⟩; rw [hK]; have v3c := opv_cells v3; obtain ⟨d0, d1, d2, d3, d4, d5⟩ := v3c)
            | (go_at_call 18; refine (oCAS2 o3 (by omega) q.a q.x q.x1 q.y q.y1).mono ?_; rintro e w5 ⟨rfl, o5, t5⟩; have D := did_cas2 s q.a q.x q.x1 q.y q.y1 (bad := true) FB; generalize s.cas2 q.a q.x q.x1 q.y q.y1 = s' at o5 D; obtain ⟨D1, D2, D3, ok, D4⟩ := D; have v5 := t5 _ _ _ _ (by decide) v3; have v5c := opv_cells v5; obtain ⟨e0, e1, e2, e3, e4, e5⟩ := v5c))
          go_quiet ((go_at_call 26; exact Calls.quiet_of_same (oLen (o5.drewN _))))
          have o6 := o5.drewN nq
          have v6 : (w5.drewN nq).heap[wo.heap.size]? = some (.cells (opv q) 33 (0, 0)) := v5
          go_wp2_with (go_at_call 21; refine (oTake o6).mono ?_; rintro e w7 ⟨ao7, cp7, rfl, o7, t7, k7⟩; have v7 := t7 _ _ _ _ (by decide) v6; have v7c := opv_cells v7; obtain ⟨g0', g1', g2', g3', g4', g5'⟩ := v7c)
          · obtain ⟨g, rfl, y0, y1, _⟩ := k7.cells s.l.length (4, q.a, ok) (by rw [D4]; simp)
            have hD3 : s'.t = s.t + 1 := by simpa using D3
            have R : ∃ s2, Own w w7 mb s2 (k + 1) ∧ s2.ws.length = 1 + n0 ∧ s2.c = ((k + 1 : Nat) : Int) ∧ (m + (s.l.length + 1)) + s2.l.length = k + 1 ∧ s2.t = s.t + 1 := ⟨s'.took, o7, D1.trans h8, by show s'.c = _; rw [D2, hcc]; rfl, by simp [St.took]; omega, hD3⟩
            clear D1 D2 D3 D4 o7 o6 o5 t7 t5 k7 hD3 o3
            have hq1 := wrap_small ((s.l.length : Int) + 1 - 1) (by omega) (by omega)
            have hq2 := wrap_small (s.l.length : Int) (by omega) (by omega)
            have hq3 : (0 : Int) ≤ s.l.length := by omega
            have hq4 : (s.l.length : Int) < (s.l.length : Int) + 1 := by omega
            have hq5 : (s.l.length : Int) + 1 - 1 = s.l.length := by omega
            have hq8 : IntKind.i64.wrap 4 = 4 := wrap_small 4 (by decide) (by decide)
            have hq9 : ((s.l.length : Int) + 1 == 0) = false := by simp; omega
            have hq6 : ¬ (s.l.length : Int) < 0 := by omega
            have hq7 : (s.l.length : Int) < ((s.l.length + 1 : Nat) : Int) := by omega
            have S0 : w7.drew.cell? ⟨g, s.l.length * 3, none⟩ = some (.int .i64 4) ∧ w7.drew.cell? ⟨g, s.l.length * 3 + 1, none⟩ = some (.int .i64 q.a) ∧ w7.drew.cell? ⟨wo.heap.size, 1, none⟩ = some (.int .i64 q.a) := ⟨y0, y1, g1'⟩
            go_region_held3 (fun w' => w'.cell? ⟨g, s.l.length * 3, none⟩ = some (.int .i64 4) ∧ w'.cell? ⟨g, s.l.length * 3 + 1, none⟩ = some (.int .i64 q.a) ∧ w'.cell? ⟨wo.heap.size, 1, none⟩ = some (.int .i64 q.a)) (first | assumption) (first | fail)
            clear hq1 hq2 hq3 hq4 hq5 hq6 hq7 hq8 hq9 S0 y0 y1
            go_wp2
            obtain ⟨s2, R1, R2, R3, R4, R5⟩ := R
            go_roundw
            case rel => exact ⟨k + 1, by omega, by omega, by go_num, s2, R1.drew, R2, R3, m + (s.l.length + 1), by first | rfl | go_num | (simp; omega), R4, by rw [R5]; try simp⟩
            case measure => simp [intOf]; omega
          · go_roundw
            case rel => exact ⟨k + 1, by omega, by omega, by go_num, s', o6, D1.trans h8, by rw [D2, hcc]; rfl, m, rfl, by rw [D4]; simp; omega, by have hD3 : s'.t = s.t + 1 := (by simpa using D3); rw [hD3]; try simp⟩
            case measure => simp [intOf]; omega
      · as_aux_lemma =>
          have FB : s.is2 q.a = !false := by simp [St.is2]; omega
          have g0 : decide (q.a < 0) = false := by simpa using hw0
          have g1 : decide ((1 + n0 : Int) ≤ q.a) = false := by simpa using hw1
          have g2 : (q.a.tmod 2 != 0) = false := by rw [Int.tmod_eq_emod_of_nonneg (by omega)]; simpa using hw2
          have g3 : (q.a == (n0 : Int)) = false := by simpa using hw3
          clear hw0 hw1 hw2 hw3
          go_wp2_with (first
            | (go_at_call 11; refine (kHand0 (q := q) ho q.k lf.k0 lf.k1 (by decide)).mono ?_; rintro e w3 ⟨rfl, o3, v3⟩; rw [hK]; have v3c := opv_cells v3; obtain ⟨d0, d1, d2, d3, d4, d5⟩ := v3c)
            | (go_at_call 18; refine (oCAS2 o3 (by omega) q.a q.x q.x1 q.y q.y1).mono ?_; rintro e w5 ⟨rfl, o5, t5⟩; have D := did_cas2 s q.a q.x q.x1 q.y q.y1 (bad := false) FB; generalize s.cas2 q.a q.x q.x1 q.y q.y1 = s' at o5 D; obtain ⟨D1, D2, D3, ok, D4⟩ := D; have v5 := t5 _ _ _ _ (by decide) v3; have v5c := opv_cells v5; obtain ⟨e0, e1, e2, e3, e4, e5⟩ := v5c))
          go_quiet ((go_at_call 26; exact Calls.quiet_of_same (oLen (o5.drewN _))))
          have o6 := o5.drewN nq
          have v6 : (w5.drewN nq).heap[wo.heap.size]? = some (.cells (opv q) 33 (0, 0)) := v5
          go_wp2_with (go_at_call 21; refine (oTake o6).mono ?_; rintro e w7 ⟨ao7, cp7, rfl, o7, t7, k7⟩; have v7 := t7 _ _ _ _ (by decide) v6; have v7c := opv_cells v7; obtain ⟨g0', g1', g2', g3', g4', g5'⟩ := v7c)
          · obtain ⟨g, rfl, y0, y1, _⟩ := k7.cells s.l.length (4, q.a, ok) (by rw [D4]; simp)
            have hD3 : s'.t = s.t + 0 := by simpa using D3
            have R : ∃ s2, Own w w7 mb s2 (k + 1) ∧ s2.ws.length = 1 + n0 ∧ s2.c = ((k + 1 : Nat) : Int) ∧ (m + (s.l.length + 1)) + s2.l.length = k + 1 ∧ s2.t = s.t + 0 := ⟨s'.took, o7, D1.trans h8, by show s'.c = _; rw [D2, hcc]; rfl, by simp [St.took]; omega, hD3⟩
            clear D1 D2 D3 D4 o7 o6 o5 t7 t5 k7 hD3 o3
            have hq1 := wrap_small ((s.l.length : Int) + 1 - 1) (by omega) (by omega)
            have hq2 := wrap_small (s.l.length : Int) (by omega) (by omega)
            have hq3 : (0 : Int) ≤ s.l.length := by omega
            have hq4 : (s.l.length : Int) < (s.l.length : Int) + 1 := by omega
            have hq5 : (s.l.length : Int) + 1 - 1 = s.l.length := by omega
            have hq8 : IntKind.i64.wrap 4 = 4 := wrap_small 4 (by decide) (by decide)
            have hq9 : ((s.l.length : Int) + 1 == 0) = false := by simp; omega
            have hq6 : ¬ (s.l.length : Int) < 0 := by omega
            have hq7 : (s.l.length : Int) < ((s.l.length + 1 : Nat) : Int) := by omega
            have S0 : w7.drew.cell? ⟨g, s.l.length * 3, none⟩ = some (.int .i64 4) ∧ w7.drew.cell? ⟨g, s.l.length * 3 + 1, none⟩ = some (.int .i64 q.a) ∧ w7.drew.cell? ⟨wo.heap.size, 1, none⟩ = some (.int .i64 q.a) := ⟨y0, y1, g1'⟩
            go_region_held3 (fun w' => w'.cell? ⟨g, s.l.length * 3, none⟩ = some (.int .i64 4) ∧ w'.cell? ⟨g, s.l.length * 3 + 1, none⟩ = some (.int .i64 q.a) ∧ w'.cell? ⟨wo.heap.size, 1, none⟩ = some (.int .i64 q.a)) (first | assumption) (first | fail)
            clear hq1 hq2 hq3 hq4 hq5 hq6 hq7 hq8 hq9 S0 y0 y1
            go_wp2
            obtain ⟨s2, R1, R2, R3, R4, R5⟩ := R
            go_roundw
            case rel => exact ⟨k + 1, by omega, by omega, by go_num, s2, R1.drew, R2, R3, m + (s.l.length + 1), by first | rfl | go_num | (simp; omega), R4, by rw [R5]; try simp⟩
            case measure => simp [intOf]; omega
          · go_roundw
            case rel => exact ⟨k + 1, by omega, by omega, by go_num, s', o6, D1.trans h8, by rw [D2, hcc]; rfl, m, rfl, by rw [D4]; simp; omega, by have hD3 : s'.t = s.t + 0 := (by simpa using D3); rw [hD3]; try simp⟩
            case measure => simp [intOf]; omega
end Go.Proofs.Ytmidhhigopjkhaa
