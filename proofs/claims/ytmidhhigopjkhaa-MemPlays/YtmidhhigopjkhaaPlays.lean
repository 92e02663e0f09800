/-
  The walk of the law on plays.
-/
import Derived.Test.YtmidhhigopjkhaaPlay0
namespace Go.Proofs.Ytmidhhigopjkhaa
set_option linter.unusedVariables false
open Go.ChangeShapes Go.WideShapes Go.RowKit

theorem Kept.cell {F : List Nat} {w w' : World} (h : Kept F w w') (p : Addr) (v : Value) (hp : p.block ∉ F) (hv : w.cell? p = some v) : w'.cell? p = some v := by
  have hlt : p.block < w.heap.size := by
    rcases Nat.lt_or_ge p.block w.heap.size with h' | h'
    · exact h'
    · simp [World.cell?, Array.getElem?_eq_none h'] at hv
  rw [← hv]
  simp only [World.cell?, h.block p.block hlt hp]
/-- Load of the first: the reference's words are seen as before -/
theorem p1LoadR {w0 w : World} {b1 b2 N1 N2 : Nat} {s1 s2 : St} (h : Pair w0 w b1 s1 N1 48 b2 s2 N2) (hN : N1 < 1000000) (a : Int) {g n cp : Nat} (h0 : w.cell? ⟨b2, 0, none⟩ = some (.slice (some ⟨g, 0, none⟩) n cp)) :
    Calls Try.prog 12 #[.pointer (some ⟨b1, 0, none⟩), .int .i64 a] w fun e w' => e = .returned (.int .u64 (s1.got a)) ∧ Pair w0 w' b1 (s1.load a) (N1 + 1) 48 b2 s2 N2 ∧ w'.cell? ⟨b2, 0, none⟩ = some (.slice (some ⟨g, 0, none⟩) n cp) ∧ ∀ j v, w.cell? ⟨g, j, none⟩ = some v → w'.cell? ⟨g, j, none⟩ = some v := by
  obtain ⟨⟨L, M, rfl, rfl, m1, m2, d, l1, l2⟩, hb, f1, f2, t1, t2⟩ := h
  have hc : s1.c < 1000000 := by omega
  refine (cLoad m1 f1 hc a).mono ?_
  rintro e w' ⟨rfl, L', m1', st⟩
  have R := st.from l1 hb.size
  have A := st.apart m2 d
  have e0 := m2.cell0
  rw [h0] at e0
  simp at e0
  obtain ⟨rfl, rfl, rfl⟩ := e0
  exact ⟨rfl, ⟨⟨L', M, st.b, rfl, m1', A.1, A.2, R.2, l2⟩, hb.trans R.1, f1.load hc a, f2, by rw [St.c_load]; omega, t2⟩, st.kept.cell _ _ (d _ (by simp [Loc.fp])) h0, fun j v hv => st.kept.cell _ _ (d _ (by simp [Loc.fp])) hv⟩
theorem kHandP {w wo : World} {b1 b2 N1 N2 : Nat} {s1 s2 : St} {q : Op6} {n : Int} (ho : Pair w wo b1 s1 N1 48 b2 s2 N2) (c : Int) (hc : -9223372036854775808 ≤ c) (hc' : c ≤ 9223372036854775807) (hn : 0 < n) :
    Calls Try.prog 11 #[.int .i64 c, .int .i64 n] (wo.alloc (.cells #[.int .i64 q.k, .int .i64 q.a, .int .u64 q.x, .int .u64 q.x1, .int .u64 q.y, .int .u64 q.y1] 33)) fun e w' =>
      e = .returned (.int .i64 (kd c n)) ∧ Pair w w' b1 s1 N1 48 b2 s2 N2 ∧ w'.heap[wo.heap.size]? = some (.cells (opv q) 33 (0, 0)) := by
  refine (cKind _ c n hc hc' hn).mono ?_
  rintro e w' ⟨rfl, rfl⟩
  exact ⟨rfl, ho.alloc _, heap_alloc_new _ _⟩
theorem loose_cell {w : World} {g cp n j : Nat} {xs : List Value} (h : w.ownsRow 0 44 3 (.slice (some ⟨g, 0, none⟩) n cp) n xs) (hj : j < n) : ∃ v, w.cell? ⟨g, j * 3 + 1, none⟩ = some v := by
  have hl : j * 3 + 1 < xs.length := by rw [h.1]; omega
  have := h.cells (g := g) rfl (j * 3 + 1) _ (List.getElem?_eq_getElem hl)
  simp only [Addr.add_lit, Nat.zero_add] at this
  exact ⟨_, this⟩

set_option maxHeartbeats 8000000 in
set_option maxRecDepth 100000 in
theorem wPlays (m : Nat) (hm1 : 1 ≤ m) (hm4 : m ≤ 4096) (ao : Option Addr) (len cap : Nat) (z : Nat → Op6) (w : World) (hl : Came w ao len z) :
    Calls Try.prog 3 #[.int .i64 m, .slice ao len cap] w fun e w' => e = .returned (.bool true) ∧ Below w.heap.size w w' := by
  go_enter Try.func3, Try.ntmps3
  go_wp2_with (first
    | (go_at_call 8; refine (cShown w).mono ?_; rintro e w1 ⟨rfl, hb1⟩)
    | (go_at_call 9; refine (oNew w1 m hm1 hm4 hb1).mono ?_; rintro e w2 ⟨mb0, rfl, h2⟩)
    | (go_at_call 10; refine (pNew h2 m hm1 hm4).mono ?_; rintro e w3 ⟨yb, rfl, h3⟩))
  go_loopw [6, 10] (fun mv i wr => ∃ k : Nat, k ≤ 80 ∧ k ≤ len ∧ i = .int .i64 k ∧ ∃ mb s, mv = .pointer (some ⟨mb, 0, none⟩) ∧ Pair w wr mb s k 48 yb s k ∧ s.ws.length = m)
    (fun _ i _ => 80 - (intOf i).toNat)
  case atStart => exact ⟨0, by omega, Nat.zero_le _, rfl, mb0, St.new m, rfl, h3, by simp [St.new]⟩
  case round =>
    obtain ⟨k, hk80, hkl, rfl, mb, s, rfl, ho, h8⟩ := hrel
    obtain ⟨wo, rfl⟩ : ∃ wo : World, wo = wr := ⟨_, rfl⟩
    clear h2 hb1 h3
    by_cases hgo : k < len ∧ k < 80
    case neg =>
      have hgo' : ¬ k < len ∨ (k < len ∧ ¬ k < 80) := by omega
      clear hgo
      rcases hgo' with hlt | ⟨hlt, h80⟩
      all_goals
        obtain ⟨yg, ycp, y0, y1, y2, yw⟩ := ho.cells2
        rw [h8] at y0
        go_wp2
        clear y0 y1 y2 yw
        go_loopw [17] (fun v wr2 => ∃ j : Nat, j ≤ 100 ∧ j ≤ m ∧ v = .int .i64 j ∧ ∃ s1, Pair w wr2 mb s1 (80 + j) 48 yb s 80 ∧ s1.ws = s.ws ∧ j ≤ s1.l.length) (fun v _ => 100 - (intOf v).toNat)
        case atStart => exact ⟨0, Nat.zero_le _, Nat.zero_le _, rfl, s, ho.mono (by omega) (by omega), rfl, Nat.zero_le _⟩
        case round =>
          obtain ⟨j, hj100, hjm, rfl, s1, r1, r2, r3⟩ := hrel
          obtain ⟨yg, ycp, y0, y1, y2, yw⟩ := r1.cells2
          rw [h8] at y0 yw
          by_cases hj : j < m ∧ j < 100
          case pos =>
            obtain ⟨hj1, hj2⟩ := hj
            have yj := yw j hj1
            have gj : s1.got j = s.ws.getD j 0 := by
              have : s1.is1 j = true := by simp [St.is1]; rw [r2, h8]; omega
              simp only [St.got, this, if_true, St.word, Int.toNat_natCast, r2]
            generalize s.ws.getD j 0 = v at yj gj
            go_wp2
            have hq2 := wrap_small (j : Int) (by omega) (by omega)
            have hq3 : (0 : Int) ≤ j := by omega
            have hq4 : (j : Int) < m := by omega
            have hq6 : ¬ (j : Int) < 0 := by omega
            have S0 : wr.drew.cell? ⟨yb, 0, none⟩ = some (.slice (some ⟨yg, 0, none⟩) m ycp) ∧ wr.drew.cell? ⟨yg, j, none⟩ = some (.int .u64 v) := ⟨y0, yj⟩
            go_region_held3 (fun w' => w'.cell? ⟨yb, 0, none⟩ = some (.slice (some ⟨yg, 0, none⟩) m ycp) ∧ w'.cell? ⟨yg, j, none⟩ = some (.int .u64 v)) (first | assumption)
              (first
                | (go_at_call 12; refine (p1LoadR r1.drew (by omega) j (g := yg) (n := m) (cp := ycp) y0).mono ?_; rintro e w7 ⟨rfl, r5, r6, r7⟩; rw [gj]; have r8 : w7.cell? ⟨yb, 0, none⟩ = some (.slice (some ⟨yg, 0, none⟩) m ycp) ∧ w7.cell? ⟨yg, j, none⟩ = some (.int .u64 v) := ⟨r6, r7 _ _ yj⟩))
            all_goals go_wp2
            all_goals go_roundw
            case rel => exact ⟨j + 1, by omega, by omega, by go_num, s1.load j, r5, r2, by simp [St.load, St.tell]; omega⟩
            case measure => simp [intOf]; omega
          case neg =>
            have hmin : min (m : Int) 100 = j := by omega
            have hge : decide ((j : Int) ≤ s1.l.length) = true := by simp; omega
            have hj' : ¬ j < m ∨ (j < m ∧ ¬ j < 100) := by omega
            clear hj yw y1 y2
            rcases hj' with hj1 | ⟨hj1, hj2⟩
            all_goals
              go_wp2_with (go_at_call 21; refine (p1Take r1).mono ?_; rintro e w9 ⟨ao9, cp9, rfl, r9, _, _⟩; obtain ⟨yg', ycp', y0', _, _, _⟩ := r9.cells2; rw [h8] at y0')
              go_ret
              exact ⟨by simp; try omega, r9.bel⟩
    obtain ⟨hlt, h80⟩ := hgo
    rcases hl with hl0 | ⟨b, off, rfl, hl⟩
    · exact absurd hl0 (by omega)
    have L := hl.on ho.bel
    have l0 := L.c0 k hlt
    have l1 := L.c1 k hlt
    have l2 := L.c2 k hlt
    have l3 := L.c3 k hlt
    have l4 := L.c4 k hlt
    have l5 := L.c5 k hlt
    have lf := L.fit k hlt
    generalize z k = q at l0 l1 l2 l3 l4 l5 lf
    clear L hl z
    have hkb := kd_bounds q.k 8 (by decide)
    have hcase : kd q.k 8 = 0 ∨ kd q.k 8 = 1 ∨ kd q.k 8 = 2 ∨ kd q.k 8 = 3 ∨ kd q.k 8 = 4 ∨ kd q.k 8 = 5 ∨ kd q.k 8 = 6 ∨ (kd q.k 8 = 7 ∧ q.a % 2 ≠ 0) ∨ (kd q.k 8 = 7 ∧ q.a % 2 = 0) := by omega
    clear hkb
    rcases hcase with hK | hK | hK | hK | hK | hK | hK | ⟨hK, hA⟩ | ⟨hK, hA⟩
    · as_aux_lemma =>
        go_wp2_with (go_at_call 11; refine (kHandP (q := q) ho q.k lf.k0 lf.k1 (by decide)).mono ?_; rintro e w3 ⟨rfl, o3, v3⟩; rw [hK]; have v3c := opv_cells v3; obtain ⟨d0, d1, d2, d3, d4, d5⟩ := v3c)
        have S0 : w3.drew.cell? ⟨wo.heap.size, 1, none⟩ = some (.int .i64 q.a) := d1
        go_region_held3 (fun w' => w'.cell? ⟨wo.heap.size, 1, none⟩ = some (.int .i64 q.a)) (first | assumption)
          (first
            | (go_at_call 12; refine (p1Load o3.drew (by omega) q.a).mono ?_; rintro e w5 ⟨rfl, o5, t5⟩; have v5 := t5 _ _ _ _ (by decide) v3; have v5c := opv_cells v5; obtain ⟨e0, e1, e2, e3, e4, e5⟩ := v5c; have S5 : w5.cell? ⟨wo.heap.size, 1, none⟩ = some (.int .i64 q.a) := e1)
            | (go_at_call 13; refine (p2RLoad o5 (by omega) q.a).mono ?_; rintro e w6 ⟨rfl, o6, t6⟩; have v6 := t6 _ _ _ _ (by decide) v5; have v6c := opv_cells v6; obtain ⟨f0, f1, f2, f3, f4, f5⟩ := v6c; have S6 : w6.cell? ⟨wo.heap.size, 1, none⟩ = some (.int .i64 q.a) := f1))
        go_wp2
        have hn6 : (s.load q.a).ws.length = m := (St.n_load _ _).trans h8
        generalize s.load q.a = s' at o6 hn6
        clear o5 t5 t6 o3
        obtain ⟨yg, ycp, y0, y1, y2, yw⟩ := o6.cells2
        rw [hn6] at y0
        clear yw
        go_quiet ((first
          | (go_at_call 24; exact Calls.quiet_of_same (oCount (o6.one.drewN _)))
          | (go_at_call 25; exact Calls.quiet_of_same (oTraps (o6.one.drewN _)))
          | (go_at_call 26; exact Calls.quiet_of_same (hn6 ▸ oLen (o6.one.drewN _)))))
        go_wp2
        go_roundw
        case rel => exact ⟨k + 1, by omega, by omega, by go_num, mb, s', rfl, o6.drewN _, hn6⟩
        case measure => simp [intOf]; omega
    · as_aux_lemma =>
        go_wp2_with (go_at_call 11; refine (kHandP (q := q) ho q.k lf.k0 lf.k1 (by decide)).mono ?_; rintro e w3 ⟨rfl, o3, v3⟩; rw [hK]; have v3c := opv_cells v3; obtain ⟨d0, d1, d2, d3, d4, d5⟩ := v3c)
        have S0 : w3.drew.cell? ⟨wo.heap.size, 1, none⟩ = some (.int .i64 q.a) := d1
        go_region_held3 (fun w' => w'.cell? ⟨wo.heap.size, 1, none⟩ = some (.int .i64 q.a)) (first | assumption)
          (first
            | (go_at_call 12; refine (p1Load o3.drew (by omega) q.a).mono ?_; rintro e w5 ⟨rfl, o5, t5⟩; have v5 := t5 _ _ _ _ (by decide) v3; have v5c := opv_cells v5; obtain ⟨e0, e1, e2, e3, e4, e5⟩ := v5c; have S5 : w5.cell? ⟨wo.heap.size, 1, none⟩ = some (.int .i64 q.a) := e1)
            | (go_at_call 13; refine (p2RLoad o5 (by omega) q.a).mono ?_; rintro e w6 ⟨rfl, o6, t6⟩; have v6 := t6 _ _ _ _ (by decide) v5; have v6c := opv_cells v6; obtain ⟨f0, f1, f2, f3, f4, f5⟩ := v6c; have S6 : w6.cell? ⟨wo.heap.size, 1, none⟩ = some (.int .i64 q.a) := f1))
        go_wp2
        have hn6 : (s.load q.a).ws.length = m := (St.n_load _ _).trans h8
        generalize s.load q.a = s' at o6 hn6
        clear o5 t5 t6 o3
        obtain ⟨yg, ycp, y0, y1, y2, yw⟩ := o6.cells2
        rw [hn6] at y0
        clear yw
        go_quiet ((first
          | (go_at_call 24; exact Calls.quiet_of_same (oCount (o6.one.drewN _)))
          | (go_at_call 25; exact Calls.quiet_of_same (oTraps (o6.one.drewN _)))
          | (go_at_call 26; exact Calls.quiet_of_same (hn6 ▸ oLen (o6.one.drewN _)))))
        go_wp2
        go_roundw
        case rel => exact ⟨k + 1, by omega, by omega, by go_num, mb, s', rfl, o6.drewN _, hn6⟩
        case measure => simp [intOf]; omega
    · as_aux_lemma =>
        go_wp2_with (first
          | (go_at_call 11; refine (kHandP (q := q) ho q.k lf.k0 lf.k1 (by decide)).mono ?_; rintro e w3 ⟨rfl, o3, v3⟩; rw [hK]; have v3c := opv_cells v3; obtain ⟨d0, d1, d2, d3, d4, d5⟩ := v3c)
          | (go_at_call 14; refine (p1Store o3 (by omega) q.a q.x).mono ?_; rintro e w5 ⟨rfl, o5, t5⟩; have v5 := t5 _ _ _ _ (by decide) v3; have v5c := opv_cells v5; obtain ⟨e0, e1, e2, e3, e4, e5⟩ := v5c)
          | (go_at_call 15; refine (p2RStore o5 (by omega) q.a q.x).mono ?_; rintro e w6 ⟨rfl, o6, t6⟩))
        have hn6 : (s.store q.a q.x).ws.length = m := (St.n_store _ _ _).trans h8
        generalize s.store q.a q.x = s' at o6 hn6
        clear o5 t5 t6 o3
        obtain ⟨yg, ycp, y0, y1, y2, yw⟩ := o6.cells2
        rw [hn6] at y0
        clear yw
        go_quiet ((first
          | (go_at_call 24; exact Calls.quiet_of_same (oCount (o6.one.drewN _)))
          | (go_at_call 25; exact Calls.quiet_of_same (oTraps (o6.one.drewN _)))
          | (go_at_call 26; exact Calls.quiet_of_same (hn6 ▸ oLen (o6.one.drewN _)))))
        go_wp2
        go_roundw
        case rel => exact ⟨k + 1, by omega, by omega, by go_num, mb, s', rfl, o6.drewN _, hn6⟩
        case measure => simp [intOf]; omega
    · as_aux_lemma =>
        go_wp2_with (go_at_call 11; refine (kHandP (q := q) ho q.k lf.k0 lf.k1 (by decide)).mono ?_; rintro e w3 ⟨rfl, o3, v3⟩; rw [hK]; have v3c := opv_cells v3; obtain ⟨d0, d1, d2, d3, d4, d5⟩ := v3c)
        have S0 : w3.drew.cell? ⟨wo.heap.size, 1, none⟩ = some (.int .i64 q.a) ∧ w3.drew.cell? ⟨wo.heap.size, 2, none⟩ = some (.int .u64 q.x) ∧ w3.drew.cell? ⟨wo.heap.size, 4, none⟩ = some (.int .u64 q.y) := ⟨d1, d2, d4⟩
        go_region_held3 (fun w' => w'.cell? ⟨wo.heap.size, 1, none⟩ = some (.int .i64 q.a) ∧ w'.cell? ⟨wo.heap.size, 2, none⟩ = some (.int .u64 q.x) ∧ w'.cell? ⟨wo.heap.size, 4, none⟩ = some (.int .u64 q.y)) (first | assumption)
          (first
            | (go_at_call 16; refine (p1CAS o3.drew (by omega) q.a q.x q.y).mono ?_; rintro e w5 ⟨rfl, o5, t5⟩; have v5 := t5 _ _ _ _ (by decide) v3; have v5c := opv_cells v5; obtain ⟨e0, e1, e2, e3, e4, e5⟩ := v5c; have S5 : w5.cell? ⟨wo.heap.size, 1, none⟩ = some (.int .i64 q.a) ∧ w5.cell? ⟨wo.heap.size, 2, none⟩ = some (.int .u64 q.x) ∧ w5.cell? ⟨wo.heap.size, 4, none⟩ = some (.int .u64 q.y) := ⟨e1, e2, e4⟩)
            | (go_at_call 17; refine (p2RCAS o5 (by omega) q.a q.x q.y).mono ?_; rintro e w6 ⟨rfl, o6, t6⟩; have v6 := t6 _ _ _ _ (by decide) v5; have v6c := opv_cells v6; obtain ⟨f0, f1, f2, f3, f4, f5⟩ := v6c; have S6 : w6.cell? ⟨wo.heap.size, 1, none⟩ = some (.int .i64 q.a) ∧ w6.cell? ⟨wo.heap.size, 2, none⟩ = some (.int .u64 q.x) ∧ w6.cell? ⟨wo.heap.size, 4, none⟩ = some (.int .u64 q.y) := ⟨f1, f2, f4⟩))
        go_wp2
        have hn6 : (s.cas q.a q.x q.y).ws.length = m := (St.n_cas _ _ _ _).trans h8
        generalize s.cas q.a q.x q.y = s' at o6 hn6
        clear o5 t5 t6 o3
        obtain ⟨yg, ycp, y0, y1, y2, yw⟩ := o6.cells2
        rw [hn6] at y0
        clear yw
        go_quiet ((first
          | (go_at_call 24; exact Calls.quiet_of_same (oCount (o6.one.drewN _)))
          | (go_at_call 25; exact Calls.quiet_of_same (oTraps (o6.one.drewN _)))
          | (go_at_call 26; exact Calls.quiet_of_same (hn6 ▸ oLen (o6.one.drewN _)))))
        go_wp2
        go_roundw
        case rel => exact ⟨k + 1, by omega, by omega, by go_num, mb, s', rfl, o6.drewN _, hn6⟩
        case measure => simp [intOf]; omega
    · as_aux_lemma =>
        go_wp2_with (go_at_call 11; refine (kHandP (q := q) ho q.k lf.k0 lf.k1 (by decide)).mono ?_; rintro e w3 ⟨rfl, o3, v3⟩; rw [hK]; have v3c := opv_cells v3; obtain ⟨d0, d1, d2, d3, d4, d5⟩ := v3c)
        have S0 : w3.drew.cell? ⟨wo.heap.size, 1, none⟩ = some (.int .i64 q.a) ∧ w3.drew.cell? ⟨wo.heap.size, 2, none⟩ = some (.int .u64 q.x) ∧ w3.drew.cell? ⟨wo.heap.size, 4, none⟩ = some (.int .u64 q.y) := ⟨d1, d2, d4⟩
        go_region_held3 (fun w' => w'.cell? ⟨wo.heap.size, 1, none⟩ = some (.int .i64 q.a) ∧ w'.cell? ⟨wo.heap.size, 2, none⟩ = some (.int .u64 q.x) ∧ w'.cell? ⟨wo.heap.size, 4, none⟩ = some (.int .u64 q.y)) (first | assumption)
          (first
            | (go_at_call 16; refine (p1CAS o3.drew (by omega) q.a q.x q.y).mono ?_; rintro e w5 ⟨rfl, o5, t5⟩; have v5 := t5 _ _ _ _ (by decide) v3; have v5c := opv_cells v5; obtain ⟨e0, e1, e2, e3, e4, e5⟩ := v5c; have S5 : w5.cell? ⟨wo.heap.size, 1, none⟩ = some (.int .i64 q.a) ∧ w5.cell? ⟨wo.heap.size, 2, none⟩ = some (.int .u64 q.x) ∧ w5.cell? ⟨wo.heap.size, 4, none⟩ = some (.int .u64 q.y) := ⟨e1, e2, e4⟩)
            | (go_at_call 17; refine (p2RCAS o5 (by omega) q.a q.x q.y).mono ?_; rintro e w6 ⟨rfl, o6, t6⟩; have v6 := t6 _ _ _ _ (by decide) v5; have v6c := opv_cells v6; obtain ⟨f0, f1, f2, f3, f4, f5⟩ := v6c; have S6 : w6.cell? ⟨wo.heap.size, 1, none⟩ = some (.int .i64 q.a) ∧ w6.cell? ⟨wo.heap.size, 2, none⟩ = some (.int .u64 q.x) ∧ w6.cell? ⟨wo.heap.size, 4, none⟩ = some (.int .u64 q.y) := ⟨f1, f2, f4⟩))
        go_wp2
        have hn6 : (s.cas q.a q.x q.y).ws.length = m := (St.n_cas _ _ _ _).trans h8
        generalize s.cas q.a q.x q.y = s' at o6 hn6
        clear o5 t5 t6 o3
        obtain ⟨yg, ycp, y0, y1, y2, yw⟩ := o6.cells2
        rw [hn6] at y0
        clear yw
        go_quiet ((first
          | (go_at_call 24; exact Calls.quiet_of_same (oCount (o6.one.drewN _)))
          | (go_at_call 25; exact Calls.quiet_of_same (oTraps (o6.one.drewN _)))
          | (go_at_call 26; exact Calls.quiet_of_same (hn6 ▸ oLen (o6.one.drewN _)))))
        go_wp2
        go_roundw
        case rel => exact ⟨k + 1, by omega, by omega, by go_num, mb, s', rfl, o6.drewN _, hn6⟩
        case measure => simp [intOf]; omega
    · as_aux_lemma =>
        go_wp2_with (go_at_call 11; refine (kHandP (q := q) ho q.k lf.k0 lf.k1 (by decide)).mono ?_; rintro e w3 ⟨rfl, o3, v3⟩; rw [hK]; have v3c := opv_cells v3; obtain ⟨d0, d1, d2, d3, d4, d5⟩ := v3c)
        have S0 : w3.drew.cell? ⟨wo.heap.size, 1, none⟩ = some (.int .i64 q.a) ∧ w3.drew.cell? ⟨wo.heap.size, 2, none⟩ = some (.int .u64 q.x) ∧ w3.drew.cell? ⟨wo.heap.size, 3, none⟩ = some (.int .u64 q.x1) ∧ w3.drew.cell? ⟨wo.heap.size, 4, none⟩ = some (.int .u64 q.y) ∧ w3.drew.cell? ⟨wo.heap.size, 5, none⟩ = some (.int .u64 q.y1) := ⟨d1, d2, d3, d4, d5⟩
        go_region_held3 (fun w' => w'.cell? ⟨wo.heap.size, 1, none⟩ = some (.int .i64 q.a) ∧ w'.cell? ⟨wo.heap.size, 2, none⟩ = some (.int .u64 q.x) ∧ w'.cell? ⟨wo.heap.size, 3, none⟩ = some (.int .u64 q.x1) ∧ w'.cell? ⟨wo.heap.size, 4, none⟩ = some (.int .u64 q.y) ∧ w'.cell? ⟨wo.heap.size, 5, none⟩ = some (.int .u64 q.y1)) (first | assumption)
          (first
            | (go_at_call 18; refine (p1CAS2 o3.drew (by omega) q.a q.x q.x1 q.y q.y1).mono ?_; rintro e w5 ⟨rfl, o5, t5⟩; have v5 := t5 _ _ _ _ (by decide) v3; have v5c := opv_cells v5; obtain ⟨e0, e1, e2, e3, e4, e5⟩ := v5c; have S5 : w5.cell? ⟨wo.heap.size, 1, none⟩ = some (.int .i64 q.a) ∧ w5.cell? ⟨wo.heap.size, 2, none⟩ = some (.int .u64 q.x) ∧ w5.cell? ⟨wo.heap.size, 3, none⟩ = some (.int .u64 q.x1) ∧ w5.cell? ⟨wo.heap.size, 4, none⟩ = some (.int .u64 q.y) ∧ w5.cell? ⟨wo.heap.size, 5, none⟩ = some (.int .u64 q.y1) := ⟨e1, e2, e3, e4, e5⟩)
            | (go_at_call 19; refine (p2RCAS2 o5 (by omega) q.a q.x q.x1 q.y q.y1).mono ?_; rintro e w6 ⟨rfl, o6, t6⟩; have v6 := t6 _ _ _ _ (by decide) v5; have v6c := opv_cells v6; obtain ⟨f0, f1, f2, f3, f4, f5⟩ := v6c; have S6 : w6.cell? ⟨wo.heap.size, 1, none⟩ = some (.int .i64 q.a) ∧ w6.cell? ⟨wo.heap.size, 2, none⟩ = some (.int .u64 q.x) ∧ w6.cell? ⟨wo.heap.size, 3, none⟩ = some (.int .u64 q.x1) ∧ w6.cell? ⟨wo.heap.size, 4, none⟩ = some (.int .u64 q.y) ∧ w6.cell? ⟨wo.heap.size, 5, none⟩ = some (.int .u64 q.y1) := ⟨f1, f2, f3, f4, f5⟩))
        go_wp2
        have hn6 : (s.cas2 q.a q.x q.x1 q.y q.y1).ws.length = m := (St.n_cas2 _ _ _ _ _ _).trans h8
        generalize s.cas2 q.a q.x q.x1 q.y q.y1 = s' at o6 hn6
        clear o5 t5 t6 o3
        obtain ⟨yg, ycp, y0, y1, y2, yw⟩ := o6.cells2
        rw [hn6] at y0
        clear yw
        go_quiet ((first
          | (go_at_call 24; exact Calls.quiet_of_same (oCount (o6.one.drewN _)))
          | (go_at_call 25; exact Calls.quiet_of_same (oTraps (o6.one.drewN _)))
          | (go_at_call 26; exact Calls.quiet_of_same (hn6 ▸ oLen (o6.one.drewN _)))))
        go_wp2
        go_roundw
        case rel => exact ⟨k + 1, by omega, by omega, by go_num, mb, s', rfl, o6.drewN _, hn6⟩
        case measure => simp [intOf]; omega
    · as_aux_lemma =>
        go_wp2_with (go_at_call 11; refine (kHandP (q := q) ho q.k lf.k0 lf.k1 (by decide)).mono ?_; rintro e w3 ⟨rfl, o3, v3⟩; rw [hK]; have v3c := opv_cells v3; obtain ⟨d0, d1, d2, d3, d4, d5⟩ := v3c)
        have S0 : w3.drew.cell? ⟨wo.heap.size, 1, none⟩ = some (.int .i64 q.a) ∧ w3.drew.cell? ⟨wo.heap.size, 2, none⟩ = some (.int .u64 q.x) ∧ w3.drew.cell? ⟨wo.heap.size, 3, none⟩ = some (.int .u64 q.x1) ∧ w3.drew.cell? ⟨wo.heap.size, 4, none⟩ = some (.int .u64 q.y) ∧ w3.drew.cell? ⟨wo.heap.size, 5, none⟩ = some (.int .u64 q.y1) := ⟨d1, d2, d3, d4, d5⟩
        go_region_held3 (fun w' => w'.cell? ⟨wo.heap.size, 1, none⟩ = some (.int .i64 q.a) ∧ w'.cell? ⟨wo.heap.size, 2, none⟩ = some (.int .u64 q.x) ∧ w'.cell? ⟨wo.heap.size, 3, none⟩ = some (.int .u64 q.x1) ∧ w'.cell? ⟨wo.heap.size, 4, none⟩ = some (.int .u64 q.y) ∧ w'.cell? ⟨wo.heap.size, 5, none⟩ = some (.int .u64 q.y1)) (first | assumption)
          (first
            | (go_at_call 18; refine (p1CAS2 o3.drew (by omega) q.a q.x q.x1 q.y q.y1).mono ?_; rintro e w5 ⟨rfl, o5, t5⟩; have v5 := t5 _ _ _ _ (by decide) v3; have v5c := opv_cells v5; obtain ⟨e0, e1, e2, e3, e4, e5⟩ := v5c; have S5 : w5.cell? ⟨wo.heap.size, 1, none⟩ = some (.int .i64 q.a) ∧ w5.cell? ⟨wo.heap.size, 2, none⟩ = some (.int .u64 q.x) ∧ w5.cell? ⟨wo.heap.size, 3, none⟩ = some (.int .u64 q.x1) ∧ w5.cell? ⟨wo.heap.size, 4, none⟩ = some (.int .u64 q.y) ∧ w5.cell? ⟨wo.heap.size, 5, none⟩ = some (.int .u64 q.y1) := ⟨e1, e2, e3, e4, e5⟩)
            | (go_at_call 19; refine (p2RCAS2 o5 (by omega) q.a q.x q.x1 q.y q.y1).mono ?_; rintro e w6 ⟨rfl, o6, t6⟩; have v6 := t6 _ _ _ _ (by decide) v5; have v6c := opv_cells v6; obtain ⟨f0, f1, f2, f3, f4, f5⟩ := v6c; have S6 : w6.cell? ⟨wo.heap.size, 1, none⟩ = some (.int .i64 q.a) ∧ w6.cell? ⟨wo.heap.size, 2, none⟩ = some (.int .u64 q.x) ∧ w6.cell? ⟨wo.heap.size, 3, none⟩ = some (.int .u64 q.x1) ∧ w6.cell? ⟨wo.heap.size, 4, none⟩ = some (.int .u64 q.y) ∧ w6.cell? ⟨wo.heap.size, 5, none⟩ = some (.int .u64 q.y1) := ⟨f1, f2, f3, f4, f5⟩))
        go_wp2
        have hn6 : (s.cas2 q.a q.x q.x1 q.y q.y1).ws.length = m := (St.n_cas2 _ _ _ _ _ _).trans h8
        generalize s.cas2 q.a q.x q.x1 q.y q.y1 = s' at o6 hn6
        clear o5 t5 t6 o3
        obtain ⟨yg, ycp, y0, y1, y2, yw⟩ := o6.cells2
        rw [hn6] at y0
        clear yw
        go_quiet ((first
          | (go_at_call 24; exact Calls.quiet_of_same (oCount (o6.one.drewN _)))
          | (go_at_call 25; exact Calls.quiet_of_same (oTraps (o6.one.drewN _)))
          | (go_at_call 26; exact Calls.quiet_of_same (hn6 ▸ oLen (o6.one.drewN _)))))
        go_wp2
        go_roundw
        case rel => exact ⟨k + 1, by omega, by omega, by go_num, mb, s', rfl, o6.drewN _, hn6⟩
        case measure => simp [intOf]; omega
    · as_aux_lemma =>
        have hA' : (q.a.tmod 2 != 0) = true := by
          have h2 : q.a.tmod 2 ≠ 0 := fun h => hA (by have := Int.dvd_of_tmod_eq_zero h; omega)
          simpa using h2
        clear hA
        go_wp2_with (first
          | (go_at_call 11; refine (kHandP (q := q) ho q.k lf.k0 lf.k1 (by decide)).mono ?_; rintro e w3 ⟨rfl, o3, v3⟩; rw [hK]; have v3c := opv_cells v3; obtain ⟨d0, d1, d2, d3, d4, d5⟩ := v3c)
          | (go_at_call 20; refine (trioClone o3).mono ?_; rintro e w5 ⟨cb, rfl, o5⟩)
          | (go_at_call 14; refine (trioStore o5 (by omega) 0 99).mono ?_; rintro e w6 ⟨rfl, o6⟩)
          | (go_at_call 21; refine (trioTake o6).mono ?_; rintro e w7 ⟨v, rfl, o7⟩))
        go_roundw
        case rel => exact ⟨k + 1, by omega, by omega, by go_num, cb, s, rfl, o7.pair.mono (by omega) (by omega), h8⟩
        case measure => simp [intOf]; omega
    · as_aux_lemma =>
        have hA' : (q.a.tmod 2 != 0) = false := by
          have h2 : q.a.tmod 2 = 0 := Int.tmod_eq_zero_of_dvd (by omega)
          simp [h2]
        clear hA
        have hlc := ho.fit1.lc
        have hct := ho.top1
        go_wp2_with (first
          | (go_at_call 11; refine (kHandP (q := q) ho q.k lf.k0 lf.k1 (by decide)).mono ?_; rintro e w3 ⟨rfl, o3, v3⟩; rw [hK]; have v3c := opv_cells v3; obtain ⟨d0, d1, d2, d3, d4, d5⟩ := v3c)
          | (go_at_call 21; refine (looseTake1 o3).mono ?_; rintro e w4 ⟨ao4, cp4, rfl, o4, _⟩)
          | (go_at_call 22; refine (looseTake2 o4).mono ?_; rintro e w5 ⟨ao5, cp5, rfl, o5, r5, _⟩)
          | (go_at_call 23; refine (rSame (taken_of o5.row).2 (taken_of r5).2 (by omega) _ _).mono ?_; rintro e w6 ⟨rfl, hs6⟩; have o6 := o5.same hs6))
        clear o3 o4 o5 r5 hs6
        have hn6 : s.took.ws.length = m := h8
        generalize hs' : s.took = s' at o6 hn6
        clear hs'
        generalize s.l.length = n at o6 hlc ⊢
        go_loopw [16] (fun v wr2 => ∃ j : Nat, j ≤ n ∧ v = .int .i64 j ∧ ∃ xs, Loose w wr2 mb s' k yb s' k (.slice ao4 n cp4) n xs) (fun v _ => n - (intOf v).toNat)
        case atStart => exact ⟨0, Nat.zero_le _, rfl, _, o6⟩
        case round =>
          obtain ⟨j, hj, rfl, xs, p6⟩ := hrel
          by_cases hjn : j < n
          case pos =>
            obtain ⟨ao', cp', e1, e2⟩ := slice_of p6.row
            obtain ⟨g, e3⟩ := e2 (by omega)
            simp at e1
            obtain ⟨rfl, rfl⟩ := e1
            subst e3
            obtain ⟨v, hv⟩ := loose_cell p6.row hjn
            have fv := p6.row.frozenAt (j * 3 + 1)
            go_wp2
            obtain ⟨ys, p7⟩ := p6.put (j := j * 3 + 1) (.int .i64 7)
            go_roundw
            case rel => exact ⟨j + 1, by omega, by go_num, ys, p7⟩
            case measure => simp [intOf]; omega
          case neg =>
            go_wp2
            have o6 := p6.pair.mono (Nat.le_succ k) (Nat.le_succ k)
            obtain ⟨yg, ycp, y0, y1, y2, yw⟩ := o6.cells2
            rw [hn6] at y0
            clear yw
            go_quiet ((first
              | (go_at_call 24; exact Calls.quiet_of_same (oCount (o6.one.drewN _)))
              | (go_at_call 25; exact Calls.quiet_of_same (oTraps (o6.one.drewN _)))
              | (go_at_call 26; exact Calls.quiet_of_same (hn6 ▸ oLen (o6.one.drewN _)))))
            go_wp2
            go_roundw
            case rel => exact ⟨k + 1, by omega, by omega, by go_num, mb, s', rfl, o6.drewN _, hn6⟩
            case measure => simp [intOf]; omega
end Go.Proofs.Ytmidhhigopjkhaa
