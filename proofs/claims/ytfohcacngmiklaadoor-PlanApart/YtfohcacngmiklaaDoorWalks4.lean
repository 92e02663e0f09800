/-
  The walk of the law on all words of a plan: it returns true, and writes nothing that was there.
-/
import Derived.Test.YtfohcacngmiklaaDoorSeen
namespace Go.Proofs.YtfohcacngmiklaaDoor
set_option linter.unusedVariables false
open Go.ChangeShapes Go.WideShapes Go.ChangeAt Go.RowKit
open Plain

section
variable {w u : World} {q g n h m k : Nat} {T B D : Int}
theorem zAck (s : Sees w q g n T B D h m k u) (i : Nat) (hi : i ≤ 1000) :
    Calls Tryd.prog 20 #[.agg #[.int .i64 T, .int .i64 B, .int .i64 D, .int .i64 h, .int .i64 n], .int .i64 i] u fun e u' => ∃ z : Nat, e = .returned (.int .i64 z) ∧ z ≤ 10 + i ∧ 10 + i ≤ z ∧ Sees w q g n T B D h m k u' :=
  (cAck T B D h n i (by omega) (by omega) u).mono fun e u' ⟨he, hw⟩ => ⟨10 + i, by rw [he]; exact ret_int (by omega), Nat.le_refl _, Nat.le_refl _, s.on (hw ▸ bal (Below.refl _ _) _)⟩
theorem zEntry (s : Sees w q g n T B D h m k u) (F : Fits T B D h n) (i : Nat) (hi : i ≤ 200) (hT : T ≤ i) :
    Calls Tryd.prog 22 #[.agg #[.int .i64 T, .int .i64 B, .int .i64 D, .int .i64 h, .int .i64 n], .int .i64 ((i : Int) - T)] u fun e u' => ∃ z : Nat, e = .returned (.int .i64 z) ∧ z ≤ 10 + i ∧ 10 + i ≤ z ∧ Sees w q g n T B D h m k u' := by
  obtain ⟨t0, t1, b0, b1, d0, d1, g0, g1, g2, s0, s1⟩ := F
  exact (cEntry T B D h n ((i : Int) - T) (by omega) (by omega) (by omega) (by omega) u).mono fun e u' ⟨he, hw⟩ => ⟨10 + i, by rw [he]; exact ret_int (by omega), Nat.le_refl _, Nat.le_refl _, s.on (hw ▸ bal (Below.refl _ _) _)⟩
theorem zCell (s : Sees w q g n T B D h m k u) (W : Wid w) (F : Fits T B D h n) (i j d : Nat) (c : Int) (hd : wd c = d) (hi : i ≤ 100) (hj : j ≤ 100) :
    Calls Tryd.prog 24 #[.agg #[.int .i64 T, .int .i64 B, .int .i64 D, .int .i64 h, .int .i64 n], .int .i64 i, .int .i64 c, .int .i64 j] u fun e u' => ∃ z : Nat, e = .returned (.int .i64 z) ∧ z ≤ h + 32 * i + j * d ∧ h + 32 * i + j * d ≤ z ∧ Sees w q g n T B D h m k u' := by
  obtain ⟨t0, t1, b0, b1, d0, d1, g0, g1, g2, s0, s1⟩ := F
  exact (cCell T B D h n i c j (by omega) (by omega) (by omega) (by omega) (by omega) (by omega) u (W.on s.bel)).mono fun e u' ⟨he, hw⟩ => ⟨h + 32 * i + j * d, by rw [he, hd]; exact ret_int (by simp), Nat.le_refl _, Nat.le_refl _, s.on hw⟩
theorem zBlock (s : Sees w q g n T B D h m k u) (F : Fits T B D h n) (i z : Nat) (hi : (i : Int) < B) (h1 : h + 32 * i ≤ z) (h2 : z < h + 32 * i + 32) :
    Calls Tryd.prog 18 #[.agg #[.int .i64 T, .int .i64 B, .int .i64 D, .int .i64 h, .int .i64 n], .int .i64 z] u fun e u' => e = .returned (.int .i64 i) ∧ Sees w q g n T B D h m k u' := by
  obtain ⟨t0, t1, b0, b1, d0, d1, g0, g1, g2, s0, s1⟩ := F
  exact (cBlockI T B D h n z (by omega) (by omega) (by omega) (by omega) (by omega) (by omega) u).mono fun e u' ⟨he, hw⟩ => ⟨by rw [he]; exact ret_int (by omega), s.on (hw ▸ bal (Below.refl _ _) _)⟩
end

theorem ways5 (x : Int) : (∃ c, Int.tmod x 3 = c ∧ 0 ≤ c ∧ c ≤ 2) ∨ (∃ c, Int.tmod x 3 = -c ∧ 1 ≤ c ∧ c ≤ 2) := by
  by_cases h : 0 ≤ x
  · exact .inl ⟨_, rfl, by rw [Int.tmod_eq_emod_of_nonneg h]; omega, by rw [Int.tmod_eq_emod_of_nonneg h]; omega⟩
  · have e : Int.tmod x 3 = -((-x) % 3) := by
      rw [← Int.tmod_eq_emod_of_nonneg (by omega : 0 ≤ -x), Int.neg_tmod, Int.neg_neg]
    by_cases h0 : (-x) % 3 = 0
    · exact .inl ⟨0, by rw [e, h0]; rfl, by omega, by omega⟩
    · exact .inr ⟨(-x) % 3, e, by omega, by omega⟩

theorem sizes {c : Int} (c0 : 0 ≤ c) (c1 : c ≤ 2) : ∃ d e : Nat, wd c = d ∧ cs c = e ∧ d ≤ 16 ∧ e ≤ 8 ∧ (∀ j, j < e → j * d + d ≤ 32) ∧ e * d = 32 := by
  have : c = 0 ∨ c = 1 ∨ c = 2 := by omega
  rcases this with rfl | rfl | rfl
  · exact ⟨4, 8, rfl, rfl, by decide, by decide, fun j hj => by omega, rfl⟩
  · exact ⟨8, 4, rfl, rfl, by decide, by decide, fun j hj => by omega, rfl⟩
  · exact ⟨16, 2, rfl, rfl, by decide, by decide, fun j hj => by omega, rfl⟩

set_option maxRecDepth 100000 in
set_option maxHeartbeats 4000000 in
theorem wApart1 (t b x c : Int) (hc : Int.tmod x 3 = c) (c0 : 0 ≤ c) (c1' : c ≤ 2) (w : World) (W : Wid w) :
    Calls Tryd.prog 6 #[.int .i64 t, .int .i64 b, .int .i64 x] w fun e w' => e = .returned (.bool true) ∧ Below w.heap.size w w' := by
  obtain ⟨i0, hi, hz0, hz1, hz2⟩ := info_parts info4
  obtain ⟨X, hx, x0, x1⟩ := mask t
  obtain ⟨Y, hy, y0, y1⟩ := mask b
  go_enter Tryd.func6, Tryd.ntmps6
  go_wp2_with (first
    | (go_at_call 9; refine (cShown _ W).mono ?_; rintro e w1 ⟨rfl, hb1⟩)
    | (go_at_call 10; refine (gNew X Y x0 x1 y0 y1 _).mono ?_; rintro e w2 ⟨T, B, D, H, S, rfl, F, rfl⟩; obtain ⟨h, rfl⟩ : ∃ h : Nat, H = h := ⟨H.toNat, by have := F.h0; have := F.d0; have := F.t0; have := F.b0; omega⟩; obtain ⟨n, rfl⟩ : ∃ n : Nat, S = n := ⟨S.toNat, by have := F.s0; have := F.b0; omega⟩; have F' := F; obtain ⟨t0, t1, b0, b1, d0, d1, g0, g1, g2, s0, s1⟩ := F')
    | (at_make; refine wpList_make_full _ rfl _ _ 35 rfl 0 4 i0 (.bool false) 1 Tryd.underlying35 hi hz0 hz1 .i64 .i64 n n n rfl rfl rfl rfl ?b2 ?b3 ?b4 ?_))
  case b2 => rw [hz2]; omega
  case b3 => unfold maxLen; omega
  case b4 => omega
  intro v hown hg
  have s : Sees w (w1.heap.size + 1) (w1.heap.size + 1 + 1) n T B D h 0 h v := by
    have := made_sees (w := w) (q := w1.heap.size + 1) (T := T) (B := B) (D := D) (h := h) (n := n) (bal (bal hb1 _) _) ⟨by simp, by go_cell, by go_cell, by go_cell, by go_cell, by go_cell⟩ (by simpa using hown) hg
    simpa using this
  clear hown hg hi hz0 hz1 hz2 hx hy x0 x1 y0 y1 hc
  obtain ⟨d, e, hd, he, d16, e8, st, hde⟩ := sizes c0 c1'
  go_wp2
  go_loopw [12] (fun i wr => ∃ k : Nat, k ≤ 10 ∧ i = .int .i64 k ∧ Sees w (w1.heap.size + 1) (w1.heap.size + 1 + 1) n T B D h k h wr) (fun i _ => 10 - (intOf i).toNat)
  case atStart => exact ⟨0, by omega, rfl, s⟩
  case round =>
    obtain ⟨k, hk, rfl, s⟩ := hrel
    obtain ⟨wo, rfl⟩ : ∃ wo : World, wo = wr := ⟨_, rfl⟩
    by_cases hlt : k < 10
    case pos =>
      have kn : k < n := by omega
      have sc := s.cell k kn
      have sf := s.free k
      have s' := s.set (m' := k + 1) (k' := h) k (sn_t (by omega)) (fun i _ hi => sn_eq (by omega))
      clear s
      go_wp2
      go_roundw
      case rel => exact ⟨k + 1, by omega, by go_num, s'⟩
      case measure => simp [intOf]; omega
    case neg =>
      have s' := s.same (m' := 10) (k' := h) fun _ _ => sn_eq (by omega)
      clear s
      go_wp2
      go_loopw [13] (fun i wr => ∃ k : Nat, (k : Int) ≤ T + B ∧ i = .int .i64 k ∧ Sees w (w1.heap.size + 1) (w1.heap.size + 1 + 1) n T B D h (10 + k) h wr) (fun i _ => (T + B).toNat - (intOf i).toNat)
      case atStart => exact ⟨0, by omega, rfl, s'⟩
      case round =>
        clear s'
        obtain ⟨k, hk, rfl, s⟩ := hrel
        obtain ⟨wo, rfl⟩ : ∃ wo : World, wo = wr := ⟨_, rfl⟩
        obtain ⟨p0, p1, p2, p3, p4⟩ := s.plan
        by_cases hlt : (k : Int) < T + B
        case pos =>
          by_cases hT : T ≤ (k : Int)
          case pos =>
            go_wp2_with (first
              | (have s2' := s2; go_at_call 22; refine (zEntry s2 F k (by omega) hT).mono ?_; rintro e u3 ⟨z, rfl, z1, z2, s3⟩; obtain ⟨r0, r1, r2, r3, r4⟩ := s3.plan; have z3 : z < n := by omega
                 have z4 : (z : Int) < h := by omega
                 have sc := s3.cell z z3; rw [sn_f (by omega)] at sc; have sf := s3.free z)
              | (go_at_call 20; refine (zAck s k (by omega)).mono ?_; rintro e u2 ⟨y, rfl, y1, y2, s2⟩; obtain ⟨q0, q1, q2, q3, q4⟩ := s2.plan))
            have s' := s3.set (m' := 10 + (k + 1)) (k' := h) z (sn_t (by omega)) (fun i _ hi => sn_eq (by omega))
            go_roundw
            case rel => exact ⟨k + 1, by omega, by go_num, s'⟩
            case measure => simp [intOf]; omega
          case neg =>
            go_wp2_with (go_at_call 20; refine (zAck s k (by omega)).mono ?_; rintro e u3 ⟨z, rfl, z1, z2, s3⟩; obtain ⟨r0, r1, r2, r3, r4⟩ := s3.plan; have z3 : z < n := by omega
                         have z4 : (z : Int) < h := by omega
                         have sc := s3.cell z z3; rw [sn_f (by omega)] at sc; have sf := s3.free z)
            have s' := s3.set (m' := 10 + (k + 1)) (k' := h) z (sn_t (by omega)) (fun i _ hi => sn_eq (by omega))
            go_roundw
            case rel => exact ⟨k + 1, by omega, by go_num, s'⟩
            case measure => simp [intOf]; omega
        case neg =>
          obtain ⟨M, hM, hM'⟩ : ∃ M, M = 10 + k ∧ M ≤ h := ⟨_, rfl, by omega⟩
          rw [← hM] at s
          clear hM
          go_wp2
          go_loopw [15] (fun i wr => ∃ i' : Nat, (i' : Int) ≤ B ∧ i = .int .i64 i' ∧ Sees w (w1.heap.size + 1) (w1.heap.size + 1 + 1) n T B D h M (h + 32 * i') wr) (fun i _ => B.toNat - (intOf i).toNat)
          case atStart => exact ⟨0, by omega, rfl, s⟩
          case round =>
            clear s p0 p1 p2 p3 p4
            obtain ⟨i, hi, rfl, s⟩ := hrel
            obtain ⟨wo, rfl⟩ : ∃ wo : World, wo = wr := ⟨_, rfl⟩
            obtain ⟨p0, p1, p2, p3, p4⟩ := s.plan
            by_cases hlt : (i : Int) < B
            case pos =>
              go_wp2
              go_loopw [16] (fun i' wr => ∃ j : Nat, j ≤ e ∧ i' = .int .i64 j ∧ Sees w (w1.heap.size + 1) (w1.heap.size + 1 + 1) n T B D h M (h + 32 * i + j * d) wr) (fun i _ => e - (intOf i).toNat)
              case atStart => exact ⟨0, by omega, rfl, s.same fun _ _ => by rw [Nat.zero_mul, Nat.add_zero]⟩
              case round =>
                clear s p0 p1 p2 p3 p4
                obtain ⟨j, hj, rfl, s⟩ := hrel
                obtain ⟨wo, rfl⟩ : ∃ wo : World, wo = wr := ⟨_, rfl⟩
                obtain ⟨p0, p1, p2, p3, p4⟩ := s.plan
                by_cases hlj : j < e
                case pos =>
                  have st' := st j hlj
                  go_wp2_with (go_at_call 14; refine (cCells c _ (W.on s.bel)).mono ?_; rintro e' w2 ⟨rfl, hw⟩; rw [hw]; clear hw)
                  go_loopw [17] (fun i' wr => ∃ v : Nat, v ≤ d ∧ i' = .int .i64 v ∧ Sees w (w1.heap.size + 1) (w1.heap.size + 1 + 1) n T B D h M (h + 32 * i + j * d + v) wr) (fun i _ => d - (intOf i).toNat)
                  case atStart => exact ⟨0, by omega, rfl, s⟩
                  case round =>
                    clear s p0 p1 p2 p3 p4
                    obtain ⟨v, hv, rfl, s⟩ := hrel
                    obtain ⟨wo, rfl⟩ : ∃ wo : World, wo = wr := ⟨_, rfl⟩
                    obtain ⟨p0, p1, p2, p3, p4⟩ := s.plan
                    by_cases hlv : v < d
                    case pos =>
                      go_wp2_with (first
                        | (go_at_call 12; refine (cWords c _ (W.on s.bel)).mono ?_; rintro e' w2 ⟨rfl, hw⟩; rw [hw]; clear hw)
                        | (go_at_call 24; refine (zCell s W F i j d c hd (by omega) (by omega)).mono ?_; rintro e' u2 ⟨y, rfl, y1, y2, s2⟩; obtain ⟨q0, q1, q2, q3, q4⟩ := s2.plan
                           obtain ⟨z, hz⟩ : ∃ z : Nat, (y : Int) + (v : Int) = z := ⟨y + v, by omega⟩
                           have z1 : h + 32 * i ≤ z := by omega
                           have z2 : z < h + 32 * i + 32 := by omega
                           have z3 : z < n := by omega
                           have z4 : (h : Int) ≤ z := by omega
                           have z5 : (z : Int) < n := by omega
                           have sc := s2.cell z z3; rw [sn_f (by omega)] at sc)
                        | (go_at_call 18; refine (zBlock s2 F i z hlt z1 z2).mono ?_; rintro e' u3 ⟨rfl, s3⟩; have sc3 := s3.cell z z3; have sf := s3.free z))
                      have s' := s3.set (m' := M) (k' := h + 32 * i + j * d + (v + 1)) z (sn_t (by omega)) (fun i' _ hi => sn_eq (by omega))
                      go_roundw
                      case rel => exact ⟨v + 1, by omega, by go_num, s'⟩
                      case measure => simp [intOf]; omega
                    case neg =>
                      have hp : (j + 1) * d = j * d + d := Nat.succ_mul j d
                      have s' := s.same (m' := M) (k' := h + 32 * i + (j + 1) * d) fun _ _ => sn_eq (by omega)
                      clear s hp
                      go_wp2_with (go_at_call 12; refine (cWords c _ (W.on s'.bel)).mono ?_; rintro e' w2 ⟨rfl, hw⟩; rw [hw]; clear hw)
                      go_roundw
                      case rel => exact ⟨j + 1, by omega, by go_num, s'⟩
                      case measure => simp [intOf]; omega
                case neg =>
                  have hp : j * d = 32 := by rw [show j = e by omega]; exact hde
                  have s' := s.same (m' := M) (k' := h + 32 * (i + 1)) fun _ _ => sn_eq (by omega)
                  clear s hp
                  go_wp2_with (go_at_call 14; refine (cCells c _ (W.on s'.bel)).mono ?_; rintro e' w2 ⟨rfl, hw⟩; rw [hw]; clear hw)
                  go_roundw
                  case rel => exact ⟨i + 1, by omega, by go_num, s'⟩
                  case measure => simp [intOf]; omega
            case neg =>
              have s' := s.same (m' := M) (k' := n) fun _ _ => sn_eq (by omega)
              clear s
              go_wp2
              go_loop [19] (fun i' => ∃ a : Nat, h ≤ a ∧ a ≤ n ∧ i' = .int .i64 a) (fun i => n - (intOf i).toNat)
              case atStart => exact ⟨h, by omega, by omega, rfl⟩
              case round =>
                obtain ⟨a, ha, ha', rfl⟩ := hrel
                by_cases hla : a < n
                case pos =>
                  have sc := s'.cell a hla
                  rw [sn_t (by omega)] at sc
                  go_wp2
                  go_round
                  case rel => exact ⟨a + 1, by omega, by omega, by go_num⟩
                  case measure => simp [intOf]; omega
                case neg =>
                  go_wp2
                  go_ret
                  exact ⟨rfl, s'.bel⟩

set_option maxRecDepth 100000 in
set_option maxHeartbeats 4000000 in
theorem wApart2 (t b x c : Int) (hc : Int.tmod x 3 = -c) (c0' : 1 ≤ c) (c1' : c ≤ 2) (w : World) (W : Wid w) :
    Calls Tryd.prog 6 #[.int .i64 t, .int .i64 b, .int .i64 x] w fun e w' => e = .returned (.bool true) ∧ Below w.heap.size w w' := by
  have c0 : 0 ≤ c := by omega
  obtain ⟨i0, hi, hz0, hz1, hz2⟩ := info_parts info4
  obtain ⟨X, hx, x0, x1⟩ := mask t
  obtain ⟨Y, hy, y0, y1⟩ := mask b
  go_enter Tryd.func6, Tryd.ntmps6
  go_wp2_with (first
    | (go_at_call 9; refine (cShown _ W).mono ?_; rintro e w1 ⟨rfl, hb1⟩)
    | (go_at_call 10; refine (gNew X Y x0 x1 y0 y1 _).mono ?_; rintro e w2 ⟨T, B, D, H, S, rfl, F, rfl⟩; obtain ⟨h, rfl⟩ : ∃ h : Nat, H = h := ⟨H.toNat, by have := F.h0; have := F.d0; have := F.t0; have := F.b0; omega⟩; obtain ⟨n, rfl⟩ : ∃ n : Nat, S = n := ⟨S.toNat, by have := F.s0; have := F.b0; omega⟩; have F' := F; obtain ⟨t0, t1, b0, b1, d0, d1, g0, g1, g2, s0, s1⟩ := F')
    | (at_make; refine wpList_make_full _ rfl _ _ 35 rfl 0 4 i0 (.bool false) 1 Tryd.underlying35 hi hz0 hz1 .i64 .i64 n n n rfl rfl rfl rfl ?b2 ?b3 ?b4 ?_))
  case b2 => rw [hz2]; omega
  case b3 => unfold maxLen; omega
  case b4 => omega
  intro v hown hg
  have s : Sees w (w1.heap.size + 1) (w1.heap.size + 1 + 1) n T B D h 0 h v := by
    have := made_sees (w := w) (q := w1.heap.size + 1) (T := T) (B := B) (D := D) (h := h) (n := n) (bal (bal hb1 _) _) ⟨by simp, by go_cell, by go_cell, by go_cell, by go_cell, by go_cell⟩ (by simpa using hown) hg
    simpa using this
  clear hown hg hi hz0 hz1 hz2 hx hy x0 x1 y0 y1 hc
  obtain ⟨d, e, hd, he, d16, e8, st, hde⟩ := sizes c0 c1'
  go_wp2
  go_loopw [12] (fun i wr => ∃ k : Nat, k ≤ 10 ∧ i = .int .i64 k ∧ Sees w (w1.heap.size + 1) (w1.heap.size + 1 + 1) n T B D h k h wr) (fun i _ => 10 - (intOf i).toNat)
  case atStart => exact ⟨0, by omega, rfl, s⟩
  case round =>
    obtain ⟨k, hk, rfl, s⟩ := hrel
    obtain ⟨wo, rfl⟩ : ∃ wo : World, wo = wr := ⟨_, rfl⟩
    by_cases hlt : k < 10
    case pos =>
      have kn : k < n := by omega
      have sc := s.cell k kn
      have sf := s.free k
      have s' := s.set (m' := k + 1) (k' := h) k (sn_t (by omega)) (fun i _ hi => sn_eq (by omega))
      clear s
      go_wp2
      go_roundw
      case rel => exact ⟨k + 1, by omega, by go_num, s'⟩
      case measure => simp [intOf]; omega
    case neg =>
      have s' := s.same (m' := 10) (k' := h) fun _ _ => sn_eq (by omega)
      clear s
      go_wp2
      go_loopw [13] (fun i wr => ∃ k : Nat, (k : Int) ≤ T + B ∧ i = .int .i64 k ∧ Sees w (w1.heap.size + 1) (w1.heap.size + 1 + 1) n T B D h (10 + k) h wr) (fun i _ => (T + B).toNat - (intOf i).toNat)
      case atStart => exact ⟨0, by omega, rfl, s'⟩
      case round =>
        clear s'
        obtain ⟨k, hk, rfl, s⟩ := hrel
        obtain ⟨wo, rfl⟩ : ∃ wo : World, wo = wr := ⟨_, rfl⟩
        obtain ⟨p0, p1, p2, p3, p4⟩ := s.plan
        by_cases hlt : (k : Int) < T + B
        case pos =>
          by_cases hT : T ≤ (k : Int)
          case pos =>
            go_wp2_with (first
              | (have s2' := s2; go_at_call 22; refine (zEntry s2 F k (by omega) hT).mono ?_; rintro e u3 ⟨z, rfl, z1, z2, s3⟩; obtain ⟨r0, r1, r2, r3, r4⟩ := s3.plan; have z3 : z < n := by omega
                 have z4 : (z : Int) < h := by omega
                 have sc := s3.cell z z3; rw [sn_f (by omega)] at sc; have sf := s3.free z)
              | (go_at_call 20; refine (zAck s k (by omega)).mono ?_; rintro e u2 ⟨y, rfl, y1, y2, s2⟩; obtain ⟨q0, q1, q2, q3, q4⟩ := s2.plan))
            have s' := s3.set (m' := 10 + (k + 1)) (k' := h) z (sn_t (by omega)) (fun i _ hi => sn_eq (by omega))
            go_roundw
            case rel => exact ⟨k + 1, by omega, by go_num, s'⟩
            case measure => simp [intOf]; omega
          case neg =>
            go_wp2_with (go_at_call 20; refine (zAck s k (by omega)).mono ?_; rintro e u3 ⟨z, rfl, z1, z2, s3⟩; obtain ⟨r0, r1, r2, r3, r4⟩ := s3.plan; have z3 : z < n := by omega
                         have z4 : (z : Int) < h := by omega
                         have sc := s3.cell z z3; rw [sn_f (by omega)] at sc; have sf := s3.free z)
            have s' := s3.set (m' := 10 + (k + 1)) (k' := h) z (sn_t (by omega)) (fun i _ hi => sn_eq (by omega))
            go_roundw
            case rel => exact ⟨k + 1, by omega, by go_num, s'⟩
            case measure => simp [intOf]; omega
        case neg =>
          obtain ⟨M, hM, hM'⟩ : ∃ M, M = 10 + k ∧ M ≤ h := ⟨_, rfl, by omega⟩
          rw [← hM] at s
          clear hM
          go_wp2
          go_loopw [15] (fun i wr => ∃ i' : Nat, (i' : Int) ≤ B ∧ i = .int .i64 i' ∧ Sees w (w1.heap.size + 1) (w1.heap.size + 1 + 1) n T B D h M (h + 32 * i') wr) (fun i _ => B.toNat - (intOf i).toNat)
          case atStart => exact ⟨0, by omega, rfl, s⟩
          case round =>
            clear s p0 p1 p2 p3 p4
            obtain ⟨i, hi, rfl, s⟩ := hrel
            obtain ⟨wo, rfl⟩ : ∃ wo : World, wo = wr := ⟨_, rfl⟩
            obtain ⟨p0, p1, p2, p3, p4⟩ := s.plan
            by_cases hlt : (i : Int) < B
            case pos =>
              go_wp2
              go_loopw [16] (fun i' wr => ∃ j : Nat, j ≤ e ∧ i' = .int .i64 j ∧ Sees w (w1.heap.size + 1) (w1.heap.size + 1 + 1) n T B D h M (h + 32 * i + j * d) wr) (fun i _ => e - (intOf i).toNat)
              case atStart => exact ⟨0, by omega, rfl, s.same fun _ _ => by rw [Nat.zero_mul, Nat.add_zero]⟩
              case round =>
                clear s p0 p1 p2 p3 p4
                obtain ⟨j, hj, rfl, s⟩ := hrel
                obtain ⟨wo, rfl⟩ : ∃ wo : World, wo = wr := ⟨_, rfl⟩
                obtain ⟨p0, p1, p2, p3, p4⟩ := s.plan
                by_cases hlj : j < e
                case pos =>
                  have st' := st j hlj
                  go_wp2_with (go_at_call 14; refine (cCells c _ (W.on s.bel)).mono ?_; rintro e' w2 ⟨rfl, hw⟩; rw [hw]; clear hw)
                  go_loopw [17] (fun i' wr => ∃ v : Nat, v ≤ d ∧ i' = .int .i64 v ∧ Sees w (w1.heap.size + 1) (w1.heap.size + 1 + 1) n T B D h M (h + 32 * i + j * d + v) wr) (fun i _ => d - (intOf i).toNat)
                  case atStart => exact ⟨0, by omega, rfl, s⟩
                  case round =>
                    clear s p0 p1 p2 p3 p4
                    obtain ⟨v, hv, rfl, s⟩ := hrel
                    obtain ⟨wo, rfl⟩ : ∃ wo : World, wo = wr := ⟨_, rfl⟩
                    obtain ⟨p0, p1, p2, p3, p4⟩ := s.plan
                    by_cases hlv : v < d
                    case pos =>
                      go_wp2_with (first
                        | (go_at_call 12; refine (cWords c _ (W.on s.bel)).mono ?_; rintro e' w2 ⟨rfl, hw⟩; rw [hw]; clear hw)
                        | (go_at_call 24; refine (zCell s W F i j d c hd (by omega) (by omega)).mono ?_; rintro e' u2 ⟨y, rfl, y1, y2, s2⟩; obtain ⟨q0, q1, q2, q3, q4⟩ := s2.plan
                           obtain ⟨z, hz⟩ : ∃ z : Nat, (y : Int) + (v : Int) = z := ⟨y + v, by omega⟩
                           have z1 : h + 32 * i ≤ z := by omega
                           have z2 : z < h + 32 * i + 32 := by omega
                           have z3 : z < n := by omega
                           have z4 : (h : Int) ≤ z := by omega
                           have z5 : (z : Int) < n := by omega
                           have sc := s2.cell z z3; rw [sn_f (by omega)] at sc)
                        | (go_at_call 18; refine (zBlock s2 F i z hlt z1 z2).mono ?_; rintro e' u3 ⟨rfl, s3⟩; have sc3 := s3.cell z z3; have sf := s3.free z))
                      have s' := s3.set (m' := M) (k' := h + 32 * i + j * d + (v + 1)) z (sn_t (by omega)) (fun i' _ hi => sn_eq (by omega))
                      go_roundw
                      case rel => exact ⟨v + 1, by omega, by go_num, s'⟩
                      case measure => simp [intOf]; omega
                    case neg =>
                      have hp : (j + 1) * d = j * d + d := Nat.succ_mul j d
                      have s' := s.same (m' := M) (k' := h + 32 * i + (j + 1) * d) fun _ _ => sn_eq (by omega)
                      clear s hp
                      go_wp2_with (go_at_call 12; refine (cWords c _ (W.on s'.bel)).mono ?_; rintro e' w2 ⟨rfl, hw⟩; rw [hw]; clear hw)
                      go_roundw
                      case rel => exact ⟨j + 1, by omega, by go_num, s'⟩
                      case measure => simp [intOf]; omega
                case neg =>
                  have hp : j * d = 32 := by rw [show j = e by omega]; exact hde
                  have s' := s.same (m' := M) (k' := h + 32 * (i + 1)) fun _ _ => sn_eq (by omega)
                  clear s hp
                  go_wp2_with (go_at_call 14; refine (cCells c _ (W.on s'.bel)).mono ?_; rintro e' w2 ⟨rfl, hw⟩; rw [hw]; clear hw)
                  go_roundw
                  case rel => exact ⟨i + 1, by omega, by go_num, s'⟩
                  case measure => simp [intOf]; omega
            case neg =>
              have s' := s.same (m' := M) (k' := n) fun _ _ => sn_eq (by omega)
              clear s
              go_wp2
              go_loop [19] (fun i' => ∃ a : Nat, h ≤ a ∧ a ≤ n ∧ i' = .int .i64 a) (fun i => n - (intOf i).toNat)
              case atStart => exact ⟨h, by omega, by omega, rfl⟩
              case round =>
                obtain ⟨a, ha, ha', rfl⟩ := hrel
                by_cases hla : a < n
                case pos =>
                  have sc := s'.cell a hla
                  rw [sn_t (by omega)] at sc
                  go_wp2
                  go_round
                  case rel => exact ⟨a + 1, by omega, by omega, by go_num⟩
                  case measure => simp [intOf]; omega
                case neg =>
                  go_wp2
                  go_ret
                  exact ⟨rfl, s'.bel⟩

theorem wApart (t b x : Int) (w : World) (W : Wid w) :
    Calls Tryd.prog 6 #[.int .i64 t, .int .i64 b, .int .i64 x] w fun e w' => e = .returned (.bool true) ∧ Below w.heap.size w w' := by
  rcases ways5 x with ⟨c, hc, c0, c1⟩ | ⟨c, hc, c0, c1⟩
  · exact wApart1 t b x c hc c0 c1 w W
  · exact wApart2 t b x c hc c0 c1 w W
end Go.Proofs.YtfohcacngmiklaaDoor
