/-
  The walk of the laws' function that does some calls.
-/
import Derived.Test.YtmidhhigopjkhaaSome
namespace Go.Proofs.Ytmidhhigopjkhaa
set_option linter.unusedVariables false
open Go.ChangeShapes Go.WideShapes Go.RowKit

set_option maxHeartbeats 8000000 in
set_option maxRecDepth 100000 in
theorem cSome (b off len cap : Nat) (z : Nat → Op6) (w w0 : World) (L : Loc) (s : St) (N : Nat) (hm : Mm w L s) (hf : s.Fit) (hN : s.c ≤ N) (hN' : N + 40 ≤ 1000000) (hl : Ops w0 b off len z) (hb : Below w0.heap.size w0 w) (hL : ∀ k ∈ L.fp, w0.heap.size ≤ k) :
    Calls Try.prog 27 #[.pointer (some ⟨L.b, 0, none⟩), .slice (some ⟨b, off, none⟩) len cap] w fun e w' => e = .returned (.tuple #[]) ∧ Goes w L w' s.ws.length (N + 40) := by
  have hlw := hl.on hb
  go_enter Try.func27, Try.ntmps27
  go_wp2
  go_loopw [4] (fun i wr => ∃ k : Nat, k ≤ 40 ∧ k ≤ len ∧ i = .int .i64 k ∧ Goes w L wr s.ws.length (N + k)) (fun i _ => 40 - (intOf i).toNat)
  case atStart => exact ⟨0, by omega, Nat.zero_le _, rfl, ⟨L, s, hm, Step.refl _ _, hf, hN, rfl⟩⟩
  case round =>
    obtain ⟨k, hk40, hkl, rfl, hg⟩ := hrel
    obtain ⟨wo, rfl⟩ : ∃ wo : World, wo = wr := ⟨_, rfl⟩
    by_cases hgo : k < len ∧ k < 40
    case neg =>
      have hg' : Goes w L wo s.ws.length (N + 40) := by
        obtain ⟨L', s', h1, h2, h3, h4, h5⟩ := hg
        exact ⟨L', s', h1, h2, h3, by omega, h5⟩
      by_cases hlt : k < len
      · have h40 : ¬ k < 40 := fun h => hgo ⟨hlt, h⟩
        clear hgo
        go_wp2
        go_end0
        exact ⟨rfl, hg'⟩
      · clear hgo
        go_wp2
        go_end0
        exact ⟨rfl, hg'⟩
    obtain ⟨hlt, h40⟩ := hgo
    have L1 := hl.on (hb.trans (hg.bel hL hb.size))
    have l0 := L1.c0 k hlt
    have l1 := L1.c1 k hlt
    have l2 := L1.c2 k hlt
    have l3 := L1.c3 k hlt
    have l4 := L1.c4 k hlt
    have l5 := L1.c5 k hlt
    have lf := L1.fit k hlt
    generalize hq : z k = q at l0 l1 l2 l3 l4 l5 lf
    clear L1 hlw hm hf
    obtain ⟨ka, hka, hka8⟩ : ∃ n : Nat, kd q.a 8 = n ∧ n < 8 := ⟨(kd q.a 8).toNat, by have := kd_bounds q.a 8 (by decide); omega, by have := kd_bounds q.a 8 (by decide); omega⟩
    obtain ⟨na, hna⟩ : ∃ na : Nat, ((ka : Int) / 2 * 2 = na) := ⟨ka / 2 * 2, by omega⟩
    have hz0 := wrap_small ((ka : Int) / 2) (by omega) (by omega)
    have hz1 : IntKind.i64.wrap ((ka : Int) / 2 * 2) = na := by rw [wrap_small _ (by omega) (by omega)]; exact hna
    have hz3 : IntKind.i64.wrap (na : Int) = na := wrap_small _ (by omega) (by omega)
    have hz2 : (ka : Int).tdiv 2 = (ka : Int) / 2 := Int.tdiv_eq_ediv_of_nonneg (by omega)
    have hkb := kd_bounds q.k 4 (by decide)
    have hcase : kd q.k 4 = 0 ∨ kd q.k 4 = 1 ∨ kd q.k 4 = 2 ∨ kd q.k 4 = 3 := by omega
    clear hkb
    rcases hcase with hK | hK | hK | hK
    · go_wp2_with (first
        | (go_at_call_of 11 (Value.int .i64 q.a); refine (cKind wo q.a 8 lf.a0 lf.a1 (by decide)).mono ?_; rintro e w4 ⟨rfl, hw4⟩; rw [hw4, hka]; clear hw4 w4)
        | (go_at_call_of 11 (Value.int .i64 q.k); refine (cKind wo q.k 4 lf.k0 lf.k1 (by decide)).mono ?_; rintro e w4 ⟨rfl, hw4⟩; rw [hw4, hK]; clear hw4 w4)
        | (go_at_call 14; refine (gStore hg (by omega) ka q.x).mono ?_; rintro e w5 ⟨rfl, hg5⟩))
      go_roundw
      case rel => exact ⟨k + 1, by omega, by omega, by go_num, hg5⟩
      case measure => simp [intOf]; omega
    · go_wp2_with (first
        | (go_at_call_of 11 (Value.int .i64 q.a); refine (cKind wo q.a 8 lf.a0 lf.a1 (by decide)).mono ?_; rintro e w4 ⟨rfl, hw4⟩; rw [hw4, hka]; clear hw4 w4)
        | (go_at_call_of 11 (Value.int .i64 q.k); refine (cKind wo q.k 4 lf.k0 lf.k1 (by decide)).mono ?_; rintro e w4 ⟨rfl, hw4⟩; rw [hw4, hK]; clear hw4 w4))
      have S0 : wo.drew.cell? ⟨b, off + k * 6 + 2, none⟩ = some (.int .u64 q.x) ∧ wo.drew.cell? ⟨b, off + k * 6 + 4, none⟩ = some (.int .u64 q.y) := ⟨l2, l4⟩
      go_region_held3 (fun w' => w'.cell? ⟨b, off + k * 6 + 2, none⟩ = some (.int .u64 q.x) ∧ w'.cell? ⟨b, off + k * 6 + 4, none⟩ = some (.int .u64 q.y)) (first | assumption | exact ⟨m2, m4⟩)
        (first
          | (go_at_call 16; refine (gCAS hg.drew (by omega) ka q.x q.y).mono ?_; rintro e w5 ⟨ok, rfl, hg5⟩; have L5 := hl.on (hb.trans (hg5.bel hL hb.size)); have m2 := L5.c2 k hlt; have m4 := L5.c4 k hlt; rw [hq] at m2 m4))
      go_wp2
      go_roundw
      case rel => exact ⟨k + 1, by omega, by omega, by go_num, hg5⟩
      case measure => simp [intOf]; omega
    · go_wp2_with (first
        | (go_at_call_of 11 (Value.int .i64 q.a); refine (cKind wo q.a 8 lf.a0 lf.a1 (by decide)).mono ?_; rintro e w4 ⟨rfl, hw4⟩; rw [hw4, hka]; clear hw4 w4)
        | (go_at_call_of 11 (Value.int .i64 q.k); refine (cKind wo q.k 4 lf.k0 lf.k1 (by decide)).mono ?_; rintro e w4 ⟨rfl, hw4⟩; rw [hw4, hK]; clear hw4 w4))
      have S0 : wo.drew.cell? ⟨b, off + k * 6 + 2, none⟩ = some (.int .u64 q.x) ∧ wo.drew.cell? ⟨b, off + k * 6 + 3, none⟩ = some (.int .u64 q.x1) ∧ wo.drew.cell? ⟨b, off + k * 6 + 4, none⟩ = some (.int .u64 q.y) ∧ wo.drew.cell? ⟨b, off + k * 6 + 5, none⟩ = some (.int .u64 q.y1) := ⟨l2, l3, l4, l5⟩
      go_region_held3 (fun w' => w'.cell? ⟨b, off + k * 6 + 2, none⟩ = some (.int .u64 q.x) ∧ w'.cell? ⟨b, off + k * 6 + 3, none⟩ = some (.int .u64 q.x1) ∧ w'.cell? ⟨b, off + k * 6 + 4, none⟩ = some (.int .u64 q.y) ∧ w'.cell? ⟨b, off + k * 6 + 5, none⟩ = some (.int .u64 q.y1)) (first | assumption | exact ⟨m2, m3, m4, m5⟩)
        (first
          | (go_at_call 18; refine (gCAS2 hg.drew (by omega) na q.x q.x1 q.y q.y1).mono ?_; rintro e w5 ⟨ok, rfl, hg5⟩; have L5 := hl.on (hb.trans (hg5.bel hL hb.size)); have m2 := L5.c2 k hlt; have m3 := L5.c3 k hlt; have m4 := L5.c4 k hlt; have m5 := L5.c5 k hlt; rw [hq] at m2 m3 m4 m5))
      go_wp2
      go_roundw
      case rel => exact ⟨k + 1, by omega, by omega, by go_num, hg5⟩
      case measure => simp [intOf]; omega
    · go_wp2_with (first
        | (go_at_call_of 11 (Value.int .i64 q.a); refine (cKind wo q.a 8 lf.a0 lf.a1 (by decide)).mono ?_; rintro e w4 ⟨rfl, hw4⟩; rw [hw4, hka]; clear hw4 w4)
        | (go_at_call_of 11 (Value.int .i64 q.k); refine (cKind wo q.k 4 lf.k0 lf.k1 (by decide)).mono ?_; rintro e w4 ⟨rfl, hw4⟩; rw [hw4, hK]; clear hw4 w4)
        | (go_at_call 21; refine (gTake hg).mono ?_; rintro e w5 ⟨v5, rfl, hg5⟩))
      go_roundw
      case rel => exact ⟨k + 1, by omega, by omega, by go_num, hg5⟩
      case measure => simp [intOf]; omega
end Go.Proofs.Ytmidhhigopjkhaa
