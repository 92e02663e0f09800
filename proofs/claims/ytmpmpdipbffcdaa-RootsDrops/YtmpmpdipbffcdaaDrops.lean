/-
  The walk of RootsDrops.
-/
import Derived.Test.YtmpmpdipbffcdaaDups
namespace Go.Proofs.Ytmpmpdipbffcdaa
set_option linter.unusedVariables false
open Go.ChangeShapes Go.WideShapes Go.ChangeAt Go.RowKit
open Plain

theorem dropPrev (z : Nat → Int) (m p : Nat) (hm : m ≤ 8) (h : (m : Int) - 1 = p) (w : World) :
    Calls Try.prog 12 #[rv m (cut z m)] w fun e w' => e = .returned (.tuple #[rv p (cut z p), .int .i64 0]) ∧ Below w.heap.size w w' := by
  have h' := dropLast z p (by omega) w
  rw [show (p : Int) + 1 = m by omega] at h'
  exact h'
theorem dropZero (z : Nat → Int) (m : Nat) (h : m = 0) (w : World) :
    Calls Try.prog 12 #[.agg #[.int .i64 0, .int .i64 0, .int .i64 0, .int .i64 0, .int .i64 0, .int .i64 0, .int .i64 0, .int .i64 0, .int .i64 0]] w fun e w' => e = .returned (.tuple #[.agg #[.int .i64 0, .int .i64 0, .int .i64 0, .int .i64 0, .int .i64 0, .int .i64 0, .int .i64 0, .int .i64 0, .int .i64 0], .int .i64 12]) ∧ Below w.heap.size w w' :=
  cDropNone 0 nil rfl rfl w
theorem RAt.zero {u : World} {g m : Nat} {z : Nat → Int} (h : RAt u g m (cut z m)) (hm : m = 0) : RAt u g 0 nil := by
  subst hm
  exact RAt.same h fun j _ => cut_out z 0 j (Nat.zero_le _)

set_option maxHeartbeats 1600000 in
theorem wDrops (ao : Option Addr) (len cap : Nat) (z : Nat → Int) (w : World) (hl : Came w ao len z) :
    Calls Try.prog 7 #[.slice ao len cap] w fun e w' => e = .returned (.bool true) ∧ Below w.heap.size w w' := by
  go_enter Try.func7, Try.ntmps7
  go_wp2_with (go_at_call 9; refine (cShown _).mono ?_; rintro e w1 ⟨rfl, hb1⟩)
  go_loopw [5, 6] (fun nn q wr => ∃ k : Nat, k ≤ 8 ∧ k ≤ len ∧ nn = .int .i64 k ∧ q = .int .i64 k ∧ RAt wr w1.heap.size k (cut z k) ∧ Below w.heap.size w wr) (fun _ q _ => 8 - (intOf q).toNat)
  case atStart => exact ⟨0, by omega, by omega, rfl, rfl, startR w1 z, bal hb1 _⟩
  case round =>
    obtain ⟨k, hk, hkl, rfl, rfl, hR, hB⟩ := hrel
    obtain ⟨wo, rfl⟩ : ∃ wo : World, wo = wr := ⟨_, rfl⟩
    by_cases hlt : k < len ∧ k < 8
    case pos =>
      rcases hl with hl | ⟨b, off, rfl, hbB, hc⟩
      · omega
      have k0 : (0 : Int) ≤ (k : Int) := by omega
      have kl : (k : Int) < (len : Int) := by omega
      have k8 : (k : Int) < 8 := by omega
      have hcell : wo.drew.cell? ⟨b, off + k, none⟩ = some (.int .i64 (z k)) := (hB.cell hbB).trans (hc k hlt.1)
      have ne : b ≠ w1.heap.size := by have := hb1.size; omega
      obtain ⟨c0, c1, c2, c3, c4, c5, c6, c7, c8⟩ := hR.cells
      go_wp2
      refine wp_region_held_drew (S := fun w' => w'.cell? ⟨b, off + k, none⟩ = some (.int .i64 (z k))) (by kernel_rfl) hcell (fun hHeld => ?_)
      refine takeH (i := 1) 28 (.slice (some ⟨b, off, none⟩) len cap) rfl rfl (by kernel_rfl) (by kernel_rfl) (by kernel_rfl) (fun _ _ _ h => h) (by rfl) ?_ (by assumption) ?_
      · intro w hSw; (try dsimp only at hSw); go_simp
      simp only [List.setIfInBounds_toArray, List.set_cons_zero, List.set_cons_succ]
      refine takeH (i := 2) 29 (.int .i64 k) rfl rfl (by kernel_rfl) (by kernel_rfl) (by kernel_rfl) (fun _ _ _ h => h) (by rfl) ?_ (by assumption) ?_
      · intro w hSw; (try dsimp only at hSw); go_simp
      simp only [List.setIfInBounds_toArray, List.set_cons_zero, List.set_cons_succ]
      refine takeH (i := 3) 30 (.pointer (some ⟨b, off + k, none⟩)) rfl rfl (by kernel_rfl) (by kernel_rfl) (by kernel_rfl) (fun _ _ _ h => h) (by rfl) ?_ (by assumption) ?_
      · intro w hSw; (try dsimp only at hSw); go_simp
      simp only [List.setIfInBounds_toArray, List.set_cons_zero, List.set_cons_succ]
      refine takeH (i := 4) 31 (.int .i64 (z k)) rfl rfl (by kernel_rfl) (by kernel_rfl) (by kernel_rfl) (fun _ _ _ h => h) (by rfl) ?_ (by assumption) ?_
      · intro w hSw; (try dsimp only at hSw); go_simp
      simp only [List.setIfInBounds_toArray, List.set_cons_zero, List.set_cons_succ]
      refine wpAnyH_ready (rs := [0]) (by kernel_rfl) (by simp) ?_
      refine AllReadyH.cons rfl (fun K hK => ?_) AllReadyH.nil
      go_simp
      refine hK.out _ _ hcell (fun hHeld => ?_)
      clear hK K
      try simp only [Act.put, List.setIfInBounds_toArray, List.set_cons_zero, List.set_cons_succ]
      refine wpAnyH_ready (rs := [5]) (by kernel_rfl) (by simp) ?_
      refine AllReadyH.cons rfl (fun K hK => ?_) AllReadyH.nil
      go_simp
      refine (pushNext z k hlt.2 _).mono ?_; rintro e w2 ⟨rfl, hb2⟩; have hR2 := RAt.on (RAt.drew hR) hb2; obtain ⟨d0, d1, d2, d3, d4, d5, d6, d7, d8⟩ := hR2.cells; have hf := hR2.free; have hB2 := bt hB.drew hb2
      refine hK.out _ _ ((hb2.cell (World.block_lt_of_cell? _ _ hcell)).trans hcell) (fun hHeld => ?_)
      clear hK K
      try simp only [Act.put, List.setIfInBounds_toArray, List.set_cons_zero, List.set_cons_succ]
      refine takeH (i := 6) 26 (Value.tuple #[rv ((k : Int) + 1) (cut z ((k : Int) + 1)), .int .i64 0]) rfl rfl (by kernel_rfl) (by kernel_rfl) (by kernel_rfl) (fun _ _ _ h => h) (by rfl) ?_ (by assumption) ?_
      · intro w hSw; (try dsimp only at hSw); go_simp
      simp only [List.setIfInBounds_toArray, List.set_cons_zero, List.set_cons_succ]
      refine takeH (i := 7) 33 (rv ((k : Int) + 1) (cut z ((k : Int) + 1))) rfl rfl (by kernel_rfl) (by kernel_rfl) (by kernel_rfl) (fun _ _ _ h => h) (by rfl) ?_ (by assumption) ?_
      · intro w hSw; (try dsimp only at hSw); go_simp
      simp only [List.setIfInBounds_toArray, List.set_cons_zero, List.set_cons_succ]
      refine takeH (i := 8) 34 (.int .i64 0) rfl rfl (by kernel_rfl) (by kernel_rfl) (by kernel_rfl) (fun _ _ _ h => h) (by rfl) ?_ (by assumption) ?_
      · intro w hSw; (try dsimp only at hSw); go_simp
      simp only [List.setIfInBounds_toArray, List.set_cons_zero, List.set_cons_succ]
      refine wpAnyH_ready (rs := [9]) (by kernel_rfl) (by simp) ?_
      refine AllReadyH.cons rfl (fun K hK => ?_) AllReadyH.nil
      go_simp
      refine hK.out _ _ (cell9 hHeld ne) (fun hHeld => ?_)
      clear hK K
      try simp only [Act.put, List.setIfInBounds_toArray, List.set_cons_zero, List.set_cons_succ]
      refine wpAnyH_done (by kernel_rfl) ?_ _
      have ek : ((k + 1 : Nat) : Int) = (k : Int) + 1 := by omega
      clear hcell hc ne c0 c1 c2 c3 c4 c5 c6 c7 c8 d0 d1 d2 d3 d4 d5 d6 d7 d8 hf hHeld
      go_wp2
      go_roundw
      case rel => exact ⟨k + 1, by omega, by omega, by go_num, by go_num, by rw [ek]; exact hR2.put9, b9 hb1.size hB2⟩
      case measure => simp [intOf]; omega
    case neg =>
      have E0 : ∀ v : World, (binOp .eql 24 (.agg #[.int .i64 0, .int .i64 0, .int .i64 0, .int .i64 0, .int .i64 0, .int .i64 0, .int .i64 0, .int .i64 0, .int .i64 0]) (.agg #[.int .i64 0, .int .i64 0, .int .i64 0, .int .i64 0, .int .i64 0, .int .i64 0, .int .i64 0, .int .i64 0, .int .i64 0])).run Try.prog v = .ok (.bool true) v := sameR' 0 nil
      have hq : ((k : Int) < len ∧ (8 : Int) ≤ k) ∨ (len : Int) ≤ k := by omega
      have k0 : (0 : Int) ≤ (k : Int) := by omega
      clear hlt
      rcases hq with ⟨hq, hq8⟩ | hq
      all_goals
        go_wp2
        go_loopw [7] (fun q wr => ∃ m : Nat, m ≤ k ∧ q = .int .i64 m ∧ RAt wr w1.heap.size m (cut z m) ∧ Below w.heap.size w wr) (fun q _ => (intOf q).toNat)
        case atStart => exact ⟨k, Nat.le_refl _, rfl, hR, hB⟩
        case round =>
          obtain ⟨m, hm, rfl, hR', hB'⟩ := hrel
          obtain ⟨wi, rfl⟩ : ∃ wi : World, wi = wr := ⟨_, rfl⟩
          by_cases h0 : 0 < m
          case pos =>
            rcases hl with hl | ⟨b, off, rfl, hbB, hc⟩
            · omega
            obtain ⟨p, hp⟩ : ∃ p : Nat, (m : Int) - 1 = p := ⟨m - 1, by omega⟩
            have p0 : (0 : Int) ≤ (p : Int) := by omega
            have pl : (p : Int) < (len : Int) := by omega
            have hcell : wi.cell? ⟨b, off + p, none⟩ = some (.int .i64 (z p)) := (hB'.cell hbB).trans (hc p (by omega))
            have hG := getOne z m m p rfl (by omega) (by omega)
            have hD := dropPrev z m p (by omega) hp
            obtain ⟨c0, c1, c2, c3, c4, c5, c6, c7, c8⟩ := hR'.cells
            clear hc
            go_wp2_with (first
              | (go_at_call 14; refine (hG _).mono ?_; rintro e w2 ⟨rfl, hb2⟩; have hR2 := hR'.on hb2; obtain ⟨d0, d1, d2, d3, d4, d5, d6, d7, d8⟩ := hR2.cells; have hB2 := bt hB' hb2; have hc2 := (hb2.cell (World.block_lt_of_cell? _ _ hcell)).trans hcell)
              | (go_at_call 12; refine (hD _).mono ?_; rintro e w3 ⟨rfl, hb3⟩; have hR3 := hR2.on hb3; obtain ⟨e0, e1, e2, e3, e4, e5, e6, e7, e8⟩ := hR3.cells; have hB3 := bt hB2 hb3; have z3 := hR3.lt; have hf := hR3.free; have hc3 := (hb3.cell (World.block_lt_of_cell? _ _ hc2)).trans hc2; have y3 := World.block_lt_of_cell? _ _ hc3))
            go_roundw
            case rel => exact ⟨p, by omega, rfl, (hR3.put9).alloc _, bal (b9 hb1.size hB3) _⟩
            case measure => simp [intOf]; omega
          case neg =>
            have hZ : RAt wi w1.heap.size 0 nil := RAt.zero hR' (by omega)
            obtain ⟨c0, c1, c2, c3, c4, c5, c6, c7, c8⟩ : wi.cell? ⟨w1.heap.size, 0, none⟩ = some (.int .i64 0) ∧ wi.cell? ⟨w1.heap.size, 1, none⟩ = some (.int .i64 0) ∧ wi.cell? ⟨w1.heap.size, 2, none⟩ = some (.int .i64 0) ∧ wi.cell? ⟨w1.heap.size, 3, none⟩ = some (.int .i64 0) ∧ wi.cell? ⟨w1.heap.size, 4, none⟩ = some (.int .i64 0) ∧ wi.cell? ⟨w1.heap.size, 5, none⟩ = some (.int .i64 0) ∧ wi.cell? ⟨w1.heap.size, 6, none⟩ = some (.int .i64 0) ∧ wi.cell? ⟨w1.heap.size, 7, none⟩ = some (.int .i64 0) ∧ wi.cell? ⟨w1.heap.size, 8, none⟩ = some (.int .i64 0) := hZ.cells
            have hD := dropZero z m (by omega)
            have h0' : ¬ (0 : Int) < (m : Int) := by omega
            go_wp2_with (go_at_call 12; refine (hD _).mono ?_; rintro e w3 ⟨rfl, hb3⟩; have hZ3 := hZ.on hb3; obtain ⟨d0, d1, d2, d3, d4, d5, d6, d7, d8⟩ : w3.cell? ⟨w1.heap.size, 0, none⟩ = some (.int .i64 0) ∧ w3.cell? ⟨w1.heap.size, 1, none⟩ = some (.int .i64 0) ∧ w3.cell? ⟨w1.heap.size, 2, none⟩ = some (.int .i64 0) ∧ w3.cell? ⟨w1.heap.size, 3, none⟩ = some (.int .i64 0) ∧ w3.cell? ⟨w1.heap.size, 4, none⟩ = some (.int .i64 0) ∧ w3.cell? ⟨w1.heap.size, 5, none⟩ = some (.int .i64 0) ∧ w3.cell? ⟨w1.heap.size, 6, none⟩ = some (.int .i64 0) ∧ w3.cell? ⟨w1.heap.size, 7, none⟩ = some (.int .i64 0) ∧ w3.cell? ⟨w1.heap.size, 8, none⟩ = some (.int .i64 0) := hZ3.cells; have z3 := hZ3.lt)
            go_ret
            exact ⟨rfl, bal (bt hB' hb3) _⟩
end Go.Proofs.Ytmpmpdipbffcdaa
