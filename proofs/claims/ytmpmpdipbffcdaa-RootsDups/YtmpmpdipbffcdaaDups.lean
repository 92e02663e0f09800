/-
  The walk of RootsDups.
-/
import Derived.Test.YtmpmpdipbffcdaaRows2
namespace Go.Proofs.Ytmpmpdipbffcdaa
set_option linter.unusedVariables false
open Go.ChangeShapes Go.WideShapes Go.ChangeAt Go.RowKit
open Plain

theorem startR (w : World) (z : Nat → Int) : RAt (w.alloc (.cells #[.int .i64 0, .int .i64 0, .int .i64 0, .int .i64 0, .int .i64 0, .int .i64 0, .int .i64 0, .int .i64 0, .int .i64 0] 24)) w.heap.size ((0 : Nat) : Int) (cut z ((0 : Nat) : Int)) :=
  (RAt.new w 0 nil).same fun j _ => (cut_out z 0 j (Nat.zero_le _)).symm

theorem put_at (l : Nat → Int) (k : Nat) (x : Int) : put l k x k = x := by simp [put]
theorem dupOut (z : Nat → Int) (k : Nat) (i : Int) (hk : k ≤ 8) (hi : i < 0 ∨ (k : Int) ≤ i) (w : World) :
    Calls Try.prog 16 #[rv k (cut z k), .int .i64 i] w fun e w' => e = .returned (.tuple #[.agg #[.int .i64 0, .int .i64 0, .int .i64 0, .int .i64 0, .int .i64 0, .int .i64 0, .int .i64 0, .int .i64 0, .int .i64 0], .int .i64 12]) ∧ Below w.heap.size w w' := by
  have h := cDup k (cut z k) i w
  have hm := may_cut z k hk
  have ha : isAt k i = false := by simp [isAt]; omega
  simp only [dupN, dupL, dupE, getE, hm, ha, Bool.and_false, Bool.false_eq_true, if_false, if_true] at h
  exact h
theorem dupFull (z : Nat → Int) (k j : Nat) (hk : k = 8) (hj : j < k) (w : World) :
    Calls Try.prog 16 #[rv k (cut z k), .int .i64 j] w fun e w' => e = .returned (.tuple #[.agg #[.int .i64 0, .int .i64 0, .int .i64 0, .int .i64 0, .int .i64 0, .int .i64 0, .int .i64 0, .int .i64 0, .int .i64 0], .int .i64 13]) ∧ Below w.heap.size w w' := by
  have h := cDup k (cut z k) j w
  have hm := may_cut z k (by omega)
  have ha : isAt k j = true := by simp [isAt]; omega
  have h8 : ((k : Int) = 8) = True := eq_true (by omega)
  have hd : decide ((k : Int) ≠ 8) = false := decide_eq_false (by omega)
  simp only [dupN, dupL, dupE, pushN, pushL, pushE, hm, ha, hd, Bool.and_true, Bool.and_false, Bool.false_eq_true, if_true, if_false, h8] at h
  exact h
theorem dupGood (z : Nat → Int) (k j : Nat) (hk : k < 8) (hj : j < k) (w : World) :
    Calls Try.prog 16 #[rv k (cut z k), .int .i64 j] w fun e w' => e = .returned (.tuple #[rv ((k : Int) + 1) (put (cut z k) k (z j)), .int .i64 0]) ∧ Below w.heap.size w w' := by
  have h := cDup k (cut z k) j w
  have hm := may_cut z k (by omega)
  have ha : isAt k j = true := by simp [isAt]; omega
  have h8 : ¬ (k : Int) = 8 := by omega
  have hd : decide ((k : Int) ≠ 8) = true := decide_eq_true h8
  simp only [dupN, dupL, dupE, pushN, pushL, pushE, hm, ha, Bool.and_true, if_true, hd, h8, if_false, Int.toNat_natCast, cut_at z k j hj] at h
  exact h
theorem dropDup (z : Nat → Int) (k : Nat) (x : Int) (hk : k < 8) (w : World) :
    Calls Try.prog 12 #[rv ((k : Int) + 1) (put (cut z k) k x)] w fun e w' => e = .returned (.tuple #[rv k (cut z k), .int .i64 0]) ∧ Below w.heap.size w w' := by
  have hm : may ((k : Int) + 1) (put (cut z k) k x) = true := (may_iff _ _).2 ⟨by omega, by omega, fun j _ h => by
    unfold put
    rw [if_neg (by omega), cut_out z k j (by omega)]⟩
  have h := cDropGood ((k : Int) + 1) (put (cut z k) k x) hm (by omega) (by omega) w
  have e : rv ((k : Int) + 1 - 1) (cut (put (cut z k) k x) ((k : Int) + 1 - 1)) = rv k (cut z k) := by
    rw [show (k : Int) + 1 - 1 = k by omega]
    refine rv_same _ fun j _ => ?_
    show (if (j : Int) < k then (if j = k then x else (if (j : Int) < k then z j else 0)) else 0) = if (j : Int) < k then z j else 0
    by_cases hj : (j : Int) < k
    · rw [if_pos hj, if_neg (by omega), if_pos hj]
    · rw [if_neg hj, if_neg hj]
  rw [e] at h
  exact h

set_option maxHeartbeats 1600000 in
theorem wDups (ao : Option Addr) (len cap : Nat) (z : Nat → Int) (i : Int) (w : World) (hl : Came w ao len z) :
    Calls Try.prog 6 #[.slice ao len cap, .int .i64 i] w fun e w' => e = .returned (.bool true) ∧ Below w.heap.size w w' := by
  go_enter Try.func6, Try.ntmps6
  go_wp2_with (go_at_call 9; refine (cShown _).mono ?_; rintro e w1 ⟨rfl, hb1⟩)
  go_loopw [7] (fun q wr => ∃ k : Nat, k ≤ 8 ∧ k ≤ len ∧ q = .int .i64 k ∧ RAt wr w1.heap.size k (cut z k) ∧ Below w.heap.size w wr) (fun q _ => 8 - (intOf q).toNat)
  case atStart => exact ⟨0, by omega, by omega, rfl, startR w1 z, bal hb1 _⟩
  case round =>
    obtain ⟨k, hk, hkl, rfl, hR, hB⟩ := hrel
    obtain ⟨wo, rfl⟩ : ∃ wo : World, wo = wr := ⟨_, rfl⟩
    by_cases hlt : k < len ∧ k < 8
    case pos =>
      rcases hl with hl | ⟨b, off, rfl, hbB, hc⟩
      · omega
      have k0 : (0 : Int) ≤ (k : Int) := by omega
      have kl : (k : Int) < (len : Int) := by omega
      have k8 : (k : Int) < 8 := by omega
      have hcell : wo.drew.cell? ⟨b, off + k, none⟩ = some (.int .i64 (z k)) := (hB.cell hbB).trans (hc k hlt.1)
      have ne : b ≠ w1.heap.size := by have := hb1.size; omega
      obtain ⟨c0, c1, c2, c3, c4, c5, c6, c7, c8⟩ := hR.cells
      go_wp2
      refine wp_region_held_drew (S := fun w' => w'.cell? ⟨b, off + k, none⟩ = some (.int .i64 (z k))) (by kernel_rfl) hcell (fun hHeld => ?_)
      refine takeH (i := 1) 26 (.slice (some ⟨b, off, none⟩) len cap) rfl rfl (by kernel_rfl) (by kernel_rfl) (by kernel_rfl) (fun _ _ _ h => h) (by rfl) ?_ (by assumption) ?_
      · intro w hSw; (try dsimp only at hSw); go_simp
      simp only [List.setIfInBounds_toArray, List.set_cons_zero, List.set_cons_succ]
      refine takeH (i := 2) 27 (.int .i64 k) rfl rfl (by kernel_rfl) (by kernel_rfl) (by kernel_rfl) (fun _ _ _ h => h) (by rfl) ?_ (by assumption) ?_
      · intro w hSw; (try dsimp only at hSw); go_simp
      simp only [List.setIfInBounds_toArray, List.set_cons_zero, List.set_cons_succ]
      refine takeH (i := 3) 28 (.pointer (some ⟨b, off + k, none⟩)) rfl rfl (by kernel_rfl) (by kernel_rfl) (by kernel_rfl) (fun _ _ _ h => h) (by rfl) ?_ (by assumption) ?_
      · intro w hSw; (try dsimp only at hSw); go_simp
      simp only [List.setIfInBounds_toArray, List.set_cons_zero, List.set_cons_succ]
      refine takeH (i := 4) 29 (.int .i64 (z k)) rfl rfl (by kernel_rfl) (by kernel_rfl) (by kernel_rfl) (fun _ _ _ h => h) (by rfl) ?_ (by assumption) ?_
      · intro w hSw; (try dsimp only at hSw); go_simp
      simp only [List.setIfInBounds_toArray, List.set_cons_zero, List.set_cons_succ]
      refine wpAnyH_ready (rs := [0]) (by kernel_rfl) (by simp) ?_
      refine AllReadyH.cons rfl (fun K hK => ?_) AllReadyH.nil
      go_simp
      refine hK.out _ _ hcell (fun hHeld => ?_)
      clear hK K
      try simp only [Act.put, List.setIfInBounds_toArray, List.set_cons_zero, List.set_cons_succ]
      refine wpAnyH_ready (rs := [5]) (by kernel_rfl) (by simp) ?_
      refine AllReadyH.cons rfl (fun K hK => ?_) AllReadyH.nil
      go_simp
      refine (pushNext z k hlt.2 _).mono ?_; rintro e w2 ⟨rfl, hb2⟩; have hR2 := RAt.on (RAt.drew hR) hb2; obtain ⟨d0, d1, d2, d3, d4, d5, d6, d7, d8⟩ := hR2.cells; have hf := hR2.free; have hB2 := bt hB.drew hb2
      refine hK.out _ _ ((hb2.cell (World.block_lt_of_cell? _ _ hcell)).trans hcell) (fun hHeld => ?_)
      clear hK K
      try simp only [Act.put, List.setIfInBounds_toArray, List.set_cons_zero, List.set_cons_succ]
      refine takeH (i := 6) 24 (Value.tuple #[rv ((k : Int) + 1) (cut z ((k : Int) + 1)), .int .i64 0]) rfl rfl (by kernel_rfl) (by kernel_rfl) (by kernel_rfl) (fun _ _ _ h => h) (by rfl) ?_ (by assumption) ?_
      · intro w hSw; (try dsimp only at hSw); go_simp
      simp only [List.setIfInBounds_toArray, List.set_cons_zero, List.set_cons_succ]
      refine takeH (i := 7) 31 (rv ((k : Int) + 1) (cut z ((k : Int) + 1))) rfl rfl (by kernel_rfl) (by kernel_rfl) (by kernel_rfl) (fun _ _ _ h => h) (by rfl) ?_ (by assumption) ?_
      · intro w hSw; (try dsimp only at hSw); go_simp
      simp only [List.setIfInBounds_toArray, List.set_cons_zero, List.set_cons_succ]
      refine takeH (i := 8) 32 (.int .i64 0) rfl rfl (by kernel_rfl) (by kernel_rfl) (by kernel_rfl) (fun _ _ _ h => h) (by rfl) ?_ (by assumption) ?_
      · intro w hSw; (try dsimp only at hSw); go_simp
      simp only [List.setIfInBounds_toArray, List.set_cons_zero, List.set_cons_succ]
      refine wpAnyH_ready (rs := [9]) (by kernel_rfl) (by simp) ?_
      refine AllReadyH.cons rfl (fun K hK => ?_) AllReadyH.nil
      go_simp
      refine hK.out _ _ (cell9 hHeld ne) (fun hHeld => ?_)
      clear hK K
      try simp only [Act.put, List.setIfInBounds_toArray, List.set_cons_zero, List.set_cons_succ]
      refine wpAnyH_done (by kernel_rfl) ?_ _
      have ek : ((k + 1 : Nat) : Int) = (k : Int) + 1 := by omega
      clear hcell hc ne c0 c1 c2 c3 c4 c5 c6 c7 c8 d0 d1 d2 d3 d4 d5 d6 d7 d8 hf hHeld
      go_wp2
      go_roundw
      case rel => exact ⟨k + 1, by omega, by omega, by go_num, by rw [ek]; exact hR2.put9, b9 hb1.size hB2⟩
      case measure => simp [intOf]; omega
    case neg =>
      have E0 : ∀ v : World, (binOp .eql 24 (.agg #[.int .i64 0, .int .i64 0, .int .i64 0, .int .i64 0, .int .i64 0, .int .i64 0, .int .i64 0, .int .i64 0, .int .i64 0]) (.agg #[.int .i64 0, .int .i64 0, .int .i64 0, .int .i64 0, .int .i64 0, .int .i64 0, .int .i64 0, .int .i64 0, .int .i64 0])).run Try.prog v = .ok (.bool true) v := sameR' 0 nil
      have E1 := sameR' k (cut z k)
      have hq : ((k : Int) < len ∧ (8 : Int) ≤ k) ∨ (len : Int) ≤ k := by omega
      obtain ⟨c0, c1, c2, c3, c4, c5, c6, c7, c8⟩ := hR.cells
      have k0 : (0 : Int) ≤ (k : Int) := by omega
      clear hl
      by_cases hi : i < 0 ∨ (k : Int) ≤ i
      case pos =>
        have hD := dupOut z k i hk hi
        have HI : (i < 0) ∨ (¬ i < 0 ∧ (k : Int) ≤ i) := by omega
        clear hi
        rcases hq with ⟨hq, hq8⟩ | hq <;> rcases HI with hi | ⟨hi, hi'⟩
        all_goals
          go_wp2_with (go_at_call 16; refine (hD _).mono ?_; rintro e w3 ⟨rfl, hb3⟩; have hR3 := hR.on hb3; obtain ⟨d0, d1, d2, d3, d4, d5, d6, d7, d8⟩ := hR3.cells; have z3 := hR3.lt)
          go_ret
          exact ⟨rfl, bal (bt hB hb3) _⟩
      case neg =>
        obtain ⟨j, rfl⟩ : ∃ j : Nat, i = j := ⟨i.toNat, by omega⟩
        have j0 : (0 : Int) ≤ (j : Int) := by omega
        have jk : (j : Int) < (k : Int) := by omega
        have jn : ¬ (j : Int) < 0 := by omega
        have jm : ¬ (k : Int) ≤ (j : Int) := by omega
        clear hi
        by_cases h8 : k = 8
        case pos =>
          have hD := dupFull z k j h8 (by omega)
          have h8' : ((k : Int) == 8) = true := by simp; omega
          clear h8
          rcases hq with ⟨hq, hq8⟩ | hq
          all_goals
            go_wp2_with (go_at_call 16; refine (hD _).mono ?_; rintro e w3 ⟨rfl, hb3⟩; have hR3 := hR.on hb3; obtain ⟨d0, d1, d2, d3, d4, d5, d6, d7, d8⟩ := hR3.cells; have z3 := hR3.lt)
            go_ret
            exact ⟨rfl, bal (bt hB hb3) _⟩
        case neg =>
          have hD := dupGood z k j (by omega) (by omega)
          have hD2 := dropDup z k (z j) (by omega)
          have h8' : ((k : Int) == 8) = false := by simp; omega
          have hk8 : (k : Int) < 8 := by omega
          have hj8 : (j : Int) < 8 := by omega
          have ek : IntKind.i64.wrap ((k : Int) + 1) = (k : Int) + 1 := by rw [IntKind.wrap_i64]; omega
          have hq' : (len : Int) ≤ k := by omega
          clear hq h8
          go_wp2_with (first
            | (go_at_call 16; refine (hD _).mono ?_; rintro e w3 ⟨rfl, hb3⟩; have hR3 := hR.on hb3; obtain ⟨d0, d1, d2, d3, d4, d5, d6, d7, d8⟩ := hR3.cells; have z3 := hR3.lt)
            | (go_at_call 12; refine (hD2 _).mono ?_; rintro e w4 ⟨rfl, hb4⟩; have hR4 := (RAt.alloc hR3 _).on hb4; have hS4 := RAt.on (RAt.new w3 ((k : Int) + 1) (put (cut z k) k (z j))) hb4; obtain ⟨e0, e1, e2, e3, e4, e5, e6, e7, e8⟩ := hR4.cells; obtain ⟨f0, f1, f2, f3, f4, f5, f6, f7, f8⟩ := hS4.cells; have z4 := hR4.lt; have y4 := hS4.lt; have q1 := hR4.cell j (by omega); rw [cut_at z k j (by omega)] at q1; have q2 := hS4.cell k (by omega); rw [put_at] at q2))
          go_quiet (fail)
          go_wp2
          go_ret
          exact ⟨rfl, bdr (bal (bt (bal (bt hB hb3) _) hb4) _) _⟩
end Go.Proofs.Ytmpmpdipbffcdaa
