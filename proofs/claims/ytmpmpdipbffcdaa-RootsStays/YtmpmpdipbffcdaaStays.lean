/-
  The walk of RootsStays.
-/
import Derived.Test.YtmpmpdipbffcdaaDo
import Derived.Test.YtmpmpdipbffcdaaHand
namespace Go.Proofs.Ytmpmpdipbffcdaa
set_option linter.unusedVariables false
open Go.ChangeShapes Go.WideShapes Go.ChangeAt Go.RowKit
open Plain

theorem mv_same (l : Nat → Int) (n a : Int) : mv l n a a = l := by
  funext i
  unfold mv
  by_cases h : (i : Int) < n ∧ l i = a
  · rw [if_pos h, h.2]
  · rw [if_neg h]
theorem stay (n : Int) (l : Nat → Int) (a b : Int) (h : b = a ∨ ∀ j : Nat, j < 8 → (j : Int) < n → l j ≠ a) (w : World) :
    Calls Try.prog 18 #[rv n l, .int .i64 a, .int .i64 b] w fun e w' => e = .returned (rv n l) ∧ Below w.heap.size w w' := by
  have hM := cMove n l a b w
  have e : rv n (mv l n a b) = rv n l := by
    rcases h with rfl | h
    · rw [mv_same]
    · refine rv_same n fun j hj => ?_
      unfold mv
      rw [if_neg fun ⟨h1, h2⟩ => h j hj h1 h2]
  rw [e] at hM
  exact hM

set_option maxHeartbeats 800000 in
theorem wStays (n : Int) (l : Nat → Int) (a b : Int) (w : World) :
    Calls Try.prog 8 #[rv n l, .int .i64 a, .int .i64 b] w fun e w' => e = .returned (.bool true) ∧ Below w.heap.size w w' := by
  have E := sameR' n l
  go_enter Try.func8, Try.ntmps8
  go_wp2_with (go_at_call 9; refine (cShown _).mono ?_; rintro e w1 ⟨rfl, hb⟩; have hA := RAt.on (RAt.new w n l) hb; have hB := bt (bal (Below.refl w.heap.size w) _) hb; clear hb)
  have c0 := hA.cells.1
  go_loop [8, 9] (fun th i => ∃ (k : Nat) (t : Bool), k ≤ 8 ∧ ((k : Int) ≤ n ∨ k = 0) ∧ th = .bool t ∧ i = .int .i64 k ∧ Hid (t = false → ∀ j : Nat, j < k → l j ≠ a)) (fun _ i => 8 - (intOf i).toNat)
  case atStart => exact ⟨0, false, by omega, .inr rfl, rfl, rfl, fun _ j h => by omega⟩
  case round =>
    obtain ⟨k, t, hk, hk1, rfl, rfl, ht⟩ := hrel
    have k0 : (0 : Int) ≤ (k : Int) := by omega
    by_cases hlt : (k : Int) < n ∧ k < 8
    case pos =>
      obtain ⟨hlt, h8⟩ := hlt
      have k8 : (k : Int) < 8 := by omega
      have hc := hA.cell k h8
      rcases t with _ | _
      · by_cases hy : l k = a
        · have hy' : (l k == a) = true := by simpa using hy
          clear hy
          go_wp2
          go_round
          case rel => exact ⟨k + 1, true, by omega, by omega, rfl, by go_num, fun h => by cases h⟩
          case measure => simp [intOf]; omega
        · have hy' : (l k == a) = false := by simpa using hy
          have HY : Hid (¬ l k = a) := hy
          clear hy
          go_wp2
          go_round
          case rel => exact ⟨k + 1, false, by omega, by omega, rfl, by go_num, fun _ j hj => by
            by_cases e : j = k
            · rw [e]; exact HY.out
            · exact ht.out rfl j (by omega)⟩
          case measure => simp [intOf]; omega
      · go_wp2
        go_round
        case rel => exact ⟨k + 1, true, by omega, by omega, rfl, by go_num, fun h => by cases h⟩
        case measure => simp [intOf]; omega
    case neg =>
      obtain ⟨H2, c0, c1, c2, c3, c4, c5, c6, c7, c8⟩ := (held_of hB hA).2
      have H : Below w.heap.size w w1.drew ∧ w.heap.size < w1.drew.heap.size ∧ w1.drew.cell? ⟨w.heap.size, 0, none⟩ = some (.int .i64 n) ∧ w1.drew.cell? ⟨w.heap.size, 1, none⟩ = some (.int .i64 (l 0)) ∧ w1.drew.cell? ⟨w.heap.size, 2, none⟩ = some (.int .i64 (l 1)) ∧ w1.drew.cell? ⟨w.heap.size, 3, none⟩ = some (.int .i64 (l 2)) ∧ w1.drew.cell? ⟨w.heap.size, 4, none⟩ = some (.int .i64 (l 3)) ∧ w1.drew.cell? ⟨w.heap.size, 5, none⟩ = some (.int .i64 (l 4)) ∧ w1.drew.cell? ⟨w.heap.size, 6, none⟩ = some (.int .i64 (l 5)) ∧ w1.drew.cell? ⟨w.heap.size, 7, none⟩ = some (.int .i64 (l 6)) ∧ w1.drew.cell? ⟨w.heap.size, 8, none⟩ = some (.int .i64 (l 7)) := held_of hB.drew hA.drew
      rcases t with _ | _
      · have hM : ∀ b' v, _ := fun b' v => stay n l a b' (.inr fun j hj hn => ht.out rfl j (by omega)) v
        by_cases h8 : (k : Int) < 8
        all_goals
          go_wp2
          go_region_held3 (fun w' => Below w.heap.size w w' ∧ w.heap.size < w'.heap.size ∧ w'.cell? ⟨w.heap.size, 0, none⟩ = some (.int .i64 n) ∧ w'.cell? ⟨w.heap.size, 1, none⟩ = some (.int .i64 (l 0)) ∧ w'.cell? ⟨w.heap.size, 2, none⟩ = some (.int .i64 (l 1)) ∧ w'.cell? ⟨w.heap.size, 3, none⟩ = some (.int .i64 (l 2)) ∧ w'.cell? ⟨w.heap.size, 4, none⟩ = some (.int .i64 (l 3)) ∧ w'.cell? ⟨w.heap.size, 5, none⟩ = some (.int .i64 (l 4)) ∧ w'.cell? ⟨w.heap.size, 6, none⟩ = some (.int .i64 (l 5)) ∧ w'.cell? ⟨w.heap.size, 7, none⟩ = some (.int .i64 (l 6)) ∧ w'.cell? ⟨w.heap.size, 8, none⟩ = some (.int .i64 (l 7))) (first | assumption | exact held_on (by assumption) (by assumption))
            (first | (go_at_call 18; refine (hM _ _).mono ?_; rintro e wa ⟨rfl, ha⟩))
          go_wp2
          go_ret
          exact ⟨rfl, (by assumption : Below w.heap.size w wa ∧ w.heap.size < wa.heap.size ∧ wa.cell? ⟨w.heap.size, 0, none⟩ = some (.int .i64 n) ∧ wa.cell? ⟨w.heap.size, 1, none⟩ = some (.int .i64 (l 0)) ∧ wa.cell? ⟨w.heap.size, 2, none⟩ = some (.int .i64 (l 1)) ∧ wa.cell? ⟨w.heap.size, 3, none⟩ = some (.int .i64 (l 2)) ∧ wa.cell? ⟨w.heap.size, 4, none⟩ = some (.int .i64 (l 3)) ∧ wa.cell? ⟨w.heap.size, 5, none⟩ = some (.int .i64 (l 4)) ∧ wa.cell? ⟨w.heap.size, 6, none⟩ = some (.int .i64 (l 5)) ∧ wa.cell? ⟨w.heap.size, 7, none⟩ = some (.int .i64 (l 6)) ∧ wa.cell? ⟨w.heap.size, 8, none⟩ = some (.int .i64 (l 7))).1⟩
      · have hM : ∀ b' v, b' = a → _ := fun b' v h => stay n l a b' (.inl h) v
        by_cases h8 : (k : Int) < 8
        all_goals
          go_wp2
          refine wp_region_held_drew (S := fun w' => Below w.heap.size w w' ∧ w.heap.size < w'.heap.size ∧ w'.cell? ⟨w.heap.size, 0, none⟩ = some (.int .i64 n) ∧ w'.cell? ⟨w.heap.size, 1, none⟩ = some (.int .i64 (l 0)) ∧ w'.cell? ⟨w.heap.size, 2, none⟩ = some (.int .i64 (l 1)) ∧ w'.cell? ⟨w.heap.size, 3, none⟩ = some (.int .i64 (l 2)) ∧ w'.cell? ⟨w.heap.size, 4, none⟩ = some (.int .i64 (l 3)) ∧ w'.cell? ⟨w.heap.size, 5, none⟩ = some (.int .i64 (l 4)) ∧ w'.cell? ⟨w.heap.size, 6, none⟩ = some (.int .i64 (l 5)) ∧ w'.cell? ⟨w.heap.size, 7, none⟩ = some (.int .i64 (l 6)) ∧ w'.cell? ⟨w.heap.size, 8, none⟩ = some (.int .i64 (l 7))) (by kernel_rfl) H (fun hHeld => ?_)
          refine takeH (i := 0) 30 (.bool true) rfl rfl (by kernel_rfl) (by kernel_rfl) (by kernel_rfl) (fun _ _ _ h => h) (by rfl) ?_ (by assumption) ?_
          · intro w hSw; (try dsimp only at hSw); go_simp
          simp only [List.setIfInBounds_toArray, List.set_cons_zero, List.set_cons_succ]
          refine takeH (i := 1) 31 (.bool true) rfl rfl (by kernel_rfl) (by kernel_rfl) (by kernel_rfl) (fun _ _ _ h => h) (by rfl) ?_ (by assumption) ?_
          · intro w hSw; (try dsimp only at hSw); go_simp
          simp only [List.setIfInBounds_toArray, List.set_cons_zero, List.set_cons_succ]
          refine takeH (i := 2) 32 (rv n l) rfl rfl (by kernel_rfl) (by kernel_rfl) (by kernel_rfl) (fun _ _ _ h => h) (by rfl) ?_ (by assumption) ?_
          · intro w hSw; (try dsimp only at hSw); go_simp
          simp only [List.setIfInBounds_toArray, List.set_cons_zero, List.set_cons_succ]
          refine takeH (i := 3) 33 (.int .i64 a) rfl rfl (by kernel_rfl) (by kernel_rfl) (by kernel_rfl) (fun _ _ _ h => h) (by rfl) ?_ (by assumption) ?_
          · intro w hSw; (try dsimp only at hSw); go_simp
          simp only [List.setIfInBounds_toArray, List.set_cons_zero, List.set_cons_succ]
          refine takeH (i := 4) 34 (.int .i64 a) rfl rfl (by kernel_rfl) (by kernel_rfl) (by kernel_rfl) (fun _ _ _ h => h) (by rfl) ?_ (by assumption) ?_
          · intro w hSw; (try dsimp only at hSw); go_simp
          simp only [List.setIfInBounds_toArray, List.set_cons_zero, List.set_cons_succ]
          refine takeH (i := 6) 36 (rv n l) rfl rfl (by kernel_rfl) (by kernel_rfl) (by kernel_rfl) (fun _ _ _ h => h) (by rfl) ?_ (by assumption) ?_
          · intro w hSw; (try dsimp only at hSw); go_simp
          simp only [List.setIfInBounds_toArray, List.set_cons_zero, List.set_cons_succ]
          refine wpAnyH_ready (rs := [5]) (by kernel_rfl) (by simp) ?_
          refine AllReadyH.cons rfl (fun K hK => ?_) AllReadyH.nil
          go_simp
          refine (hM _ _ rfl).mono ?_; rintro e wa ⟨rfl, ha⟩
          refine hK.out _ _ (held_on hHeld ha) (fun hHeld => ?_)
          clear hK K
          try simp only [Act.put, List.setIfInBounds_toArray, List.set_cons_zero, List.set_cons_succ]
          refine takeH (i := 7) 37 (.bool true) rfl rfl (by kernel_rfl) (by kernel_rfl) (by kernel_rfl) (fun _ _ _ h => h) (by rfl) ?_ (by assumption) ?_
          · intro w hSw; (try dsimp only at hSw); go_simp
          simp only [List.setIfInBounds_toArray, List.set_cons_zero, List.set_cons_succ]
          refine takeH (i := 8) 38 (.bool true) rfl rfl (by kernel_rfl) (by kernel_rfl) (by kernel_rfl) (fun _ _ _ h => h) (by rfl) ?_ (by assumption) ?_
          · intro w hSw; (try dsimp only at hSw); go_simp
          simp only [List.setIfInBounds_toArray, List.set_cons_zero, List.set_cons_succ]
          refine takeH (i := 9) 39 (.bool true) rfl rfl (by kernel_rfl) (by kernel_rfl) (by kernel_rfl) (fun _ _ _ h => h) (by rfl) ?_ (by assumption) ?_
          · intro w hSw; (try dsimp only at hSw); go_simp
          simp only [List.setIfInBounds_toArray, List.set_cons_zero, List.set_cons_succ]
          refine takeH (i := 10) 40 (.bool true) rfl rfl (by kernel_rfl) (by kernel_rfl) (by kernel_rfl) (fun _ _ _ h => h) (by rfl) ?_ (by assumption) ?_
          · intro w hSw; (try dsimp only at hSw); go_simp
          simp only [List.setIfInBounds_toArray, List.set_cons_zero, List.set_cons_succ]
          refine takeH (i := 11) 41 (.bool true) rfl rfl (by kernel_rfl) (by kernel_rfl) (by kernel_rfl) (fun _ _ _ h => h) (by rfl) ?_ (by assumption) ?_
          · intro w hSw; (try dsimp only at hSw); go_simp
          simp only [List.setIfInBounds_toArray, List.set_cons_zero, List.set_cons_succ]
          refine skipH (i := 12) 42 rfl rfl (by kernel_rfl) (by kernel_rfl) (by kernel_rfl) (fun _ _ _ h => h) (by rfl) (by assumption) ?_
          simp only [List.setIfInBounds_toArray, List.set_cons_zero, List.set_cons_succ]
          refine skipH (i := 13) 43 rfl rfl (by kernel_rfl) (by kernel_rfl) (by kernel_rfl) (fun _ _ _ h => h) (by rfl) (by assumption) ?_
          simp only [List.setIfInBounds_toArray, List.set_cons_zero, List.set_cons_succ]
          refine skipH (i := 14) 44 rfl rfl (by kernel_rfl) (by kernel_rfl) (by kernel_rfl) (fun _ _ _ h => h) (by rfl) (by assumption) ?_
          simp only [List.setIfInBounds_toArray, List.set_cons_zero, List.set_cons_succ]
          refine skipH (i := 15) 45 rfl rfl (by kernel_rfl) (by kernel_rfl) (by kernel_rfl) (fun _ _ _ h => h) (by rfl) (by assumption) ?_
          simp only [List.setIfInBounds_toArray, List.set_cons_zero, List.set_cons_succ]
          refine skipH (i := 16) 46 rfl rfl (by kernel_rfl) (by kernel_rfl) (by kernel_rfl) (fun _ _ _ h => h) (by rfl) (by assumption) ?_
          simp only [List.setIfInBounds_toArray, List.set_cons_zero, List.set_cons_succ]
          refine skipH (i := 17) 47 rfl rfl (by kernel_rfl) (by kernel_rfl) (by kernel_rfl) (fun _ _ _ h => h) (by rfl) (by assumption) ?_
          simp only [List.setIfInBounds_toArray, List.set_cons_zero, List.set_cons_succ]
          refine takeH (i := 18) 48 (.bool true) rfl rfl (by kernel_rfl) (by kernel_rfl) (by kernel_rfl) (fun _ _ _ h => h) (by rfl) ?_ (by assumption) ?_
          · intro w hSw; (try dsimp only at hSw); go_simp
          simp only [List.setIfInBounds_toArray, List.set_cons_zero, List.set_cons_succ]
          refine takeH (i := 19) 49 (.bool true) rfl rfl (by kernel_rfl) (by kernel_rfl) (by kernel_rfl) (fun _ _ _ h => h) (by rfl) ?_ (by assumption) ?_
          · intro w hSw; (try dsimp only at hSw); go_simp
          simp only [List.setIfInBounds_toArray, List.set_cons_zero, List.set_cons_succ]
          refine takeH (i := 20) 6 (.bool true) rfl rfl (by kernel_rfl) (by kernel_rfl) (by kernel_rfl) (fun _ _ _ h => h) (by rfl) ?_ (by assumption) ?_
          · intro w hSw; (try dsimp only at hSw); go_simp
          simp only [List.setIfInBounds_toArray, List.set_cons_zero, List.set_cons_succ]
          refine wpAnyH_done (by kernel_rfl) ?_ _
          go_wp2
          go_ret
          exact ⟨rfl, bt H.1 ha⟩
end Go.Proofs.Ytmpmpdipbffcdaa
