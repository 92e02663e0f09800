/-
  The walk of RootsBack.
-/
import Derived.Test.YtmpmpdipbffcdaaDups
namespace Go.Proofs.Ytmpmpdipbffcdaa
set_option linter.unusedVariables false
open Go.ChangeShapes Go.WideShapes Go.ChangeAt Go.RowKit
open Plain

theorem s_of {u : World} {g b o : Nat} {n x : Int} {l : Nat → Int} (h : RAt u g n l) (hc : u.cell? ⟨b, o, none⟩ = some (.int .i64 x)) : g < u.heap.size ∧ b < u.heap.size ∧ u.cell? ⟨b, o, none⟩ = some (.int .i64 x) ∧ u.cell? ⟨g, 0, none⟩ = some (.int .i64 n) ∧ u.cell? ⟨g, 1, none⟩ = some (.int .i64 (l 0)) ∧ u.cell? ⟨g, 2, none⟩ = some (.int .i64 (l 1)) ∧ u.cell? ⟨g, 3, none⟩ = some (.int .i64 (l 2)) ∧ u.cell? ⟨g, 4, none⟩ = some (.int .i64 (l 3)) ∧ u.cell? ⟨g, 5, none⟩ = some (.int .i64 (l 4)) ∧ u.cell? ⟨g, 6, none⟩ = some (.int .i64 (l 5)) ∧ u.cell? ⟨g, 7, none⟩ = some (.int .i64 (l 6)) ∧ u.cell? ⟨g, 8, none⟩ = some (.int .i64 (l 7)) := ⟨h.lt, World.block_lt_of_cell? _ _ hc, hc, h.cells⟩
theorem s_on {u v : World} {g b o : Nat} {n x : Int} {l : Nat → Int} (h : g < u.heap.size ∧ b < u.heap.size ∧ u.cell? ⟨b, o, none⟩ = some (.int .i64 x) ∧ u.cell? ⟨g, 0, none⟩ = some (.int .i64 n) ∧ u.cell? ⟨g, 1, none⟩ = some (.int .i64 (l 0)) ∧ u.cell? ⟨g, 2, none⟩ = some (.int .i64 (l 1)) ∧ u.cell? ⟨g, 3, none⟩ = some (.int .i64 (l 2)) ∧ u.cell? ⟨g, 4, none⟩ = some (.int .i64 (l 3)) ∧ u.cell? ⟨g, 5, none⟩ = some (.int .i64 (l 4)) ∧ u.cell? ⟨g, 6, none⟩ = some (.int .i64 (l 5)) ∧ u.cell? ⟨g, 7, none⟩ = some (.int .i64 (l 6)) ∧ u.cell? ⟨g, 8, none⟩ = some (.int .i64 (l 7))) (hb : Below u.heap.size u v) : g < v.heap.size ∧ b < v.heap.size ∧ v.cell? ⟨b, o, none⟩ = some (.int .i64 x) ∧ v.cell? ⟨g, 0, none⟩ = some (.int .i64 n) ∧ v.cell? ⟨g, 1, none⟩ = some (.int .i64 (l 0)) ∧ v.cell? ⟨g, 2, none⟩ = some (.int .i64 (l 1)) ∧ v.cell? ⟨g, 3, none⟩ = some (.int .i64 (l 2)) ∧ v.cell? ⟨g, 4, none⟩ = some (.int .i64 (l 3)) ∧ v.cell? ⟨g, 5, none⟩ = some (.int .i64 (l 4)) ∧ v.cell? ⟨g, 6, none⟩ = some (.int .i64 (l 5)) ∧ v.cell? ⟨g, 7, none⟩ = some (.int .i64 (l 6)) ∧ v.cell? ⟨g, 8, none⟩ = some (.int .i64 (l 7)) := by
  obtain ⟨h1, h2, h3, d0, d1, d2, d3, d4, d5, d6, d7, d8⟩ := h
  exact ⟨Nat.lt_of_lt_of_le h1 hb.size, Nat.lt_of_lt_of_le h2 hb.size, (hb.cell h2).trans h3, (hb.cell h1).trans d0, (hb.cell h1).trans d1, (hb.cell h1).trans d2, (hb.cell h1).trans d3, (hb.cell h1).trans d4, (hb.cell h1).trans d5, (hb.cell h1).trans d6, (hb.cell h1).trans d7, (hb.cell h1).trans d8⟩
theorem size9 {u : World} {q : Nat} {m : Int} {f : Nat → Int} : (((((((((u.setCell ⟨q, 0, none⟩ (.int .i64 m)).setCell ⟨q, 1, none⟩ (.int .i64 (f 0))).setCell ⟨q, 2, none⟩ (.int .i64 (f 1))).setCell ⟨q, 3, none⟩ (.int .i64 (f 2))).setCell ⟨q, 4, none⟩ (.int .i64 (f 3))).setCell ⟨q, 5, none⟩ (.int .i64 (f 4))).setCell ⟨q, 6, none⟩ (.int .i64 (f 5))).setCell ⟨q, 7, none⟩ (.int .i64 (f 6))).setCell ⟨q, 8, none⟩ (.int .i64 (f 7))).heap.size = u.heap.size := by simp [World.setCell]
theorem s_chain {u : World} {g b o q : Nat} {n x m : Int} {l f : Nat → Int} (h : g < u.heap.size ∧ b < u.heap.size ∧ u.cell? ⟨b, o, none⟩ = some (.int .i64 x) ∧ u.cell? ⟨g, 0, none⟩ = some (.int .i64 n) ∧ u.cell? ⟨g, 1, none⟩ = some (.int .i64 (l 0)) ∧ u.cell? ⟨g, 2, none⟩ = some (.int .i64 (l 1)) ∧ u.cell? ⟨g, 3, none⟩ = some (.int .i64 (l 2)) ∧ u.cell? ⟨g, 4, none⟩ = some (.int .i64 (l 3)) ∧ u.cell? ⟨g, 5, none⟩ = some (.int .i64 (l 4)) ∧ u.cell? ⟨g, 6, none⟩ = some (.int .i64 (l 5)) ∧ u.cell? ⟨g, 7, none⟩ = some (.int .i64 (l 6)) ∧ u.cell? ⟨g, 8, none⟩ = some (.int .i64 (l 7))) (hg : g ≠ q) (hb : b ≠ q) : g < (((((((((u.setCell ⟨q, 0, none⟩ (.int .i64 m)).setCell ⟨q, 1, none⟩ (.int .i64 (f 0))).setCell ⟨q, 2, none⟩ (.int .i64 (f 1))).setCell ⟨q, 3, none⟩ (.int .i64 (f 2))).setCell ⟨q, 4, none⟩ (.int .i64 (f 3))).setCell ⟨q, 5, none⟩ (.int .i64 (f 4))).setCell ⟨q, 6, none⟩ (.int .i64 (f 5))).setCell ⟨q, 7, none⟩ (.int .i64 (f 6))).setCell ⟨q, 8, none⟩ (.int .i64 (f 7))).heap.size ∧ b < (((((((((u.setCell ⟨q, 0, none⟩ (.int .i64 m)).setCell ⟨q, 1, none⟩ (.int .i64 (f 0))).setCell ⟨q, 2, none⟩ (.int .i64 (f 1))).setCell ⟨q, 3, none⟩ (.int .i64 (f 2))).setCell ⟨q, 4, none⟩ (.int .i64 (f 3))).setCell ⟨q, 5, none⟩ (.int .i64 (f 4))).setCell ⟨q, 6, none⟩ (.int .i64 (f 5))).setCell ⟨q, 7, none⟩ (.int .i64 (f 6))).setCell ⟨q, 8, none⟩ (.int .i64 (f 7))).heap.size ∧ (((((((((u.setCell ⟨q, 0, none⟩ (.int .i64 m)).setCell ⟨q, 1, none⟩ (.int .i64 (f 0))).setCell ⟨q, 2, none⟩ (.int .i64 (f 1))).setCell ⟨q, 3, none⟩ (.int .i64 (f 2))).setCell ⟨q, 4, none⟩ (.int .i64 (f 3))).setCell ⟨q, 5, none⟩ (.int .i64 (f 4))).setCell ⟨q, 6, none⟩ (.int .i64 (f 5))).setCell ⟨q, 7, none⟩ (.int .i64 (f 6))).setCell ⟨q, 8, none⟩ (.int .i64 (f 7))).cell? ⟨b, o, none⟩ = some (.int .i64 x) ∧ (((((((((u.setCell ⟨q, 0, none⟩ (.int .i64 m)).setCell ⟨q, 1, none⟩ (.int .i64 (f 0))).setCell ⟨q, 2, none⟩ (.int .i64 (f 1))).setCell ⟨q, 3, none⟩ (.int .i64 (f 2))).setCell ⟨q, 4, none⟩ (.int .i64 (f 3))).setCell ⟨q, 5, none⟩ (.int .i64 (f 4))).setCell ⟨q, 6, none⟩ (.int .i64 (f 5))).setCell ⟨q, 7, none⟩ (.int .i64 (f 6))).setCell ⟨q, 8, none⟩ (.int .i64 (f 7))).cell? ⟨g, 0, none⟩ = some (.int .i64 n) ∧ (((((((((u.setCell ⟨q, 0, none⟩ (.int .i64 m)).setCell ⟨q, 1, none⟩ (.int .i64 (f 0))).setCell ⟨q, 2, none⟩ (.int .i64 (f 1))).setCell ⟨q, 3, none⟩ (.int .i64 (f 2))).setCell ⟨q, 4, none⟩ (.int .i64 (f 3))).setCell ⟨q, 5, none⟩ (.int .i64 (f 4))).setCell ⟨q, 6, none⟩ (.int .i64 (f 5))).setCell ⟨q, 7, none⟩ (.int .i64 (f 6))).setCell ⟨q, 8, none⟩ (.int .i64 (f 7))).cell? ⟨g, 1, none⟩ = some (.int .i64 (l 0)) ∧ (((((((((u.setCell ⟨q, 0, none⟩ (.int .i64 m)).setCell ⟨q, 1, none⟩ (.int .i64 (f 0))).setCell ⟨q, 2, none⟩ (.int .i64 (f 1))).setCell ⟨q, 3, none⟩ (.int .i64 (f 2))).setCell ⟨q, 4, none⟩ (.int .i64 (f 3))).setCell ⟨q, 5, none⟩ (.int .i64 (f 4))).setCell ⟨q, 6, none⟩ (.int .i64 (f 5))).setCell ⟨q, 7, none⟩ (.int .i64 (f 6))).setCell ⟨q, 8, none⟩ (.int .i64 (f 7))).cell? ⟨g, 2, none⟩ = some (.int .i64 (l 1)) ∧ (((((((((u.setCell ⟨q, 0, none⟩ (.int .i64 m)).setCell ⟨q, 1, none⟩ (.int .i64 (f 0))).setCell ⟨q, 2, none⟩ (.int .i64 (f 1))).setCell ⟨q, 3, none⟩ (.int .i64 (f 2))).setCell ⟨q, 4, none⟩ (.int .i64 (f 3))).setCell ⟨q, 5, none⟩ (.int .i64 (f 4))).setCell ⟨q, 6, none⟩ (.int .i64 (f 5))).setCell ⟨q, 7, none⟩ (.int .i64 (f 6))).setCell ⟨q, 8, none⟩ (.int .i64 (f 7))).cell? ⟨g, 3, none⟩ = some (.int .i64 (l 2)) ∧ (((((((((u.setCell ⟨q, 0, none⟩ (.int .i64 m)).setCell ⟨q, 1, none⟩ (.int .i64 (f 0))).setCell ⟨q, 2, none⟩ (.int .i64 (f 1))).setCell ⟨q, 3, none⟩ (.int .i64 (f 2))).setCell ⟨q, 4, none⟩ (.int .i64 (f 3))).setCell ⟨q, 5, none⟩ (.int .i64 (f 4))).setCell ⟨q, 6, none⟩ (.int .i64 (f 5))).setCell ⟨q, 7, none⟩ (.int .i64 (f 6))).setCell ⟨q, 8, none⟩ (.int .i64 (f 7))).cell? ⟨g, 4, none⟩ = some (.int .i64 (l 3)) ∧ (((((((((u.setCell ⟨q, 0, none⟩ (.int .i64 m)).setCell ⟨q, 1, none⟩ (.int .i64 (f 0))).setCell ⟨q, 2, none⟩ (.int .i64 (f 1))).setCell ⟨q, 3, none⟩ (.int .i64 (f 2))).setCell ⟨q, 4, none⟩ (.int .i64 (f 3))).setCell ⟨q, 5, none⟩ (.int .i64 (f 4))).setCell ⟨q, 6, none⟩ (.int .i64 (f 5))).setCell ⟨q, 7, none⟩ (.int .i64 (f 6))).setCell ⟨q, 8, none⟩ (.int .i64 (f 7))).cell? ⟨g, 5, none⟩ = some (.int .i64 (l 4)) ∧ (((((((((u.setCell ⟨q, 0, none⟩ (.int .i64 m)).setCell ⟨q, 1, none⟩ (.int .i64 (f 0))).setCell ⟨q, 2, none⟩ (.int .i64 (f 1))).setCell ⟨q, 3, none⟩ (.int .i64 (f 2))).setCell ⟨q, 4, none⟩ (.int .i64 (f 3))).setCell ⟨q, 5, none⟩ (.int .i64 (f 4))).setCell ⟨q, 6, none⟩ (.int .i64 (f 5))).setCell ⟨q, 7, none⟩ (.int .i64 (f 6))).setCell ⟨q, 8, none⟩ (.int .i64 (f 7))).cell? ⟨g, 6, none⟩ = some (.int .i64 (l 5)) ∧ (((((((((u.setCell ⟨q, 0, none⟩ (.int .i64 m)).setCell ⟨q, 1, none⟩ (.int .i64 (f 0))).setCell ⟨q, 2, none⟩ (.int .i64 (f 1))).setCell ⟨q, 3, none⟩ (.int .i64 (f 2))).setCell ⟨q, 4, none⟩ (.int .i64 (f 3))).setCell ⟨q, 5, none⟩ (.int .i64 (f 4))).setCell ⟨q, 6, none⟩ (.int .i64 (f 5))).setCell ⟨q, 7, none⟩ (.int .i64 (f 6))).setCell ⟨q, 8, none⟩ (.int .i64 (f 7))).cell? ⟨g, 7, none⟩ = some (.int .i64 (l 6)) ∧ (((((((((u.setCell ⟨q, 0, none⟩ (.int .i64 m)).setCell ⟨q, 1, none⟩ (.int .i64 (f 0))).setCell ⟨q, 2, none⟩ (.int .i64 (f 1))).setCell ⟨q, 3, none⟩ (.int .i64 (f 2))).setCell ⟨q, 4, none⟩ (.int .i64 (f 3))).setCell ⟨q, 5, none⟩ (.int .i64 (f 4))).setCell ⟨q, 6, none⟩ (.int .i64 (f 5))).setCell ⟨q, 7, none⟩ (.int .i64 (f 6))).setCell ⟨q, 8, none⟩ (.int .i64 (f 7))).cell? ⟨g, 8, none⟩ = some (.int .i64 (l 7)) := by
  obtain ⟨h1, h2, h3, d0, d1, d2, d3, d4, d5, d6, d7, d8⟩ := h
  exact ⟨by rw [size9]; exact h1, by rw [size9]; exact h2, cell9 h3 hb, cell9 d0 hg, cell9 d1 hg, cell9 d2 hg, cell9 d3 hg, cell9 d4 hg, cell9 d5 hg, cell9 d6 hg, cell9 d7 hg, cell9 d8 hg⟩
theorem RAt.other9 {u : World} {g q : Nat} {n m : Int} {l f : Nat → Int} (h : RAt u g n l) (hg : g ≠ q) : RAt (((((((((u.setCell ⟨q, 0, none⟩ (.int .i64 m)).setCell ⟨q, 1, none⟩ (.int .i64 (f 0))).setCell ⟨q, 2, none⟩ (.int .i64 (f 1))).setCell ⟨q, 3, none⟩ (.int .i64 (f 2))).setCell ⟨q, 4, none⟩ (.int .i64 (f 3))).setCell ⟨q, 5, none⟩ (.int .i64 (f 4))).setCell ⟨q, 6, none⟩ (.int .i64 (f 5))).setCell ⟨q, 7, none⟩ (.int .i64 (f 6))).setCell ⟨q, 8, none⟩ (.int .i64 (f 7))) g n l := ((((((((h.other _ _ hg).other _ _ hg).other _ _ hg).other _ _ hg).other _ _ hg).other _ _ hg).other _ _ hg).other _ _ hg).other _ _ hg

set_option maxRecDepth 100000 in
set_option maxHeartbeats 3200000 in
theorem wBack (ao : Option Addr) (len cap : Nat) (z : Nat → Int) (w : World) (hl : Came w ao len z) :
    Calls Try.prog 4 #[.slice ao len cap] w fun e w' => e = .returned (.bool true) ∧ Below w.heap.size w w' := by
  go_enter Try.func4, Try.ntmps4
  go_wp2_with (go_at_call 9; refine (cShown _).mono ?_; rintro e w1 ⟨rfl, hb1⟩)
  go_loopw [5] (fun q wr => ∃ k : Nat, k ≤ 8 ∧ k ≤ len ∧ q = .int .i64 k ∧ RAt wr w1.heap.size k (cut z k) ∧ Below w.heap.size w wr) (fun q _ => 9 - (intOf q).toNat)
  case atStart => exact ⟨0, by omega, by omega, rfl, startR w1 z, bal hb1 _⟩
  case round =>
    obtain ⟨k, hk, hkl, rfl, hR, hB⟩ := hrel
    obtain ⟨wo, rfl⟩ : ∃ wo : World, wo = wr := ⟨_, rfl⟩
    have k0 : (0 : Int) ≤ (k : Int) := by omega
    have z1 := hR.lt
    by_cases hlt : k < len
    case pos =>
      rcases hl with hl | ⟨b, off, rfl, hbB, hc⟩
      · omega
      have kl : (k : Int) < (len : Int) := by omega
      have k9 : (k : Int) < 9 := by omega
      have hcell : wo.drew.cell? ⟨b, off + k, none⟩ = some (.int .i64 (z k)) := (hB.cell hbB).trans (hc k hlt)
      have bo : b < wo.heap.size := World.block_lt_of_cell? _ _ hcell
      have H : w1.heap.size < wo.drew.heap.size ∧ b < wo.drew.heap.size ∧ wo.drew.cell? ⟨b, off + k, none⟩ = some (.int .i64 (z k)) ∧ wo.drew.cell? ⟨w1.heap.size, 0, none⟩ = some (.int .i64 k) ∧ wo.drew.cell? ⟨w1.heap.size, 1, none⟩ = some (.int .i64 (cut z k 0)) ∧ wo.drew.cell? ⟨w1.heap.size, 2, none⟩ = some (.int .i64 (cut z k 1)) ∧ wo.drew.cell? ⟨w1.heap.size, 3, none⟩ = some (.int .i64 (cut z k 2)) ∧ wo.drew.cell? ⟨w1.heap.size, 4, none⟩ = some (.int .i64 (cut z k 3)) ∧ wo.drew.cell? ⟨w1.heap.size, 5, none⟩ = some (.int .i64 (cut z k 4)) ∧ wo.drew.cell? ⟨w1.heap.size, 6, none⟩ = some (.int .i64 (cut z k 5)) ∧ wo.drew.cell? ⟨w1.heap.size, 7, none⟩ = some (.int .i64 (cut z k 6)) ∧ wo.drew.cell? ⟨w1.heap.size, 8, none⟩ = some (.int .i64 (cut z k 7)) := s_of hR.drew hcell
      by_cases h8 : k < 8
      case pos =>
        have k8 : ((k : Int) == 8) = false := by simp; omega
        have hP := pushNext z k h8
        have hD := dropLast z k h8
        have N1 := sameR k (cut z k)
        go_wp2
        refine wp_region_held_drew (S := fun w' => w1.heap.size < w'.heap.size ∧ b < w'.heap.size ∧ w'.cell? ⟨b, off + k, none⟩ = some (.int .i64 (z k)) ∧ w'.cell? ⟨w1.heap.size, 0, none⟩ = some (.int .i64 k) ∧ w'.cell? ⟨w1.heap.size, 1, none⟩ = some (.int .i64 (cut z k 0)) ∧ w'.cell? ⟨w1.heap.size, 2, none⟩ = some (.int .i64 (cut z k 1)) ∧ w'.cell? ⟨w1.heap.size, 3, none⟩ = some (.int .i64 (cut z k 2)) ∧ w'.cell? ⟨w1.heap.size, 4, none⟩ = some (.int .i64 (cut z k 3)) ∧ w'.cell? ⟨w1.heap.size, 5, none⟩ = some (.int .i64 (cut z k 4)) ∧ w'.cell? ⟨w1.heap.size, 6, none⟩ = some (.int .i64 (cut z k 5)) ∧ w'.cell? ⟨w1.heap.size, 7, none⟩ = some (.int .i64 (cut z k 6)) ∧ w'.cell? ⟨w1.heap.size, 8, none⟩ = some (.int .i64 (cut z k 7))) (by kernel_rfl) H (fun hHeld => ?_)
        refine takeH (i := 0) 26 (rv k (cut z k)) rfl rfl (by kernel_rfl) (by kernel_rfl) (by kernel_rfl) (fun _ _ _ h => h) (by rfl) ?_ (by assumption) ?_
        · intro w hSw; (try dsimp only at hSw); go_simp
        simp only [List.setIfInBounds_toArray, List.set_cons_zero, List.set_cons_succ]
        refine takeH (i := 1) 27 (.slice (some ⟨b, off, none⟩) len cap) rfl rfl (by kernel_rfl) (by kernel_rfl) (by kernel_rfl) (fun _ _ _ h => h) (by rfl) ?_ (by assumption) ?_
        · intro w hSw; (try dsimp only at hSw); go_simp
        simp only [List.setIfInBounds_toArray, List.set_cons_zero, List.set_cons_succ]
        refine takeH (i := 2) 28 (.int .i64 k) rfl rfl (by kernel_rfl) (by kernel_rfl) (by kernel_rfl) (fun _ _ _ h => h) (by rfl) ?_ (by assumption) ?_
        · intro w hSw; (try dsimp only at hSw); go_simp
        simp only [List.setIfInBounds_toArray, List.set_cons_zero, List.set_cons_succ]
        refine takeH (i := 3) 29 (.pointer (some ⟨b, off + k, none⟩)) rfl rfl (by kernel_rfl) (by kernel_rfl) (by kernel_rfl) (fun _ _ _ h => h) (by rfl) ?_ (by assumption) ?_
        · intro w hSw; (try dsimp only at hSw); go_simp
        simp only [List.setIfInBounds_toArray, List.set_cons_zero, List.set_cons_succ]
        refine takeH (i := 4) 30 (.int .i64 (z k)) rfl rfl (by kernel_rfl) (by kernel_rfl) (by kernel_rfl) (fun _ _ _ h => h) (by rfl) ?_ (by assumption) ?_
        · intro w hSw; (try dsimp only at hSw); go_simp
        simp only [List.setIfInBounds_toArray, List.set_cons_zero, List.set_cons_succ]
        refine wpAnyH_ready (rs := [5, 9]) (by kernel_rfl) (by simp) ?_
        refine AllReadyH.cons rfl (fun K hK => ?_) (AllReadyH.cons rfl (fun K hK => ?_) AllReadyH.nil)
        · go_simp
          refine (hP _).mono ?_; rintro e w2 ⟨rfl, hb2⟩
          refine hK.out _ _ (s_on hHeld hb2) (fun hHeld => ?_)
          clear hK K
          try simp only [Act.put, List.setIfInBounds_toArray, List.set_cons_zero, List.set_cons_succ]
          refine takeH (i := 6) 25 (Value.tuple #[rv ((k : Int) + 1) (cut z ((k : Int) + 1)), .int .i64 0]) rfl rfl (by kernel_rfl) (by kernel_rfl) (by kernel_rfl) (fun _ _ _ h => h) (by rfl) ?_ (by assumption) ?_
          · intro w hSw; (try dsimp only at hSw); go_simp
          simp only [List.setIfInBounds_toArray, List.set_cons_zero, List.set_cons_succ]
          refine takeH (i := 7) 32 (rv ((k : Int) + 1) (cut z ((k : Int) + 1))) rfl rfl (by kernel_rfl) (by kernel_rfl) (by kernel_rfl) (fun _ _ _ h => h) (by rfl) ?_ (by assumption) ?_
          · intro w hSw; (try dsimp only at hSw); go_simp
          simp only [List.setIfInBounds_toArray, List.set_cons_zero, List.set_cons_succ]
          refine takeH (i := 8) 33 (.int .i64 0) rfl rfl (by kernel_rfl) (by kernel_rfl) (by kernel_rfl) (fun _ _ _ h => h) (by rfl) ?_ (by assumption) ?_
          · intro w hSw; (try dsimp only at hSw); go_simp
          simp only [List.setIfInBounds_toArray, List.set_cons_zero, List.set_cons_succ]
          refine wpAnyH_ready (rs := [9]) (by kernel_rfl) (by simp) ?_
          refine AllReadyH.cons rfl (fun K hK => ?_) AllReadyH.nil
          go_simp
          refine hK.out _ _ (s_on hHeld ((Below.refl _ _).alloc (Nat.le_refl _) _)) (fun hHeld => ?_)
          clear hK K
          try simp only [Act.put, List.setIfInBounds_toArray, List.set_cons_zero, List.set_cons_succ]
          refine wpAnyH_ready (rs := [10]) (by kernel_rfl) (by simp) ?_
          refine AllReadyH.cons rfl (fun K hK => ?_) AllReadyH.nil
          go_simp
          refine hK.out _ _ (s_on (s_on H hb2) ((Below.refl _ _).alloc (Nat.le_refl _) _)) (fun hHeld => ?_)
          clear hK K
          try simp only [Act.put, List.setIfInBounds_toArray, List.set_cons_zero, List.set_cons_succ]
          refine takeH (i := 11) 7 (.int .i64 0) rfl rfl (by kernel_rfl) (by kernel_rfl) (by kernel_rfl) (fun _ _ _ h => h) (by rfl) ?_ (by assumption) ?_
          · intro w hSw; (try dsimp only at hSw); go_simp
          simp only [List.setIfInBounds_toArray, List.set_cons_zero, List.set_cons_succ]
          refine wpAnyH_done (by kernel_rfl) ?_ _
          have hRW : RAt (w2.alloc (.cells #[.int .i64 ((k : Int) + 1), .int .i64 (cut z ((k : Int) + 1) 0), .int .i64 (cut z ((k : Int) + 1) 1), .int .i64 (cut z ((k : Int) + 1) 2), .int .i64 (cut z ((k : Int) + 1) 3), .int .i64 (cut z ((k : Int) + 1) 4), .int .i64 (cut z ((k : Int) + 1) 5), .int .i64 (cut z ((k : Int) + 1) 6), .int .i64 (cut z ((k : Int) + 1) 7)] 24)) w1.heap.size k (cut z k) := (RAt.on hR.drew hb2).alloc _
          have hSW : RAt (w2.alloc (.cells #[.int .i64 ((k : Int) + 1), .int .i64 (cut z ((k : Int) + 1) 0), .int .i64 (cut z ((k : Int) + 1) 1), .int .i64 (cut z ((k : Int) + 1) 2), .int .i64 (cut z ((k : Int) + 1) 3), .int .i64 (cut z ((k : Int) + 1) 4), .int .i64 (cut z ((k : Int) + 1) 5), .int .i64 (cut z ((k : Int) + 1) 6), .int .i64 (cut z ((k : Int) + 1) 7)] 24)) w2.heap.size ((k : Int) + 1) (cut z ((k : Int) + 1)) := RAt.new w2 _ _
          have hBW : Below w.heap.size w (w2.alloc (.cells #[.int .i64 ((k : Int) + 1), .int .i64 (cut z ((k : Int) + 1) 0), .int .i64 (cut z ((k : Int) + 1) 1), .int .i64 (cut z ((k : Int) + 1) 2), .int .i64 (cut z ((k : Int) + 1) 3), .int .i64 (cut z ((k : Int) + 1) 4), .int .i64 (cut z ((k : Int) + 1) 5), .int .i64 (cut z ((k : Int) + 1) 6), .int .i64 (cut z ((k : Int) + 1) 7)] 24)) := bal (bt hB.drew hb2) _
          clear hHeld
          generalize (w2.alloc (.cells #[.int .i64 ((k : Int) + 1), .int .i64 (cut z ((k : Int) + 1) 0), .int .i64 (cut z ((k : Int) + 1) 1), .int .i64 (cut z ((k : Int) + 1) 2), .int .i64 (cut z ((k : Int) + 1) 3), .int .i64 (cut z ((k : Int) + 1) 4), .int .i64 (cut z ((k : Int) + 1) 5), .int .i64 (cut z ((k : Int) + 1) 6), .int .i64 (cut z ((k : Int) + 1) 7)] 24)) = W at hRW hSW hBW ⊢
          obtain ⟨c0, c1, c2, c3, c4, c5, c6, c7, c8⟩ := hRW.cells
          obtain ⟨d0, d1, d2, d3, d4, d5, d6, d7, d8⟩ := hSW.cells
          have zr := hRW.lt
          have zs := hSW.lt
          have E := N1
          go_wp2_with (go_at_call 12; refine (hD _).mono ?_; rintro e w3 ⟨rfl, hb3⟩; have hR3 := RAt.on hRW hb3; have hS3 := RAt.on hSW hb3; obtain ⟨e0, e1, e2, e3, e4, e5, e6, e7, e8⟩ := hR3.cells; obtain ⟨f0, f1, f2, f3, f4, f5, f6, f7, f8⟩ := hS3.cells; have zr3 := hR3.lt; have zs3 := hS3.lt; have hfr := hR3.free; have hB3 := bt hBW hb3)
          go_loopw [10] (fun q wr => ∃ j : Nat, j ≤ k + 1 ∧ q = .int .i64 j ∧ RAt wr w1.heap.size ((k : Int) + 1) (cut z ((k : Int) + 1)) ∧ Below w.heap.size w wr) (fun q _ => k + 1 - (intOf q).toNat)
          case atStart => exact ⟨0, by omega, rfl, (hR3.put9).alloc _, bal (b9 hb1.size hB3) _⟩
          case round =>
            obtain ⟨j, hj, rfl, hRi, hBi⟩ := hrel
            obtain ⟨wi, rfl⟩ : ∃ wi : World, wi = wr := ⟨_, rfl⟩
            have j0 : (0 : Int) ≤ (j : Int) := by omega
            by_cases hjk : j ≤ k
            case pos =>
              have jk : (j : Int) ≤ (k : Int) := by omega
              have jl : (j : Int) < (len : Int) := by omega
              have hcj : wi.cell? ⟨b, off + j, none⟩ = some (.int .i64 (z j)) := (hBi.cell hbB).trans (hc j (by omega))
              have hG := getOne z ((k : Int) + 1) (k + 1) j (by omega) (by omega) (by omega)
              obtain ⟨g0, g1, g2, g3, g4, g5, g6, g7, g8⟩ := hRi.cells
              go_wp2_with (go_at_call 14; refine (hG _).mono ?_; rintro e w4 ⟨rfl, hb4⟩; have hR4 := RAt.on hRi hb4; have hB4 := bt hBi hb4; have hcj4 := (hb4.cell (World.block_lt_of_cell? _ _ hcj)).trans hcj)
              go_roundw
              case rel => exact ⟨j + 1, by omega, by go_num, hR4, hB4⟩
              case measure => simp [intOf]; omega
            case neg =>
              have jk : ¬ (j : Int) ≤ (k : Int) := by omega
              clear c0 c1 c2 c3 c4 c5 c6 c7 c8 d0 d1 d2 d3 d4 d5 d6 d7 d8 e0 e1 e2 e3 e4 e5 e6 e7 e8 f0 f1 f2 f3 f4 f5 f6 f7 f8 N1 E hD hP H hcell hfr
              go_wp2
              go_roundw
              case rel => exact ⟨k + 1, by omega, by omega, by go_num, by rw [show ((k + 1 : Nat) : Int) = (k : Int) + 1 by omega]; exact hRi, hBi⟩
              case measure => simp [intOf]; omega
        · go_simp
          refine hK.out _ _ (s_on hHeld ((Below.refl _ _).alloc (Nat.le_refl _) _)) (fun hHeld => ?_)
          clear hK K
          try simp only [Act.put, List.setIfInBounds_toArray, List.set_cons_zero, List.set_cons_succ]
          refine wpAnyH_ready (rs := [5]) (by kernel_rfl) (by simp) ?_
          refine AllReadyH.cons rfl (fun K hK => ?_) AllReadyH.nil
          go_simp
          refine (hP _).mono ?_; rintro e w2 ⟨rfl, hb2⟩; have hS2 : RAt w2 wo.heap.size 0 nil := RAt.on (RAt.new wo.drew 0 nil) hb2; obtain ⟨d0, d1, d2, d3, d4, d5, d6, d7, d8⟩ := hS2.cells; have hf2 := hS2.free
          refine hK.out _ _ (s_on hHeld hb2) (fun hHeld => ?_)
          clear hK K
          try simp only [Act.put, List.setIfInBounds_toArray, List.set_cons_zero, List.set_cons_succ]
          refine takeH (i := 6) 25 (Value.tuple #[rv ((k : Int) + 1) (cut z ((k : Int) + 1)), .int .i64 0]) rfl rfl (by kernel_rfl) (by kernel_rfl) (by kernel_rfl) (fun _ _ _ h => h) (by rfl) ?_ (by assumption) ?_
          · intro w hSw; (try dsimp only at hSw); go_simp
          simp only [List.setIfInBounds_toArray, List.set_cons_zero, List.set_cons_succ]
          refine takeH (i := 7) 32 (rv ((k : Int) + 1) (cut z ((k : Int) + 1))) rfl rfl (by kernel_rfl) (by kernel_rfl) (by kernel_rfl) (fun _ _ _ h => h) (by rfl) ?_ (by assumption) ?_
          · intro w hSw; (try dsimp only at hSw); go_simp
          simp only [List.setIfInBounds_toArray, List.set_cons_zero, List.set_cons_succ]
          refine takeH (i := 8) 33 (.int .i64 0) rfl rfl (by kernel_rfl) (by kernel_rfl) (by kernel_rfl) (fun _ _ _ h => h) (by rfl) ?_ (by assumption) ?_
          · intro w hSw; (try dsimp only at hSw); go_simp
          simp only [List.setIfInBounds_toArray, List.set_cons_zero, List.set_cons_succ]
          refine wpAnyH_ready (rs := [10]) (by kernel_rfl) (by simp) ?_
          refine AllReadyH.cons rfl (fun K hK => ?_) AllReadyH.nil
          go_simp
          refine hK.out _ _ (s_chain hHeld (by omega) (by omega)) (fun hHeld => ?_)
          clear hK K
          try simp only [Act.put, List.setIfInBounds_toArray, List.set_cons_zero, List.set_cons_succ]
          refine takeH (i := 11) 7 (.int .i64 0) rfl rfl (by kernel_rfl) (by kernel_rfl) (by kernel_rfl) (fun _ _ _ h => h) (by rfl) ?_ (by assumption) ?_
          · intro w hSw; (try dsimp only at hSw); go_simp
          simp only [List.setIfInBounds_toArray, List.set_cons_zero, List.set_cons_succ]
          refine wpAnyH_done (by kernel_rfl) ?_ _
          have hRW : RAt (((((((((w2.setCell ⟨wo.heap.size, 0, none⟩ (.int .i64 ((k : Int) + 1))).setCell ⟨wo.heap.size, 1, none⟩ (.int .i64 (cut z ((k : Int) + 1) 0))).setCell ⟨wo.heap.size, 2, none⟩ (.int .i64 (cut z ((k : Int) + 1) 1))).setCell ⟨wo.heap.size, 3, none⟩ (.int .i64 (cut z ((k : Int) + 1) 2))).setCell ⟨wo.heap.size, 4, none⟩ (.int .i64 (cut z ((k : Int) + 1) 3))).setCell ⟨wo.heap.size, 5, none⟩ (.int .i64 (cut z ((k : Int) + 1) 4))).setCell ⟨wo.heap.size, 6, none⟩ (.int .i64 (cut z ((k : Int) + 1) 5))).setCell ⟨wo.heap.size, 7, none⟩ (.int .i64 (cut z ((k : Int) + 1) 6))).setCell ⟨wo.heap.size, 8, none⟩ (.int .i64 (cut z ((k : Int) + 1) 7))) w1.heap.size k (cut z k) := RAt.other9 (RAt.on (RAt.alloc hR.drew _) hb2) (by omega)
          have hSW : RAt (((((((((w2.setCell ⟨wo.heap.size, 0, none⟩ (.int .i64 ((k : Int) + 1))).setCell ⟨wo.heap.size, 1, none⟩ (.int .i64 (cut z ((k : Int) + 1) 0))).setCell ⟨wo.heap.size, 2, none⟩ (.int .i64 (cut z ((k : Int) + 1) 1))).setCell ⟨wo.heap.size, 3, none⟩ (.int .i64 (cut z ((k : Int) + 1) 2))).setCell ⟨wo.heap.size, 4, none⟩ (.int .i64 (cut z ((k : Int) + 1) 3))).setCell ⟨wo.heap.size, 5, none⟩ (.int .i64 (cut z ((k : Int) + 1) 4))).setCell ⟨wo.heap.size, 6, none⟩ (.int .i64 (cut z ((k : Int) + 1) 5))).setCell ⟨wo.heap.size, 7, none⟩ (.int .i64 (cut z ((k : Int) + 1) 6))).setCell ⟨wo.heap.size, 8, none⟩ (.int .i64 (cut z ((k : Int) + 1) 7))) wo.heap.size ((k : Int) + 1) (cut z ((k : Int) + 1)) := hS2.put9
          have hBW : Below w.heap.size w (((((((((w2.setCell ⟨wo.heap.size, 0, none⟩ (.int .i64 ((k : Int) + 1))).setCell ⟨wo.heap.size, 1, none⟩ (.int .i64 (cut z ((k : Int) + 1) 0))).setCell ⟨wo.heap.size, 2, none⟩ (.int .i64 (cut z ((k : Int) + 1) 1))).setCell ⟨wo.heap.size, 3, none⟩ (.int .i64 (cut z ((k : Int) + 1) 2))).setCell ⟨wo.heap.size, 4, none⟩ (.int .i64 (cut z ((k : Int) + 1) 3))).setCell ⟨wo.heap.size, 5, none⟩ (.int .i64 (cut z ((k : Int) + 1) 4))).setCell ⟨wo.heap.size, 6, none⟩ (.int .i64 (cut z ((k : Int) + 1) 5))).setCell ⟨wo.heap.size, 7, none⟩ (.int .i64 (cut z ((k : Int) + 1) 6))).setCell ⟨wo.heap.size, 8, none⟩ (.int .i64 (cut z ((k : Int) + 1) 7))) := b9 hB.size (bt (bal hB.drew _) hb2)
          clear hHeld
          generalize (((((((((w2.setCell ⟨wo.heap.size, 0, none⟩ (.int .i64 ((k : Int) + 1))).setCell ⟨wo.heap.size, 1, none⟩ (.int .i64 (cut z ((k : Int) + 1) 0))).setCell ⟨wo.heap.size, 2, none⟩ (.int .i64 (cut z ((k : Int) + 1) 1))).setCell ⟨wo.heap.size, 3, none⟩ (.int .i64 (cut z ((k : Int) + 1) 2))).setCell ⟨wo.heap.size, 4, none⟩ (.int .i64 (cut z ((k : Int) + 1) 3))).setCell ⟨wo.heap.size, 5, none⟩ (.int .i64 (cut z ((k : Int) + 1) 4))).setCell ⟨wo.heap.size, 6, none⟩ (.int .i64 (cut z ((k : Int) + 1) 5))).setCell ⟨wo.heap.size, 7, none⟩ (.int .i64 (cut z ((k : Int) + 1) 6))).setCell ⟨wo.heap.size, 8, none⟩ (.int .i64 (cut z ((k : Int) + 1) 7))) = W at hRW hSW hBW ⊢
          clear d0 d1 d2 d3 d4 d5 d6 d7 d8 hf2 hS2
          obtain ⟨c0, c1, c2, c3, c4, c5, c6, c7, c8⟩ := hRW.cells
          obtain ⟨d0, d1, d2, d3, d4, d5, d6, d7, d8⟩ := hSW.cells
          have zr := hRW.lt
          have zs := hSW.lt
          have E := N1
          go_wp2_with (go_at_call 12; refine (hD _).mono ?_; rintro e w3 ⟨rfl, hb3⟩; have hR3 := RAt.on hRW hb3; have hS3 := RAt.on hSW hb3; obtain ⟨e0, e1, e2, e3, e4, e5, e6, e7, e8⟩ := hR3.cells; obtain ⟨f0, f1, f2, f3, f4, f5, f6, f7, f8⟩ := hS3.cells; have zr3 := hR3.lt; have zs3 := hS3.lt; have hfr := hR3.free; have hB3 := bt hBW hb3)
          go_loopw [10] (fun q wr => ∃ j : Nat, j ≤ k + 1 ∧ q = .int .i64 j ∧ RAt wr w1.heap.size ((k : Int) + 1) (cut z ((k : Int) + 1)) ∧ Below w.heap.size w wr) (fun q _ => k + 1 - (intOf q).toNat)
          case atStart => exact ⟨0, by omega, rfl, (hR3.put9).alloc _, bal (b9 hb1.size hB3) _⟩
          case round =>
            obtain ⟨j, hj, rfl, hRi, hBi⟩ := hrel
            obtain ⟨wi, rfl⟩ : ∃ wi : World, wi = wr := ⟨_, rfl⟩
            have j0 : (0 : Int) ≤ (j : Int) := by omega
            by_cases hjk : j ≤ k
            case pos =>
              have jk : (j : Int) ≤ (k : Int) := by omega
              have jl : (j : Int) < (len : Int) := by omega
              have hcj : wi.cell? ⟨b, off + j, none⟩ = some (.int .i64 (z j)) := (hBi.cell hbB).trans (hc j (by omega))
              have hG := getOne z ((k : Int) + 1) (k + 1) j (by omega) (by omega) (by omega)
              obtain ⟨g0, g1, g2, g3, g4, g5, g6, g7, g8⟩ := hRi.cells
              go_wp2_with (go_at_call 14; refine (hG _).mono ?_; rintro e w4 ⟨rfl, hb4⟩; have hR4 := RAt.on hRi hb4; have hB4 := bt hBi hb4; have hcj4 := (hb4.cell (World.block_lt_of_cell? _ _ hcj)).trans hcj)
              go_roundw
              case rel => exact ⟨j + 1, by omega, by go_num, hR4, hB4⟩
              case measure => simp [intOf]; omega
            case neg =>
              have jk : ¬ (j : Int) ≤ (k : Int) := by omega
              clear c0 c1 c2 c3 c4 c5 c6 c7 c8 d0 d1 d2 d3 d4 d5 d6 d7 d8 e0 e1 e2 e3 e4 e5 e6 e7 e8 f0 f1 f2 f3 f4 f5 f6 f7 f8 N1 E hD hP H hcell hfr
              go_wp2
              go_roundw
              case rel => exact ⟨k + 1, by omega, by omega, by go_num, by rw [show ((k + 1 : Nat) : Int) = (k : Int) + 1 by omega]; exact hRi, hBi⟩
              case measure => simp [intOf]; omega
      case neg =>
        have k8 : ((k : Int) == 8) = true := by simp; omega
        have hP := pushFull z k (by omega)
        go_wp2
        refine wp_region_held_drew (S := fun w' => w1.heap.size < w'.heap.size ∧ b < w'.heap.size ∧ w'.cell? ⟨b, off + k, none⟩ = some (.int .i64 (z k)) ∧ w'.cell? ⟨w1.heap.size, 0, none⟩ = some (.int .i64 k) ∧ w'.cell? ⟨w1.heap.size, 1, none⟩ = some (.int .i64 (cut z k 0)) ∧ w'.cell? ⟨w1.heap.size, 2, none⟩ = some (.int .i64 (cut z k 1)) ∧ w'.cell? ⟨w1.heap.size, 3, none⟩ = some (.int .i64 (cut z k 2)) ∧ w'.cell? ⟨w1.heap.size, 4, none⟩ = some (.int .i64 (cut z k 3)) ∧ w'.cell? ⟨w1.heap.size, 5, none⟩ = some (.int .i64 (cut z k 4)) ∧ w'.cell? ⟨w1.heap.size, 6, none⟩ = some (.int .i64 (cut z k 5)) ∧ w'.cell? ⟨w1.heap.size, 7, none⟩ = some (.int .i64 (cut z k 6)) ∧ w'.cell? ⟨w1.heap.size, 8, none⟩ = some (.int .i64 (cut z k 7))) (by kernel_rfl) H (fun hHeld => ?_)
        refine takeH (i := 0) 26 (rv k (cut z k)) rfl rfl (by kernel_rfl) (by kernel_rfl) (by kernel_rfl) (fun _ _ _ h => h) (by rfl) ?_ (by assumption) ?_
        · intro w hSw; (try dsimp only at hSw); go_simp
        simp only [List.setIfInBounds_toArray, List.set_cons_zero, List.set_cons_succ]
        refine takeH (i := 1) 27 (.slice (some ⟨b, off, none⟩) len cap) rfl rfl (by kernel_rfl) (by kernel_rfl) (by kernel_rfl) (fun _ _ _ h => h) (by rfl) ?_ (by assumption) ?_
        · intro w hSw; (try dsimp only at hSw); go_simp
        simp only [List.setIfInBounds_toArray, List.set_cons_zero, List.set_cons_succ]
        refine takeH (i := 2) 28 (.int .i64 k) rfl rfl (by kernel_rfl) (by kernel_rfl) (by kernel_rfl) (fun _ _ _ h => h) (by rfl) ?_ (by assumption) ?_
        · intro w hSw; (try dsimp only at hSw); go_simp
        simp only [List.setIfInBounds_toArray, List.set_cons_zero, List.set_cons_succ]
        refine takeH (i := 3) 29 (.pointer (some ⟨b, off + k, none⟩)) rfl rfl (by kernel_rfl) (by kernel_rfl) (by kernel_rfl) (fun _ _ _ h => h) (by rfl) ?_ (by assumption) ?_
        · intro w hSw; (try dsimp only at hSw); go_simp
        simp only [List.setIfInBounds_toArray, List.set_cons_zero, List.set_cons_succ]
        refine takeH (i := 4) 30 (.int .i64 (z k)) rfl rfl (by kernel_rfl) (by kernel_rfl) (by kernel_rfl) (fun _ _ _ h => h) (by rfl) ?_ (by assumption) ?_
        · intro w hSw; (try dsimp only at hSw); go_simp
        simp only [List.setIfInBounds_toArray, List.set_cons_zero, List.set_cons_succ]
        refine wpAnyH_ready (rs := [5, 9]) (by kernel_rfl) (by simp) ?_
        refine AllReadyH.cons rfl (fun K hK => ?_) (AllReadyH.cons rfl (fun K hK => ?_) AllReadyH.nil)
        · go_simp
          refine (hP _).mono ?_; rintro e w2 ⟨rfl, hb2⟩
          refine hK.out _ _ (s_on hHeld hb2) (fun hHeld => ?_)
          clear hK K
          try simp only [Act.put, List.setIfInBounds_toArray, List.set_cons_zero, List.set_cons_succ]
          refine takeH (i := 6) 25 (Value.tuple #[.agg #[.int .i64 0, .int .i64 0, .int .i64 0, .int .i64 0, .int .i64 0, .int .i64 0, .int .i64 0, .int .i64 0, .int .i64 0], .int .i64 13]) rfl rfl (by kernel_rfl) (by kernel_rfl) (by kernel_rfl) (fun _ _ _ h => h) (by rfl) ?_ (by assumption) ?_
          · intro w hSw; (try dsimp only at hSw); go_simp
          simp only [List.setIfInBounds_toArray, List.set_cons_zero, List.set_cons_succ]
          refine takeH (i := 7) 32 (.agg #[.int .i64 0, .int .i64 0, .int .i64 0, .int .i64 0, .int .i64 0, .int .i64 0, .int .i64 0, .int .i64 0, .int .i64 0]) rfl rfl (by kernel_rfl) (by kernel_rfl) (by kernel_rfl) (fun _ _ _ h => h) (by rfl) ?_ (by assumption) ?_
          · intro w hSw; (try dsimp only at hSw); go_simp
          simp only [List.setIfInBounds_toArray, List.set_cons_zero, List.set_cons_succ]
          refine takeH (i := 8) 33 (.int .i64 13) rfl rfl (by kernel_rfl) (by kernel_rfl) (by kernel_rfl) (fun _ _ _ h => h) (by rfl) ?_ (by assumption) ?_
          · intro w hSw; (try dsimp only at hSw); go_simp
          simp only [List.setIfInBounds_toArray, List.set_cons_zero, List.set_cons_succ]
          refine wpAnyH_ready (rs := [9]) (by kernel_rfl) (by simp) ?_
          refine AllReadyH.cons rfl (fun K hK => ?_) AllReadyH.nil
          go_simp
          refine hK.out _ _ (s_on hHeld ((Below.refl _ _).alloc (Nat.le_refl _) _)) (fun hHeld => ?_)
          clear hK K
          try simp only [Act.put, List.setIfInBounds_toArray, List.set_cons_zero, List.set_cons_succ]
          refine wpAnyH_ready (rs := [10]) (by kernel_rfl) (by simp) ?_
          refine AllReadyH.cons rfl (fun K hK => ?_) AllReadyH.nil
          go_simp
          refine hK.out _ _ (s_on (s_on H hb2) ((Below.refl _ _).alloc (Nat.le_refl _) _)) (fun hHeld => ?_)
          clear hK K
          try simp only [Act.put, List.setIfInBounds_toArray, List.set_cons_zero, List.set_cons_succ]
          refine takeH (i := 11) 7 (.int .i64 13) rfl rfl (by kernel_rfl) (by kernel_rfl) (by kernel_rfl) (fun _ _ _ h => h) (by rfl) ?_ (by assumption) ?_
          · intro w hSw; (try dsimp only at hSw); go_simp
          simp only [List.setIfInBounds_toArray, List.set_cons_zero, List.set_cons_succ]
          refine wpAnyH_done (by kernel_rfl) ?_ _
          go_wp2
          go_ret
          exact ⟨rfl, bal (bt hB.drew hb2) _⟩
        · go_simp
          refine hK.out _ _ (s_on hHeld ((Below.refl _ _).alloc (Nat.le_refl _) _)) (fun hHeld => ?_)
          clear hK K
          try simp only [Act.put, List.setIfInBounds_toArray, List.set_cons_zero, List.set_cons_succ]
          refine wpAnyH_ready (rs := [5]) (by kernel_rfl) (by simp) ?_
          refine AllReadyH.cons rfl (fun K hK => ?_) AllReadyH.nil
          go_simp
          refine (hP _).mono ?_; rintro e w2 ⟨rfl, hb2⟩; have hS2 : RAt w2 wo.heap.size 0 nil := RAt.on (RAt.new wo.drew 0 nil) hb2; obtain ⟨d0, d1, d2, d3, d4, d5, d6, d7, d8⟩ := hS2.cells; have hf2 := hS2.free
          refine hK.out _ _ (s_on hHeld hb2) (fun hHeld => ?_)
          clear hK K
          try simp only [Act.put, List.setIfInBounds_toArray, List.set_cons_zero, List.set_cons_succ]
          refine takeH (i := 6) 25 (Value.tuple #[.agg #[.int .i64 0, .int .i64 0, .int .i64 0, .int .i64 0, .int .i64 0, .int .i64 0, .int .i64 0, .int .i64 0, .int .i64 0], .int .i64 13]) rfl rfl (by kernel_rfl) (by kernel_rfl) (by kernel_rfl) (fun _ _ _ h => h) (by rfl) ?_ (by assumption) ?_
          · intro w hSw; (try dsimp only at hSw); go_simp
          simp only [List.setIfInBounds_toArray, List.set_cons_zero, List.set_cons_succ]
          refine takeH (i := 7) 32 (.agg #[.int .i64 0, .int .i64 0, .int .i64 0, .int .i64 0, .int .i64 0, .int .i64 0, .int .i64 0, .int .i64 0, .int .i64 0]) rfl rfl (by kernel_rfl) (by kernel_rfl) (by kernel_rfl) (fun _ _ _ h => h) (by rfl) ?_ (by assumption) ?_
          · intro w hSw; (try dsimp only at hSw); go_simp
          simp only [List.setIfInBounds_toArray, List.set_cons_zero, List.set_cons_succ]
          refine takeH (i := 8) 33 (.int .i64 13) rfl rfl (by kernel_rfl) (by kernel_rfl) (by kernel_rfl) (fun _ _ _ h => h) (by rfl) ?_ (by assumption) ?_
          · intro w hSw; (try dsimp only at hSw); go_simp
          simp only [List.setIfInBounds_toArray, List.set_cons_zero, List.set_cons_succ]
          refine wpAnyH_ready (rs := [10]) (by kernel_rfl) (by simp) ?_
          refine AllReadyH.cons rfl (fun K hK => ?_) AllReadyH.nil
          go_simp
          refine hK.out _ _ (s_chain (m := 0) (f := nil) hHeld (by omega) (by omega)) (fun hHeld => ?_)
          clear hK K
          try simp only [Act.put, List.setIfInBounds_toArray, List.set_cons_zero, List.set_cons_succ]
          refine takeH (i := 11) 7 (.int .i64 13) rfl rfl (by kernel_rfl) (by kernel_rfl) (by kernel_rfl) (fun _ _ _ h => h) (by rfl) ?_ (by assumption) ?_
          · intro w hSw; (try dsimp only at hSw); go_simp
          simp only [List.setIfInBounds_toArray, List.set_cons_zero, List.set_cons_succ]
          refine wpAnyH_done (by kernel_rfl) ?_ _
          go_wp2
          go_ret
          exact ⟨rfl, b9 hB.size (bt (bal hB.drew _) hb2)⟩
    case neg =>
      have kn : ¬ (k : Int) < (len : Int) := by omega
      have l8 : ¬ (8 : Int) < (len : Int) := by omega
      have ke : ((k : Int) == (len : Int)) = true := by simp; omega
      obtain ⟨c0, c1, c2, c3, c4, c5, c6, c7, c8⟩ := hR.cells
      go_wp2
      go_ret
      exact ⟨rfl, hB⟩
end Go.Proofs.Ytmpmpdipbffcdaa
