/-
  Contracts: what Alloc asks of a thread's roots.
-/
import Derived.Test.YtbihdkdefopijaaGc1
import Derived.Test.YtbihdkdefopijaaHand
namespace Go.Proofs.Ytbihdkdefopijaa
set_option linter.unusedVariables false
set_option linter.unusedSimpArgs false
open Go.ChangeShapes Go.WideShapes Go.ChangeAt Go.RowKit

theorem wrap_small (x : Int) (h1 : -9223372036854775808 ≤ x) (h2 : x ≤ 9223372036854775807) : IntKind.i64.wrap x = x := by
  rw [IntKind.wrap_i64]
  omega

theorem held_a {w U u : World} {r : List Int} {q b : Nat} {v : Value} (R0 : Below w.heap.size w U) (hA : RAt U w.heap.size r.length (rl r)) (hl : q < w.heap.size) (hq : w.cell? ⟨q, 0, none⟩ = some (.pointer (some ⟨b, 0, none⟩))) (hb : b < w.heap.size) (c1 : w.cell? ⟨b, 1, none⟩ = some v) (h : Below U.heap.size U u) :
    Below w.heap.size w u ∧ (u.cell? ⟨w.heap.size, 0, none⟩ = some (.int .i64 r.length) ∧ u.cell? ⟨w.heap.size, 1, none⟩ = some (.int .i64 (rl r 0)) ∧ u.cell? ⟨w.heap.size, 2, none⟩ = some (.int .i64 (rl r 1)) ∧ u.cell? ⟨w.heap.size, 3, none⟩ = some (.int .i64 (rl r 2)) ∧ u.cell? ⟨w.heap.size, 4, none⟩ = some (.int .i64 (rl r 3)) ∧ u.cell? ⟨w.heap.size, 5, none⟩ = some (.int .i64 (rl r 4)) ∧ u.cell? ⟨w.heap.size, 6, none⟩ = some (.int .i64 (rl r 5)) ∧ u.cell? ⟨w.heap.size, 7, none⟩ = some (.int .i64 (rl r 6)) ∧ u.cell? ⟨w.heap.size, 8, none⟩ = some (.int .i64 (rl r 7))) ∧ u.cell? ⟨q, 0, none⟩ = some (.pointer (some ⟨b, 0, none⟩)) ∧ u.cell? ⟨b, 1, none⟩ = some v := by
  have R := bt R0 h
  exact ⟨R, (hA.on h).cells, (R.cell hl).trans hq, (R.cell hb).trans c1⟩
theorem held_a9 {w U u : World} {r : List Int} {q b : Nat} {v : Value} (R0 : Below w.heap.size w U) (hA : RAt U w.heap.size r.length (rl r)) (hl : q < w.heap.size) (hq : w.cell? ⟨q, 0, none⟩ = some (.pointer (some ⟨b, 0, none⟩))) (hb : b < w.heap.size) (c1 : w.cell? ⟨b, 1, none⟩ = some v) (h : Below U.heap.size U u) (p : List Int) :
    Below w.heap.size w (((((((((u.setCell ⟨w.heap.size + 1, 0, none⟩ (.int .i64 p.length)).setCell ⟨w.heap.size + 1, 1, none⟩ (.int .i64 (rl p 0))).setCell ⟨w.heap.size + 1, 2, none⟩ (.int .i64 (rl p 1))).setCell ⟨w.heap.size + 1, 3, none⟩ (.int .i64 (rl p 2))).setCell ⟨w.heap.size + 1, 4, none⟩ (.int .i64 (rl p 3))).setCell ⟨w.heap.size + 1, 5, none⟩ (.int .i64 (rl p 4))).setCell ⟨w.heap.size + 1, 6, none⟩ (.int .i64 (rl p 5))).setCell ⟨w.heap.size + 1, 7, none⟩ (.int .i64 (rl p 6))).setCell ⟨w.heap.size + 1, 8, none⟩ (.int .i64 (rl p 7))) ∧ ((((((((((u.setCell ⟨w.heap.size + 1, 0, none⟩ (.int .i64 p.length)).setCell ⟨w.heap.size + 1, 1, none⟩ (.int .i64 (rl p 0))).setCell ⟨w.heap.size + 1, 2, none⟩ (.int .i64 (rl p 1))).setCell ⟨w.heap.size + 1, 3, none⟩ (.int .i64 (rl p 2))).setCell ⟨w.heap.size + 1, 4, none⟩ (.int .i64 (rl p 3))).setCell ⟨w.heap.size + 1, 5, none⟩ (.int .i64 (rl p 4))).setCell ⟨w.heap.size + 1, 6, none⟩ (.int .i64 (rl p 5))).setCell ⟨w.heap.size + 1, 7, none⟩ (.int .i64 (rl p 6))).setCell ⟨w.heap.size + 1, 8, none⟩ (.int .i64 (rl p 7))).cell? ⟨w.heap.size, 0, none⟩ = some (.int .i64 r.length) ∧ (((((((((u.setCell ⟨w.heap.size + 1, 0, none⟩ (.int .i64 p.length)).setCell ⟨w.heap.size + 1, 1, none⟩ (.int .i64 (rl p 0))).setCell ⟨w.heap.size + 1, 2, none⟩ (.int .i64 (rl p 1))).setCell ⟨w.heap.size + 1, 3, none⟩ (.int .i64 (rl p 2))).setCell ⟨w.heap.size + 1, 4, none⟩ (.int .i64 (rl p 3))).setCell ⟨w.heap.size + 1, 5, none⟩ (.int .i64 (rl p 4))).setCell ⟨w.heap.size + 1, 6, none⟩ (.int .i64 (rl p 5))).setCell ⟨w.heap.size + 1, 7, none⟩ (.int .i64 (rl p 6))).setCell ⟨w.heap.size + 1, 8, none⟩ (.int .i64 (rl p 7))).cell? ⟨w.heap.size, 1, none⟩ = some (.int .i64 (rl r 0)) ∧ (((((((((u.setCell ⟨w.heap.size + 1, 0, none⟩ (.int .i64 p.length)).setCell ⟨w.heap.size + 1, 1, none⟩ (.int .i64 (rl p 0))).setCell ⟨w.heap.size + 1, 2, none⟩ (.int .i64 (rl p 1))).setCell ⟨w.heap.size + 1, 3, none⟩ (.int .i64 (rl p 2))).setCell ⟨w.heap.size + 1, 4, none⟩ (.int .i64 (rl p 3))).setCell ⟨w.heap.size + 1, 5, none⟩ (.int .i64 (rl p 4))).setCell ⟨w.heap.size + 1, 6, none⟩ (.int .i64 (rl p 5))).setCell ⟨w.heap.size + 1, 7, none⟩ (.int .i64 (rl p 6))).setCell ⟨w.heap.size + 1, 8, none⟩ (.int .i64 (rl p 7))).cell? ⟨w.heap.size, 2, none⟩ = some (.int .i64 (rl r 1)) ∧ (((((((((u.setCell ⟨w.heap.size + 1, 0, none⟩ (.int .i64 p.length)).setCell ⟨w.heap.size + 1, 1, none⟩ (.int .i64 (rl p 0))).setCell ⟨w.heap.size + 1, 2, none⟩ (.int .i64 (rl p 1))).setCell ⟨w.heap.size + 1, 3, none⟩ (.int .i64 (rl p 2))).setCell ⟨w.heap.size + 1, 4, none⟩ (.int .i64 (rl p 3))).setCell ⟨w.heap.size + 1, 5, none⟩ (.int .i64 (rl p 4))).setCell ⟨w.heap.size + 1, 6, none⟩ (.int .i64 (rl p 5))).setCell ⟨w.heap.size + 1, 7, none⟩ (.int .i64 (rl p 6))).setCell ⟨w.heap.size + 1, 8, none⟩ (.int .i64 (rl p 7))).cell? ⟨w.heap.size, 3, none⟩ = some (.int .i64 (rl r 2)) ∧ (((((((((u.setCell ⟨w.heap.size + 1, 0, none⟩ (.int .i64 p.length)).setCell ⟨w.heap.size + 1, 1, none⟩ (.int .i64 (rl p 0))).setCell ⟨w.heap.size + 1, 2, none⟩ (.int .i64 (rl p 1))).setCell ⟨w.heap.size + 1, 3, none⟩ (.int .i64 (rl p 2))).setCell ⟨w.heap.size + 1, 4, none⟩ (.int .i64 (rl p 3))).setCell ⟨w.heap.size + 1, 5, none⟩ (.int .i64 (rl p 4))).setCell ⟨w.heap.size + 1, 6, none⟩ (.int .i64 (rl p 5))).setCell ⟨w.heap.size + 1, 7, none⟩ (.int .i64 (rl p 6))).setCell ⟨w.heap.size + 1, 8, none⟩ (.int .i64 (rl p 7))).cell? ⟨w.heap.size, 4, none⟩ = some (.int .i64 (rl r 3)) ∧ (((((((((u.setCell ⟨w.heap.size + 1, 0, none⟩ (.int .i64 p.length)).setCell ⟨w.heap.size + 1, 1, none⟩ (.int .i64 (rl p 0))).setCell ⟨w.heap.size + 1, 2, none⟩ (.int .i64 (rl p 1))).setCell ⟨w.heap.size + 1, 3, none⟩ (.int .i64 (rl p 2))).setCell ⟨w.heap.size + 1, 4, none⟩ (.int .i64 (rl p 3))).setCell ⟨w.heap.size + 1, 5, none⟩ (.int .i64 (rl p 4))).setCell ⟨w.heap.size + 1, 6, none⟩ (.int .i64 (rl p 5))).setCell ⟨w.heap.size + 1, 7, none⟩ (.int .i64 (rl p 6))).setCell ⟨w.heap.size + 1, 8, none⟩ (.int .i64 (rl p 7))).cell? ⟨w.heap.size, 5, none⟩ = some (.int .i64 (rl r 4)) ∧ (((((((((u.setCell ⟨w.heap.size + 1, 0, none⟩ (.int .i64 p.length)).setCell ⟨w.heap.size + 1, 1, none⟩ (.int .i64 (rl p 0))).setCell ⟨w.heap.size + 1, 2, none⟩ (.int .i64 (rl p 1))).setCell ⟨w.heap.size + 1, 3, none⟩ (.int .i64 (rl p 2))).setCell ⟨w.heap.size + 1, 4, none⟩ (.int .i64 (rl p 3))).setCell ⟨w.heap.size + 1, 5, none⟩ (.int .i64 (rl p 4))).setCell ⟨w.heap.size + 1, 6, none⟩ (.int .i64 (rl p 5))).setCell ⟨w.heap.size + 1, 7, none⟩ (.int .i64 (rl p 6))).setCell ⟨w.heap.size + 1, 8, none⟩ (.int .i64 (rl p 7))).cell? ⟨w.heap.size, 6, none⟩ = some (.int .i64 (rl r 5)) ∧ (((((((((u.setCell ⟨w.heap.size + 1, 0, none⟩ (.int .i64 p.length)).setCell ⟨w.heap.size + 1, 1, none⟩ (.int .i64 (rl p 0))).setCell ⟨w.heap.size + 1, 2, none⟩ (.int .i64 (rl p 1))).setCell ⟨w.heap.size + 1, 3, none⟩ (.int .i64 (rl p 2))).setCell ⟨w.heap.size + 1, 4, none⟩ (.int .i64 (rl p 3))).setCell ⟨w.heap.size + 1, 5, none⟩ (.int .i64 (rl p 4))).setCell ⟨w.heap.size + 1, 6, none⟩ (.int .i64 (rl p 5))).setCell ⟨w.heap.size + 1, 7, none⟩ (.int .i64 (rl p 6))).setCell ⟨w.heap.size + 1, 8, none⟩ (.int .i64 (rl p 7))).cell? ⟨w.heap.size, 7, none⟩ = some (.int .i64 (rl r 6)) ∧ (((((((((u.setCell ⟨w.heap.size + 1, 0, none⟩ (.int .i64 p.length)).setCell ⟨w.heap.size + 1, 1, none⟩ (.int .i64 (rl p 0))).setCell ⟨w.heap.size + 1, 2, none⟩ (.int .i64 (rl p 1))).setCell ⟨w.heap.size + 1, 3, none⟩ (.int .i64 (rl p 2))).setCell ⟨w.heap.size + 1, 4, none⟩ (.int .i64 (rl p 3))).setCell ⟨w.heap.size + 1, 5, none⟩ (.int .i64 (rl p 4))).setCell ⟨w.heap.size + 1, 6, none⟩ (.int .i64 (rl p 5))).setCell ⟨w.heap.size + 1, 7, none⟩ (.int .i64 (rl p 6))).setCell ⟨w.heap.size + 1, 8, none⟩ (.int .i64 (rl p 7))).cell? ⟨w.heap.size, 8, none⟩ = some (.int .i64 (rl r 7))) ∧ (((((((((u.setCell ⟨w.heap.size + 1, 0, none⟩ (.int .i64 p.length)).setCell ⟨w.heap.size + 1, 1, none⟩ (.int .i64 (rl p 0))).setCell ⟨w.heap.size + 1, 2, none⟩ (.int .i64 (rl p 1))).setCell ⟨w.heap.size + 1, 3, none⟩ (.int .i64 (rl p 2))).setCell ⟨w.heap.size + 1, 4, none⟩ (.int .i64 (rl p 3))).setCell ⟨w.heap.size + 1, 5, none⟩ (.int .i64 (rl p 4))).setCell ⟨w.heap.size + 1, 6, none⟩ (.int .i64 (rl p 5))).setCell ⟨w.heap.size + 1, 7, none⟩ (.int .i64 (rl p 6))).setCell ⟨w.heap.size + 1, 8, none⟩ (.int .i64 (rl p 7))).cell? ⟨q, 0, none⟩ = some (.pointer (some ⟨b, 0, none⟩)) ∧ (((((((((u.setCell ⟨w.heap.size + 1, 0, none⟩ (.int .i64 p.length)).setCell ⟨w.heap.size + 1, 1, none⟩ (.int .i64 (rl p 0))).setCell ⟨w.heap.size + 1, 2, none⟩ (.int .i64 (rl p 1))).setCell ⟨w.heap.size + 1, 3, none⟩ (.int .i64 (rl p 2))).setCell ⟨w.heap.size + 1, 4, none⟩ (.int .i64 (rl p 3))).setCell ⟨w.heap.size + 1, 5, none⟩ (.int .i64 (rl p 4))).setCell ⟨w.heap.size + 1, 6, none⟩ (.int .i64 (rl p 5))).setCell ⟨w.heap.size + 1, 7, none⟩ (.int .i64 (rl p 6))).setCell ⟨w.heap.size + 1, 8, none⟩ (.int .i64 (rl p 7))).cell? ⟨b, 1, none⟩ = some v := by
  have R : Below w.heap.size w (((((((((u.setCell ⟨w.heap.size + 1, 0, none⟩ (.int .i64 p.length)).setCell ⟨w.heap.size + 1, 1, none⟩ (.int .i64 (rl p 0))).setCell ⟨w.heap.size + 1, 2, none⟩ (.int .i64 (rl p 1))).setCell ⟨w.heap.size + 1, 3, none⟩ (.int .i64 (rl p 2))).setCell ⟨w.heap.size + 1, 4, none⟩ (.int .i64 (rl p 3))).setCell ⟨w.heap.size + 1, 5, none⟩ (.int .i64 (rl p 4))).setCell ⟨w.heap.size + 1, 6, none⟩ (.int .i64 (rl p 5))).setCell ⟨w.heap.size + 1, 7, none⟩ (.int .i64 (rl p 6))).setCell ⟨w.heap.size + 1, 8, none⟩ (.int .i64 (rl p 7))) := b9 (by omega) (bt R0 h)
  have hne : w.heap.size ≠ w.heap.size + 1 := by omega
  exact ⟨R, (((((((((((hA.on h).other _ _ hne).other _ _ hne).other _ _ hne).other _ _ hne).other _ _ hne).other _ _ hne).other _ _ hne).other _ _ hne).other _ _ hne)).cells, (R.cell hl).trans hq, (R.cell hb).trans c1⟩
set_option maxHeartbeats 400000 in
theorem cAlloc1 {w : World} {L : Loc} {g : Gr} (hg : GAt w L g) (f : g.Fit) (r : List Int) (h8 : r.length ≤ 8) (q : Nat) (hq : w.cell? ⟨q, 0, none⟩ = some (.pointer (some ⟨L.b, 0, none⟩))) (hl : q < w.heap.size) :
    Calls Try.prog 36 #[rvl r, .pointer (some ⟨q, 0, none⟩)] w fun e w' => e = .returned (.tuple #[rvl (Rw.push r (g.os.length + 1)), .int .i64 (Rw.pushE r)]) ∧ Below w.heap.size w w' := by
  have hP := cPushR r (g.os.length + 1) h8
  generalize Rw.push r (g.os.length + 1) = pr at hP ⊢
  generalize Rw.pushE r = pe at hP ⊢
  have ob := f.ob
  obtain ⟨ao, m, cp, hv⟩ : ∃ ao m cp, L.vo = .slice ao m cp ∧ m = g.os.length := by
    rcases hg.obj.2 with ⟨h', h0⟩ | ⟨a, b, _, h', _⟩
    · exact ⟨_, _, _, h', h0.symm⟩
    · exact ⟨_, _, _, h', rfl⟩
  obtain ⟨hv, rfl⟩ := hv
  have hb := lt_of_block hg.blk
  have c1 := hg.cell1
  rw [hv] at c1
  clear hv
  obtain ⟨b, hbb⟩ : ∃ b, L.b = b := ⟨_, rfl⟩
  rw [hbb] at hb c1 hq
  have e1 : IntKind.i64.wrap ((g.os.length : Int) + 1) = (g.os.length : Int) + 1 := wrap_small _ (by omega) (by omega)
  clear hg hbb
  have R0 : Below w.heap.size w ((w.alloc (.cells #[.int .i64 r.length, .int .i64 (rl r 0), .int .i64 (rl r 1), .int .i64 (rl r 2), .int .i64 (rl r 3), .int .i64 (rl r 4), .int .i64 (rl r 5), .int .i64 (rl r 6), .int .i64 (rl r 7)] 72)).alloc (.cells #[.int .i64 0, .int .i64 0, .int .i64 0, .int .i64 0, .int .i64 0, .int .i64 0, .int .i64 0, .int .i64 0, .int .i64 0] 72)) := bal (bal (Below.refl w.heap.size w) _) _
  have hA := (RAt.new w r.length (rl r)).alloc (.cells #[.int .i64 0, .int .i64 0, .int .i64 0, .int .i64 0, .int .i64 0, .int .i64 0, .int .i64 0, .int .i64 0, .int .i64 0] 72)
  have hR := RAt.new (w.alloc (.cells #[.int .i64 r.length, .int .i64 (rl r 0), .int .i64 (rl r 1), .int .i64 (rl r 2), .int .i64 (rl r 3), .int .i64 (rl r 4), .int .i64 (rl r 5), .int .i64 (rl r 6), .int .i64 (rl r 7)] 72)) 0 Plain.nil
  simp only [World.size_alloc] at hR
  have hD : Below ((w.alloc (.cells #[.int .i64 r.length, .int .i64 (rl r 0), .int .i64 (rl r 1), .int .i64 (rl r 2), .int .i64 (rl r 3), .int .i64 (rl r 4), .int .i64 (rl r 5), .int .i64 (rl r 6), .int .i64 (rl r 7)] 72)).alloc (.cells #[.int .i64 0, .int .i64 0, .int .i64 0, .int .i64 0, .int .i64 0, .int .i64 0, .int .i64 0, .int .i64 0, .int .i64 0] 72)).heap.size ((w.alloc (.cells #[.int .i64 r.length, .int .i64 (rl r 0), .int .i64 (rl r 1), .int .i64 (rl r 2), .int .i64 (rl r 3), .int .i64 (rl r 4), .int .i64 (rl r 5), .int .i64 (rl r 6), .int .i64 (rl r 7)] 72)).alloc (.cells #[.int .i64 0, .int .i64 0, .int .i64 0, .int .i64 0, .int .i64 0, .int .i64 0, .int .i64 0, .int .i64 0, .int .i64 0] 72)) ((w.alloc (.cells #[.int .i64 r.length, .int .i64 (rl r 0), .int .i64 (rl r 1), .int .i64 (rl r 2), .int .i64 (rl r 3), .int .i64 (rl r 4), .int .i64 (rl r 5), .int .i64 (rl r 6), .int .i64 (rl r 7)] 72)).alloc (.cells #[.int .i64 0, .int .i64 0, .int .i64 0, .int .i64 0, .int .i64 0, .int .i64 0, .int .i64 0, .int .i64 0, .int .i64 0] 72)).drew := (Below.refl _ _).drew
  have S0 := held_a R0 hA hl hq hb c1 hD
  go_enter Try.func36, Try.ntmps36
  go_wp2
  refine wp_region_noPanic ?_
  refine wp_region_held_drew (S := fun w' => Below w.heap.size w w' ∧ (w'.cell? ⟨w.heap.size, 0, none⟩ = some (.int .i64 r.length) ∧ w'.cell? ⟨w.heap.size, 1, none⟩ = some (.int .i64 (rl r 0)) ∧ w'.cell? ⟨w.heap.size, 2, none⟩ = some (.int .i64 (rl r 1)) ∧ w'.cell? ⟨w.heap.size, 3, none⟩ = some (.int .i64 (rl r 2)) ∧ w'.cell? ⟨w.heap.size, 4, none⟩ = some (.int .i64 (rl r 3)) ∧ w'.cell? ⟨w.heap.size, 5, none⟩ = some (.int .i64 (rl r 4)) ∧ w'.cell? ⟨w.heap.size, 6, none⟩ = some (.int .i64 (rl r 5)) ∧ w'.cell? ⟨w.heap.size, 7, none⟩ = some (.int .i64 (rl r 6)) ∧ w'.cell? ⟨w.heap.size, 8, none⟩ = some (.int .i64 (rl r 7))) ∧ w'.cell? ⟨q, 0, none⟩ = some (.pointer (some ⟨b, 0, none⟩)) ∧ w'.cell? ⟨b, 1, none⟩ = some (.slice ao g.os.length cp)) (by kernel_rfl) S0 (fun hHeld => ?_)
  refine takeH (i := 0) 5 (rvl r) rfl rfl (by kernel_rfl) (by kernel_rfl) (by kernel_rfl) (fun _ _ _ h => h) (by rfl) ?_ (by assumption) ?_
  · intro w hSw; (try dsimp only at hSw); go_simp
  simp only [List.setIfInBounds_toArray, List.set_cons_zero, List.set_cons_succ]
  refine takeH (i := 1) 6 (.pointer (some ⟨b, 0, none⟩)) rfl rfl (by kernel_rfl) (by kernel_rfl) (by kernel_rfl) (fun _ _ _ h => h) (by rfl) ?_ (by assumption) ?_
  · intro w hSw; (try dsimp only at hSw); go_simp
  simp only [List.setIfInBounds_toArray, List.set_cons_zero, List.set_cons_succ]
  refine takeH (i := 2) 7 (.pointer (some ⟨b, 0, none⟩)) rfl rfl (by kernel_rfl) (by kernel_rfl) (by kernel_rfl) (fun _ _ _ h => h) (by rfl) ?_ (by assumption) ?_
  · intro w hSw; (try dsimp only at hSw); go_simp
  simp only [List.setIfInBounds_toArray, List.set_cons_zero, List.set_cons_succ]
  refine takeH (i := 3) 8 (.pointer (some ⟨b, 1, none⟩)) rfl rfl (by kernel_rfl) (by kernel_rfl) (by kernel_rfl) (fun _ _ _ h => h) (by rfl) ?_ (by assumption) ?_
  · intro w hSw; (try dsimp only at hSw); go_simp
  simp only [List.setIfInBounds_toArray, List.set_cons_zero, List.set_cons_succ]
  refine takeH (i := 4) 9 (.slice ao g.os.length cp) rfl rfl (by kernel_rfl) (by kernel_rfl) (by kernel_rfl) (fun _ _ _ h => h) (by rfl) ?_ (by assumption) ?_
  · intro w hSw; (try dsimp only at hSw); go_simp
  simp only [List.setIfInBounds_toArray, List.set_cons_zero, List.set_cons_succ]
  refine takeH (i := 5) 10 (.int .i64 g.os.length) rfl rfl (by kernel_rfl) (by kernel_rfl) (by kernel_rfl) (fun _ _ _ h => h) (by rfl) ?_ (by assumption) ?_
  · intro w hSw; (try dsimp only at hSw); go_simp
  simp only [List.setIfInBounds_toArray, List.set_cons_zero, List.set_cons_succ]
  refine takeH (i := 6) 11 (.int .i64 (g.os.length + 1)) rfl rfl (by kernel_rfl) (by kernel_rfl) (by kernel_rfl) (fun _ _ _ h => h) (by rfl) ?_ (by assumption) ?_
  · intro w hSw; (try dsimp only at hSw); go_simp
  simp only [List.setIfInBounds_toArray, List.set_cons_zero, List.set_cons_succ]
  refine wpAnyH_ready (rs := [7]) (by kernel_rfl) (by simp) ?_
  refine AllReadyH.cons rfl (fun K hK => ?_) AllReadyH.nil
  go_simp
  refine (hP _).mono ?_; rintro e w1 ⟨rfl, hb1⟩; have hb2 := bt hD hb1; have hR1 := RAt.on hR hb2; obtain ⟨d0, d1, d2, d3, d4, d5, d6, d7, d8⟩ := hR1.cells; have hf := hR1.free
  refine hK.out _ _ (held_a R0 hA hl hq hb c1 hb2) (fun hHeld => ?_)
  clear hK K
  try simp only [Act.put, List.setIfInBounds_toArray, List.set_cons_zero, List.set_cons_succ]
  refine takeH (i := 8) 13 (rvl pr) rfl rfl (by kernel_rfl) (by kernel_rfl) (by kernel_rfl) (fun _ _ _ h => h) (by rfl) ?_ (by assumption) ?_
  · intro w hSw; (try dsimp only at hSw); go_simp
  simp only [List.setIfInBounds_toArray, List.set_cons_zero, List.set_cons_succ]
  refine takeH (i := 9) 14 (.int .i64 pe) rfl rfl (by kernel_rfl) (by kernel_rfl) (by kernel_rfl) (fun _ _ _ h => h) (by rfl) ?_ (by assumption) ?_
  · intro w hSw; (try dsimp only at hSw); go_simp
  simp only [List.setIfInBounds_toArray, List.set_cons_zero, List.set_cons_succ]
  refine wpAnyH_ready (rs := [10]) (by kernel_rfl) (by simp) ?_
  refine AllReadyH.cons rfl (fun K hK => ?_) AllReadyH.nil
  go_simp
  refine hK.out _ _ (held_a9 R0 hA hl hq hb c1 hb2 pr) (fun hHeld => ?_)
  clear hK K
  try simp only [Act.put, List.setIfInBounds_toArray, List.set_cons_zero, List.set_cons_succ]
  refine takeH (i := 11) 4 (.int .i64 pe) rfl rfl (by kernel_rfl) (by kernel_rfl) (by kernel_rfl) (fun _ _ _ h => h) (by rfl) ?_ (by assumption) ?_
  · intro w hSw; (try dsimp only at hSw); go_simp
  simp only [List.setIfInBounds_toArray, List.set_cons_zero, List.set_cons_succ]
  refine wpAnyH_done (by kernel_rfl) ?_ _
  refine NoPanic.normal ?_
  go_wp2
  have hB := bt R0 hb2
  exact bodyPost_ret (v := .tuple #[rvl pr, .int .i64 pe]) (by simp [results, Try.results36, go_sem, d0, d1, d2, d3, d4, d5, d6, d7, d8]) rfl ⟨rfl, b9 (by omega) hB⟩
end Go.Proofs.Ytbihdkdefopijaa
