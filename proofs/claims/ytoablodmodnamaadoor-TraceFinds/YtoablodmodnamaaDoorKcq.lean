/-
  What the functions of a Poll come to that only look ahead; a Poll made, and told.
-/
import Derived.Test.YtoablodmodnamaaDoorKbq
import Derived.Deep.Cut
import Derived.BigQuiet
import Derived.Deep.QuietTactic
import Derived.Laws.StructEq
import Derived.Test.YtoablodmodnamaaDoorBnq
namespace Go.Proofs.YtoablodmodnamaaDoor
set_option linter.unusedVariables false
set_option linter.unusedSimpArgs false
set_option maxRecDepth 100000
open Go.ChangeShapes Go.WideShapes Go.RowKit
open S.Plain (t0 t1 tw nx p0 p1 p2 p3 pw)
open H.Plain (hw pS pC pN pM pG pT pL)

section
variable {w : World} {L : Loc} {s : St} {p : Nat} {b : PB}
set_option maxHeartbeats 1000000 in
theorem cSeek (A : At 142 w L s p 112 b.cells) (i : Nat) (hi : i ≤ b.n) (hn : b.n ≤ 8) :
    Calls Tryd.prog 84 #[.pointer (some ⟨p, 0, none⟩), .int .i64 i] w fun e w' => e = .returned (.bool (decide (seek b.l b.n (b.n - i) i < b.n))) ∧ At 142 w' L s p 112 (b.sought i).cells ∧ Went w L p w' L := by
  have c6 : w.cell? ⟨p, 6, none⟩ = some (.int .i64 b.n) := A.cell 6
  have hl := lt_of_block A.blk
  obtain ⟨d, hd⟩ : ∃ d : Nat, b.n - i = d := ⟨_, rfl⟩
  obtain ⟨n, hbn⟩ : ∃ n : Nat, b.n = n := ⟨_, rfl⟩
  rw [hbn] at c6
  have hmin : (if (n : Int) ≤ 8 then (n : Int) else 8) = n := if_pos (by omega)
  have hmin2 : min (n : Int) 8 = n := by omega
  have hsub : (n : Int) - (i : Int) = (d : Int) := by omega
  obtain ⟨r, hr⟩ : ∃ r, decide (seek b.l b.n (b.n - i) i < b.n) = r := ⟨_, rfl⟩
  rw [hr]
  go_enter Tryd.func84, Tryd.ntmps84
  go_wp2
  go_loopw [14] (fun k wr => ∃ j : Nat, j ≤ d ∧ k = .int .i64 j ∧ wr = w ∧ ∀ u, i ≤ u → u < i + j → b.l u = 0) (fun k _ => d - (intOf k).toNat)
  case atStart => exact ⟨0, Nat.zero_le _, rfl, rfl, fun u h1 h2 => by omega⟩
  case round =>
    obtain ⟨j, hj, rfl, rfl, hz⟩ := hrel
    clear c6 hmin hmin2
    by_cases hjd : j < d
    case neg =>
      have hk : seek b.l b.n (b.n - i) i = b.n := seek_end _ _ _ _ (Nat.le_refl _) hi (fun u h1 h2 => hz u h1 (by omega))
      have hr' : r = false := by rw [← hr, hk]; simp
      have hs : b.sought i = b := if_neg (by rw [hk]; omega)
      clear hz
      go_wp2
      go_ret
      exact ⟨by rw [hr']; rfl, by rw [hs]; exact A, Went.refl _ _ _⟩
    case pos =>
      obtain ⟨k, hk⟩ : ∃ k : Nat, i + j = k := ⟨_, rfl⟩
      have hki : (i : Int) + (j : Int) = (k : Int) := by omega
      have hk8 : k < 8 := by omega
      have ck : wr.cell? ⟨p, 7 + k, none⟩ = some (.int .i64 (b.l k)) := (A.cell _).trans (b.root_at k hk8)
      obtain ⟨v, hv⟩ : ∃ v, b.l k = v := ⟨_, rfl⟩
      rw [hv] at ck
      have hk0 : (0 : Int) ≤ (k : Int) ∧ (k : Int) < 8 := by omega
      by_cases hv0 : v = 0
      · have q1 : (v != 0) = false := by simp [hv0]
        have hz2 : ∀ u, i ≤ u → u < i + (j + 1) → b.l u = 0 := fun u h1 h2 => by
          by_cases e : u = k
          · rw [e, hv, hv0]
          · exact hz u h1 (by omega)
        clear hz hv0 hv
        go_wp2
        go_roundw
        case rel => exact ⟨j + 1, by omega, by go_num, by trivial, hz2⟩
        case measure => simp [intOf]; omega
      · have q1 : (v != 0) = true := by simpa using hv0
        have c20 : wr.cell? ⟨p, 20, none⟩ = some (.int .i64 b.root) := A.cell 20
        have cf20 := A.free 20
        have hk2 : seek b.l b.n (b.n - i) i = k := seek_eq _ _ _ _ k (Nat.le_refl _) (by omega) (by omega) (fun u h1 h2 => hz u h1 (by omega)) (by rw [hv]; exact hv0)
        have hr' : r = true := by rw [← hr, hk2]; simp; omega
        have hs : b.sought i = b.roots k := by rw [PB.sought, if_pos (by rw [hk2]; omega), hk2]
        clear hz hv0 hv
        go_wp2
        go_ret
        exact ⟨by rw [hr']; rfl, by rw [hs]; exact A.set 20 (.int .i64 k), Went.set _ _ _ _ _⟩
set_option maxHeartbeats 1000000 in
theorem cToMove (A : At 142 w L s p 112 b.cells) (i : Nat) (hi : i ≤ b.n) (hn : b.n ≤ 8) :
    Calls Tryd.prog 50 #[.pointer (some ⟨p, 0, none⟩), .int .i64 i] w fun e w' => e = .returned (.int .i64 (b.toFixP i)) ∧ At 142 w' L s p 112 (b.sought i).cells ∧ Went w L p w' L := by
  obtain ⟨B, hB⟩ : ∃ B, b.sought i = B := ⟨_, rfl⟩
  by_cases hk : seek b.l b.n (b.n - i) i < b.n
  · have hP : b.toFixP i = 4 := if_pos hk
    rw [hP, hB]
    go_enter Tryd.func50, Tryd.ntmps50
    go_wp2_with (go_at_call 84; refine (cSeek A i hi hn).mono ?_; rintro e w1 ⟨rfl, A1, g1⟩; rw [decide_eq_true hk]; rw [hB] at A1)
    go_ret
    exact ⟨rfl, A1, g1⟩
  · have hP : b.toFixP i = 5 := if_neg hk
    rw [hP, hB]
    go_enter Tryd.func50, Tryd.ntmps50
    go_wp2_with (go_at_call 84; refine (cSeek A i hi hn).mono ?_; rintro e w1 ⟨rfl, A1, g1⟩; rw [decide_eq_false hk]; rw [hB] at A1)
    go_ret
    exact ⟨rfl, A1, g1⟩
theorem Went.more {w1 : World} {L1 : Loc} {i : Nat} {u : Value} (h : Went w L p w1 L1) : Went w L p (w1.setCell ⟨p, i, none⟩ u) L1 := h.trans (Went.set w1 L1 p i u)
theorem At.putSh (A : At 142 w L s p 112 b.cells) (x : ShadeS) : At 142 ((((((((((((w.setCell ⟨p, 21, none⟩ (.int .i64 x.cell)).setCell ⟨p, 22, none⟩ (.int .i64 x.mark)).setCell ⟨p, 23, none⟩ (.int .i64 x.pc)).setCell ⟨p, 24, none⟩ (.int .u64 x.found)).setCell ⟨p, 25, none⟩ (.int .i64 x.h.S)).setCell ⟨p, 26, none⟩ (.int .i64 x.h.C)).setCell ⟨p, 27, none⟩ (.int .i64 x.h.N)).setCell ⟨p, 28, none⟩ (.int .i64 x.h.M)).setCell ⟨p, 29, none⟩ (.int .i64 x.h.G)).setCell ⟨p, 30, none⟩ (.int .i64 x.h.T)).setCell ⟨p, 31, none⟩ (.int .i64 x.h.L)).setCell ⟨p, 32, none⟩ (.int .u64 x.list)) L s p 112 (b.shades x).cells := by
  have A1 : At 142 (World.setCell w ⟨p, 21, none⟩ (.int .i64 x.cell)) L s p 112 (b.shades ⟨x.cell, b.sh.mark, b.sh.pc, b.sh.found, ⟨b.sh.h.S, b.sh.h.C, b.sh.h.N, b.sh.h.M, b.sh.h.G, b.sh.h.T, b.sh.h.L⟩, b.sh.list⟩).cells := A.set 21 (.int .i64 x.cell)
  have A2 : At 142 (World.setCell (World.setCell w ⟨p, 21, none⟩ (.int .i64 x.cell)) ⟨p, 22, none⟩ (.int .i64 x.mark)) L s p 112 (b.shades ⟨x.cell, x.mark, b.sh.pc, b.sh.found, ⟨b.sh.h.S, b.sh.h.C, b.sh.h.N, b.sh.h.M, b.sh.h.G, b.sh.h.T, b.sh.h.L⟩, b.sh.list⟩).cells := A1.set 22 (.int .i64 x.mark)
  have A3 : At 142 (World.setCell (World.setCell (World.setCell w ⟨p, 21, none⟩ (.int .i64 x.cell)) ⟨p, 22, none⟩ (.int .i64 x.mark)) ⟨p, 23, none⟩ (.int .i64 x.pc)) L s p 112 (b.shades ⟨x.cell, x.mark, x.pc, b.sh.found, ⟨b.sh.h.S, b.sh.h.C, b.sh.h.N, b.sh.h.M, b.sh.h.G, b.sh.h.T, b.sh.h.L⟩, b.sh.list⟩).cells := A2.set 23 (.int .i64 x.pc)
  have A4 : At 142 (World.setCell (World.setCell (World.setCell (World.setCell w ⟨p, 21, none⟩ (.int .i64 x.cell)) ⟨p, 22, none⟩ (.int .i64 x.mark)) ⟨p, 23, none⟩ (.int .i64 x.pc)) ⟨p, 24, none⟩ (.int .u64 x.found)) L s p 112 (b.shades ⟨x.cell, x.mark, x.pc, x.found, ⟨b.sh.h.S, b.sh.h.C, b.sh.h.N, b.sh.h.M, b.sh.h.G, b.sh.h.T, b.sh.h.L⟩, b.sh.list⟩).cells := A3.set 24 (.int .u64 x.found)
  have A5 : At 142 (World.setCell (World.setCell (World.setCell (World.setCell (World.setCell w ⟨p, 21, none⟩ (.int .i64 x.cell)) ⟨p, 22, none⟩ (.int .i64 x.mark)) ⟨p, 23, none⟩ (.int .i64 x.pc)) ⟨p, 24, none⟩ (.int .u64 x.found)) ⟨p, 25, none⟩ (.int .i64 x.h.S)) L s p 112 (b.shades ⟨x.cell, x.mark, x.pc, x.found, ⟨x.h.S, b.sh.h.C, b.sh.h.N, b.sh.h.M, b.sh.h.G, b.sh.h.T, b.sh.h.L⟩, b.sh.list⟩).cells := A4.set 25 (.int .i64 x.h.S)
  have A6 : At 142 (World.setCell (World.setCell (World.setCell (World.setCell (World.setCell (World.setCell w ⟨p, 21, none⟩ (.int .i64 x.cell)) ⟨p, 22, none⟩ (.int .i64 x.mark)) ⟨p, 23, none⟩ (.int .i64 x.pc)) ⟨p, 24, none⟩ (.int .u64 x.found)) ⟨p, 25, none⟩ (.int .i64 x.h.S)) ⟨p, 26, none⟩ (.int .i64 x.h.C)) L s p 112 (b.shades ⟨x.cell, x.mark, x.pc, x.found, ⟨x.h.S, x.h.C, b.sh.h.N, b.sh.h.M, b.sh.h.G, b.sh.h.T, b.sh.h.L⟩, b.sh.list⟩).cells := A5.set 26 (.int .i64 x.h.C)
  have A7 : At 142 (World.setCell (World.setCell (World.setCell (World.setCell (World.setCell (World.setCell (World.setCell w ⟨p, 21, none⟩ (.int .i64 x.cell)) ⟨p, 22, none⟩ (.int .i64 x.mark)) ⟨p, 23, none⟩ (.int .i64 x.pc)) ⟨p, 24, none⟩ (.int .u64 x.found)) ⟨p, 25, none⟩ (.int .i64 x.h.S)) ⟨p, 26, none⟩ (.int .i64 x.h.C)) ⟨p, 27, none⟩ (.int .i64 x.h.N)) L s p 112 (b.shades ⟨x.cell, x.mark, x.pc, x.found, ⟨x.h.S, x.h.C, x.h.N, b.sh.h.M, b.sh.h.G, b.sh.h.T, b.sh.h.L⟩, b.sh.list⟩).cells := A6.set 27 (.int .i64 x.h.N)
  have A8 : At 142 (World.setCell (World.setCell (World.setCell (World.setCell (World.setCell (World.setCell (World.setCell (World.setCell w ⟨p, 21, none⟩ (.int .i64 x.cell)) ⟨p, 22, none⟩ (.int .i64 x.mark)) ⟨p, 23, none⟩ (.int .i64 x.pc)) ⟨p, 24, none⟩ (.int .u64 x.found)) ⟨p, 25, none⟩ (.int .i64 x.h.S)) ⟨p, 26, none⟩ (.int .i64 x.h.C)) ⟨p, 27, none⟩ (.int .i64 x.h.N)) ⟨p, 28, none⟩ (.int .i64 x.h.M)) L s p 112 (b.shades ⟨x.cell, x.mark, x.pc, x.found, ⟨x.h.S, x.h.C, x.h.N, x.h.M, b.sh.h.G, b.sh.h.T, b.sh.h.L⟩, b.sh.list⟩).cells := A7.set 28 (.int .i64 x.h.M)
  have A9 : At 142 (World.setCell (World.setCell (World.setCell (World.setCell (World.setCell (World.setCell (World.setCell (World.setCell (World.setCell w ⟨p, 21, none⟩ (.int .i64 x.cell)) ⟨p, 22, none⟩ (.int .i64 x.mark)) ⟨p, 23, none⟩ (.int .i64 x.pc)) ⟨p, 24, none⟩ (.int .u64 x.found)) ⟨p, 25, none⟩ (.int .i64 x.h.S)) ⟨p, 26, none⟩ (.int .i64 x.h.C)) ⟨p, 27, none⟩ (.int .i64 x.h.N)) ⟨p, 28, none⟩ (.int .i64 x.h.M)) ⟨p, 29, none⟩ (.int .i64 x.h.G)) L s p 112 (b.shades ⟨x.cell, x.mark, x.pc, x.found, ⟨x.h.S, x.h.C, x.h.N, x.h.M, x.h.G, b.sh.h.T, b.sh.h.L⟩, b.sh.list⟩).cells := A8.set 29 (.int .i64 x.h.G)
  have A10 : At 142 (World.setCell (World.setCell (World.setCell (World.setCell (World.setCell (World.setCell (World.setCell (World.setCell (World.setCell (World.setCell w ⟨p, 21, none⟩ (.int .i64 x.cell)) ⟨p, 22, none⟩ (.int .i64 x.mark)) ⟨p, 23, none⟩ (.int .i64 x.pc)) ⟨p, 24, none⟩ (.int .u64 x.found)) ⟨p, 25, none⟩ (.int .i64 x.h.S)) ⟨p, 26, none⟩ (.int .i64 x.h.C)) ⟨p, 27, none⟩ (.int .i64 x.h.N)) ⟨p, 28, none⟩ (.int .i64 x.h.M)) ⟨p, 29, none⟩ (.int .i64 x.h.G)) ⟨p, 30, none⟩ (.int .i64 x.h.T)) L s p 112 (b.shades ⟨x.cell, x.mark, x.pc, x.found, ⟨x.h.S, x.h.C, x.h.N, x.h.M, x.h.G, x.h.T, b.sh.h.L⟩, b.sh.list⟩).cells := A9.set 30 (.int .i64 x.h.T)
  have A11 : At 142 (World.setCell (World.setCell (World.setCell (World.setCell (World.setCell (World.setCell (World.setCell (World.setCell (World.setCell (World.setCell (World.setCell w ⟨p, 21, none⟩ (.int .i64 x.cell)) ⟨p, 22, none⟩ (.int .i64 x.mark)) ⟨p, 23, none⟩ (.int .i64 x.pc)) ⟨p, 24, none⟩ (.int .u64 x.found)) ⟨p, 25, none⟩ (.int .i64 x.h.S)) ⟨p, 26, none⟩ (.int .i64 x.h.C)) ⟨p, 27, none⟩ (.int .i64 x.h.N)) ⟨p, 28, none⟩ (.int .i64 x.h.M)) ⟨p, 29, none⟩ (.int .i64 x.h.G)) ⟨p, 30, none⟩ (.int .i64 x.h.T)) ⟨p, 31, none⟩ (.int .i64 x.h.L)) L s p 112 (b.shades ⟨x.cell, x.mark, x.pc, x.found, ⟨x.h.S, x.h.C, x.h.N, x.h.M, x.h.G, x.h.T, x.h.L⟩, b.sh.list⟩).cells := A10.set 31 (.int .i64 x.h.L)
  have A12 : At 142 (World.setCell (World.setCell (World.setCell (World.setCell (World.setCell (World.setCell (World.setCell (World.setCell (World.setCell (World.setCell (World.setCell (World.setCell w ⟨p, 21, none⟩ (.int .i64 x.cell)) ⟨p, 22, none⟩ (.int .i64 x.mark)) ⟨p, 23, none⟩ (.int .i64 x.pc)) ⟨p, 24, none⟩ (.int .u64 x.found)) ⟨p, 25, none⟩ (.int .i64 x.h.S)) ⟨p, 26, none⟩ (.int .i64 x.h.C)) ⟨p, 27, none⟩ (.int .i64 x.h.N)) ⟨p, 28, none⟩ (.int .i64 x.h.M)) ⟨p, 29, none⟩ (.int .i64 x.h.G)) ⟨p, 30, none⟩ (.int .i64 x.h.T)) ⟨p, 31, none⟩ (.int .i64 x.h.L)) ⟨p, 32, none⟩ (.int .u64 x.list)) L s p 112 (b.shades ⟨x.cell, x.mark, x.pc, x.found, ⟨x.h.S, x.h.C, x.h.N, x.h.M, x.h.G, x.h.T, x.h.L⟩, x.list⟩).cells := A11.set 32 (.int .u64 x.list)
  exact A12
theorem Went.putSh (w : World) (L : Loc) (p : Nat) (x : ShadeS) : Went w L p ((((((((((((w.setCell ⟨p, 21, none⟩ (.int .i64 x.cell)).setCell ⟨p, 22, none⟩ (.int .i64 x.mark)).setCell ⟨p, 23, none⟩ (.int .i64 x.pc)).setCell ⟨p, 24, none⟩ (.int .u64 x.found)).setCell ⟨p, 25, none⟩ (.int .i64 x.h.S)).setCell ⟨p, 26, none⟩ (.int .i64 x.h.C)).setCell ⟨p, 27, none⟩ (.int .i64 x.h.N)).setCell ⟨p, 28, none⟩ (.int .i64 x.h.M)).setCell ⟨p, 29, none⟩ (.int .i64 x.h.G)).setCell ⟨p, 30, none⟩ (.int .i64 x.h.T)).setCell ⟨p, 31, none⟩ (.int .i64 x.h.L)).setCell ⟨p, 32, none⟩ (.int .u64 x.list)) L := (Went.refl w L p).more.more.more.more.more.more.more.more.more.more.more.more
set_option maxHeartbeats 2000000 in
theorem cToShade (A : At 142 w L s p 112 b.cells) (i : Nat) (hi : i ≤ b.n) (hn : b.n ≤ 8) :
    Calls Tryd.prog 48 #[.pointer (some ⟨p, 0, none⟩), .int .i64 i] w fun e w' => e = .returned (.int .i64 (b.toShadeP i)) ∧ At 142 w' L s p 112 (b.toShade i).cells ∧ Went w L p w' L := by
  by_cases hk : seek b.l b.n (b.n - i) i < b.n
  · obtain ⟨k, hkk⟩ : ∃ k, seek b.l b.n (b.n - i) i = k := ⟨_, rfl⟩
    have hP : b.toShadeP i = 2 := if_pos hk
    have h1 : b.sought i = b.roots k := by rw [PB.sought, if_pos hk, hkk]
    have h2 : b.toShade i = (b.roots k).shades (ShadeS.new (b.l k) b.q.mr) := by rw [PB.toShade, if_pos hk, hkk]
    have hv0 : b.l k ≠ 0 := hkk ▸ (seek_le b.l b.n (b.n - i) i (Nat.le_refl _) hi).2.2.2 hk
    have hk8 : k < 8 := by omega
    have hk0 : (0 : Int) ≤ (k : Int) ∧ (k : Int) < 8 := by omega
    obtain ⟨v, hv⟩ : ∃ v, b.l k = v := ⟨_, rfl⟩
    obtain ⟨x, hx⟩ : ∃ x, ShadeS.new v b.q.mr = x := ⟨_, rfl⟩
    rw [hP, h2, hv, hx]
    rw [hv] at hv0
    go_enter Tryd.func48, Tryd.ntmps48
    go_upto_region 3 with (go_at_call 84; refine (cSeek A i hi hn).mono ?_; rintro e w1 ⟨rfl, A1, g1⟩; rw [decide_eq_true hk]; rw [h1] at A1)
    have hl1 := lt_of_block A1.blk
    have hbd : Below w1.heap.size w1 w1.drew := (Below.refl _ _).drew
    have keep3 : ∀ w', At 142 w' L s p 112 (b.roots k).cells → w'.cell? ⟨p, 20, none⟩ = some (.int .i64 k) ∧ w'.cell? ⟨p, 7 + k, none⟩ = some (.int .i64 v) ∧ w'.cell? ⟨p, 18, none⟩ = some (.int .i64 b.q.mr) := fun w' h => ⟨h.cell 20, (h.cell _).trans (((b.roots k).root_at k hk8).trans (by show some (Value.int .i64 (b.l k)) = _; rw [hv])), h.cell 18⟩
    have keep4 : ∀ w', At 142 w' L s p 112 ((b.roots k).shades x).cells → w'.cell? ⟨p, 20, none⟩ = some (.int .i64 k) ∧ w'.cell? ⟨p, 7 + k, none⟩ = some (.int .i64 v) ∧ w'.cell? ⟨p, 18, none⟩ = some (.int .i64 b.q.mr) := fun w' h => ⟨h.cell 20, (h.cell _).trans ((((b.roots k).shades x).root_at k hk8).trans (by show some (Value.int .i64 (b.l k)) = _; rw [hv])), h.cell 18⟩
    have RD := keep3 _ (A1.below hbd)
    refine wp_region_held_drew (S := fun w' => w'.cell? ⟨p, 20, none⟩ = some (.int .i64 k) ∧ w'.cell? ⟨p, 7 + k, none⟩ = some (.int .i64 v) ∧ w'.cell? ⟨p, 18, none⟩ = some (.int .i64 b.q.mr)) (by kernel_rfl) RD (fun hHeld => ?_)
    refine takeH (i := 0) 9 (.pointer (some ⟨p, 0, none⟩)) rfl rfl (by kernel_rfl) (by kernel_rfl) (by kernel_rfl) (fun _ _ _ h => h) (by rfl) ?_ (by assumption) ?_
    · intro w hSw; (try dsimp only at hSw); go_simp
    simp only [List.setIfInBounds_toArray, List.set_cons_zero, List.set_cons_succ]
    refine takeH (i := 1) 10 (.pointer (some ⟨p, 0, none⟩)) rfl rfl (by kernel_rfl) (by kernel_rfl) (by kernel_rfl) (fun _ _ _ h => h) (by rfl) ?_ (by assumption) ?_
    · intro w hSw; (try dsimp only at hSw); go_simp
    simp only [List.setIfInBounds_toArray, List.set_cons_zero, List.set_cons_succ]
    refine takeH (i := 2) 11 (.pointer (some ⟨p, 0, none⟩)) rfl rfl (by kernel_rfl) (by kernel_rfl) (by kernel_rfl) (fun _ _ _ h => h) (by rfl) ?_ (by assumption) ?_
    · intro w hSw; (try dsimp only at hSw); go_simp
    simp only [List.setIfInBounds_toArray, List.set_cons_zero, List.set_cons_succ]
    refine takeH (i := 3) 12 (.pointer (some ⟨p, 0, none⟩)) rfl rfl (by kernel_rfl) (by kernel_rfl) (by kernel_rfl) (fun _ _ _ h => h) (by rfl) ?_ (by assumption) ?_
    · intro w hSw; (try dsimp only at hSw); go_simp
    simp only [List.setIfInBounds_toArray, List.set_cons_zero, List.set_cons_succ]
    refine takeH (i := 4) 13 (.pointer (some ⟨p, 20, none⟩)) rfl rfl (by kernel_rfl) (by kernel_rfl) (by kernel_rfl) (fun _ _ _ h => h) (by rfl) ?_ (by assumption) ?_
    · intro w hSw; (try dsimp only at hSw); go_simp
    simp only [List.setIfInBounds_toArray, List.set_cons_zero, List.set_cons_succ]
    refine takeH (i := 5) 14 (.int .i64 k) rfl rfl (by kernel_rfl) (by kernel_rfl) (by kernel_rfl) (fun _ _ _ h => h) (by rfl) ?_ (by assumption) ?_
    · intro w hSw; (try dsimp only at hSw); go_simp
    simp only [List.setIfInBounds_toArray, List.set_cons_zero, List.set_cons_succ]
    refine takeH (i := 6) 15 (.pointer (some ⟨p, 0, none⟩)) rfl rfl (by kernel_rfl) (by kernel_rfl) (by kernel_rfl) (fun _ _ _ h => h) (by rfl) ?_ (by assumption) ?_
    · intro w hSw; (try dsimp only at hSw); go_simp
    simp only [List.setIfInBounds_toArray, List.set_cons_zero, List.set_cons_succ]
    refine takeH (i := 7) 16 (.pointer (some ⟨p, 6, none⟩)) rfl rfl (by kernel_rfl) (by kernel_rfl) (by kernel_rfl) (fun _ _ _ h => h) (by rfl) ?_ (by assumption) ?_
    · intro w hSw; (try dsimp only at hSw); go_simp
    simp only [List.setIfInBounds_toArray, List.set_cons_zero, List.set_cons_succ]
    refine takeH (i := 8) 17 (.pointer (some ⟨p, 7, none⟩)) rfl rfl (by kernel_rfl) (by kernel_rfl) (by kernel_rfl) (fun _ _ _ h => h) (by rfl) ?_ (by assumption) ?_
    · intro w hSw; (try dsimp only at hSw); go_simp
    simp only [List.setIfInBounds_toArray, List.set_cons_zero, List.set_cons_succ]
    refine takeH (i := 9) 18 (.pointer (some ⟨p, 7 + k, none⟩)) rfl rfl (by kernel_rfl) (by kernel_rfl) (by kernel_rfl) (fun _ _ _ h => h) (by rfl) ?_ (by assumption) ?_
    · intro w hSw; (try dsimp only at hSw); go_simp
    simp only [List.setIfInBounds_toArray, List.set_cons_zero, List.set_cons_succ]
    refine takeH (i := 10) 19 (.int .i64 v) rfl rfl (by kernel_rfl) (by kernel_rfl) (by kernel_rfl) (fun _ _ _ h => h) (by rfl) ?_ (by assumption) ?_
    · intro w hSw; (try dsimp only at hSw); go_simp
    simp only [List.setIfInBounds_toArray, List.set_cons_zero, List.set_cons_succ]
    refine takeH (i := 11) 20 (.pointer (some ⟨p, 0, none⟩)) rfl rfl (by kernel_rfl) (by kernel_rfl) (by kernel_rfl) (fun _ _ _ h => h) (by rfl) ?_ (by assumption) ?_
    · intro w hSw; (try dsimp only at hSw); go_simp
    simp only [List.setIfInBounds_toArray, List.set_cons_zero, List.set_cons_succ]
    refine takeH (i := 12) 21 (.pointer (some ⟨p, 0, none⟩)) rfl rfl (by kernel_rfl) (by kernel_rfl) (by kernel_rfl) (fun _ _ _ h => h) (by rfl) ?_ (by assumption) ?_
    · intro w hSw; (try dsimp only at hSw); go_simp
    simp only [List.setIfInBounds_toArray, List.set_cons_zero, List.set_cons_succ]
    refine takeH (i := 13) 22 (.pointer (some ⟨p, 16, none⟩)) rfl rfl (by kernel_rfl) (by kernel_rfl) (by kernel_rfl) (fun _ _ _ h => h) (by rfl) ?_ (by assumption) ?_
    · intro w hSw; (try dsimp only at hSw); go_simp
    simp only [List.setIfInBounds_toArray, List.set_cons_zero, List.set_cons_succ]
    refine takeH (i := 14) 23 (.pointer (some ⟨p, 18, none⟩)) rfl rfl (by kernel_rfl) (by kernel_rfl) (by kernel_rfl) (fun _ _ _ h => h) (by rfl) ?_ (by assumption) ?_
    · intro w hSw; (try dsimp only at hSw); go_simp
    simp only [List.setIfInBounds_toArray, List.set_cons_zero, List.set_cons_succ]
    refine takeH (i := 15) 24 (.int .i64 b.q.mr) rfl rfl (by kernel_rfl) (by kernel_rfl) (by kernel_rfl) (fun _ _ _ h => h) (by rfl) ?_ (by assumption) ?_
    · intro w hSw; (try dsimp only at hSw); go_simp
    simp only [List.setIfInBounds_toArray, List.set_cons_zero, List.set_cons_succ]
    refine wpAnyH_ready (rs := [16]) (by kernel_rfl) (by simp) ?_
    refine AllReadyH.cons rfl (fun K hK => ?_) AllReadyH.nil
    go_simp
    go_at_call 25
    refine (cNewShade v b.q.mr _).mono ?_
    rintro e w3 ⟨rfl, M3⟩
    rw [hx] at M3
    have A3 := A1.below (bel_trans hbd M3.bel)
    generalize hzz : w1.drew.heap.size = z at M3 ⊢
    have hzb := M3.blk
    rw [hzz] at hzb
    have z0 : w3.cell? ⟨z, 0, none⟩ = some (.int .i64 x.cell) := cell_of_row w3 _ _ _ _ _ hzb
    have z1 : w3.cell? ⟨z, 1, none⟩ = some (.int .i64 x.mark) := cell_of_row w3 _ _ _ _ _ hzb
    have z2 : w3.cell? ⟨z, 2, none⟩ = some (.int .i64 x.pc) := cell_of_row w3 _ _ _ _ _ hzb
    have z3 : w3.cell? ⟨z, 3, none⟩ = some (.int .u64 x.found) := cell_of_row w3 _ _ _ _ _ hzb
    have z4 : w3.cell? ⟨z, 4, none⟩ = some (.int .i64 x.h.S) := cell_of_row w3 _ _ _ _ _ hzb
    have z5 : w3.cell? ⟨z, 5, none⟩ = some (.int .i64 x.h.C) := cell_of_row w3 _ _ _ _ _ hzb
    have z6 : w3.cell? ⟨z, 6, none⟩ = some (.int .i64 x.h.N) := cell_of_row w3 _ _ _ _ _ hzb
    have z7 : w3.cell? ⟨z, 7, none⟩ = some (.int .i64 x.h.M) := cell_of_row w3 _ _ _ _ _ hzb
    have z8 : w3.cell? ⟨z, 8, none⟩ = some (.int .i64 x.h.G) := cell_of_row w3 _ _ _ _ _ hzb
    have z9 : w3.cell? ⟨z, 9, none⟩ = some (.int .i64 x.h.T) := cell_of_row w3 _ _ _ _ _ hzb
    have z10 : w3.cell? ⟨z, 10, none⟩ = some (.int .i64 x.h.L) := cell_of_row w3 _ _ _ _ _ hzb
    have z11 : w3.cell? ⟨z, 11, none⟩ = some (.int .u64 x.list) := cell_of_row w3 _ _ _ _ _ hzb
    have zl := lt_of_block hzb
    clear hzb hzz
    refine hK.out _ _ (keep3 w3 A3) (fun hHeld => ?_)
    clear hK K
    try simp only [Act.put, List.setIfInBounds_toArray, List.set_cons_zero, List.set_cons_succ]
    refine takeH (i := 17) 26 (.pointer (some ⟨z, 0, none⟩)) rfl rfl (by kernel_rfl) (by kernel_rfl) (by kernel_rfl) (fun _ _ _ h => h) (by rfl) ?_ (by assumption) ?_
    · intro w hSw; (try dsimp only at hSw); go_simp
    simp only [List.setIfInBounds_toArray, List.set_cons_zero, List.set_cons_succ]
    refine wpAnyH_ready (rs := [18]) (by kernel_rfl) (by simp) ?_
    refine AllReadyH.cons rfl (fun K hK => ?_) AllReadyH.nil
    go_simp
    refine hK.out _ _ hHeld (fun hHeld => ?_)
    clear hK K
    try simp only [Act.put, List.setIfInBounds_toArray, List.set_cons_zero, List.set_cons_succ]
    refine takeH (i := 19) 28 (.pointer (some ⟨p, 0, none⟩)) rfl rfl (by kernel_rfl) (by kernel_rfl) (by kernel_rfl) (fun _ _ _ h => h) (by rfl) ?_ (by assumption) ?_
    · intro w hSw; (try dsimp only at hSw); go_simp
    simp only [List.setIfInBounds_toArray, List.set_cons_zero, List.set_cons_succ]
    refine takeH (i := 20) 29 (.pointer (some ⟨p, 21, none⟩)) rfl rfl (by kernel_rfl) (by kernel_rfl) (by kernel_rfl) (fun _ _ _ h => h) (by rfl) ?_ (by assumption) ?_
    · intro w hSw; (try dsimp only at hSw); go_simp
    simp only [List.setIfInBounds_toArray, List.set_cons_zero, List.set_cons_succ]
    have A4 := A3.putSh x
    have g4 := Went.putSh w3 L p x
    have d21 : w3.cell? ⟨p, 21, none⟩ = some (.int .i64 (b.roots k).sh.cell) := A3.cell 21
    have df21 := A3.free 21
    have d22 : w3.cell? ⟨p, 22, none⟩ = some (.int .i64 (b.roots k).sh.mark) := A3.cell 22
    have df22 := A3.free 22
    have d23 : w3.cell? ⟨p, 23, none⟩ = some (.int .i64 (b.roots k).sh.pc) := A3.cell 23
    have df23 := A3.free 23
    have d24 : w3.cell? ⟨p, 24, none⟩ = some (.int .u64 (b.roots k).sh.found) := A3.cell 24
    have df24 := A3.free 24
    have d25 : w3.cell? ⟨p, 25, none⟩ = some (.int .i64 (b.roots k).sh.h.S) := A3.cell 25
    have df25 := A3.free 25
    have d26 : w3.cell? ⟨p, 26, none⟩ = some (.int .i64 (b.roots k).sh.h.C) := A3.cell 26
    have df26 := A3.free 26
    have d27 : w3.cell? ⟨p, 27, none⟩ = some (.int .i64 (b.roots k).sh.h.N) := A3.cell 27
    have df27 := A3.free 27
    have d28 : w3.cell? ⟨p, 28, none⟩ = some (.int .i64 (b.roots k).sh.h.M) := A3.cell 28
    have df28 := A3.free 28
    have d29 : w3.cell? ⟨p, 29, none⟩ = some (.int .i64 (b.roots k).sh.h.G) := A3.cell 29
    have df29 := A3.free 29
    have d30 : w3.cell? ⟨p, 30, none⟩ = some (.int .i64 (b.roots k).sh.h.T) := A3.cell 30
    have df30 := A3.free 30
    have d31 : w3.cell? ⟨p, 31, none⟩ = some (.int .i64 (b.roots k).sh.h.L) := A3.cell 31
    have df31 := A3.free 31
    have d32 : w3.cell? ⟨p, 32, none⟩ = some (.int .u64 (b.roots k).sh.list) := A3.cell 32
    have df32 := A3.free 32
    refine wpAnyH_ready (rs := [21]) (by kernel_rfl) (by simp) ?_
    refine AllReadyH.cons rfl (fun K hK => ?_) AllReadyH.nil
    go_simp
    refine hK.out _ _ (keep4 _ A4) (fun hHeld => ?_)
    clear hK K
    try simp only [Act.put, List.setIfInBounds_toArray, List.set_cons_zero, List.set_cons_succ]
    refine wpAnyH_done (by kernel_rfl) ?_ _
    go_wp2
    go_ret
    exact ⟨rfl, A4, ((g1.trans (Went.of_below (bel_trans hbd M3.bel) _ _)).trans g4)⟩
  · have hP : b.toShadeP i = 5 := if_neg hk
    have h1 : b.sought i = b := if_neg hk
    have h2 : b.toShade i = b := if_neg hk
    rw [hP, h2]
    go_enter Tryd.func48, Tryd.ntmps48
    go_wp2_with (go_at_call 84; refine (cSeek A i hi hn).mono ?_; rintro e w1 ⟨rfl, A1, g1⟩; rw [decide_eq_false hk]; rw [h1] at A1)
    go_ret
    exact ⟨rfl, A1, g1⟩
set_option maxHeartbeats 1000000 in
theorem cBehind (A : At 142 w L s p 112 b.cells) (hn : b.n ≤ 8) :
    Calls Tryd.prog 47 #[.pointer (some ⟨p, 0, none⟩)] w fun e w' => e = .returned (.int .i64 b.behindP) ∧ At 142 w' L s p 112 b.behind.cells ∧ Went w L p w' L := by
  have c1 : w.cell? ⟨p, 1, none⟩ = some (.int .i64 b.own.no) := A.cell 1
  have cf1 := A.free 1
  have c16 : w.cell? ⟨p, 16, none⟩ = some (.int .i64 b.q.no) := A.cell 16
  have cf16 := A.free 16
  have c17 : w.cell? ⟨p, 17, none⟩ = some (.int .i64 b.q.md) := A.cell 17
  have cf17 := A.free 17
  have hl := lt_of_block A.blk
  have hbN : ∀ m, Below w.heap.size w (w.drewN m) := fun m => S.bdr (Below.refl _ _) m
  by_cases h0 : b.q.no = b.own.no
  · have hP : b.behindP = 0 := by rw [PB.behindP, if_pos h0]
    have hB : b.behind = b := by rw [PB.behind, if_pos h0]
    rw [hP, hB]
    have q0 : (b.q.no == b.own.no) = true := by simp [h0]
    clear h0
    go_enter Tryd.func47, Tryd.ntmps47
    go_wp2
    go_quiet (fail)
    go_wp2
    go_ret
    exact ⟨rfl, A.below (hbN _), Went.of_below (hbN _) _ _⟩
  have q0 : (b.q.no == b.own.no) = false := by simpa using h0
  by_cases h1 : b.q.md = 2
  · have hP : b.behindP = b.toShadeP 0 := by rw [PB.behindP, if_neg h0, if_pos h1]
    have hB : b.behind = b.toShade 0 := by rw [PB.behind, if_neg h0, if_pos h1]
    rw [hP, hB]
    have q1 : (b.q.md == 2) = true := by simp [h1]
    clear h0 h1 hP hB
    obtain ⟨P, hP⟩ : ∃ P, b.toShadeP 0 = P := ⟨_, rfl⟩
    rw [hP]
    go_enter Tryd.func47, Tryd.ntmps47
    go_wp2
    go_quiet (fail)
    go_wp2_with (go_at_call 48; refine (cToShade (A.below (hbN _)) 0 (Nat.zero_le _) hn).mono ?_; rintro e w1 ⟨rfl, A1, g1⟩; rw [hP])
    go_ret
    exact ⟨rfl, A1, (Went.of_below (hbN _) _ _).trans g1⟩
  have q1 : (b.q.md == 2) = false := by simpa using h1
  by_cases h2 : b.q.md = 5
  · have hP : b.behindP = 3 := by rw [PB.behindP, if_neg h0, if_neg h1, if_pos h2]
    have hB : b.behind = b := by rw [PB.behind, if_neg h0, if_neg h1, if_pos h2]
    rw [hP, hB]
    have q2 : (b.q.md == 5) = true := by simp [h2]
    clear h0 h1 h2 hP hB
    go_enter Tryd.func47, Tryd.ntmps47
    go_wp2
    go_quiet (fail)
    go_wp2
    go_ret
    exact ⟨rfl, A.below (hbN _), Went.of_below (hbN _) _ _⟩
  have q2 : (b.q.md == 5) = false := by simpa using h2
  by_cases h3 : b.q.md = 8
  · have hP : b.behindP = b.toFixP 0 := by rw [PB.behindP, if_neg h0, if_neg h1, if_neg h2, if_pos h3]
    have hB : b.behind = b.sought 0 := by rw [PB.behind, if_neg h0, if_neg h1, if_neg h2, if_pos h3]
    rw [hP, hB]
    have q3 : (b.q.md == 8) = true := by simp [h3]
    clear h0 h1 h2 h3 hP hB
    obtain ⟨P, hP⟩ : ∃ P, b.toFixP 0 = P := ⟨_, rfl⟩
    rw [hP]
    go_enter Tryd.func47, Tryd.ntmps47
    go_wp2
    go_quiet (fail)
    go_wp2_with (go_at_call 50; refine (cToMove (A.below (hbN _)) 0 (Nat.zero_le _) hn).mono ?_; rintro e w1 ⟨rfl, A1, g1⟩; rw [hP])
    go_ret
    exact ⟨rfl, A1, (Went.of_below (hbN _) _ _).trans g1⟩
  have q3 : (b.q.md == 8) = false := by simpa using h3
  have hP : b.behindP = 5 := by rw [PB.behindP, if_neg h0, if_neg h1, if_neg h2, if_neg h3]
  have hB : b.behind = b := by rw [PB.behind, if_neg h0, if_neg h1, if_neg h2, if_neg h3]
  rw [hP, hB]
  clear h0 h1 h2 h3 hP hB
  go_enter Tryd.func47, Tryd.ntmps47
  go_wp2
  go_quiet (fail)
  go_wp2
  go_ret
  exact ⟨rfl, A.below (hbN _), Went.of_below (hbN _) _ _⟩
end
end Go.Proofs.YtoablodmodnamaaDoor
