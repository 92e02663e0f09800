/-
  The roots of a thread, by numbers.
-/
import Derived.Test.YtoablodmodnamaaDoorKl
namespace Go.Proofs.YtoablodmodnamaaDoor
set_option linter.unusedVariables false
set_option linter.unusedSimpArgs false
set_option maxRecDepth 100000
open Go.ChangeShapes Go.WideShapes Go.RowKit

/-- a root by its number -/
def rootP (z : Int) : Int := if kd z 17 < 16 then 96 + 4 * kd z 17 else 0
def cutP (z : Nat → Int) (j : Nat) : Nat → Int := fun i => if i < j then rootP (z i) else 0
def someN (len : Nat) : Nat := if len < 8 then len else 8
def someL (len : Nat) (z : Nat → Int) : Nat → Int := cutP z (someN len)
theorem someN_le (len : Nat) : someN len ≤ 8 := by unfold someN; split <;> omega
theorem rootP_obj (z : Int) : rootP z = 0 ∨ ∃ k : Nat, k < 16 ∧ rootP z = 96 + 4 * (k : Int) := by
  have := kd_lt z 17 (by decide)
  unfold rootP
  split
  · exact .inr ⟨(kd z 17).toNat, by omega, by omega⟩
  · exact .inl rfl
theorem someL_obj (len : Nat) (z : Nat → Int) (i : Nat) : someL len z i = 0 ∨ ∃ k : Nat, k < 16 ∧ someL len z i = 96 + 4 * (k : Int) := by
  unfold someL cutP
  split
  · exact rootP_obj _
  · exact .inl rfl
def RCells (n : Int) (l : Nat → Int) : Array Value := #[.int .i64 n, .int .i64 (l 0), .int .i64 (l 1), .int .i64 (l 2), .int .i64 (l 3), .int .i64 (l 4), .int .i64 (l 5), .int .i64 (l 6), .int .i64 (l 7)]
theorem RCells.set (n : Int) (l : Nat → Int) (j : Nat) (h : j < 8) (v : Int) : (RCells n l).setIfInBounds (1 + j) (.int .i64 v) = RCells n (lput l j v) := by
  match j, h with
  | 0, _ => rfl
  | 1, _ => rfl
  | 2, _ => rfl
  | 3, _ => rfl
  | 4, _ => rfl
  | 5, _ => rfl
  | 6, _ => rfl
  | 7, _ => rfl
theorem RCells.get (n : Int) (l : Nat → Int) (j : Nat) (h : j < 8) : (RCells n l)[1 + j]? = some (.int .i64 (l j)) := by
  match j, h with
  | 0, _ => rfl
  | 1, _ => rfl
  | 2, _ => rfl
  | 3, _ => rfl
  | 4, _ => rfl
  | 5, _ => rfl
  | 6, _ => rfl
  | 7, _ => rfl
theorem cutP_next (z : Nat → Int) (j : Nat) : lput (cutP z j) j (rootP (z j)) = cutP z (j + 1) := by
  funext i
  unfold lput cutP
  by_cases h : i = j
  · subst h; simp
  · rw [if_neg h]
    by_cases h2 : i < j
    · rw [if_pos h2, if_pos (by omega)]
    · rw [if_neg h2, if_neg (by omega)]
theorem cutP_zero (z : Nat → Int) (j : Nat) (h : rootP (z j) = 0) : cutP z j = cutP z (j + 1) := by
  rw [← cutP_next, h]
  funext i
  unfold lput cutP
  by_cases e : i = j
  · subst e; simp
  · rw [if_neg e]
set_option maxHeartbeats 2000000 in
theorem cSome {w : World} {ao : Option Addr} {len cap : Nat} {z : Nat → Int} (ci : CameI w ao len z) :
    Calls Tryd.prog 9 #[.slice ao len cap] w fun e w' => e = .returned (.agg #[.int .i64 (someN len), .int .i64 (someL len z 0), .int .i64 (someL len z 1), .int .i64 (someL len z 2), .int .i64 (someL len z 3), .int .i64 (someL len z 4), .int .i64 (someL len z 5), .int .i64 (someL len z 6), .int .i64 (someL len z 7)]) ∧ Below w.heap.size w w' := by
  obtain ⟨nn, hnn⟩ : ∃ n, someN len = n := ⟨_, rfl⟩
  obtain ⟨ll, hll⟩ : ∃ l, someL len z = l := ⟨_, rfl⟩
  rw [hnn, hll]
  go_enter Tryd.func9, Tryd.ntmps9
  go_upto_region 2 with (fail)
  have h1 := heap_alloc_new w (.cells #[.int .i64 0, .int .i64 0, .int .i64 0, .int .i64 0, .int .i64 0, .int .i64 0, .int .i64 0, .int .i64 0, .int .i64 0] 42)
  have h2 := heap_alloc_new (w.alloc (.cells #[.int .i64 0, .int .i64 0, .int .i64 0, .int .i64 0, .int .i64 0, .int .i64 0, .int .i64 0, .int .i64 0, .int .i64 0] 42)) (.cells #[.int .i64 0, .int .i64 0, .int .i64 0, .int .i64 0, .int .i64 0, .int .i64 0, .int .i64 0, .int .i64 0, .int .i64 0] 42)
  have hs : (w.alloc (.cells #[.int .i64 0, .int .i64 0, .int .i64 0, .int .i64 0, .int .i64 0, .int .i64 0, .int .i64 0, .int .i64 0, .int .i64 0] 42)).heap.size = w.heap.size + 1 := by simp
  rw [hs] at h2
  have h1' : ((w.alloc (.cells #[.int .i64 0, .int .i64 0, .int .i64 0, .int .i64 0, .int .i64 0, .int .i64 0, .int .i64 0, .int .i64 0, .int .i64 0] 42)).alloc (.cells #[.int .i64 0, .int .i64 0, .int .i64 0, .int .i64 0, .int .i64 0, .int .i64 0, .int .i64 0, .int .i64 0, .int .i64 0] 42)).heap[w.heap.size]? = some (.cells #[.int .i64 0, .int .i64 0, .int .i64 0, .int .i64 0, .int .i64 0, .int .i64 0, .int .i64 0, .int .i64 0, .int .i64 0] 42 (0, 0)) := ((Below.refl (w.heap.size + 1) (w.alloc (.cells #[.int .i64 0, .int .i64 0, .int .i64 0, .int .i64 0, .int .i64 0, .int .i64 0, .int .i64 0, .int .i64 0, .int .i64 0] 42))).alloc (by simp) _ |>.block _ (by omega)).trans h1
  have hb : Below w.heap.size w ((w.alloc (.cells #[.int .i64 0, .int .i64 0, .int .i64 0, .int .i64 0, .int .i64 0, .int .i64 0, .int .i64 0, .int .i64 0, .int .i64 0] 42)).alloc (.cells #[.int .i64 0, .int .i64 0, .int .i64 0, .int .i64 0, .int .i64 0, .int .i64 0, .int .i64 0, .int .i64 0, .int .i64 0] 42)) := S.bal (S.bal (Below.refl _ _) _) _
  clear h1 hs
  generalize (w.alloc (.cells #[.int .i64 0, .int .i64 0, .int .i64 0, .int .i64 0, .int .i64 0, .int .i64 0, .int .i64 0, .int .i64 0, .int .i64 0] 42)).alloc (.cells #[.int .i64 0, .int .i64 0, .int .i64 0, .int .i64 0, .int .i64 0, .int .i64 0, .int .i64 0, .int .i64 0, .int .i64 0] 42) = wa at h1' h2 hb ⊢
  obtain ⟨rb, hrb⟩ : ∃ rb, rb = w.heap.size + 1 := ⟨_, rfl⟩
  rw [← hrb] at h2 ⊢
  have hne : w.heap.size ≠ rb := by omega
  have B1 : Blk w wa w.heap.size 42 #[.int .i64 0, .int .i64 0, .int .i64 0, .int .i64 0, .int .i64 0, .int .i64 0, .int .i64 0, .int .i64 0, .int .i64 0] := ⟨h1', by omega, by decide⟩
  have B2 : Blk w wa rb 42 (RCells ((0 : Nat) : Int) (cutP z 0)) := ⟨h2, by omega, by decide⟩
  clear h1' h2 hrb
  have hbr : Below w.heap.size w wa := hb
  clear hb
  go_wp2_with (fail)
  go_loopw [4] (fun i wr => ∃ j : Nat, j ≤ len ∧ j ≤ 8 ∧ i = .int .i64 j ∧ Blk w wr w.heap.size 42 #[.int .i64 0, .int .i64 0, .int .i64 0, .int .i64 0, .int .i64 0, .int .i64 0, .int .i64 0, .int .i64 0, .int .i64 0] ∧ Blk w wr rb 42 (RCells (j : Int) (cutP z j)) ∧ Below w.heap.size w wr) (fun i _ => 8 - (intOf i).toNat)
  case atStart => exact ⟨0, Nat.zero_le _, Nat.zero_le _, rfl, B1, B2, hbr⟩
  case round =>
    obtain ⟨j, hj, hj8, rfl, C1, C2, hb⟩ := hrel
    clear B1 B2 hbr
    by_cases hjl : j < len ∧ j < 8
    · obtain ⟨hj1, hj2⟩ := hjl
      obtain ⟨vt, off', rfl, hvt, hzt⟩ : ∃ b off, ao = some ⟨b, off, none⟩ ∧ b < wr.heap.size ∧ ∀ j, j < len → wr.cell? ⟨b, off + j, none⟩ = some (.int .i64 (z j)) ∧ -9223372036854775808 ≤ z j ∧ z j ≤ 9223372036854775807 := (ci.on hb).resolve_left (by omega)
      obtain ⟨dt, k0, k1⟩ := hzt j hj1
      obtain ⟨zj, hzj⟩ : ∃ zj, z j = zj := ⟨_, rfl⟩
      have hroot : rootP (z j) = if kd zj 17 < 16 then 96 + 4 * kd zj 17 else 0 := by rw [hzj]; rfl
      rw [hzj] at dt k0 k1
      obtain ⟨kk, hkk⟩ : ∃ kk, kd zj 17 = kk := ⟨_, rfl⟩
      rw [hkk] at hroot
      have hkb : 0 ≤ kk ∧ kk < 17 := hkk ▸ kd_lt zj 17 (by decide)
      have hA' : (j : Int) < (len : Int) := by omega
      have hB' : (j : Int) < 8 := by omega
      have d0 : wr.cell? ⟨rb, 0, none⟩ = some (.int .i64 j) := C2.cell 0
      have df0 := C2.free 0
      have dl := C2.lt
      clear hzt hzj
      by_cases hk : kk < 16
      · have hk' : decide (kk < 16) = true := by simpa using hk
        rw [if_pos hk] at hroot
        obtain ⟨v, hv⟩ : ∃ v, 96 + 4 * kk = v := ⟨_, rfl⟩
        rw [hv] at hroot
        have cj : wr.cell? ⟨rb, 1 + j, none⟩ = some (.int .i64 (cutP z j j)) := (C2.cell _).trans (RCells.get _ _ j hj2)
        have cfj := C2.free (1 + j)
        have C3 : Blk w (wr.setCell ⟨rb, 1 + j, none⟩ (.int .i64 v)) rb 42 (RCells (j : Int) (cutP z (j + 1))) := by
          have := C2.set (1 + j) (.int .i64 v)
          rw [RCells.set _ _ j hj2, ← hroot, cutP_next] at this
          rw [← hroot]; exact this
        have C1' : Blk w (wr.setCell ⟨rb, 1 + j, none⟩ (.int .i64 v)) w.heap.size 42 #[.int .i64 0, .int .i64 0, .int .i64 0, .int .i64 0, .int .i64 0, .int .i64 0, .int .i64 0, .int .i64 0, .int .i64 0] := C1.oth (F := [rb]) (Oth.set _ _ _ _ (by simp)) (by simpa using hne)
        have hb3 : Below w.heap.size w (wr.setCell ⟨rb, 1 + j, none⟩ (.int .i64 v)) := hb.setCell C2.old _
        clear hk hroot
        go_upto_region 8 with (go_at_call 12; refine (cKind _ zj 17 k0 k1 (by decide)).mono ?_; rintro e wk ⟨rfl, hwk⟩; rw [hwk, hkk]; clear hwk wk)
        clear d0 df0 dl cj cfj dt
        generalize wr.setCell ⟨rb, 1 + j, none⟩ (.int .i64 v) = w3 at C3 C1' hb3 ⊢
        have d0 : w3.cell? ⟨rb, 0, none⟩ = some (.int .i64 j) := C3.cell 0
        have df0 := C3.free 0
        have dl := C3.lt
        go_wp2
        go_roundw
        case rel => exact ⟨j + 1, by omega, by omega, by go_num, C1'.oth (F := [rb]) (Oth.set _ _ _ _ (by simp)) (by simpa using hne), C3.set 0 (.int .i64 ((j : Int) + 1)), hb3.setCell C3.old _⟩
        case measure => simp [intOf]; omega
      · have hk' : decide (kk < 16) = false := by simpa using hk
        rw [if_neg hk] at hroot
        have C3 : Blk w wr rb 42 (RCells (j : Int) (cutP z (j + 1))) := cutP_zero z j hroot ▸ C2
        clear hk hroot
        go_wp2_with (go_at_call 12; refine (cKind _ zj 17 k0 k1 (by decide)).mono ?_; rintro e wk ⟨rfl, hwk⟩; rw [hwk, hkk]; clear hwk wk)
        go_roundw
        case rel => exact ⟨j + 1, by omega, by omega, by go_num, C1.oth (F := [rb]) (Oth.set _ _ _ _ (by simp)) (by simpa using hne), C3.set 0 (.int .i64 ((j : Int) + 1)), hb.setCell C3.old _⟩
        case measure => simp [intOf]; omega
    · have hjn : someN len = j := by unfold someN; split <;> omega
      have D2 : Blk w wr rb 42 (RCells (nn : Int) ll) := by rw [← hnn, ← hll, someL, hjn]; exact C2
      have a0 : wr.cell? ⟨w.heap.size, 0, none⟩ = some (.int .i64 0) := C1.cell 0; have af0 := C1.free 0; have b0 : wr.cell? ⟨rb, 0, none⟩ = some (.int .i64 nn) := D2.cell 0; have a1 : wr.cell? ⟨w.heap.size, 1, none⟩ = some (.int .i64 0) := C1.cell 1; have af1 := C1.free 1; have b1 : wr.cell? ⟨rb, 1, none⟩ = some (.int .i64 (ll 0)) := D2.cell 1; have a2 : wr.cell? ⟨w.heap.size, 2, none⟩ = some (.int .i64 0) := C1.cell 2; have af2 := C1.free 2; have b2 : wr.cell? ⟨rb, 2, none⟩ = some (.int .i64 (ll 1)) := D2.cell 2; have a3 : wr.cell? ⟨w.heap.size, 3, none⟩ = some (.int .i64 0) := C1.cell 3; have af3 := C1.free 3; have b3 : wr.cell? ⟨rb, 3, none⟩ = some (.int .i64 (ll 2)) := D2.cell 3; have a4 : wr.cell? ⟨w.heap.size, 4, none⟩ = some (.int .i64 0) := C1.cell 4; have af4 := C1.free 4; have b4 : wr.cell? ⟨rb, 4, none⟩ = some (.int .i64 (ll 3)) := D2.cell 4; have a5 : wr.cell? ⟨w.heap.size, 5, none⟩ = some (.int .i64 0) := C1.cell 5; have af5 := C1.free 5; have b5 : wr.cell? ⟨rb, 5, none⟩ = some (.int .i64 (ll 4)) := D2.cell 5; have a6 : wr.cell? ⟨w.heap.size, 6, none⟩ = some (.int .i64 0) := C1.cell 6; have af6 := C1.free 6; have b6 : wr.cell? ⟨rb, 6, none⟩ = some (.int .i64 (ll 5)) := D2.cell 6; have a7 : wr.cell? ⟨w.heap.size, 7, none⟩ = some (.int .i64 0) := C1.cell 7; have af7 := C1.free 7; have b7 : wr.cell? ⟨rb, 7, none⟩ = some (.int .i64 (ll 6)) := D2.cell 7; have a8 : wr.cell? ⟨w.heap.size, 8, none⟩ = some (.int .i64 0) := C1.cell 8; have af8 := C1.free 8; have b8 : wr.cell? ⟨rb, 8, none⟩ = some (.int .i64 (ll 7)) := D2.cell 8
      have la := C1.lt
      have lb := D2.lt
      clear hjn hll hnn D2 ci
      have hjl' : len ≤ j ∨ 8 ≤ j := by omega
      clear hjl
      go_wp2
      all_goals first | (exfalso; omega) | (
        have R9 := row9 C1.at_ (.int .i64 nn) (.int .i64 (ll 0)) (.int .i64 (ll 1)) (.int .i64 (ll 2)) (.int .i64 (ll 3)) (.int .i64 (ll 4)) (.int .i64 (ll 5)) (.int .i64 (ll 6)) (.int .i64 (ll 7))
        have hb9 := bel9 hb C1.old (.int .i64 nn) (.int .i64 (ll 0)) (.int .i64 (ll 1)) (.int .i64 (ll 2)) (.int .i64 (ll 3)) (.int .i64 (ll 4)) (.int .i64 (ll 5)) (.int .i64 (ll 6)) (.int .i64 (ll 7))
        generalize ((((((((wr.setCell ⟨w.heap.size, 0, none⟩ (.int .i64 nn)).setCell ⟨w.heap.size, 1, none⟩ (.int .i64 (ll 0))).setCell ⟨w.heap.size, 2, none⟩ (.int .i64 (ll 1))).setCell ⟨w.heap.size, 3, none⟩ (.int .i64 (ll 2))).setCell ⟨w.heap.size, 4, none⟩ (.int .i64 (ll 3))).setCell ⟨w.heap.size, 5, none⟩ (.int .i64 (ll 4))).setCell ⟨w.heap.size, 6, none⟩ (.int .i64 (ll 5))).setCell ⟨w.heap.size, 7, none⟩ (.int .i64 (ll 6))).setCell ⟨w.heap.size, 8, none⟩ (.int .i64 (ll 7)) = wf at R9 hb9 ⊢
        have e0 : wf.cell? ⟨w.heap.size, 0, none⟩ = some (.int .i64 nn) := cell_of_row wf _ _ _ _ _ R9; have e1 : wf.cell? ⟨w.heap.size, 1, none⟩ = some (.int .i64 (ll 0)) := cell_of_row wf _ _ _ _ _ R9; have e2 : wf.cell? ⟨w.heap.size, 2, none⟩ = some (.int .i64 (ll 1)) := cell_of_row wf _ _ _ _ _ R9; have e3 : wf.cell? ⟨w.heap.size, 3, none⟩ = some (.int .i64 (ll 2)) := cell_of_row wf _ _ _ _ _ R9; have e4 : wf.cell? ⟨w.heap.size, 4, none⟩ = some (.int .i64 (ll 3)) := cell_of_row wf _ _ _ _ _ R9; have e5 : wf.cell? ⟨w.heap.size, 5, none⟩ = some (.int .i64 (ll 4)) := cell_of_row wf _ _ _ _ _ R9; have e6 : wf.cell? ⟨w.heap.size, 6, none⟩ = some (.int .i64 (ll 5)) := cell_of_row wf _ _ _ _ _ R9; have e7 : wf.cell? ⟨w.heap.size, 7, none⟩ = some (.int .i64 (ll 6)) := cell_of_row wf _ _ _ _ _ R9; have e8 : wf.cell? ⟨w.heap.size, 8, none⟩ = some (.int .i64 (ll 7)) := cell_of_row wf _ _ _ _ _ R9
        exact bodyPost_ret (v := .agg #[.int .i64 nn, .int .i64 (ll 0), .int .i64 (ll 1), .int .i64 (ll 2), .int .i64 (ll 3), .int .i64 (ll 4), .int .i64 (ll 5), .int .i64 (ll 6), .int .i64 (ll 7)]) (by simp [results, Tryd.results9, go_sem, e0, e1, e2, e3, e4, e5, e6, e7, e8]) rfl ⟨rfl, hb9⟩)
end Go.Proofs.YtoablodmodnamaaDoor
