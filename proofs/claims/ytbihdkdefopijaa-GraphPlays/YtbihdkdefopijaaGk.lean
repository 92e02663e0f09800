/-
  The contract of the graph's Clone.
-/
import Derived.Test.YtbihdkdefopijaaGc5
import Derived.Deep.RegionHeld3
import Derived.WalkSpells
namespace Go.Proofs.Ytbihdkdefopijaa
set_option linter.unusedVariables false
set_option linter.unusedSimpArgs false
open Go.ChangeShapes Go.WideShapes Go.ChangeAt Go.RowKit

theorem tcells_one (ts : List (List Int)) : ∀ u ∈ tcells ts, u.oneCell' = true := by
  induction ts with
  | nil => intro u hu; simp [tcells] at hu
  | cons r ts ih =>
    intro u hu
    simp only [tcells, List.mem_append] at hu
    rcases hu with hu | hu
    · simp only [rcs, List.mem_cons, List.not_mem_nil, or_false] at hu
      rcases hu with rfl | rfl | rfl | rfl | rfl | rfl | rfl | rfl | rfl <;> rfl
    · exact ih u hu
theorem ocells_one (os : List (List (Int × Int))) : ∀ u ∈ ocells os, u.oneCell' = true := by
  induction os with
  | nil => intro u hu; simp [ocells] at hu
  | cons o os ih =>
    intro u hu
    simp only [ocells, List.mem_append] at hu
    rcases hu with hu | hu
    · simp only [ocs, List.mem_cons, List.not_mem_nil, or_false] at hu
      rcases hu with rfl | rfl | rfl | rfl | rfl | rfl | rfl | rfl | rfl | rfl | rfl | rfl | rfl | rfl | rfl <;> rfl
    · exact ih u hu

/-- slices.Clone of the threads -/
theorem cCloneT {w : World} {L : Loc} {g : Gr} (hg : GAt w L g) (f : g.Fit) :
    Calls Try.prog 50 #[.slice (some ⟨L.tg, 0, none⟩) g.ts.length L.tc] w fun e w' => ∃ b cp, e = .returned (.slice (some ⟨b, 0, none⟩) g.ts.length cp) ∧
      w'.ownsRow 0 72 9 (.slice (some ⟨b, 0, none⟩) g.ts.length cp) g.ts.length (tcells g.ts) ∧ w.heap.size ≤ b ∧ Below w.heap.size w w' := by
  obtain ⟨i0, hi, hz0, hz1, hz2⟩ := info_parts infoRoots
  have t1 := f.t1
  have t64 := f.t64
  have hg0 := hg.alloc (.cells #[] 72)
  have hl : (w.alloc (.cells #[] 72)).ownsRow 0 72 9 (.slice (some ⟨w.heap.size, 0, none⟩) 0 0) 0 [] := World.ownsRow_lit w #[] 0 (Nat.zero_le _) (by decide) rfl
  have hnil := fun a n c => Lib.run_eql_slice_nil (P := Try.prog) w 62 72 a n c 0 0 Try.underlying62
  go_enter Try.func50, Try.ntmps50
  go_wp2_with (at_builtin; refine wpList_append_mine _ rfl _ _ 62 rfl 72 i0 _ 9 72 Try.underlying62 hi hz0 hz1 hz2 rfl (by decide) _ _ _ rfl hl ⟨L.tg, 0, none⟩ g.ts.length L.tc (tcells g.ts) rfl ?c0 ?c1 ?c2 ?c3 ?c4 ?c5 ?_)
  case c0 => exact tcells_length _
  case c1 => exact hg0.thr.cells rfl
  case c2 => exact tcells_one _
  case c3 => unfold maxLen; omega
  case c4 => omega
  case c5 => omega
  intro b cp w2 hown hgr hnew
  have R1 : w2.ownsRow 0 72 9 (.slice (some ⟨b, 0, none⟩) g.ts.length cp) g.ts.length (tcells g.ts) := by simpa using hown
  have R2 : w.heap.size ≤ b := by
    rcases hnew with h | h
    · simp [Value.ownBlock] at h; omega
    · omega
  have R3 : Below w.heap.size w w2 := ((Below.refl _ _).alloc (Nat.le_refl _) _).grown hgr (by simp) fun k hk => by simp [Value.ownBlock] at hk; omega
  clear hown hgr hnew hl
  go_wp2
  go_ret
  exact ⟨b, cp, by simp, R1, R2, R3⟩
/-- slices.Clone of the objects -/
theorem cCloneO {w : World} {L : Loc} {g : Gr} (hg : GAt w L g) (f : g.Fit) :
    Calls Try.prog 51 #[L.vo] w fun e w' => ∃ ao n cp, e = .returned (.slice ao n cp) ∧
      w'.ownsRow 0 77 15 (.slice ao n cp) g.os.length (ocells g.os) ∧ (∀ k, Value.ownBlock (.slice ao n cp) = some k → w.heap.size ≤ k) ∧ (g.os = [] → Value.slice ao n cp = .slice none 0 0) ∧ Below w.heap.size w w' := by
  obtain ⟨i0, hi, hz0, hz1, hz2⟩ := info_parts infoObj
  have ob := f.ob
  have hg0 := hg.alloc (.cells #[] 77)
  have hl : (w.alloc (.cells #[] 77)).ownsRow 0 77 15 (.slice (some ⟨w.heap.size, 0, none⟩) 0 0) 0 [] := World.ownsRow_lit w #[] 0 (Nat.zero_le _) (by decide) rfl
  have hnil := fun a n c => Lib.run_eql_slice_nil (P := Try.prog) w 63 77 a n c 0 0 Try.underlying63
  by_cases h0 : g.os = []
  · have hv := hg.non h0
    rw [hv]
    go_enter Try.func51, Try.ntmps51
    go_wp2
    go_ret
    exact ⟨none, 0, 0, rfl, by rw [h0]; exact World.ownsRow_nil _ _ _ _, fun k hk => by simp [Value.ownBlock] at hk, fun _ => rfl, Below.refl _ _⟩
  · have hpos : 0 < g.os.length := List.length_pos_iff.2 h0
    obtain ⟨g0, cp0, hv⟩ : ∃ b cp, L.vo = .slice (some ⟨b, 0, none⟩) g.os.length cp := by
      rcases hg.obj.2 with ⟨_, h⟩ | ⟨b, cp, _, h, _⟩
      · omega
      · exact ⟨b, cp, h⟩
    have hsrc := hg0.obj.cells (g := g0) (by rw [hv]; rfl)
    rw [hv]
    go_enter Try.func51, Try.ntmps51
    go_wp2_with (at_builtin; refine wpList_append_mine _ rfl _ _ 63 rfl 77 i0 _ 15 120 Try.underlying63 hi hz0 hz1 hz2 rfl (by decide) _ _ _ rfl hl ⟨g0, 0, none⟩ g.os.length cp0 (ocells g.os) rfl ?c0 ?c1 ?c2 ?c3 ?c4 ?c5 ?_)
    case c0 => exact ocells_length _
    case c1 => exact hsrc
    case c2 => exact ocells_one _
    case c3 => unfold maxLen; omega
    case c4 => omega
    case c5 => exact hpos
    intro b cp w2 hown hgr hnew
    have R1 : w2.ownsRow 0 77 15 (.slice (some ⟨b, 0, none⟩) g.os.length cp) g.os.length (ocells g.os) := by simpa using hown
    have R2 : w.heap.size ≤ b := by
      rcases hnew with h | h
      · simp [Value.ownBlock] at h; omega
      · omega
    have R3 : Below w.heap.size w w2 := ((Below.refl _ _).alloc (Nat.le_refl _) _).grown hgr (by simp) fun k hk => by simp [Value.ownBlock] at hk; omega
    clear hown hgr hnew hl
    go_wp2
    go_ret
    exact ⟨some ⟨b, 0, none⟩, g.os.length, cp, by simp, R1, fun k hk => by simp [Value.ownBlock] at hk; omega, fun h => absurd h h0, R3⟩

/-- what Clone reads, while blocks come -/
theorem reads_of {w w' : World} {L : Loc} {g : Gr} (hg : GAt w L g) (h : Below w.heap.size w w') : Below w.heap.size w w' ∧ w'.cell? ⟨L.b, 0, none⟩ = some (.slice (some ⟨L.tg, 0, none⟩) g.ts.length L.tc) ∧ w'.cell? ⟨L.b, 1, none⟩ = some L.vo :=
  ⟨h, (hg.below h).cell0, (hg.below h).cell1⟩
set_option maxHeartbeats 800000 in
set_option maxRecDepth 100000 in
theorem cClone {w : World} {L : Loc} {g : Gr} (hg : GAt w L g) (f : g.Fit) :
    Calls Try.prog 29 #[.pointer (some ⟨L.b, 0, none⟩)] w fun e w' => ∃ L' : Loc, e = .returned (.pointer (some ⟨L'.b, 0, none⟩)) ∧ GAt w' L' g ∧ Below w.heap.size w w' ∧ ∀ k ∈ L'.fp, w.heap.size ≤ k := by
  go_enter Try.func29, Try.ntmps29
  go_wp2
  have RD := reads_of hg (Below.refl w.heap.size w).drew
  go_region_held3 (fun w' => Below w.heap.size w w' ∧ w'.cell? ⟨L.b, 0, none⟩ = some (.slice (some ⟨L.tg, 0, none⟩) g.ts.length L.tc) ∧ w'.cell? ⟨L.b, 1, none⟩ = some L.vo) (first | assumption | exact RD | exact reads_of hg (by assumption) | exact reads_of hg (Below.alloc (by assumption) (Below.size (by assumption)) _))
    (first
      | (go_at_call 50; refine (cCloneT (hg.below (show Below w.heap.size w _ from RD.1)) f).mono ?_; rintro e w1 ⟨b, cp, rfl, hw1, hg1, hb1⟩; have hb1' := RD.1.trans hb1)
      | (go_at_call 51; refine (cCloneO (hg.below hb1') f).mono ?_; rintro e w2 ⟨ao, n', cp', rfl, hu2, hk2, hn2, hb2⟩; have hb2' := hb1'.trans (hb2.mono hb1'.size)))
  have R1 : GAt (w2.alloc (.cells #[.slice (some ⟨b, 0, none⟩) g.ts.length cp, .slice ao n' cp'] 65)) ⟨w2.heap.size, b, cp, .slice ao n' cp'⟩ g :=
    ⟨heap_alloc_new _ _, (own_kept hw1 (Kept.of_below (F := []) hb2) fun _ _ => by simp).alloc _, hu2.alloc _, hn2⟩
  have R2 := hb2'.alloc hb2'.size (.cells #[.slice (some ⟨b, 0, none⟩) g.ts.length cp, .slice ao n' cp'] 65)
  have R3 : ∀ k ∈ (⟨w2.heap.size, b, cp, .slice ao n' cp'⟩ : Loc).fp, w.heap.size ≤ k := by
    intro k hk
    simp only [Loc.fp, List.mem_cons, Option.mem_toList] at hk
    rcases hk with rfl | rfl | hk
    · exact hb2'.size
    · exact hg1
    · exact Nat.le_trans hb1'.size (hk2 k hk)
  clear hw1 hu2 hk2 hn2
  go_wp2
  go_ret
  exact ⟨⟨w2.heap.size, b, cp, .slice ao n' cp'⟩, rfl, R1, R2, R3⟩
end Go.Proofs.Ytbihdkdefopijaa
