/-
  Contracts of New, and of Clone.
-/
import Derived.Test.YtoablodmodnamaaDoorAcc
import Derived.Deep.RegionHeld3
import Derived.WalkSpells
namespace Go.Proofs.YtoablodmodnamaaDoor
set_option linter.unusedVariables false
set_option maxRecDepth 100000
open Go.ChangeShapes Go.WideShapes Go.RowKit

theorem info31 : (Tryd.prog.info? 76).map (fun i => (i.zero, i.size, i.bytes)) = some (some (.int .u64 0), 1, 8) := by kernel_rfl

theorem made_wds (n : Nat) : (madeCells #[Value.int .u64 0] n).toList = wds (List.replicate n 0) := by
  rw [toList_madeCells_one]
  simp [wds]
/-- a memory that has just been made -/
theorem new_at {T : TypeId} (ht : T ≠ 76 ∧ T ≠ 154) {w w1 : World} {n : Nat} (hown : w1.ownsRow 0 76 1 (.slice (some ⟨w.heap.size, 0, none⟩) n n) n (madeCells #[Value.int .u64 0] n).toList) (hg : w.grownBy w1 none) :
    MemAt T (w1.alloc (.cells #[.slice (some ⟨w.heap.size, 0, none⟩) n n, .int .i64 0, .int .i64 0, .slice none 0 0] T)) ⟨w1.heap.size, w.heap.size, n, .slice none 0 0⟩ (St.new n) ∧
    Below w.heap.size w (w1.alloc (.cells #[.slice (some ⟨w.heap.size, 0, none⟩) n n, .int .i64 0, .int .i64 0, .slice none 0 0] T)) ∧ ∀ k ∈ (⟨w1.heap.size, w.heap.size, n, .slice none 0 0⟩ : Loc).fp, w.heap.size ≤ k := by
  rw [made_wds] at hown
  have hl : (List.replicate n (0 : Int)).length = n := by simp
  refine ⟨⟨?_, ?_, World.ownsRow_nil _ _ _ _, fun _ => rfl, ht⟩, ?_, ?_⟩
  · rw [heap_alloc_new]; simp [St.new]
  · simp only [St.new, hl]; exact hown.alloc _
  · exact ((Below.refl _ _).grown hg (Nat.le_refl _) fun k hk => by cases hk).alloc hg.size _
  · intro k hk
    simp [Loc.fp, Value.ownBlock] at hk
    have := hg.size
    rcases hk with rfl | rfl <;> omega

theorem cNew (w : World) (n : Nat) (h1 : 1 ≤ n) (h4 : n ≤ 4096) :
    Calls Tryd.prog 35 #[.int .i64 n] w fun e w' => ∃ b g cp, e = .returned (.tuple #[.pointer (some ⟨b, 0, none⟩), .int .i64 0]) ∧ Mm w' ⟨b, g, cp, .slice none 0 0⟩ (St.new n) ∧ Below w.heap.size w w' ∧ ∀ k ∈ (⟨b, g, cp, .slice none 0 0⟩ : Loc).fp, w.heap.size ≤ k := by
  obtain ⟨i0, hi, hz0, hz1, hz2⟩ := info_parts info31
  go_enter Tryd.func35, Tryd.ntmps35
  go_wp2_with (at_make; refine wpList_make_full _ rfl _ _ 77 rfl 0 76 i0 (.int .u64 0) 1 Tryd.underlying77 hi hz0 hz1 .i64 .i64 n n n rfl rfl rfl rfl ?b2 ?b3 ?b4 ?_)
  case b2 => rw [hz2]; omega
  case b3 => unfold maxLen; omega
  case b4 => omega
  intro w1 hown hg
  have R := new_at (T := 142) (by decide) hown hg
  clear hown hg
  go_wp2
  go_ret2
  exact ⟨_, _, _, rfl, R⟩
theorem cNewBad (w : World) (n : Int) (h : n < 1 ∨ 4096 < n) :
    Calls Tryd.prog 35 #[.int .i64 n] w fun e w' => e = .returned (.tuple #[.pointer none, .int .i64 1]) ∧ w' = w := by
  rcases h with h | h
  all_goals
    go_enter Tryd.func35, Tryd.ntmps35
    go_wp2
    go_ret2
    exact ⟨rfl, rfl⟩

theorem cRNew (w : World) (n : Nat) (h1 : 1 ≤ n) (h4 : n ≤ 4096) :
    Calls Tryd.prog 36 #[.int .i64 n] w fun e w' => ∃ b g cp, e = .returned (.tuple #[.pointer (some ⟨b, 0, none⟩), .int .i64 0]) ∧ Rm w' ⟨b, g, cp, .slice none 0 0⟩ (St.new n) ∧ Below w.heap.size w w' ∧ ∀ k ∈ (⟨b, g, cp, .slice none 0 0⟩ : Loc).fp, w.heap.size ≤ k := by
  obtain ⟨i0, hi, hz0, hz1, hz2⟩ := info_parts info31
  go_enter Tryd.func36, Tryd.ntmps36
  go_wp2_with (at_make; refine wpList_make_full _ rfl _ _ 77 rfl 0 76 i0 (.int .u64 0) 1 Tryd.underlying77 hi hz0 hz1 .i64 .i64 n n n rfl rfl rfl rfl ?b2 ?b3 ?b4 ?_)
  case b2 => rw [hz2]; omega
  case b3 => unfold maxLen; omega
  case b4 => omega
  intro w1 hown hg
  have R := new_at (T := 80) (by decide) hown hg
  clear hown hg
  go_wp2
  go_ret2
  exact ⟨_, _, _, rfl, R⟩
theorem cRNewBad (w : World) (n : Int) (h : n < 1 ∨ 4096 < n) :
    Calls Tryd.prog 36 #[.int .i64 n] w fun e w' => e = .returned (.tuple #[.pointer none, .int .i64 1]) ∧ w' = w := by
  rcases h with h | h
  all_goals
    go_enter Tryd.func36, Tryd.ntmps36
    go_wp2
    go_ret2
    exact ⟨rfl, rfl⟩

theorem accs_one (l : List (Int × Int × Bool)) : ∀ u ∈ accs l, u.oneCell' = true := by
  induction l with
  | nil => intro u hu; simp [accs] at hu
  | cons x r ih =>
    intro u hu
    simp only [accs, List.mem_cons] at hu
    rcases hu with rfl | rfl | rfl | hu
    · rfl
    · rfl
    · rfl
    · exact ih u hu
/-- slices.Clone of the words -/
theorem cCloneW {w : World} {L : Loc} {s : St} (hm : Mm w L s) (f : s.Fit) :
    Calls Tryd.prog 88 #[.slice (some ⟨L.g, 0, none⟩) s.ws.length L.cp] w fun e w' => ∃ g cp, e = .returned (.slice (some ⟨g, 0, none⟩) s.ws.length cp) ∧
      w'.ownsRow 0 76 1 (.slice (some ⟨g, 0, none⟩) s.ws.length cp) s.ws.length (wds s.ws) ∧ w.heap.size ≤ g ∧ Below w.heap.size w w' := by
  obtain ⟨i0, hi, hz0, hz1, hz2⟩ := info_parts info31
  have n1 := f.n1
  have n4 := f.n4
  have hm0 := hm.alloc (.cells #[] 76)
  have hl : (w.alloc (.cells #[] 76)).ownsRow 0 76 1 (.slice (some ⟨w.heap.size, 0, none⟩) 0 0) 0 [] := World.ownsRow_lit w #[] 0 (Nat.zero_le _) (by decide) rfl
  have hnil := fun a n c => Lib.run_eql_slice_nil (P := Tryd.prog) w 77 76 a n c 0 0 Tryd.underlying77
  go_enter Tryd.func88, Tryd.ntmps88
  go_wp2_with (at_builtin; refine wpList_append_mine _ rfl _ _ 77 rfl 76 i0 _ 1 8 Tryd.underlying77 hi hz0 hz1 hz2 rfl (by decide) _ _ _ rfl hl ⟨L.g, 0, none⟩ s.ws.length L.cp (wds s.ws) rfl ?c0 ?c1 ?c2 ?c3 ?c4 ?c5 ?_)
  case c0 => rw [wds_length]; omega
  case c1 => exact hm0.row.cells rfl
  case c2 => intro u hu; simp [wds] at hu; obtain ⟨_, _, rfl⟩ := hu; rfl
  case c3 => unfold maxLen; omega
  case c4 => omega
  case c5 => omega
  intro g cp w2 hown hgr hnew
  have R1 : w2.ownsRow 0 76 1 (.slice (some ⟨g, 0, none⟩) s.ws.length cp) s.ws.length (wds s.ws) := by simpa using hown
  have R2 : w.heap.size ≤ g := by
    rcases hnew with h | h
    · simp [Value.ownBlock] at h; omega
    · omega
  have R3 : Below w.heap.size w w2 := ((Below.refl _ _).alloc (Nat.le_refl _) _).grown hgr (by simp) fun k hk => by simp [Value.ownBlock] at hk; omega
  clear hown hgr hnew hl
  go_wp2
  go_ret
  exact ⟨g, cp, by simp, R1, R2, R3⟩

/-- slices.Clone of the accesses -/
theorem cCloneU {w : World} {L : Loc} {s : St} (hm : Mm w L s) (f : s.Fit) :
    Calls Tryd.prog 89 #[L.vu] w fun e w' => ∃ ao n cp, e = .returned (.slice ao n cp) ∧
      w'.ownsRow 0 154 3 (.slice ao n cp) s.l.length (accs s.l) ∧ (∀ k, Value.ownBlock (.slice ao n cp) = some k → w.heap.size ≤ k) ∧ (s.l = [] → Value.slice ao n cp = .slice none 0 0) ∧ Below w.heap.size w w' := by
  obtain ⟨i0, hi, hz0, hz1, hz2⟩ := info_parts info44
  have lc := f.lc
  have c1 := f.c1
  have hm0 := hm.alloc (.cells #[] 154)
  have hl : (w.alloc (.cells #[] 154)).ownsRow 0 154 3 (.slice (some ⟨w.heap.size, 0, none⟩) 0 0) 0 [] := World.ownsRow_lit w #[] 0 (Nat.zero_le _) (by decide) rfl
  by_cases h0 : s.l = []
  · have hv := hm.non h0
    rw [hv]
    have hnil := fun a n c => Lib.run_eql_slice_nil (P := Tryd.prog) w 78 154 a n c 0 0 Tryd.underlying78
    go_enter Tryd.func89, Tryd.ntmps89
    go_wp2
    go_ret
    exact ⟨none, 0, 0, rfl, by rw [h0]; exact World.ownsRow_nil _ _ _ _, fun k hk => by simp [Value.ownBlock] at hk, fun _ => rfl, Below.refl _ _⟩
  · have hpos : 0 < s.l.length := List.length_pos_iff.2 h0
    obtain ⟨g0, cp0, hv⟩ : ∃ g cp, L.vu = .slice (some ⟨g, 0, none⟩) s.l.length cp := by
      rcases hm.unt.2 with ⟨_, h⟩ | ⟨g, cp, _, h, _⟩
      · omega
      · exact ⟨g, cp, h⟩
    have hsrc := hm0.unt.cells (g := g0) (by rw [hv]; rfl)
    rw [hv]
    have hnil := fun a n c => Lib.run_eql_slice_nil (P := Tryd.prog) w 78 154 a n c 0 0 Tryd.underlying78
    go_enter Tryd.func89, Tryd.ntmps89
    go_wp2_with (at_builtin; refine wpList_append_mine _ rfl _ _ 78 rfl 154 i0 _ 3 24 Tryd.underlying78 hi hz0 hz1 hz2 rfl (by decide) _ _ _ rfl hl ⟨g0, 0, none⟩ s.l.length cp0 (accs s.l) rfl ?c0 ?c1 ?c2 ?c3 ?c4 ?c5 ?_)
    case c0 => exact accs_length _
    case c1 => exact hsrc
    case c2 => exact accs_one _
    case c3 => unfold maxLen; omega
    case c4 => omega
    case c5 => exact hpos
    intro g cp w2 hown hgr hnew
    have R1 : w2.ownsRow 0 154 3 (.slice (some ⟨g, 0, none⟩) s.l.length cp) s.l.length (accs s.l) := by simpa using hown
    have R2 : w.heap.size ≤ g := by
      rcases hnew with h | h
      · simp [Value.ownBlock] at h; omega
      · omega
    have R3 : Below w.heap.size w w2 := ((Below.refl _ _).alloc (Nat.le_refl _) _).grown hgr (by simp) fun k hk => by simp [Value.ownBlock] at hk; omega
    clear hown hgr hnew hl
    go_wp2
    go_ret
    exact ⟨some ⟨g, 0, none⟩, s.l.length, cp, by simp, R1, fun k hk => by simp [Value.ownBlock] at hk; omega, fun h => absurd h h0, R3⟩
end Go.Proofs.YtoablodmodnamaaDoor
