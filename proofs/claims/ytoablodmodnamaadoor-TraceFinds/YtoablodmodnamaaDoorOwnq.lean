/-
  One memory, and two, as a law has them in hand.
-/
import Derived.Test.YtoablodmodnamaaDoorAccq
import Derived.Deep.RegionHeld3
import Derived.WalkSpells
namespace Go.Proofs.YtoablodmodnamaaDoor
set_option linter.unusedVariables false
set_option maxRecDepth 100000
open Go.ChangeShapes Go.WideShapes Go.RowKit

theorem info31 : (Tryd.prog.info? 76).map (fun i => (i.zero, i.size, i.bytes)) = some (some (.int .u64 0), 1, 8) := by kernel_rfl

theorem made_wds (n : Nat) : (madeCells #[Value.int .u64 0] n).toList = wds (List.replicate n 0) := by
  rw [toList_madeCells_one]
  simp [wds]
/-- a memory that has just been made -/
theorem new_at {T : TypeId} (ht : T ≠ 76 ∧ T ≠ 154) {w w1 : World} {n : Nat} (hown : w1.ownsRow 0 76 1 (.slice (some ⟨w.heap.size, 0, none⟩) n n) n (madeCells #[Value.int .u64 0] n).toList) (hg : w.grownBy w1 none) :
    MemAt T (w1.alloc (.cells #[.slice (some ⟨w.heap.size, 0, none⟩) n n, .int .i64 0, .int .i64 0, .slice none 0 0] T)) ⟨w1.heap.size, w.heap.size, n, .slice none 0 0⟩ (St.new n) ∧
    Below w.heap.size w (w1.alloc (.cells #[.slice (some ⟨w.heap.size, 0, none⟩) n n, .int .i64 0, .int .i64 0, .slice none 0 0] T)) ∧ ∀ k ∈ (⟨w1.heap.size, w.heap.size, n, .slice none 0 0⟩ : Loc).fp, w.heap.size ≤ k := by
  rw [made_wds] at hown
  have hl : (List.replicate n (0 : Int)).length = n := by simp
  refine ⟨⟨?_, ?_, World.ownsRow_nil _ _ _ _, fun _ => rfl, ht⟩, ?_, ?_⟩
  · rw [heap_alloc_new]; simp [St.new]
  · simp only [St.new, hl]; exact hown.alloc _
  · exact ((Below.refl _ _).grown hg (Nat.le_refl _) fun k hk => by cases hk).alloc hg.size _
  · intro k hk
    simp [Loc.fp, Value.ownBlock] at hk
    have := hg.size
    rcases hk with rfl | rfl <;> omega

theorem cNew (w : World) (n : Nat) (h1 : 1 ≤ n) (h4 : n ≤ 4096) :
    Calls Tryd.prog 35 #[.int .i64 n] w fun e w' => ∃ b g cp, e = .returned (.tuple #[.pointer (some ⟨b, 0, none⟩), .int .i64 0]) ∧ Mm w' ⟨b, g, cp, .slice none 0 0⟩ (St.new n) ∧ Below w.heap.size w w' ∧ ∀ k ∈ (⟨b, g, cp, .slice none 0 0⟩ : Loc).fp, w.heap.size ≤ k := by
  obtain ⟨i0, hi, hz0, hz1, hz2⟩ := info_parts info31
  go_enter Tryd.func35, Tryd.ntmps35
  go_wp2_with (at_make; refine wpList_make_full _ rfl _ _ 77 rfl 0 76 i0 (.int .u64 0) 1 Tryd.underlying77 hi hz0 hz1 .i64 .i64 n n n rfl rfl rfl rfl ?b2 ?b3 ?b4 ?_)
  case b2 => rw [hz2]; omega
  case b3 => unfold maxLen; omega
  case b4 => omega
  intro w1 hown hg
  have R := new_at (T := 142) (by decide) hown hg
  clear hown hg
  go_wp2
  go_ret2
  exact ⟨_, _, _, rfl, R⟩
theorem cNewBad (w : World) (n : Int) (h : n < 1 ∨ 4096 < n) :
    Calls Tryd.prog 35 #[.int .i64 n] w fun e w' => e = .returned (.tuple #[.pointer none, .int .i64 1]) ∧ w' = w := by
  rcases h with h | h
  all_goals
    go_enter Tryd.func35, Tryd.ntmps35
    go_wp2
    go_ret2
    exact ⟨rfl, rfl⟩

theorem cRNew (w : World) (n : Nat) (h1 : 1 ≤ n) (h4 : n ≤ 4096) :
    Calls Tryd.prog 36 #[.int .i64 n] w fun e w' => ∃ b g cp, e = .returned (.tuple #[.pointer (some ⟨b, 0, none⟩), .int .i64 0]) ∧ Rm w' ⟨b, g, cp, .slice none 0 0⟩ (St.new n) ∧ Below w.heap.size w w' ∧ ∀ k ∈ (⟨b, g, cp, .slice none 0 0⟩ : Loc).fp, w.heap.size ≤ k := by
  obtain ⟨i0, hi, hz0, hz1, hz2⟩ := info_parts info31
  go_enter Tryd.func36, Tryd.ntmps36
  go_wp2_with (at_make; refine wpList_make_full _ rfl _ _ 77 rfl 0 76 i0 (.int .u64 0) 1 Tryd.underlying77 hi hz0 hz1 .i64 .i64 n n n rfl rfl rfl rfl ?b2 ?b3 ?b4 ?_)
  case b2 => rw [hz2]; omega
  case b3 => unfold maxLen; omega
  case b4 => omega
  intro w1 hown hg
  have R := new_at (T := 80) (by decide) hown hg
  clear hown hg
  go_wp2
  go_ret2
  exact ⟨_, _, _, rfl, R⟩
theorem cRNewBad (w : World) (n : Int) (h : n < 1 ∨ 4096 < n) :
    Calls Tryd.prog 36 #[.int .i64 n] w fun e w' => e = .returned (.tuple #[.pointer none, .int .i64 1]) ∧ w' = w := by
  rcases h with h | h
  all_goals
    go_enter Tryd.func36, Tryd.ntmps36
    go_wp2
    go_ret2
    exact ⟨rfl, rfl⟩

theorem accs_one (l : List (Int × Int × Bool)) : ∀ u ∈ accs l, u.oneCell' = true := by
  induction l with
  | nil => intro u hu; simp [accs] at hu
  | cons x r ih =>
    intro u hu
    simp only [accs, List.mem_cons] at hu
    rcases hu with rfl | rfl | rfl | hu
    · rfl
    · rfl
    · rfl
    · exact ih u hu
/-- slices.Clone of the words -/
theorem cCloneW {w : World} {L : Loc} {s : St} (hm : Mm w L s) (f : s.Fit) :
    Calls Tryd.prog 88 #[.slice (some ⟨L.g, 0, none⟩) s.ws.length L.cp] w fun e w' => ∃ g cp, e = .returned (.slice (some ⟨g, 0, none⟩) s.ws.length cp) ∧
      w'.ownsRow 0 76 1 (.slice (some ⟨g, 0, none⟩) s.ws.length cp) s.ws.length (wds s.ws) ∧ w.heap.size ≤ g ∧ Below w.heap.size w w' := by
  obtain ⟨i0, hi, hz0, hz1, hz2⟩ := info_parts info31
  have n1 := f.n1
  have n4 := f.n4
  have hm0 := hm.alloc (.cells #[] 76)
  have hl : (w.alloc (.cells #[] 76)).ownsRow 0 76 1 (.slice (some ⟨w.heap.size, 0, none⟩) 0 0) 0 [] := World.ownsRow_lit w #[] 0 (Nat.zero_le _) (by decide) rfl
  have hnil := fun a n c => Lib.run_eql_slice_nil (P := Tryd.prog) w 77 76 a n c 0 0 Tryd.underlying77
  go_enter Tryd.func88, Tryd.ntmps88
  go_wp2_with (at_builtin; refine wpList_append_mine _ rfl _ _ 77 rfl 76 i0 _ 1 8 Tryd.underlying77 hi hz0 hz1 hz2 rfl (by decide) _ _ _ rfl hl ⟨L.g, 0, none⟩ s.ws.length L.cp (wds s.ws) rfl ?c0 ?c1 ?c2 ?c3 ?c4 ?c5 ?_)
  case c0 => rw [wds_length]; omega
  case c1 => exact hm0.row.cells rfl
  case c2 => intro u hu; simp [wds] at hu; obtain ⟨_, _, rfl⟩ := hu; rfl
  case c3 => unfold maxLen; omega
  case c4 => omega
  case c5 => omega
  intro g cp w2 hown hgr hnew
  have R1 : w2.ownsRow 0 76 1 (.slice (some ⟨g, 0, none⟩) s.ws.length cp) s.ws.length (wds s.ws) := by simpa using hown
  have R2 : w.heap.size ≤ g := by
    rcases hnew with h | h
    · simp [Value.ownBlock] at h; omega
    · omega
  have R3 : Below w.heap.size w w2 := ((Below.refl _ _).alloc (Nat.le_refl _) _).grown hgr (by simp) fun k hk => by simp [Value.ownBlock] at hk; omega
  clear hown hgr hnew hl
  go_wp2
  go_ret
  exact ⟨g, cp, by simp, R1, R2, R3⟩

/-- slices.Clone of the accesses -/
theorem cCloneU {w : World} {L : Loc} {s : St} (hm : Mm w L s) (f : s.Fit) :
    Calls Tryd.prog 89 #[L.vu] w fun e w' => ∃ ao n cp, e = .returned (.slice ao n cp) ∧
      w'.ownsRow 0 154 3 (.slice ao n cp) s.l.length (accs s.l) ∧ (∀ k, Value.ownBlock (.slice ao n cp) = some k → w.heap.size ≤ k) ∧ (s.l = [] → Value.slice ao n cp = .slice none 0 0) ∧ Below w.heap.size w w' := by
  obtain ⟨i0, hi, hz0, hz1, hz2⟩ := info_parts info44
  have lc := f.lc
  have c1 := f.c1
  have hm0 := hm.alloc (.cells #[] 154)
  have hl : (w.alloc (.cells #[] 154)).ownsRow 0 154 3 (.slice (some ⟨w.heap.size, 0, none⟩) 0 0) 0 [] := World.ownsRow_lit w #[] 0 (Nat.zero_le _) (by decide) rfl
  by_cases h0 : s.l = []
  · have hv := hm.non h0
    rw [hv]
    have hnil := fun a n c => Lib.run_eql_slice_nil (P := Tryd.prog) w 78 154 a n c 0 0 Tryd.underlying78
    go_enter Tryd.func89, Tryd.ntmps89
    go_wp2
    go_ret
    exact ⟨none, 0, 0, rfl, by rw [h0]; exact World.ownsRow_nil _ _ _ _, fun k hk => by simp [Value.ownBlock] at hk, fun _ => rfl, Below.refl _ _⟩
  · have hpos : 0 < s.l.length := List.length_pos_iff.2 h0
    obtain ⟨g0, cp0, hv⟩ : ∃ g cp, L.vu = .slice (some ⟨g, 0, none⟩) s.l.length cp := by
      rcases hm.unt.2 with ⟨_, h⟩ | ⟨g, cp, _, h, _⟩
      · omega
      · exact ⟨g, cp, h⟩
    have hsrc := hm0.unt.cells (g := g0) (by rw [hv]; rfl)
    rw [hv]
    have hnil := fun a n c => Lib.run_eql_slice_nil (P := Tryd.prog) w 78 154 a n c 0 0 Tryd.underlying78
    go_enter Tryd.func89, Tryd.ntmps89
    go_wp2_with (at_builtin; refine wpList_append_mine _ rfl _ _ 78 rfl 154 i0 _ 3 24 Tryd.underlying78 hi hz0 hz1 hz2 rfl (by decide) _ _ _ rfl hl ⟨g0, 0, none⟩ s.l.length cp0 (accs s.l) rfl ?c0 ?c1 ?c2 ?c3 ?c4 ?c5 ?_)
    case c0 => exact accs_length _
    case c1 => exact hsrc
    case c2 => exact accs_one _
    case c3 => unfold maxLen; omega
    case c4 => omega
    case c5 => exact hpos
    intro g cp w2 hown hgr hnew
    have R1 : w2.ownsRow 0 154 3 (.slice (some ⟨g, 0, none⟩) s.l.length cp) s.l.length (accs s.l) := by simpa using hown
    have R2 : w.heap.size ≤ g := by
      rcases hnew with h | h
      · simp [Value.ownBlock] at h; omega
      · omega
    have R3 : Below w.heap.size w w2 := ((Below.refl _ _).alloc (Nat.le_refl _) _).grown hgr (by simp) fun k hk => by simp [Value.ownBlock] at hk; omega
    clear hown hgr hnew hl
    go_wp2
    go_ret
    exact ⟨some ⟨g, 0, none⟩, s.l.length, cp, by simp, R1, fun k hk => by simp [Value.ownBlock] at hk; omega, fun h => absurd h h0, R3⟩
end Go.Proofs.YtoablodmodnamaaDoor

namespace Go.Proofs.YtoablodmodnamaaDoor
set_option linter.unusedVariables false
set_option maxRecDepth 100000
open Go.ChangeShapes Go.WideShapes Go.RowKit

/-- what Clone reads, while blocks come -/
def Reads (w : World) (L : Loc) (s : St) (w' : World) : Prop := Below w.heap.size w w' ∧ w'.cell? ⟨L.b, 0, none⟩ = some (.slice (some ⟨L.g, 0, none⟩) s.ws.length L.cp) ∧ w'.cell? ⟨L.b, 1, none⟩ = some (.int .i64 s.c) ∧ w'.cell? ⟨L.b, 2, none⟩ = some (.int .i64 s.t) ∧ w'.cell? ⟨L.b, 3, none⟩ = some L.vu
theorem Reads.of {w w' : World} {L : Loc} {s : St} (hm : Mm w L s) (h : Below w.heap.size w w') : Reads w L s w' :=
  ⟨h, (hm.below h).cell0, (hm.below h).cell1, (hm.below h).cell2, (hm.below h).cell3⟩

/-- which of n kinds -/
def kd (c n : Int) : Int := (if c < 0 then -(c + 1) else c) % n
theorem kd_bounds (c n : Int) (h : 0 < n) : 0 ≤ kd c n ∧ kd c n < n := ⟨Int.emod_nonneg _ (by omega), Int.emod_lt_of_pos _ h⟩
theorem cKind (w : World) (c n : Int) (hc : -9223372036854775808 ≤ c) (hc' : c ≤ 9223372036854775807) (hn : 0 < n) :
    Calls Tryd.prog 12 #[.int .i64 c, .int .i64 n] w fun e w' => e = .returned (.int .i64 (kd c n)) ∧ w' = w := by
  unfold kd
  by_cases h : c < 0
  · rw [if_pos h, ← Int.tmod_eq_emod_of_nonneg (by omega), Int.neg_tmod]
    go_enter Tryd.func12, Tryd.ntmps12
    go_wp2
    go_ret
    exact ⟨rfl, rfl⟩
  · rw [if_neg h]
    go_enter Tryd.func12, Tryd.ntmps12
    go_wp2
    go_ret
    exact ⟨rfl, rfl⟩

/-- a clone that has just been made -/
theorem clone_at {w2 : World} {s : St} {g cp n' cp' : Nat} {ao : Option Addr} (h1 : w2.ownsRow 0 76 1 (.slice (some ⟨g, 0, none⟩) s.ws.length cp) s.ws.length (wds s.ws))
    (h2 : w2.ownsRow 0 154 3 (.slice ao n' cp') s.l.length (accs s.l)) (h3 : s.l = [] → Value.slice ao n' cp' = .slice none 0 0) :
    Mm (w2.alloc (.cells #[.slice (some ⟨g, 0, none⟩) s.ws.length cp, .int .i64 s.c, .int .i64 s.t, .slice ao n' cp'] 142)) ⟨w2.heap.size, g, cp, .slice ao n' cp'⟩ s :=
  ⟨heap_alloc_new _ _, h1.alloc _, h2.alloc _, h3, by decide⟩

set_option maxHeartbeats 800000 in
set_option maxRecDepth 100000 in
theorem cClone {w : World} {L : Loc} {s : St} (hm : Mm w L s) (f : s.Fit) :
    Calls Tryd.prog 55 #[.pointer (some ⟨L.b, 0, none⟩)] w fun e w' => ∃ L' : Loc, e = .returned (.pointer (some ⟨L'.b, 0, none⟩)) ∧ Mm w' L' s ∧ Below w.heap.size w w' ∧ ∀ k ∈ L'.fp, w.heap.size ≤ k := by
  have R0 : Reads w L s w := Reads.of hm (Below.refl _ _)
  go_enter Tryd.func55, Tryd.ntmps55
  go_wp2
  have RD : Reads w L s w.drew := Reads.of hm (Below.refl _ _).drew
  go_region_held3 (fun w' => Below w.heap.size w w' ∧ w'.cell? ⟨L.b, 0, none⟩ = some (.slice (some ⟨L.g, 0, none⟩) s.ws.length L.cp) ∧ w'.cell? ⟨L.b, 1, none⟩ = some (.int .i64 s.c) ∧ w'.cell? ⟨L.b, 2, none⟩ = some (.int .i64 s.t) ∧ w'.cell? ⟨L.b, 3, none⟩ = some L.vu) (first | assumption | exact RD | exact Reads.of hm (by assumption) | exact Reads.of hm (Below.alloc (by assumption) (Below.size (by assumption)) _))
    (first
      | (go_at_call 88; refine (cCloneW (hm.below (show Below w.heap.size w _ from RD.1)) f).mono ?_; rintro e w1 ⟨g, cp, rfl, hw1, hg1, hb1⟩; have hb1' := RD.1.trans hb1)
      | (go_at_call 89; refine (cCloneU (hm.below hb1') f).mono ?_; rintro e w2 ⟨ao, n', cp', rfl, hu2, hk2, hn2, hb2⟩; have hb2' := hb1'.trans (hb2.mono hb1'.size)))
  have R1 := clone_at (own_kept hw1 (Kept.of_below (F := []) hb2) fun _ _ => by simp) hu2 hn2
  have R2 := hb2'.alloc hb2'.size (.cells #[.slice (some ⟨g, 0, none⟩) s.ws.length cp, .int .i64 s.c, .int .i64 s.t, .slice ao n' cp'] 142)
  have R3 : ∀ k ∈ (⟨w2.heap.size, g, cp, .slice ao n' cp'⟩ : Loc).fp, w.heap.size ≤ k := by
    intro k hk
    simp only [Loc.fp, List.mem_cons, Option.mem_toList] at hk
    rcases hk with rfl | rfl | hk
    · exact hb2'.size
    · exact hg1
    · exact Nat.le_trans hb1'.size (hk2 k hk)
  clear hw1 hu2 hk2 hn2
  go_wp2
  go_ret
  exact ⟨⟨w2.heap.size, g, cp, .slice ao n' cp'⟩, rfl, R1, R2, R3⟩
end Go.Proofs.YtoablodmodnamaaDoor

namespace Go.Proofs.YtoablodmodnamaaDoor
set_option linter.unusedVariables false
set_option maxRecDepth 100000
open Go.ChangeShapes Go.WideShapes Go.RowKit

/-- blocks of other kinds are as they were -/
def Others (w w' : World) : Prop := ∀ (k : Nat) (cs : Array Value) (T : TypeId) (fz : Nat × Nat), T ∉ [142, 80, 76, 154] → w.heap[k]? = some (.cells cs T fz) → w'.heap[k]? = some (.cells cs T fz)
theorem Others.trans {w w1 w2 : World} (h : Others w w1) (h1 : Others w1 w2) : Others w w2 := fun k cs T fz hT hk => h1 k cs T fz hT (h k cs T fz hT hk)
theorem Others.refl (w : World) : Others w w := fun _ _ _ _ _ h => h
theorem others_of {T : TypeId} {w w' : World} {L : Loc} {s : St} (h : MemAt T w L s) (hT : T ∈ [142, 80]) (k : Kept L.fp w w') : Others w w' := fun b cs T' fz hT' hb => by
  refine h.other k hb ⟨?_, ?_, ?_⟩
  · rintro rfl
    simp at hT hT'
    rcases hT with h | h <;> simp [h] at hT'
  · rintro rfl; simp at hT'
  · rintro rfl; simp at hT'
theorem others_below {w w' : World} (h : Below w.heap.size w w') : Others w w' := fun k _ _ _ _ hk => (h.block k (lt_of_block hk)).trans hk

/-- one memory of the call's own -/
structure Own (w0 w : World) (b : Nat) (s : St) (N : Nat) : Prop where
  at_ : ∃ L : Loc, L.b = b ∧ Mm w L s ∧ ∀ k ∈ L.fp, w0.heap.size ≤ k
  bel : Below w0.heap.size w0 w
  fit : s.Fit
  top : s.c ≤ N

theorem Own.call {P : Program} {f : Nat} {args : Array Value} {r : Value} {w0 w : World} {b : Nat} {s s' : St} {N N' : Nat} (h : Own w0 w b s N) (hf : s'.Fit) (hN : s'.c ≤ N')
    (hc : ∀ L : Loc, L.b = b → Mm w L s → Calls P f args w fun e w' => e = .returned r ∧ ∃ L', Mm w' L' s' ∧ Step w L w' L') :
    Calls P f args w fun e w' => e = .returned r ∧ Own w0 w' b s' N' ∧ Others w w' := by
  obtain ⟨⟨L, hb, hm, hl⟩, hbel, _, _⟩ := h
  refine (hc L hb hm).mono ?_
  rintro e w' ⟨rfl, L', hm', st⟩
  have R := st.from hl hbel.size
  exact ⟨rfl, ⟨⟨L', st.b.trans hb, hm', R.2⟩, hbel.trans R.1, hf, hN⟩, others_of hm (by simp) st.kept⟩

section
variable {w0 w : World} {b : Nat} {s : St} {N : Nat}
theorem oLoad (h : Own w0 w b s N) (hN : N < 1000000) (a : Int) :
    Calls Tryd.prog 31 #[.pointer (some ⟨b, 0, none⟩), .int .i64 a] w fun e w' => e = .returned (.int .u64 (s.got a)) ∧ Own w0 w' b (s.load a) (N + 1) ∧ Others w w' :=
  have hc : s.c < 1000000 := by have := h.top; omega
  h.call (h.fit.load hc a) (by rw [St.c_load]; have := h.top; omega) fun L hb hm => hb ▸ cLoad hm h.fit hc a
theorem oStore (h : Own w0 w b s N) (hN : N < 1000000) (a x : Int) :
    Calls Tryd.prog 37 #[.pointer (some ⟨b, 0, none⟩), .int .i64 a, .int .u64 x] w fun e w' => e = .returned (.tuple #[]) ∧ Own w0 w' b (s.store a x) (N + 1) ∧ Others w w' :=
  have hc : s.c < 1000000 := by have := h.top; omega
  h.call (h.fit.store hc a x) (by rw [St.c_store]; have := h.top; omega) fun L hb hm => hb ▸ cStore hm h.fit hc a x
theorem oCAS (h : Own w0 w b s N) (hN : N < 1000000) (a o x : Int) :
    Calls Tryd.prog 62 #[.pointer (some ⟨b, 0, none⟩), .int .i64 a, .int .u64 o, .int .u64 x] w fun e w' => e = .returned (.bool (s.ok1 a o)) ∧ Own w0 w' b (s.cas a o x) (N + 1) ∧ Others w w' :=
  have hc : s.c < 1000000 := by have := h.top; omega
  h.call (h.fit.cas hc a o x) (by rw [St.c_cas]; have := h.top; omega) fun L hb hm => hb ▸ cCAS hm h.fit hc a o x
theorem oTraps (h : Own w0 w b s N) : Calls Tryd.prog 32 #[.pointer (some ⟨b, 0, none⟩)] w fun e w' => e = .returned (.int .i64 s.t) ∧ w' = w := by
  obtain ⟨⟨L, rfl, hm, _⟩, _⟩ := h
  exact cTraps hm
theorem oLen (h : Own w0 w b s N) : Calls Tryd.prog 56 #[.pointer (some ⟨b, 0, none⟩)] w fun e w' => e = .returned (.int .i64 s.ws.length) ∧ w' = w := by
  obtain ⟨⟨L, rfl, hm, _⟩, _⟩ := h
  exact cLen hm
theorem Own.alloc (h : Own w0 w b s N) (o : Obj) : Own w0 (w.alloc o) b s N := by
  obtain ⟨⟨L, rfl, hm, hl⟩, hb, f, t⟩ := h
  exact ⟨⟨L, rfl, hm.alloc o, hl⟩, hb.alloc hb.size o, f, t⟩
theorem Own.drew (h : Own w0 w b s N) : Own w0 w.drew b s N := by
  obtain ⟨⟨L, rfl, hm, hl⟩, hb, f, t⟩ := h
  exact ⟨⟨L, rfl, hm.drew, hl⟩, hb.drew, f, t⟩
/-- a store into a block of another kind -/
theorem Own.setCell (h : Own w0 w b s N) {k j : Nat} {cs : Array Value} {T : TypeId} {fz : Nat × Nat} (hk : w.heap[k]? = some (.cells cs T fz)) (hT : T ∉ [142, 76, 154]) (h0 : w0.heap.size ≤ k) (u : Value) : Own w0 (w.setCell ⟨k, j, none⟩ u) b s N := by
  obtain ⟨⟨L, rfl, hm, hl⟩, hb, f, t⟩ := h
  refine ⟨⟨L, rfl, hm.on (Kept.setCell [k] w _ u (by simp)) (fun i hi e => ?_), hl⟩, hb.setCell h0 u, f, t⟩
  simp at e
  subst e
  obtain ⟨cur, T1, e, h1⟩ := hm.kind i hi
  rw [hk] at e
  simp at e
  obtain ⟨_, rfl, _⟩ := e
  rcases h1 with rfl | rfl | rfl <;> simp at hT
end
theorem oNew (w : World) (n : Nat) (h1 : 2 ≤ n) (h4 : n ≤ 4096) {w0 : World} (hb : Below w0.heap.size w0 w) :
    Calls Tryd.prog 35 #[.int .i64 n] w fun e w' => ∃ b, e = .returned (.tuple #[.pointer (some ⟨b, 0, none⟩), .int .i64 0]) ∧ Own w0 w' b (St.new n) 0 := by
  refine (cNew w n (by omega) h4).mono ?_
  rintro e w' ⟨b, g, cp, rfl, hm, hb', hl⟩
  exact ⟨b, rfl, ⟨⟨_, rfl, hm, fun k hk => Nat.le_trans hb.size (hl k hk)⟩, hb.trans (hb'.mono hb.size), St.Fit.new h1 h4, by simp [St.new]⟩⟩
end Go.Proofs.YtoablodmodnamaaDoor
