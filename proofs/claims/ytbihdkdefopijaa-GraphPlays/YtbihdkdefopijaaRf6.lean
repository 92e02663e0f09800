/-
  Contracts: Move; the document's own answers.
-/
import Derived.Test.YtbihdkdefopijaaCalls1
namespace Go.Proofs.Ytbihdkdefopijaa
set_option linter.unusedVariables false
open Go.ChangeShapes Go.WideShapes Go.ChangeAt Go.RowKit
open Plain

theorem mv_at (l : Nat → Int) (k : Nat) (a b : Int) : mv l k a b k = l k := by simp [mv]
theorem mv_yes (l : Nat → Int) (k : Nat) (a b : Int) (h : l k = a) : put (mv l k a b) k b = mv l ((k + 1 : Nat) : Int) a b := by
  funext i
  unfold put mv
  by_cases e : i = k
  · subst e
    simp [h]
    omega
  · have : ((i : Int) < ((k + 1 : Nat) : Int)) ↔ (i : Int) < (k : Int) := by omega
    simp only [e, if_false, this]
theorem mv_no (l : Nat → Int) (k : Nat) (a b : Int) (h : ¬ l k = a) : mv l k a b = mv l ((k + 1 : Nat) : Int) a b := by
  funext i
  unfold mv
  by_cases e : i = k
  · subst e
    simp [h]
  · have : ((i : Int) < ((k + 1 : Nat) : Int)) ↔ (i : Int) < (k : Int) := by omega
    simp only [this]
theorem mv_none (l : Nat → Int) (a b : Int) : mv l ((0 : Nat) : Int) a b = l := by
  funext i
  unfold mv
  rw [if_neg (by omega)]
theorem RAt.same {w : World} {b : Nat} {n : Int} {l m : Nat → Int} (h : RAt w b n l) (e : ∀ j, j < 8 → l j = m j) : RAt w b n m := by
  unfold RAt at h ⊢
  rw [h]
  have := rv_same n e
  unfold rv at this
  rw [Value.agg.injEq] at this
  rw [this]
/-- behind the last round: the first n of eight are moved -/
theorem mv_end {w : World} {q : Nat} {n : Int} {l : Nat → Int} {k : Nat} {a b : Int} (h : RAt w q n (mv l k a b)) (h1 : (k : Int) ≤ n ∨ k = 0) (h2 : k ≤ 8) (h3 : ¬ ((k : Int) < n ∧ k < 8)) : RAt w q n (mv l n a b) := by
  refine h.same fun j hj => ?_
  unfold mv
  have : ((j : Int) < (k : Int)) ↔ (j : Int) < n := by omega
  simp only [this]


theorem clr_next (l : Nat → Int) (n : Int) (k : Nat) (h : l k = 0) (hb : ∀ j : Nat, n ≤ j → j < k → l j = 0) : ∀ j : Nat, n ≤ j → j < k + 1 → l j = 0 := fun j h1 h2 => by
  by_cases e : j = k
  · rw [e]; exact h
  · exact hb j h1 (by omega)
set_option maxHeartbeats 400000 in
theorem rMay (n : Int) (l : Nat → Int) (w : World) :
    Calls Try.prog 57 #[rv n l] w fun e w' => e = .returned (.bool (may n l)) ∧ Below w.heap.size w w' := by
  by_cases h0 : n < 0
  case pos =>
    have r : may n l = false := by simp [may]; omega
    rw [r]
    go_enter Try.func57, Try.ntmps57
    go_wp2
    go_ret
    exact ⟨rfl, bal (Below.refl _ _) _⟩
  by_cases h8 : 8 < n
  case pos =>
    have r : may n l = false := by simp [may]; omega
    rw [r]
    go_enter Try.func57, Try.ntmps57
    go_wp2
    go_ret
    exact ⟨rfl, bal (Below.refl _ _) _⟩
  obtain ⟨m, rfl⟩ : ∃ m : Nat, n = m := ⟨n.toNat, by omega⟩
  have hA := RAt.new w m l
  have hB := bal (Below.refl w.heap.size w) (.cells #[.int .i64 m, .int .i64 (l 0), .int .i64 (l 1), .int .i64 (l 2), .int .i64 (l 3), .int .i64 (l 4), .int .i64 (l 5), .int .i64 (l 6), .int .i64 (l 7)] 72)
  go_enter Try.func57, Try.ntmps57
  go_wp2
  go_loop [3] (fun i => ∃ k : Nat, m ≤ k ∧ k ≤ 8 ∧ i = .int .i64 k ∧ ∀ j : Nat, (m : Int) ≤ j → j < k → l j = 0) (fun i => 8 - (intOf i).toNat)
  case atStart => exact ⟨m, by omega, by omega, rfl, fun j h1 h2 => by omega⟩
  case round =>
    obtain ⟨k, hk, hk8, rfl, hz⟩ := hrel
    have k0 : (0 : Int) ≤ (k : Int) := by omega
    by_cases hlt : k < 8
    case pos =>
      have k8 : (k : Int) < 8 := by omega
      have hc := hA.cell k hlt
      by_cases hy : l k = 0
      · have hz' := clr_next l m k hy hz
        have hy' : (l k != 0) = false := by simpa using hy
        clear hy hz
        have HZ : Hid (∀ j : Nat, (m : Int) ≤ j → j < k + 1 → l j = 0) := hz'
        clear hz'
        go_wp2
        go_round
        case rel => exact ⟨k + 1, by omega, by omega, by go_num, HZ.out⟩
        case measure => simp [intOf]; omega
      · have r : may m l = false := by
          rcases h : may m l with _ | _
          · rfl
          · exact absurd (((may_iff _ _).1 h).2.2 k hlt (by omega)) hy
        have hy' : (l k != 0) = true := by simpa using hy
        clear hz hy
        go_wp2
        go_ret
        exact ⟨rfl, hB⟩
    case neg =>
      have r : may m l = true := (may_iff _ _).2 ⟨by omega, by omega, fun j h1 h2 => hz j h2 (by omega)⟩
      clear hz
      go_wp2
      go_ret
      exact ⟨rfl, hB⟩


set_option maxHeartbeats 400000 in
theorem rPushBad (n : Int) (l : Nat → Int) (a : Int) (h : may n l = false) (w : World) :
    Calls Try.prog 39 #[rv n l, .int .i64 a] w fun e w' => e = .returned (.tuple #[rv 0 nil, .int .i64 1]) ∧ Below w.heap.size w w' := by
  go_enter Try.func39, Try.ntmps39
  go_wp2_with (go_at_call 57; refine (rMay n l _).mono ?_; rintro e w1 ⟨rfl, hb⟩; rw [h]; have hB := bt (bal (bal (Below.refl w.heap.size w) _) _) hb; have hR := RAt.on (RAt.new (w.alloc (.cells #[.int .i64 n, .int .i64 (l 0), .int .i64 (l 1), .int .i64 (l 2), .int .i64 (l 3), .int .i64 (l 4), .int .i64 (l 5), .int .i64 (l 6), .int .i64 (l 7)] 72)) 0 nil) hb; simp only [World.size_alloc] at hR; have hA := RAt.on (RAt.alloc (RAt.new w n l) (.cells #[.int .i64 0, .int .i64 0, .int .i64 0, .int .i64 0, .int .i64 0, .int .i64 0, .int .i64 0, .int .i64 0, .int .i64 0] 72)) hb; obtain ⟨d0, d1, d2, d3, d4, d5, d6, d7, d8⟩ := hR.cells; obtain ⟨c0, c1, c2, c3, c4, c5, c6, c7, c8⟩ := hA.cells; have hf := hR.free; have hg := hA.free; clear hb)
  exact bodyPost_ret (v := .tuple #[rv 0 nil, .int .i64 1]) (by simp [results, Try.results39, go_sem, d0, d1, d2, d3, d4, d5, d6, d7, d8, Plain.nil]) rfl ⟨rfl, b9 (by omega) hB⟩
set_option maxHeartbeats 400000 in
theorem rPushFull (n : Int) (l : Nat → Int) (a : Int) (h : may n l = true) (hn : n = 8) (w : World) :
    Calls Try.prog 39 #[rv n l, .int .i64 a] w fun e w' => e = .returned (.tuple #[rv 0 nil, .int .i64 13]) ∧ Below w.heap.size w w' := by
  have hn' : (n == 8) = true := by simpa using hn
  clear hn
  go_enter Try.func39, Try.ntmps39
  go_wp2_with (go_at_call 57; refine (rMay n l _).mono ?_; rintro e w1 ⟨rfl, hb⟩; rw [h]; have hB := bt (bal (bal (Below.refl w.heap.size w) _) _) hb; have hR := RAt.on (RAt.new (w.alloc (.cells #[.int .i64 n, .int .i64 (l 0), .int .i64 (l 1), .int .i64 (l 2), .int .i64 (l 3), .int .i64 (l 4), .int .i64 (l 5), .int .i64 (l 6), .int .i64 (l 7)] 72)) 0 nil) hb; simp only [World.size_alloc] at hR; have hA := RAt.on (RAt.alloc (RAt.new w n l) (.cells #[.int .i64 0, .int .i64 0, .int .i64 0, .int .i64 0, .int .i64 0, .int .i64 0, .int .i64 0, .int .i64 0, .int .i64 0] 72)) hb; obtain ⟨d0, d1, d2, d3, d4, d5, d6, d7, d8⟩ := hR.cells; obtain ⟨c0, c1, c2, c3, c4, c5, c6, c7, c8⟩ := hA.cells; have hf := hR.free; have hg := hA.free; clear hb)
  exact bodyPost_ret (v := .tuple #[rv 0 nil, .int .i64 13]) (by simp [results, Try.results39, go_sem, d0, d1, d2, d3, d4, d5, d6, d7, d8, Plain.nil]) rfl ⟨rfl, b9 (by omega) hB⟩
set_option maxHeartbeats 400000 in
theorem rPushGood (n : Int) (k : Nat) (l : Nat → Int) (a : Int) (hk : k < 8) (e1 : n = k) (h : may n l = true) (w : World) :
    Calls Try.prog 39 #[rv n l, .int .i64 a] w fun e w' => e = .returned (.tuple #[rv (n + 1) (put l k a), .int .i64 0]) ∧ Below w.heap.size w w' := by
  subst e1
  have k0 : (0 : Int) ≤ (k : Int) := by omega
  have k8 : (k : Int) < 8 := by omega
  have hn : ((k : Int) == 8) = false := by simp; omega
  go_enter Try.func39, Try.ntmps39
  go_wp2_with (go_at_call 57; refine (rMay k l _).mono ?_; rintro e w1 ⟨rfl, hb⟩; rw [h]; have hB := bt (bal (bal (Below.refl w.heap.size w) _) _) hb; have hR := RAt.on (RAt.new (w.alloc (.cells #[.int .i64 k, .int .i64 (l 0), .int .i64 (l 1), .int .i64 (l 2), .int .i64 (l 3), .int .i64 (l 4), .int .i64 (l 5), .int .i64 (l 6), .int .i64 (l 7)] 72)) 0 nil) hb; simp only [World.size_alloc] at hR; have hA := RAt.on (RAt.alloc (RAt.new w k l) (.cells #[.int .i64 0, .int .i64 0, .int .i64 0, .int .i64 0, .int .i64 0, .int .i64 0, .int .i64 0, .int .i64 0, .int .i64 0] 72)) hb; obtain ⟨d0, d1, d2, d3, d4, d5, d6, d7, d8⟩ := hR.cells; obtain ⟨c0, c1, c2, c3, c4, c5, c6, c7, c8⟩ := hA.cells; have hf := hR.free; have hg := hA.free; clear hb; have hc := hA.cell k hk; obtain ⟨e0, e1, e2, e3, e4, e5, e6, e7, e8⟩ := ((hA.set k hk a).setN (k + 1)).cells)
  exact bodyPost_ret (v := .tuple #[rv (k + 1) (put l k a), .int .i64 0]) (by simp [results, Try.results39, go_sem, d0, d1, d2, d3, d4, d5, d6, d7, d8]) rfl ⟨rfl, b9 (by omega) (b1 (Nat.le_refl _) (b1 (Nat.le_refl _) hB))⟩
theorem rPush (n : Int) (l : Nat → Int) (a : Int) (w : World) :
    Calls Try.prog 39 #[rv n l, .int .i64 a] w fun e w' => e = .returned (.tuple #[rv (pushN n l) (pushL n l a), .int .i64 (pushE n l)]) ∧ Below w.heap.size w w' := by
  rcases h : may n l with _ | _
  · have := rPushBad n l a h w
    simpa [pushN, pushL, pushE, h] using this
  · by_cases h8 : n = 8
    · have := rPushFull n l a h h8 w
      subst h8
      simpa [pushN, pushL, pushE, h] using this
    · obtain ⟨m0, m8, _⟩ := (may_iff n l).1 h
      have := rPushGood n n.toNat l a (by omega) (by omega) h w
      simpa [pushN, pushL, pushE, h, h8] using this

set_option maxHeartbeats 400000 in
theorem rDropBad (n : Int) (l : Nat → Int) (h : may n l = false) (w : World) :
    Calls Try.prog 49 #[rv n l] w fun e w' => e = .returned (.tuple #[rv 0 nil, .int .i64 1]) ∧ Below w.heap.size w w' := by
  go_enter Try.func49, Try.ntmps49
  go_wp2_with (go_at_call 57; refine (rMay n l _).mono ?_; rintro e w1 ⟨rfl, hb⟩; rw [h]; have hB := bt (bal (bal (Below.refl w.heap.size w) _) _) hb; have hR := RAt.on (RAt.new (w.alloc (.cells #[.int .i64 n, .int .i64 (l 0), .int .i64 (l 1), .int .i64 (l 2), .int .i64 (l 3), .int .i64 (l 4), .int .i64 (l 5), .int .i64 (l 6), .int .i64 (l 7)] 72)) 0 nil) hb; simp only [World.size_alloc] at hR; have hA := RAt.on (RAt.alloc (RAt.new w n l) (.cells #[.int .i64 0, .int .i64 0, .int .i64 0, .int .i64 0, .int .i64 0, .int .i64 0, .int .i64 0, .int .i64 0, .int .i64 0] 72)) hb; obtain ⟨d0, d1, d2, d3, d4, d5, d6, d7, d8⟩ := hR.cells; obtain ⟨c0, c1, c2, c3, c4, c5, c6, c7, c8⟩ := hA.cells; have hf := hR.free; have hg := hA.free; clear hb)
  exact bodyPost_ret (v := .tuple #[rv 0 nil, .int .i64 1]) (by simp [results, Try.results49, go_sem, d0, d1, d2, d3, d4, d5, d6, d7, d8, Plain.nil]) rfl ⟨rfl, b9 (by omega) hB⟩
set_option maxHeartbeats 400000 in
theorem rDropNone (n : Int) (l : Nat → Int) (h : may n l = true) (hn : n = 0) (w : World) :
    Calls Try.prog 49 #[rv n l] w fun e w' => e = .returned (.tuple #[rv 0 nil, .int .i64 12]) ∧ Below w.heap.size w w' := by
  have hn' : (n == 0) = true := by simpa using hn
  clear hn
  go_enter Try.func49, Try.ntmps49
  go_wp2_with (go_at_call 57; refine (rMay n l _).mono ?_; rintro e w1 ⟨rfl, hb⟩; rw [h]; have hB := bt (bal (bal (Below.refl w.heap.size w) _) _) hb; have hR := RAt.on (RAt.new (w.alloc (.cells #[.int .i64 n, .int .i64 (l 0), .int .i64 (l 1), .int .i64 (l 2), .int .i64 (l 3), .int .i64 (l 4), .int .i64 (l 5), .int .i64 (l 6), .int .i64 (l 7)] 72)) 0 nil) hb; simp only [World.size_alloc] at hR; have hA := RAt.on (RAt.alloc (RAt.new w n l) (.cells #[.int .i64 0, .int .i64 0, .int .i64 0, .int .i64 0, .int .i64 0, .int .i64 0, .int .i64 0, .int .i64 0, .int .i64 0] 72)) hb; obtain ⟨d0, d1, d2, d3, d4, d5, d6, d7, d8⟩ := hR.cells; obtain ⟨c0, c1, c2, c3, c4, c5, c6, c7, c8⟩ := hA.cells; have hf := hR.free; have hg := hA.free; clear hb)
  exact bodyPost_ret (v := .tuple #[rv 0 nil, .int .i64 12]) (by simp [results, Try.results49, go_sem, d0, d1, d2, d3, d4, d5, d6, d7, d8, Plain.nil]) rfl ⟨rfl, b9 (by omega) hB⟩
set_option maxHeartbeats 400000 in
theorem rDropGood (n : Int) (l : Nat → Int) (h : may n l = true) (h1 : 1 ≤ n) (h8 : n ≤ 8) (w : World) :
    Calls Try.prog 49 #[rv n l] w fun e w' => e = .returned (.tuple #[rv (n - 1) (cut l (n - 1)), .int .i64 0]) ∧ Below w.heap.size w w' := by
  obtain ⟨k, ek⟩ : ∃ k : Nat, n - 1 = k := ⟨(n - 1).toNat, by omega⟩
  have hk : k < 8 := by omega
  have k0 : (0 : Int) ≤ (k : Int) := by omega
  have k8 : (k : Int) < 8 := by omega
  have hm := (may_iff n l).1 h
  have R : rv (n - 1) (cut l (n - 1)) = rv k (put l k 0) := by
    rw [ek]
    refine rv_same _ fun j hj => ?_
    unfold cut put
    by_cases e1 : j = k
    · simp [e1]
    · by_cases e2 : j < k
      · simp [e1, e2]
      · have := hm.2.2 j hj (by omega)
        simp [e1, e2, this]
  rw [R]
  have hn' : (n == 0) = false := by simp; omega
  clear R hm
  go_enter Try.func49, Try.ntmps49
  go_wp2_with (go_at_call 57; refine (rMay n l _).mono ?_; rintro e w1 ⟨rfl, hb⟩; rw [h]; have hB := bt (bal (bal (Below.refl w.heap.size w) _) _) hb; have hR := RAt.on (RAt.new (w.alloc (.cells #[.int .i64 n, .int .i64 (l 0), .int .i64 (l 1), .int .i64 (l 2), .int .i64 (l 3), .int .i64 (l 4), .int .i64 (l 5), .int .i64 (l 6), .int .i64 (l 7)] 72)) 0 nil) hb; simp only [World.size_alloc] at hR; have hA := RAt.on (RAt.alloc (RAt.new w n l) (.cells #[.int .i64 0, .int .i64 0, .int .i64 0, .int .i64 0, .int .i64 0, .int .i64 0, .int .i64 0, .int .i64 0, .int .i64 0] 72)) hb; obtain ⟨d0, d1, d2, d3, d4, d5, d6, d7, d8⟩ := hR.cells; obtain ⟨c0, c1, c2, c3, c4, c5, c6, c7, c8⟩ := hA.cells; have hf := hR.free; have hg := hA.free; clear hb; have hc := (hA.setN k).cell k hk; obtain ⟨e0, e1, e2, e3, e4, e5, e6, e7, e8⟩ := ((hA.setN k).set k hk 0).cells)
  exact bodyPost_ret (v := .tuple #[rv k (put l k 0), .int .i64 0]) (by simp [results, Try.results49, go_sem, d0, d1, d2, d3, d4, d5, d6, d7, d8]) rfl ⟨rfl, b9 (by omega) (b1 (Nat.le_refl _) (b1 (Nat.le_refl _) hB))⟩
theorem rDrop (n : Int) (l : Nat → Int) (w : World) :
    Calls Try.prog 49 #[rv n l] w fun e w' => e = .returned (.tuple #[rv (dropN n l) (dropL n l), .int .i64 (dropE n l)]) ∧ Below w.heap.size w w' := by
  rcases h : may n l with _ | _
  · have := rDropBad n l h w
    simpa [dropN, dropL, dropE, h] using this
  · by_cases h0 : n = 0
    · have := rDropNone n l h h0 w
      subst h0
      simpa [dropN, dropL, dropE, h] using this
    · obtain ⟨m0, m8, _⟩ := (may_iff n l).1 h
      have := rDropGood n l h (by omega) m8 w
      simpa [dropN, dropL, dropE, h, h0] using this

set_option maxHeartbeats 400000 in
theorem rGetBad (n : Int) (l : Nat → Int) (i : Int) (h : may n l = false) (w : World) :
    Calls Try.prog 41 #[rv n l, .int .i64 i] w fun e w' => e = .returned (.tuple #[.int .i64 0, .int .i64 1]) ∧ Below w.heap.size w w' := by
  go_enter Try.func41, Try.ntmps41
  go_wp2_with (go_at_call 57; refine (rMay n l _).mono ?_; rintro e w1 ⟨rfl, hb⟩; rw [h]; have hB := bt (bal (Below.refl w.heap.size w) _) hb; have hA := RAt.on (RAt.new w n l) hb; obtain ⟨c0, c1, c2, c3, c4, c5, c6, c7, c8⟩ := hA.cells; clear hb)
  go_ret2
  exact ⟨rfl, hB⟩
set_option maxHeartbeats 400000 in
theorem rGetOut (n : Int) (l : Nat → Int) (i : Int) (h : may n l = true) (hi : i < 0 ∨ n ≤ i) (w : World) :
    Calls Try.prog 41 #[rv n l, .int .i64 i] w fun e w' => e = .returned (.tuple #[.int .i64 0, .int .i64 12]) ∧ Below w.heap.size w w' := by
  rcases hi with hi | hi
  · go_enter Try.func41, Try.ntmps41
    go_wp2_with (go_at_call 57; refine (rMay n l _).mono ?_; rintro e w1 ⟨rfl, hb⟩; rw [h]; have hB := bt (bal (Below.refl w.heap.size w) _) hb; have hA := RAt.on (RAt.new w n l) hb; obtain ⟨c0, c1, c2, c3, c4, c5, c6, c7, c8⟩ := hA.cells; clear hb)
    go_ret2
    exact ⟨rfl, hB⟩
  · by_cases h0 : i < 0
    all_goals
      go_enter Try.func41, Try.ntmps41
      go_wp2_with (go_at_call 57; refine (rMay n l _).mono ?_; rintro e w1 ⟨rfl, hb⟩; rw [h]; have hB := bt (bal (Below.refl w.heap.size w) _) hb; have hA := RAt.on (RAt.new w n l) hb; obtain ⟨c0, c1, c2, c3, c4, c5, c6, c7, c8⟩ := hA.cells; clear hb)
      go_ret2
      exact ⟨rfl, hB⟩
set_option maxHeartbeats 400000 in
theorem rGetGood (n : Int) (l : Nat → Int) (i : Nat) (h : may n l = true) (h8 : n ≤ 8) (hi : (i : Int) < n) (w : World) :
    Calls Try.prog 41 #[rv n l, .int .i64 i] w fun e w' => e = .returned (.tuple #[.int .i64 (l i), .int .i64 0]) ∧ Below w.heap.size w w' := by
  have i0 : (0 : Int) ≤ (i : Int) := by omega
  have i8 : (i : Int) < 8 := by omega
  go_enter Try.func41, Try.ntmps41
  go_wp2_with (go_at_call 57; refine (rMay n l _).mono ?_; rintro e w1 ⟨rfl, hb⟩; rw [h]; have hB := bt (bal (Below.refl w.heap.size w) _) hb; have hA := RAt.on (RAt.new w n l) hb; obtain ⟨c0, c1, c2, c3, c4, c5, c6, c7, c8⟩ := hA.cells; clear hb; have hc := hA.cell i (by omega))
  go_ret2
  exact ⟨rfl, hB⟩
theorem rGet (n : Int) (l : Nat → Int) (i : Int) (w : World) :
    Calls Try.prog 41 #[rv n l, .int .i64 i] w fun e w' => e = .returned (.tuple #[.int .i64 (getV n l i), .int .i64 (getE n l i)]) ∧ Below w.heap.size w w' := by
  rcases h : may n l with _ | _
  · have := rGetBad n l i h w
    simpa [getV, getE, h] using this
  · by_cases hi : 0 ≤ i ∧ i < n
    · obtain ⟨k, rfl⟩ : ∃ k : Nat, i = k := ⟨i.toNat, by omega⟩
      have := rGetGood n l k h ((may_iff n l).1 h).2.1 hi.2 w
      simpa [getV, getE, h, isAt, hi.2] using this
    · have e : isAt n i = false := by simp [isAt]; omega
      have := rGetOut n l i h (by omega) w
      simpa [getV, getE, h, e] using this


set_option maxHeartbeats 400000 in
theorem rDupNo (n : Int) (l : Nat → Int) (i E : Int) (g1 : getV n l i = 0) (g2 : getE n l i = E) (h : (E != 0) = true) (w : World) :
    Calls Try.prog 47 #[rv n l, .int .i64 i] w fun e w' => e = .returned (.tuple #[rv 0 nil, .int .i64 E]) ∧ Below w.heap.size w w' := by
  go_enter Try.func47, Try.ntmps47
  go_wp2_with (go_at_call 41; refine (rGet n l i _).mono ?_; rintro e w1 ⟨rfl, hb⟩; rw [g1, g2]; have hB := bt (bal (bal (Below.refl w.heap.size w) _) _) hb; have hR := RAt.on (RAt.new (w.alloc (.cells #[.int .i64 n, .int .i64 (l 0), .int .i64 (l 1), .int .i64 (l 2), .int .i64 (l 3), .int .i64 (l 4), .int .i64 (l 5), .int .i64 (l 6), .int .i64 (l 7)] 72)) 0 nil) hb; simp only [World.size_alloc] at hR; have hA := RAt.on (RAt.alloc (RAt.new w n l) (.cells #[.int .i64 0, .int .i64 0, .int .i64 0, .int .i64 0, .int .i64 0, .int .i64 0, .int .i64 0, .int .i64 0, .int .i64 0] 72)) hb; obtain ⟨d0, d1, d2, d3, d4, d5, d6, d7, d8⟩ := hR.cells; obtain ⟨c0, c1, c2, c3, c4, c5, c6, c7, c8⟩ := hA.cells; have hf := hR.free; clear hb)
  exact bodyPost_ret (v := .tuple #[rv 0 nil, .int .i64 E]) (by simp [results, Try.results47, go_sem, d0, d1, d2, d3, d4, d5, d6, d7, d8, Plain.nil]) rfl ⟨rfl, b9 (by omega) hB⟩
set_option maxHeartbeats 400000 in
theorem rDupYes (n : Int) (l : Nat → Int) (i v : Int) (g1 : getV n l i = v) (g2 : getE n l i = 0) (w : World) :
    Calls Try.prog 47 #[rv n l, .int .i64 i] w fun e w' => e = .returned (.tuple #[rv (pushN n l) (pushL n l v), .int .i64 (pushE n l)]) ∧ Below w.heap.size w w' := by
  have hP := rPush n l v
  generalize pushN n l = pn at hP ⊢
  generalize pushL n l v = pl at hP ⊢
  generalize pushE n l = pe at hP ⊢
  go_enter Try.func47, Try.ntmps47
  go_wp2_with (first
    | (go_at_call 39; refine (hP _).mono ?_; rintro e w2 ⟨rfl, hb2⟩; have hB2 := bt hB hb2; have hR2 := hR.on hb2; obtain ⟨p0, p1, p2, p3, p4, p5, p6, p7, p8⟩ := hR2.cells; have hf2 := hR2.free; clear hb2)
    | (go_at_call 41; refine (rGet n l i _).mono ?_; rintro e w1 ⟨rfl, hb⟩; rw [g1, g2]; have hB := bt (bal (bal (Below.refl w.heap.size w) _) _) hb; have hR := RAt.on (RAt.new (w.alloc (.cells #[.int .i64 n, .int .i64 (l 0), .int .i64 (l 1), .int .i64 (l 2), .int .i64 (l 3), .int .i64 (l 4), .int .i64 (l 5), .int .i64 (l 6), .int .i64 (l 7)] 72)) 0 nil) hb; simp only [World.size_alloc] at hR; have hA := RAt.on (RAt.alloc (RAt.new w n l) (.cells #[.int .i64 0, .int .i64 0, .int .i64 0, .int .i64 0, .int .i64 0, .int .i64 0, .int .i64 0, .int .i64 0, .int .i64 0] 72)) hb; obtain ⟨d0, d1, d2, d3, d4, d5, d6, d7, d8⟩ := hR.cells; obtain ⟨c0, c1, c2, c3, c4, c5, c6, c7, c8⟩ := hA.cells; have hf := hR.free; clear hb))
  exact bodyPost_ret (v := .tuple #[rv pn pl, .int .i64 pe]) (by simp [results, Try.results47, go_sem, p0, p1, p2, p3, p4, p5, p6, p7, p8]) rfl ⟨rfl, b9 (by omega) hB2⟩
theorem rDup (n : Int) (l : Nat → Int) (i : Int) (w : World) :
    Calls Try.prog 47 #[rv n l, .int .i64 i] w fun e w' => e = .returned (.tuple #[rv (dupN n l i) (dupL n l i), .int .i64 (dupE n l i)]) ∧ Below w.heap.size w w' := by
  rcases h : (may n l && isAt n i) with _ | _
  · have g1 : getV n l i = 0 := by simp [getV, h]
    have g2 : (getE n l i != 0) = true := by
      rcases hm : may n l with _ | _
      · simp [getE, hm]
      · have : isAt n i = false := by simpa [hm] using h
        simp [getE, hm, this]
    have := rDupNo n l i _ g1 rfl g2 w
    simpa [dupN, dupL, dupE, h] using this
  · have g1 : getV n l i = l i.toNat := by simp [getV, h]
    have g2 : getE n l i = 0 := by
      simp only [Bool.and_eq_true] at h
      simp [getE, h.1, h.2]
    have := rDupYes n l i _ g1 g2 w
    simpa [dupN, dupL, dupE, h] using this

end Go.Proofs.Ytbihdkdefopijaa
