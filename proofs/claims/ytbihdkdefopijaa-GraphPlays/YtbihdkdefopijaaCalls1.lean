/-
  Contracts of layer 6's functions: whether roots may be; Push, Drop, Get, Dup.
-/
import Derived.Test.YtbihdkdefopijaaCalls0
namespace Go.Proofs.Ytbihdkdefopijaa
set_option linter.unusedVariables false
open Go.ChangeShapes Go.WideShapes Go.ChangeAt Go.RowKit
open Plain

theorem fieldL (n : Int) (l : Nat → Int) (w : World) : (Instr.field 72 (rv n l) 1).run Try.prog w = .ok (.agg #[.int .i64 (l 0), .int .i64 (l 1), .int .i64 (l 2), .int .i64 (l 3), .int .i64 (l 4), .int .i64 (l 5), .int .i64 (l 6), .int .i64 (l 7)]) w := by kernel_rfl
theorem eq8_cut (l : Nat → Int) (n : Int) : eq8 l (cut l n) = clr l n := by
  unfold eq8 clr
  congr 1
  funext j
  unfold cut
  by_cases h : (j : Int) < n <;> simp [h]

/-- roots in the block that was made first, and nothing that was there turned -/
theorem held_of {w u : World} {n : Int} {l : Nat → Int} (hb : Below w.heap.size w u) (h : RAt u w.heap.size n l) : Below w.heap.size w u ∧ w.heap.size < u.heap.size ∧ u.cell? ⟨w.heap.size, 0, none⟩ = some (.int .i64 n) ∧ u.cell? ⟨w.heap.size, 1, none⟩ = some (.int .i64 (l 0)) ∧ u.cell? ⟨w.heap.size, 2, none⟩ = some (.int .i64 (l 1)) ∧ u.cell? ⟨w.heap.size, 3, none⟩ = some (.int .i64 (l 2)) ∧ u.cell? ⟨w.heap.size, 4, none⟩ = some (.int .i64 (l 3)) ∧ u.cell? ⟨w.heap.size, 5, none⟩ = some (.int .i64 (l 4)) ∧ u.cell? ⟨w.heap.size, 6, none⟩ = some (.int .i64 (l 5)) ∧ u.cell? ⟨w.heap.size, 7, none⟩ = some (.int .i64 (l 6)) ∧ u.cell? ⟨w.heap.size, 8, none⟩ = some (.int .i64 (l 7)) := ⟨hb, h.lt, h.cells⟩
theorem held_new (w : World) (n : Int) (l : Nat → Int) : Below w.heap.size w (w.alloc (.cells #[.int .i64 n, .int .i64 (l 0), .int .i64 (l 1), .int .i64 (l 2), .int .i64 (l 3), .int .i64 (l 4), .int .i64 (l 5), .int .i64 (l 6), .int .i64 (l 7)] 72)).drew ∧ w.heap.size < (w.alloc (.cells #[.int .i64 n, .int .i64 (l 0), .int .i64 (l 1), .int .i64 (l 2), .int .i64 (l 3), .int .i64 (l 4), .int .i64 (l 5), .int .i64 (l 6), .int .i64 (l 7)] 72)).drew.heap.size ∧ (w.alloc (.cells #[.int .i64 n, .int .i64 (l 0), .int .i64 (l 1), .int .i64 (l 2), .int .i64 (l 3), .int .i64 (l 4), .int .i64 (l 5), .int .i64 (l 6), .int .i64 (l 7)] 72)).drew.cell? ⟨w.heap.size, 0, none⟩ = some (.int .i64 n) ∧ (w.alloc (.cells #[.int .i64 n, .int .i64 (l 0), .int .i64 (l 1), .int .i64 (l 2), .int .i64 (l 3), .int .i64 (l 4), .int .i64 (l 5), .int .i64 (l 6), .int .i64 (l 7)] 72)).drew.cell? ⟨w.heap.size, 1, none⟩ = some (.int .i64 (l 0)) ∧ (w.alloc (.cells #[.int .i64 n, .int .i64 (l 0), .int .i64 (l 1), .int .i64 (l 2), .int .i64 (l 3), .int .i64 (l 4), .int .i64 (l 5), .int .i64 (l 6), .int .i64 (l 7)] 72)).drew.cell? ⟨w.heap.size, 2, none⟩ = some (.int .i64 (l 1)) ∧ (w.alloc (.cells #[.int .i64 n, .int .i64 (l 0), .int .i64 (l 1), .int .i64 (l 2), .int .i64 (l 3), .int .i64 (l 4), .int .i64 (l 5), .int .i64 (l 6), .int .i64 (l 7)] 72)).drew.cell? ⟨w.heap.size, 3, none⟩ = some (.int .i64 (l 2)) ∧ (w.alloc (.cells #[.int .i64 n, .int .i64 (l 0), .int .i64 (l 1), .int .i64 (l 2), .int .i64 (l 3), .int .i64 (l 4), .int .i64 (l 5), .int .i64 (l 6), .int .i64 (l 7)] 72)).drew.cell? ⟨w.heap.size, 4, none⟩ = some (.int .i64 (l 3)) ∧ (w.alloc (.cells #[.int .i64 n, .int .i64 (l 0), .int .i64 (l 1), .int .i64 (l 2), .int .i64 (l 3), .int .i64 (l 4), .int .i64 (l 5), .int .i64 (l 6), .int .i64 (l 7)] 72)).drew.cell? ⟨w.heap.size, 5, none⟩ = some (.int .i64 (l 4)) ∧ (w.alloc (.cells #[.int .i64 n, .int .i64 (l 0), .int .i64 (l 1), .int .i64 (l 2), .int .i64 (l 3), .int .i64 (l 4), .int .i64 (l 5), .int .i64 (l 6), .int .i64 (l 7)] 72)).drew.cell? ⟨w.heap.size, 6, none⟩ = some (.int .i64 (l 5)) ∧ (w.alloc (.cells #[.int .i64 n, .int .i64 (l 0), .int .i64 (l 1), .int .i64 (l 2), .int .i64 (l 3), .int .i64 (l 4), .int .i64 (l 5), .int .i64 (l 6), .int .i64 (l 7)] 72)).drew.cell? ⟨w.heap.size, 7, none⟩ = some (.int .i64 (l 6)) ∧ (w.alloc (.cells #[.int .i64 n, .int .i64 (l 0), .int .i64 (l 1), .int .i64 (l 2), .int .i64 (l 3), .int .i64 (l 4), .int .i64 (l 5), .int .i64 (l 6), .int .i64 (l 7)] 72)).drew.cell? ⟨w.heap.size, 8, none⟩ = some (.int .i64 (l 7)) := held_of (bal (Below.refl _ _) _).drew (RAt.new w n l).drew
theorem held_on {w u v : World} {n : Int} {l : Nat → Int} (h : Below w.heap.size w u ∧ w.heap.size < u.heap.size ∧ u.cell? ⟨w.heap.size, 0, none⟩ = some (.int .i64 n) ∧ u.cell? ⟨w.heap.size, 1, none⟩ = some (.int .i64 (l 0)) ∧ u.cell? ⟨w.heap.size, 2, none⟩ = some (.int .i64 (l 1)) ∧ u.cell? ⟨w.heap.size, 3, none⟩ = some (.int .i64 (l 2)) ∧ u.cell? ⟨w.heap.size, 4, none⟩ = some (.int .i64 (l 3)) ∧ u.cell? ⟨w.heap.size, 5, none⟩ = some (.int .i64 (l 4)) ∧ u.cell? ⟨w.heap.size, 6, none⟩ = some (.int .i64 (l 5)) ∧ u.cell? ⟨w.heap.size, 7, none⟩ = some (.int .i64 (l 6)) ∧ u.cell? ⟨w.heap.size, 8, none⟩ = some (.int .i64 (l 7))) (hb : Below u.heap.size u v) : Below w.heap.size w v ∧ w.heap.size < v.heap.size ∧ v.cell? ⟨w.heap.size, 0, none⟩ = some (.int .i64 n) ∧ v.cell? ⟨w.heap.size, 1, none⟩ = some (.int .i64 (l 0)) ∧ v.cell? ⟨w.heap.size, 2, none⟩ = some (.int .i64 (l 1)) ∧ v.cell? ⟨w.heap.size, 3, none⟩ = some (.int .i64 (l 2)) ∧ v.cell? ⟨w.heap.size, 4, none⟩ = some (.int .i64 (l 3)) ∧ v.cell? ⟨w.heap.size, 5, none⟩ = some (.int .i64 (l 4)) ∧ v.cell? ⟨w.heap.size, 6, none⟩ = some (.int .i64 (l 5)) ∧ v.cell? ⟨w.heap.size, 7, none⟩ = some (.int .i64 (l 6)) ∧ v.cell? ⟨w.heap.size, 8, none⟩ = some (.int .i64 (l 7)) := by
  obtain ⟨h1, h2, c0, c1, c2, c3, c4, c5, c6, c7, c8⟩ := h
  exact ⟨bt h1 hb, Nat.lt_of_lt_of_le h2 hb.size, (hb.cell h2).trans c0, (hb.cell h2).trans c1, (hb.cell h2).trans c2, (hb.cell h2).trans c3, (hb.cell h2).trans c4, (hb.cell h2).trans c5, (hb.cell h2).trans c6, (hb.cell h2).trans c7, (hb.cell h2).trans c8⟩

set_option maxHeartbeats 400000 in
theorem cMayBe (n : Int) (l : Nat → Int) (w : World) :
    Calls Try.prog 56 #[rv n l] w fun e w' => e = .returned (.bool (may n l)) ∧ Below w.heap.size w w' := by
  by_cases h0 : 0 ≤ n
  case neg =>
    have hd : decide (0 ≤ n) = false := decide_eq_false h0
    have r : may n l = false := by simp [may, hd]
    rw [r]
    go_enter Try.func56, Try.ntmps56
    go_wp2
    go_quiet (fail)
    go_wp2
    go_ret
    exact ⟨rfl, bdr (bal (Below.refl _ _) _) _⟩
  by_cases h8 : n ≤ 8
  case neg =>
    have hd : decide (n ≤ 8) = false := decide_eq_false h8
    have r : may n l = false := by simp [may, hd]
    rw [r]
    go_enter Try.func56, Try.ntmps56
    go_wp2
    go_quiet (fail)
    go_wp2
    go_ret
    exact ⟨rfl, bdr (bal (Below.refl _ _) _) _⟩
  obtain ⟨k, rfl⟩ : ∃ k : Nat, n = k := ⟨n.toNat, by omega⟩
  have r : may k l = eq8 l (cut l k) := by rw [eq8_cut]; simp [may, h8]
  rw [r]
  have E := eqL l (cut l k)
  have F := fieldL k (cut l k)
  generalize eq8 l (cut l k) = f at E ⊢
  go_enter Try.func56, Try.ntmps56
  go_wp2
  go_region_held3 (fun w' => Below w.heap.size w w' ∧ w.heap.size < w'.heap.size ∧ w'.cell? ⟨w.heap.size, 0, none⟩ = some (.int .i64 k) ∧ w'.cell? ⟨w.heap.size, 1, none⟩ = some (.int .i64 (l 0)) ∧ w'.cell? ⟨w.heap.size, 2, none⟩ = some (.int .i64 (l 1)) ∧ w'.cell? ⟨w.heap.size, 3, none⟩ = some (.int .i64 (l 2)) ∧ w'.cell? ⟨w.heap.size, 4, none⟩ = some (.int .i64 (l 3)) ∧ w'.cell? ⟨w.heap.size, 5, none⟩ = some (.int .i64 (l 4)) ∧ w'.cell? ⟨w.heap.size, 6, none⟩ = some (.int .i64 (l 5)) ∧ w'.cell? ⟨w.heap.size, 7, none⟩ = some (.int .i64 (l 6)) ∧ w'.cell? ⟨w.heap.size, 8, none⟩ = some (.int .i64 (l 7))) (first | assumption | exact held_new _ _ _ | exact held_on (by assumption) (by assumption))
    (first | (go_at_call 59; refine (cFirst _ _ k (by omega) _).mono ?_; rintro e w1 ⟨rfl, hb⟩))
  go_wp2
  go_ret
  exact ⟨rfl, bt (bal (Below.refl _ _) _).drew hb⟩



theorem cFirstI (n : Int) (l : Nat → Int) (m : Int) (h0 : 0 ≤ m) (h8 : m ≤ 8) (w : World) :
    Calls Try.prog 59 #[rv n l, .int .i64 m] w fun e w' => e = .returned (rv m (cut l m)) ∧ Below w.heap.size w w' := by
  obtain ⟨k, rfl⟩ : ∃ k : Nat, m = k := ⟨m.toNat, by omega⟩
  exact cFirst n l k (by omega) w
theorem rv_same {l m : Nat → Int} (n : Int) (h : ∀ j, j < 8 → l j = m j) : rv n l = rv n m := by
  unfold rv
  rw [h 0 (by decide), h 1 (by decide), h 2 (by decide), h 3 (by decide), h 4 (by decide), h 5 (by decide), h 6 (by decide), h 7 (by decide)]
theorem b1 {B g j : Nat} {w u : World} {v : Value} (hg : B ≤ g) (h : Below B w u) : Below B w (u.setCell ⟨g, j, none⟩ v) := h.setCell hg v
theorem b9 {B g : Nat} {w u : World} {v0 v1 v2 v3 v4 v5 v6 v7 v8 : Value} (hg : B ≤ g) (h : Below B w u) : Below B w (((((((((u.setCell ⟨g, 0, none⟩ v0).setCell ⟨g, 1, none⟩ v1).setCell ⟨g, 2, none⟩ v2).setCell ⟨g, 3, none⟩ v3).setCell ⟨g, 4, none⟩ v4).setCell ⟨g, 5, none⟩ v5).setCell ⟨g, 6, none⟩ v6).setCell ⟨g, 7, none⟩ v7).setCell ⟨g, 8, none⟩ v8) := b1 hg (b1 hg (b1 hg (b1 hg (b1 hg (b1 hg (b1 hg (b1 hg (b1 hg h))))))))
theorem rv_zero : rv 0 nil = .agg #[.int .i64 0, .int .i64 0, .int .i64 0, .int .i64 0, .int .i64 0, .int .i64 0, .int .i64 0, .int .i64 0, .int .i64 0] := rfl


set_option maxHeartbeats 400000 in
theorem cPushBad (n : Int) (l : Nat → Int) (a : Int) (h : may n l = false) (w : World) :
    Calls Try.prog 37 #[rv n l, .int .i64 a] w fun e w' => e = .returned (.tuple #[rv 0 nil, .int .i64 1]) ∧ Below w.heap.size w w' := by
  go_enter Try.func37, Try.ntmps37
  go_wp2_with (go_at_call 56; refine (cMayBe n l _).mono ?_; rintro e w1 ⟨rfl, hb⟩; rw [h]; have hB := bt (bal (bal (Below.refl w.heap.size w) _) _) hb; have hR := RAt.on (RAt.new (w.alloc (.cells #[.int .i64 n, .int .i64 (l 0), .int .i64 (l 1), .int .i64 (l 2), .int .i64 (l 3), .int .i64 (l 4), .int .i64 (l 5), .int .i64 (l 6), .int .i64 (l 7)] 72)) 0 nil) hb; simp only [World.size_alloc] at hR; have hA := RAt.on (RAt.alloc (RAt.new w n l) (.cells #[.int .i64 0, .int .i64 0, .int .i64 0, .int .i64 0, .int .i64 0, .int .i64 0, .int .i64 0, .int .i64 0, .int .i64 0] 72)) hb; obtain ⟨d0, d1, d2, d3, d4, d5, d6, d7, d8⟩ := hR.cells; obtain ⟨c0, c1, c2, c3, c4, c5, c6, c7, c8⟩ := hA.cells; have hf := hR.free; have hg := hA.free; clear hb)
  exact bodyPost_ret (v := .tuple #[rv 0 nil, .int .i64 1]) (by simp [results, Try.results37, go_sem, d0, d1, d2, d3, d4, d5, d6, d7, d8, Plain.nil]) rfl ⟨rfl, b9 (by omega) hB⟩
set_option maxHeartbeats 400000 in
theorem cPushFull (n : Int) (l : Nat → Int) (a : Int) (h : may n l = true) (hn : n = 8) (w : World) :
    Calls Try.prog 37 #[rv n l, .int .i64 a] w fun e w' => e = .returned (.tuple #[rv 0 nil, .int .i64 13]) ∧ Below w.heap.size w w' := by
  have hn' : (n == 8) = true := by simpa using hn
  clear hn
  go_enter Try.func37, Try.ntmps37
  go_wp2_with (go_at_call 56; refine (cMayBe n l _).mono ?_; rintro e w1 ⟨rfl, hb⟩; rw [h]; have hB := bt (bal (bal (Below.refl w.heap.size w) _) _) hb; have hR := RAt.on (RAt.new (w.alloc (.cells #[.int .i64 n, .int .i64 (l 0), .int .i64 (l 1), .int .i64 (l 2), .int .i64 (l 3), .int .i64 (l 4), .int .i64 (l 5), .int .i64 (l 6), .int .i64 (l 7)] 72)) 0 nil) hb; simp only [World.size_alloc] at hR; have hA := RAt.on (RAt.alloc (RAt.new w n l) (.cells #[.int .i64 0, .int .i64 0, .int .i64 0, .int .i64 0, .int .i64 0, .int .i64 0, .int .i64 0, .int .i64 0, .int .i64 0] 72)) hb; obtain ⟨d0, d1, d2, d3, d4, d5, d6, d7, d8⟩ := hR.cells; obtain ⟨c0, c1, c2, c3, c4, c5, c6, c7, c8⟩ := hA.cells; have hf := hR.free; have hg := hA.free; clear hb)
  exact bodyPost_ret (v := .tuple #[rv 0 nil, .int .i64 13]) (by simp [results, Try.results37, go_sem, d0, d1, d2, d3, d4, d5, d6, d7, d8, Plain.nil]) rfl ⟨rfl, b9 (by omega) hB⟩
set_option maxHeartbeats 400000 in
theorem cPushGood (n : Int) (k : Nat) (l : Nat → Int) (a : Int) (hk : k < 8) (e1 : n = k) (h : may n l = true) (w : World) :
    Calls Try.prog 37 #[rv n l, .int .i64 a] w fun e w' => e = .returned (.tuple #[rv (n + 1) (put l k a), .int .i64 0]) ∧ Below w.heap.size w w' := by
  subst e1
  have k0 : (0 : Int) ≤ (k : Int) := by omega
  have k8 : (k : Int) < 8 := by omega
  have hn : ((k : Int) == 8) = false := by simp; omega
  go_enter Try.func37, Try.ntmps37
  go_wp2_with (go_at_call 56; refine (cMayBe k l _).mono ?_; rintro e w1 ⟨rfl, hb⟩; rw [h]; have hB := bt (bal (bal (Below.refl w.heap.size w) _) _) hb; have hR := RAt.on (RAt.new (w.alloc (.cells #[.int .i64 k, .int .i64 (l 0), .int .i64 (l 1), .int .i64 (l 2), .int .i64 (l 3), .int .i64 (l 4), .int .i64 (l 5), .int .i64 (l 6), .int .i64 (l 7)] 72)) 0 nil) hb; simp only [World.size_alloc] at hR; have hA := RAt.on (RAt.alloc (RAt.new w k l) (.cells #[.int .i64 0, .int .i64 0, .int .i64 0, .int .i64 0, .int .i64 0, .int .i64 0, .int .i64 0, .int .i64 0, .int .i64 0] 72)) hb; obtain ⟨d0, d1, d2, d3, d4, d5, d6, d7, d8⟩ := hR.cells; obtain ⟨c0, c1, c2, c3, c4, c5, c6, c7, c8⟩ := hA.cells; have hf := hR.free; have hg := hA.free; clear hb; have hc := hA.cell k hk; obtain ⟨e0, e1, e2, e3, e4, e5, e6, e7, e8⟩ := ((hA.set k hk a).setN (k + 1)).cells)
  exact bodyPost_ret (v := .tuple #[rv (k + 1) (put l k a), .int .i64 0]) (by simp [results, Try.results37, go_sem, d0, d1, d2, d3, d4, d5, d6, d7, d8]) rfl ⟨rfl, b9 (by omega) (b1 (Nat.le_refl _) (b1 (Nat.le_refl _) hB))⟩
theorem cPush (n : Int) (l : Nat → Int) (a : Int) (w : World) :
    Calls Try.prog 37 #[rv n l, .int .i64 a] w fun e w' => e = .returned (.tuple #[rv (pushN n l) (pushL n l a), .int .i64 (pushE n l)]) ∧ Below w.heap.size w w' := by
  rcases h : may n l with _ | _
  · have := cPushBad n l a h w
    simpa [pushN, pushL, pushE, h] using this
  · by_cases h8 : n = 8
    · have := cPushFull n l a h h8 w
      subst h8
      simpa [pushN, pushL, pushE, h] using this
    · obtain ⟨m0, m8, _⟩ := (may_iff n l).1 h
      have := cPushGood n n.toNat l a (by omega) (by omega) h w
      simpa [pushN, pushL, pushE, h, h8] using this

set_option maxHeartbeats 400000 in
theorem cDropBad (n : Int) (l : Nat → Int) (h : may n l = false) (w : World) :
    Calls Try.prog 48 #[rv n l] w fun e w' => e = .returned (.tuple #[rv 0 nil, .int .i64 1]) ∧ Below w.heap.size w w' := by
  go_enter Try.func48, Try.ntmps48
  go_wp2_with (go_at_call 56; refine (cMayBe n l _).mono ?_; rintro e w1 ⟨rfl, hb⟩; rw [h]; have hB := bt (bal (bal (Below.refl w.heap.size w) _) _) hb; have hR := RAt.on (RAt.new (w.alloc (.cells #[.int .i64 n, .int .i64 (l 0), .int .i64 (l 1), .int .i64 (l 2), .int .i64 (l 3), .int .i64 (l 4), .int .i64 (l 5), .int .i64 (l 6), .int .i64 (l 7)] 72)) 0 nil) hb; simp only [World.size_alloc] at hR; have hA := RAt.on (RAt.alloc (RAt.new w n l) (.cells #[.int .i64 0, .int .i64 0, .int .i64 0, .int .i64 0, .int .i64 0, .int .i64 0, .int .i64 0, .int .i64 0, .int .i64 0] 72)) hb; obtain ⟨d0, d1, d2, d3, d4, d5, d6, d7, d8⟩ := hR.cells; obtain ⟨c0, c1, c2, c3, c4, c5, c6, c7, c8⟩ := hA.cells; have hf := hR.free; have hg := hA.free; clear hb)
  exact bodyPost_ret (v := .tuple #[rv 0 nil, .int .i64 1]) (by simp [results, Try.results48, go_sem, d0, d1, d2, d3, d4, d5, d6, d7, d8, Plain.nil]) rfl ⟨rfl, b9 (by omega) hB⟩
set_option maxHeartbeats 400000 in
theorem cDropNone (n : Int) (l : Nat → Int) (h : may n l = true) (hn : n = 0) (w : World) :
    Calls Try.prog 48 #[rv n l] w fun e w' => e = .returned (.tuple #[rv 0 nil, .int .i64 12]) ∧ Below w.heap.size w w' := by
  have hn' : (n == 0) = true := by simpa using hn
  clear hn
  go_enter Try.func48, Try.ntmps48
  go_wp2_with (go_at_call 56; refine (cMayBe n l _).mono ?_; rintro e w1 ⟨rfl, hb⟩; rw [h]; have hB := bt (bal (bal (Below.refl w.heap.size w) _) _) hb; have hR := RAt.on (RAt.new (w.alloc (.cells #[.int .i64 n, .int .i64 (l 0), .int .i64 (l 1), .int .i64 (l 2), .int .i64 (l 3), .int .i64 (l 4), .int .i64 (l 5), .int .i64 (l 6), .int .i64 (l 7)] 72)) 0 nil) hb; simp only [World.size_alloc] at hR; have hA := RAt.on (RAt.alloc (RAt.new w n l) (.cells #[.int .i64 0, .int .i64 0, .int .i64 0, .int .i64 0, .int .i64 0, .int .i64 0, .int .i64 0, .int .i64 0, .int .i64 0] 72)) hb; obtain ⟨d0, d1, d2, d3, d4, d5, d6, d7, d8⟩ := hR.cells; obtain ⟨c0, c1, c2, c3, c4, c5, c6, c7, c8⟩ := hA.cells; have hf := hR.free; have hg := hA.free; clear hb)
  exact bodyPost_ret (v := .tuple #[rv 0 nil, .int .i64 12]) (by simp [results, Try.results48, go_sem, d0, d1, d2, d3, d4, d5, d6, d7, d8, Plain.nil]) rfl ⟨rfl, b9 (by omega) hB⟩
set_option maxHeartbeats 400000 in
theorem cDropGood (n : Int) (l : Nat → Int) (h : may n l = true) (h1 : 1 ≤ n) (h8 : n ≤ 8) (w : World) :
    Calls Try.prog 48 #[rv n l] w fun e w' => e = .returned (.tuple #[rv (n - 1) (cut l (n - 1)), .int .i64 0]) ∧ Below w.heap.size w w' := by
  have hn' : (n == 0) = false := by simp; omega
  go_enter Try.func48, Try.ntmps48
  go_wp2_with (first
    | (go_at_call 59; refine (cFirstI n l (n - 1) (by omega) (by omega) _).mono ?_; rintro e w2 ⟨rfl, hb2⟩; have hB2 := bt hB hb2; have hR2 := hR.on hb2; obtain ⟨p0, p1, p2, p3, p4, p5, p6, p7, p8⟩ := hR2.cells; have hf2 := hR2.free; clear hb2)
    | (go_at_call 56; refine (cMayBe n l _).mono ?_; rintro e w1 ⟨rfl, hb⟩; rw [h]; have hB := bt (bal (bal (Below.refl w.heap.size w) _) _) hb; have hR := RAt.on (RAt.new (w.alloc (.cells #[.int .i64 n, .int .i64 (l 0), .int .i64 (l 1), .int .i64 (l 2), .int .i64 (l 3), .int .i64 (l 4), .int .i64 (l 5), .int .i64 (l 6), .int .i64 (l 7)] 72)) 0 nil) hb; simp only [World.size_alloc] at hR; have hA := RAt.on (RAt.alloc (RAt.new w n l) (.cells #[.int .i64 0, .int .i64 0, .int .i64 0, .int .i64 0, .int .i64 0, .int .i64 0, .int .i64 0, .int .i64 0, .int .i64 0] 72)) hb; obtain ⟨d0, d1, d2, d3, d4, d5, d6, d7, d8⟩ := hR.cells; obtain ⟨c0, c1, c2, c3, c4, c5, c6, c7, c8⟩ := hA.cells; have hf := hR.free; have hg := hA.free; clear hb))
  exact bodyPost_ret (v := .tuple #[rv (n - 1) (cut l (n - 1)), .int .i64 0]) (by simp [results, Try.results48, go_sem, p0, p1, p2, p3, p4, p5, p6, p7, p8]) rfl ⟨rfl, b9 (by omega) hB2⟩
theorem cDrop (n : Int) (l : Nat → Int) (w : World) :
    Calls Try.prog 48 #[rv n l] w fun e w' => e = .returned (.tuple #[rv (dropN n l) (dropL n l), .int .i64 (dropE n l)]) ∧ Below w.heap.size w w' := by
  rcases h : may n l with _ | _
  · have := cDropBad n l h w
    simpa [dropN, dropL, dropE, h] using this
  · by_cases h0 : n = 0
    · have := cDropNone n l h h0 w
      subst h0
      simpa [dropN, dropL, dropE, h] using this
    · obtain ⟨m0, m8, _⟩ := (may_iff n l).1 h
      have := cDropGood n l h (by omega) m8 w
      simpa [dropN, dropL, dropE, h, h0] using this

set_option maxHeartbeats 400000 in
theorem cGetBad (n : Int) (l : Nat → Int) (i : Int) (h : may n l = false) (w : World) :
    Calls Try.prog 44 #[rv n l, .int .i64 i] w fun e w' => e = .returned (.tuple #[.int .i64 0, .int .i64 1]) ∧ Below w.heap.size w w' := by
  go_enter Try.func44, Try.ntmps44
  go_wp2_with (go_at_call 56; refine (cMayBe n l _).mono ?_; rintro e w1 ⟨rfl, hb⟩; rw [h]; have hB := bt (bal (Below.refl w.heap.size w) _) hb; have hA := RAt.on (RAt.new w n l) hb; obtain ⟨c0, c1, c2, c3, c4, c5, c6, c7, c8⟩ := hA.cells; clear hb)
  go_ret2
  exact ⟨rfl, hB⟩
set_option maxHeartbeats 400000 in
theorem cGetOut (n : Int) (l : Nat → Int) (i : Int) (h : may n l = true) (hi : i < 0 ∨ n ≤ i) (w : World) :
    Calls Try.prog 44 #[rv n l, .int .i64 i] w fun e w' => e = .returned (.tuple #[.int .i64 0, .int .i64 12]) ∧ Below w.heap.size w w' := by
  rcases hi with hi | hi
  · go_enter Try.func44, Try.ntmps44
    go_wp2_with (go_at_call 56; refine (cMayBe n l _).mono ?_; rintro e w1 ⟨rfl, hb⟩; rw [h]; have hB := bt (bal (Below.refl w.heap.size w) _) hb; have hA := RAt.on (RAt.new w n l) hb; obtain ⟨c0, c1, c2, c3, c4, c5, c6, c7, c8⟩ := hA.cells; clear hb)
    go_ret2
    exact ⟨rfl, hB⟩
  · by_cases h0 : i < 0
    all_goals
      go_enter Try.func44, Try.ntmps44
      go_wp2_with (go_at_call 56; refine (cMayBe n l _).mono ?_; rintro e w1 ⟨rfl, hb⟩; rw [h]; have hB := bt (bal (Below.refl w.heap.size w) _) hb; have hA := RAt.on (RAt.new w n l) hb; obtain ⟨c0, c1, c2, c3, c4, c5, c6, c7, c8⟩ := hA.cells; clear hb)
      go_ret2
      exact ⟨rfl, hB⟩
set_option maxHeartbeats 400000 in
theorem cGetGood (n : Int) (l : Nat → Int) (i : Nat) (h : may n l = true) (h8 : n ≤ 8) (hi : (i : Int) < n) (w : World) :
    Calls Try.prog 44 #[rv n l, .int .i64 i] w fun e w' => e = .returned (.tuple #[.int .i64 (l i), .int .i64 0]) ∧ Below w.heap.size w w' := by
  have i0 : (0 : Int) ≤ (i : Int) := by omega
  have i8 : (i : Int) < 8 := by omega
  go_enter Try.func44, Try.ntmps44
  go_wp2_with (go_at_call 56; refine (cMayBe n l _).mono ?_; rintro e w1 ⟨rfl, hb⟩; rw [h]; have hB := bt (bal (Below.refl w.heap.size w) _) hb; have hA := RAt.on (RAt.new w n l) hb; obtain ⟨c0, c1, c2, c3, c4, c5, c6, c7, c8⟩ := hA.cells; clear hb; have hc := hA.cell i (by omega))
  go_ret2
  exact ⟨rfl, hB⟩
theorem cGet (n : Int) (l : Nat → Int) (i : Int) (w : World) :
    Calls Try.prog 44 #[rv n l, .int .i64 i] w fun e w' => e = .returned (.tuple #[.int .i64 (getV n l i), .int .i64 (getE n l i)]) ∧ Below w.heap.size w w' := by
  rcases h : may n l with _ | _
  · have := cGetBad n l i h w
    simpa [getV, getE, h] using this
  · by_cases hi : 0 ≤ i ∧ i < n
    · obtain ⟨k, rfl⟩ : ∃ k : Nat, i = k := ⟨i.toNat, by omega⟩
      have := cGetGood n l k h ((may_iff n l).1 h).2.1 hi.2 w
      simpa [getV, getE, h, isAt, hi.2] using this
    · have e : isAt n i = false := by simp [isAt]; omega
      have := cGetOut n l i h (by omega) w
      simpa [getV, getE, h, e] using this


set_option maxHeartbeats 400000 in
theorem cDupNo (n : Int) (l : Nat → Int) (i E : Int) (g1 : getV n l i = 0) (g2 : getE n l i = E) (h : (E != 0) = true) (w : World) :
    Calls Try.prog 46 #[rv n l, .int .i64 i] w fun e w' => e = .returned (.tuple #[rv 0 nil, .int .i64 E]) ∧ Below w.heap.size w w' := by
  go_enter Try.func46, Try.ntmps46
  go_wp2_with (go_at_call 44; refine (cGet n l i _).mono ?_; rintro e w1 ⟨rfl, hb⟩; rw [g1, g2]; have hB := bt (bal (bal (Below.refl w.heap.size w) _) _) hb; have hR := RAt.on (RAt.new (w.alloc (.cells #[.int .i64 n, .int .i64 (l 0), .int .i64 (l 1), .int .i64 (l 2), .int .i64 (l 3), .int .i64 (l 4), .int .i64 (l 5), .int .i64 (l 6), .int .i64 (l 7)] 72)) 0 nil) hb; simp only [World.size_alloc] at hR; have hA := RAt.on (RAt.alloc (RAt.new w n l) (.cells #[.int .i64 0, .int .i64 0, .int .i64 0, .int .i64 0, .int .i64 0, .int .i64 0, .int .i64 0, .int .i64 0, .int .i64 0] 72)) hb; obtain ⟨d0, d1, d2, d3, d4, d5, d6, d7, d8⟩ := hR.cells; obtain ⟨c0, c1, c2, c3, c4, c5, c6, c7, c8⟩ := hA.cells; have hf := hR.free; clear hb)
  exact bodyPost_ret (v := .tuple #[rv 0 nil, .int .i64 E]) (by simp [results, Try.results46, go_sem, d0, d1, d2, d3, d4, d5, d6, d7, d8, Plain.nil]) rfl ⟨rfl, b9 (by omega) hB⟩
set_option maxHeartbeats 400000 in
theorem cDupYes (n : Int) (l : Nat → Int) (i v : Int) (g1 : getV n l i = v) (g2 : getE n l i = 0) (w : World) :
    Calls Try.prog 46 #[rv n l, .int .i64 i] w fun e w' => e = .returned (.tuple #[rv (pushN n l) (pushL n l v), .int .i64 (pushE n l)]) ∧ Below w.heap.size w w' := by
  have hP := cPush n l v
  generalize pushN n l = pn at hP ⊢
  generalize pushL n l v = pl at hP ⊢
  generalize pushE n l = pe at hP ⊢
  go_enter Try.func46, Try.ntmps46
  go_wp2_with (first
    | (go_at_call 37; refine (hP _).mono ?_; rintro e w2 ⟨rfl, hb2⟩; have hB2 := bt hB hb2; have hR2 := hR.on hb2; obtain ⟨p0, p1, p2, p3, p4, p5, p6, p7, p8⟩ := hR2.cells; have hf2 := hR2.free; clear hb2)
    | (go_at_call 44; refine (cGet n l i _).mono ?_; rintro e w1 ⟨rfl, hb⟩; rw [g1, g2]; have hB := bt (bal (bal (Below.refl w.heap.size w) _) _) hb; have hR := RAt.on (RAt.new (w.alloc (.cells #[.int .i64 n, .int .i64 (l 0), .int .i64 (l 1), .int .i64 (l 2), .int .i64 (l 3), .int .i64 (l 4), .int .i64 (l 5), .int .i64 (l 6), .int .i64 (l 7)] 72)) 0 nil) hb; simp only [World.size_alloc] at hR; have hA := RAt.on (RAt.alloc (RAt.new w n l) (.cells #[.int .i64 0, .int .i64 0, .int .i64 0, .int .i64 0, .int .i64 0, .int .i64 0, .int .i64 0, .int .i64 0, .int .i64 0] 72)) hb; obtain ⟨d0, d1, d2, d3, d4, d5, d6, d7, d8⟩ := hR.cells; obtain ⟨c0, c1, c2, c3, c4, c5, c6, c7, c8⟩ := hA.cells; have hf := hR.free; clear hb))
  exact bodyPost_ret (v := .tuple #[rv pn pl, .int .i64 pe]) (by simp [results, Try.results46, go_sem, p0, p1, p2, p3, p4, p5, p6, p7, p8]) rfl ⟨rfl, b9 (by omega) hB2⟩
theorem cDup (n : Int) (l : Nat → Int) (i : Int) (w : World) :
    Calls Try.prog 46 #[rv n l, .int .i64 i] w fun e w' => e = .returned (.tuple #[rv (dupN n l i) (dupL n l i), .int .i64 (dupE n l i)]) ∧ Below w.heap.size w w' := by
  rcases h : (may n l && isAt n i) with _ | _
  · have g1 : getV n l i = 0 := by simp [getV, h]
    have g2 : (getE n l i != 0) = true := by
      rcases hm : may n l with _ | _
      · simp [getE, hm]
      · have : isAt n i = false := by simpa [hm] using h
        simp [getE, hm, this]
    have := cDupNo n l i _ g1 rfl g2 w
    simpa [dupN, dupL, dupE, h] using this
  · have g1 : getV n l i = l i.toNat := by simp [getV, h]
    have g2 : getE n l i = 0 := by
      simp only [Bool.and_eq_true] at h
      simp [getE, h.1, h.2]
    have := cDupYes n l i _ g1 g2 w
    simpa [dupN, dupL, dupE, h] using this

end Go.Proofs.Ytbihdkdefopijaa
