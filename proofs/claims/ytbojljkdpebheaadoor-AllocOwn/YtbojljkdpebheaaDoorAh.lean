/-
  Reserves and Allocs over one memory in a law's hand; the laws' own helpers.
-/
import Derived.Test.YtbojljkdpebheaaDoorK2
import Derived.Test.YtbojljkdpebheaaDoorAa
import Derived.Test.YtbojljkdpebheaaDoorEv
namespace Go.Proofs.YtbojljkdpebheaaDoor
set_option linter.unusedVariables false
set_option maxRecDepth 100000
open Go.ChangeShapes Go.WideShapes Go.RowKit
open S.Plain (t0 t1 tw nx bw b0 b1 b2 b3)
open H.Plain (hw pL)
section
variable {w0 w w' : World} {b p : Nat} {s s' : St} {N : Nat} {T : TypeId} {cs : Array Value} {F : List Nat}
theorem oAll {x : AllS} (h : Hand w0 w b s N) (hp : Blk w0 w p 85 x.cells) (ok : x.Ok) (hN : N < 1000000) :
    Calls Tryd.prog 12 #[.pointer (some ⟨p, 0, none⟩), .pointer (some ⟨b, 0, none⟩)] w fun e w' => e = .returned (.bool ((x.next s).pc == 0)) ∧
      Hand w0 w' b (x.mem s) (N + 1) ∧ Blk w0 w' p 85 (x.next s).cells ∧ Oth [p] w w' := by
  have hc : s.c < 1000000 := by have := h.top; omega
  have ht := h.top
  have f := h.fit
  have r := h.rng
  obtain ⟨L, rfl, A, k⟩ := h.went hp
  refine (cAllI A.in_ ok f hc r).mono ?_
  rintro e w' ⟨rfl, L', A', g⟩
  have := AllS.count (s := s) ok
  exact ⟨rfl, k A'.out g (AllS.fit ok f hc) (AllS.rng ok r) (by omega)⟩
theorem oRes {x : ResS} (h : Hand w0 w b s N) (hp : Blk w0 w p 83 x.cells) (ok : x.Ok) (hN : N < 1000000) :
    Calls Tryd.prog 30 #[.pointer (some ⟨p, 0, none⟩), .pointer (some ⟨b, 0, none⟩)] w fun e w' => e = .returned (.bool ((x.next s).pc == 0)) ∧
      Hand w0 w' b (x.mem s) (N + 1) ∧ Blk w0 w' p 83 (x.next s).cells ∧ Oth [p] w w' := by
  have hc : s.c < 1000000 := by have := h.top; omega
  have ht := h.top
  have f := h.fit
  have r := h.rng
  obtain ⟨L, rfl, A, k⟩ := h.went hp
  refine (cResI A.in_ ok f hc r).mono ?_
  rintro e w' ⟨rfl, L', A', g⟩
  have := ResS.count (s := s) ok
  exact ⟨rfl, k A'.out g (ResS.fit ok f hc) (ResS.rng ok r) (by omega)⟩
theorem oAllCell {x : AllS} (hp : Blk w0 w p 85 x.cells) : Calls Tryd.prog 18 #[.pointer (some ⟨p, 0, none⟩)] w fun e w' => e = .returned (.int .i64 x.cell) ∧ w' = w := cAllCell (bl_of hp.at_)
theorem oResCell {x : ResS} (hp : Blk w0 w p 83 x.cells) : Calls Tryd.prog 31 #[.pointer (some ⟨p, 0, none⟩)] w fun e w' => e = .returned (.int .i64 x.cell) ∧ w' = w := cResCell (bl_of hp.at_)
theorem hNewAll (h : Hand w0 w b s N) (q : Pl) {n m e : Int} (n0 : 0 ≤ n) (n7 : n ≤ 7) (e0 : 0 ≤ e) (e1 : e ≤ 1) :
    Calls Tryd.prog 11 #[.agg #[.int .i64 q.t, .int .i64 q.b, .int .i64 q.tb, .int .i64 q.hp, .int .i64 q.sz], .int .i64 n, .int .i64 m, .int .i64 e] w fun v w' => ∃ p, v = .returned (.pointer (some ⟨p, 0, none⟩)) ∧ Hand w0 w' b s N ∧ Blk w0 w' p 85 (AllS.new q n m e).cells ∧ Below w.heap.size w w' ∧ w.heap.size ≤ p := by
  refine (cNewAll q n0 n7 e0 e1 w h.widw).mono ?_
  rintro v w' ⟨w1, rfl, hb, rfl⟩
  have h1 := h.below hb
  exact ⟨_, rfl, h1.alloc _, Blk.new h1.bel.size _ (by decide), S.bal hb _, hb.size⟩
theorem hNewRes (h : Hand w0 w b s N) (q : Pl) {c e : Int} (c0 : 0 ≤ c) (c2 : c ≤ 2) (e0 : 0 ≤ e) (e1 : e ≤ 1) :
    Calls Tryd.prog 29 #[.agg #[.int .i64 q.t, .int .i64 q.b, .int .i64 q.tb, .int .i64 q.hp, .int .i64 q.sz], .int .i64 c, .int .i64 e] w fun v w' => ∃ p, v = .returned (.pointer (some ⟨p, 0, none⟩)) ∧ Hand w0 w' b s N ∧ Blk w0 w' p 83 (ResS.new q c e).cells ∧ Below w.heap.size w w' ∧ w.heap.size ≤ p := by
  refine (cNewRes q c0 c2 e0 e1 w).mono ?_
  rintro v w' ⟨p, rfl, k, hb, hp⟩
  exact ⟨_, rfl, h.below hb, ⟨k, Nat.le_trans h.bel.size hp, by decide⟩, hb, hp⟩
end
theorem Oth.fresh {p : Nat} {w w' : World} (h : Oth [p] w w') (hp : w.heap.size ≤ p) : Oth [] w w' := ⟨h.size, fun k cs T fz _ hT hk => h.blk k cs T fz (by have := lt_of_block hk; simp; omega) hT hk⟩
theorem Oth.old {p : Nat} {w w1 w' : World} (h : Oth [] w w1) (h' : Oth [p] w1 w') (hp : w.heap.size ≤ p) : Oth [] w w' := ((h.mono (by simp) : Oth [p] w w1).trans h').fresh hp
theorem cl_bounds {n : Int} (n0 : 0 ≤ n) (n7 : n ≤ 7) : 0 ≤ P.Plain.cl n ∧ P.Plain.cl n ≤ 1 := by
  have : n ≤ 3 ∨ 4 ≤ n := by omega
  rcases this with h | h
  · rw [P.Plain.cl_0 n0 h]; decide
  · rw [P.Plain.cl_1 h n7]; decide
theorem AllS.ok_new {q : Pl} {n m e : Int} (h : q.Ok) (n0 : 0 ≤ n) (n7 : n ≤ 7) (e0 : 0 ≤ e) (e1 : e ≤ 1) : (AllS.new q n m e).Ok := by
  have := cl_bounds n0 n7
  exact ⟨ResS.ok_new h this.1 (by omega) e0 e1, by simp [AllS.new], by simp [AllS.new], by simp [AllS.new], by simp only [AllS.new]; omega, by simp [AllS.new]⟩
/-- a plan's box of the law's own -/
abbrev PB (w0 w : World) (o : Nat) (q : Pl) : Prop := Blk w0 w o 25 q.cells
theorem Blk.box {w0 w : World} {o : Nat} {q : Pl} (h : Blk w0 w o 25 q.cells) : PBox w o q := h.at_
theorem kRNew (t n : Nat) (t0 : 1 ≤ t) (t1 : t ≤ 64) (n0 : 1 ≤ n) (n1 : n ≤ 64) (w : World) :
    Calls Tryd.prog 8 #[.int .i64 t, .int .i64 n] w fun e w' => e = .returned (.tuple #[.agg #[.int .i64 (mkPl t n).t, .int .i64 (mkPl t n).b, .int .i64 (mkPl t n).tb, .int .i64 (mkPl t n).hp, .int .i64 (mkPl t n).sz], .int .i64 0]) ∧ Below w.heap.size w w' := by
  have h := P.rNew t n (by omega) (by omega) (by omega) (by omega) w
  rw [hp_N, show ((hpN t n : Int) + 32 * (n : Int)) = ((szN t n : Nat) : Int) by unfold szN; omega] at h
  exact h
theorem kRNew' {t n : Nat} {t' m : Int} (ht : t' = t) (hm : m = n) (t0 : 1 ≤ t) (t1 : t ≤ 64) (n0 : 1 ≤ n) (n1 : n ≤ 64) (w : World) :
    Calls Tryd.prog 8 #[.int .i64 t', .int .i64 m] w fun e w' => e = .returned (.tuple #[.agg #[.int .i64 (mkPl t n).t, .int .i64 (mkPl t n).b, .int .i64 (mkPl t n).tb, .int .i64 (mkPl t n).hp, .int .i64 (mkPl t n).sz], .int .i64 0]) ∧ Below w.heap.size w w' := by
  subst ht hm
  exact kRNew t n t0 t1 n0 n1 w
theorem kRCell {q : Pl} (ok : q.Ok) {i k : Int} (c : Int) (i0 : -10 ≤ i) (i1 : i ≤ 5000) (k0 : 0 ≤ k) (k1 : k ≤ 100) (w : World) :
    Calls Tryd.prog 26 #[.agg #[.int .i64 q.t, .int .i64 q.b, .int .i64 q.tb, .int .i64 q.hp, .int .i64 q.sz], .int .i64 i, .int .i64 c, .int .i64 k] w fun e w' => e = .returned (.int .i64 (q.cell i c k)) ∧ Below w.heap.size w w' := by
  obtain ⟨x, y, z, u, v⟩ := q
  obtain ⟨_, _, q0, q1⟩ := ok
  simp only at q0 q1
  have b1 := (P.Plain.wd_bounds c).1
  have b2 := (P.Plain.wd_bounds c).2
  have m1 := (mul_bounds2 k0 k1 b1 b2).1
  have m2 := (mul_bounds2 k0 k1 b1 b2).2
  go_enter Tryd.func26, Tryd.ntmps26
  go_wp2
  go_quiet ((go_at_call 19; exact Calls.quiet_of_same (P.rWords _ _)))
  go_wp2
  go_ret
  exact ⟨rfl, P.bdr (P.bal (Below.refl _ _) _) _⟩
set_option maxHeartbeats 2000000 in
theorem cMade {w0 w : World} {b N : Nat} {s : St} {q : Pl} (h : Hand w0 w b s N) (hN : N ≤ 900000) (hq : q.Ok) {n : Int} (n0 : 0 ≤ n) (n7 : n ≤ 7) :
    Calls Tryd.prog 23 #[.agg #[.int .i64 q.t, .int .i64 q.b, .int .i64 q.tb, .int .i64 q.hp, .int .i64 q.sz], .pointer (some ⟨b, 0, none⟩), .int .i64 n] w fun e' w' => ∃ s', e' = .returned (.int .i64 (mkW 60 (AllS.new q n 0 0) s.ws).1) ∧
      s'.ws = (mkW 60 (AllS.new q n 0 0) s.ws).2 ∧ Hand w0 w' b s' (N + 60) ∧ Oth [] w w' := by
  have ok0 : (AllS.new q n 0 0).Ok := AllS.ok_new hq n0 n7 (by decide) (by decide)
  obtain ⟨x0, hx0⟩ : ∃ x0, AllS.new q n 0 0 = x0 := ⟨_, rfl⟩
  rw [hx0] at ok0 ⊢
  obtain ⟨R, hR⟩ : ∃ R, mkW 60 x0 s.ws = R := ⟨_, rfl⟩
  rw [hR]
  have h1 := h.alloc (.cells q.cells 25)
  have hO : Oth [] w (w.alloc (.cells q.cells 25)) := Oth.alloc _ _ _
  go_enter Tryd.func23, Tryd.ntmps23
  go_wp2_with (go_at_call 11; refine (hNewAll h1 q n0 n7 (by decide) (by decide)).mono ?_; rintro e' w1 ⟨p, rfl, h2, B2, hb2, hp2⟩; rw [hx0] at B2; have hO2 : Oth [] w w1 := hO.trans (Oth.below hb2); simp at hp2; have hp3 : w.heap.size ≤ p := (by omega); clear hb2 hO hp2)
  go_loopw [8] (fun i wr => ∃ (j : Nat) (x : AllS) (s1 : St), j ≤ 60 ∧ i = .int .i64 j ∧ Hand w0 wr b s1 (N + j) ∧ Blk w0 wr p 85 x.cells ∧ x.Ok ∧ mkW (60 - j) x s1.ws = R ∧ Oth [] w wr) (fun i _ => 60 - (intOf i).toNat)
  case atStart => exact ⟨0, x0, s, by omega, rfl, h2, B2, ok0, hR, hO2⟩
  case round =>
    clear h2 B2 ok0 hO2 hR h1 h s
    obtain ⟨j, x, s, hj, rfl, q1, q2, q3, q4, q5⟩ := hrel
    by_cases hl : j < 60
    case pos =>
      obtain ⟨k, hk⟩ : ∃ k, 60 - j = k + 1 := ⟨59 - j, by omega⟩
      rw [hk, mkW_step] at q4
      obtain ⟨d, hd⟩ : ∃ d, ((x.next s).pc == 0) = d := ⟨_, rfl⟩
      rcases d with _ | _
      · have hn : ¬ (x.next s).pc = 0 := by simpa using hd
        rw [if_neg hn] at q4
        go_wp2_with (go_at_call 12; refine (oAll q1 q2 q3 (by omega)).mono ?_; rintro e' w3 ⟨rfl, q6, q7, q8⟩; rw [hd])
        go_roundw
        case rel => exact ⟨j + 1, x.next s, x.mem s, by omega, by go_num, q6, q7, q3.next q1.rng, by rw [show 60 - (j + 1) = k by omega]; exact q4, q5.old q8 (by omega)⟩
        case measure => simp [intOf]; omega
      · have hn : (x.next s).pc = 0 := by simpa using hd
        rw [if_pos hn] at q4
        have q4a : (x.next s).cell = R.1 := by rw [← q4]
        have q4b : (x.mem s).ws = R.2 := by rw [← q4]
        go_wp2_with (first
          | (go_at_call 12; refine (oAll q1 q2 q3 (by omega)).mono ?_; rintro e' w3 ⟨rfl, q6, q7, q8⟩; rw [hd])
          | (go_at_call 18; refine (oAllCell q7).mono ?_; rintro e' w4 ⟨rfl, hw4⟩; rw [hw4, q4a]; clear hw4 w4))
        go_ret
        exact ⟨_, rfl, q4b, q6.mono (by omega), q5.old q8 (by omega)⟩
    case neg =>
      have ej : 60 - j = 0 := by omega
      rw [ej] at q4
      have q4a : R.1 = -1 := by rw [← q4]; rfl
      have q4b : R.2 = s.ws := by rw [← q4]; rfl
      have hd : decide ((j : Int) < 60) = false := decide_eq_false (by omega)
      go_wp2
      all_goals
        go_ret
        exact ⟨s, by rw [q4a]; rfl, q4b.symm, q1.mono (by omega), q5⟩
set_option maxHeartbeats 2000000 in
theorem cGot {w0 w : World} {b N : Nat} {s : St} {q : Pl} (h : Hand w0 w b s N) (hN : N ≤ 900000) (hq : q.Ok) {c e : Int} (c0 : 0 ≤ c) (c2 : c ≤ 2) (e0 : 0 ≤ e) (e1 : e ≤ 1) :
    Calls Tryd.prog 28 #[.agg #[.int .i64 q.t, .int .i64 q.b, .int .i64 q.tb, .int .i64 q.hp, .int .i64 q.sz], .pointer (some ⟨b, 0, none⟩), .int .i64 c, .int .i64 e] w fun e' w' => ∃ s', e' = .returned (.int .i64 (rsW 60 (ResS.new q c e) s.ws).1) ∧
      s'.ws = (rsW 60 (ResS.new q c e) s.ws).2 ∧ Hand w0 w' b s' (N + 60) ∧ Oth [] w w' := by
  have ok0 : (ResS.new q c e).Ok := ResS.ok_new hq c0 c2 e0 e1
  obtain ⟨x0, hx0⟩ : ∃ x0, ResS.new q c e = x0 := ⟨_, rfl⟩
  rw [hx0] at ok0 ⊢
  obtain ⟨R, hR⟩ : ∃ R, rsW 60 x0 s.ws = R := ⟨_, rfl⟩
  rw [hR]
  have h1 := h.alloc (.cells q.cells 25)
  have hO : Oth [] w (w.alloc (.cells q.cells 25)) := Oth.alloc _ _ _
  go_enter Tryd.func28, Tryd.ntmps28
  go_wp2_with (go_at_call 29; refine (hNewRes h1 q c0 c2 e0 e1).mono ?_; rintro e' w1 ⟨p, rfl, h2, B2, hb2, hp2⟩; rw [hx0] at B2; have hO2 : Oth [] w w1 := hO.trans (Oth.below hb2); simp at hp2; have hp3 : w.heap.size ≤ p := (by omega); clear hb2 hO hp2)
  go_loopw [10] (fun i wr => ∃ (j : Nat) (x : ResS) (s1 : St), j ≤ 60 ∧ i = .int .i64 j ∧ Hand w0 wr b s1 (N + j) ∧ Blk w0 wr p 83 x.cells ∧ x.Ok ∧ rsW (60 - j) x s1.ws = R ∧ Oth [] w wr) (fun i _ => 60 - (intOf i).toNat)
  case atStart => exact ⟨0, x0, s, by omega, rfl, h2, B2, ok0, hR, hO2⟩
  case round =>
    clear h2 B2 ok0 hO2 hR h1 h s
    obtain ⟨j, x, s, hj, rfl, q1, q2, q3, q4, q5⟩ := hrel
    by_cases hl : j < 60
    case pos =>
      obtain ⟨k, hk⟩ : ∃ k, 60 - j = k + 1 := ⟨59 - j, by omega⟩
      rw [hk, rsW_step] at q4
      obtain ⟨d, hd⟩ : ∃ d, ((x.next s).pc == 0) = d := ⟨_, rfl⟩
      rcases d with _ | _
      · have hn : ¬ (x.next s).pc = 0 := by simpa using hd
        rw [if_neg hn] at q4
        go_wp2_with (go_at_call 30; refine (oRes q1 q2 q3 (by omega)).mono ?_; rintro e' w3 ⟨rfl, q6, q7, q8⟩; rw [hd])
        go_roundw
        case rel => exact ⟨j + 1, x.next s, x.mem s, by omega, by go_num, q6, q7, q3.next q1.rng, by rw [show 60 - (j + 1) = k by omega]; exact q4, q5.old q8 (by omega)⟩
        case measure => simp [intOf]; omega
      · have hn : (x.next s).pc = 0 := by simpa using hd
        rw [if_pos hn] at q4
        have q4a : (x.next s).cell = R.1 := by rw [← q4]
        have q4b : (x.mem s).ws = R.2 := by rw [← q4]
        go_wp2_with (first
          | (go_at_call 30; refine (oRes q1 q2 q3 (by omega)).mono ?_; rintro e' w3 ⟨rfl, q6, q7, q8⟩; rw [hd])
          | (go_at_call 31; refine (oResCell q7).mono ?_; rintro e' w4 ⟨rfl, hw4⟩; rw [hw4, q4a]; clear hw4 w4))
        go_ret
        exact ⟨_, rfl, q4b, q6.mono (by omega), q5.old q8 (by omega)⟩
    case neg =>
      have ej : 60 - j = 0 := by omega
      rw [ej] at q4
      have q4a : R.1 = -1 := by rw [← q4]; rfl
      have q4b : R.2 = s.ws := by rw [← q4]; rfl
      have hd : decide ((j : Int) < 60) = false := decide_eq_false (by omega)
      go_wp2
      all_goals
        go_ret
        exact ⟨s, by rw [q4a]; rfl, q4b.symm, q1.mono (by omega), q5⟩
end Go.Proofs.YtbojljkdpebheaaDoor
