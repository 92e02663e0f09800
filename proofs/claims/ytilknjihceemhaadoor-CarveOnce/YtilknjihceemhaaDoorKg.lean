/-
  The laws' own helpers: the document's examples; a block that is taken.
-/
import Derived.Test.YtilknjihceemhaaDoorKh
import Derived.Test.YtilknjihceemhaaDoorKu
namespace Go.Proofs.YtilknjihceemhaaDoor
set_option linter.unusedVariables false
set_option maxRecDepth 100000
open Go.ChangeShapes Go.WideShapes Go.RowKit
open S.Plain (t0 t1 tw nx bw b0 b1 b2 b3)
open H.Plain (hw pL)

theorem Oth.fresh {p : Nat} {w w' : World} (h : Oth [p] w w') (hp : w.heap.size ≤ p) : Oth [] w w' := ⟨h.size, fun k cs T fz _ hT hk => h.blk k cs T fz (by have := lt_of_block hk; simp; omega) hT hk⟩
theorem Oth.old {p : Nat} {w w1 w' : World} (h : Oth [] w w1) (h' : Oth [p] w1 w') (hp : w.heap.size ≤ p) : Oth [] w w' := ((h.mono (by simp) : Oth [p] w w1).trans h').fresh hp
/-- a Take is made -/
theorem hNewTake {w0 w : World} {b N : Nat} {s : St} (h : Hand w0 w b s N) (q : Pl) (c e : Int) :
    Calls Tryd.prog 10 #[.agg #[.int .i64 q.t, .int .i64 q.b, .int .i64 q.tb, .int .i64 q.hp, .int .i64 q.sz], .int .i64 c, .int .i64 e] w fun v w' => ∃ p, v = .returned (.pointer (some ⟨p, 0, none⟩)) ∧ Hand w0 w' b s N ∧ Blk w0 w' p 73 (TakeS.new q c e).cells ∧ Below w.heap.size w w' ∧ w.heap.size ≤ p := by
  refine (cNewTake q c e w).mono ?_
  rintro v w' ⟨w1, rfl, hb, rfl⟩
  have h1 := h.below hb
  exact ⟨_, rfl, h1.alloc _, Blk.new h1.bel.size _ (by decide), S.bal hb _, hb.size⟩
theorem hNewGive {w0 w : World} {b N : Nat} {s : St} (h : Hand w0 w b s N) (q : Pl) (i : Int) :
    Calls Tryd.prog 25 #[.agg #[.int .i64 q.t, .int .i64 q.b, .int .i64 q.tb, .int .i64 q.hp, .int .i64 q.sz], .int .i64 i] w fun v w' => ∃ p, v = .returned (.pointer (some ⟨p, 0, none⟩)) ∧ Hand w0 w' b s N ∧ Blk w0 w' p 87 (GiveS.new q i).cells ∧ Below w.heap.size w w' ∧ w.heap.size ≤ p := by
  refine (cNewGive q i w).mono ?_
  rintro v w' ⟨w1, rfl, hb, rfl⟩
  have h1 := h.below hb
  exact ⟨_, rfl, h1.alloc _, Blk.new h1.bel.size _ (by decide), S.bal hb _, hb.size⟩
theorem hNewPop {w0 w : World} {b N : Nat} {s : St} (h : Hand w0 w b s N) (hd : Int) :
    Calls Tryd.prog 17 #[.int .i64 hd] w fun v w' => ∃ p, v = .returned (.pointer (some ⟨p, 0, none⟩)) ∧ Hand w0 w' b s N ∧ Blk w0 w' p 81 (PopS.new hd).cells ∧ Below w.heap.size w w' ∧ w.heap.size ≤ p := by
  refine (cNewPop hd w).mono ?_
  rintro v w' ⟨rfl, rfl⟩
  exact ⟨_, rfl, h.alloc _, Blk.new h.bel.size _ (by decide), S.bal (Below.refl _ _) _, Nat.le_refl _⟩
/-- a step of a Take that is alone -/
theorem hIt {w0 w : World} {b p N : Nat} {s : St} {x : TakeS} {j : Nat} (h : Hand w0 w b (it x s j).2 N) (B : Blk w0 w p 73 (it x s j).1.cells) (ok : (it x s j).1.Ok) (hN : N < 1000000) :
    Calls Tryd.prog 11 #[.pointer (some ⟨p, 0, none⟩), .pointer (some ⟨b, 0, none⟩)] w fun e w' => e = .returned (.bool ((it x s (j + 1)).1.pc == 0)) ∧
      Hand w0 w' b (it x s (j + 1)).2 (N + 1) ∧ Blk w0 w' p 73 (it x s (j + 1)).1.cells ∧ Oth [p] w w' := oTake h B ok hN
theorem bk_cel {t n i : Nat} (ht : t ≤ 64) (hn : n ≤ 64) (hi : i < n) (c : Int) : P.Plain.bk (hpN t n) (szN t n) (cel t n i c 0) = i := by
  have := hpN_bounds ht hn
  unfold cel szN
  rw [Int.zero_mul, P.Plain.bk_in (by omega) (by omega)]
  omega
theorem bk_none {t n : Nat} : P.Plain.bk (hpN t n) (szN t n) 0 = -1 := by
  have : 10 ≤ hpN t n := by unfold hpN; omega
  exact P.Plain.bk_lo (by omega)
set_option maxHeartbeats 2000000 in
theorem cTaken {t n i : Nat} {r : List Nat} {v : Nat} {c : Int} {w0 w : World} {b N : Nat} {s : St} (h : Hand w0 w b s N) (hN : N ≤ 900000) (F : Fr t n s (i :: r) v) (hv : v < 1099511627776) (c0 : 0 ≤ c) (c2 : c ≤ 2) :
    Calls Tryd.prog 24 #[.agg #[.int .i64 (mkPl t n).t, .int .i64 (mkPl t n).b, .int .i64 (mkPl t n).tb, .int .i64 (mkPl t n).hp, .int .i64 (mkPl t n).sz], .pointer (some ⟨b, 0, none⟩), .int .i64 c] w fun e w' => e = .returned (.int .i64 i) ∧
      ∃ s', Hand w0 w' b s' (N + 14) ∧ Fr t n s' r (v + 1) ∧ Oth [] w w' := by
  have cb := cs_bounds c0 c2
  have hi : i < n := F.lt i (by simp)
  obtain ⟨m, hm⟩ : ∃ m : Nat, (m : Int) = 6 + P.Plain.cs c := ⟨(6 + P.Plain.cs c).toNat, by omega⟩
  obtain ⟨P1, P2⟩ := take_solo F hv c0 c2 (show (0 : Int) ≤ 1 by decide) (show (1 : Int) ≤ 1 by decide) hm
  have ok := it_ok (TakeS.ok_new (mkPl_ok F.ht F.n64) c0 c2 (show (0 : Int) ≤ 1 by decide) (show (1 : Int) ≤ 1 by decide)) h.rng
  obtain ⟨x0, hx0⟩ : ∃ x0, TakeS.new (mkPl t n) c 1 = x0 := ⟨_, rfl⟩
  rw [hx0] at P1 P2 ok
  have h1 := h.alloc (.cells (mkPl t n).cells 25)
  have hB : PBox (w.alloc (.cells (mkPl t n).cells 25)) w.heap.size (mkPl t n) := heap_alloc_new _ _
  have hO : Oth [] w (w.alloc (.cells (mkPl t n).cells 25)) := Oth.alloc _ _ _
  go_enter Tryd.func24, Tryd.ntmps24
  go_wp2_with (go_at_call 10; refine (hNewTake h1 _ c 1).mono ?_; rintro e w1 ⟨p, rfl, h2, B2, hb2, hp2⟩; rw [hx0] at B2; have hB2 := hB.below hb2; have hO2 : Oth [] w w1 := hO.trans (Oth.below hb2); simp at hp2; obtain ⟨o, ho⟩ : ∃ o, w.heap.size = o := ⟨_, rfl⟩; rw [ho] at hB2 ⊢; clear hb2 hO hB)
  go_loopw [8] (fun i wr => ∃ j : Nat, j < m ∧ i = .int .i64 j ∧ Hand w0 wr b (it x0 s j).2 (N + j) ∧ Blk w0 wr p 73 (it x0 s j).1.cells ∧ PBox wr o (mkPl t n) ∧ Oth [] w wr) (fun i _ => m - (intOf i).toNat)
  case atStart => exact ⟨0, by omega, rfl, h2, B2, hB2, hO2⟩
  case round =>
    obtain ⟨j, hj, rfl, q1, q2, q3, q4⟩ := hrel
    have hop : o ≠ p := by omega
    by_cases hl : j + 1 < m
    · have e1 : ((it x0 s (j + 1)).1.pc == 0) = false := by simpa using P1 (j + 1) hl
      go_wp2_with (go_at_call 11; refine (hIt q1 q2 (ok j).1 (by omega)).mono ?_; rintro e w3 ⟨rfl, q5, q6, q7⟩; rw [e1])
      go_roundw
      case rel => exact ⟨j + 1, hl, by go_num, q5, q6, q3.oth q7 (by simpa using hop), q4.old q7 (by omega)⟩
      case measure => simp [intOf]; omega
    · have ej : j + 1 = m := by omega
      rw [← ej] at P2
      have e1 : ((it x0 s (j + 1)).1.pc == 0) = true := by rw [P2.pc]; rfl
      have e2 := P2.cell
      have oke := (ok (j + 1)).1
      have e3 := bk_cel F.ht F.n64 hi c
      go_wp2_with (go_at_call 11; refine (hIt q1 q2 (ok j).1 (by omega)).mono ?_; rintro e w3 ⟨rfl, q5, q6, q7⟩; rw [e1]; have q8 := q3.oth q7 (by simpa using hop); have q9 := q4.old q7 (by omega))
      have S0 : ∀ w', Below w3.heap.size w3 w' → w'.cell? ⟨o, 0, none⟩ = some (.int .i64 (mkPl t n).t) ∧ w'.cell? ⟨o, 1, none⟩ = some (.int .i64 (mkPl t n).b) ∧ w'.cell? ⟨o, 2, none⟩ = some (.int .i64 (mkPl t n).tb) ∧ w'.cell? ⟨o, 3, none⟩ = some (.int .i64 (mkPl t n).hp) ∧ w'.cell? ⟨o, 4, none⟩ = some (.int .i64 (mkPl t n).sz) := fun w' hb => by
        have B := q8.below hb
        exact ⟨B.c0, B.c1, B.c2, B.c3, B.c4⟩
      have hbd : Below w3.heap.size w3 w3.drew := (Below.refl w3.heap.size w3).drew
      have RD := S0 _ hbd
      go_region_held3 (fun w' => w'.cell? ⟨o, 0, none⟩ = some (.int .i64 (mkPl t n).t) ∧ w'.cell? ⟨o, 1, none⟩ = some (.int .i64 (mkPl t n).b) ∧ w'.cell? ⟨o, 2, none⟩ = some (.int .i64 (mkPl t n).tb) ∧ w'.cell? ⟨o, 3, none⟩ = some (.int .i64 (mkPl t n).hp) ∧ w'.cell? ⟨o, 4, none⟩ = some (.int .i64 (mkPl t n).sz)) (first | assumption | exact RD | exact S0 _ (by assumption))
        (first
          | (go_at_call 13; refine (oCell (q6.below hbd) oke (q5.below hbd).widw).mono ?_; rintro e w4 ⟨rfl, hb4⟩; rw [e2]; have hb4' := bel_trans hbd hb4)
          | (go_at_call 12; refine (kRBlock t n F.ht F.n64 _ _).mono ?_; rintro e w5 ⟨rfl, hb5⟩; rw [e3]; have hb5' := bel_trans hb4' hb5))
      go_wp2
      go_ret
      exact ⟨rfl, _, (q5.below hb5').mono (by omega), P2.fr, q9.trans (Oth.below hb5')⟩
set_option maxHeartbeats 2000000 in
theorem cTakenNone {t n : Nat} {v : Nat} {c : Int} {w0 w : World} {b N : Nat} {s : St} (h : Hand w0 w b s N) (hN : N ≤ 900000) (F : Fr t n s [] v) (c0 : 0 ≤ c) (c2 : c ≤ 2) :
    Calls Tryd.prog 24 #[.agg #[.int .i64 (mkPl t n).t, .int .i64 (mkPl t n).b, .int .i64 (mkPl t n).tb, .int .i64 (mkPl t n).hp, .int .i64 (mkPl t n).sz], .pointer (some ⟨b, 0, none⟩), .int .i64 c] w fun e w' => e = .returned (.int .i64 (-1)) ∧
      ∃ s', Hand w0 w' b s' (N + 14) ∧ Fr t n s' [] v ∧ Oth [] w w' := by
  have ok0 := TakeS.ok_new (mkPl_ok F.ht F.n64) c0 c2 (show (0 : Int) ≤ 1 by decide) (show (1 : Int) ≤ 1 by decide)
  obtain ⟨N1, N2, N3⟩ := take_none (x := TakeS.new (mkPl t n) c 1) F rfl
  have oke := ok0.next h.rng
  obtain ⟨x0, hx0⟩ : ∃ x0, TakeS.new (mkPl t n) c 1 = x0 := ⟨_, rfl⟩
  rw [hx0] at N1 N2 N3 ok0 oke
  have e1 : ((x0.next s).pc == 0) = true := by rw [N1]; rfl
  have e3 := bk_none (t := t) (n := n)
  have h1 := h.alloc (.cells (mkPl t n).cells 25)
  have hB : PBox (w.alloc (.cells (mkPl t n).cells 25)) w.heap.size (mkPl t n) := heap_alloc_new _ _
  have hO : Oth [] w (w.alloc (.cells (mkPl t n).cells 25)) := Oth.alloc _ _ _
  go_enter Tryd.func24, Tryd.ntmps24
  go_wp2_with (go_at_call 10; refine (hNewTake h1 _ c 1).mono ?_; rintro e w1 ⟨p, rfl, h2, B2, hb2, hp2⟩; rw [hx0] at B2; have hB2 := hB.below hb2; have hO2 : Oth [] w w1 := hO.trans (Oth.below hb2); simp at hp2; obtain ⟨o, ho⟩ : ∃ o, w.heap.size = o := ⟨_, rfl⟩; rw [ho] at hB2 ⊢; clear hb2 hO hB)
  refine wp_loop_rounds 1 ?_
  rw [rounds_succ]
  have hop : o ≠ p := by omega
  go_wp2_with (go_at_call 11; refine (oTake h2 B2 ok0 (by omega)).mono ?_; rintro e w3 ⟨rfl, q5, q6, q7⟩; rw [e1]; have q8 := hB2.oth q7 (by simpa using hop); have q9 := hO2.old q7 (by omega))
  have S0 : ∀ w', Below w3.heap.size w3 w' → w'.cell? ⟨o, 0, none⟩ = some (.int .i64 (mkPl t n).t) ∧ w'.cell? ⟨o, 1, none⟩ = some (.int .i64 (mkPl t n).b) ∧ w'.cell? ⟨o, 2, none⟩ = some (.int .i64 (mkPl t n).tb) ∧ w'.cell? ⟨o, 3, none⟩ = some (.int .i64 (mkPl t n).hp) ∧ w'.cell? ⟨o, 4, none⟩ = some (.int .i64 (mkPl t n).sz) := fun w' hb => by
    have B := q8.below hb
    exact ⟨B.c0, B.c1, B.c2, B.c3, B.c4⟩
  have hbd : Below w3.heap.size w3 w3.drew := (Below.refl w3.heap.size w3).drew
  have RD := S0 _ hbd
  go_region_held3 (fun w' => w'.cell? ⟨o, 0, none⟩ = some (.int .i64 (mkPl t n).t) ∧ w'.cell? ⟨o, 1, none⟩ = some (.int .i64 (mkPl t n).b) ∧ w'.cell? ⟨o, 2, none⟩ = some (.int .i64 (mkPl t n).tb) ∧ w'.cell? ⟨o, 3, none⟩ = some (.int .i64 (mkPl t n).hp) ∧ w'.cell? ⟨o, 4, none⟩ = some (.int .i64 (mkPl t n).sz)) (first | assumption | exact RD | exact S0 _ (by assumption))
    (first
      | (go_at_call 13; refine (oCell (q6.below hbd) oke (q5.below hbd).widw).mono ?_; rintro e w4 ⟨rfl, hb4⟩; rw [N2]; have hb4' := bel_trans hbd hb4)
      | (go_at_call 12; refine (kRBlock t n F.ht F.n64 _ _).mono ?_; rintro e w5 ⟨rfl, hb5⟩; rw [e3]; have hb5' := bel_trans hb4' hb5))
  go_wp2
  go_ret
  exact ⟨rfl, _, (q5.below hb5').mono (by omega), N3, q9.trans (Oth.below hb5')⟩
end Go.Proofs.YtilknjihceemhaaDoor
