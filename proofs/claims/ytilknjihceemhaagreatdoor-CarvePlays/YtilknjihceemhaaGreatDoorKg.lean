/-
  The laws' own helpers: the document's examples; a block that is taken.
-/
import Derived.Test.YtilknjihceemhaaGreatDoorKh
import Derived.Test.YtilknjihceemhaaGreatDoorKu
namespace Go.Proofs.YtilknjihceemhaaGreatDoor
set_option linter.unusedVariables false
set_option maxRecDepth 100000
open Go.ChangeShapes Go.WideShapes Go.RowKit
open S.Plain (t0 t1 tw nx bw b0 b1 b2 b3)
open H.Plain (hw pL)

theorem Oth.fresh {p : Nat} {w w' : World} (h : Oth [p] w w') (hp : w.heap.size ≤ p) : Oth [] w w' := ⟨h.size, fun k cs T fz _ hT hk => h.blk k cs T fz (by have := lt_of_block hk; simp; omega) hT hk⟩
theorem Oth.old {p : Nat} {w w1 w' : World} (h : Oth [] w w1) (h' : Oth [p] w1 w') (hp : w.heap.size ≤ p) : Oth [] w w' := ((h.mono (by simp) : Oth [p] w w1).trans h').fresh hp
/-- a Take is made -/
theorem hNewTake {w0 w : World} {b N : Nat} {s : St} (h : Hand w0 w b s N) (q : Pl) (c e : Int) :
    Calls Tryz.prog 11 #[.agg #[.int .i64 q.t, .int .i64 q.b, .int .i64 q.tb, .int .i64 q.hp, .int .i64 q.sz], .int .i64 c, .int .i64 e] w fun v w' => ∃ p, v = .returned (.pointer (some ⟨p, 0, none⟩)) ∧ Hand w0 w' b s N ∧ Blk w0 w' p 79 (TakeS.new q c e).cells ∧ Below w.heap.size w w' ∧ w.heap.size ≤ p := by
  refine (cNewTake q c e w).mono ?_
  rintro v w' ⟨w1, rfl, hb, rfl⟩
  have h1 := h.below hb
  exact ⟨_, rfl, h1.alloc _, Blk.new h1.bel.size _ (by decide), S.bal hb _, hb.size⟩
theorem hNewGive {w0 w : World} {b N : Nat} {s : St} (h : Hand w0 w b s N) (q : Pl) (i : Int) :
    Calls Tryz.prog 22 #[.agg #[.int .i64 q.t, .int .i64 q.b, .int .i64 q.tb, .int .i64 q.hp, .int .i64 q.sz], .int .i64 i] w fun v w' => ∃ p, v = .returned (.pointer (some ⟨p, 0, none⟩)) ∧ Hand w0 w' b s N ∧ Blk w0 w' p 101 (GiveS.new q i).cells ∧ Below w.heap.size w w' ∧ w.heap.size ≤ p := by
  refine (cNewGive q i w).mono ?_
  rintro v w' ⟨w1, rfl, hb, rfl⟩
  have h1 := h.below hb
  exact ⟨_, rfl, h1.alloc _, Blk.new h1.bel.size _ (by decide), S.bal hb _, hb.size⟩
theorem hNewPop {w0 w : World} {b N : Nat} {s : St} (h : Hand w0 w b s N) (hd : Int) :
    Calls Tryz.prog 13 #[.int .i64 hd] w fun v w' => ∃ p, v = .returned (.pointer (some ⟨p, 0, none⟩)) ∧ Hand w0 w' b s N ∧ Blk w0 w' p 85 (PopS.new hd).cells ∧ Below w.heap.size w w' ∧ w.heap.size ≤ p := by
  refine (cNewPop hd w).mono ?_
  rintro v w' ⟨rfl, rfl⟩
  exact ⟨_, rfl, h.alloc _, Blk.new h.bel.size _ (by decide), S.bal (Below.refl _ _) _, Nat.le_refl _⟩
/-- a step of a Take that is alone -/
theorem hIt {w0 w : World} {b p N : Nat} {s : St} {x : TakeS} {j : Nat} (h : Hand w0 w b (it x s j).2 N) (B : Blk w0 w p 79 (it x s j).1.cells) (ok : (it x s j).1.Ok) (hN : N < 1000000) :
    Calls Tryz.prog 12 #[.pointer (some ⟨p, 0, none⟩), .pointer (some ⟨b, 0, none⟩)] w fun e w' => e = .returned (.bool ((it x s (j + 1)).1.pc == 0)) ∧
      Hand w0 w' b (it x s (j + 1)).2 (N + 1) ∧ Blk w0 w' p 79 (it x s (j + 1)).1.cells ∧ Oth [p] w w' := oTake h B ok hN
theorem bk_cel {t n i : Nat} (ht : t ≤ 64) (hn : n ≤ 64) (hi : i < n) (c : Int) : P.Plain.bk (hpN t n) (szN t n) (cel t n i c 0) = i := by
  have := hpN_bounds ht hn
  unfold cel szN
  rw [Int.zero_mul, P.Plain.bk_in (by omega) (by omega)]
  omega
theorem bk_none {t n : Nat} : P.Plain.bk (hpN t n) (szN t n) 0 = -1 := by
  have : 10 ≤ hpN t n := by unfold hpN; omega
  exact P.Plain.bk_lo (by omega)
end Go.Proofs.YtilknjihceemhaaGreatDoor
