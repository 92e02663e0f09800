/-
  Two headers in two blocks; the walks of the laws on other tags, and on what is read of any word.
-/
import Derived.Test.YtikedddeafjnnabDoorWalks0
import Derived.Test.YtikedddeafjnnabDoorGood
import Derived.Test.YtikedddeafjnnabDoorXors
namespace Go.Proofs.YtikedddeafjnnabDoor
open Go.ChangeShapes Go.WideShapes Go.ChangeAt Go.RowKit
open Plain

/-- two headers that lie in two blocks, while more blocks come -/
theorem held2_on {w : World} {b d : Nat} {s c n m g t l s' c' n' m' g' t' l' : Int} {u v : World} (h : Below w.heap.size w u ∧ b < u.heap.size ∧ d < u.heap.size ∧ u.cell? ⟨b, 0, none⟩ = some (.int .i64 s) ∧ u.cell? ⟨b, 1, none⟩ = some (.int .i64 c) ∧ u.cell? ⟨b, 2, none⟩ = some (.int .i64 n) ∧ u.cell? ⟨b, 3, none⟩ = some (.int .i64 m) ∧ u.cell? ⟨b, 4, none⟩ = some (.int .i64 g) ∧ u.cell? ⟨b, 5, none⟩ = some (.int .i64 t) ∧ u.cell? ⟨b, 6, none⟩ = some (.int .i64 l) ∧ u.cell? ⟨d, 0, none⟩ = some (.int .i64 s') ∧ u.cell? ⟨d, 1, none⟩ = some (.int .i64 c') ∧ u.cell? ⟨d, 2, none⟩ = some (.int .i64 n') ∧ u.cell? ⟨d, 3, none⟩ = some (.int .i64 m') ∧ u.cell? ⟨d, 4, none⟩ = some (.int .i64 g') ∧ u.cell? ⟨d, 5, none⟩ = some (.int .i64 t') ∧ u.cell? ⟨d, 6, none⟩ = some (.int .i64 l')) (hb : Below u.heap.size u v) :
    Below w.heap.size w v ∧ b < v.heap.size ∧ d < v.heap.size ∧ v.cell? ⟨b, 0, none⟩ = some (.int .i64 s) ∧ v.cell? ⟨b, 1, none⟩ = some (.int .i64 c) ∧ v.cell? ⟨b, 2, none⟩ = some (.int .i64 n) ∧ v.cell? ⟨b, 3, none⟩ = some (.int .i64 m) ∧ v.cell? ⟨b, 4, none⟩ = some (.int .i64 g) ∧ v.cell? ⟨b, 5, none⟩ = some (.int .i64 t) ∧ v.cell? ⟨b, 6, none⟩ = some (.int .i64 l) ∧ v.cell? ⟨d, 0, none⟩ = some (.int .i64 s') ∧ v.cell? ⟨d, 1, none⟩ = some (.int .i64 c') ∧ v.cell? ⟨d, 2, none⟩ = some (.int .i64 n') ∧ v.cell? ⟨d, 3, none⟩ = some (.int .i64 m') ∧ v.cell? ⟨d, 4, none⟩ = some (.int .i64 g') ∧ v.cell? ⟨d, 5, none⟩ = some (.int .i64 t') ∧ v.cell? ⟨d, 6, none⟩ = some (.int .i64 l') := by
  obtain ⟨h0, h1, h2, a0, a1, a2, a3, a4, a5, a6, a7, a8, a9, a10, a11, a12, a13⟩ := h
  exact ⟨h0.trans (hb.mono h0.size), Nat.lt_of_lt_of_le h1 hb.size, Nat.lt_of_lt_of_le h2 hb.size, (hb.cell h1).trans a0, (hb.cell h1).trans a1, (hb.cell h1).trans a2, (hb.cell h1).trans a3, (hb.cell h1).trans a4, (hb.cell h1).trans a5, (hb.cell h1).trans a6, (hb.cell h2).trans a7, (hb.cell h2).trans a8, (hb.cell h2).trans a9, (hb.cell h2).trans a10, (hb.cell h2).trans a11, (hb.cell h2).trans a12, (hb.cell h2).trans a13⟩

/-- the examples, behind two headers' own blocks -/
theorem cShown2 (s c n m g t l s' c' n' m' g' t' l' : Int) (w : World) (W : Wid w) :
    Calls Tryd.prog 5 #[] ((w.alloc (.cells #[.int .i64 s, .int .i64 c, .int .i64 n, .int .i64 m, .int .i64 g, .int .i64 t, .int .i64 l] 23)).alloc (.cells #[.int .i64 s', .int .i64 c', .int .i64 n', .int .i64 m', .int .i64 g', .int .i64 t', .int .i64 l'] 23)) fun e v => e = .returned (.bool true) ∧ Below w.heap.size w v ∧ w.heap.size < v.heap.size ∧ w.heap.size + 1 < v.heap.size ∧ v.cell? ⟨w.heap.size, 0, none⟩ = some (.int .i64 s) ∧ v.cell? ⟨w.heap.size, 1, none⟩ = some (.int .i64 c) ∧ v.cell? ⟨w.heap.size, 2, none⟩ = some (.int .i64 n) ∧ v.cell? ⟨w.heap.size, 3, none⟩ = some (.int .i64 m) ∧ v.cell? ⟨w.heap.size, 4, none⟩ = some (.int .i64 g) ∧ v.cell? ⟨w.heap.size, 5, none⟩ = some (.int .i64 t) ∧ v.cell? ⟨w.heap.size, 6, none⟩ = some (.int .i64 l) ∧ v.cell? ⟨w.heap.size + 1, 0, none⟩ = some (.int .i64 s') ∧ v.cell? ⟨w.heap.size + 1, 1, none⟩ = some (.int .i64 c') ∧ v.cell? ⟨w.heap.size + 1, 2, none⟩ = some (.int .i64 n') ∧ v.cell? ⟨w.heap.size + 1, 3, none⟩ = some (.int .i64 m') ∧ v.cell? ⟨w.heap.size + 1, 4, none⟩ = some (.int .i64 g') ∧ v.cell? ⟨w.heap.size + 1, 5, none⟩ = some (.int .i64 t') ∧ v.cell? ⟨w.heap.size + 1, 6, none⟩ = some (.int .i64 l') :=
  (cShown _ (W.on (bal (bal (Below.refl _ _) _) _))).mono fun _ _ ⟨he, hb⟩ => ⟨he, held2_on ⟨bal (bal (Below.refl _ _) _) _, by simp; omega, by simp, by simp [go_sem], by simp [go_sem], by simp [go_sem], by simp [go_sem], by simp [go_sem], by simp [go_sem], by simp [go_sem], by simp [go_sem], by simp [go_sem], by simp [go_sem], by simp [go_sem], by simp [go_sem], by simp [go_sem], by simp [go_sem]⟩ hb⟩

set_option maxRecDepth 100000 in
theorem wTags (s c n m g t l s' c' n' m' g' t' l' : Int) (w : World) (W : Wid w) :
    Calls Tryd.prog 3 #[.agg #[.int .i64 s, .int .i64 c, .int .i64 n, .int .i64 m, .int .i64 g, .int .i64 t, .int .i64 l], .agg #[.int .i64 s', .int .i64 c', .int .i64 n', .int .i64 m', .int .i64 g', .int .i64 t', .int .i64 l']] w fun e w' => e = .returned (.bool true) ∧ Below w.heap.size w w' := by
  have f0 : 0 ≤ bits BinOp.xor IntKind.u64 (hw s c n m g t' l') (hw s c n m g t l) := xor_nonneg (hw_nonneg _ _ _ _ _ _ _) (hw_lt _ _ _ _ _ _ _) (hw_nonneg _ _ _ _ _ _ _) (hw_lt _ _ _ _ _ _ _)
  have f1 : bits BinOp.xor IntKind.u64 (hw s c n m g t' l') (hw s c n m g t l) < 16777216 := xor_lt (hw_nonneg _ _ _ _ _ _ _) (hw_lt _ _ _ _ _ _ _) (hw_nonneg _ _ _ _ _ _ _) (hw_lt _ _ _ _ _ _ _)
  have f2 : bits BinOp.xor IntKind.u64 (hw s c n m g t' l') (hw s c n m g t l) % 512 = 0 := xor_mod 9 (hw_nonneg _ _ _ _ _ _ _) (hw_lt _ _ _ _ _ _ _) (hw_nonneg _ _ _ _ _ _ _) (hw_lt _ _ _ _ _ _ _) (by unfold hw; omega)
  have f2' : (bits BinOp.xor IntKind.u64 (hw s c n m g t' l') (hw s c n m g t l)).tmod 512 = 0 := (Int.tmod_eq_emod_of_nonneg f0).trans f2
  have f3 : bits BinOp.andNot IntKind.u64 (bits BinOp.xor IntKind.u64 (hw s c n m' g t l) (hw s c n m g t l)) 128 = 0 := xor_bit 7 (hw_nonneg _ _ _ _ _ _ _) (hw_lt _ _ _ _ _ _ _) (hw_nonneg _ _ _ _ _ _ _) (hw_lt _ _ _ _ _ _ _) (by unfold hw; omega) (by unfold hw; omega) (by decide +kernel) (by decide +kernel)
  have f4 : bits BinOp.andNot IntKind.u64 (bits BinOp.xor IntKind.u64 (hw s c n m g' t l) (hw s c n m g t l)) 256 = 0 := xor_bit 8 (hw_nonneg _ _ _ _ _ _ _) (hw_lt _ _ _ _ _ _ _) (hw_nonneg _ _ _ _ _ _ _) (hw_lt _ _ _ _ _ _ _) (by unfold hw; omega) (by unfold hw; omega) (by decide +kernel) (by decide +kernel)
  go_enter Tryd.func3, Tryd.ntmps3
  go_wp2_with (go_at_call 5; refine (cShown2 _ _ _ _ _ _ _ _ _ _ _ _ _ _ w W).mono ?_; rintro e w1 ⟨rfl, hH0, hH1, hH2, hH3, hH4, hH5, hH6, hH7, hH8, hH9, hH10, hH11, hH12, hH13, hH14, hH15, hH16⟩; have hs := hH0.size)
  refine (gWord s c n m g t l _ (W.on (by go_grown))).mono ?_
  rintro e w2 ⟨rfl, hb⟩
  obtain ⟨k0, k1, k2, k3, k4, k5, k6, k7, k8, k9, k10, k11, k12, k13, k14, k15, k16⟩ := held2_on ⟨hH0, hH1, hH2, hH3, hH4, hH5, hH6, hH7, hH8, hH9, hH10, hH11, hH12, hH13, hH14, hH15, hH16⟩ hb; clear hb hH0 hH1 hH2 hH3 hH4 hH5 hH6 hH7 hH8 hH9 hH10 hH11 hH12 hH13 hH14 hH15 hH16 hs; have ks := k0.size; have ks1 : w.heap.size ≤ w2.heap.size + 1 := Nat.le_succ_of_le ks
  go_wp2_with (go_at_call 6; refine (cWord _ _ _ _ _ _ _ _ (W.on (by go_grown))).mono ?_; rintro e w3 ⟨rfl, x3, rfl⟩)
  go_ret
  exact ⟨rfl, by go_grown⟩

theorem wRanges (a : Int) (h : 0 ≤ a) (h' : a ≤ 18446744073709551615) (w : World) (W : Wid w) :
    Calls Tryd.prog 4 #[.int .u64 a] w fun e w' => e = .returned (.bool true) ∧ Below w.heap.size w w' := by
  have q : gd (pS a) (pC a) (pN a) (pM a) (pG a) (pT a) (pL a) = true := by unfold gd pS pC pN pM pG pT pL; exact decide_eq_true (by omega)
  go_enter Tryd.func4, Tryd.ntmps4
  go_wp2_with (first
    | (go_at_call 5; refine (cShown _ W).mono ?_; rintro e w1 ⟨rfl, hb⟩; have hs := hb.size)
    | (go_at_call 8; refine (cGood _ _ _ _ _ _ _ _).mono ?_; rintro e w2 ⟨rfl, rfl⟩)
    | (go_at_call 7; refine (cOf a h h' _ (W.on (by go_grown))).mono ?_; rintro e w2 ⟨rfl, rfl⟩))
  go_ret
  exact ⟨rfl, by go_grown⟩
end Go.Proofs.YtikedddeafjnnabDoor
