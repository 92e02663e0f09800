/-
  The walk of the law on two headers, whole: its ten ways put together.
-/
import Derived.Test.YtikedddeafjnnaaDoorWalks4
namespace Go.Proofs.YtikedddeafjnnaaDoor
open Go.ChangeShapes Go.WideShapes Go.ChangeAt Go.RowKit
open Plain

theorem hw_apart {s c n m g t l s' c' n' m' g' t' l' : Int} (q : gd s c n m g t l = true) (q' : gd s' c' n' m' g' t' l' = true) (d : ¬ (s = s' ∧ c = c' ∧ n = n' ∧ m = m' ∧ g = g' ∧ t = t' ∧ l = l')) : (hw s c n m g t l == hw s' c' n' m' g' t' l') = false := by
  have h := gd_of q
  have h' := gd_of q'
  simp only [beq_eq_false_iff_ne, ne_eq]
  unfold hw
  intro e
  apply d
  clear d q q'
  refine ⟨?_, ?_, ?_, ?_, ?_, ?_, ?_⟩ <;> omega

theorem wApart (s c n m g t l s' c' n' m' g' t' l' : Int) (w : World) (W : Wid w) :
    Calls Tryd.prog 6 #[.agg #[.int .i64 s, .int .i64 c, .int .i64 n, .int .i64 m, .int .i64 g, .int .i64 t, .int .i64 l], .agg #[.int .i64 s', .int .i64 c', .int .i64 n', .int .i64 m', .int .i64 g', .int .i64 t', .int .i64 l']] w fun e w' => e = .returned (.bool true) ∧ Below w.heap.size w w' := by
  cases q : gd s c n m g t l
  · exact wApartOutA s c n m g t l s' c' n' m' g' t' l' q w W
  cases q' : gd s' c' n' m' g' t' l'
  · exact wApartOutB s c n m g t l s' c' n' m' g' t' l' q q' w W
  by_cases d0 : s = s'
  case neg => exact wApartD0 s c n m g t l s' c' n' m' g' t' l' q q' (hw_apart q q' (by simp [d0])) (by simpa using d0) w W
  subst d0
  by_cases d1 : c = c'
  case neg => exact wApartD1 s c n m g t l c' n' m' g' t' l' q q' (hw_apart q q' (by simp [d1])) (by simpa using d1) w W
  subst d1
  by_cases d2 : n = n'
  case neg => exact wApartD2 s c n m g t l n' m' g' t' l' q q' (hw_apart q q' (by simp [d2])) (by simpa using d2) w W
  subst d2
  by_cases d3 : m = m'
  case neg => exact wApartD3 s c n m g t l m' g' t' l' q q' (hw_apart q q' (by simp [d3])) (by simpa using d3) w W
  subst d3
  by_cases d4 : g = g'
  case neg => exact wApartD4 s c n m g t l g' t' l' q q' (hw_apart q q' (by simp [d4])) (by simpa using d4) w W
  subst d4
  by_cases d5 : t = t'
  case neg => exact wApartD5 s c n m g t l t' l' q q' (hw_apart q q' (by simp [d5])) (by simpa using d5) w W
  subst d5
  by_cases d6 : l = l'
  case neg => exact wApartD6 s c n m g t l l' q q' (hw_apart q q' (by simp [d6])) (by simpa using d6) w W
  subst d6
  exact wApartSame s c n m g t l q w W
end Go.Proofs.YtikedddeafjnnaaDoor
