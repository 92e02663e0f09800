/-
  What each function of layer 1, and each of the document's own answers, comes to when it is called: one contract a function.
-/
import Derived.Test.YtmlgohknbjfciaaDoorRows
import Derived.Test.YtmlgohknbjfciaaDoorFPlain
import Derived.WalkKit
import Derived.ProofKit
import Derived.OpenShut
import Derived.Below
import Derived.WalkSpells
import Derived.WalkLawsBesides
import Derived.Outline
import Derived.BigQuiet
import Derived.Deep.QuietTactic
namespace Go.Proofs.YtmlgohknbjfciaaDoor.F
open Go.ChangeShapes Go.WideShapes Go.ChangeAt Go.RowKit
open Plain

/-- behind a new block, and behind draws, nothing that was there has turned -/
theorem bal {a w : World} (h : Below a.heap.size a w) (o : Obj) : Below a.heap.size a (w.alloc o) := h.alloc h.size o
theorem bdr {a w : World} (h : Below a.heap.size a w) (n : Nat) : Below a.heap.size a (w.drewN n) := by
  induction n with
  | zero => exact h
  | succ n ih => exact ih.drew

theorem cWord (k n : Int) (w : World) :
    Calls Tryd.prog 58 #[.agg #[.int .i64 k, .int .i64 n]] w fun e w' => e = .returned (.int .u64 (word k n)) ∧ w' = w.alloc (.cells #[.int .i64 k, .int .i64 n] 24) := by
  have E : Hid (bits BinOp.or IntKind.u64 (bits BinOp.and IntKind.u64 (IntKind.u64.wrap k) 3) (IntKind.u64.wrap (IntKind.u64.wrap n * 8)) = word k n) := by
    show _ = _
    simp only [wrap_u64]
    rw [and3 (by omega) (by omega), or_low (by omega) (by omega) (by omega) (by omega) (by omega)]
    unfold word
    omega
  go_enter Tryd.func58, Tryd.ntmps58
  go_wp2
  go_ret
  refine ⟨?_, rfl⟩
  rw [← E.out]
  rfl

theorem cOf (a : Int) (h : 0 ≤ a) (h' : a ≤ 18446744073709551615) (w : World) :
    Calls Tryd.prog 57 #[.int .u64 a] w fun e w' => e = .returned (.agg #[.int .i64 (kind a), .int .i64 (num a)]) ∧ w' = w.alloc (.cells #[.int .i64 (kind a), .int .i64 (num a)] 24) := by
  have E : Hid (wrap64 (bits BinOp.and IntKind.u64 a 3) = kind a ∧ wrap64 (IntKind.u64.wrap (a.tdiv 8)) = num a) := by
    refine ⟨?_, ?_⟩
    · rw [and3 h (by omega)]; unfold wrap64 kind; omega
    · rw [wrap_u64, Int.tdiv_eq_ediv_of_nonneg h]; unfold wrap64 num; omega
  clear h h'
  go_enter Tryd.func57, Tryd.ntmps57
  go_wp2
  rw [← E.out.1, ← E.out.2]
  exact bodyPost_ret (v := .agg #[.int .i64 (wrap64 (bits BinOp.and IntKind.u64 a 3)), .int .i64 (wrap64 (IntKind.u64.wrap (a.tdiv 8)))]) (by simp [results, Tryd.results57, go_sem]) rfl ⟨rfl, rfl⟩

/-! ### the document's own answers -/
theorem rBits2 (a : Int) (h : 0 ≤ a) (w : World) :
    Calls Tryd.prog 31 #[.int .u64 a, .int .i64 2] w fun e w' => e = .returned (.int .u64 (a % 4)) ∧ w' = w := by
  have E : Hid (a.tmod 4 = a % 4) := Int.tmod_eq_emod_of_nonneg h
  clear h
  go_enter Tryd.func31, Tryd.ntmps31
  go_wp2
  go_ret
  refine ⟨?_, rfl⟩
  rw [← E.out]
  rfl

theorem rBits61 (a : Int) (h : 0 ≤ a) (w : World) :
    Calls Tryd.prog 31 #[.int .u64 a, .int .i64 61] w fun e w' => e = .returned (.int .u64 (a % 2305843009213693952)) ∧ w' = w := by
  have E : Hid (a.tmod 2305843009213693952 = a % 2305843009213693952) := Int.tmod_eq_emod_of_nonneg h
  clear h
  go_enter Tryd.func31, Tryd.ntmps31
  go_wp2
  go_ret
  refine ⟨?_, rfl⟩
  rw [← E.out]
  rfl

/-- both at once: where the count of bits comes out of the goal -/
theorem rBits (a n p : Int) (h : 0 ≤ a) (hp : n = 2 ∧ p = 4 ∨ n = 61 ∧ p = 2305843009213693952) (w : World) :
    Calls Tryd.prog 31 #[.int .u64 a, .int .i64 n] w fun e w' => e = .returned (.int .u64 (a % p)) ∧ w' = w := by
  rcases hp with ⟨rfl, rfl⟩ | ⟨rfl, rfl⟩
  · exact rBits2 a h w
  · exact rBits61 a h w

theorem rOf (a : Int) (h : 0 ≤ a) (h' : a ≤ 18446744073709551615) (w : World) :
    Calls Tryd.prog 14 #[.int .u64 a] w fun e w' => e = .returned (.agg #[.int .i64 (kind a), .int .i64 (num a)]) ∧ w' = w.alloc (.cells #[.int .i64 (kind a), .int .i64 (num a)] 24) := by
  go_enter Tryd.func14, Tryd.ntmps14
  go_wp2_with (go_at_call 31; refine (rBits2 _ h _).mono ?_; rintro e w' ⟨rfl, rfl⟩)
  exact bodyPost_ret (v := .agg #[.int .i64 (kind a), .int .i64 (num a)]) (by simp [results, Tryd.results14, go_sem, kind, num]) rfl ⟨rfl, rfl⟩

theorem rWord (k n : Int) (w : World) :
    Calls Tryd.prog 19 #[.agg #[.int .i64 k, .int .i64 n]] w fun e w' => e = .returned (.int .u64 (word k n)) ∧ ∃ m, w' = (w.alloc (.cells #[.int .i64 k, .int .i64 n] 24)).drewN m := by
  have E : Hid (IntKind.u64.wrap k % 4 + 8 * (IntKind.u64.wrap n % 2305843009213693952) = word k n) := by
    show _ = _
    simp only [wrap_u64]
    unfold word
    omega
  go_enter Tryd.func19, Tryd.ntmps19
  go_wp2
  go_quiet ((go_at_call 31; exact Calls.quiet_of_same (rBits _ _ _ (wrap_nonneg _) (by first | exact Or.inl ⟨rfl, rfl⟩ | exact Or.inr ⟨rfl, rfl⟩) _)))
  go_wp2
  go_ret
  refine ⟨?_, _, rfl⟩
  rw [← E.out]
  rfl

/-! ### the document's examples -/
end Go.Proofs.YtmlgohknbjfciaaDoor.F
