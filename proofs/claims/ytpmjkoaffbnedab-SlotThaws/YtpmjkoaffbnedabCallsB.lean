/-
  What each function of layer 1 comes to when it is called: one contract a function.
-/
import Derived.Test.YtpmjkoaffbnedabRows
import Derived.Test.YtpmjkoaffbnedabPlain
import Derived.WalkKit
import Derived.ProofKit
import Derived.OpenShut
import Derived.Below
import Derived.WalkSpells
import Derived.WalkLawsBesides
import Derived.Outline
import Derived.BigQuiet
import Derived.Deep.QuietTactic
namespace Go.Proofs.Ytpmjkoaffbnedab
open Go.ChangeShapes Go.WideShapes Go.ChangeAt Go.RowKit
open Plain

/-- behind a new block, and behind draws, nothing that was there has turned -/
theorem bal {a w : World} (h : Below a.heap.size a w) (o : Obj) : Below a.heap.size a (w.alloc o) := h.alloc h.size o
theorem bdr {a w : World} (h : Below a.heap.size a w) (n : Nat) : Below a.heap.size a (w.drewN n) := by
  induction n with
  | zero => exact h
  | succ n ih => exact ih.drew

theorem cWord (k n : Int) (w : World) :
    Calls Try.prog 7 #[.agg #[.int .i64 k, .int .i64 n]] w fun e w' => e = .returned (.int .u64 (word k n)) ∧ w' = w.alloc (.cells #[.int .i64 k, .int .i64 n] 26) := by
  have E : Hid (bits BinOp.or IntKind.u64 (bits BinOp.and IntKind.u64 (IntKind.u64.wrap k) 3) (IntKind.u64.wrap (IntKind.u64.wrap n * 8)) = word k n) := by
    show _ = _
    simp only [wrap_u64]
    rw [and3 (by omega) (by omega), or_low (by omega) (by omega) (by omega) (by omega) (by omega)]
    unfold word
    omega
  go_enter Try.func7, Try.ntmps7
  go_wp2
  go_ret
  refine ⟨?_, rfl⟩
  rw [← E.out]
  rfl

theorem cFrozen (a : Int) (h : 0 ≤ a) (h' : a ≤ 18446744073709551615) (w : World) :
    Calls Try.prog 10 #[.int .u64 a] w fun e w' => e = .returned (.bool (froz a)) ∧ w' = w := by
  have e : (bits BinOp.and IntKind.u64 a 4 != 0) = froz a := by
    rw [and4 h (by omega)]
    unfold froz
    by_cases c : a / 4 % 2 = 1
    · simp [c]
    · have : a / 4 % 2 = 0 := by omega
      simp [this]
  have E : Hid ((bits BinOp.and IntKind.u64 a 4 != 0) = froz a) := e
  clear e h h'
  go_enter Try.func10, Try.ntmps10
  go_wp2
  go_ret
  refine ⟨?_, rfl⟩
  rw [← E.out]
  rfl

theorem cFreeze (a : Int) (h : 0 ≤ a) (h' : a ≤ 18446744073709551615) (w : World) :
    Calls Try.prog 11 #[.int .u64 a] w fun e w' => e = .returned (.int .u64 (fz a)) ∧ w' = w := by
  have E : Hid (bits BinOp.or IntKind.u64 a 4 = fz a) := or4 h (by omega)
  clear h h'
  go_enter Try.func11, Try.ntmps11
  go_wp2
  go_ret
  refine ⟨?_, rfl⟩
  rw [← E.out]
  rfl

theorem cThaw (a : Int) (h : 0 ≤ a) (h' : a ≤ 18446744073709551615) (w : World) :
    Calls Try.prog 9 #[.int .u64 a] w fun e w' => e = .returned (.int .u64 (th a)) ∧ w' = w := by
  have E : Hid (bits BinOp.andNot IntKind.u64 a 4 = th a) := andNot4 h (by omega)
  clear h h'
  go_enter Try.func9, Try.ntmps9
  go_wp2
  go_ret
  refine ⟨?_, rfl⟩
  rw [← E.out]
  rfl

theorem cOf (a : Int) (h : 0 ≤ a) (h' : a ≤ 18446744073709551615) (w : World) :
    Calls Try.prog 8 #[.int .u64 a] w fun e w' => e = .returned (.agg #[.int .i64 (kind a), .int .i64 (num a)]) ∧ w' = w.alloc (.cells #[.int .i64 (kind a), .int .i64 (num a)] 26) := by
  have E : Hid (wrap64 (bits BinOp.and IntKind.u64 a 3) = kind a ∧ wrap64 (IntKind.u64.wrap (a.tdiv 8)) = num a) := by
    refine ⟨?_, ?_⟩
    · rw [and3 h (by omega)]; unfold wrap64 kind; omega
    · rw [wrap_u64, Int.tdiv_eq_ediv_of_nonneg h]; unfold wrap64 num; omega
  clear h h'
  go_enter Try.func8, Try.ntmps8
  go_wp2
  rw [← E.out.1, ← E.out.2]
  exact bodyPost_ret (v := .agg #[.int .i64 (wrap64 (bits BinOp.and IntKind.u64 a 3)), .int .i64 (wrap64 (IntKind.u64.wrap (a.tdiv 8)))]) (by simp [results, Try.results8, go_sem]) rfl ⟨rfl, rfl⟩

/-! ### the document's examples -/
theorem cShown (w : World) :
    Calls Try.prog 6 #[] w fun e w' => e = .returned (.bool true) ∧ Below w.heap.size w w' := by
  have h1 : word 1 5 = 41 := by decide
  have h2 : word 0 (-1) = 18446744073709551608 := by decide
  have h3 : kind 41 = 1 := by decide
  have h4 : num 41 = 5 := by decide
  have h5 : fz 41 = 45 := by decide
  have h6 : froz 45 = true := by decide
  have h7 : th 45 = 41 := by decide
  go_enter Try.func6, Try.ntmps6
  go_wp2_with (first
    | (go_at_call 7; refine (cWord _ _ _).mono ?_; rintro e w' ⟨rfl, rfl⟩)
    | (go_at_call 8; refine (cOf _ (by decide) (by decide) _).mono ?_; rintro e w' ⟨rfl, rfl⟩)
    | (go_at_call 11; refine (cFreeze _ (by decide) (by decide) _).mono ?_; rintro e w' ⟨rfl, rfl⟩)
    | (go_at_call 10; refine (cFrozen _ (by decide) (by decide) _).mono ?_; rintro e w' ⟨rfl, rfl⟩)
    | (go_at_call 9; refine (cThaw _ (by decide) (by decide) _).mono ?_; rintro e w' ⟨rfl, rfl⟩))
  go_ret
  exact ⟨rfl, by repeat (first | exact Below.refl _ _ | refine bal ?_ _)⟩
end Go.Proofs.Ytpmjkoaffbnedab
