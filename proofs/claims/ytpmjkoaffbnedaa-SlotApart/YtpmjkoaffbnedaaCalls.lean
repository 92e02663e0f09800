/-
  What each function of layer 1, and each of the document's own answers, comes to when it is called: one contract a function.
-/
import Derived.Test.YtpmjkoaffbnedaaRows
import Derived.Test.YtpmjkoaffbnedaaPlain
import Derived.WalkKit
import Derived.ProofKit
import Derived.OpenShut
import Derived.Below
import Derived.WalkSpells
import Derived.WalkLawsBesides
import Derived.Outline
import Derived.BigQuiet
import Derived.Deep.QuietTactic
namespace Go.Proofs.Ytpmjkoaffbnedaa
open Go.ChangeShapes Go.WideShapes Go.ChangeAt Go.RowKit
open Plain

/-- behind a new block, and behind draws, nothing that was there has turned -/
theorem bal {a w : World} (h : Below a.heap.size a w) (o : Obj) : Below a.heap.size a (w.alloc o) := h.alloc h.size o
theorem bdr {a w : World} (h : Below a.heap.size a w) (n : Nat) : Below a.heap.size a (w.drewN n) := by
  induction n with
  | zero => exact h
  | succ n ih => exact ih.drew

theorem cWord (k n : Int) (w : World) :
    Calls Try.prog 10 #[.agg #[.int .i64 k, .int .i64 n]] w fun e w' => e = .returned (.int .u64 (word k n)) ∧ w' = w.alloc (.cells #[.int .i64 k, .int .i64 n] 23) := by
  have E : Hid (bits BinOp.or IntKind.u64 (bits BinOp.and IntKind.u64 (IntKind.u64.wrap k) 3) (IntKind.u64.wrap (IntKind.u64.wrap n * 8)) = word k n) := by
    show _ = _
    simp only [wrap_u64]
    rw [and3 (by omega) (by omega), or_low (by omega) (by omega) (by omega) (by omega) (by omega)]
    unfold word
    omega
  go_enter Try.func10, Try.ntmps10
  go_wp2
  go_ret
  refine ⟨?_, rfl⟩
  rw [← E.out]
  rfl

theorem cFrozen (a : Int) (h : 0 ≤ a) (h' : a ≤ 18446744073709551615) (w : World) :
    Calls Try.prog 14 #[.int .u64 a] w fun e w' => e = .returned (.bool (froz a)) ∧ w' = w := by
  have e : (bits BinOp.and IntKind.u64 a 4 != 0) = froz a := by
    rw [and4 h (by omega)]
    unfold froz
    by_cases c : a / 4 % 2 = 1
    · simp [c]
    · have : a / 4 % 2 = 0 := by omega
      simp [this]
  have E : Hid ((bits BinOp.and IntKind.u64 a 4 != 0) = froz a) := e
  clear e h h'
  go_enter Try.func14, Try.ntmps14
  go_wp2
  go_ret
  refine ⟨?_, rfl⟩
  rw [← E.out]
  rfl

theorem cFreeze (a : Int) (h : 0 ≤ a) (h' : a ≤ 18446744073709551615) (w : World) :
    Calls Try.prog 16 #[.int .u64 a] w fun e w' => e = .returned (.int .u64 (fz a)) ∧ w' = w := by
  have E : Hid (bits BinOp.or IntKind.u64 a 4 = fz a) := or4 h (by omega)
  clear h h'
  go_enter Try.func16, Try.ntmps16
  go_wp2
  go_ret
  refine ⟨?_, rfl⟩
  rw [← E.out]
  rfl

theorem cThaw (a : Int) (h : 0 ≤ a) (h' : a ≤ 18446744073709551615) (w : World) :
    Calls Try.prog 18 #[.int .u64 a] w fun e w' => e = .returned (.int .u64 (th a)) ∧ w' = w := by
  have E : Hid (bits BinOp.andNot IntKind.u64 a 4 = th a) := andNot4 h (by omega)
  clear h h'
  go_enter Try.func18, Try.ntmps18
  go_wp2
  go_ret
  refine ⟨?_, rfl⟩
  rw [← E.out]
  rfl

theorem cOf (a : Int) (h : 0 ≤ a) (h' : a ≤ 18446744073709551615) (w : World) :
    Calls Try.prog 12 #[.int .u64 a] w fun e w' => e = .returned (.agg #[.int .i64 (kind a), .int .i64 (num a)]) ∧ w' = w.alloc (.cells #[.int .i64 (kind a), .int .i64 (num a)] 23) := by
  have E : Hid (wrap64 (bits BinOp.and IntKind.u64 a 3) = kind a ∧ wrap64 (IntKind.u64.wrap (a.tdiv 8)) = num a) := by
    refine ⟨?_, ?_⟩
    · rw [and3 h (by omega)]; unfold wrap64 kind; omega
    · rw [wrap_u64, Int.tdiv_eq_ediv_of_nonneg h]; unfold wrap64 num; omega
  clear h h'
  go_enter Try.func12, Try.ntmps12
  go_wp2
  rw [← E.out.1, ← E.out.2]
  exact bodyPost_ret (v := .agg #[.int .i64 (wrap64 (bits BinOp.and IntKind.u64 a 3)), .int .i64 (wrap64 (IntKind.u64.wrap (a.tdiv 8)))]) (by simp [results, Try.results12, go_sem]) rfl ⟨rfl, rfl⟩

/-! ### the document's own answers -/
theorem rBits2 (a : Int) (h : 0 ≤ a) (w : World) :
    Calls Try.prog 20 #[.int .u64 a, .int .i64 2] w fun e w' => e = .returned (.int .u64 (a % 4)) ∧ w' = w := by
  have E : Hid (a.tmod 4 = a % 4) := Int.tmod_eq_emod_of_nonneg h
  clear h
  go_enter Try.func20, Try.ntmps20
  go_wp2
  go_ret
  refine ⟨?_, rfl⟩
  rw [← E.out]
  rfl

theorem rBits61 (a : Int) (h : 0 ≤ a) (w : World) :
    Calls Try.prog 20 #[.int .u64 a, .int .i64 61] w fun e w' => e = .returned (.int .u64 (a % 2305843009213693952)) ∧ w' = w := by
  have E : Hid (a.tmod 2305843009213693952 = a % 2305843009213693952) := Int.tmod_eq_emod_of_nonneg h
  clear h
  go_enter Try.func20, Try.ntmps20
  go_wp2
  go_ret
  refine ⟨?_, rfl⟩
  rw [← E.out]
  rfl

/-- both at once: where the count of bits comes out of the goal -/
theorem rBits (a n p : Int) (h : 0 ≤ a) (hp : n = 2 ∧ p = 4 ∨ n = 61 ∧ p = 2305843009213693952) (w : World) :
    Calls Try.prog 20 #[.int .u64 a, .int .i64 n] w fun e w' => e = .returned (.int .u64 (a % p)) ∧ w' = w := by
  rcases hp with ⟨rfl, rfl⟩ | ⟨rfl, rfl⟩
  · exact rBits2 a h w
  · exact rBits61 a h w

theorem rFrozen (a : Int) (h : 0 ≤ a) (h' : a ≤ 18446744073709551615) (w : World) :
    Calls Try.prog 15 #[.int .u64 a] w fun e w' => e = .returned (.bool (froz a)) ∧ w' = w := by
  go_enter Try.func15, Try.ntmps15
  go_wp2
  go_ret
  exact ⟨rfl, rfl⟩

theorem rOf (a : Int) (h : 0 ≤ a) (h' : a ≤ 18446744073709551615) (w : World) :
    Calls Try.prog 13 #[.int .u64 a] w fun e w' => e = .returned (.agg #[.int .i64 (kind a), .int .i64 (num a)]) ∧ w' = w.alloc (.cells #[.int .i64 (kind a), .int .i64 (num a)] 23) := by
  go_enter Try.func13, Try.ntmps13
  go_wp2_with (go_at_call 20; refine (rBits2 _ h _).mono ?_; rintro e w' ⟨rfl, rfl⟩)
  exact bodyPost_ret (v := .agg #[.int .i64 (kind a), .int .i64 (num a)]) (by simp [results, Try.results13, go_sem, kind, num]) rfl ⟨rfl, rfl⟩

theorem rFreeze (a : Int) (h : 0 ≤ a) (h' : a ≤ 18446744073709551615) (w : World) :
    Calls Try.prog 17 #[.int .u64 a] w fun e w' => e = .returned (.int .u64 (fz a)) ∧ w' = w := by
  by_cases c : a / 4 % 2 = 1
  · have cf : froz a = true := by simp [froz, c]
    have E : Hid (a = fz a) := by show _ = _; unfold fz; omega
    clear c
    go_enter Try.func17, Try.ntmps17
    go_wp2_with (go_at_call 15; refine (rFrozen _ h h' _).mono ?_; rintro e w' ⟨rfl, rfl⟩)
    go_ret
    refine ⟨?_, rfl⟩
    rw [← E.out]; rfl
  · have cf : froz a = false := by simp [froz, c]
    have E : Hid (a + 4 = fz a) := by show _ = _; unfold fz; omega
    have hs : a + 4 ≤ 18446744073709551615 := by omega
    clear c
    go_enter Try.func17, Try.ntmps17
    go_wp2_with (go_at_call 15; refine (rFrozen _ h h' _).mono ?_; rintro e w' ⟨rfl, rfl⟩)
    go_ret
    refine ⟨?_, rfl⟩
    rw [← E.out]; rfl

theorem rThaw (a : Int) (h : 0 ≤ a) (h' : a ≤ 18446744073709551615) (w : World) :
    Calls Try.prog 19 #[.int .u64 a] w fun e w' => e = .returned (.int .u64 (th a)) ∧ w' = w := by
  by_cases c : a / 4 % 2 = 1
  · have cf : froz a = true := by simp [froz, c]
    have E : Hid (a - 4 = th a) := by show _ = _; unfold th; omega
    have hs : 4 ≤ a := by omega
    clear c
    go_enter Try.func19, Try.ntmps19
    go_wp2_with (go_at_call 15; refine (rFrozen _ h h' _).mono ?_; rintro e w' ⟨rfl, rfl⟩)
    go_ret
    refine ⟨?_, rfl⟩
    rw [← E.out]; rfl
  · have cf : froz a = false := by simp [froz, c]
    have E : Hid (a = th a) := by show _ = _; unfold th; omega
    clear c
    go_enter Try.func19, Try.ntmps19
    go_wp2_with (go_at_call 15; refine (rFrozen _ h h' _).mono ?_; rintro e w' ⟨rfl, rfl⟩)
    go_ret
    refine ⟨?_, rfl⟩
    rw [← E.out]; rfl

theorem rWord (k n : Int) (w : World) :
    Calls Try.prog 11 #[.agg #[.int .i64 k, .int .i64 n]] w fun e w' => e = .returned (.int .u64 (word k n)) ∧ ∃ m, w' = (w.alloc (.cells #[.int .i64 k, .int .i64 n] 23)).drewN m := by
  have E : Hid (IntKind.u64.wrap k % 4 + 8 * (IntKind.u64.wrap n % 2305843009213693952) = word k n) := by
    show _ = _
    simp only [wrap_u64]
    unfold word
    omega
  go_enter Try.func11, Try.ntmps11
  go_wp2
  go_quiet ((go_at_call 20; exact Calls.quiet_of_same (rBits _ _ _ (wrap_nonneg _) (by first | exact Or.inl ⟨rfl, rfl⟩ | exact Or.inr ⟨rfl, rfl⟩) _)))
  go_wp2
  go_ret
  refine ⟨?_, _, rfl⟩
  rw [← E.out]
  rfl

/-! ### the document's examples -/
theorem cShown (w : World) :
    Calls Try.prog 9 #[] w fun e w' => e = .returned (.bool true) ∧ Below w.heap.size w w' := by
  have h1 : word 1 5 = 41 := by decide
  have h2 : word 0 (-1) = 18446744073709551608 := by decide
  have h3 : kind 41 = 1 := by decide
  have h4 : num 41 = 5 := by decide
  have h5 : fz 41 = 45 := by decide
  have h6 : froz 45 = true := by decide
  have h7 : th 45 = 41 := by decide
  go_enter Try.func9, Try.ntmps9
  go_wp2_with (first
    | (go_at_call 10; refine (cWord _ _ _).mono ?_; rintro e w' ⟨rfl, rfl⟩)
    | (go_at_call 12; refine (cOf _ (by decide) (by decide) _).mono ?_; rintro e w' ⟨rfl, rfl⟩)
    | (go_at_call 16; refine (cFreeze _ (by decide) (by decide) _).mono ?_; rintro e w' ⟨rfl, rfl⟩)
    | (go_at_call 14; refine (cFrozen _ (by decide) (by decide) _).mono ?_; rintro e w' ⟨rfl, rfl⟩)
    | (go_at_call 18; refine (cThaw _ (by decide) (by decide) _).mono ?_; rintro e w' ⟨rfl, rfl⟩))
  go_ret
  exact ⟨rfl, by repeat (first | exact Below.refl _ _ | refine bal ?_ _)⟩
end Go.Proofs.Ytpmjkoaffbnedaa
