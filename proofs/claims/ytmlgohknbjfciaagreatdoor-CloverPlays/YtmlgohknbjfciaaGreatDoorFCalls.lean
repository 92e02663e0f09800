/-
  What each function of layer 1, and each of the document's own answers, comes to when it is called: one contract a function.
-/
import Derived.WalkKit
import Derived.ProofKit
import Derived.Laws.BitsAllLaws
import Derived.Test.YtmlgohknbjfciaaGreatDoorRows
import Derived.OpenShut
import Derived.Below
import Derived.WalkSpells
import Derived.WalkLawsBesides
import Derived.Outline
import Derived.BigQuiet
import Derived.Deep.QuietTactic
namespace Go.Proofs.YtmlgohknbjfciaaGreatDoor.F.Plain
open Go.RowKit
/-- the word of a kind and a number -/
def word (k n : Int) : Int := k % 4 + 8 * (n % 2305843009213693952)
/-- the kind of a word -/
def kind (a : Int) : Int := a % 4
/-- the number of a word -/
def num (a : Int) : Int := a / 8
/-- the word, frozen -/
def fz (a : Int) : Int := 8 * (a / 8) + 4 + a % 4
theorem wrap_u64 (n : Int) : IntKind.u64.wrap n = n % 18446744073709551616 := IntKind.wrap_u64 n
theorem wrap_nonneg (n : Int) : 0 ≤ IntKind.u64.wrap n := by rw [wrap_u64]; omega

theorem and3 {a : Int} (h : 0 ≤ a) (h' : a < 18446744073709551616) : bits .and .u64 a 3 = a % 4 := by
  rw [u64_and a 3 h h' (by decide) (by decide)]
  rw [show (3 : Int).toNat = 3 from rfl, nat_mask2]
  omega
theorem or_low {x y : Int} (hx : 0 ≤ x) (hx' : x < 8) (hy : 0 ≤ y) (hy' : y < 18446744073709551616) (h8 : y % 8 = 0) : bits .or .u64 x y = x + y := by
  rw [u64_or x y hx (by omega) hy hy', Nat.or_comm, nat_join 3 y.toNat x.toNat (by omega) (by omega)]
  omega
end Go.Proofs.YtmlgohknbjfciaaGreatDoor.F.Plain

namespace Go.Proofs.YtmlgohknbjfciaaGreatDoor.F
open Go.ChangeShapes Go.WideShapes Go.ChangeAt Go.RowKit
open Plain

/-- behind a new block, and behind draws, nothing that was there has turned -/
theorem bal {a w : World} (h : Below a.heap.size a w) (o : Obj) : Below a.heap.size a (w.alloc o) := h.alloc h.size o
theorem bdr {a w : World} (h : Below a.heap.size a w) (n : Nat) : Below a.heap.size a (w.drewN n) := by
  induction n with
  | zero => exact h
  | succ n ih => exact ih.drew

theorem cWord (k n : Int) (w : World) :
    Calls Tryz.prog 91 #[.agg #[.int .i64 k, .int .i64 n]] w fun e w' => e = .returned (.int .u64 (word k n)) ∧ w' = w.alloc (.cells #[.int .i64 k, .int .i64 n] 38) := by
  have E : Hid (bits BinOp.or IntKind.u64 (bits BinOp.and IntKind.u64 (IntKind.u64.wrap k) 3) (IntKind.u64.wrap (IntKind.u64.wrap n * 8)) = word k n) := by
    show _ = _
    simp only [wrap_u64]
    rw [and3 (by omega) (by omega), or_low (by omega) (by omega) (by omega) (by omega) (by omega)]
    unfold word
    omega
  go_enter Tryz.func91, Tryz.ntmps91
  go_wp2
  go_ret
  refine ⟨?_, rfl⟩
  rw [← E.out]
  rfl

theorem cOf (a : Int) (h : 0 ≤ a) (h' : a ≤ 18446744073709551615) (w : World) :
    Calls Tryz.prog 90 #[.int .u64 a] w fun e w' => e = .returned (.agg #[.int .i64 (kind a), .int .i64 (num a)]) ∧ w' = w.alloc (.cells #[.int .i64 (kind a), .int .i64 (num a)] 38) := by
  have E : Hid (wrap64 (bits BinOp.and IntKind.u64 a 3) = kind a ∧ wrap64 (IntKind.u64.wrap (a.tdiv 8)) = num a) := by
    refine ⟨?_, ?_⟩
    · rw [and3 h (by omega)]; unfold wrap64 kind; omega
    · rw [wrap_u64, Int.tdiv_eq_ediv_of_nonneg h]; unfold wrap64 num; omega
  clear h h'
  go_enter Tryz.func90, Tryz.ntmps90
  go_wp2
  rw [← E.out.1, ← E.out.2]
  exact bodyPost_ret (v := .agg #[.int .i64 (wrap64 (bits BinOp.and IntKind.u64 a 3)), .int .i64 (wrap64 (IntKind.u64.wrap (a.tdiv 8)))]) (by simp [results, Tryz.results90, go_sem]) rfl ⟨rfl, rfl⟩

/-! ### the document's own answers -/
theorem rBits2 (a : Int) (h : 0 ≤ a) (w : World) :
    Calls Tryz.prog 37 #[.int .u64 a, .int .i64 2] w fun e w' => e = .returned (.int .u64 (a % 4)) ∧ w' = w := by
  have E : Hid (a.tmod 4 = a % 4) := Int.tmod_eq_emod_of_nonneg h
  clear h
  go_enter Tryz.func37, Tryz.ntmps37
  go_wp2
  go_ret
  refine ⟨?_, rfl⟩
  rw [← E.out]
  rfl

theorem rBits61 (a : Int) (h : 0 ≤ a) (w : World) :
    Calls Tryz.prog 37 #[.int .u64 a, .int .i64 61] w fun e w' => e = .returned (.int .u64 (a % 2305843009213693952)) ∧ w' = w := by
  have E : Hid (a.tmod 2305843009213693952 = a % 2305843009213693952) := Int.tmod_eq_emod_of_nonneg h
  clear h
  go_enter Tryz.func37, Tryz.ntmps37
  go_wp2
  go_ret
  refine ⟨?_, rfl⟩
  rw [← E.out]
  rfl

/-- both at once: where the count of bits comes out of the goal -/
theorem rBits (a n p : Int) (h : 0 ≤ a) (hp : n = 2 ∧ p = 4 ∨ n = 61 ∧ p = 2305843009213693952) (w : World) :
    Calls Tryz.prog 37 #[.int .u64 a, .int .i64 n] w fun e w' => e = .returned (.int .u64 (a % p)) ∧ w' = w := by
  rcases hp with ⟨rfl, rfl⟩ | ⟨rfl, rfl⟩
  · exact rBits2 a h w
  · exact rBits61 a h w

theorem rOf (a : Int) (h : 0 ≤ a) (h' : a ≤ 18446744073709551615) (w : World) :
    Calls Tryz.prog 27 #[.int .u64 a] w fun e w' => e = .returned (.agg #[.int .i64 (kind a), .int .i64 (num a)]) ∧ w' = w.alloc (.cells #[.int .i64 (kind a), .int .i64 (num a)] 38) := by
  go_enter Tryz.func27, Tryz.ntmps27
  go_wp2_with (go_at_call 37; refine (rBits2 _ h _).mono ?_; rintro e w' ⟨rfl, rfl⟩)
  exact bodyPost_ret (v := .agg #[.int .i64 (kind a), .int .i64 (num a)]) (by simp [results, Tryz.results27, go_sem, kind, num]) rfl ⟨rfl, rfl⟩

theorem rWord (k n : Int) (w : World) :
    Calls Tryz.prog 34 #[.agg #[.int .i64 k, .int .i64 n]] w fun e w' => e = .returned (.int .u64 (word k n)) ∧ ∃ m, w' = (w.alloc (.cells #[.int .i64 k, .int .i64 n] 38)).drewN m := by
  have E : Hid (IntKind.u64.wrap k % 4 + 8 * (IntKind.u64.wrap n % 2305843009213693952) = word k n) := by
    show _ = _
    simp only [wrap_u64]
    unfold word
    omega
  go_enter Tryz.func34, Tryz.ntmps34
  go_wp2
  go_quiet ((go_at_call 37; exact Calls.quiet_of_same (rBits _ _ _ (wrap_nonneg _) (by first | exact Or.inl ⟨rfl, rfl⟩ | exact Or.inr ⟨rfl, rfl⟩) _)))
  go_wp2
  go_ret
  refine ⟨?_, _, rfl⟩
  rw [← E.out]
  rfl

/-! ### the document's examples -/
end Go.Proofs.YtmlgohknbjfciaaGreatDoor.F
