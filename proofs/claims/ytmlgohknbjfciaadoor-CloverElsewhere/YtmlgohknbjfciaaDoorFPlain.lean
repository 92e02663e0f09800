/-
  Plain arithmetic of a field's word: no Go in sight. What a word is made of, and what its parts are, as whole numbers.
-/
import Derived.WalkKit
import Derived.ProofKit
import Derived.Laws.BitsAllLaws
namespace Go.Proofs.YtmlgohknbjfciaaDoor.F.Plain
open Go.RowKit
/-- the word of a kind and a number -/
def word (k n : Int) : Int := k % 4 + 8 * (n % 2305843009213693952)
/-- the kind of a word -/
def kind (a : Int) : Int := a % 4
/-- the number of a word -/
def num (a : Int) : Int := a / 8
/-- whether a word is frozen -/
def froz (a : Int) : Bool := a / 4 % 2 == 1
/-- the word, frozen -/
def fz (a : Int) : Int := 8 * (a / 8) + 4 + a % 4
/-- the word, thawed -/
def th (a : Int) : Int := 8 * (a / 8) + a % 4

theorem wrap_u64 (n : Int) : IntKind.u64.wrap n = n % 18446744073709551616 := IntKind.wrap_u64 n
theorem wrap_nonneg (n : Int) : 0 ≤ IntKind.u64.wrap n := by rw [wrap_u64]; omega

theorem and3 {a : Int} (h : 0 ≤ a) (h' : a < 18446744073709551616) : bits .and .u64 a 3 = a % 4 := by
  rw [u64_and a 3 h h' (by decide) (by decide)]
  rw [show (3 : Int).toNat = 3 from rfl, nat_mask2]
  omega
theorem and4 {a : Int} (h : 0 ≤ a) (h' : a < 18446744073709551616) : bits .and .u64 a 4 = a / 4 % 2 * 4 := by
  rw [u64_and a 4 h h' (by decide) (by decide)]
  have := nat_bit 2 a.toNat
  rw [show (4 : Int).toNat = 2 ^ 2 from rfl, this]
  omega
theorem or_low {x y : Int} (hx : 0 ≤ x) (hx' : x < 8) (hy : 0 ≤ y) (hy' : y < 18446744073709551616) (h8 : y % 8 = 0) : bits .or .u64 x y = x + y := by
  rw [u64_or x y hx (by omega) hy hy', Nat.or_comm, nat_join 3 y.toNat x.toNat (by omega) (by omega)]
  omega
theorem or4 {a : Int} (h : 0 ≤ a) (h' : a < 18446744073709551616) : bits .or .u64 a 4 = fz a := by
  rw [u64_or a 4 h h' (by decide) (by decide)]
  rw [show (4 : Int).toNat = 4 from rfl]
  have e1 : a.toNat = (a.toNat / 8 * 8) ||| (a.toNat % 8) := by rw [nat_join 3 _ _ (by omega) (by omega)]; omega
  have e2 : ∀ x : Nat, x < 8 → x ||| 4 = 4 + x % 4 := by decide
  have e3 : a.toNat ||| 4 = a.toNat / 8 * 8 + (4 + a.toNat % 8 % 4) := by
    rw [e1, Nat.or_assoc, e2 _ (by omega), nat_join 3 _ _ (by omega) (by omega)]
    rw [← e1]
  rw [e3]
  unfold fz
  omega
theorem andNot4 {a : Int} (h : 0 ≤ a) (h' : a < 18446744073709551616) : bits .andNot .u64 a 4 = th a := by
  rw [u64_andNot a 4 h h' (by decide) (by decide)]
  rw [show (18446744073709551615 - (4 : Int).toNat) = 2 ^ 64 - (2 ^ 2 + 1) from rfl]
  have hb : a.toNat < 2 ^ 64 := by omega
  have e3 : a.toNat &&& (2 ^ 64 - (2 ^ 2 + 1)) = a.toNat / 8 * 8 + a.toNat % 4 := by
    rw [← nat_join 3 (a.toNat / 8 * 8) (a.toNat % 4) (by omega) (by omega)]
    apply Nat.eq_of_testBit_eq
    intro i
    have e8 : a.toNat / 8 * 8 = (a.toNat >>> 3) <<< 3 := by rw [Nat.shiftLeft_eq, Nat.shiftRight_eq_div_pow]
    have e4 : a.toNat % 4 = a.toNat % 2 ^ 2 := rfl
    rw [Nat.testBit_and, Nat.testBit_two_pow_sub_succ (by decide), Nat.testBit_two_pow, Nat.testBit_or, e8, e4, Nat.testBit_shiftLeft, Nat.testBit_shiftRight, Nat.testBit_mod_two_pow]
    by_cases h3 : 3 ≤ i
    · rw [show 3 + (i - 3) = i by omega]
      by_cases h64 : i < 64
      · simp [h3, h64, show ¬ 2 = i by omega, show ¬ i < 2 by omega]
      · have : a.toNat.testBit i = false := Nat.testBit_lt_two_pow (Nat.lt_of_lt_of_le hb (Nat.pow_le_pow_right (by decide) (by omega)))
        simp [this]
    · have : i = 0 ∨ i = 1 ∨ i = 2 := by omega
      rcases this with rfl | rfl | rfl <;> simp
  rw [e3]
  unfold th
  omega
end Go.Proofs.YtmlgohknbjfciaaDoor.F.Plain
