/-
  Plain arithmetic of words that differ in some bits: no Go in sight.
-/
import Derived.Test.YtikedddeafjnnabDoorPlain
namespace Go.Proofs.YtikedddeafjnnabDoor.Plain
open Go.RowKit
theorem hw_nonneg (s c n m g t l : Int) : 0 ≤ hw s c n m g t l := by unfold hw; omega
theorem hw_lt (s c n m g t l : Int) : hw s c n m g t l < 16777216 := by unfold hw; omega
theorem xor_is {a b : Int} (h : 0 ≤ a) (h' : a < 16777216) (k : 0 ≤ b) (k' : b < 16777216) : bits .xor .u64 a b = ((a.toNat ^^^ b.toNat : Nat) : Int) := u64_xor a b h (by omega) k (by omega)
theorem xor_nonneg {a b : Int} (h : 0 ≤ a) (h' : a < 16777216) (k : 0 ≤ b) (k' : b < 16777216) : 0 ≤ bits .xor .u64 a b := by rw [xor_is h h' k k']; omega
theorem xor_lt {a b : Int} (h : 0 ≤ a) (h' : a < 16777216) (k : 0 ≤ b) (k' : b < 16777216) : bits .xor .u64 a b < 16777216 := by
  rw [xor_is h h' k k']
  have := Nat.xor_lt_two_pow (x := a.toNat) (y := b.toNat) (n := 24) (by omega) (by omega)
  omega
theorem nat_xor_mod (i a b : Nat) (e : a % 2 ^ i = b % 2 ^ i) : (a ^^^ b) % 2 ^ i = 0 := by rw [Nat.xor_mod_two_pow, e, Nat.xor_self]
theorem nat_xor_div (i a b : Nat) (e : a / 2 ^ i = b / 2 ^ i) : (a ^^^ b) / 2 ^ i = 0 := by rw [Nat.xor_div_two_pow, e, Nat.xor_self]
theorem xor_mod (i : Nat) {a b : Int} (h : 0 ≤ a) (h' : a < 16777216) (k : 0 ≤ b) (k' : b < 16777216) (e : a.toNat % 2 ^ i = b.toNat % 2 ^ i) : bits .xor .u64 a b % ((2 ^ i : Nat) : Int) = 0 := by
  rw [xor_is h h' k k', ← Int.natCast_emod, nat_xor_mod i _ _ e]
  rfl
/-- where two words differ in one bit at the most, nothing is left without it -/
theorem xor_bit (i : Nat) {a b : Int} (h : 0 ≤ a) (h' : a < 16777216) (k : 0 ≤ b) (k' : b < 16777216) (e : a.toNat % 2 ^ i = b.toNat % 2 ^ i) (e' : a.toNat / 2 ^ (i + 1) = b.toNat / 2 ^ (i + 1))
    (z0 : bits .andNot .u64 0 ((2 ^ i : Nat) : Int) = 0) (z1 : bits .andNot .u64 ((2 ^ i : Nat) : Int) ((2 ^ i : Nat) : Int) = 0) : bits .andNot .u64 (bits .xor .u64 a b) ((2 ^ i : Nat) : Int) = 0 := by
  rw [xor_is h h' k k']
  have m := nat_xor_mod i _ _ e
  have d := nat_xor_div (i + 1) _ _ e'
  revert m d
  generalize a.toNat ^^^ b.toNat = x
  intro m d
  have p : 0 < 2 ^ i := Nat.two_pow_pos i
  have lt : x < 2 ^ i * 2 := by
    rw [← Nat.pow_succ]
    exact (Nat.div_eq_zero_iff_lt (Nat.two_pow_pos _)).1 d
  obtain ⟨q, hq⟩ := Nat.dvd_of_mod_eq_zero m
  subst hq
  have : q < 2 := Nat.lt_of_mul_lt_mul_left lt
  rcases (show q = 0 ∨ q = 1 by omega) with rfl | rfl
  · rw [Nat.mul_zero]; exact z0
  · rw [Nat.mul_one]; exact z1
end Go.Proofs.YtikedddeafjnnabDoor.Plain
