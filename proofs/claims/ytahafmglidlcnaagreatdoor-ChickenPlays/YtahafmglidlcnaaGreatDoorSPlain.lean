/-
  Plain arithmetic of the words of layer 3: no Go in sight. What a word is made of, and what its parts are, as whole numbers.
-/
import Derived.WalkKit
import Derived.ProofKit
import Derived.Laws.BitsAllLaws
namespace Go.Proofs.YtahafmglidlcnaaGreatDoor.S.Plain
open Go.RowKit
/-- the word of a Top -/
def tw (x y : Int) : Int := x % 4096 + 4096 * (y % 1099511627776)
/-- At of such a word -/
def t0 (a : Int) : Int := a % 4096
/-- Ver of such a word -/
def t1 (a : Int) : Int := a / 4096 % 1099511627776
/-- No of such a word -/
def p0 (a : Int) : Int := a % 1099511627776
/-- Mode of such a word -/
def p1 (a : Int) : Int := a / 1099511627776 % 16
/-- Mark of such a word -/
def p2 (a : Int) : Int := a / 17592186044416 % 2
/-- State of such a word -/
def b0 (a : Int) : Int := a % 4
/-- Class of such a word -/
def b1 (a : Int) : Int := a / 4 % 4
/-- Stamp of such a word -/
def b2 (a : Int) : Int := a / 16 % 2
/-- Next of such a word -/
def b3 (a : Int) : Int := a / 32 % 128
/-- the word that takes a word's place -/
def nx (a x : Int) : Int := tw x (t1 a + 1)

theorem wrap_u64 (n : Int) : IntKind.u64.wrap n = n % 18446744073709551616 := IntKind.wrap_u64 n
theorem wrap_nonneg (n : Int) : 0 ≤ IntKind.u64.wrap n := by rw [wrap_u64]; omega
theorem and_mask {a : Int} (h : 0 ≤ a) (h' : a < 18446744073709551616) (k : Nat) (hk : 2 ^ k - 1 < 18446744073709551616) : bits .and .u64 a ((2 ^ k - 1 : Nat) : Int) = a % ((2 ^ k : Nat) : Int) := by
  have hk' : ((2 ^ k - 1 : Nat) : Int) < 18446744073709551616 := by omega
  rw [u64_and a _ h h' (by omega) hk']
  rw [Int.toNat_natCast, Nat.and_two_pow_sub_one_eq_mod, Int.natCast_emod, Int.toNat_of_nonneg h]
theorem or_low (k : Nat) {x y : Int} (hx : 0 ≤ x) (hx' : x.toNat < 2 ^ k) (hy : 0 ≤ y) (hy' : y < 18446744073709551616) (h8 : y.toNat % 2 ^ k = 0) (hk : x < 18446744073709551616) : bits .or .u64 x y = x + y := by
  rw [u64_or x y hx hk hy hy', Nat.or_comm, nat_join k y.toNat x.toNat h8 hx']
  omega
theorem uand12 {a : Int} (h : 0 ≤ a) (h' : a < 18446744073709551616) : bits .and .u64 a 4095 = a % 4096 := and_mask h h' 12 (by decide)
theorem iand12 (n : Int) : bits .and .i64 n 4095 = n % 4096 := by
  have hm : (BitVec.ofInt 64 4095).toNat = 2 ^ 12 - 1 := by decide
  have key : (BitVec.ofInt 64 n &&& BitVec.ofInt 64 4095).toNat = (n % ((2 ^ 64 : Nat) : Int)).toNat % 2 ^ 12 := by
    rw [BitVec.toNat_and, BitVec.toNat_ofInt, hm, Nat.and_two_pow_sub_one_eq_mod]
  show IntKind.i64.wrap ((BitVec.ofInt 64 n &&& BitVec.ofInt 64 4095).toNat : Nat) = n % 4096
  rw [key, IntKind.wrap_i64]
  omega
theorem uand40 {a : Int} (h : 0 ≤ a) (h' : a < 18446744073709551616) : bits .and .u64 a 1099511627775 = a % 1099511627776 := and_mask h h' 40 (by decide)
theorem iand40 (n : Int) : bits .and .i64 n 1099511627775 = n % 1099511627776 := by
  have hm : (BitVec.ofInt 64 1099511627775).toNat = 2 ^ 40 - 1 := by decide
  have key : (BitVec.ofInt 64 n &&& BitVec.ofInt 64 1099511627775).toNat = (n % ((2 ^ 64 : Nat) : Int)).toNat % 2 ^ 40 := by
    rw [BitVec.toNat_and, BitVec.toNat_ofInt, hm, Nat.and_two_pow_sub_one_eq_mod]
  show IntKind.i64.wrap ((BitVec.ofInt 64 n &&& BitVec.ofInt 64 1099511627775).toNat : Nat) = n % 1099511627776
  rw [key, IntKind.wrap_i64]
  omega
theorem uand4 {a : Int} (h : 0 ≤ a) (h' : a < 18446744073709551616) : bits .and .u64 a 15 = a % 16 := and_mask h h' 4 (by decide)
theorem iand4 (n : Int) : bits .and .i64 n 15 = n % 16 := by
  have hm : (BitVec.ofInt 64 15).toNat = 2 ^ 4 - 1 := by decide
  have key : (BitVec.ofInt 64 n &&& BitVec.ofInt 64 15).toNat = (n % ((2 ^ 64 : Nat) : Int)).toNat % 2 ^ 4 := by
    rw [BitVec.toNat_and, BitVec.toNat_ofInt, hm, Nat.and_two_pow_sub_one_eq_mod]
  show IntKind.i64.wrap ((BitVec.ofInt 64 n &&& BitVec.ofInt 64 15).toNat : Nat) = n % 16
  rw [key, IntKind.wrap_i64]
  omega
theorem uand1 {a : Int} (h : 0 ≤ a) (h' : a < 18446744073709551616) : bits .and .u64 a 1 = a % 2 := and_mask h h' 1 (by decide)
theorem iand1 (n : Int) : bits .and .i64 n 1 = n % 2 := by
  have hm : (BitVec.ofInt 64 1).toNat = 2 ^ 1 - 1 := by decide
  have key : (BitVec.ofInt 64 n &&& BitVec.ofInt 64 1).toNat = (n % ((2 ^ 64 : Nat) : Int)).toNat % 2 ^ 1 := by
    rw [BitVec.toNat_and, BitVec.toNat_ofInt, hm, Nat.and_two_pow_sub_one_eq_mod]
  show IntKind.i64.wrap ((BitVec.ofInt 64 n &&& BitVec.ofInt 64 1).toNat : Nat) = n % 2
  rw [key, IntKind.wrap_i64]
  omega
theorem uand2 {a : Int} (h : 0 ≤ a) (h' : a < 18446744073709551616) : bits .and .u64 a 3 = a % 4 := and_mask h h' 2 (by decide)
theorem iand2 (n : Int) : bits .and .i64 n 3 = n % 4 := by
  have hm : (BitVec.ofInt 64 3).toNat = 2 ^ 2 - 1 := by decide
  have key : (BitVec.ofInt 64 n &&& BitVec.ofInt 64 3).toNat = (n % ((2 ^ 64 : Nat) : Int)).toNat % 2 ^ 2 := by
    rw [BitVec.toNat_and, BitVec.toNat_ofInt, hm, Nat.and_two_pow_sub_one_eq_mod]
  show IntKind.i64.wrap ((BitVec.ofInt 64 n &&& BitVec.ofInt 64 3).toNat : Nat) = n % 4
  rw [key, IntKind.wrap_i64]
  omega
theorem uand7 {a : Int} (h : 0 ≤ a) (h' : a < 18446744073709551616) : bits .and .u64 a 127 = a % 128 := and_mask h h' 7 (by decide)
theorem iand7 (n : Int) : bits .and .i64 n 127 = n % 128 := by
  have hm : (BitVec.ofInt 64 127).toNat = 2 ^ 7 - 1 := by decide
  have key : (BitVec.ofInt 64 n &&& BitVec.ofInt 64 127).toNat = (n % ((2 ^ 64 : Nat) : Int)).toNat % 2 ^ 7 := by
    rw [BitVec.toNat_and, BitVec.toNat_ofInt, hm, Nat.and_two_pow_sub_one_eq_mod]
  show IntKind.i64.wrap ((BitVec.ofInt 64 n &&& BitVec.ofInt 64 127).toNat : Nat) = n % 128
  rw [key, IntKind.wrap_i64]
  omega
theorem joinTop (x y : Int) : bits .or .u64 (x % 4096) (y % 1099511627776 * 4096) = tw x y := by
  rw [or_low 12 (x := x % 4096) (y := y % 1099511627776 * 4096) (by omega) (by omega) (by omega) (by omega) (by omega) (by omega)]
  unfold tw
  omega
theorem tw_pos (x y : Int) : 0 ≤ tw x y := by unfold tw; omega
theorem tw_le (x y : Int) : tw x y ≤ 18446744073709551615 := by unfold tw; omega
theorem nx_pos (a x : Int) : 0 ≤ nx a x := tw_pos _ _
theorem nx_le (a x : Int) : nx a x ≤ 18446744073709551615 := tw_le _ _
end Go.Proofs.YtahafmglidlcnaaGreatDoor.S.Plain
