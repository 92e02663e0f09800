/-
  Plain arithmetic of a header's word: no Go in sight. What a word is made of, and what its parts are, as whole numbers.
-/
import Derived.WalkKit
import Derived.ProofKit
import Derived.Laws.BitsAllLaws
namespace Go.Proofs.YtoablodmodnamaaDoor.H.Plain
open Go.RowKit
/-- the word of a header -/
def hw (s c n m g t l : Int) : Int := s % 4 + 4 * (c % 4) + 16 * (n % 8) + 128 * (m % 2) + 256 * (g % 2) + 512 * (t % 8) + 4096 * (l % 4096)
/-- the parts of a word -/
def pS (a : Int) : Int := a % 4
def pC (a : Int) : Int := a / 4 % 4
def pN (a : Int) : Int := a / 16 % 8
def pM (a : Int) : Int := a / 128 % 2
def pG (a : Int) : Int := a / 256 % 2
def pT (a : Int) : Int := a / 512 % 8
def pL (a : Int) : Int := a / 4096 % 4096
/-- where an object is -/
def mv (a x : Int) : Int := if pS a = 1 ∧ pT a = 2 then pL a else x

theorem wrap_u64 (n : Int) : IntKind.u64.wrap n = n % 18446744073709551616 := IntKind.wrap_u64 n
theorem wrap_nonneg (n : Int) : 0 ≤ IntKind.u64.wrap n := by rw [wrap_u64]; omega
theorem wrap_lt (n : Int) : IntKind.u64.wrap n < 18446744073709551616 := by rw [wrap_u64]; omega

theorem and_mask {a : Int} (h : 0 ≤ a) (h' : a < 18446744073709551616) (k : Nat) (hk : 2 ^ k - 1 < 18446744073709551616) : bits .and .u64 a ((2 ^ k - 1 : Nat) : Int) = a % ((2 ^ k : Nat) : Int) := by
  have hk' : ((2 ^ k - 1 : Nat) : Int) < 18446744073709551616 := by omega
  rw [u64_and a _ h h' (by omega) hk']
  rw [Int.toNat_natCast, Nat.and_two_pow_sub_one_eq_mod, Int.natCast_emod, Int.toNat_of_nonneg h]
theorem and1 {a : Int} (h : 0 ≤ a) (h' : a < 18446744073709551616) : bits .and .u64 a 1 = a % 2 := and_mask h h' 1 (by decide)
theorem and3 {a : Int} (h : 0 ≤ a) (h' : a < 18446744073709551616) : bits .and .u64 a 3 = a % 4 := and_mask h h' 2 (by decide)
theorem and7 {a : Int} (h : 0 ≤ a) (h' : a < 18446744073709551616) : bits .and .u64 a 7 = a % 8 := and_mask h h' 3 (by decide)
theorem and4095 {a : Int} (h : 0 ≤ a) (h' : a < 18446744073709551616) : bits .and .u64 a 4095 = a % 4096 := and_mask h h' 12 (by decide)

theorem or_low (k : Nat) {x y : Int} (hx : 0 ≤ x) (hx' : x.toNat < 2 ^ k) (hy : 0 ≤ y) (hy' : y < 18446744073709551616) (h8 : y.toNat % 2 ^ k = 0) (hk : x < 18446744073709551616) : bits .or .u64 x y = x + y := by
  rw [u64_or x y hx hk hy hy', Nat.or_comm, nat_join k y.toNat x.toNat h8 hx']
  omega

/-- what the parts come to, one put beside the other -/
theorem joined (s c n m g t l : Int) :
    bits .or .u64 (bits .or .u64 (bits .or .u64 (bits .or .u64 (bits .or .u64 (bits .or .u64 (bits .or .u64 0 (IntKind.u64.wrap s % 4)) (IntKind.u64.wrap c % 4 * 4)) (IntKind.u64.wrap n % 8 * 16)) (IntKind.u64.wrap m % 2 * 128)) (IntKind.u64.wrap g % 2 * 256)) (IntKind.u64.wrap t % 8 * 512)) (IntKind.u64.wrap l % 4096 * 4096) = hw s c n m g t l := by
  simp only [wrap_u64]
  have s0 : 0 ≤ s % 18446744073709551616 % 4 ∧ s % 18446744073709551616 % 4 < 4 ∧ s % 18446744073709551616 % 4 = s % 4 := by omega
  have c0 : 0 ≤ c % 18446744073709551616 % 4 ∧ c % 18446744073709551616 % 4 < 4 ∧ c % 18446744073709551616 % 4 = c % 4 := by omega
  have n0 : 0 ≤ n % 18446744073709551616 % 8 ∧ n % 18446744073709551616 % 8 < 8 ∧ n % 18446744073709551616 % 8 = n % 8 := by omega
  have m0 : 0 ≤ m % 18446744073709551616 % 2 ∧ m % 18446744073709551616 % 2 < 2 ∧ m % 18446744073709551616 % 2 = m % 2 := by omega
  have g0 : 0 ≤ g % 18446744073709551616 % 2 ∧ g % 18446744073709551616 % 2 < 2 ∧ g % 18446744073709551616 % 2 = g % 2 := by omega
  have t0 : 0 ≤ t % 18446744073709551616 % 8 ∧ t % 18446744073709551616 % 8 < 8 ∧ t % 18446744073709551616 % 8 = t % 8 := by omega
  have l0 : 0 ≤ l % 18446744073709551616 % 4096 ∧ l % 18446744073709551616 % 4096 < 4096 ∧ l % 18446744073709551616 % 4096 = l % 4096 := by omega
  revert s0 c0 n0 m0 g0 t0 l0
  generalize s % 18446744073709551616 % 4 = a
  generalize c % 18446744073709551616 % 4 = b
  generalize n % 18446744073709551616 % 8 = d
  generalize m % 18446744073709551616 % 2 = e
  generalize g % 18446744073709551616 % 2 = f
  generalize t % 18446744073709551616 % 8 = h
  generalize l % 18446744073709551616 % 4096 = i
  intro s0 c0 n0 m0 g0 t0 l0
  rw [or_low 0 (x := 0) (y := a) (by omega) (by omega) (by omega) (by omega) (by omega) (by omega)]
  rw [or_low 2 (x := 0 + a) (y := b * 4) (by omega) (by omega) (by omega) (by omega) (by omega) (by omega)]
  rw [or_low 4 (x := (0 + a + b * 4)) (y := d * 16) (by omega) (by omega) (by omega) (by omega) (by omega) (by omega)]
  rw [or_low 7 (x := ((0 + a + b * 4) + d * 16)) (y := e * 128) (by omega) (by omega) (by omega) (by omega) (by omega) (by omega)]
  rw [or_low 8 (x := (((0 + a + b * 4) + d * 16) + e * 128)) (y := f * 256) (by omega) (by omega) (by omega) (by omega) (by omega) (by omega)]
  rw [or_low 9 (x := ((((0 + a + b * 4) + d * 16) + e * 128) + f * 256)) (y := h * 512) (by omega) (by omega) (by omega) (by omega) (by omega) (by omega)]
  rw [or_low 12 (x := (((((0 + a + b * 4) + d * 16) + e * 128) + f * 256) + h * 512)) (y := i * 4096) (by omega) (by omega) (by omega) (by omega) (by omega) (by omega)]
  unfold hw
  omega
end Go.Proofs.YtoablodmodnamaaDoor.H.Plain
