/-
  Plain arithmetic of a plan: no Go in sight. Where the blocks begin, how great cells are, which block an address has.
-/
import Derived.WalkKit
import Derived.ProofKit
import Derived.Laws.BitsAllLaws
namespace Go.Proofs.YtoablodmodnamaaDoor.P.Plain
open Go.RowKit
/-- the least multiple of 32 that is not below a -/
def up (a : Int) : Int := (a + 31) / 32 * 32
/-- where the blocks begin -/
def hp (t b : Int) : Int := up (10 + t + b)
/-- how many words a cell of a class has -/
def wd (n : Int) : Int := if n = 0 then 4 else if n = 1 then 8 else if n = 2 then 16 else 0
/-- how many cells of a class a block has -/
def cs (n : Int) : Int := if n = 0 then 8 else if n = 1 then 4 else if n = 2 then 2 else 0
/-- the class of an object of so many fields -/
def cl (n : Int) : Int := if n < 0 then -1 else if n ≤ 3 then 0 else if n ≤ 7 then 1 else -1
/-- the block that has the address a -/
def bk (h s a : Int) : Int := if h ≤ a ∧ a < s then (a - h) / 32 else -1

theorem hp_bounds {t b : Int} (t0 : 1 ≤ t) (t1 : t ≤ 64) (b0 : 1 ≤ b) (b1 : b ≤ 64) : 10 + t + b ≤ hp t b ∧ hp t b < 10 + t + b + 32 ∧ hp t b % 32 = 0 ∧ 0 ≤ hp t b ∧ hp t b ≤ 160 := by
  unfold hp up
  omega
theorem bk_in {h s a : Int} (h1 : h ≤ a) (h2 : a < s) : bk h s a = (a - h) / 32 := if_pos ⟨h1, h2⟩
theorem bk_lo {h s a : Int} (h1 : a < h) : bk h s a = -1 := if_neg (by omega)
theorem bk_hi {h s a : Int} (h1 : s ≤ a) : bk h s a = -1 := if_neg (by omega)
theorem ways3 (n : Int) : n < 0 ∨ 3 ≤ n ∨ n = 0 ∨ n = 1 ∨ n = 2 := by omega
theorem wd_lo {n : Int} (h : n < 0) : wd n = 0 := by unfold wd; rw [if_neg (by omega), if_neg (by omega), if_neg (by omega)]
theorem wd_hi {n : Int} (h : 3 ≤ n) : wd n = 0 := by unfold wd; rw [if_neg (by omega), if_neg (by omega), if_neg (by omega)]
theorem cs_lo {n : Int} (h : n < 0) : cs n = 0 := by unfold cs; rw [if_neg (by omega), if_neg (by omega), if_neg (by omega)]
theorem cs_hi {n : Int} (h : 3 ≤ n) : cs n = 0 := by unfold cs; rw [if_neg (by omega), if_neg (by omega), if_neg (by omega)]
theorem cl_lo {n : Int} (h : n < 0) : cl n = -1 := by unfold cl; rw [if_pos h]
theorem cl_0 {n : Int} (h : 0 ≤ n) (h' : n ≤ 3) : cl n = 0 := by unfold cl; rw [if_neg (by omega), if_pos h']
theorem cl_1 {n : Int} (h : 4 ≤ n) (h' : n ≤ 7) : cl n = 1 := by unfold cl; rw [if_neg (by omega), if_neg (by omega), if_pos h']
theorem cl_hi {n : Int} (h : 8 ≤ n) : cl n = -1 := by unfold cl; rw [if_neg (by omega), if_neg (by omega), if_neg (by omega)]
theorem cl_ways (n : Int) : n < 0 ∨ (0 ≤ n ∧ n ≤ 3) ∨ (4 ≤ n ∧ n ≤ 7) ∨ 8 ≤ n := by omega
theorem wd_bounds (n : Int) : 0 ≤ wd n ∧ wd n ≤ 16 := by
  rcases ways3 n with h | h | rfl | rfl | rfl
  · rw [wd_lo h]; decide
  · rw [wd_hi h]; decide
  · decide
  · decide
  · decide

theorem and63 (n : Int) : bits .and .i64 n 63 = n % 64 := by
  have h63 : (BitVec.ofInt 64 63).toNat = 2 ^ 6 - 1 := by decide
  have key : (BitVec.ofInt 64 n &&& BitVec.ofInt 64 63).toNat = (n % ((2 ^ 64 : Nat) : Int)).toNat % 2 ^ 6 := by
    rw [BitVec.toNat_and, BitVec.toNat_ofInt, h63, Nat.and_two_pow_sub_one_eq_mod]
  show IntKind.i64.wrap ((BitVec.ofInt 64 n &&& BitVec.ofInt 64 63).toNat : Nat) = n % 64
  rw [key, IntKind.wrap_i64]
  omega
end Go.Proofs.YtoablodmodnamaaDoor.P.Plain
