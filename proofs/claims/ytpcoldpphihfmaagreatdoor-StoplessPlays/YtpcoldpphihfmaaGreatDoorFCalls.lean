import Derived.WalkKit
import Derived.ProofKit
import Derived.Laws.BitsAllLaws
import Derived.Test.YtpcoldpphihfmaaGreatDoorRows
import Derived.OpenShut
import Derived.Below
import Derived.WalkSpells
import Derived.WalkLawsBesides
import Derived.Outline
import Derived.BigQuiet
import Derived.Deep.QuietTactic
namespace Go.Proofs.YtpcoldpphihfmaaGreatDoor.F.Plain
open Go.RowKit
def word (k n : Int) : Int := k % 4 + 8 * (n % 2305843009213693952)
def kind (a : Int) : Int := a % 4
def num (a : Int) : Int := a / 8
def froz (a : Int) : Bool := a / 4 % 2 == 1
def fz (a : Int) : Int := 8 * (a / 8) + 4 + a % 4
def th (a : Int) : Int := 8 * (a / 8) + a % 4
theorem wrap_u64 (n : Int) : IntKind.u64.wrap n = n % 18446744073709551616 := IntKind.wrap_u64 n
theorem wrap_nonneg (n : Int) : 0 ≤ IntKind.u64.wrap n := by rw [wrap_u64]; omega
theorem and3 {a : Int} (h : 0 ≤ a) (h' : a < 18446744073709551616) : bits .and .u64 a 3 = a % 4 := by
 rw [u64_and a 3 h h' (by decide) (by decide)]
 rw [show (3 : Int).toNat = 3 from rfl, nat_mask2]
 omega
theorem and4 {a : Int} (h : 0 ≤ a) (h' : a < 18446744073709551616) : bits .and .u64 a 4 = a / 4 % 2 * 4 := by
 rw [u64_and a 4 h h' (by decide) (by decide)]
 have := nat_bit 2 a.toNat
 rw [show (4 : Int).toNat = 2 ^ 2 from rfl, this]
 omega
theorem or_low {x y : Int} (hx : 0 ≤ x) (hx' : x < 8) (hy : 0 ≤ y) (hy' : y < 18446744073709551616) (h8 : y % 8 = 0) : bits .or .u64 x y = x + y := by
 rw [u64_or x y hx (by omega) hy hy', Nat.or_comm, nat_join 3 y.toNat x.toNat (by omega) (by omega)]
 omega
theorem or4 {a : Int} (h : 0 ≤ a) (h' : a < 18446744073709551616) : bits .or .u64 a 4 = fz a := by
 rw [u64_or a 4 h h' (by decide) (by decide)]
 rw [show (4 : Int).toNat = 4 from rfl]
 have e1 : a.toNat = (a.toNat / 8 * 8) ||| (a.toNat % 8) := by rw [nat_join 3 _ _ (by omega) (by omega)]; omega
 have e2 : ∀ x : Nat, x < 8 → x ||| 4 = 4 + x % 4 := by decide
 have e3 : a.toNat ||| 4 = a.toNat / 8 * 8 + (4 + a.toNat % 8 % 4) := by
  rw [e1, Nat.or_assoc, e2 _ (by omega), nat_join 3 _ _ (by omega) (by omega)]
  rw [← e1]
 rw [e3]
 unfold fz
 omega
theorem andNot4 {a : Int} (h : 0 ≤ a) (h' : a < 18446744073709551616) : bits .andNot .u64 a 4 = th a := by
 rw [u64_andNot a 4 h h' (by decide) (by decide)]
 rw [show (18446744073709551615 - (4 : Int).toNat) = 2 ^ 64 - (2 ^ 2 + 1) from rfl]
 have hb : a.toNat < 2 ^ 64 := by omega
 have e3 : a.toNat &&& (2 ^ 64 - (2 ^ 2 + 1)) = a.toNat / 8 * 8 + a.toNat % 4 := by
  rw [← nat_join 3 (a.toNat / 8 * 8) (a.toNat % 4) (by omega) (by omega)]
  apply Nat.eq_of_testBit_eq
  intro i
  have e8 : a.toNat / 8 * 8 = (a.toNat >>> 3) <<< 3 := by rw [Nat.shiftLeft_eq, Nat.shiftRight_eq_div_pow]
  have e4 : a.toNat % 4 = a.toNat % 2 ^ 2 := rfl
  rw [Nat.testBit_and, Nat.testBit_two_pow_sub_succ (by decide), Nat.testBit_two_pow, Nat.testBit_or, e8, e4, Nat.testBit_shiftLeft, Nat.testBit_shiftRight, Nat.testBit_mod_two_pow]
  by_cases h3 : 3 ≤ i
  ·rw [show 3 + (i - 3) = i by omega]
   by_cases h64 : i < 64
   ·simp [h3, h64, show ¬ 2 = i by omega, show ¬ i < 2 by omega]
   ·have : a.toNat.testBit i = false := Nat.testBit_lt_two_pow (Nat.lt_of_lt_of_le hb (Nat.pow_le_pow_right (by decide) (by omega)))
    simp [this]
  ·have : i = 0 ∨ i = 1 ∨ i = 2 := by omega
   rcases this with rfl | rfl | rfl <;> simp
 rw [e3]
 unfold th
 omega
end Go.Proofs.YtpcoldpphihfmaaGreatDoor.F.Plain
namespace Go.Proofs.YtpcoldpphihfmaaGreatDoor.F
open Go.ChangeShapes Go.WideShapes Go.ChangeAt Go.RowKit
open Plain
theorem bal {a w : World} (h : Below a.heap.size a w) (o : Obj) : Below a.heap.size a (w.alloc o) := h.alloc h.size o
theorem bdr {a w : World} (h : Below a.heap.size a w) (n : Nat) : Below a.heap.size a (w.drewN n) := by
 induction n with
 | zero => exact h
 | succ n ih => exact ih.drew
theorem cWord (k n : Int) (w : World) :
  Calls Tryz.prog 83 #[.agg #[.int .i64 k, .int .i64 n]] w fun e w' => e = .returned (.int .u64 (word k n)) ∧ w' = w.alloc (.cells #[.int .i64 k, .int .i64 n] 38) := by
 have E : Hid (bits BinOp.or IntKind.u64 (bits BinOp.and IntKind.u64 (IntKind.u64.wrap k) 3) (IntKind.u64.wrap (IntKind.u64.wrap n * 8)) = word k n) := by
  show _ = _
  simp only [wrap_u64]
  rw [and3 (by omega) (by omega), or_low (by omega) (by omega) (by omega) (by omega) (by omega)]
  unfold word
  omega
 go_enter Tryz.func83, Tryz.ntmps83
 go_wp2
 go_ret
 refine ⟨?_, rfl⟩
 rw [← E.out]
 rfl
theorem cFrozen (a : Int) (h : 0 ≤ a) (h' : a ≤ 18446744073709551615) (w : World) :
  Calls Tryz.prog 98 #[.int .u64 a] w fun e w' => e = .returned (.bool (froz a)) ∧ w' = w := by
 have e : (bits BinOp.and IntKind.u64 a 4 != 0) = froz a := by
  rw [and4 h (by omega)]
  unfold froz
  by_cases c : a / 4 % 2 = 1
  ·simp [c]
  ·have : a / 4 % 2 = 0 := by omega
   simp [this]
 have E : Hid ((bits BinOp.and IntKind.u64 a 4 != 0) = froz a) := e
 clear e h h'
 go_enter Tryz.func98, Tryz.ntmps98
 go_wp2
 go_ret
 refine ⟨?_, rfl⟩
 rw [← E.out]
 rfl
theorem cFreeze (a : Int) (h : 0 ≤ a) (h' : a ≤ 18446744073709551615) (w : World) :
  Calls Tryz.prog 100 #[.int .u64 a] w fun e w' => e = .returned (.int .u64 (fz a)) ∧ w' = w := by
 have E : Hid (bits BinOp.or IntKind.u64 a 4 = fz a) := or4 h (by omega)
 clear h h'
 go_enter Tryz.func100, Tryz.ntmps100
 go_wp2
 go_ret
 refine ⟨?_, rfl⟩
 rw [← E.out]
 rfl
theorem cThaw (a : Int) (h : 0 ≤ a) (h' : a ≤ 18446744073709551615) (w : World) :
  Calls Tryz.prog 77 #[.int .u64 a] w fun e w' => e = .returned (.int .u64 (th a)) ∧ w' = w := by
 have E : Hid (bits BinOp.andNot IntKind.u64 a 4 = th a) := andNot4 h (by omega)
 clear h h'
 go_enter Tryz.func77, Tryz.ntmps77
 go_wp2
 go_ret
 refine ⟨?_, rfl⟩
 rw [← E.out]
 rfl
theorem cOf (a : Int) (h : 0 ≤ a) (h' : a ≤ 18446744073709551615) (w : World) :
  Calls Tryz.prog 97 #[.int .u64 a] w fun e w' => e = .returned (.agg #[.int .i64 (kind a), .int .i64 (num a)]) ∧ w' = w.alloc (.cells #[.int .i64 (kind a), .int .i64 (num a)] 38) := by
 have E : Hid (wrap64 (bits BinOp.and IntKind.u64 a 3) = kind a ∧ wrap64 (IntKind.u64.wrap (a.tdiv 8)) = num a) := by
  refine ⟨?_, ?_⟩
  ·rw [and3 h (by omega)]; unfold wrap64 kind; omega
  ·rw [wrap_u64, Int.tdiv_eq_ediv_of_nonneg h]; unfold wrap64 num; omega
 clear h h'
 go_enter Tryz.func97, Tryz.ntmps97
 go_wp2
 rw [← E.out.1, ← E.out.2]
 exact bodyPost_ret (v := .agg #[.int .i64 (wrap64 (bits BinOp.and IntKind.u64 a 3)), .int .i64 (wrap64 (IntKind.u64.wrap (a.tdiv 8)))]) (by simp [results, Tryz.results97, go_sem]) rfl ⟨rfl, rfl⟩
theorem rBits2 (a : Int) (h : 0 ≤ a) (w : World) :
  Calls Tryz.prog 41 #[.int .u64 a, .int .i64 2] w fun e w' => e = .returned (.int .u64 (a % 4)) ∧ w' = w := by
 have E : Hid (a.tmod 4 = a % 4) := Int.tmod_eq_emod_of_nonneg h
 clear h
 go_enter Tryz.func41, Tryz.ntmps41
 go_wp2
 go_ret
 refine ⟨?_, rfl⟩
 rw [← E.out]
 rfl
theorem rBits61 (a : Int) (h : 0 ≤ a) (w : World) :
  Calls Tryz.prog 41 #[.int .u64 a, .int .i64 61] w fun e w' => e = .returned (.int .u64 (a % 2305843009213693952)) ∧ w' = w := by
 have E : Hid (a.tmod 2305843009213693952 = a % 2305843009213693952) := Int.tmod_eq_emod_of_nonneg h
 clear h
 go_enter Tryz.func41, Tryz.ntmps41
 go_wp2
 go_ret
 refine ⟨?_, rfl⟩
 rw [← E.out]
 rfl
theorem rBits (a n p : Int) (h : 0 ≤ a) (hp : n = 2 ∧ p = 4 ∨ n = 61 ∧ p = 2305843009213693952) (w : World) :
  Calls Tryz.prog 41 #[.int .u64 a, .int .i64 n] w fun e w' => e = .returned (.int .u64 (a % p)) ∧ w' = w := by
 rcases hp with ⟨rfl, rfl⟩ | ⟨rfl, rfl⟩
 ·exact rBits2 a h w
 ·exact rBits61 a h w
theorem rFrozen (a : Int) (h : 0 ≤ a) (h' : a ≤ 18446744073709551615) (w : World) :
  Calls Tryz.prog 35 #[.int .u64 a] w fun e w' => e = .returned (.bool (froz a)) ∧ w' = w := by
 go_enter Tryz.func35, Tryz.ntmps35
 go_wp2
 go_ret
 exact ⟨rfl, rfl⟩
theorem rOf (a : Int) (h : 0 ≤ a) (h' : a ≤ 18446744073709551615) (w : World) :
  Calls Tryz.prog 30 #[.int .u64 a] w fun e w' => e = .returned (.agg #[.int .i64 (kind a), .int .i64 (num a)]) ∧ w' = w.alloc (.cells #[.int .i64 (kind a), .int .i64 (num a)] 38) := by
 go_enter Tryz.func30, Tryz.ntmps30
 go_wp2_with (go_at_call 41; refine (rBits2 _ h _).mono ?_; rintro e w' ⟨rfl, rfl⟩)
 exact bodyPost_ret (v := .agg #[.int .i64 (kind a), .int .i64 (num a)]) (by simp [results, Tryz.results30, go_sem, kind, num]) rfl ⟨rfl, rfl⟩
theorem rFreeze (a : Int) (h : 0 ≤ a) (h' : a ≤ 18446744073709551615) (w : World) :
  Calls Tryz.prog 39 #[.int .u64 a] w fun e w' => e = .returned (.int .u64 (fz a)) ∧ w' = w := by
 by_cases c : a / 4 % 2 = 1
 ·have cf : froz a = true := by simp [froz, c]
  have E : Hid (a = fz a) := by show _ = _; unfold fz; omega
  clear c
  go_enter Tryz.func39, Tryz.ntmps39
  go_wp2_with (go_at_call 35; refine (rFrozen _ h h' _).mono ?_; rintro e w' ⟨rfl, rfl⟩)
  go_ret
  refine ⟨?_, rfl⟩
  rw [← E.out]; rfl
 ·have cf : froz a = false := by simp [froz, c]
  have E : Hid (a + 4 = fz a) := by show _ = _; unfold fz; omega
  have hs : a + 4 ≤ 18446744073709551615 := by omega
  clear c
  go_enter Tryz.func39, Tryz.ntmps39
  go_wp2_with (go_at_call 35; refine (rFrozen _ h h' _).mono ?_; rintro e w' ⟨rfl, rfl⟩)
  go_ret
  refine ⟨?_, rfl⟩
  rw [← E.out]; rfl
theorem rThaw (a : Int) (h : 0 ≤ a) (h' : a ≤ 18446744073709551615) (w : World) :
  Calls Tryz.prog 58 #[.int .u64 a] w fun e w' => e = .returned (.int .u64 (th a)) ∧ w' = w := by
 by_cases c : a / 4 % 2 = 1
 ·have cf : froz a = true := by simp [froz, c]
  have E : Hid (a - 4 = th a) := by show _ = _; unfold th; omega
  have hs : 4 ≤ a := by omega
  clear c
  go_enter Tryz.func58, Tryz.ntmps58
  go_wp2_with (go_at_call 35; refine (rFrozen _ h h' _).mono ?_; rintro e w' ⟨rfl, rfl⟩)
  go_ret
  refine ⟨?_, rfl⟩
  rw [← E.out]; rfl
 ·have cf : froz a = false := by simp [froz, c]
  have E : Hid (a = th a) := by show _ = _; unfold th; omega
  clear c
  go_enter Tryz.func58, Tryz.ntmps58
  go_wp2_with (go_at_call 35; refine (rFrozen _ h h' _).mono ?_; rintro e w' ⟨rfl, rfl⟩)
  go_ret
  refine ⟨?_, rfl⟩
  rw [← E.out]; rfl
theorem rWord (k n : Int) (w : World) :
  Calls Tryz.prog 36 #[.agg #[.int .i64 k, .int .i64 n]] w fun e w' => e = .returned (.int .u64 (word k n)) ∧ ∃ m, w' = (w.alloc (.cells #[.int .i64 k, .int .i64 n] 38)).drewN m := by
 have E : Hid (IntKind.u64.wrap k % 4 + 8 * (IntKind.u64.wrap n % 2305843009213693952) = word k n) := by
  show _ = _
  simp only [wrap_u64]
  unfold word
  omega
 go_enter Tryz.func36, Tryz.ntmps36
 go_wp2
 go_quiet ((go_at_call 41; exact Calls.quiet_of_same (rBits _ _ _ (wrap_nonneg _) (by first | exact Or.inl ⟨rfl, rfl⟩ | exact Or.inr ⟨rfl, rfl⟩) _)))
 go_wp2
 go_ret
 refine ⟨?_, _, rfl⟩
 rw [← E.out]
 rfl
end Go.Proofs.YtpcoldpphihfmaaGreatDoor.F
