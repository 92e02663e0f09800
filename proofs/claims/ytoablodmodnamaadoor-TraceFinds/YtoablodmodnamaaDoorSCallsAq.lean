/-
  What reading a block's word comes to: the one function that the seat of the last law does not have.
-/
import Derived.WalkKit
import Derived.ProofKit
import Derived.Laws.BitsAllLaws
import Derived.Test.YtoablodmodnamaaDoorRows
import Derived.OpenShut
import Derived.Below
import Derived.WalkSpells
import Derived.WalkLawsBesides
import Derived.Outline
import Derived.BigQuiet
import Derived.Deep.QuietTactic
import Derived.Handy
namespace Go.Proofs.YtoablodmodnamaaDoor.S.Plain
open Go.RowKit
/-- the word of a Top -/
def tw (x y : Int) : Int := x % 4096 + 4096 * (y % 1099511627776)
/-- At of such a word -/
def t0 (a : Int) : Int := a % 4096
/-- Ver of such a word -/
def t1 (a : Int) : Int := a / 4096 % 1099511627776
/-- the word of a Phase -/
def pw (x y z u : Int) : Int := x % 1099511627776 + 1099511627776 * (y % 16) + 17592186044416 * (z % 2) + 35184372088832 * (u % 2)
/-- No of such a word -/
def p0 (a : Int) : Int := a % 1099511627776
/-- Mode of such a word -/
def p1 (a : Int) : Int := a / 1099511627776 % 16
/-- Mark of such a word -/
def p2 (a : Int) : Int := a / 17592186044416 % 2
/-- List of such a word -/
def p3 (a : Int) : Int := a / 35184372088832 % 2
/-- the word of a Block -/
def bw (x y z u : Int) : Int := x % 4 + 4 * (y % 4) + 16 * (z % 2) + 32 * (u % 128)
/-- State of such a word -/
def b0 (a : Int) : Int := a % 4
/-- Class of such a word -/
def b1 (a : Int) : Int := a / 4 % 4
/-- Stamp of such a word -/
def b2 (a : Int) : Int := a / 16 % 2
/-- Next of such a word -/
def b3 (a : Int) : Int := a / 32 % 128
/-- the word that takes a word's place -/
def nx (a x : Int) : Int := tw x (t1 a + 1)

theorem wrap_u64 (n : Int) : IntKind.u64.wrap n = n % 18446744073709551616 := IntKind.wrap_u64 n
theorem wrap_nonneg (n : Int) : 0 ≤ IntKind.u64.wrap n := by rw [wrap_u64]; omega
theorem wrap_lt (n : Int) : IntKind.u64.wrap n < 18446744073709551616 := by rw [wrap_u64]; omega
theorem and_mask {a : Int} (h : 0 ≤ a) (h' : a < 18446744073709551616) (k : Nat) (hk : 2 ^ k - 1 < 18446744073709551616) : bits .and .u64 a ((2 ^ k - 1 : Nat) : Int) = a % ((2 ^ k : Nat) : Int) := by
  have hk' : ((2 ^ k - 1 : Nat) : Int) < 18446744073709551616 := by omega
  rw [u64_and a _ h h' (by omega) hk']
  rw [Int.toNat_natCast, Nat.and_two_pow_sub_one_eq_mod, Int.natCast_emod, Int.toNat_of_nonneg h]
theorem or_low (k : Nat) {x y : Int} (hx : 0 ≤ x) (hx' : x.toNat < 2 ^ k) (hy : 0 ≤ y) (hy' : y < 18446744073709551616) (h8 : y.toNat % 2 ^ k = 0) (hk : x < 18446744073709551616) : bits .or .u64 x y = x + y := by
  rw [u64_or x y hx hk hy hy', Nat.or_comm, nat_join k y.toNat x.toNat h8 hx']
  omega
theorem uand12 {a : Int} (h : 0 ≤ a) (h' : a < 18446744073709551616) : bits .and .u64 a 4095 = a % 4096 := and_mask h h' 12 (by decide)
theorem iand12 (n : Int) : bits .and .i64 n 4095 = n % 4096 := by
  have hm : (BitVec.ofInt 64 4095).toNat = 2 ^ 12 - 1 := by decide
  have key : (BitVec.ofInt 64 n &&& BitVec.ofInt 64 4095).toNat = (n % ((2 ^ 64 : Nat) : Int)).toNat % 2 ^ 12 := by
    rw [BitVec.toNat_and, BitVec.toNat_ofInt, hm, Nat.and_two_pow_sub_one_eq_mod]
  show IntKind.i64.wrap ((BitVec.ofInt 64 n &&& BitVec.ofInt 64 4095).toNat : Nat) = n % 4096
  rw [key, IntKind.wrap_i64]
  omega
theorem uand40 {a : Int} (h : 0 ≤ a) (h' : a < 18446744073709551616) : bits .and .u64 a 1099511627775 = a % 1099511627776 := and_mask h h' 40 (by decide)
theorem iand40 (n : Int) : bits .and .i64 n 1099511627775 = n % 1099511627776 := by
  have hm : (BitVec.ofInt 64 1099511627775).toNat = 2 ^ 40 - 1 := by decide
  have key : (BitVec.ofInt 64 n &&& BitVec.ofInt 64 1099511627775).toNat = (n % ((2 ^ 64 : Nat) : Int)).toNat % 2 ^ 40 := by
    rw [BitVec.toNat_and, BitVec.toNat_ofInt, hm, Nat.and_two_pow_sub_one_eq_mod]
  show IntKind.i64.wrap ((BitVec.ofInt 64 n &&& BitVec.ofInt 64 1099511627775).toNat : Nat) = n % 1099511627776
  rw [key, IntKind.wrap_i64]
  omega
theorem uand4 {a : Int} (h : 0 ≤ a) (h' : a < 18446744073709551616) : bits .and .u64 a 15 = a % 16 := and_mask h h' 4 (by decide)
theorem iand4 (n : Int) : bits .and .i64 n 15 = n % 16 := by
  have hm : (BitVec.ofInt 64 15).toNat = 2 ^ 4 - 1 := by decide
  have key : (BitVec.ofInt 64 n &&& BitVec.ofInt 64 15).toNat = (n % ((2 ^ 64 : Nat) : Int)).toNat % 2 ^ 4 := by
    rw [BitVec.toNat_and, BitVec.toNat_ofInt, hm, Nat.and_two_pow_sub_one_eq_mod]
  show IntKind.i64.wrap ((BitVec.ofInt 64 n &&& BitVec.ofInt 64 15).toNat : Nat) = n % 16
  rw [key, IntKind.wrap_i64]
  omega
theorem uand1 {a : Int} (h : 0 ≤ a) (h' : a < 18446744073709551616) : bits .and .u64 a 1 = a % 2 := and_mask h h' 1 (by decide)
theorem iand1 (n : Int) : bits .and .i64 n 1 = n % 2 := by
  have hm : (BitVec.ofInt 64 1).toNat = 2 ^ 1 - 1 := by decide
  have key : (BitVec.ofInt 64 n &&& BitVec.ofInt 64 1).toNat = (n % ((2 ^ 64 : Nat) : Int)).toNat % 2 ^ 1 := by
    rw [BitVec.toNat_and, BitVec.toNat_ofInt, hm, Nat.and_two_pow_sub_one_eq_mod]
  show IntKind.i64.wrap ((BitVec.ofInt 64 n &&& BitVec.ofInt 64 1).toNat : Nat) = n % 2
  rw [key, IntKind.wrap_i64]
  omega
theorem uand2 {a : Int} (h : 0 ≤ a) (h' : a < 18446744073709551616) : bits .and .u64 a 3 = a % 4 := and_mask h h' 2 (by decide)
theorem iand2 (n : Int) : bits .and .i64 n 3 = n % 4 := by
  have hm : (BitVec.ofInt 64 3).toNat = 2 ^ 2 - 1 := by decide
  have key : (BitVec.ofInt 64 n &&& BitVec.ofInt 64 3).toNat = (n % ((2 ^ 64 : Nat) : Int)).toNat % 2 ^ 2 := by
    rw [BitVec.toNat_and, BitVec.toNat_ofInt, hm, Nat.and_two_pow_sub_one_eq_mod]
  show IntKind.i64.wrap ((BitVec.ofInt 64 n &&& BitVec.ofInt 64 3).toNat : Nat) = n % 4
  rw [key, IntKind.wrap_i64]
  omega
theorem uand7 {a : Int} (h : 0 ≤ a) (h' : a < 18446744073709551616) : bits .and .u64 a 127 = a % 128 := and_mask h h' 7 (by decide)
theorem iand7 (n : Int) : bits .and .i64 n 127 = n % 128 := by
  have hm : (BitVec.ofInt 64 127).toNat = 2 ^ 7 - 1 := by decide
  have key : (BitVec.ofInt 64 n &&& BitVec.ofInt 64 127).toNat = (n % ((2 ^ 64 : Nat) : Int)).toNat % 2 ^ 7 := by
    rw [BitVec.toNat_and, BitVec.toNat_ofInt, hm, Nat.and_two_pow_sub_one_eq_mod]
  show IntKind.i64.wrap ((BitVec.ofInt 64 n &&& BitVec.ofInt 64 127).toNat : Nat) = n % 128
  rw [key, IntKind.wrap_i64]
  omega
theorem joinTop (x y : Int) : bits .or .u64 (x % 4096) (y % 1099511627776 * 4096) = tw x y := by
  rw [or_low 12 (x := x % 4096) (y := y % 1099511627776 * 4096) (by omega) (by omega) (by omega) (by omega) (by omega) (by omega)]
  unfold tw
  omega
theorem tw_pos (x y : Int) : 0 ≤ tw x y := by unfold tw; omega
theorem tw_lt (x y : Int) : tw x y < 4503599627370496 := by unfold tw; omega
theorem tw_le (x y : Int) : tw x y ≤ 18446744073709551615 := by unfold tw; omega
theorem t0_tw (x y : Int) : t0 (tw x y) = x % 4096 := by unfold t0 tw; omega
theorem t1_tw (x y : Int) : t1 (tw x y) = y % 1099511627776 := by unfold t1 tw; omega
theorem joinPhase (x y z u : Int) : bits .or .u64 (bits .or .u64 (bits .or .u64 (x % 1099511627776) (y % 16 * 1099511627776)) (z % 2 * 17592186044416)) (u % 2 * 35184372088832) = pw x y z u := by
  rw [or_low 40 (x := x % 1099511627776) (y := y % 16 * 1099511627776) (by omega) (by omega) (by omega) (by omega) (by omega) (by omega)]
  rw [or_low 44 (x := x % 1099511627776 + y % 16 * 1099511627776) (y := z % 2 * 17592186044416) (by omega) (by omega) (by omega) (by omega) (by omega) (by omega)]
  rw [or_low 45 (x := x % 1099511627776 + y % 16 * 1099511627776 + z % 2 * 17592186044416) (y := u % 2 * 35184372088832) (by omega) (by omega) (by omega) (by omega) (by omega) (by omega)]
  unfold pw
  omega
theorem pw_pos (x y z u : Int) : 0 ≤ pw x y z u := by unfold pw; omega
theorem pw_lt (x y z u : Int) : pw x y z u < 70368744177664 := by unfold pw; omega
theorem pw_le (x y z u : Int) : pw x y z u ≤ 18446744073709551615 := by unfold pw; omega
theorem p0_pw (x y z u : Int) : p0 (pw x y z u) = x % 1099511627776 := by unfold p0 pw; omega
theorem p1_pw (x y z u : Int) : p1 (pw x y z u) = y % 16 := by unfold p1 pw; omega
theorem p2_pw (x y z u : Int) : p2 (pw x y z u) = z % 2 := by unfold p2 pw; omega
theorem p3_pw (x y z u : Int) : p3 (pw x y z u) = u % 2 := by unfold p3 pw; omega
theorem joinBlock (x y z u : Int) : bits .or .u64 (bits .or .u64 (bits .or .u64 (x % 4) (y % 4 * 4)) (z % 2 * 16)) (u % 128 * 32) = bw x y z u := by
  rw [or_low 2 (x := x % 4) (y := y % 4 * 4) (by omega) (by omega) (by omega) (by omega) (by omega) (by omega)]
  rw [or_low 4 (x := x % 4 + y % 4 * 4) (y := z % 2 * 16) (by omega) (by omega) (by omega) (by omega) (by omega) (by omega)]
  rw [or_low 5 (x := x % 4 + y % 4 * 4 + z % 2 * 16) (y := u % 128 * 32) (by omega) (by omega) (by omega) (by omega) (by omega) (by omega)]
  unfold bw
  omega
theorem bw_pos (x y z u : Int) : 0 ≤ bw x y z u := by unfold bw; omega
theorem bw_lt (x y z u : Int) : bw x y z u < 4096 := by unfold bw; omega
theorem bw_le (x y z u : Int) : bw x y z u ≤ 18446744073709551615 := by unfold bw; omega
theorem b0_bw (x y z u : Int) : b0 (bw x y z u) = x % 4 := by unfold b0 bw; omega
theorem b1_bw (x y z u : Int) : b1 (bw x y z u) = y % 4 := by unfold b1 bw; omega
theorem b2_bw (x y z u : Int) : b2 (bw x y z u) = z % 2 := by unfold b2 bw; omega
theorem b3_bw (x y z u : Int) : b3 (bw x y z u) = u % 128 := by unfold b3 bw; omega
theorem nx_pos (a x : Int) : 0 ≤ nx a x := tw_pos _ _
theorem nx_le (a x : Int) : nx a x ≤ 18446744073709551615 := tw_le _ _
end Go.Proofs.YtoablodmodnamaaDoor.S.Plain

namespace Go.Proofs.YtoablodmodnamaaDoor.S
open Go.ChangeShapes Go.WideShapes Go.ChangeAt Go.RowKit
open Plain

/-- behind a new block nothing that was there has turned -/
theorem bal {a w : World} (h : Below a.heap.size a w) (o : Obj) : Below a.heap.size a (w.alloc o) := h.alloc h.size o
theorem bdr {a w : World} (h : Below a.heap.size a w) (n : Nat) : Below a.heap.size a (w.drewN n) := by
  induction n with
  | zero => exact h
  | succ n ih => exact ih.drew
theorem bt {a u v : World} (h : Below a.heap.size a u) (hb : Below u.heap.size u v) : Below a.heap.size a v := h.trans (hb.mono h.size)

theorem cCutU (a n p : Int) (hp : (n = 12 ∧ p = 4096) ∨ (n = 40 ∧ p = 1099511627776) ∨ (n = 4 ∧ p = 16) ∨ (n = 1 ∧ p = 2) ∨ (n = 2 ∧ p = 4) ∨ (n = 7 ∧ p = 128)) (w : World) :
    Calls Tryd.prog 81 #[.int .i64 a, .int .i64 n] w fun e w' => e = .returned (.int .u64 (a % p)) ∧ w' = w := by
  have e12 : bits BinOp.and IntKind.i64 a 4095 = a % 4096 := iand12 a
  have e40 : bits BinOp.and IntKind.i64 a 1099511627775 = a % 1099511627776 := iand40 a
  have e4 : bits BinOp.and IntKind.i64 a 15 = a % 16 := iand4 a
  have e1 : bits BinOp.and IntKind.i64 a 1 = a % 2 := iand1 a
  have e2 : bits BinOp.and IntKind.i64 a 3 = a % 4 := iand2 a
  have e7 : bits BinOp.and IntKind.i64 a 127 = a % 128 := iand7 a
  rcases hp with ⟨rfl, rfl⟩ | ⟨rfl, rfl⟩ | ⟨rfl, rfl⟩ | ⟨rfl, rfl⟩ | ⟨rfl, rfl⟩ | ⟨rfl, rfl⟩ <;>
  · go_enter Tryd.func81, Tryd.ntmps81
    go_wp2
    go_ret
    exact ⟨rfl, rfl⟩

theorem cCutI (a n p : Int) (h : 0 ≤ a) (h' : a ≤ 18446744073709551615) (hp : (n = 12 ∧ p = 4096) ∨ (n = 40 ∧ p = 1099511627776) ∨ (n = 4 ∧ p = 16) ∨ (n = 1 ∧ p = 2) ∨ (n = 2 ∧ p = 4) ∨ (n = 7 ∧ p = 128)) (w : World) :
    Calls Tryd.prog 83 #[.int .u64 a, .int .i64 n] w fun e w' => e = .returned (.int .i64 (a % p)) ∧ w' = w := by
  have e12 : bits BinOp.and IntKind.u64 a 4095 = a % 4096 := uand12 h (by omega)
  have e40 : bits BinOp.and IntKind.u64 a 1099511627775 = a % 1099511627776 := uand40 h (by omega)
  have e4 : bits BinOp.and IntKind.u64 a 15 = a % 16 := uand4 h (by omega)
  have e1 : bits BinOp.and IntKind.u64 a 1 = a % 2 := uand1 h (by omega)
  have e2 : bits BinOp.and IntKind.u64 a 3 = a % 4 := uand2 h (by omega)
  have e7 : bits BinOp.and IntKind.u64 a 127 = a % 128 := uand7 h (by omega)
  rcases hp with ⟨rfl, rfl⟩ | ⟨rfl, rfl⟩ | ⟨rfl, rfl⟩ | ⟨rfl, rfl⟩ | ⟨rfl, rfl⟩ | ⟨rfl, rfl⟩ <;>
  · go_enter Tryd.func83, Tryd.ntmps83
    go_wp2
    go_ret
    exact ⟨rfl, rfl⟩

theorem cTop (x y : Int) (w : World) :
    Calls Tryd.prog 99 #[.agg #[.int .i64 x, .int .i64 y]] w fun e w' => e = .returned (.int .u64 (tw x y)) ∧ ∃ m, w' = (w.alloc (.cells #[.int .i64 x, .int .i64 y] 91)).drewN m := by
  have E : Hid (_ = tw x y) := joinTop x y
  go_enter Tryd.func99, Tryd.ntmps99
  go_wp2
  go_quiet ((go_at_call 81; exact Calls.quiet_of_same (cCutU _ _ _ (by first | exact Or.inl ⟨rfl, rfl⟩ | exact Or.inr (Or.inl ⟨rfl, rfl⟩) | exact Or.inr (Or.inr (Or.inl ⟨rfl, rfl⟩)) | exact Or.inr (Or.inr (Or.inr (Or.inl ⟨rfl, rfl⟩))) | exact Or.inr (Or.inr (Or.inr (Or.inr (Or.inl ⟨rfl, rfl⟩)))) | exact Or.inr (Or.inr (Or.inr (Or.inr (Or.inr (⟨rfl, rfl⟩)))))) _)))
  go_wp2
  go_ret
  refine ⟨?_, _, rfl⟩
  rw [← E.out]
  rfl

theorem cPhase (x y z u : Int) (w : World) :
    Calls Tryd.prog 40 #[.agg #[.int .i64 x, .int .i64 y, .int .i64 z, .int .i64 u]] w fun e w' => e = .returned (.int .u64 (pw x y z u)) ∧ ∃ m, w' = (w.alloc (.cells #[.int .i64 x, .int .i64 y, .int .i64 z, .int .i64 u] 37)).drewN m := by
  have E : Hid (_ = pw x y z u) := joinPhase x y z u
  go_enter Tryd.func40, Tryd.ntmps40
  go_wp2
  go_quiet ((go_at_call 81; exact Calls.quiet_of_same (cCutU _ _ _ (by first | exact Or.inl ⟨rfl, rfl⟩ | exact Or.inr (Or.inl ⟨rfl, rfl⟩) | exact Or.inr (Or.inr (Or.inl ⟨rfl, rfl⟩)) | exact Or.inr (Or.inr (Or.inr (Or.inl ⟨rfl, rfl⟩))) | exact Or.inr (Or.inr (Or.inr (Or.inr (Or.inl ⟨rfl, rfl⟩)))) | exact Or.inr (Or.inr (Or.inr (Or.inr (Or.inr (⟨rfl, rfl⟩)))))) _)))
  go_wp2
  go_ret
  refine ⟨?_, _, rfl⟩
  rw [← E.out]
  rfl

theorem cOfTop (a : Int) (h : 0 ≤ a) (h' : a ≤ 18446744073709551615) (w : World) :
    Calls Tryd.prog 75 #[.int .u64 a] w fun e w' => e = .returned (.agg #[.int .i64 (t0 a), .int .i64 (t1 a)]) ∧ w' = w.alloc (.cells #[.int .i64 (t0 a), .int .i64 (t1 a)] 91) := by
  go_enter Tryd.func75, Tryd.ntmps75
  go_wp2_with (go_at_call 83; refine (cCutI _ _ _ (by omega) (by omega) (by first | exact Or.inl ⟨rfl, rfl⟩ | exact Or.inr (Or.inl ⟨rfl, rfl⟩) | exact Or.inr (Or.inr (Or.inl ⟨rfl, rfl⟩)) | exact Or.inr (Or.inr (Or.inr (Or.inl ⟨rfl, rfl⟩))) | exact Or.inr (Or.inr (Or.inr (Or.inr (Or.inl ⟨rfl, rfl⟩)))) | exact Or.inr (Or.inr (Or.inr (Or.inr (Or.inr (⟨rfl, rfl⟩)))))) _).mono ?_; rintro e w' ⟨rfl, rfl⟩)
  exact bodyPost_ret (v := .agg #[.int .i64 (t0 a), .int .i64 (t1 a)]) (by simp [results, Tryd.results75, go_sem, t0, t1]) rfl ⟨rfl, by simp [t0, t1]⟩

theorem cOfPhase (a : Int) (h : 0 ≤ a) (h' : a ≤ 18446744073709551615) (w : World) :
    Calls Tryd.prog 46 #[.int .u64 a] w fun e w' => e = .returned (.agg #[.int .i64 (p0 a), .int .i64 (p1 a), .int .i64 (p2 a), .int .i64 (p3 a)]) ∧ w' = w.alloc (.cells #[.int .i64 (p0 a), .int .i64 (p1 a), .int .i64 (p2 a), .int .i64 (p3 a)] 37) := by
  go_enter Tryd.func46, Tryd.ntmps46
  go_wp2_with (go_at_call 83; refine (cCutI _ _ _ (by omega) (by omega) (by first | exact Or.inl ⟨rfl, rfl⟩ | exact Or.inr (Or.inl ⟨rfl, rfl⟩) | exact Or.inr (Or.inr (Or.inl ⟨rfl, rfl⟩)) | exact Or.inr (Or.inr (Or.inr (Or.inl ⟨rfl, rfl⟩))) | exact Or.inr (Or.inr (Or.inr (Or.inr (Or.inl ⟨rfl, rfl⟩)))) | exact Or.inr (Or.inr (Or.inr (Or.inr (Or.inr (⟨rfl, rfl⟩)))))) _).mono ?_; rintro e w' ⟨rfl, rfl⟩)
  exact bodyPost_ret (v := .agg #[.int .i64 (p0 a), .int .i64 (p1 a), .int .i64 (p2 a), .int .i64 (p3 a)]) (by simp [results, Tryd.results46, go_sem, p0, p1, p2, p3]) rfl ⟨rfl, by simp [p0, p1, p2, p3]⟩

theorem gTop (x y : Int) (w : World) :
    Calls Tryd.prog 99 #[.agg #[.int .i64 x, .int .i64 y]] w fun e w' => e = .returned (.int .u64 (tw x y)) ∧ Below w.heap.size w w' :=
  (cTop x y w).mono fun _ _ ⟨he, _, hw⟩ => ⟨he, hw ▸ bdr (bal (Below.refl _ _) _) _⟩
theorem gPhase (x y z u : Int) (w : World) :
    Calls Tryd.prog 40 #[.agg #[.int .i64 x, .int .i64 y, .int .i64 z, .int .i64 u]] w fun e w' => e = .returned (.int .u64 (pw x y z u)) ∧ Below w.heap.size w w' :=
  (cPhase x y z u w).mono fun _ _ ⟨he, _, hw⟩ => ⟨he, hw ▸ bdr (bal (Below.refl _ _) _) _⟩
theorem t1_bounds (a : Int) : 0 ≤ t1 a ∧ t1 a < 1099511627776 := by unfold t1; omega

theorem field1 (x y : Int) (w : World) : (Instr.field 91 (.agg #[.int .i64 x, .int .i64 y]) 1).run Tryd.prog w = .ok (.int .i64 y) w := by kernel_rfl

theorem gNext (a x : Int) (h : 0 ≤ a) (h' : a ≤ 18446744073709551615) (w : World) :
    Calls Tryd.prog 65 #[.int .u64 a, .int .i64 x] w fun e w' => e = .returned (.int .u64 (nx a x)) ∧ Below w.heap.size w w' := by
  obtain ⟨v0, v1⟩ := t1_bounds a
  have f1 := field1 (t0 a) (t1 a)
  go_enter Tryd.func65, Tryd.ntmps65
  go_wp2_with (first
    | (go_at_call 75; refine (cOfTop a h h' _).mono ?_; rintro e w1 ⟨rfl, rfl⟩)
    | (go_at_call 99; refine (gTop _ _ _).mono ?_; rintro e w2 ⟨rfl, hb⟩))
  go_ret
  exact ⟨rfl, bt (bal (Below.refl _ _) _) hb⟩

/-! ### the document's examples -/
end Go.Proofs.YtoablodmodnamaaDoor.S

namespace Go.Proofs.YtoablodmodnamaaDoor.S
open Go.ChangeShapes Go.WideShapes Go.ChangeAt Go.RowKit
open Plain

end Go.Proofs.YtoablodmodnamaaDoor.S
