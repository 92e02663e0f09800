/-
  What Cell, the reference's New, and the document's examples come to when they are called; what '==' says of two plans that are the same.
-/
import Derived.WalkKit
import Derived.ProofKit
import Derived.Laws.BitsAllLaws
import Derived.Test.YtoablodmodnamaaDoorRows
import Derived.OpenShut
import Derived.Below
import Derived.WalkSpells
import Derived.WalkLawsBesides
import Derived.Outline
import Derived.BigQuiet
import Derived.Deep.QuietTactic
import Derived.Handy
import Derived.Laws.StructEq
namespace Go.Proofs.YtoablodmodnamaaDoor.P.Plain
open Go.RowKit
/-- the least multiple of 32 that is not below a -/
def up (a : Int) : Int := (a + 31) / 32 * 32
/-- where the blocks begin -/
def hp (t b : Int) : Int := up (10 + t + b)
/-- how many words a cell of a class has -/
def wd (n : Int) : Int := if n = 0 then 4 else if n = 1 then 8 else if n = 2 then 16 else 0
/-- how many cells of a class a block has -/
def cs (n : Int) : Int := if n = 0 then 8 else if n = 1 then 4 else if n = 2 then 2 else 0
/-- the class of an object of so many fields -/
def cl (n : Int) : Int := if n < 0 then -1 else if n ≤ 3 then 0 else if n ≤ 7 then 1 else -1
/-- the block that has the address a -/
def bk (h s a : Int) : Int := if h ≤ a ∧ a < s then (a - h) / 32 else -1

theorem hp_bounds {t b : Int} (t0 : 1 ≤ t) (t1 : t ≤ 64) (b0 : 1 ≤ b) (b1 : b ≤ 64) : 10 + t + b ≤ hp t b ∧ hp t b < 10 + t + b + 32 ∧ hp t b % 32 = 0 ∧ 0 ≤ hp t b ∧ hp t b ≤ 160 := by
  unfold hp up
  omega
theorem bk_in {h s a : Int} (h1 : h ≤ a) (h2 : a < s) : bk h s a = (a - h) / 32 := if_pos ⟨h1, h2⟩
theorem bk_lo {h s a : Int} (h1 : a < h) : bk h s a = -1 := if_neg (by omega)
theorem bk_hi {h s a : Int} (h1 : s ≤ a) : bk h s a = -1 := if_neg (by omega)
theorem ways3 (n : Int) : n < 0 ∨ 3 ≤ n ∨ n = 0 ∨ n = 1 ∨ n = 2 := by omega
theorem wd_lo {n : Int} (h : n < 0) : wd n = 0 := by unfold wd; rw [if_neg (by omega), if_neg (by omega), if_neg (by omega)]
theorem wd_hi {n : Int} (h : 3 ≤ n) : wd n = 0 := by unfold wd; rw [if_neg (by omega), if_neg (by omega), if_neg (by omega)]
theorem cs_lo {n : Int} (h : n < 0) : cs n = 0 := by unfold cs; rw [if_neg (by omega), if_neg (by omega), if_neg (by omega)]
theorem cs_hi {n : Int} (h : 3 ≤ n) : cs n = 0 := by unfold cs; rw [if_neg (by omega), if_neg (by omega), if_neg (by omega)]
theorem cl_lo {n : Int} (h : n < 0) : cl n = -1 := by unfold cl; rw [if_pos h]
theorem cl_0 {n : Int} (h : 0 ≤ n) (h' : n ≤ 3) : cl n = 0 := by unfold cl; rw [if_neg (by omega), if_pos h']
theorem cl_1 {n : Int} (h : 4 ≤ n) (h' : n ≤ 7) : cl n = 1 := by unfold cl; rw [if_neg (by omega), if_neg (by omega), if_pos h']
theorem cl_hi {n : Int} (h : 8 ≤ n) : cl n = -1 := by unfold cl; rw [if_neg (by omega), if_neg (by omega), if_neg (by omega)]
theorem cl_ways (n : Int) : n < 0 ∨ (0 ≤ n ∧ n ≤ 3) ∨ (4 ≤ n ∧ n ≤ 7) ∨ 8 ≤ n := by omega
theorem wd_bounds (n : Int) : 0 ≤ wd n ∧ wd n ≤ 16 := by
  rcases ways3 n with h | h | rfl | rfl | rfl
  · rw [wd_lo h]; decide
  · rw [wd_hi h]; decide
  · decide
  · decide
  · decide

theorem and63 (n : Int) : bits .and .i64 n 63 = n % 64 := by
  have h63 : (BitVec.ofInt 64 63).toNat = 2 ^ 6 - 1 := by decide
  have key : (BitVec.ofInt 64 n &&& BitVec.ofInt 64 63).toNat = (n % ((2 ^ 64 : Nat) : Int)).toNat % 2 ^ 6 := by
    rw [BitVec.toNat_and, BitVec.toNat_ofInt, h63, Nat.and_two_pow_sub_one_eq_mod]
  show IntKind.i64.wrap ((BitVec.ofInt 64 n &&& BitVec.ofInt 64 63).toNat : Nat) = n % 64
  rw [key, IntKind.wrap_i64]
  omega
end Go.Proofs.YtoablodmodnamaaDoor.P.Plain

namespace Go.Proofs.YtoablodmodnamaaDoor.P
set_option linter.unusedVariables false
open Go.ChangeShapes Go.WideShapes Go.ChangeAt Go.RowKit
open Plain

theorem ret_int {k : IntKind} {a b : Int} (h : a = b) : Ending.returned (.int k a) = .returned (.int k b) := by rw [h]
theorem bal {a w : World} (h : Below a.heap.size a w) (o : Obj) : Below a.heap.size a (w.alloc o) := h.alloc h.size o
theorem bdr {a w : World} (h : Below a.heap.size a w) (n : Nat) : Below a.heap.size a (w.drewN n) := by
  induction n with
  | zero => exact h
  | succ n ih => exact ih.drew

/-- the table of cells' words lies where it was laid -/
def Wid (w : World) : Prop := 0 < w.heap.size ∧ w.cell? ⟨0, 0, none⟩ = some (.int .i64 4) ∧ w.cell? ⟨0, 1, none⟩ = some (.int .i64 8) ∧ w.cell? ⟨0, 2, none⟩ = some (.int .i64 16)
theorem Wid.on {w u : World} (h : Wid w) (hb : Below w.heap.size w u) : Wid u := by
  obtain ⟨h0, a0, a1, a2⟩ := h
  exact ⟨Nat.lt_of_lt_of_le h0 hb.size, (hb.cell h0).trans a0, (hb.cell h0).trans a1, (hb.cell h0).trans a2⟩
/-- nothing that was there has turned, over two steps -/
theorem bt {w u v : World} (h : Below w.heap.size w u) (hb : Below u.heap.size u v) : Below w.heap.size w v := h.trans (hb.mono h.size)

theorem rNewA (t b : Int) (t0 : t < 1) (w : World) :
    Calls Tryd.prog 8 #[.int .i64 t, .int .i64 b] w fun e w' => e = .returned (.tuple #[.agg #[.int .i64 0, .int .i64 0, .int .i64 0, .int .i64 0, .int .i64 0], .int .i64 1]) ∧ w' = w.alloc (.cells #[.int .i64 0, .int .i64 0, .int .i64 0, .int .i64 0, .int .i64 0] 32) := by
  go_enter Tryd.func8, Tryd.ntmps8
  go_wp2
  exact bodyPost_ret (v := .tuple #[.agg #[.int .i64 0, .int .i64 0, .int .i64 0, .int .i64 0, .int .i64 0], .int .i64 1]) (by simp [results, Tryd.results8, go_sem]) rfl ⟨rfl, rfl⟩

theorem rNewB (t b : Int) (t0 : 1 ≤ t) (t1 : 64 < t) (w : World) :
    Calls Tryd.prog 8 #[.int .i64 t, .int .i64 b] w fun e w' => e = .returned (.tuple #[.agg #[.int .i64 0, .int .i64 0, .int .i64 0, .int .i64 0, .int .i64 0], .int .i64 1]) ∧ w' = w.alloc (.cells #[.int .i64 0, .int .i64 0, .int .i64 0, .int .i64 0, .int .i64 0] 32) := by
  go_enter Tryd.func8, Tryd.ntmps8
  go_wp2
  exact bodyPost_ret (v := .tuple #[.agg #[.int .i64 0, .int .i64 0, .int .i64 0, .int .i64 0, .int .i64 0], .int .i64 1]) (by simp [results, Tryd.results8, go_sem]) rfl ⟨rfl, rfl⟩

theorem rNewC (t b : Int) (t0 : 1 ≤ t) (t1 : t ≤ 64) (b0 : b < 1) (w : World) :
    Calls Tryd.prog 8 #[.int .i64 t, .int .i64 b] w fun e w' => e = .returned (.tuple #[.agg #[.int .i64 0, .int .i64 0, .int .i64 0, .int .i64 0, .int .i64 0], .int .i64 1]) ∧ w' = w.alloc (.cells #[.int .i64 0, .int .i64 0, .int .i64 0, .int .i64 0, .int .i64 0] 32) := by
  go_enter Tryd.func8, Tryd.ntmps8
  go_wp2
  exact bodyPost_ret (v := .tuple #[.agg #[.int .i64 0, .int .i64 0, .int .i64 0, .int .i64 0, .int .i64 0], .int .i64 1]) (by simp [results, Tryd.results8, go_sem]) rfl ⟨rfl, rfl⟩

theorem rNewD (t b : Int) (t0 : 1 ≤ t) (t1 : t ≤ 64) (b0 : 1 ≤ b) (b1 : 64 < b) (w : World) :
    Calls Tryd.prog 8 #[.int .i64 t, .int .i64 b] w fun e w' => e = .returned (.tuple #[.agg #[.int .i64 0, .int .i64 0, .int .i64 0, .int .i64 0, .int .i64 0], .int .i64 1]) ∧ w' = w.alloc (.cells #[.int .i64 0, .int .i64 0, .int .i64 0, .int .i64 0, .int .i64 0] 32) := by
  go_enter Tryd.func8, Tryd.ntmps8
  go_wp2
  exact bodyPost_ret (v := .tuple #[.agg #[.int .i64 0, .int .i64 0, .int .i64 0, .int .i64 0, .int .i64 0], .int .i64 1]) (by simp [results, Tryd.results8, go_sem]) rfl ⟨rfl, rfl⟩

theorem rWords (n : Int) (w : World) :
    Calls Tryd.prog 118 #[.int .i64 n] w fun e w' => e = .returned (.int .i64 (wd n)) ∧ w' = w := by
  rcases ways3 n with h | h | rfl | rfl | rfl
  · rw [wd_lo h]
    have a0 : (n == 0) = false := by simp; omega
    have a1 : (n == 1) = false := by simp; omega
    have a2 : (n == 2) = false := by simp; omega
    go_enter Tryd.func118, Tryd.ntmps118
    go_wp2
    go_ret
    exact ⟨rfl, rfl⟩
  · rw [wd_hi h]
    have a0 : (n == 0) = false := by simp; omega
    have a1 : (n == 1) = false := by simp; omega
    have a2 : (n == 2) = false := by simp; omega
    go_enter Tryd.func118, Tryd.ntmps118
    go_wp2
    go_ret
    exact ⟨rfl, rfl⟩
  all_goals
    go_enter Tryd.func118, Tryd.ntmps118
    go_wp2
    go_ret
    exact ⟨rfl, rfl⟩

theorem rCells (n : Int) (w : World) :
    Calls Tryd.prog 113 #[.int .i64 n] w fun e w' => e = .returned (.int .i64 (cs n)) ∧ w' = w := by
  rcases ways3 n with h | h | rfl | rfl | rfl
  · rw [cs_lo h]
    have E := wd_lo h
    go_enter Tryd.func113, Tryd.ntmps113
    go_wp2_with (go_at_call 118; refine (rWords n _).mono ?_; rintro e w' ⟨rfl, rfl⟩)
    go_ret
    exact ⟨rfl, rfl⟩
  · rw [cs_hi h]
    have E := wd_hi h
    go_enter Tryd.func113, Tryd.ntmps113
    go_wp2_with (go_at_call 118; refine (rWords n _).mono ?_; rintro e w' ⟨rfl, rfl⟩)
    go_ret
    exact ⟨rfl, rfl⟩
  · have E : wd 0 = 4 := rfl
    go_enter Tryd.func113, Tryd.ntmps113
    go_wp2_with (go_at_call 118; refine (rWords 0 _).mono ?_; rintro e w' ⟨rfl, rfl⟩)
    go_ret
    exact ⟨rfl, rfl⟩
  · have E : wd 1 = 8 := rfl
    go_enter Tryd.func113, Tryd.ntmps113
    go_wp2_with (go_at_call 118; refine (rWords 1 _).mono ?_; rintro e w' ⟨rfl, rfl⟩)
    go_ret
    exact ⟨rfl, rfl⟩
  · have E : wd 2 = 16 := rfl
    go_enter Tryd.func113, Tryd.ntmps113
    go_wp2_with (go_at_call 118; refine (rWords 2 _).mono ?_; rintro e w' ⟨rfl, rfl⟩)
    go_ret
    exact ⟨rfl, rfl⟩

theorem rClass (n : Int) (w : World) :
    Calls Tryd.prog 94 #[.int .i64 n] w fun e w' => e = .returned (.int .i64 (cl n)) ∧ w' = w := by
  rcases cl_ways n with h | ⟨h, h'⟩ | ⟨h, h'⟩ | h
  · rw [cl_lo h]
    go_enter Tryd.func94, Tryd.ntmps94
    go_wp2
    go_ret
    exact ⟨rfl, rfl⟩
  · rw [cl_0 h h']
    go_enter Tryd.func94, Tryd.ntmps94
    go_wp2
    go_ret
    exact ⟨rfl, rfl⟩
  · rw [cl_1 h h']
    go_enter Tryd.func94, Tryd.ntmps94
    go_wp2
    go_ret
    exact ⟨rfl, rfl⟩
  · rw [cl_hi h]
    go_enter Tryd.func94, Tryd.ntmps94
    go_wp2
    go_ret
    exact ⟨rfl, rfl⟩

theorem cAck (p0 p1 p2 p3 p4 : Int) (i : Int) (h0 : 0 ≤ i) (h1 : i ≤ 1000) (w : World) :
    Calls Tryd.prog 42 #[.agg #[.int .i64 p0, .int .i64 p1, .int .i64 p2, .int .i64 p3, .int .i64 p4], .int .i64 i] w fun e w' => e = .returned (.int .i64 (10 + i)) ∧ w' = w.alloc (.cells #[.int .i64 p0, .int .i64 p1, .int .i64 p2, .int .i64 p3, .int .i64 p4] 32) := by
  go_enter Tryd.func42, Tryd.ntmps42
  go_wp2
  go_ret
  exact ⟨rfl, rfl⟩

theorem rAck (p0 p1 p2 p3 p4 : Int) (i : Int) (h0 : 0 ≤ i) (h1 : i ≤ 1000) (w : World) :
    Calls Tryd.prog 45 #[.agg #[.int .i64 p0, .int .i64 p1, .int .i64 p2, .int .i64 p3, .int .i64 p4], .int .i64 i] w fun e w' => e = .returned (.int .i64 (10 + i)) ∧ w' = w.alloc (.cells #[.int .i64 p0, .int .i64 p1, .int .i64 p2, .int .i64 p3, .int .i64 p4] 32) := by
  go_enter Tryd.func45, Tryd.ntmps45
  go_wp2
  go_ret
  exact ⟨rfl, rfl⟩

theorem rEntry (p0 p1 p2 p3 p4 : Int) (i : Int) (h0 : 0 ≤ i) (h1 : i ≤ 1000) (q0 : 0 ≤ p2) (q1 : p2 ≤ 1000) (w : World) :
    Calls Tryd.prog 91 #[.agg #[.int .i64 p0, .int .i64 p1, .int .i64 p2, .int .i64 p3, .int .i64 p4], .int .i64 i] w fun e w' => e = .returned (.int .i64 (p2 + i)) ∧ w' = w.alloc (.cells #[.int .i64 p0, .int .i64 p1, .int .i64 p2, .int .i64 p3, .int .i64 p4] 32) := by
  go_enter Tryd.func91, Tryd.ntmps91
  go_wp2
  go_ret
  exact ⟨rfl, rfl⟩

theorem rList (s c : Int) (h0 : 0 ≤ s) (h1 : s ≤ 1) (q0 : 0 ≤ c) (q1 : c ≤ 2) (w : World) :
    Calls Tryd.prog 105 #[.int .i64 s, .int .i64 c] w fun e w' => e = .returned (.int .i64 (3 + 3 * s + c)) ∧ w' = w := by
  go_enter Tryd.func105, Tryd.ntmps105
  go_wp2
  go_ret
  exact ⟨rfl, rfl⟩

end Go.Proofs.YtoablodmodnamaaDoor.P

namespace Go.Proofs.YtoablodmodnamaaDoor.P
set_option linter.unusedVariables false
open Go.ChangeShapes Go.WideShapes Go.ChangeAt Go.RowKit
open Plain

theorem mul_bounds {k x : Int} (h0 : 0 ≤ k) (h1 : k ≤ 100) (x0 : 0 ≤ x) (x1 : x ≤ 16) : 0 ≤ k * x ∧ k * x ≤ 1600 := by
  refine ⟨Int.mul_nonneg h0 x0, ?_⟩
  have := Int.mul_le_mul h1 x1 x0 (by omega : (0 : Int) ≤ 100)
  omega

theorem rCell (p0 p1 p2 p3 p4 : Int) (i c k : Int) (q0 : 0 ≤ p3) (q1 : p3 ≤ 1000) (i0 : 0 ≤ i) (i1 : i ≤ 100) (k0 : 0 ≤ k) (k1 : k ≤ 100) (w : World) :
    Calls Tryd.prog 119 #[.agg #[.int .i64 p0, .int .i64 p1, .int .i64 p2, .int .i64 p3, .int .i64 p4], .int .i64 i, .int .i64 c, .int .i64 k] w fun e w' => e = .returned (.int .i64 (p3 + 32 * i + k * wd c)) ∧ Below w.heap.size w w' := by
  have b1 := (wd_bounds c).1
  have b2 := (wd_bounds c).2
  have m1 := (mul_bounds k0 k1 b1 b2).1
  have m2 := (mul_bounds k0 k1 b1 b2).2
  go_enter Tryd.func119, Tryd.ntmps119
  go_wp2
  go_quiet ((go_at_call 118; exact Calls.quiet_of_same (rWords _ _)))
  go_wp2
  go_ret
  exact ⟨rfl, bdr (bal (Below.refl _ _) _) _⟩

theorem eqPlan (x0 x1 x2 x3 x4 : Int) (w : World) : (binOp .eql 32 (.agg #[.int .i64 x0, .int .i64 x1, .int .i64 x2, .int .i64 x3, .int .i64 x4]) (.agg #[.int .i64 x0, .int .i64 x1, .int .i64 x2, .int .i64 x3, .int .i64 x4])).run Tryd.prog w = .ok (.bool true) w := by
  have u3 := Tryd.underlying3
  have a3 := Tryd.isAgg3
  have z3 := Tryd.sizeOf3
  have hS : Tryd.prog.underlying 32 = some (.struct (Tryd.prog.fieldsOf 32)) := by kernel_rfl
  have hp : Tryd.prog.stoodInHeld 32 = false := by kernel_rfl
  rw [run_eql_struct, show (10000 : Nat) = 9999 + 1 from rfl, run_equalIn_agg w 9999 32 _ _ hS hp]
  simp only [Program.fieldsOf, Tryd.underlying32]
  go_simp

set_option maxHeartbeats 800000 in
theorem rNew (t b : Int) (t0 : 1 ≤ t) (t1 : t ≤ 64) (b0 : 1 ≤ b) (b1 : b ≤ 64) (w : World) :
    Calls Tryd.prog 8 #[.int .i64 t, .int .i64 b] w fun e w' => e = .returned (.tuple #[.agg #[.int .i64 t, .int .i64 b, .int .i64 (10 + t), .int .i64 (hp t b), .int .i64 (hp t b + 32 * b)], .int .i64 0]) ∧ Below w.heap.size w w' := by
  obtain ⟨g1, g2, g3, g4, g5⟩ := hp_bounds t0 t1 b0 b1
  go_enter Tryd.func8, Tryd.ntmps8
  go_wp2
  go_loopw [] (fun wr => ∃ k : Nat, 32 * (k : Int) ≤ hp t b ∧ wr = (w.alloc (.cells #[.int .i64 0, .int .i64 0, .int .i64 0, .int .i64 0, .int .i64 0] 32)).alloc (.cells #[.int .i64 t, .int .i64 b, .int .i64 (10 + t), .int .i64 (32 * (k : Int)), .int .i64 0] 32)) (fun wr => match wr.cell? ⟨w.heap.size + 1, 3, none⟩ with | some v => (1000 - intOf v).toNat | none => 0)
  case atStart => exact ⟨0, by omega, rfl⟩
  case round =>
    obtain ⟨k, hk, rfl⟩ := hrel
    by_cases hlt : 32 * (k : Int) < 10 + t + b
    case pos =>
      go_wp2
      go_roundw
      case rel => exact ⟨k + 1, by omega, by rw [show 32 * ((k + 1 : Nat) : Int) = 32 * (k : Int) + 32 by omega]⟩
      case measure => simp [intOf, go_sem]; omega
    case neg =>
      have E : 32 * (k : Int) = hp t b := by omega
      rw [E]
      go_wp2
      exact bodyPost_ret (v := .tuple #[.agg #[.int .i64 t, .int .i64 b, .int .i64 (10 + t), .int .i64 (hp t b), .int .i64 (hp t b + 32 * b)], .int .i64 0]) (by simp [results, Tryd.results8, go_sem]) rfl ⟨rfl, bal (bal (Below.refl _ _) _) _⟩

/-- a plan lies in the block q -/
def PAt (w : World) (q : Nat) (p0 p1 p2 p3 p4 : Int) : Prop := q < w.heap.size ∧ w.cell? ⟨q, 0, none⟩ = some (.int .i64 p0) ∧ w.cell? ⟨q, 1, none⟩ = some (.int .i64 p1) ∧ w.cell? ⟨q, 2, none⟩ = some (.int .i64 p2) ∧ w.cell? ⟨q, 3, none⟩ = some (.int .i64 p3) ∧ w.cell? ⟨q, 4, none⟩ = some (.int .i64 p4)
theorem PAt.on {u v : World} {q : Nat} {p0 p1 p2 p3 p4 : Int} (h : PAt u q p0 p1 p2 p3 p4) (hb : Below u.heap.size u v) : PAt v q p0 p1 p2 p3 p4 := by
  obtain ⟨h0, a0, a1, a2, a3, a4⟩ := h
  exact ⟨Nat.lt_of_lt_of_le h0 hb.size, (hb.cell h0).trans a0, (hb.cell h0).trans a1, (hb.cell h0).trans a2, (hb.cell h0).trans a3, (hb.cell h0).trans a4⟩

end Go.Proofs.YtoablodmodnamaaDoor.P
