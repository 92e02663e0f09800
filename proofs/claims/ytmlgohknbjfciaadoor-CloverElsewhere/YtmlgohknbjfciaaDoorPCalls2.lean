/-
  What Cell, the reference's New, and the document's examples come to when they are called; what '==' says of two plans that are the same.
-/
import Derived.WalkKit
import Derived.ProofKit
import Derived.Laws.BitsAllLaws
import Derived.Test.YtmlgohknbjfciaaDoorRows
import Derived.OpenShut
import Derived.Below
import Derived.WalkSpells
import Derived.WalkLawsBesides
import Derived.Outline
import Derived.BigQuiet
import Derived.Deep.QuietTactic
import Derived.Handy
import Derived.Laws.StructEq
namespace Go.Proofs.YtmlgohknbjfciaaDoor.P.Plain
open Go.RowKit
/-- the least multiple of 32 that is not below a -/
def up (a : Int) : Int := (a + 31) / 32 * 32
/-- where the blocks begin -/
def hp (t b : Int) : Int := up (10 + t + b)
/-- how many words a cell of a class has -/
def wd (n : Int) : Int := if n = 0 then 4 else if n = 1 then 8 else if n = 2 then 16 else 0
/-- how many cells of a class a block has -/
def cs (n : Int) : Int := if n = 0 then 8 else if n = 1 then 4 else if n = 2 then 2 else 0
/-- the class of an object of so many fields -/
def cl (n : Int) : Int := if n < 0 then -1 else if n ≤ 3 then 0 else if n ≤ 7 then 1 else -1
/-- the block that has the address a -/
def bk (h s a : Int) : Int := if h ≤ a ∧ a < s then (a - h) / 32 else -1

theorem hp_bounds {t b : Int} (t0 : 1 ≤ t) (t1 : t ≤ 64) (b0 : 1 ≤ b) (b1 : b ≤ 64) : 10 + t + b ≤ hp t b ∧ hp t b < 10 + t + b + 32 ∧ hp t b % 32 = 0 ∧ 0 ≤ hp t b ∧ hp t b ≤ 160 := by
  unfold hp up
  omega
theorem bk_in {h s a : Int} (h1 : h ≤ a) (h2 : a < s) : bk h s a = (a - h) / 32 := if_pos ⟨h1, h2⟩
theorem bk_lo {h s a : Int} (h1 : a < h) : bk h s a = -1 := if_neg (by omega)
theorem bk_hi {h s a : Int} (h1 : s ≤ a) : bk h s a = -1 := if_neg (by omega)
theorem ways3 (n : Int) : n < 0 ∨ 3 ≤ n ∨ n = 0 ∨ n = 1 ∨ n = 2 := by omega
theorem wd_lo {n : Int} (h : n < 0) : wd n = 0 := by unfold wd; rw [if_neg (by omega), if_neg (by omega), if_neg (by omega)]
theorem wd_hi {n : Int} (h : 3 ≤ n) : wd n = 0 := by unfold wd; rw [if_neg (by omega), if_neg (by omega), if_neg (by omega)]
theorem cs_lo {n : Int} (h : n < 0) : cs n = 0 := by unfold cs; rw [if_neg (by omega), if_neg (by omega), if_neg (by omega)]
theorem cs_hi {n : Int} (h : 3 ≤ n) : cs n = 0 := by unfold cs; rw [if_neg (by omega), if_neg (by omega), if_neg (by omega)]
theorem cl_lo {n : Int} (h : n < 0) : cl n = -1 := by unfold cl; rw [if_pos h]
theorem cl_0 {n : Int} (h : 0 ≤ n) (h' : n ≤ 3) : cl n = 0 := by unfold cl; rw [if_neg (by omega), if_pos h']
theorem cl_1 {n : Int} (h : 4 ≤ n) (h' : n ≤ 7) : cl n = 1 := by unfold cl; rw [if_neg (by omega), if_neg (by omega), if_pos h']
theorem cl_hi {n : Int} (h : 8 ≤ n) : cl n = -1 := by unfold cl; rw [if_neg (by omega), if_neg (by omega), if_neg (by omega)]
theorem cl_ways (n : Int) : n < 0 ∨ (0 ≤ n ∧ n ≤ 3) ∨ (4 ≤ n ∧ n ≤ 7) ∨ 8 ≤ n := by omega
theorem wd_bounds (n : Int) : 0 ≤ wd n ∧ wd n ≤ 16 := by
  rcases ways3 n with h | h | rfl | rfl | rfl
  · rw [wd_lo h]; decide
  · rw [wd_hi h]; decide
  · decide
  · decide
  · decide

theorem and63 (n : Int) : bits .and .i64 n 63 = n % 64 := by
  have h63 : (BitVec.ofInt 64 63).toNat = 2 ^ 6 - 1 := by decide
  have key : (BitVec.ofInt 64 n &&& BitVec.ofInt 64 63).toNat = (n % ((2 ^ 64 : Nat) : Int)).toNat % 2 ^ 6 := by
    rw [BitVec.toNat_and, BitVec.toNat_ofInt, h63, Nat.and_two_pow_sub_one_eq_mod]
  show IntKind.i64.wrap ((BitVec.ofInt 64 n &&& BitVec.ofInt 64 63).toNat : Nat) = n % 64
  rw [key, IntKind.wrap_i64]
  omega
end Go.Proofs.YtmlgohknbjfciaaDoor.P.Plain

namespace Go.Proofs.YtmlgohknbjfciaaDoor.P
set_option linter.unusedVariables false
open Go.ChangeShapes Go.WideShapes Go.ChangeAt Go.RowKit
open Plain

theorem ret_int {k : IntKind} {a b : Int} (h : a = b) : Ending.returned (.int k a) = .returned (.int k b) := by rw [h]
theorem bal {a w : World} (h : Below a.heap.size a w) (o : Obj) : Below a.heap.size a (w.alloc o) := h.alloc h.size o
theorem bdr {a w : World} (h : Below a.heap.size a w) (n : Nat) : Below a.heap.size a (w.drewN n) := by
  induction n with
  | zero => exact h
  | succ n ih => exact ih.drew

/-- the table of cells' words lies where it was laid -/
def Wid (w : World) : Prop := 0 < w.heap.size ∧ w.cell? ⟨0, 0, none⟩ = some (.int .i64 4) ∧ w.cell? ⟨0, 1, none⟩ = some (.int .i64 8) ∧ w.cell? ⟨0, 2, none⟩ = some (.int .i64 16)
theorem Wid.on {w u : World} (h : Wid w) (hb : Below w.heap.size w u) : Wid u := by
  obtain ⟨h0, a0, a1, a2⟩ := h
  exact ⟨Nat.lt_of_lt_of_le h0 hb.size, (hb.cell h0).trans a0, (hb.cell h0).trans a1, (hb.cell h0).trans a2⟩
/-- nothing that was there has turned, over two steps -/
theorem bt {w u v : World} (h : Below w.heap.size w u) (hb : Below u.heap.size u v) : Below w.heap.size w v := h.trans (hb.mono h.size)

theorem rNewA (t b : Int) (t0 : t < 1) (w : World) :
    Calls Tryd.prog 30 #[.int .i64 t, .int .i64 b] w fun e w' => e = .returned (.tuple #[.agg #[.int .i64 0, .int .i64 0, .int .i64 0, .int .i64 0, .int .i64 0], .int .i64 1]) ∧ w' = w.alloc (.cells #[.int .i64 0, .int .i64 0, .int .i64 0, .int .i64 0, .int .i64 0] 45) := by
  go_enter Tryd.func30, Tryd.ntmps30
  go_wp2
  exact bodyPost_ret (v := .tuple #[.agg #[.int .i64 0, .int .i64 0, .int .i64 0, .int .i64 0, .int .i64 0], .int .i64 1]) (by simp [results, Tryd.results30, go_sem]) rfl ⟨rfl, rfl⟩

theorem rNewB (t b : Int) (t0 : 1 ≤ t) (t1 : 64 < t) (w : World) :
    Calls Tryd.prog 30 #[.int .i64 t, .int .i64 b] w fun e w' => e = .returned (.tuple #[.agg #[.int .i64 0, .int .i64 0, .int .i64 0, .int .i64 0, .int .i64 0], .int .i64 1]) ∧ w' = w.alloc (.cells #[.int .i64 0, .int .i64 0, .int .i64 0, .int .i64 0, .int .i64 0] 45) := by
  go_enter Tryd.func30, Tryd.ntmps30
  go_wp2
  exact bodyPost_ret (v := .tuple #[.agg #[.int .i64 0, .int .i64 0, .int .i64 0, .int .i64 0, .int .i64 0], .int .i64 1]) (by simp [results, Tryd.results30, go_sem]) rfl ⟨rfl, rfl⟩

theorem rNewC (t b : Int) (t0 : 1 ≤ t) (t1 : t ≤ 64) (b0 : b < 1) (w : World) :
    Calls Tryd.prog 30 #[.int .i64 t, .int .i64 b] w fun e w' => e = .returned (.tuple #[.agg #[.int .i64 0, .int .i64 0, .int .i64 0, .int .i64 0, .int .i64 0], .int .i64 1]) ∧ w' = w.alloc (.cells #[.int .i64 0, .int .i64 0, .int .i64 0, .int .i64 0, .int .i64 0] 45) := by
  go_enter Tryd.func30, Tryd.ntmps30
  go_wp2
  exact bodyPost_ret (v := .tuple #[.agg #[.int .i64 0, .int .i64 0, .int .i64 0, .int .i64 0, .int .i64 0], .int .i64 1]) (by simp [results, Tryd.results30, go_sem]) rfl ⟨rfl, rfl⟩

theorem rNewD (t b : Int) (t0 : 1 ≤ t) (t1 : t ≤ 64) (b0 : 1 ≤ b) (b1 : 64 < b) (w : World) :
    Calls Tryd.prog 30 #[.int .i64 t, .int .i64 b] w fun e w' => e = .returned (.tuple #[.agg #[.int .i64 0, .int .i64 0, .int .i64 0, .int .i64 0, .int .i64 0], .int .i64 1]) ∧ w' = w.alloc (.cells #[.int .i64 0, .int .i64 0, .int .i64 0, .int .i64 0, .int .i64 0] 45) := by
  go_enter Tryd.func30, Tryd.ntmps30
  go_wp2
  exact bodyPost_ret (v := .tuple #[.agg #[.int .i64 0, .int .i64 0, .int .i64 0, .int .i64 0, .int .i64 0], .int .i64 1]) (by simp [results, Tryd.results30, go_sem]) rfl ⟨rfl, rfl⟩

theorem cEntry (p0 p1 p2 p3 p4 : Int) (i : Int) (h0 : 0 ≤ i) (h1 : i ≤ 1000) (q0 : 0 ≤ p2) (q1 : p2 ≤ 1000) (w : World) :
    Calls Tryd.prog 63 #[.agg #[.int .i64 p0, .int .i64 p1, .int .i64 p2, .int .i64 p3, .int .i64 p4], .int .i64 i] w fun e w' => e = .returned (.int .i64 (p2 + i)) ∧ w' = w.alloc (.cells #[.int .i64 p0, .int .i64 p1, .int .i64 p2, .int .i64 p3, .int .i64 p4] 45) := by
  go_enter Tryd.func63, Tryd.ntmps63
  go_wp2
  go_ret
  exact ⟨rfl, rfl⟩

theorem rEntry (p0 p1 p2 p3 p4 : Int) (i : Int) (h0 : 0 ≤ i) (h1 : i ≤ 1000) (q0 : 0 ≤ p2) (q1 : p2 ≤ 1000) (w : World) :
    Calls Tryd.prog 26 #[.agg #[.int .i64 p0, .int .i64 p1, .int .i64 p2, .int .i64 p3, .int .i64 p4], .int .i64 i] w fun e w' => e = .returned (.int .i64 (p2 + i)) ∧ w' = w.alloc (.cells #[.int .i64 p0, .int .i64 p1, .int .i64 p2, .int .i64 p3, .int .i64 p4] 45) := by
  go_enter Tryd.func26, Tryd.ntmps26
  go_wp2
  go_ret
  exact ⟨rfl, rfl⟩

theorem cBlockL (p0 p1 p2 p3 p4 : Int) (a : Int) (q0 : 0 ≤ p3) (q1 : p3 ≤ 10000) (q2 : 0 ≤ p4) (q3 : p4 ≤ 10000) (h : a < p3) (w : World) :
    Calls Tryd.prog 61 #[.agg #[.int .i64 p0, .int .i64 p1, .int .i64 p2, .int .i64 p3, .int .i64 p4], .int .i64 a] w fun e w' => e = .returned (.int .i64 (-1)) ∧ w' = w.alloc (.cells #[.int .i64 p0, .int .i64 p1, .int .i64 p2, .int .i64 p3, .int .i64 p4] 45) := by
  go_enter Tryd.func61, Tryd.ntmps61
  go_wp2
  go_ret
  exact ⟨rfl, rfl⟩

theorem cBlockH (p0 p1 p2 p3 p4 : Int) (a : Int) (q0 : 0 ≤ p3) (q1 : p3 ≤ 10000) (q2 : 0 ≤ p4) (q3 : p4 ≤ 10000) (h : p3 ≤ a) (h' : p4 ≤ a) (w : World) :
    Calls Tryd.prog 61 #[.agg #[.int .i64 p0, .int .i64 p1, .int .i64 p2, .int .i64 p3, .int .i64 p4], .int .i64 a] w fun e w' => e = .returned (.int .i64 (-1)) ∧ w' = w.alloc (.cells #[.int .i64 p0, .int .i64 p1, .int .i64 p2, .int .i64 p3, .int .i64 p4] 45) := by
  go_enter Tryd.func61, Tryd.ntmps61
  go_wp2
  go_ret
  exact ⟨rfl, rfl⟩

theorem cBlockI (p0 p1 p2 p3 p4 : Int) (a : Int) (q0 : 0 ≤ p3) (q1 : p3 ≤ 10000) (q2 : 0 ≤ p4) (q3 : p4 ≤ 10000) (h : p3 ≤ a) (h' : a < p4) (w : World) :
    Calls Tryd.prog 61 #[.agg #[.int .i64 p0, .int .i64 p1, .int .i64 p2, .int .i64 p3, .int .i64 p4], .int .i64 a] w fun e w' => e = .returned (.int .i64 ((a - p3) / 32)) ∧ w' = w.alloc (.cells #[.int .i64 p0, .int .i64 p1, .int .i64 p2, .int .i64 p3, .int .i64 p4] 45) := by
  go_enter Tryd.func61, Tryd.ntmps61
  go_wp2
  go_ret
  exact ⟨rfl, rfl⟩

theorem cBlock (p0 p1 p2 p3 p4 : Int) (a : Int) (q0 : 0 ≤ p3) (q1 : p3 ≤ 10000) (q2 : 0 ≤ p4) (q3 : p4 ≤ 10000) (w : World) :
    Calls Tryd.prog 61 #[.agg #[.int .i64 p0, .int .i64 p1, .int .i64 p2, .int .i64 p3, .int .i64 p4], .int .i64 a] w fun e w' => e = .returned (.int .i64 (bk p3 p4 a)) ∧ w' = w.alloc (.cells #[.int .i64 p0, .int .i64 p1, .int .i64 p2, .int .i64 p3, .int .i64 p4] 45) := by
  by_cases h : a < p3
  · rw [bk_lo h]; exact cBlockL p0 p1 p2 p3 p4 a q0 q1 q2 q3 h w
  by_cases h' : a < p4
  · rw [bk_in (by omega) h']; exact cBlockI p0 p1 p2 p3 p4 a q0 q1 q2 q3 (by omega) h' w
  · rw [bk_hi (by omega)]; exact cBlockH p0 p1 p2 p3 p4 a q0 q1 q2 q3 (by omega) (by omega) w

end Go.Proofs.YtmlgohknbjfciaaDoor.P

namespace Go.Proofs.YtmlgohknbjfciaaDoor.P
set_option linter.unusedVariables false
open Go.ChangeShapes Go.WideShapes Go.ChangeAt Go.RowKit
open Plain

theorem mul_bounds {k x : Int} (h0 : 0 ≤ k) (h1 : k ≤ 100) (x0 : 0 ≤ x) (x1 : x ≤ 16) : 0 ≤ k * x ∧ k * x ≤ 1600 := by
  refine ⟨Int.mul_nonneg h0 x0, ?_⟩
  have := Int.mul_le_mul h1 x1 x0 (by omega : (0 : Int) ≤ 100)
  omega

theorem eqPlan (x0 x1 x2 x3 x4 : Int) (w : World) : (binOp .eql 45 (.agg #[.int .i64 x0, .int .i64 x1, .int .i64 x2, .int .i64 x3, .int .i64 x4]) (.agg #[.int .i64 x0, .int .i64 x1, .int .i64 x2, .int .i64 x3, .int .i64 x4])).run Tryd.prog w = .ok (.bool true) w := by
  have u3 := Tryd.underlying3
  have a3 := Tryd.isAgg3
  have z3 := Tryd.sizeOf3
  have hS : Tryd.prog.underlying 45 = some (.struct (Tryd.prog.fieldsOf 45)) := by kernel_rfl
  have hp : Tryd.prog.stoodInHeld 45 = false := by kernel_rfl
  rw [run_eql_struct, show (10000 : Nat) = 9999 + 1 from rfl, run_equalIn_agg w 9999 45 _ _ hS hp]
  simp only [Program.fieldsOf, Tryd.underlying45]
  go_simp

set_option maxHeartbeats 800000 in
theorem rNew (t b : Int) (t0 : 1 ≤ t) (t1 : t ≤ 64) (b0 : 1 ≤ b) (b1 : b ≤ 64) (w : World) :
    Calls Tryd.prog 30 #[.int .i64 t, .int .i64 b] w fun e w' => e = .returned (.tuple #[.agg #[.int .i64 t, .int .i64 b, .int .i64 (10 + t), .int .i64 (hp t b), .int .i64 (hp t b + 32 * b)], .int .i64 0]) ∧ Below w.heap.size w w' := by
  obtain ⟨g1, g2, g3, g4, g5⟩ := hp_bounds t0 t1 b0 b1
  go_enter Tryd.func30, Tryd.ntmps30
  go_wp2
  go_loopw [] (fun wr => ∃ k : Nat, 32 * (k : Int) ≤ hp t b ∧ wr = (w.alloc (.cells #[.int .i64 0, .int .i64 0, .int .i64 0, .int .i64 0, .int .i64 0] 45)).alloc (.cells #[.int .i64 t, .int .i64 b, .int .i64 (10 + t), .int .i64 (32 * (k : Int)), .int .i64 0] 45)) (fun wr => match wr.cell? ⟨w.heap.size + 1, 3, none⟩ with | some v => (1000 - intOf v).toNat | none => 0)
  case atStart => exact ⟨0, by omega, rfl⟩
  case round =>
    obtain ⟨k, hk, rfl⟩ := hrel
    by_cases hlt : 32 * (k : Int) < 10 + t + b
    case pos =>
      go_wp2
      go_roundw
      case rel => exact ⟨k + 1, by omega, by rw [show 32 * ((k + 1 : Nat) : Int) = 32 * (k : Int) + 32 by omega]⟩
      case measure => simp [intOf, go_sem]; omega
    case neg =>
      have E : 32 * (k : Int) = hp t b := by omega
      rw [E]
      go_wp2
      exact bodyPost_ret (v := .tuple #[.agg #[.int .i64 t, .int .i64 b, .int .i64 (10 + t), .int .i64 (hp t b), .int .i64 (hp t b + 32 * b)], .int .i64 0]) (by simp [results, Tryd.results30, go_sem]) rfl ⟨rfl, bal (bal (Below.refl _ _) _) _⟩

/-- a plan lies in the block q -/
def PAt (w : World) (q : Nat) (p0 p1 p2 p3 p4 : Int) : Prop := q < w.heap.size ∧ w.cell? ⟨q, 0, none⟩ = some (.int .i64 p0) ∧ w.cell? ⟨q, 1, none⟩ = some (.int .i64 p1) ∧ w.cell? ⟨q, 2, none⟩ = some (.int .i64 p2) ∧ w.cell? ⟨q, 3, none⟩ = some (.int .i64 p3) ∧ w.cell? ⟨q, 4, none⟩ = some (.int .i64 p4)
theorem PAt.on {u v : World} {q : Nat} {p0 p1 p2 p3 p4 : Int} (h : PAt u q p0 p1 p2 p3 p4) (hb : Below u.heap.size u v) : PAt v q p0 p1 p2 p3 p4 := by
  obtain ⟨h0, a0, a1, a2, a3, a4⟩ := h
  exact ⟨Nat.lt_of_lt_of_le h0 hb.size, (hb.cell h0).trans a0, (hb.cell h0).trans a1, (hb.cell h0).trans a2, (hb.cell h0).trans a3, (hb.cell h0).trans a4⟩

end Go.Proofs.YtmlgohknbjfciaaDoor.P
