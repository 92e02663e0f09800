/-
  What Cell, the reference's New, and the document's examples come to when they are called; what '==' says of two plans that are the same.
-/
import Derived.WalkKit
import Derived.ProofKit
import Derived.Laws.BitsAllLaws
import Derived.Test.YtmlgohknbjfciaaGreatDoorRows
import Derived.OpenShut
import Derived.Below
import Derived.WalkSpells
import Derived.WalkLawsBesides
import Derived.Outline
import Derived.BigQuiet
import Derived.Deep.QuietTactic
import Derived.Handy
import Derived.Laws.StructEq
namespace Go.Proofs.YtmlgohknbjfciaaGreatDoor.P.Plain
open Go.RowKit
/-- the least multiple of 32 that is not below a -/
def up (a : Int) : Int := (a + 31) / 32 * 32
/-- where the blocks begin -/
def hp (t b : Int) : Int := up (10 + t + b)
/-- how many words a cell of a class has -/
def wd (n : Int) : Int := if n = 0 then 4 else if n = 1 then 8 else if n = 2 then 16 else 0
/-- how many cells of a class a block has -/
def cs (n : Int) : Int := if n = 0 then 8 else if n = 1 then 4 else if n = 2 then 2 else 0
/-- the class of an object of so many fields -/
def cl (n : Int) : Int := if n < 0 then -1 else if n ≤ 3 then 0 else if n ≤ 7 then 1 else -1
/-- the block that has the address a -/
def bk (h s a : Int) : Int := if h ≤ a ∧ a < s then (a - h) / 32 else -1

theorem hp_bounds {t b : Int} (t0 : 1 ≤ t) (t1 : t ≤ 64) (b0 : 1 ≤ b) (b1 : b ≤ 64) : 10 + t + b ≤ hp t b ∧ hp t b < 10 + t + b + 32 ∧ hp t b % 32 = 0 ∧ 0 ≤ hp t b ∧ hp t b ≤ 160 := by
  unfold hp up
  omega
theorem bk_in {h s a : Int} (h1 : h ≤ a) (h2 : a < s) : bk h s a = (a - h) / 32 := if_pos ⟨h1, h2⟩
theorem bk_lo {h s a : Int} (h1 : a < h) : bk h s a = -1 := if_neg (by omega)
theorem bk_hi {h s a : Int} (h1 : s ≤ a) : bk h s a = -1 := if_neg (by omega)
end Go.Proofs.YtmlgohknbjfciaaGreatDoor.P.Plain

namespace Go.Proofs.YtmlgohknbjfciaaGreatDoor.P
set_option linter.unusedVariables false
open Go.ChangeShapes Go.WideShapes Go.ChangeAt Go.RowKit
open Plain

theorem bal {a w : World} (h : Below a.heap.size a w) (o : Obj) : Below a.heap.size a (w.alloc o) := h.alloc h.size o
theorem bdr {a w : World} (h : Below a.heap.size a w) (n : Nat) : Below a.heap.size a (w.drewN n) := by
  induction n with
  | zero => exact h
  | succ n ih => exact ih.drew

/-- the table of cells' words lies where it was laid -/
def Wid (w : World) : Prop := 0 < w.heap.size ∧ w.cell? ⟨0, 0, none⟩ = some (.int .i64 4) ∧ w.cell? ⟨0, 1, none⟩ = some (.int .i64 8) ∧ w.cell? ⟨0, 2, none⟩ = some (.int .i64 16)
theorem Wid.on {w u : World} (h : Wid w) (hb : Below w.heap.size w u) : Wid u := by
  obtain ⟨h0, a0, a1, a2⟩ := h
  exact ⟨Nat.lt_of_lt_of_le h0 hb.size, (hb.cell h0).trans a0, (hb.cell h0).trans a1, (hb.cell h0).trans a2⟩
/-- nothing that was there has turned, over two steps -/
theorem bt {w u v : World} (h : Below w.heap.size w u) (hb : Below u.heap.size u v) : Below w.heap.size w v := h.trans (hb.mono h.size)

theorem cEntry (p0 p1 p2 p3 p4 : Int) (i : Int) (h0 : 0 ≤ i) (h1 : i ≤ 1000) (q0 : 0 ≤ p2) (q1 : p2 ≤ 1000) (w : World) :
    Calls Tryz.prog 96 #[.agg #[.int .i64 p0, .int .i64 p1, .int .i64 p2, .int .i64 p3, .int .i64 p4], .int .i64 i] w fun e w' => e = .returned (.int .i64 (p2 + i)) ∧ w' = w.alloc (.cells #[.int .i64 p0, .int .i64 p1, .int .i64 p2, .int .i64 p3, .int .i64 p4] 48) := by
  go_enter Tryz.func96, Tryz.ntmps96
  go_wp2
  go_ret
  exact ⟨rfl, rfl⟩

theorem rEntry (p0 p1 p2 p3 p4 : Int) (i : Int) (h0 : 0 ≤ i) (h1 : i ≤ 1000) (q0 : 0 ≤ p2) (q1 : p2 ≤ 1000) (w : World) :
    Calls Tryz.prog 36 #[.agg #[.int .i64 p0, .int .i64 p1, .int .i64 p2, .int .i64 p3, .int .i64 p4], .int .i64 i] w fun e w' => e = .returned (.int .i64 (p2 + i)) ∧ w' = w.alloc (.cells #[.int .i64 p0, .int .i64 p1, .int .i64 p2, .int .i64 p3, .int .i64 p4] 48) := by
  go_enter Tryz.func36, Tryz.ntmps36
  go_wp2
  go_ret
  exact ⟨rfl, rfl⟩

theorem cBlockL (p0 p1 p2 p3 p4 : Int) (a : Int) (q0 : 0 ≤ p3) (q1 : p3 ≤ 10000) (q2 : 0 ≤ p4) (q3 : p4 ≤ 10000) (h : a < p3) (w : World) :
    Calls Tryz.prog 94 #[.agg #[.int .i64 p0, .int .i64 p1, .int .i64 p2, .int .i64 p3, .int .i64 p4], .int .i64 a] w fun e w' => e = .returned (.int .i64 (-1)) ∧ w' = w.alloc (.cells #[.int .i64 p0, .int .i64 p1, .int .i64 p2, .int .i64 p3, .int .i64 p4] 48) := by
  go_enter Tryz.func94, Tryz.ntmps94
  go_wp2
  go_ret
  exact ⟨rfl, rfl⟩

theorem cBlockH (p0 p1 p2 p3 p4 : Int) (a : Int) (q0 : 0 ≤ p3) (q1 : p3 ≤ 10000) (q2 : 0 ≤ p4) (q3 : p4 ≤ 10000) (h : p3 ≤ a) (h' : p4 ≤ a) (w : World) :
    Calls Tryz.prog 94 #[.agg #[.int .i64 p0, .int .i64 p1, .int .i64 p2, .int .i64 p3, .int .i64 p4], .int .i64 a] w fun e w' => e = .returned (.int .i64 (-1)) ∧ w' = w.alloc (.cells #[.int .i64 p0, .int .i64 p1, .int .i64 p2, .int .i64 p3, .int .i64 p4] 48) := by
  go_enter Tryz.func94, Tryz.ntmps94
  go_wp2
  go_ret
  exact ⟨rfl, rfl⟩

theorem cBlockI (p0 p1 p2 p3 p4 : Int) (a : Int) (q0 : 0 ≤ p3) (q1 : p3 ≤ 10000) (q2 : 0 ≤ p4) (q3 : p4 ≤ 10000) (h : p3 ≤ a) (h' : a < p4) (w : World) :
    Calls Tryz.prog 94 #[.agg #[.int .i64 p0, .int .i64 p1, .int .i64 p2, .int .i64 p3, .int .i64 p4], .int .i64 a] w fun e w' => e = .returned (.int .i64 ((a - p3) / 32)) ∧ w' = w.alloc (.cells #[.int .i64 p0, .int .i64 p1, .int .i64 p2, .int .i64 p3, .int .i64 p4] 48) := by
  go_enter Tryz.func94, Tryz.ntmps94
  go_wp2
  go_ret
  exact ⟨rfl, rfl⟩

theorem cBlock (p0 p1 p2 p3 p4 : Int) (a : Int) (q0 : 0 ≤ p3) (q1 : p3 ≤ 10000) (q2 : 0 ≤ p4) (q3 : p4 ≤ 10000) (w : World) :
    Calls Tryz.prog 94 #[.agg #[.int .i64 p0, .int .i64 p1, .int .i64 p2, .int .i64 p3, .int .i64 p4], .int .i64 a] w fun e w' => e = .returned (.int .i64 (bk p3 p4 a)) ∧ w' = w.alloc (.cells #[.int .i64 p0, .int .i64 p1, .int .i64 p2, .int .i64 p3, .int .i64 p4] 48) := by
  by_cases h : a < p3
  · rw [bk_lo h]; exact cBlockL p0 p1 p2 p3 p4 a q0 q1 q2 q3 h w
  by_cases h' : a < p4
  · rw [bk_in (by omega) h']; exact cBlockI p0 p1 p2 p3 p4 a q0 q1 q2 q3 (by omega) h' w
  · rw [bk_hi (by omega)]; exact cBlockH p0 p1 p2 p3 p4 a q0 q1 q2 q3 (by omega) (by omega) w

set_option maxHeartbeats 800000 in
theorem rBlock (p0 p1 p2 p3 p4 : Int) (a : Int) (q0 : 0 ≤ p3) (q1 : p3 ≤ 10000) (q2 : 0 ≤ p1) (q3 : p1 ≤ 100) (hp4 : p4 = p3 + 32 * p1) (w : World) :
    Calls Tryz.prog 50 #[.agg #[.int .i64 p0, .int .i64 p1, .int .i64 p2, .int .i64 p3, .int .i64 p4], .int .i64 a] w fun e w' => e = .returned (.int .i64 (bk p3 p4 a)) ∧ w' = w.alloc (.cells #[.int .i64 p0, .int .i64 p1, .int .i64 p2, .int .i64 p3, .int .i64 p4] 48) := by
  have HP : Hid (p4 = p3 + 32 * p1) := hp4
  clear hp4
  go_enter Tryz.func50, Tryz.ntmps50
  go_wp2
  go_loop [5] (fun i => ∃ k : Nat, (k : Int) ≤ p1 ∧ i = .int .i64 k ∧ (a < p3 ∨ p3 + 32 * k ≤ a)) (fun i => p1.toNat - (intOf i).toNat)
  case atStart => exact ⟨0, by omega, rfl, by omega⟩
  case round =>
    obtain ⟨k, hk, rfl, hr⟩ := hrel
    by_cases hlt : (k : Int) < p1
    case neg =>
      have E : bk p3 p4 a = -1 := by
        rcases hr with hr | hr
        · exact bk_lo hr
        · exact bk_hi (by rw [HP.out]; omega)
      go_wp2
      go_ret
      exact ⟨rfl, rfl⟩
    case pos =>
      by_cases h1 : p3 + 32 * (k : Int) ≤ a
      case neg =>
        have h3 : a < p3 := by omega
        clear hr
        go_wp2
        go_round
        case rel => exact ⟨k + 1, by omega, by go_num, by omega⟩
        case measure => simp [intOf]; omega
      case pos =>
        by_cases h2 : a < p3 + 32 * (k : Int) + 32
        case pos =>
          have E : bk p3 p4 a = k := by rw [bk_in (by omega) (by rw [HP.out]; omega)]; omega
          clear hr
          go_wp2
          go_ret
          exact ⟨rfl, rfl⟩
        case neg =>
          clear hr
          go_wp2
          go_round
          case rel => exact ⟨k + 1, by omega, by go_num, by omega⟩
          case measure => simp [intOf]; omega

end Go.Proofs.YtmlgohknbjfciaaGreatDoor.P

namespace Go.Proofs.YtmlgohknbjfciaaGreatDoor.P
set_option linter.unusedVariables false
open Go.ChangeShapes Go.WideShapes Go.ChangeAt Go.RowKit
open Plain

set_option maxHeartbeats 800000 in
theorem rNew (t b : Int) (t0 : 1 ≤ t) (t1 : t ≤ 64) (b0 : 1 ≤ b) (b1 : b ≤ 64) (w : World) :
    Calls Tryz.prog 45 #[.int .i64 t, .int .i64 b] w fun e w' => e = .returned (.tuple #[.agg #[.int .i64 t, .int .i64 b, .int .i64 (10 + t), .int .i64 (hp t b), .int .i64 (hp t b + 32 * b)], .int .i64 0]) ∧ Below w.heap.size w w' := by
  obtain ⟨g1, g2, g3, g4, g5⟩ := hp_bounds t0 t1 b0 b1
  go_enter Tryz.func45, Tryz.ntmps45
  go_wp2
  go_loopw [] (fun wr => ∃ k : Nat, 32 * (k : Int) ≤ hp t b ∧ wr = (w.alloc (.cells #[.int .i64 0, .int .i64 0, .int .i64 0, .int .i64 0, .int .i64 0] 48)).alloc (.cells #[.int .i64 t, .int .i64 b, .int .i64 (10 + t), .int .i64 (32 * (k : Int)), .int .i64 0] 48)) (fun wr => match wr.cell? ⟨w.heap.size + 1, 3, none⟩ with | some v => (1000 - intOf v).toNat | none => 0)
  case atStart => exact ⟨0, by omega, rfl⟩
  case round =>
    obtain ⟨k, hk, rfl⟩ := hrel
    by_cases hlt : 32 * (k : Int) < 10 + t + b
    case pos =>
      go_wp2
      go_roundw
      case rel => exact ⟨k + 1, by omega, by rw [show 32 * ((k + 1 : Nat) : Int) = 32 * (k : Int) + 32 by omega]⟩
      case measure => simp [intOf, go_sem]; omega
    case neg =>
      have E : 32 * (k : Int) = hp t b := by omega
      rw [E]
      go_wp2
      exact bodyPost_ret (v := .tuple #[.agg #[.int .i64 t, .int .i64 b, .int .i64 (10 + t), .int .i64 (hp t b), .int .i64 (hp t b + 32 * b)], .int .i64 0]) (by simp [results, Tryz.results45, go_sem]) rfl ⟨rfl, bal (bal (Below.refl _ _) _) _⟩

end Go.Proofs.YtmlgohknbjfciaaGreatDoor.P
