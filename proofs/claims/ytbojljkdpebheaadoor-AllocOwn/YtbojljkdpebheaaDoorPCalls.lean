/-
  What each function of layer 5, and each of the document's own answers, comes to when it is called: one contract a function.
-/
import Derived.Test.YtbojljkdpebheaaDoorRows
import Derived.Test.YtbojljkdpebheaaDoorPPlain
import Derived.WalkKit
import Derived.ProofKit
import Derived.OpenShut
import Derived.Below
import Derived.WalkSpells
import Derived.WalkLawsBesides
import Derived.Outline
import Derived.BigQuiet
import Derived.Deep.QuietTactic
import Derived.Handy
import Derived.Laws.StructEq
namespace Go.Proofs.YtbojljkdpebheaaDoor.P
set_option linter.unusedVariables false
open Go.ChangeShapes Go.WideShapes Go.ChangeAt Go.RowKit
open Plain

theorem ret_int {k : IntKind} {a b : Int} (h : a = b) : Ending.returned (.int k a) = .returned (.int k b) := by rw [h]
theorem bal {a w : World} (h : Below a.heap.size a w) (o : Obj) : Below a.heap.size a (w.alloc o) := h.alloc h.size o
theorem bdr {a w : World} (h : Below a.heap.size a w) (n : Nat) : Below a.heap.size a (w.drewN n) := by
  induction n with
  | zero => exact h
  | succ n ih => exact ih.drew

/-- the table of cells' words lies where it was laid -/
def Wid (w : World) : Prop := 0 < w.heap.size ∧ w.cell? ⟨0, 0, none⟩ = some (.int .i64 4) ∧ w.cell? ⟨0, 1, none⟩ = some (.int .i64 8) ∧ w.cell? ⟨0, 2, none⟩ = some (.int .i64 16)
theorem Wid.on {w u : World} (h : Wid w) (hb : Below w.heap.size w u) : Wid u := by
  obtain ⟨h0, a0, a1, a2⟩ := h
  exact ⟨Nat.lt_of_lt_of_le h0 hb.size, (hb.cell h0).trans a0, (hb.cell h0).trans a1, (hb.cell h0).trans a2⟩
/-- nothing that was there has turned, over two steps -/
theorem bt {w u v : World} (h : Below w.heap.size w u) (hb : Below u.heap.size u v) : Below w.heap.size w v := h.trans (hb.mono h.size)

theorem rNewA (t b : Int) (t0 : t < 1) (w : World) :
    Calls Tryd.prog 8 #[.int .i64 t, .int .i64 b] w fun e w' => e = .returned (.tuple #[.agg #[.int .i64 0, .int .i64 0, .int .i64 0, .int .i64 0, .int .i64 0], .int .i64 1]) ∧ w' = w.alloc (.cells #[.int .i64 0, .int .i64 0, .int .i64 0, .int .i64 0, .int .i64 0] 25) := by
  go_enter Tryd.func8, Tryd.ntmps8
  go_wp2
  exact bodyPost_ret (v := .tuple #[.agg #[.int .i64 0, .int .i64 0, .int .i64 0, .int .i64 0, .int .i64 0], .int .i64 1]) (by simp [results, Tryd.results8, go_sem]) rfl ⟨rfl, rfl⟩

theorem rNewB (t b : Int) (t0 : 1 ≤ t) (t1 : 64 < t) (w : World) :
    Calls Tryd.prog 8 #[.int .i64 t, .int .i64 b] w fun e w' => e = .returned (.tuple #[.agg #[.int .i64 0, .int .i64 0, .int .i64 0, .int .i64 0, .int .i64 0], .int .i64 1]) ∧ w' = w.alloc (.cells #[.int .i64 0, .int .i64 0, .int .i64 0, .int .i64 0, .int .i64 0] 25) := by
  go_enter Tryd.func8, Tryd.ntmps8
  go_wp2
  exact bodyPost_ret (v := .tuple #[.agg #[.int .i64 0, .int .i64 0, .int .i64 0, .int .i64 0, .int .i64 0], .int .i64 1]) (by simp [results, Tryd.results8, go_sem]) rfl ⟨rfl, rfl⟩

theorem rNewC (t b : Int) (t0 : 1 ≤ t) (t1 : t ≤ 64) (b0 : b < 1) (w : World) :
    Calls Tryd.prog 8 #[.int .i64 t, .int .i64 b] w fun e w' => e = .returned (.tuple #[.agg #[.int .i64 0, .int .i64 0, .int .i64 0, .int .i64 0, .int .i64 0], .int .i64 1]) ∧ w' = w.alloc (.cells #[.int .i64 0, .int .i64 0, .int .i64 0, .int .i64 0, .int .i64 0] 25) := by
  go_enter Tryd.func8, Tryd.ntmps8
  go_wp2
  exact bodyPost_ret (v := .tuple #[.agg #[.int .i64 0, .int .i64 0, .int .i64 0, .int .i64 0, .int .i64 0], .int .i64 1]) (by simp [results, Tryd.results8, go_sem]) rfl ⟨rfl, rfl⟩

theorem rNewD (t b : Int) (t0 : 1 ≤ t) (t1 : t ≤ 64) (b0 : 1 ≤ b) (b1 : 64 < b) (w : World) :
    Calls Tryd.prog 8 #[.int .i64 t, .int .i64 b] w fun e w' => e = .returned (.tuple #[.agg #[.int .i64 0, .int .i64 0, .int .i64 0, .int .i64 0, .int .i64 0], .int .i64 1]) ∧ w' = w.alloc (.cells #[.int .i64 0, .int .i64 0, .int .i64 0, .int .i64 0, .int .i64 0] 25) := by
  go_enter Tryd.func8, Tryd.ntmps8
  go_wp2
  exact bodyPost_ret (v := .tuple #[.agg #[.int .i64 0, .int .i64 0, .int .i64 0, .int .i64 0, .int .i64 0], .int .i64 1]) (by simp [results, Tryd.results8, go_sem]) rfl ⟨rfl, rfl⟩

theorem cWordsL (n : Int) (h : n < 0) (w : World) :
    Calls Tryd.prog 101 #[.int .i64 n] w fun e w' => e = .returned (.int .i64 0) ∧ w' = w := by
  go_enter Tryd.func101, Tryd.ntmps101
  go_wp2
  go_ret
  exact ⟨rfl, rfl⟩

theorem cWordsH (n : Int) (h0 : 0 ≤ n) (h : 3 ≤ n) (w : World) :
    Calls Tryd.prog 101 #[.int .i64 n] w fun e w' => e = .returned (.int .i64 0) ∧ w' = w := by
  go_enter Tryd.func101, Tryd.ntmps101
  go_wp2
  go_ret
  exact ⟨rfl, rfl⟩

theorem cWords0 (w : World) (W : Wid w) :
    Calls Tryd.prog 101 #[.int .i64 0] w fun e w' => e = .returned (.int .i64 4) ∧ w' = w := by
  obtain ⟨v, k0, k1, k2⟩ := W
  go_enter Tryd.func101, Tryd.ntmps101
  go_wp2
  go_ret
  exact ⟨rfl, rfl⟩

theorem cWords1 (w : World) (W : Wid w) :
    Calls Tryd.prog 101 #[.int .i64 1] w fun e w' => e = .returned (.int .i64 8) ∧ w' = w := by
  obtain ⟨v, k0, k1, k2⟩ := W
  go_enter Tryd.func101, Tryd.ntmps101
  go_wp2
  go_ret
  exact ⟨rfl, rfl⟩

theorem cWords2 (w : World) (W : Wid w) :
    Calls Tryd.prog 101 #[.int .i64 2] w fun e w' => e = .returned (.int .i64 16) ∧ w' = w := by
  obtain ⟨v, k0, k1, k2⟩ := W
  go_enter Tryd.func101, Tryd.ntmps101
  go_wp2
  go_ret
  exact ⟨rfl, rfl⟩

theorem cWords (n : Int) (w : World) (W : Wid w) :
    Calls Tryd.prog 101 #[.int .i64 n] w fun e w' => e = .returned (.int .i64 (wd n)) ∧ w' = w := by
  rcases ways3 n with h | h | rfl | rfl | rfl
  · rw [wd_lo h]; exact cWordsL n h w
  · rw [wd_hi h]; exact cWordsH n (by omega) h w
  · exact cWords0 w W
  · exact cWords1 w W
  · exact cWords2 w W

theorem rWords (n : Int) (w : World) :
    Calls Tryd.prog 19 #[.int .i64 n] w fun e w' => e = .returned (.int .i64 (wd n)) ∧ w' = w := by
  rcases ways3 n with h | h | rfl | rfl | rfl
  · rw [wd_lo h]
    have a0 : (n == 0) = false := by simp; omega
    have a1 : (n == 1) = false := by simp; omega
    have a2 : (n == 2) = false := by simp; omega
    go_enter Tryd.func19, Tryd.ntmps19
    go_wp2
    go_ret
    exact ⟨rfl, rfl⟩
  · rw [wd_hi h]
    have a0 : (n == 0) = false := by simp; omega
    have a1 : (n == 1) = false := by simp; omega
    have a2 : (n == 2) = false := by simp; omega
    go_enter Tryd.func19, Tryd.ntmps19
    go_wp2
    go_ret
    exact ⟨rfl, rfl⟩
  all_goals
    go_enter Tryd.func19, Tryd.ntmps19
    go_wp2
    go_ret
    exact ⟨rfl, rfl⟩

theorem cCells (n : Int) (w : World) (W : Wid w) :
    Calls Tryd.prog 93 #[.int .i64 n] w fun e w' => e = .returned (.int .i64 (cs n)) ∧ w' = w := by
  rcases ways3 n with h | h | rfl | rfl | rfl
  · rw [cs_lo h]
    have E := wd_lo h
    go_enter Tryd.func93, Tryd.ntmps93
    go_wp2_with (go_at_call 101; refine (cWords n _ W).mono ?_; rintro e w' ⟨rfl, rfl⟩)
    go_ret
    exact ⟨rfl, rfl⟩
  · rw [cs_hi h]
    have E := wd_hi h
    go_enter Tryd.func93, Tryd.ntmps93
    go_wp2_with (go_at_call 101; refine (cWords n _ W).mono ?_; rintro e w' ⟨rfl, rfl⟩)
    go_ret
    exact ⟨rfl, rfl⟩
  · have E : wd 0 = 4 := rfl
    go_enter Tryd.func93, Tryd.ntmps93
    go_wp2_with (go_at_call 101; refine (cWords 0 _ W).mono ?_; rintro e w' ⟨rfl, rfl⟩)
    go_ret
    exact ⟨rfl, rfl⟩
  · have E : wd 1 = 8 := rfl
    go_enter Tryd.func93, Tryd.ntmps93
    go_wp2_with (go_at_call 101; refine (cWords 1 _ W).mono ?_; rintro e w' ⟨rfl, rfl⟩)
    go_ret
    exact ⟨rfl, rfl⟩
  · have E : wd 2 = 16 := rfl
    go_enter Tryd.func93, Tryd.ntmps93
    go_wp2_with (go_at_call 101; refine (cWords 2 _ W).mono ?_; rintro e w' ⟨rfl, rfl⟩)
    go_ret
    exact ⟨rfl, rfl⟩

theorem rCells (n : Int) (w : World) :
    Calls Tryd.prog 22 #[.int .i64 n] w fun e w' => e = .returned (.int .i64 (cs n)) ∧ w' = w := by
  rcases ways3 n with h | h | rfl | rfl | rfl
  · rw [cs_lo h]
    have E := wd_lo h
    go_enter Tryd.func22, Tryd.ntmps22
    go_wp2_with (go_at_call 19; refine (rWords n _).mono ?_; rintro e w' ⟨rfl, rfl⟩)
    go_ret
    exact ⟨rfl, rfl⟩
  · rw [cs_hi h]
    have E := wd_hi h
    go_enter Tryd.func22, Tryd.ntmps22
    go_wp2_with (go_at_call 19; refine (rWords n _).mono ?_; rintro e w' ⟨rfl, rfl⟩)
    go_ret
    exact ⟨rfl, rfl⟩
  · have E : wd 0 = 4 := rfl
    go_enter Tryd.func22, Tryd.ntmps22
    go_wp2_with (go_at_call 19; refine (rWords 0 _).mono ?_; rintro e w' ⟨rfl, rfl⟩)
    go_ret
    exact ⟨rfl, rfl⟩
  · have E : wd 1 = 8 := rfl
    go_enter Tryd.func22, Tryd.ntmps22
    go_wp2_with (go_at_call 19; refine (rWords 1 _).mono ?_; rintro e w' ⟨rfl, rfl⟩)
    go_ret
    exact ⟨rfl, rfl⟩
  · have E : wd 2 = 16 := rfl
    go_enter Tryd.func22, Tryd.ntmps22
    go_wp2_with (go_at_call 19; refine (rWords 2 _).mono ?_; rintro e w' ⟨rfl, rfl⟩)
    go_ret
    exact ⟨rfl, rfl⟩

theorem cClass (n : Int) (w : World) (W : Wid w) :
    Calls Tryd.prog 34 #[.int .i64 n] w fun e w' => e = .returned (.int .i64 (cl n)) ∧ w' = w := by
  obtain ⟨v, k0, k1, k2⟩ := W
  rcases cl_ways n with h | ⟨h, h'⟩ | ⟨h, h'⟩ | h
  · rw [cl_lo h]
    go_enter Tryd.func34, Tryd.ntmps34
    go_wp2
    refine wp_loop_rounds 3 ?_
    iterate 3
      rw [rounds_succ]
      go_wp2
    go_ret
    exact ⟨rfl, rfl⟩
  · rw [cl_0 h h']
    go_enter Tryd.func34, Tryd.ntmps34
    go_wp2
    refine wp_loop_rounds 1 ?_
    rw [rounds_succ]
    go_wp2
    go_ret
    exact ⟨rfl, rfl⟩
  · rw [cl_1 h h']
    go_enter Tryd.func34, Tryd.ntmps34
    go_wp2
    refine wp_loop_rounds 2 ?_
    iterate 2
      rw [rounds_succ]
      go_wp2
    go_ret
    exact ⟨rfl, rfl⟩
  · rw [cl_hi h]
    go_enter Tryd.func34, Tryd.ntmps34
    go_wp2
    refine wp_loop_rounds 3 ?_
    iterate 3
      rw [rounds_succ]
      go_wp2
    go_ret
    exact ⟨rfl, rfl⟩

theorem rClass (n : Int) (w : World) :
    Calls Tryd.prog 17 #[.int .i64 n] w fun e w' => e = .returned (.int .i64 (cl n)) ∧ w' = w := by
  rcases cl_ways n with h | ⟨h, h'⟩ | ⟨h, h'⟩ | h
  · rw [cl_lo h]
    go_enter Tryd.func17, Tryd.ntmps17
    go_wp2
    go_ret
    exact ⟨rfl, rfl⟩
  · rw [cl_0 h h']
    go_enter Tryd.func17, Tryd.ntmps17
    go_wp2
    go_ret
    exact ⟨rfl, rfl⟩
  · rw [cl_1 h h']
    go_enter Tryd.func17, Tryd.ntmps17
    go_wp2
    go_ret
    exact ⟨rfl, rfl⟩
  · rw [cl_hi h]
    go_enter Tryd.func17, Tryd.ntmps17
    go_wp2
    go_ret
    exact ⟨rfl, rfl⟩

theorem cEntry (p0 p1 p2 p3 p4 : Int) (i : Int) (h0 : 0 ≤ i) (h1 : i ≤ 1000) (q0 : 0 ≤ p2) (q1 : p2 ≤ 1000) (w : World) :
    Calls Tryd.prog 88 #[.agg #[.int .i64 p0, .int .i64 p1, .int .i64 p2, .int .i64 p3, .int .i64 p4], .int .i64 i] w fun e w' => e = .returned (.int .i64 (p2 + i)) ∧ w' = w.alloc (.cells #[.int .i64 p0, .int .i64 p1, .int .i64 p2, .int .i64 p3, .int .i64 p4] 25) := by
  go_enter Tryd.func88, Tryd.ntmps88
  go_wp2
  go_ret
  exact ⟨rfl, rfl⟩

theorem rEntry (p0 p1 p2 p3 p4 : Int) (i : Int) (h0 : 0 ≤ i) (h1 : i ≤ 1000) (q0 : 0 ≤ p2) (q1 : p2 ≤ 1000) (w : World) :
    Calls Tryd.prog 51 #[.agg #[.int .i64 p0, .int .i64 p1, .int .i64 p2, .int .i64 p3, .int .i64 p4], .int .i64 i] w fun e w' => e = .returned (.int .i64 (p2 + i)) ∧ w' = w.alloc (.cells #[.int .i64 p0, .int .i64 p1, .int .i64 p2, .int .i64 p3, .int .i64 p4] 25) := by
  go_enter Tryd.func51, Tryd.ntmps51
  go_wp2
  go_ret
  exact ⟨rfl, rfl⟩

theorem cList (s c : Int) (h0 : 0 ≤ s) (h1 : s ≤ 1) (q0 : 0 ≤ c) (q1 : c ≤ 2) (w : World) :
    Calls Tryd.prog 70 #[.int .i64 s, .int .i64 c] w fun e w' => e = .returned (.int .i64 (3 + 3 * s + c)) ∧ w' = w := by
  go_enter Tryd.func70, Tryd.ntmps70
  go_wp2
  go_ret
  exact ⟨rfl, rfl⟩

theorem rList (s c : Int) (h0 : 0 ≤ s) (h1 : s ≤ 1) (q0 : 0 ≤ c) (q1 : c ≤ 2) (w : World) :
    Calls Tryd.prog 16 #[.int .i64 s, .int .i64 c] w fun e w' => e = .returned (.int .i64 (3 + 3 * s + c)) ∧ w' = w := by
  go_enter Tryd.func16, Tryd.ntmps16
  go_wp2
  go_ret
  exact ⟨rfl, rfl⟩

end Go.Proofs.YtbojljkdpebheaaDoor.P
