/-
  What each function of layer 5, and each of the document's own answers, comes to when it is called: one contract a function.
-/
import Derived.Test.YtfohcacngmiklaaDoorRows
import Derived.Test.YtfohcacngmiklaaDoorPlain
import Derived.WalkKit
import Derived.ProofKit
import Derived.OpenShut
import Derived.Below
import Derived.WalkSpells
import Derived.WalkLawsBesides
import Derived.Outline
import Derived.BigQuiet
import Derived.Deep.QuietTactic
import Derived.Handy
import Derived.Laws.StructEq
namespace Go.Proofs.YtfohcacngmiklaaDoor
set_option linter.unusedVariables false
open Go.ChangeShapes Go.WideShapes Go.ChangeAt Go.RowKit
open Plain

theorem ret_int {k : IntKind} {a b : Int} (h : a = b) : Ending.returned (.int k a) = .returned (.int k b) := by rw [h]
theorem bal {a w : World} (h : Below a.heap.size a w) (o : Obj) : Below a.heap.size a (w.alloc o) := h.alloc h.size o
theorem bdr {a w : World} (h : Below a.heap.size a w) (n : Nat) : Below a.heap.size a (w.drewN n) := by
  induction n with
  | zero => exact h
  | succ n ih => exact ih.drew

/-- the table of cells' words lies where it was laid -/
def Wid (w : World) : Prop := 0 < w.heap.size ∧ w.cell? ⟨0, 0, none⟩ = some (.int .i64 4) ∧ w.cell? ⟨0, 1, none⟩ = some (.int .i64 8) ∧ w.cell? ⟨0, 2, none⟩ = some (.int .i64 16)
theorem Wid.on {w u : World} (h : Wid w) (hb : Below w.heap.size w u) : Wid u := by
  obtain ⟨h0, a0, a1, a2⟩ := h
  exact ⟨Nat.lt_of_lt_of_le h0 hb.size, (hb.cell h0).trans a0, (hb.cell h0).trans a1, (hb.cell h0).trans a2⟩
/-- nothing that was there has turned, over two steps -/
theorem bt {w u v : World} (h : Below w.heap.size w u) (hb : Below u.heap.size u v) : Below w.heap.size w v := h.trans (hb.mono h.size)

theorem cWithinT (n : Int) (h0 : 1 ≤ n) (h1 : n ≤ 64) (w : World) :
    Calls Tryd.prog 28 #[.int .i64 n, .int .i64 64] w fun e w' => e = .returned (.bool true) ∧ w' = w := by
  go_enter Tryd.func28, Tryd.ntmps28
  go_wp2
  go_ret
  exact ⟨rfl, rfl⟩

theorem cWithinL (n : Int) (h0 : n < 1) (w : World) :
    Calls Tryd.prog 28 #[.int .i64 n, .int .i64 64] w fun e w' => e = .returned (.bool false) ∧ w' = w := by
  go_enter Tryd.func28, Tryd.ntmps28
  go_wp2
  go_ret
  exact ⟨rfl, rfl⟩

theorem cWithinH (n : Int) (h0 : 1 ≤ n) (h1 : 64 < n) (w : World) :
    Calls Tryd.prog 28 #[.int .i64 n, .int .i64 64] w fun e w' => e = .returned (.bool false) ∧ w' = w := by
  have hd : decide (n ≤ 64) = false := decide_eq_false (by omega)
  go_enter Tryd.func28, Tryd.ntmps28
  go_wp2
  go_ret
  exact ⟨rfl, rfl⟩

theorem cUp (a : Int) (h0 : 0 ≤ a) (h1 : a ≤ 1000) (w : World) :
    Calls Tryd.prog 29 #[.int .i64 a] w fun e w' => e = .returned (.int .i64 (up a)) ∧ w' = w := by
  go_enter Tryd.func29, Tryd.ntmps29
  go_wp2
  go_ret
  exact ⟨ret_int (by unfold up; omega), rfl⟩

theorem cNew (t b : Int) (t0 : 1 ≤ t) (t1 : t ≤ 64) (b0 : 1 ≤ b) (b1 : b ≤ 64) (w : World) :
    Calls Tryd.prog 10 #[.int .i64 t, .int .i64 b] w fun e w' => e = .returned (.tuple #[.agg #[.int .i64 t, .int .i64 b, .int .i64 (10 + t), .int .i64 (hp t b), .int .i64 (hp t b + 32 * b)], .int .i64 0]) ∧ w' = w.alloc (.cells #[.int .i64 t, .int .i64 b, .int .i64 (10 + t), .int .i64 (hp t b), .int .i64 (hp t b + 32 * b)] 24) := by
  obtain ⟨g1, g2, g3, g4, g5⟩ := hp_bounds t0 t1 b0 b1
  have E : up (10 + t + b) = hp t b := rfl
  go_enter Tryd.func10, Tryd.ntmps10
  go_wp2_with (first
    | (go_at_call 28; refine (cWithinT _ (by assumption) (by assumption) _).mono ?_; rintro e w' ⟨rfl, rfl⟩)
    | (go_at_call 29; refine (cUp _ (by omega) (by omega) _).mono ?_; rintro e w' ⟨rfl, rfl⟩))
  exact bodyPost_ret (v := .tuple #[.agg #[.int .i64 t, .int .i64 b, .int .i64 (10 + t), .int .i64 (hp t b), .int .i64 (hp t b + 32 * b)], .int .i64 0]) (by simp [results, Tryd.results10, go_sem]) rfl ⟨rfl, rfl⟩

theorem cNewA (t b : Int) (t0 : t < 1) (w : World) :
    Calls Tryd.prog 10 #[.int .i64 t, .int .i64 b] w fun e w' => e = .returned (.tuple #[.agg #[.int .i64 0, .int .i64 0, .int .i64 0, .int .i64 0, .int .i64 0], .int .i64 1]) ∧ w' = w.alloc (.cells #[.int .i64 0, .int .i64 0, .int .i64 0, .int .i64 0, .int .i64 0] 24) := by
  go_enter Tryd.func10, Tryd.ntmps10
  go_wp2_with (first
    | (go_at_call 28; refine (cWithinT _ (by assumption) (by assumption) _).mono ?_; rintro e w' ⟨rfl, rfl⟩)
    | (go_at_call 28; refine (cWithinL _ (by assumption) _).mono ?_; rintro e w' ⟨rfl, rfl⟩)
    | (go_at_call 28; refine (cWithinH _ (by assumption) (by assumption) _).mono ?_; rintro e w' ⟨rfl, rfl⟩))
  exact bodyPost_ret (v := .tuple #[.agg #[.int .i64 0, .int .i64 0, .int .i64 0, .int .i64 0, .int .i64 0], .int .i64 1]) (by simp [results, Tryd.results10, go_sem]) rfl ⟨rfl, rfl⟩

theorem rNewA (t b : Int) (t0 : t < 1) (w : World) :
    Calls Tryd.prog 11 #[.int .i64 t, .int .i64 b] w fun e w' => e = .returned (.tuple #[.agg #[.int .i64 0, .int .i64 0, .int .i64 0, .int .i64 0, .int .i64 0], .int .i64 1]) ∧ w' = w.alloc (.cells #[.int .i64 0, .int .i64 0, .int .i64 0, .int .i64 0, .int .i64 0] 24) := by
  go_enter Tryd.func11, Tryd.ntmps11
  go_wp2
  exact bodyPost_ret (v := .tuple #[.agg #[.int .i64 0, .int .i64 0, .int .i64 0, .int .i64 0, .int .i64 0], .int .i64 1]) (by simp [results, Tryd.results11, go_sem]) rfl ⟨rfl, rfl⟩

theorem cNewB (t b : Int) (t0 : 1 ≤ t) (t1 : 64 < t) (w : World) :
    Calls Tryd.prog 10 #[.int .i64 t, .int .i64 b] w fun e w' => e = .returned (.tuple #[.agg #[.int .i64 0, .int .i64 0, .int .i64 0, .int .i64 0, .int .i64 0], .int .i64 1]) ∧ w' = w.alloc (.cells #[.int .i64 0, .int .i64 0, .int .i64 0, .int .i64 0, .int .i64 0] 24) := by
  go_enter Tryd.func10, Tryd.ntmps10
  go_wp2_with (first
    | (go_at_call 28; refine (cWithinT _ (by assumption) (by assumption) _).mono ?_; rintro e w' ⟨rfl, rfl⟩)
    | (go_at_call 28; refine (cWithinL _ (by assumption) _).mono ?_; rintro e w' ⟨rfl, rfl⟩)
    | (go_at_call 28; refine (cWithinH _ (by assumption) (by assumption) _).mono ?_; rintro e w' ⟨rfl, rfl⟩))
  exact bodyPost_ret (v := .tuple #[.agg #[.int .i64 0, .int .i64 0, .int .i64 0, .int .i64 0, .int .i64 0], .int .i64 1]) (by simp [results, Tryd.results10, go_sem]) rfl ⟨rfl, rfl⟩

theorem rNewB (t b : Int) (t0 : 1 ≤ t) (t1 : 64 < t) (w : World) :
    Calls Tryd.prog 11 #[.int .i64 t, .int .i64 b] w fun e w' => e = .returned (.tuple #[.agg #[.int .i64 0, .int .i64 0, .int .i64 0, .int .i64 0, .int .i64 0], .int .i64 1]) ∧ w' = w.alloc (.cells #[.int .i64 0, .int .i64 0, .int .i64 0, .int .i64 0, .int .i64 0] 24) := by
  go_enter Tryd.func11, Tryd.ntmps11
  go_wp2
  exact bodyPost_ret (v := .tuple #[.agg #[.int .i64 0, .int .i64 0, .int .i64 0, .int .i64 0, .int .i64 0], .int .i64 1]) (by simp [results, Tryd.results11, go_sem]) rfl ⟨rfl, rfl⟩

theorem cNewC (t b : Int) (t0 : 1 ≤ t) (t1 : t ≤ 64) (b0 : b < 1) (w : World) :
    Calls Tryd.prog 10 #[.int .i64 t, .int .i64 b] w fun e w' => e = .returned (.tuple #[.agg #[.int .i64 0, .int .i64 0, .int .i64 0, .int .i64 0, .int .i64 0], .int .i64 1]) ∧ w' = w.alloc (.cells #[.int .i64 0, .int .i64 0, .int .i64 0, .int .i64 0, .int .i64 0] 24) := by
  go_enter Tryd.func10, Tryd.ntmps10
  go_wp2_with (first
    | (go_at_call 28; refine (cWithinT _ (by assumption) (by assumption) _).mono ?_; rintro e w' ⟨rfl, rfl⟩)
    | (go_at_call 28; refine (cWithinL _ (by assumption) _).mono ?_; rintro e w' ⟨rfl, rfl⟩)
    | (go_at_call 28; refine (cWithinH _ (by assumption) (by assumption) _).mono ?_; rintro e w' ⟨rfl, rfl⟩))
  exact bodyPost_ret (v := .tuple #[.agg #[.int .i64 0, .int .i64 0, .int .i64 0, .int .i64 0, .int .i64 0], .int .i64 1]) (by simp [results, Tryd.results10, go_sem]) rfl ⟨rfl, rfl⟩

theorem rNewC (t b : Int) (t0 : 1 ≤ t) (t1 : t ≤ 64) (b0 : b < 1) (w : World) :
    Calls Tryd.prog 11 #[.int .i64 t, .int .i64 b] w fun e w' => e = .returned (.tuple #[.agg #[.int .i64 0, .int .i64 0, .int .i64 0, .int .i64 0, .int .i64 0], .int .i64 1]) ∧ w' = w.alloc (.cells #[.int .i64 0, .int .i64 0, .int .i64 0, .int .i64 0, .int .i64 0] 24) := by
  go_enter Tryd.func11, Tryd.ntmps11
  go_wp2
  exact bodyPost_ret (v := .tuple #[.agg #[.int .i64 0, .int .i64 0, .int .i64 0, .int .i64 0, .int .i64 0], .int .i64 1]) (by simp [results, Tryd.results11, go_sem]) rfl ⟨rfl, rfl⟩

theorem cNewD (t b : Int) (t0 : 1 ≤ t) (t1 : t ≤ 64) (b0 : 1 ≤ b) (b1 : 64 < b) (w : World) :
    Calls Tryd.prog 10 #[.int .i64 t, .int .i64 b] w fun e w' => e = .returned (.tuple #[.agg #[.int .i64 0, .int .i64 0, .int .i64 0, .int .i64 0, .int .i64 0], .int .i64 1]) ∧ w' = w.alloc (.cells #[.int .i64 0, .int .i64 0, .int .i64 0, .int .i64 0, .int .i64 0] 24) := by
  go_enter Tryd.func10, Tryd.ntmps10
  go_wp2_with (first
    | (go_at_call 28; refine (cWithinT _ (by assumption) (by assumption) _).mono ?_; rintro e w' ⟨rfl, rfl⟩)
    | (go_at_call 28; refine (cWithinL _ (by assumption) _).mono ?_; rintro e w' ⟨rfl, rfl⟩)
    | (go_at_call 28; refine (cWithinH _ (by assumption) (by assumption) _).mono ?_; rintro e w' ⟨rfl, rfl⟩))
  exact bodyPost_ret (v := .tuple #[.agg #[.int .i64 0, .int .i64 0, .int .i64 0, .int .i64 0, .int .i64 0], .int .i64 1]) (by simp [results, Tryd.results10, go_sem]) rfl ⟨rfl, rfl⟩

theorem rNewD (t b : Int) (t0 : 1 ≤ t) (t1 : t ≤ 64) (b0 : 1 ≤ b) (b1 : 64 < b) (w : World) :
    Calls Tryd.prog 11 #[.int .i64 t, .int .i64 b] w fun e w' => e = .returned (.tuple #[.agg #[.int .i64 0, .int .i64 0, .int .i64 0, .int .i64 0, .int .i64 0], .int .i64 1]) ∧ w' = w.alloc (.cells #[.int .i64 0, .int .i64 0, .int .i64 0, .int .i64 0, .int .i64 0] 24) := by
  go_enter Tryd.func11, Tryd.ntmps11
  go_wp2
  exact bodyPost_ret (v := .tuple #[.agg #[.int .i64 0, .int .i64 0, .int .i64 0, .int .i64 0, .int .i64 0], .int .i64 1]) (by simp [results, Tryd.results11, go_sem]) rfl ⟨rfl, rfl⟩

theorem cWordsL (n : Int) (h : n < 0) (w : World) :
    Calls Tryd.prog 12 #[.int .i64 n] w fun e w' => e = .returned (.int .i64 0) ∧ w' = w := by
  go_enter Tryd.func12, Tryd.ntmps12
  go_wp2
  go_ret
  exact ⟨rfl, rfl⟩

theorem cWordsH (n : Int) (h0 : 0 ≤ n) (h : 3 ≤ n) (w : World) :
    Calls Tryd.prog 12 #[.int .i64 n] w fun e w' => e = .returned (.int .i64 0) ∧ w' = w := by
  go_enter Tryd.func12, Tryd.ntmps12
  go_wp2
  go_ret
  exact ⟨rfl, rfl⟩

theorem cWords0 (w : World) (W : Wid w) :
    Calls Tryd.prog 12 #[.int .i64 0] w fun e w' => e = .returned (.int .i64 4) ∧ w' = w := by
  obtain ⟨v, k0, k1, k2⟩ := W
  go_enter Tryd.func12, Tryd.ntmps12
  go_wp2
  go_ret
  exact ⟨rfl, rfl⟩

theorem cWords1 (w : World) (W : Wid w) :
    Calls Tryd.prog 12 #[.int .i64 1] w fun e w' => e = .returned (.int .i64 8) ∧ w' = w := by
  obtain ⟨v, k0, k1, k2⟩ := W
  go_enter Tryd.func12, Tryd.ntmps12
  go_wp2
  go_ret
  exact ⟨rfl, rfl⟩

theorem cWords2 (w : World) (W : Wid w) :
    Calls Tryd.prog 12 #[.int .i64 2] w fun e w' => e = .returned (.int .i64 16) ∧ w' = w := by
  obtain ⟨v, k0, k1, k2⟩ := W
  go_enter Tryd.func12, Tryd.ntmps12
  go_wp2
  go_ret
  exact ⟨rfl, rfl⟩

theorem cWords (n : Int) (w : World) (W : Wid w) :
    Calls Tryd.prog 12 #[.int .i64 n] w fun e w' => e = .returned (.int .i64 (wd n)) ∧ w' = w := by
  rcases ways3 n with h | h | rfl | rfl | rfl
  · rw [wd_lo h]; exact cWordsL n h w
  · rw [wd_hi h]; exact cWordsH n (by omega) h w
  · exact cWords0 w W
  · exact cWords1 w W
  · exact cWords2 w W

theorem rWords (n : Int) (w : World) :
    Calls Tryd.prog 13 #[.int .i64 n] w fun e w' => e = .returned (.int .i64 (wd n)) ∧ w' = w := by
  rcases ways3 n with h | h | rfl | rfl | rfl
  · rw [wd_lo h]
    have a0 : (n == 0) = false := by simp; omega
    have a1 : (n == 1) = false := by simp; omega
    have a2 : (n == 2) = false := by simp; omega
    go_enter Tryd.func13, Tryd.ntmps13
    go_wp2
    go_ret
    exact ⟨rfl, rfl⟩
  · rw [wd_hi h]
    have a0 : (n == 0) = false := by simp; omega
    have a1 : (n == 1) = false := by simp; omega
    have a2 : (n == 2) = false := by simp; omega
    go_enter Tryd.func13, Tryd.ntmps13
    go_wp2
    go_ret
    exact ⟨rfl, rfl⟩
  all_goals
    go_enter Tryd.func13, Tryd.ntmps13
    go_wp2
    go_ret
    exact ⟨rfl, rfl⟩

theorem cCells (n : Int) (w : World) (W : Wid w) :
    Calls Tryd.prog 14 #[.int .i64 n] w fun e w' => e = .returned (.int .i64 (cs n)) ∧ w' = w := by
  rcases ways3 n with h | h | rfl | rfl | rfl
  · rw [cs_lo h]
    have E := wd_lo h
    go_enter Tryd.func14, Tryd.ntmps14
    go_wp2_with (go_at_call 12; refine (cWords n _ W).mono ?_; rintro e w' ⟨rfl, rfl⟩)
    go_ret
    exact ⟨rfl, rfl⟩
  · rw [cs_hi h]
    have E := wd_hi h
    go_enter Tryd.func14, Tryd.ntmps14
    go_wp2_with (go_at_call 12; refine (cWords n _ W).mono ?_; rintro e w' ⟨rfl, rfl⟩)
    go_ret
    exact ⟨rfl, rfl⟩
  · have E : wd 0 = 4 := rfl
    go_enter Tryd.func14, Tryd.ntmps14
    go_wp2_with (go_at_call 12; refine (cWords 0 _ W).mono ?_; rintro e w' ⟨rfl, rfl⟩)
    go_ret
    exact ⟨rfl, rfl⟩
  · have E : wd 1 = 8 := rfl
    go_enter Tryd.func14, Tryd.ntmps14
    go_wp2_with (go_at_call 12; refine (cWords 1 _ W).mono ?_; rintro e w' ⟨rfl, rfl⟩)
    go_ret
    exact ⟨rfl, rfl⟩
  · have E : wd 2 = 16 := rfl
    go_enter Tryd.func14, Tryd.ntmps14
    go_wp2_with (go_at_call 12; refine (cWords 2 _ W).mono ?_; rintro e w' ⟨rfl, rfl⟩)
    go_ret
    exact ⟨rfl, rfl⟩

theorem rCells (n : Int) (w : World) :
    Calls Tryd.prog 15 #[.int .i64 n] w fun e w' => e = .returned (.int .i64 (cs n)) ∧ w' = w := by
  rcases ways3 n with h | h | rfl | rfl | rfl
  · rw [cs_lo h]
    have E := wd_lo h
    go_enter Tryd.func15, Tryd.ntmps15
    go_wp2_with (go_at_call 13; refine (rWords n _).mono ?_; rintro e w' ⟨rfl, rfl⟩)
    go_ret
    exact ⟨rfl, rfl⟩
  · rw [cs_hi h]
    have E := wd_hi h
    go_enter Tryd.func15, Tryd.ntmps15
    go_wp2_with (go_at_call 13; refine (rWords n _).mono ?_; rintro e w' ⟨rfl, rfl⟩)
    go_ret
    exact ⟨rfl, rfl⟩
  · have E : wd 0 = 4 := rfl
    go_enter Tryd.func15, Tryd.ntmps15
    go_wp2_with (go_at_call 13; refine (rWords 0 _).mono ?_; rintro e w' ⟨rfl, rfl⟩)
    go_ret
    exact ⟨rfl, rfl⟩
  · have E : wd 1 = 8 := rfl
    go_enter Tryd.func15, Tryd.ntmps15
    go_wp2_with (go_at_call 13; refine (rWords 1 _).mono ?_; rintro e w' ⟨rfl, rfl⟩)
    go_ret
    exact ⟨rfl, rfl⟩
  · have E : wd 2 = 16 := rfl
    go_enter Tryd.func15, Tryd.ntmps15
    go_wp2_with (go_at_call 13; refine (rWords 2 _).mono ?_; rintro e w' ⟨rfl, rfl⟩)
    go_ret
    exact ⟨rfl, rfl⟩

theorem cClass (n : Int) (w : World) (W : Wid w) :
    Calls Tryd.prog 16 #[.int .i64 n] w fun e w' => e = .returned (.int .i64 (cl n)) ∧ w' = w := by
  obtain ⟨v, k0, k1, k2⟩ := W
  rcases cl_ways n with h | ⟨h, h'⟩ | ⟨h, h'⟩ | h
  · rw [cl_lo h]
    go_enter Tryd.func16, Tryd.ntmps16
    go_wp2
    refine wp_loop_rounds 3 ?_
    iterate 3
      rw [rounds_succ]
      go_wp2
    go_ret
    exact ⟨rfl, rfl⟩
  · rw [cl_0 h h']
    go_enter Tryd.func16, Tryd.ntmps16
    go_wp2
    refine wp_loop_rounds 1 ?_
    rw [rounds_succ]
    go_wp2
    go_ret
    exact ⟨rfl, rfl⟩
  · rw [cl_1 h h']
    go_enter Tryd.func16, Tryd.ntmps16
    go_wp2
    refine wp_loop_rounds 2 ?_
    iterate 2
      rw [rounds_succ]
      go_wp2
    go_ret
    exact ⟨rfl, rfl⟩
  · rw [cl_hi h]
    go_enter Tryd.func16, Tryd.ntmps16
    go_wp2
    refine wp_loop_rounds 3 ?_
    iterate 3
      rw [rounds_succ]
      go_wp2
    go_ret
    exact ⟨rfl, rfl⟩

theorem rClass (n : Int) (w : World) :
    Calls Tryd.prog 17 #[.int .i64 n] w fun e w' => e = .returned (.int .i64 (cl n)) ∧ w' = w := by
  rcases cl_ways n with h | ⟨h, h'⟩ | ⟨h, h'⟩ | h
  · rw [cl_lo h]
    go_enter Tryd.func17, Tryd.ntmps17
    go_wp2
    go_ret
    exact ⟨rfl, rfl⟩
  · rw [cl_0 h h']
    go_enter Tryd.func17, Tryd.ntmps17
    go_wp2
    go_ret
    exact ⟨rfl, rfl⟩
  · rw [cl_1 h h']
    go_enter Tryd.func17, Tryd.ntmps17
    go_wp2
    go_ret
    exact ⟨rfl, rfl⟩
  · rw [cl_hi h]
    go_enter Tryd.func17, Tryd.ntmps17
    go_wp2
    go_ret
    exact ⟨rfl, rfl⟩

theorem cAck (p0 p1 p2 p3 p4 : Int) (i : Int) (h0 : 0 ≤ i) (h1 : i ≤ 1000) (w : World) :
    Calls Tryd.prog 20 #[.agg #[.int .i64 p0, .int .i64 p1, .int .i64 p2, .int .i64 p3, .int .i64 p4], .int .i64 i] w fun e w' => e = .returned (.int .i64 (10 + i)) ∧ w' = w.alloc (.cells #[.int .i64 p0, .int .i64 p1, .int .i64 p2, .int .i64 p3, .int .i64 p4] 24) := by
  go_enter Tryd.func20, Tryd.ntmps20
  go_wp2
  go_ret
  exact ⟨rfl, rfl⟩

theorem rAck (p0 p1 p2 p3 p4 : Int) (i : Int) (h0 : 0 ≤ i) (h1 : i ≤ 1000) (w : World) :
    Calls Tryd.prog 21 #[.agg #[.int .i64 p0, .int .i64 p1, .int .i64 p2, .int .i64 p3, .int .i64 p4], .int .i64 i] w fun e w' => e = .returned (.int .i64 (10 + i)) ∧ w' = w.alloc (.cells #[.int .i64 p0, .int .i64 p1, .int .i64 p2, .int .i64 p3, .int .i64 p4] 24) := by
  go_enter Tryd.func21, Tryd.ntmps21
  go_wp2
  go_ret
  exact ⟨rfl, rfl⟩

theorem cEntry (p0 p1 p2 p3 p4 : Int) (i : Int) (h0 : 0 ≤ i) (h1 : i ≤ 1000) (q0 : 0 ≤ p2) (q1 : p2 ≤ 1000) (w : World) :
    Calls Tryd.prog 22 #[.agg #[.int .i64 p0, .int .i64 p1, .int .i64 p2, .int .i64 p3, .int .i64 p4], .int .i64 i] w fun e w' => e = .returned (.int .i64 (p2 + i)) ∧ w' = w.alloc (.cells #[.int .i64 p0, .int .i64 p1, .int .i64 p2, .int .i64 p3, .int .i64 p4] 24) := by
  go_enter Tryd.func22, Tryd.ntmps22
  go_wp2
  go_ret
  exact ⟨rfl, rfl⟩

theorem rEntry (p0 p1 p2 p3 p4 : Int) (i : Int) (h0 : 0 ≤ i) (h1 : i ≤ 1000) (q0 : 0 ≤ p2) (q1 : p2 ≤ 1000) (w : World) :
    Calls Tryd.prog 23 #[.agg #[.int .i64 p0, .int .i64 p1, .int .i64 p2, .int .i64 p3, .int .i64 p4], .int .i64 i] w fun e w' => e = .returned (.int .i64 (p2 + i)) ∧ w' = w.alloc (.cells #[.int .i64 p0, .int .i64 p1, .int .i64 p2, .int .i64 p3, .int .i64 p4] 24) := by
  go_enter Tryd.func23, Tryd.ntmps23
  go_wp2
  go_ret
  exact ⟨rfl, rfl⟩

theorem cList (s c : Int) (h0 : 0 ≤ s) (h1 : s ≤ 1) (q0 : 0 ≤ c) (q1 : c ≤ 2) (w : World) :
    Calls Tryd.prog 26 #[.int .i64 s, .int .i64 c] w fun e w' => e = .returned (.int .i64 (3 + 3 * s + c)) ∧ w' = w := by
  go_enter Tryd.func26, Tryd.ntmps26
  go_wp2
  go_ret
  exact ⟨rfl, rfl⟩

theorem rList (s c : Int) (h0 : 0 ≤ s) (h1 : s ≤ 1) (q0 : 0 ≤ c) (q1 : c ≤ 2) (w : World) :
    Calls Tryd.prog 27 #[.int .i64 s, .int .i64 c] w fun e w' => e = .returned (.int .i64 (3 + 3 * s + c)) ∧ w' = w := by
  go_enter Tryd.func27, Tryd.ntmps27
  go_wp2
  go_ret
  exact ⟨rfl, rfl⟩

theorem cBlockL (p0 p1 p2 p3 p4 : Int) (a : Int) (q0 : 0 ≤ p3) (q1 : p3 ≤ 10000) (q2 : 0 ≤ p4) (q3 : p4 ≤ 10000) (h : a < p3) (w : World) :
    Calls Tryd.prog 18 #[.agg #[.int .i64 p0, .int .i64 p1, .int .i64 p2, .int .i64 p3, .int .i64 p4], .int .i64 a] w fun e w' => e = .returned (.int .i64 (-1)) ∧ w' = w.alloc (.cells #[.int .i64 p0, .int .i64 p1, .int .i64 p2, .int .i64 p3, .int .i64 p4] 24) := by
  go_enter Tryd.func18, Tryd.ntmps18
  go_wp2
  go_ret
  exact ⟨rfl, rfl⟩

theorem cBlockH (p0 p1 p2 p3 p4 : Int) (a : Int) (q0 : 0 ≤ p3) (q1 : p3 ≤ 10000) (q2 : 0 ≤ p4) (q3 : p4 ≤ 10000) (h : p3 ≤ a) (h' : p4 ≤ a) (w : World) :
    Calls Tryd.prog 18 #[.agg #[.int .i64 p0, .int .i64 p1, .int .i64 p2, .int .i64 p3, .int .i64 p4], .int .i64 a] w fun e w' => e = .returned (.int .i64 (-1)) ∧ w' = w.alloc (.cells #[.int .i64 p0, .int .i64 p1, .int .i64 p2, .int .i64 p3, .int .i64 p4] 24) := by
  go_enter Tryd.func18, Tryd.ntmps18
  go_wp2
  go_ret
  exact ⟨rfl, rfl⟩

theorem cBlockI (p0 p1 p2 p3 p4 : Int) (a : Int) (q0 : 0 ≤ p3) (q1 : p3 ≤ 10000) (q2 : 0 ≤ p4) (q3 : p4 ≤ 10000) (h : p3 ≤ a) (h' : a < p4) (w : World) :
    Calls Tryd.prog 18 #[.agg #[.int .i64 p0, .int .i64 p1, .int .i64 p2, .int .i64 p3, .int .i64 p4], .int .i64 a] w fun e w' => e = .returned (.int .i64 ((a - p3) / 32)) ∧ w' = w.alloc (.cells #[.int .i64 p0, .int .i64 p1, .int .i64 p2, .int .i64 p3, .int .i64 p4] 24) := by
  go_enter Tryd.func18, Tryd.ntmps18
  go_wp2
  go_ret
  exact ⟨rfl, rfl⟩

theorem cBlock (p0 p1 p2 p3 p4 : Int) (a : Int) (q0 : 0 ≤ p3) (q1 : p3 ≤ 10000) (q2 : 0 ≤ p4) (q3 : p4 ≤ 10000) (w : World) :
    Calls Tryd.prog 18 #[.agg #[.int .i64 p0, .int .i64 p1, .int .i64 p2, .int .i64 p3, .int .i64 p4], .int .i64 a] w fun e w' => e = .returned (.int .i64 (bk p3 p4 a)) ∧ w' = w.alloc (.cells #[.int .i64 p0, .int .i64 p1, .int .i64 p2, .int .i64 p3, .int .i64 p4] 24) := by
  by_cases h : a < p3
  · rw [bk_lo h]; exact cBlockL p0 p1 p2 p3 p4 a q0 q1 q2 q3 h w
  by_cases h' : a < p4
  · rw [bk_in (by omega) h']; exact cBlockI p0 p1 p2 p3 p4 a q0 q1 q2 q3 (by omega) h' w
  · rw [bk_hi (by omega)]; exact cBlockH p0 p1 p2 p3 p4 a q0 q1 q2 q3 (by omega) (by omega) w

set_option maxHeartbeats 800000 in
theorem rBlock (p0 p1 p2 p3 p4 : Int) (a : Int) (q0 : 0 ≤ p3) (q1 : p3 ≤ 10000) (q2 : 0 ≤ p1) (q3 : p1 ≤ 100) (hp4 : p4 = p3 + 32 * p1) (w : World) :
    Calls Tryd.prog 19 #[.agg #[.int .i64 p0, .int .i64 p1, .int .i64 p2, .int .i64 p3, .int .i64 p4], .int .i64 a] w fun e w' => e = .returned (.int .i64 (bk p3 p4 a)) ∧ w' = w.alloc (.cells #[.int .i64 p0, .int .i64 p1, .int .i64 p2, .int .i64 p3, .int .i64 p4] 24) := by
  have HP : Hid (p4 = p3 + 32 * p1) := hp4
  clear hp4
  go_enter Tryd.func19, Tryd.ntmps19
  go_wp2
  go_loop [5] (fun i => ∃ k : Nat, (k : Int) ≤ p1 ∧ i = .int .i64 k ∧ (a < p3 ∨ p3 + 32 * k ≤ a)) (fun i => p1.toNat - (intOf i).toNat)
  case atStart => exact ⟨0, by omega, rfl, by omega⟩
  case round =>
    obtain ⟨k, hk, rfl, hr⟩ := hrel
    by_cases hlt : (k : Int) < p1
    case neg =>
      have E : bk p3 p4 a = -1 := by
        rcases hr with hr | hr
        · exact bk_lo hr
        · exact bk_hi (by rw [HP.out]; omega)
      go_wp2
      go_ret
      exact ⟨rfl, rfl⟩
    case pos =>
      by_cases h1 : p3 + 32 * (k : Int) ≤ a
      case neg =>
        have h3 : a < p3 := by omega
        clear hr
        go_wp2
        go_round
        case rel => exact ⟨k + 1, by omega, by go_num, by omega⟩
        case measure => simp [intOf]; omega
      case pos =>
        by_cases h2 : a < p3 + 32 * (k : Int) + 32
        case pos =>
          have E : bk p3 p4 a = k := by rw [bk_in (by omega) (by rw [HP.out]; omega)]; omega
          clear hr
          go_wp2
          go_ret
          exact ⟨rfl, rfl⟩
        case neg =>
          clear hr
          go_wp2
          go_round
          case rel => exact ⟨k + 1, by omega, by go_num, by omega⟩
          case measure => simp [intOf]; omega

end Go.Proofs.YtfohcacngmiklaaDoor
