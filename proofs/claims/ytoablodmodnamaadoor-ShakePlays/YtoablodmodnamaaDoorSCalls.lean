/-
  What each function of layer 3 comes to when it is called: one contract a function.
-/
import Derived.Test.YtoablodmodnamaaDoorRows
import Derived.Test.YtoablodmodnamaaDoorSPlain
import Derived.WalkKit
import Derived.ProofKit
import Derived.OpenShut
import Derived.Below
import Derived.WalkSpells
import Derived.WalkLawsBesides
import Derived.Outline
import Derived.BigQuiet
import Derived.Deep.QuietTactic
import Derived.Handy
namespace Go.Proofs.YtoablodmodnamaaDoor.S
open Go.ChangeShapes Go.WideShapes Go.ChangeAt Go.RowKit
open Plain

/-- behind a new block nothing that was there has turned -/
theorem bal {a w : World} (h : Below a.heap.size a w) (o : Obj) : Below a.heap.size a (w.alloc o) := h.alloc h.size o
theorem bdr {a w : World} (h : Below a.heap.size a w) (n : Nat) : Below a.heap.size a (w.drewN n) := by
  induction n with
  | zero => exact h
  | succ n ih => exact ih.drew
theorem bt {a u v : World} (h : Below a.heap.size a u) (hb : Below u.heap.size u v) : Below a.heap.size a v := h.trans (hb.mono h.size)

theorem cCutU (a n p : Int) (hp : (n = 12 ∧ p = 4096) ∨ (n = 40 ∧ p = 1099511627776) ∨ (n = 4 ∧ p = 16) ∨ (n = 1 ∧ p = 2) ∨ (n = 2 ∧ p = 4) ∨ (n = 7 ∧ p = 128)) (w : World) :
    Calls Tryd.prog 81 #[.int .i64 a, .int .i64 n] w fun e w' => e = .returned (.int .u64 (a % p)) ∧ w' = w := by
  have e12 : bits BinOp.and IntKind.i64 a 4095 = a % 4096 := iand12 a
  have e40 : bits BinOp.and IntKind.i64 a 1099511627775 = a % 1099511627776 := iand40 a
  have e4 : bits BinOp.and IntKind.i64 a 15 = a % 16 := iand4 a
  have e1 : bits BinOp.and IntKind.i64 a 1 = a % 2 := iand1 a
  have e2 : bits BinOp.and IntKind.i64 a 3 = a % 4 := iand2 a
  have e7 : bits BinOp.and IntKind.i64 a 127 = a % 128 := iand7 a
  rcases hp with ⟨rfl, rfl⟩ | ⟨rfl, rfl⟩ | ⟨rfl, rfl⟩ | ⟨rfl, rfl⟩ | ⟨rfl, rfl⟩ | ⟨rfl, rfl⟩ <;>
  · go_enter Tryd.func81, Tryd.ntmps81
    go_wp2
    go_ret
    exact ⟨rfl, rfl⟩

theorem cCutI (a n p : Int) (h : 0 ≤ a) (h' : a ≤ 18446744073709551615) (hp : (n = 12 ∧ p = 4096) ∨ (n = 40 ∧ p = 1099511627776) ∨ (n = 4 ∧ p = 16) ∨ (n = 1 ∧ p = 2) ∨ (n = 2 ∧ p = 4) ∨ (n = 7 ∧ p = 128)) (w : World) :
    Calls Tryd.prog 83 #[.int .u64 a, .int .i64 n] w fun e w' => e = .returned (.int .i64 (a % p)) ∧ w' = w := by
  have e12 : bits BinOp.and IntKind.u64 a 4095 = a % 4096 := uand12 h (by omega)
  have e40 : bits BinOp.and IntKind.u64 a 1099511627775 = a % 1099511627776 := uand40 h (by omega)
  have e4 : bits BinOp.and IntKind.u64 a 15 = a % 16 := uand4 h (by omega)
  have e1 : bits BinOp.and IntKind.u64 a 1 = a % 2 := uand1 h (by omega)
  have e2 : bits BinOp.and IntKind.u64 a 3 = a % 4 := uand2 h (by omega)
  have e7 : bits BinOp.and IntKind.u64 a 127 = a % 128 := uand7 h (by omega)
  rcases hp with ⟨rfl, rfl⟩ | ⟨rfl, rfl⟩ | ⟨rfl, rfl⟩ | ⟨rfl, rfl⟩ | ⟨rfl, rfl⟩ | ⟨rfl, rfl⟩ <;>
  · go_enter Tryd.func83, Tryd.ntmps83
    go_wp2
    go_ret
    exact ⟨rfl, rfl⟩

theorem cTop (x y : Int) (w : World) :
    Calls Tryd.prog 99 #[.agg #[.int .i64 x, .int .i64 y]] w fun e w' => e = .returned (.int .u64 (tw x y)) ∧ ∃ m, w' = (w.alloc (.cells #[.int .i64 x, .int .i64 y] 91)).drewN m := by
  have E : Hid (_ = tw x y) := joinTop x y
  go_enter Tryd.func99, Tryd.ntmps99
  go_wp2
  go_quiet ((go_at_call 81; exact Calls.quiet_of_same (cCutU _ _ _ (by first | exact Or.inl ⟨rfl, rfl⟩ | exact Or.inr (Or.inl ⟨rfl, rfl⟩) | exact Or.inr (Or.inr (Or.inl ⟨rfl, rfl⟩)) | exact Or.inr (Or.inr (Or.inr (Or.inl ⟨rfl, rfl⟩))) | exact Or.inr (Or.inr (Or.inr (Or.inr (Or.inl ⟨rfl, rfl⟩)))) | exact Or.inr (Or.inr (Or.inr (Or.inr (Or.inr (⟨rfl, rfl⟩)))))) _)))
  go_wp2
  go_ret
  refine ⟨?_, _, rfl⟩
  rw [← E.out]
  rfl

theorem cPhase (x y z u : Int) (w : World) :
    Calls Tryd.prog 40 #[.agg #[.int .i64 x, .int .i64 y, .int .i64 z, .int .i64 u]] w fun e w' => e = .returned (.int .u64 (pw x y z u)) ∧ ∃ m, w' = (w.alloc (.cells #[.int .i64 x, .int .i64 y, .int .i64 z, .int .i64 u] 37)).drewN m := by
  have E : Hid (_ = pw x y z u) := joinPhase x y z u
  go_enter Tryd.func40, Tryd.ntmps40
  go_wp2
  go_quiet ((go_at_call 81; exact Calls.quiet_of_same (cCutU _ _ _ (by first | exact Or.inl ⟨rfl, rfl⟩ | exact Or.inr (Or.inl ⟨rfl, rfl⟩) | exact Or.inr (Or.inr (Or.inl ⟨rfl, rfl⟩)) | exact Or.inr (Or.inr (Or.inr (Or.inl ⟨rfl, rfl⟩))) | exact Or.inr (Or.inr (Or.inr (Or.inr (Or.inl ⟨rfl, rfl⟩)))) | exact Or.inr (Or.inr (Or.inr (Or.inr (Or.inr (⟨rfl, rfl⟩)))))) _)))
  go_wp2
  go_ret
  refine ⟨?_, _, rfl⟩
  rw [← E.out]
  rfl

theorem cOfTop (a : Int) (h : 0 ≤ a) (h' : a ≤ 18446744073709551615) (w : World) :
    Calls Tryd.prog 75 #[.int .u64 a] w fun e w' => e = .returned (.agg #[.int .i64 (t0 a), .int .i64 (t1 a)]) ∧ w' = w.alloc (.cells #[.int .i64 (t0 a), .int .i64 (t1 a)] 91) := by
  go_enter Tryd.func75, Tryd.ntmps75
  go_wp2_with (go_at_call 83; refine (cCutI _ _ _ (by omega) (by omega) (by first | exact Or.inl ⟨rfl, rfl⟩ | exact Or.inr (Or.inl ⟨rfl, rfl⟩) | exact Or.inr (Or.inr (Or.inl ⟨rfl, rfl⟩)) | exact Or.inr (Or.inr (Or.inr (Or.inl ⟨rfl, rfl⟩))) | exact Or.inr (Or.inr (Or.inr (Or.inr (Or.inl ⟨rfl, rfl⟩)))) | exact Or.inr (Or.inr (Or.inr (Or.inr (Or.inr (⟨rfl, rfl⟩)))))) _).mono ?_; rintro e w' ⟨rfl, rfl⟩)
  exact bodyPost_ret (v := .agg #[.int .i64 (t0 a), .int .i64 (t1 a)]) (by simp [results, Tryd.results75, go_sem, t0, t1]) rfl ⟨rfl, by simp [t0, t1]⟩

theorem cOfPhase (a : Int) (h : 0 ≤ a) (h' : a ≤ 18446744073709551615) (w : World) :
    Calls Tryd.prog 46 #[.int .u64 a] w fun e w' => e = .returned (.agg #[.int .i64 (p0 a), .int .i64 (p1 a), .int .i64 (p2 a), .int .i64 (p3 a)]) ∧ w' = w.alloc (.cells #[.int .i64 (p0 a), .int .i64 (p1 a), .int .i64 (p2 a), .int .i64 (p3 a)] 37) := by
  go_enter Tryd.func46, Tryd.ntmps46
  go_wp2_with (go_at_call 83; refine (cCutI _ _ _ (by omega) (by omega) (by first | exact Or.inl ⟨rfl, rfl⟩ | exact Or.inr (Or.inl ⟨rfl, rfl⟩) | exact Or.inr (Or.inr (Or.inl ⟨rfl, rfl⟩)) | exact Or.inr (Or.inr (Or.inr (Or.inl ⟨rfl, rfl⟩))) | exact Or.inr (Or.inr (Or.inr (Or.inr (Or.inl ⟨rfl, rfl⟩)))) | exact Or.inr (Or.inr (Or.inr (Or.inr (Or.inr (⟨rfl, rfl⟩)))))) _).mono ?_; rintro e w' ⟨rfl, rfl⟩)
  exact bodyPost_ret (v := .agg #[.int .i64 (p0 a), .int .i64 (p1 a), .int .i64 (p2 a), .int .i64 (p3 a)]) (by simp [results, Tryd.results46, go_sem, p0, p1, p2, p3]) rfl ⟨rfl, by simp [p0, p1, p2, p3]⟩

theorem gTop (x y : Int) (w : World) :
    Calls Tryd.prog 99 #[.agg #[.int .i64 x, .int .i64 y]] w fun e w' => e = .returned (.int .u64 (tw x y)) ∧ Below w.heap.size w w' :=
  (cTop x y w).mono fun _ _ ⟨he, _, hw⟩ => ⟨he, hw ▸ bdr (bal (Below.refl _ _) _) _⟩
theorem gPhase (x y z u : Int) (w : World) :
    Calls Tryd.prog 40 #[.agg #[.int .i64 x, .int .i64 y, .int .i64 z, .int .i64 u]] w fun e w' => e = .returned (.int .u64 (pw x y z u)) ∧ Below w.heap.size w w' :=
  (cPhase x y z u w).mono fun _ _ ⟨he, _, hw⟩ => ⟨he, hw ▸ bdr (bal (Below.refl _ _) _) _⟩
theorem t1_bounds (a : Int) : 0 ≤ t1 a ∧ t1 a < 1099511627776 := by unfold t1; omega

theorem field1 (x y : Int) (w : World) : (Instr.field 91 (.agg #[.int .i64 x, .int .i64 y]) 1).run Tryd.prog w = .ok (.int .i64 y) w := by kernel_rfl

theorem gNext (a x : Int) (h : 0 ≤ a) (h' : a ≤ 18446744073709551615) (w : World) :
    Calls Tryd.prog 65 #[.int .u64 a, .int .i64 x] w fun e w' => e = .returned (.int .u64 (nx a x)) ∧ Below w.heap.size w w' := by
  obtain ⟨v0, v1⟩ := t1_bounds a
  have f1 := field1 (t0 a) (t1 a)
  go_enter Tryd.func65, Tryd.ntmps65
  go_wp2_with (first
    | (go_at_call 75; refine (cOfTop a h h' _).mono ?_; rintro e w1 ⟨rfl, rfl⟩)
    | (go_at_call 99; refine (gTop _ _ _).mono ?_; rintro e w2 ⟨rfl, hb⟩))
  go_ret
  exact ⟨rfl, bt (bal (Below.refl _ _) _) hb⟩

/-! ### the document's examples -/
end Go.Proofs.YtoablodmodnamaaDoor.S
