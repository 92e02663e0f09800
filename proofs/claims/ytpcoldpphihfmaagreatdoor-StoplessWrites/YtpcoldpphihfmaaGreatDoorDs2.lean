/-
  The machines of layer 12 step.
-/
import Derived.Test.YtpcoldpphihfmaaGreatDoorDd
import Derived.Shelf.Abstract
namespace Go.Proofs.YtpcoldpphihfmaaGreatDoor
set_option linter.unusedVariables false
set_option maxRecDepth 100000
open Go.ChangeShapes Go.WideShapes Go.RowKit
section
variable {w : World} {L : Loc} {s : St} {p : Nat} {T : TypeId}
/-- nothing is to be done -/
theorem cState0 {h : Bool} {c k n : Int} {y : Bool} (A : At 132 w L s p T #[.nilFunc, .bool h, .int .i64 c, .int .i64 k, .int .i64 n, .bool y]) :
    Calls Tryz.prog 160 #[pt p, pt L.b] w fun e w' => e = .returned (.bool true) ∧ w' = w := by
  have c0 : w.cell? ⟨p, 0, none⟩ = some .nilFunc := A.cell 0
  have n1 : ∀ w, (binOp .neq 107 .nilFunc .nilFunc).run Tryz.prog w = .ok (.bool false) w := fun _ => by kernel_rfl
  have n2 : ∀ w, (binOp .eql 107 .nilFunc .nilFunc).run Tryz.prog w = .ok (.bool true) w := fun _ => by kernel_rfl
  go_enter Tryz.func160, Tryz.ntmps160
  go_wp2
  go_ret
  exact ⟨rfl, rfl⟩
theorem fneq (f : Nat) (cs : Array Value) (w : World) : (binOp .neq 107 (.func (.func f) #[] cs) .nilFunc).run Tryz.prog w = .ok (.bool true) w := by kernel_rfl
theorem feql (f : Nat) (cs : Array Value) (w : World) : (binOp .eql 107 (.func (.func f) #[] cs) .nilFunc).run Tryz.prog w = .ok (.bool false) w := by kernel_rfl
theorem RepO.put6 {TM : TypeId} {w1 : World} {L1 : Loc} {n : Nat} {a : Array Value} {o : Option K} {v : Value} (R : RepO w1 o v) (A : At TM w1 L1 s n T a) (hB : T ∉ BTs) (v0 v1 v2 v3 v4 v5 : Value) : RepO ((((((w1.setCell ⟨n, 0, none⟩ v0).setCell ⟨n, 1, none⟩ v1).setCell ⟨n, 2, none⟩ v2).setCell ⟨n, 3, none⟩ v3).setCell ⟨n, 4, none⟩ v4).setCell ⟨n, 5, none⟩ v5) o v := by
  refine R.oth (F := [n]) (Oth.kept ?_) fun q hq => ?_
  · exact (((((Kept.setCell [n] w1 ⟨n, 0, none⟩ _ (by simp)).trans (Kept.setCell [n] _ ⟨n, 1, none⟩ _ (by simp)) fun _ h => .inl h).trans (Kept.setCell [n] _ ⟨n, 2, none⟩ _ (by simp)) fun _ h => .inl h).trans (Kept.setCell [n] _ ⟨n, 3, none⟩ _ (by simp)) fun _ h => .inl h).trans (Kept.setCell [n] _ ⟨n, 4, none⟩ _ (by simp)) fun _ h => .inl h).trans (Kept.setCell [n] _ ⟨n, 5, none⟩ _ (by simp)) fun _ h => .inl h
  · simp at hq; subst hq
    exact ⟨_, _, _, A.blk, hB⟩
set_option maxHeartbeats 400000 in
theorem cState1 {f : Nat} {cs : Array Value} {h : Bool} {c k n : Int} {y : Bool} {x : Sx} {s' : St} (A : At 132 w L s p T #[.func (.func f) #[] cs, .bool h, .int .i64 c, .int .i64 k, .int .i64 n, .bool y]) (hB : T ∉ BTs) (hk : x.k = none)
    (hen : Enters Tryz.prog f) (hcall : Calls Tryz.prog f (#[pt L.b] ++ cs) w fun e w' => Ran w L x s' e w') :
    Calls Tryz.prog 160 #[pt p, pt L.b] w fun e w' => e = .returned (.bool x.done) ∧ ∃ v L', At 132 w' L' s' p T (x.cells v) ∧ Went w L p w' L' ∧ RepO w' x.k v := by
  have c0 : w.cell? ⟨p, 0, none⟩ = some (.func (.func f) #[] cs) := A.cell 0
  have e0 := fneq f cs
  have n2 : ∀ w, (binOp .eql 107 .nilFunc .nilFunc).run Tryz.prog w = .ok (.bool true) w := fun _ => by kernel_rfl
  go_enter Tryz.func160, Tryz.ntmps160
  go_wp2_with (fail)
  rw [hen, Oper.upon_enter]
  refine hcall.mono ?_
  rintro e w1 ⟨v, L1, rfl, hm1, st, R⟩
  rw [hk] at R
  have hv : v = .nilFunc := R
  clear R
  subst hv
  unfold Sx.cells
  have A1 := A.step hm1 st
  have z0 : w1.cell? ⟨p, 0, none⟩ = some (.func (.func f) #[] cs) := A1.cell 0
  have zf0 := A1.free 0
  have z1 : w1.cell? ⟨p, 1, none⟩ = some (.bool h) := A1.cell 1
  have zf1 := A1.free 1
  have z2 : w1.cell? ⟨p, 2, none⟩ = some (.int .i64 c) := A1.cell 2
  have zf2 := A1.free 2
  have z3 : w1.cell? ⟨p, 3, none⟩ = some (.int .i64 k) := A1.cell 3
  have zf3 := A1.free 3
  have z4 : w1.cell? ⟨p, 4, none⟩ = some (.int .i64 n) := A1.cell 4
  have zf4 := A1.free 4
  have z5 : w1.cell? ⟨p, 5, none⟩ = some (.bool y) := A1.cell 5
  have zf5 := A1.free 5
  go_wp2
  go_ret
  exact ⟨by simp [Sx.done, hk], _, L1, A1.put6 _ _ _ _ _ _, (Went.of_step st p).trans (Went.put6 w1 L1 p _ _ _ _ _ _), (by rw [hk]; rfl)⟩
set_option maxHeartbeats 400000 in
theorem cState2 {f : Nat} {cs : Array Value} {h : Bool} {c k n : Int} {y : Bool} {x : Sx} {s' : St} (A : At 132 w L s p T #[.func (.func f) #[] cs, .bool h, .int .i64 c, .int .i64 k, .int .i64 n, .bool y]) (hB : T ∉ BTs) {k' : K} (hk : x.k = some k')
    (hen : Enters Tryz.prog f) (hcall : Calls Tryz.prog f (#[pt L.b] ++ cs) w fun e w' => Ran w L x s' e w') :
    Calls Tryz.prog 160 #[pt p, pt L.b] w fun e w' => e = .returned (.bool x.done) ∧ ∃ v L', At 132 w' L' s' p T (x.cells v) ∧ Went w L p w' L' ∧ RepO w' x.k v := by
  have c0 : w.cell? ⟨p, 0, none⟩ = some (.func (.func f) #[] cs) := A.cell 0
  have e0 := fneq f cs
  have n2 := feql
  go_enter Tryz.func160, Tryz.ntmps160
  go_wp2_with (fail)
  rw [hen, Oper.upon_enter]
  refine hcall.mono ?_
  rintro e w1 ⟨v, L1, rfl, hm1, st, R⟩
  rw [hk] at R
  obtain ⟨nf, cf, hv⟩ := Rep.fn R
  rw [hv] at R ⊢
  clear hv
  unfold Sx.cells
  have A1 := A.step hm1 st
  have z0 : w1.cell? ⟨p, 0, none⟩ = some (.func (.func f) #[] cs) := A1.cell 0
  have zf0 := A1.free 0
  have z1 : w1.cell? ⟨p, 1, none⟩ = some (.bool h) := A1.cell 1
  have zf1 := A1.free 1
  have z2 : w1.cell? ⟨p, 2, none⟩ = some (.int .i64 c) := A1.cell 2
  have zf2 := A1.free 2
  have z3 : w1.cell? ⟨p, 3, none⟩ = some (.int .i64 k) := A1.cell 3
  have zf3 := A1.free 3
  have z4 : w1.cell? ⟨p, 4, none⟩ = some (.int .i64 n) := A1.cell 4
  have zf4 := A1.free 4
  have z5 : w1.cell? ⟨p, 5, none⟩ = some (.bool y) := A1.cell 5
  have zf5 := A1.free 5
  go_wp2
  go_ret
  exact ⟨by simp [Sx.done, hk], _, L1, A1.put6 _ _ _ _ _ _, (Went.of_step st p).trans (Went.put6 w1 L1 p _ _ _ _ _ _), (by rw [hk]; exact RepO.put6 (o := some k') R A1 hB _ _ _ _ _ _)⟩
end
end Go.Proofs.YtpcoldpphihfmaaGreatDoor
