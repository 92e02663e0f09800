import Derived.Test.YtpcoldpphihfmaaGreatDoorDs3
import Derived.Test.YtpcoldpphihfmaaGreatDoorVx
namespace Go.Proofs.YtpcoldpphihfmaaGreatDoor
set_option linter.unusedVariables false
set_option maxRecDepth 100000
open Go.ChangeShapes Go.WideShapes Go.RowKit
section
variable {w w1 : World} {L L1 : Loc} {s : St} {p n : Nat} {T : TypeId}
def put6W (w : World) (n i : Nat) (v0 v1 v2 v3 v4 v5 : Value) : World := (((((w.setCell ⟨n, i, none⟩ v0).setCell ⟨n, i + 1, none⟩ v1).setCell ⟨n, i + 2, none⟩ v2).setCell ⟨n, i + 3, none⟩ v3).setCell ⟨n, i + 4, none⟩ v4).setCell ⟨n, i + 5, none⟩ v5
theorem At.put6at {TM : TypeId} {cs : Array Value} (A : At TM w1 L1 s n T cs) (i : Nat) (v0 v1 v2 v3 v4 v5 : Value) :
  At TM (put6W w1 n i v0 v1 v2 v3 v4 v5) L1 s n T ((((((cs.setIfInBounds i v0).setIfInBounds (i + 1) v1).setIfInBounds (i + 2) v2).setIfInBounds (i + 3) v3).setIfInBounds (i + 4) v4).setIfInBounds (i + 5) v5) :=
 (((((A.set i v0).set (i + 1) v1).set (i + 2) v2).set (i + 3) v3).set (i + 4) v4).set (i + 5) v5
theorem Went.put6at (w1 : World) (L1 : Loc) (n i : Nat) (v0 v1 v2 v3 v4 v5 : Value) : Went w1 L1 n (put6W w1 n i v0 v1 v2 v3 v4 v5) L1 :=
 (((((Went.set w1 L1 n i v0).trans (Went.set _ _ _ (i + 1) v1)).trans (Went.set _ _ _ (i + 2) v2)).trans (Went.set _ _ _ (i + 3) v3)).trans (Went.set _ _ _ (i + 4) v4)).trans (Went.set _ _ _ (i + 5) v5)
theorem Kept.put6at (w1 : World) (n i : Nat) (v0 v1 v2 v3 v4 v5 : Value) : Kept [n] w1 (put6W w1 n i v0 v1 v2 v3 v4 v5) :=
 (((((Kept.setCell [n] w1 ⟨n, i, none⟩ _ (by simp)).trans (Kept.setCell [n] _ ⟨n, i + 1, none⟩ _ (by simp)) fun _ h => .inl h).trans (Kept.setCell [n] _ ⟨n, i + 2, none⟩ _ (by simp)) fun _ h => .inl h).trans (Kept.setCell [n] _ ⟨n, i + 3, none⟩ _ (by simp)) fun _ h => .inl h).trans (Kept.setCell [n] _ ⟨n, i + 4, none⟩ _ (by simp)) fun _ h => .inl h).trans (Kept.setCell [n] _ ⟨n, i + 5, none⟩ _ (by simp)) fun _ h => .inl h
theorem RepO.put6at {TM : TypeId} {a : Array Value} {o : Option K} {v : Value} (R : RepO w1 o v) (A : At TM w1 L1 s n T a) (hB : T ∉ BTs) (i : Nat) (v0 v1 v2 v3 v4 v5 : Value) : RepO (put6W w1 n i v0 v1 v2 v3 v4 v5) o v :=
 R.oth (F := [n]) (Oth.kept (Kept.put6at ..)) fun q hq => by simp at hq; subst hq; exact ⟨_, _, _, A.blk, hB⟩
end
section
variable {w : World} {L : Loc} {s : St} {p : Nat} {a : Ax}
theorem cellsP (a : Ax) (x : Sx) (v : Value) : ((((((a.cells.setIfInBounds 17 v).setIfInBounds 18 (.bool x.hit)).setIfInBounds 19 (.int .i64 x.o.c)).setIfInBounds 20 (.int .i64 x.o.v.k)).setIfInBounds 21 (.int .i64 x.o.v.n)).setIfInBounds 22 (.bool x.o.y)) = ({ a with p := x, vp := v } : Ax).cells := by
 simp [Ax.cells]
theorem cState0P (A : At 132 w L s p 114 a.cells) (hv : a.vp = .nilFunc) :
  Calls Tryz.prog 160 #[.pointer (some ⟨p, 17, none⟩), pt L.b] w fun e w' => e = .returned (.bool true) ∧ w' = w := by
 have c0 : w.cell? ⟨p, 17, none⟩ = some .nilFunc := hv ▸ A.cell 17
 have n1 : ∀ w, (binOp .neq 107 .nilFunc .nilFunc).run Tryz.prog w = .ok (.bool false) w := fun _ => by kernel_rfl
 have n2 : ∀ w, (binOp .eql 107 .nilFunc .nilFunc).run Tryz.prog w = .ok (.bool true) w := fun _ => by kernel_rfl
 go_enter Tryz.func160, Tryz.ntmps160
 go_wp2
 go_ret
 exact ⟨rfl, rfl⟩
set_option maxHeartbeats 1000000 in
theorem cState1P {f : Nat} {cs : Array Value} {x : Sx} {s' : St} (A : At 132 w L s p 114 a.cells) (hf : a.vp = .func (.func f) #[] cs) (hk : x.k = none)
  (hen : Enters Tryz.prog f) (hcall : Calls Tryz.prog f (#[pt L.b] ++ cs) w fun e w' => Ran w L x s' e w') :
  Calls Tryz.prog 160 #[.pointer (some ⟨p, 17, none⟩), pt L.b] w fun e w' => e = .returned (.bool x.done) ∧ ∃ v L', At 132 w' L' s' p 114 ({ a with p := x, vp := v } : Ax).cells ∧ Went w L p w' L' ∧ RepO w' x.k v := by
 have c0 : w.cell? ⟨p, 17, none⟩ = some (.func (.func f) #[] cs) := hf ▸ A.cell 17
 have e0 := fneq f cs
 have n2 : ∀ w, (binOp .eql 107 .nilFunc .nilFunc).run Tryz.prog w = .ok (.bool true) w := fun _ => by kernel_rfl
 go_enter Tryz.func160, Tryz.ntmps160
 go_wp2_with (fail)
 rw [hen, Oper.upon_enter]
 refine hcall.mono ?_
 rintro e w1 ⟨v, L1, rfl, hm1, st, R⟩
 rw [hk] at R
 have hv : v = .nilFunc := R
 clear R
 subst hv
 unfold Sx.cells
 have A1 := A.step hm1 st
 have z0 : w1.cell? ⟨p, 17, none⟩ = some (a.vp) := A1.cell 17
 have zf0 := A1.free 17
 have z1 : w1.cell? ⟨p, 18, none⟩ = some (.bool a.p.hit) := A1.cell 18
 have zf1 := A1.free 18
 have z2 : w1.cell? ⟨p, 19, none⟩ = some (.int .i64 a.p.o.c) := A1.cell 19
 have zf2 := A1.free 19
 have z3 : w1.cell? ⟨p, 20, none⟩ = some (.int .i64 a.p.o.v.k) := A1.cell 20
 have zf3 := A1.free 20
 have z4 : w1.cell? ⟨p, 21, none⟩ = some (.int .i64 a.p.o.v.n) := A1.cell 21
 have zf4 := A1.free 21
 have z5 : w1.cell? ⟨p, 22, none⟩ = some (.bool a.p.o.y) := A1.cell 22
 have zf5 := A1.free 22
 go_wp2
 go_ret
 exact ⟨by simp [Sx.done, hk], _, L1, cellsP a x .nilFunc ▸ A1.put6at 17 .nilFunc (.bool x.hit) (.int .i64 x.o.c) (.int .i64 x.o.v.k) (.int .i64 x.o.v.n) (.bool x.o.y), (Went.of_step st p).trans (Went.put6at w1 L1 p 17 _ _ _ _ _ _), (by rw [hk]; rfl)⟩
set_option maxHeartbeats 1000000 in
theorem cState2P {f : Nat} {cs : Array Value} {x : Sx} {s' : St} (A : At 132 w L s p 114 a.cells) (hf : a.vp = .func (.func f) #[] cs) {k' : K} (hk : x.k = some k')
  (hen : Enters Tryz.prog f) (hcall : Calls Tryz.prog f (#[pt L.b] ++ cs) w fun e w' => Ran w L x s' e w') :
  Calls Tryz.prog 160 #[.pointer (some ⟨p, 17, none⟩), pt L.b] w fun e w' => e = .returned (.bool x.done) ∧ ∃ v L', At 132 w' L' s' p 114 ({ a with p := x, vp := v } : Ax).cells ∧ Went w L p w' L' ∧ RepO w' x.k v := by
 have c0 : w.cell? ⟨p, 17, none⟩ = some (.func (.func f) #[] cs) := hf ▸ A.cell 17
 have e0 := fneq f cs
 have n2 := feql
 go_enter Tryz.func160, Tryz.ntmps160
 go_wp2_with (fail)
 rw [hen, Oper.upon_enter]
 refine hcall.mono ?_
 rintro e w1 ⟨v, L1, rfl, hm1, st, R⟩
 rw [hk] at R
 obtain ⟨nf, cf, hv⟩ := Rep.fn R
 rw [hv] at R ⊢
 clear hv
 unfold Sx.cells
 have A1 := A.step hm1 st
 have z0 : w1.cell? ⟨p, 17, none⟩ = some (a.vp) := A1.cell 17
 have zf0 := A1.free 17
 have z1 : w1.cell? ⟨p, 18, none⟩ = some (.bool a.p.hit) := A1.cell 18
 have zf1 := A1.free 18
 have z2 : w1.cell? ⟨p, 19, none⟩ = some (.int .i64 a.p.o.c) := A1.cell 19
 have zf2 := A1.free 19
 have z3 : w1.cell? ⟨p, 20, none⟩ = some (.int .i64 a.p.o.v.k) := A1.cell 20
 have zf3 := A1.free 20
 have z4 : w1.cell? ⟨p, 21, none⟩ = some (.int .i64 a.p.o.v.n) := A1.cell 21
 have zf4 := A1.free 21
 have z5 : w1.cell? ⟨p, 22, none⟩ = some (.bool a.p.o.y) := A1.cell 22
 have zf5 := A1.free 22
 go_wp2
 go_ret
 exact ⟨by simp [Sx.done, hk], _, L1, cellsP a x (.func (.func nf) #[] cf) ▸ A1.put6at 17 (.func (.func nf) #[] cf) (.bool x.hit) (.int .i64 x.o.c) (.int .i64 x.o.v.k) (.int .i64 x.o.v.n) (.bool x.o.y), (Went.of_step st p).trans (Went.put6at w1 L1 p 17 _ _ _ _ _ _), (by rw [hk]; exact RepO.put6at (o := some k') R A1 (by decide) _ _ _ _ _ _ _)⟩
theorem cStateP {x : Sx} (A : At 132 w L s p 114 a.cells) (hx : a.p = x) (R : RepO w x.k a.vp) (ok : x.Ok) (ft : s.Fit) (hc : s.c < 1000000) (rr : s.Rng) :
  Calls Tryz.prog 160 #[.pointer (some ⟨p, 17, none⟩), pt L.b] w fun e w' => e = .returned (.bool (x.next s).done) ∧ ∃ v' L', At 132 w' L' (x.mem s) p 114 ({ a with p := x.next s, vp := v' } : Ax).cells ∧ Went w L p w' L' ∧ RepO w' (x.next s).k v' := by
 obtain ⟨k, hit, o⟩ := x
 cases k with
 | none =>
  have hv : a.vp = .nilFunc := R
  refine (cState0P A hv).mono ?_
  rintro e w' ⟨rfl, rfl⟩
  refine ⟨rfl, .nilFunc, L, ?_, Went.refl _ _ _, rfl⟩
  have : ({ a with p := ⟨none, hit, o⟩, vp := .nilFunc } : Ax) = a := by
   obtain ⟨_, _, _, _, _, _, _, _, _, _, _, _, _, _⟩ := a
   simp only at hx hv
   subst hx hv
   rfl
  rw [show (Sx.mk none hit o).next s = ⟨none, hit, o⟩ from rfl, this]
  exact A
 | some k =>
  obtain ⟨n, cs, hv, hen, hcall⟩ := cK A.mem ft hc rr A.wid A.zero.1 (show Rep w k a.vp from R) (ok k rfl)
  cases hk : (k.next s).k with
  | none => exact cState1P A hv hk hen hcall
  | some k' => exact cState2P A hv hk hen hcall
theorem cPStepI {x : Sx} (A : At 132 w L s p 114 a.cells) (hx : a.p = x) (R : RepO w x.k a.vp) (ok : x.Ok) (ft : s.Fit) (hc : s.c < 1000000) (rr : s.Rng) :
  Calls Tryz.prog 159 #[.pointer (some ⟨p, 17, none⟩), pt L.b] w fun e w' => e = .returned (.bool (x.next s).done) ∧ ∃ v' L', At 132 w' L' (x.mem s) p 114 ({ a with p := x.next s, vp := v' } : Ax).cells ∧ Went w L p w' L' ∧ RepO w' (x.next s).k v' := by
 obtain ⟨d, hd⟩ : ∃ d, (x.next s).done = d := ⟨_, rfl⟩
 rw [hd]
 go_enter Tryz.func159, Tryz.ntmps159
 go_wp2_with (go_at_call 160; refine (cStateP A hx R ok ft hc rr).mono ?_; rintro e w1 ⟨rfl, H1⟩; rw [hd])
 go_ret
 exact ⟨rfl, H1⟩
theorem cPHitI {b : Bool} (c : w.cell? ⟨p, 18, none⟩ = some (.bool b)) : Calls Tryz.prog 157 #[.pointer (some ⟨p, 17, none⟩)] w fun e w' => e = .returned (.bool b) ∧ w' = w := by
 go_enter Tryz.func157, Tryz.ntmps157
 go_wp2
 go_ret
 exact ⟨rfl, rfl⟩
theorem cPResultI {o : Ou} (l : p < w.heap.size) (c2 : w.cell? ⟨p, 19, none⟩ = some (.int .i64 o.c)) (c3 : w.cell? ⟨p, 20, none⟩ = some (.int .i64 o.v.k)) (c4 : w.cell? ⟨p, 21, none⟩ = some (.int .i64 o.v.n)) (c5 : w.cell? ⟨p, 22, none⟩ = some (.bool o.y)) : Calls Tryz.prog 158 #[.pointer (some ⟨p, 17, none⟩)] w fun e w' => e = .returned o.val ∧ Below w.heap.size w w' := by
 go_enter Tryz.func158, Tryz.ntmps158
 go_wp2
 exact bodyPost_ret (v := o.val) (by simp [results, Tryz.results158, go_sem, Ou.val]) rfl ⟨rfl, by go_grown⟩
end
section
variable {w : World} {L : Loc} {s : St} {p : Nat} {a : Ax}
theorem cellsD (a : Ax) (x : Sx) (v : Value) : ((((((a.cells.setIfInBounds 23 v).setIfInBounds 24 (.bool x.hit)).setIfInBounds 25 (.int .i64 x.o.c)).setIfInBounds 26 (.int .i64 x.o.v.k)).setIfInBounds 27 (.int .i64 x.o.v.n)).setIfInBounds 28 (.bool x.o.y)) = ({ a with d := x, vd := v } : Ax).cells := by
 simp [Ax.cells]
theorem cState0D (A : At 132 w L s p 114 a.cells) (hv : a.vd = .nilFunc) :
  Calls Tryz.prog 160 #[.pointer (some ⟨p, 23, none⟩), pt L.b] w fun e w' => e = .returned (.bool true) ∧ w' = w := by
 have c0 : w.cell? ⟨p, 23, none⟩ = some .nilFunc := hv ▸ A.cell 23
 have n1 : ∀ w, (binOp .neq 107 .nilFunc .nilFunc).run Tryz.prog w = .ok (.bool false) w := fun _ => by kernel_rfl
 have n2 : ∀ w, (binOp .eql 107 .nilFunc .nilFunc).run Tryz.prog w = .ok (.bool true) w := fun _ => by kernel_rfl
 go_enter Tryz.func160, Tryz.ntmps160
 go_wp2
 go_ret
 exact ⟨rfl, rfl⟩
set_option maxHeartbeats 1000000 in
theorem cState1D {f : Nat} {cs : Array Value} {x : Sx} {s' : St} (A : At 132 w L s p 114 a.cells) (hf : a.vd = .func (.func f) #[] cs) (hk : x.k = none)
  (hen : Enters Tryz.prog f) (hcall : Calls Tryz.prog f (#[pt L.b] ++ cs) w fun e w' => Ran w L x s' e w') :
  Calls Tryz.prog 160 #[.pointer (some ⟨p, 23, none⟩), pt L.b] w fun e w' => e = .returned (.bool x.done) ∧ ∃ v L', At 132 w' L' s' p 114 ({ a with d := x, vd := v } : Ax).cells ∧ Went w L p w' L' ∧ RepO w' x.k v := by
 have c0 : w.cell? ⟨p, 23, none⟩ = some (.func (.func f) #[] cs) := hf ▸ A.cell 23
 have e0 := fneq f cs
 have n2 : ∀ w, (binOp .eql 107 .nilFunc .nilFunc).run Tryz.prog w = .ok (.bool true) w := fun _ => by kernel_rfl
 go_enter Tryz.func160, Tryz.ntmps160
 go_wp2_with (fail)
 rw [hen, Oper.upon_enter]
 refine hcall.mono ?_
 rintro e w1 ⟨v, L1, rfl, hm1, st, R⟩
 rw [hk] at R
 have hv : v = .nilFunc := R
 clear R
 subst hv
 unfold Sx.cells
 have A1 := A.step hm1 st
 have z0 : w1.cell? ⟨p, 23, none⟩ = some (a.vd) := A1.cell 23
 have zf0 := A1.free 23
 have z1 : w1.cell? ⟨p, 24, none⟩ = some (.bool a.d.hit) := A1.cell 24
 have zf1 := A1.free 24
 have z2 : w1.cell? ⟨p, 25, none⟩ = some (.int .i64 a.d.o.c) := A1.cell 25
 have zf2 := A1.free 25
 have z3 : w1.cell? ⟨p, 26, none⟩ = some (.int .i64 a.d.o.v.k) := A1.cell 26
 have zf3 := A1.free 26
 have z4 : w1.cell? ⟨p, 27, none⟩ = some (.int .i64 a.d.o.v.n) := A1.cell 27
 have zf4 := A1.free 27
 have z5 : w1.cell? ⟨p, 28, none⟩ = some (.bool a.d.o.y) := A1.cell 28
 have zf5 := A1.free 28
 go_wp2
 go_ret
 exact ⟨by simp [Sx.done, hk], _, L1, cellsD a x .nilFunc ▸ A1.put6at 23 .nilFunc (.bool x.hit) (.int .i64 x.o.c) (.int .i64 x.o.v.k) (.int .i64 x.o.v.n) (.bool x.o.y), (Went.of_step st p).trans (Went.put6at w1 L1 p 23 _ _ _ _ _ _), (by rw [hk]; rfl)⟩
set_option maxHeartbeats 1000000 in
theorem cState2D {f : Nat} {cs : Array Value} {x : Sx} {s' : St} (A : At 132 w L s p 114 a.cells) (hf : a.vd = .func (.func f) #[] cs) {k' : K} (hk : x.k = some k')
  (hen : Enters Tryz.prog f) (hcall : Calls Tryz.prog f (#[pt L.b] ++ cs) w fun e w' => Ran w L x s' e w') :
  Calls Tryz.prog 160 #[.pointer (some ⟨p, 23, none⟩), pt L.b] w fun e w' => e = .returned (.bool x.done) ∧ ∃ v L', At 132 w' L' s' p 114 ({ a with d := x, vd := v } : Ax).cells ∧ Went w L p w' L' ∧ RepO w' x.k v := by
 have c0 : w.cell? ⟨p, 23, none⟩ = some (.func (.func f) #[] cs) := hf ▸ A.cell 23
 have e0 := fneq f cs
 have n2 := feql
 go_enter Tryz.func160, Tryz.ntmps160
 go_wp2_with (fail)
 rw [hen, Oper.upon_enter]
 refine hcall.mono ?_
 rintro e w1 ⟨v, L1, rfl, hm1, st, R⟩
 rw [hk] at R
 obtain ⟨nf, cf, hv⟩ := Rep.fn R
 rw [hv] at R ⊢
 clear hv
 unfold Sx.cells
 have A1 := A.step hm1 st
 have z0 : w1.cell? ⟨p, 23, none⟩ = some (a.vd) := A1.cell 23
 have zf0 := A1.free 23
 have z1 : w1.cell? ⟨p, 24, none⟩ = some (.bool a.d.hit) := A1.cell 24
 have zf1 := A1.free 24
 have z2 : w1.cell? ⟨p, 25, none⟩ = some (.int .i64 a.d.o.c) := A1.cell 25
 have zf2 := A1.free 25
 have z3 : w1.cell? ⟨p, 26, none⟩ = some (.int .i64 a.d.o.v.k) := A1.cell 26
 have zf3 := A1.free 26
 have z4 : w1.cell? ⟨p, 27, none⟩ = some (.int .i64 a.d.o.v.n) := A1.cell 27
 have zf4 := A1.free 27
 have z5 : w1.cell? ⟨p, 28, none⟩ = some (.bool a.d.o.y) := A1.cell 28
 have zf5 := A1.free 28
 go_wp2
 go_ret
 exact ⟨by simp [Sx.done, hk], _, L1, cellsD a x (.func (.func nf) #[] cf) ▸ A1.put6at 23 (.func (.func nf) #[] cf) (.bool x.hit) (.int .i64 x.o.c) (.int .i64 x.o.v.k) (.int .i64 x.o.v.n) (.bool x.o.y), (Went.of_step st p).trans (Went.put6at w1 L1 p 23 _ _ _ _ _ _), (by rw [hk]; exact RepO.put6at (o := some k') R A1 (by decide) _ _ _ _ _ _ _)⟩
theorem cStateD {x : Sx} (A : At 132 w L s p 114 a.cells) (hx : a.d = x) (R : RepO w x.k a.vd) (ok : x.Ok) (ft : s.Fit) (hc : s.c < 1000000) (rr : s.Rng) :
  Calls Tryz.prog 160 #[.pointer (some ⟨p, 23, none⟩), pt L.b] w fun e w' => e = .returned (.bool (x.next s).done) ∧ ∃ v' L', At 132 w' L' (x.mem s) p 114 ({ a with d := x.next s, vd := v' } : Ax).cells ∧ Went w L p w' L' ∧ RepO w' (x.next s).k v' := by
 obtain ⟨k, hit, o⟩ := x
 cases k with
 | none =>
  have hv : a.vd = .nilFunc := R
  refine (cState0D A hv).mono ?_
  rintro e w' ⟨rfl, rfl⟩
  refine ⟨rfl, .nilFunc, L, ?_, Went.refl _ _ _, rfl⟩
  have : ({ a with d := ⟨none, hit, o⟩, vd := .nilFunc } : Ax) = a := by
   obtain ⟨_, _, _, _, _, _, _, _, _, _, _, _, _, _⟩ := a
   simp only at hx hv
   subst hx hv
   rfl
  rw [show (Sx.mk none hit o).next s = ⟨none, hit, o⟩ from rfl, this]
  exact A
 | some k =>
  obtain ⟨n, cs, hv, hen, hcall⟩ := cK A.mem ft hc rr A.wid A.zero.1 (show Rep w k a.vd from R) (ok k rfl)
  cases hk : (k.next s).k with
  | none => exact cState1D A hv hk hen hcall
  | some k' => exact cState2D A hv hk hen hcall
theorem cDStepI {x : Sx} (A : At 132 w L s p 114 a.cells) (hx : a.d = x) (R : RepO w x.k a.vd) (ok : x.Ok) (ft : s.Fit) (hc : s.c < 1000000) (rr : s.Rng) :
  Calls Tryz.prog 163 #[.pointer (some ⟨p, 23, none⟩), pt L.b] w fun e w' => e = .returned (.bool (x.next s).done) ∧ ∃ v' L', At 132 w' L' (x.mem s) p 114 ({ a with d := x.next s, vd := v' } : Ax).cells ∧ Went w L p w' L' ∧ RepO w' (x.next s).k v' := by
 obtain ⟨d, hd⟩ : ∃ d, (x.next s).done = d := ⟨_, rfl⟩
 rw [hd]
 go_enter Tryz.func163, Tryz.ntmps163
 go_wp2_with (go_at_call 160; refine (cStateD A hx R ok ft hc rr).mono ?_; rintro e w1 ⟨rfl, H1⟩; rw [hd])
 go_ret
 exact ⟨rfl, H1⟩
theorem cDHitI {b : Bool} (c : w.cell? ⟨p, 24, none⟩ = some (.bool b)) : Calls Tryz.prog 161 #[.pointer (some ⟨p, 23, none⟩)] w fun e w' => e = .returned (.bool b) ∧ w' = w := by
 go_enter Tryz.func161, Tryz.ntmps161
 go_wp2
 go_ret
 exact ⟨rfl, rfl⟩
theorem cDResultI {o : Ou} (l : p < w.heap.size) (c2 : w.cell? ⟨p, 25, none⟩ = some (.int .i64 o.c)) (c3 : w.cell? ⟨p, 26, none⟩ = some (.int .i64 o.v.k)) (c4 : w.cell? ⟨p, 27, none⟩ = some (.int .i64 o.v.n)) (c5 : w.cell? ⟨p, 28, none⟩ = some (.bool o.y)) : Calls Tryz.prog 162 #[.pointer (some ⟨p, 23, none⟩)] w fun e w' => e = .returned o.val ∧ Below w.heap.size w w' := by
 go_enter Tryz.func162, Tryz.ntmps162
 go_wp2
 exact bodyPost_ret (v := o.val) (by simp [results, Tryz.results162, go_sem, Ou.val]) rfl ⟨rfl, by go_grown⟩
end
end Go.Proofs.YtpcoldpphihfmaaGreatDoor
