/-
  What the list's functions come to when they are called.
-/
import Derived.Test.YteclgafdflmioaaDoorLp
import Derived.Deep.RegionHeld3
namespace Go.Proofs.YteclgafdflmioaaDoor
set_option linter.unusedVariables false
set_option maxRecDepth 100000
open Go.ChangeShapes Go.WideShapes Go.RowKit
open S.Plain (t0 t1 tw nx)
open H.Plain (hw pL)

theorem ftop0 (x y : Int) (w : World) : (Instr.field 58 (.agg #[.int .i64 x, .int .i64 y]) 0).run Tryd.prog w = .ok (.int .i64 x) w := by kernel_rfl
theorem fhead6 (a b c d e f g : Int) (w : World) : (Instr.field 56 (.agg #[.int .i64 a, .int .i64 b, .int .i64 c, .int .i64 d, .int .i64 e, .int .i64 f, .int .i64 g]) 6).run Tryd.prog w = .ok (.int .i64 g) w := by kernel_rfl

theorem cFirst (a : Int) (h : U64 a) (w : World) :
    Calls Tryd.prog 35 #[.int .u64 a] w fun e w' => e = .returned (.int .i64 (t0 a)) ∧ Below w.heap.size w w' := by
  have f0 := ftop0 (t0 a) (t1 a)
  go_enter Tryd.func35, Tryd.ntmps35
  go_wp2_with (go_at_call 50; refine (S.cOfTop a h.1 h.2 _).mono ?_; rintro e w1 ⟨rfl, hw1⟩; have hb1 : Below w.heap.size w w1 := (by rw [hw1]; go_grown); clear hw1)
  go_ret
  exact ⟨rfl, hb1⟩

theorem cNewPop (h : Int) (w : World) :
    Calls Tryd.prog 14 #[.int .i64 h] w fun e w' => e = .returned (.pointer (some ⟨w.heap.size, 0, none⟩)) ∧ w' = w.alloc (.cells (PopS.new h).cells 79) := by
  go_enter Tryd.func14, Tryd.ntmps14
  go_wp2
  go_ret
  exact ⟨rfl, rfl⟩
theorem cNewPush (h f l c : Int) (w : World) :
    Calls Tryd.prog 15 #[.int .i64 h, .int .i64 f, .int .i64 l, .int .i64 c] w fun e w' => e = .returned (.pointer (some ⟨w.heap.size, 0, none⟩)) ∧ w' = w.alloc (.cells (PushS.new h f l c).cells 82) := by
  go_enter Tryd.func15, Tryd.ntmps15
  go_wp2
  go_ret
  exact ⟨rfl, rfl⟩

theorem bel_trans {a u v : World} (h : Below a.heap.size a u) (hb : Below u.heap.size u v) : Below a.heap.size a v := h.trans (hb.mono h.size)
/-- a step that is kept, against nil -/
theorem fnEqP (n : Nat) (h : n ≤ 3) (w : World) : (binOp .eql 76 (popFn n) .nilFunc).run Tryd.prog w = .ok (.bool (n == 0)) w := by
  rcases pc_cases h with rfl | rfl | rfl | rfl <;> kernel_rfl
theorem fnNeP (n : Nat) (h : n ≤ 3) (w : World) : (binOp .neq 76 (popFn n) .nilFunc).run Tryd.prog w = .ok (.bool (n != 0)) w := by
  rcases pc_cases h with rfl | rfl | rfl | rfl <;> kernel_rfl
theorem fnEqU (n : Nat) (h : n ≤ 3) (w : World) : (binOp .eql 80 (pushFn n) .nilFunc).run Tryd.prog w = .ok (.bool (n == 0)) w := by
  rcases pc_cases h with rfl | rfl | rfl | rfl <;> kernel_rfl
theorem fnNeU (n : Nat) (h : n ≤ 3) (w : World) : (binOp .neq 80 (pushFn n) .nilFunc).run Tryd.prog w = .ok (.bool (n != 0)) w := by
  rcases pc_cases h with rfl | rfl | rfl | rfl <;> kernel_rfl
theorem fnGdP (op : BinOp) (t : TypeId) (x y : Operand) (n : Nat) : eqGuard op t x y (popFn n) .nilFunc = pure () := by unfold popFn; split <;> cases op <;> rfl
theorem fnGdU (op : BinOp) (t : TypeId) (x y : Operand) (n : Nat) : eqGuard op t x y (pushFn n) .nilFunc = pure () := by unfold pushFn; split <;> cases op <;> rfl
section
variable {w : World} {L : Loc} {s : St} {p : Nat}
theorem pReadHead {h k z : Int} {fv : Value} (A : At 85 w L s p 79 #[.int .i64 h, .int .i64 k, .int .u64 z, fv]) (f : s.Fit) (hc : s.c < 1000000) (r : s.Rng) :
    Calls Tryd.prog 33 #[.pointer (some ⟨p, 0, none⟩), .pointer (some ⟨L.b, 0, none⟩)] w fun e w' => e = .returned (.tuple #[]) ∧
      ∃ L', At 85 w' L' (s.load h) p 79 #[.int .i64 h, .int .i64 k, .int .u64 (s.got h), popFn (if t0 (s.got h) = 0 then 0 else 2)] ∧ Went w L p w' L' := by
  have c0 : w.cell? ⟨p, 0, none⟩ = some (.int .i64 h) := A.cell 0
  have hr := r.got h
  obtain ⟨v, hv⟩ : ∃ v, s.got h = v := ⟨_, rfl⟩
  rw [hv] at hr ⊢
  by_cases hq : t0 v = 0
  · rw [if_pos hq]
    go_enter Tryd.func33, Tryd.ntmps33
    go_wp2_with (first
      | (go_at_call 21; refine (cLoad A.mem f hc h).mono ?_; rintro e w1 ⟨rfl, L1, hm1, st⟩; rw [hv]; have A1 := A.step hm1 st; have d2 : w1.cell? ⟨p, 2, none⟩ = some (.int .u64 z) := A1.cell 2; have df2 := A1.free 2; have d3 : w1.cell? ⟨p, 3, none⟩ = some (fv) := A1.cell 3; have df3 := A1.free 3)
      | (go_at_call 35; refine (cFirst _ hr _).mono ?_; rintro e w2 ⟨rfl, hb2⟩; rw [hq]; have A2 : At 85 w2 L1 (s.load h) p 79 #[.int .i64 h, .int .i64 k, .int .u64 v, popFn 2] := ((A1.set 2 (.int .u64 v)).set 3 (popFn 2)).below hb2; have g2 : Went w L p w2 L1 := (((Went.of_step st p).trans (Went.set _ _ _ _ _)).trans (Went.set _ _ _ _ _)).trans (Went.of_below hb2 _ _); have e3 : w2.cell? ⟨p, 3, none⟩ = some (popFn 2) := A2.cell 3; have ef3 := A2.free 3; clear hb2))
    go_end0
    exact ⟨rfl, L1, A2.set 3 .nilFunc, g2.trans (Went.set _ _ _ _ _)⟩
  · rw [if_neg hq]
    have hq' : (t0 v == 0) = false := by simpa using hq
    go_enter Tryd.func33, Tryd.ntmps33
    go_wp2_with (first
      | (go_at_call 21; refine (cLoad A.mem f hc h).mono ?_; rintro e w1 ⟨rfl, L1, hm1, st⟩; rw [hv]; have A1 := A.step hm1 st; have d2 : w1.cell? ⟨p, 2, none⟩ = some (.int .u64 z) := A1.cell 2; have df2 := A1.free 2; have d3 : w1.cell? ⟨p, 3, none⟩ = some (fv) := A1.cell 3; have df3 := A1.free 3)
      | (go_at_call 35; refine (cFirst _ hr _).mono ?_; rintro e w2 ⟨rfl, hb2⟩; have A2 : At 85 w2 L1 (s.load h) p 79 #[.int .i64 h, .int .i64 k, .int .u64 v, popFn 2] := ((A1.set 2 (.int .u64 v)).set 3 (popFn 2)).below hb2; have g2 : Went w L p w2 L1 := (((Went.of_step st p).trans (Went.set _ _ _ _ _)).trans (Went.set _ _ _ _ _)).trans (Went.of_below hb2 _ _); clear hb2))
    go_end0
    exact ⟨rfl, L1, A2, g2⟩
theorem pReadCell {h k z : Int} {fv : Value} (A : At 85 w L s p 79 #[.int .i64 h, .int .i64 k, .int .u64 z, fv]) (f : s.Fit) (hc : s.c < 1000000) (r : s.Rng) (hz : U64 z) :
    Calls Tryd.prog 48 #[.pointer (some ⟨p, 0, none⟩), .pointer (some ⟨L.b, 0, none⟩)] w fun e w' => e = .returned (.tuple #[]) ∧
      ∃ L', At 85 w' L' (s.load (t0 z)) p 79 #[.int .i64 h, .int .i64 (pL (s.got (t0 z))), .int .u64 z, popFn 3] ∧ Went w L p w' L' := by
  have c2 : w.cell? ⟨p, 2, none⟩ = some (.int .u64 z) := A.cell 2
  have hr := r.got (t0 z)
  obtain ⟨v, hv⟩ : ∃ v, s.got (t0 z) = v := ⟨_, rfl⟩
  rw [hv] at hr ⊢
  have f6 := fhead6 (H.Plain.pS v) (H.Plain.pC v) (H.Plain.pN v) (H.Plain.pM v) (H.Plain.pG v) (H.Plain.pT v) (pL v)
  go_enter Tryd.func48, Tryd.ntmps48
  go_wp2_with (first
    | (go_at_call 35; refine (cFirst _ hz _).mono ?_; rintro e w0 ⟨rfl, hb0⟩; have A0 := A.below hb0)
    | (go_at_call 21; refine (cLoad A0.mem f hc _).mono ?_; rintro e w1 ⟨rfl, L1, hm1, st⟩; rw [hv]; have A1 := A0.step hm1 st)
    | (go_at_call 55; refine (H.cOf _ hr.1 hr.2 _ A1.wid).mono ?_; rintro e w2 ⟨rfl, hw2⟩; have hb2 : Below w1.heap.size w1 w2 := (by rw [hw2]; go_grown); clear hw2; have A2 := A1.below hb2; have d1 : w2.cell? ⟨p, 1, none⟩ = some (.int .i64 k) := A2.cell 1; have df1 := A2.free 1; have d3 : w2.cell? ⟨p, 3, none⟩ = some (fv) := A2.cell 3; have df3 := A2.free 3))
  go_end0
  exact ⟨rfl, L1, (A2.set 1 _).set 3 (popFn 3), ((((Went.of_below hb0 L p).trans (Went.of_step st p)).trans (Went.of_below hb2 _ _)).trans (Went.set _ _ _ _ _)).trans (Went.set _ _ _ _ _)⟩
set_option maxHeartbeats 1000000 in
theorem popSwap {h k z : Int} {fv : Value} (A : At 85 w L s p 79 #[.int .i64 h, .int .i64 k, .int .u64 z, fv]) (f : s.Fit) (hc : s.c < 1000000) (hz : U64 z) :
    Calls Tryd.prog 56 #[.pointer (some ⟨p, 0, none⟩), .pointer (some ⟨L.b, 0, none⟩)] w fun e w' => e = .returned (.tuple #[]) ∧
      ∃ L', At 85 w' L' (s.cas h z (nx z k)) p 79 #[.int .i64 h, .int .i64 k, .int .u64 z, popFn (if s.ok1 h z then 0 else 1)] ∧ Went w L p w' L' := by
  have c3 : w.cell? ⟨p, 3, none⟩ = some (fv) := A.cell 3; have cf3 := A.free 3
  obtain ⟨ok, hok⟩ : ∃ ok, s.ok1 h z = ok := ⟨_, rfl⟩
  rw [hok]
  have Aa : At 85 (w.setCell ⟨p, 3, none⟩ (popFn 1)) L s p 79 #[.int .i64 h, .int .i64 k, .int .u64 z, popFn 1] := A.set 3 (popFn 1)
  have ga : Went w L p (w.setCell ⟨p, 3, none⟩ (popFn 1)) L := Went.set _ _ _ _ _
  go_enter Tryd.func56, Tryd.ntmps56
  go_wp2
  change At _ (w.setCell ⟨p, 3, none⟩ (.func (.func 33) #[] #[])) _ _ _ _ _ at Aa
  change Went _ _ _ (w.setCell ⟨p, 3, none⟩ (.func (.func 33) #[] #[])) _ at ga
  generalize w.setCell ⟨p, 3, none⟩ (.func (.func 33) #[] #[]) = wa at Aa ga ⊢
  have keep : ∀ w', Below wa.heap.size wa w' → w'.cell? ⟨p, 0, none⟩ = some (.int .i64 h) ∧ w'.cell? ⟨p, 1, none⟩ = some (.int .i64 k) ∧ w'.cell? ⟨p, 2, none⟩ = some (.int .u64 z) := fun w' hb => ⟨(Aa.below hb).cell 0, (Aa.below hb).cell 1, (Aa.below hb).cell 2⟩
  have hbd : Below wa.heap.size wa wa.drew := (Below.refl wa.heap.size wa).drew
  have RD := keep _ hbd
  go_region_held3 (fun w' => w'.cell? ⟨p, 0, none⟩ = some (.int .i64 h) ∧ w'.cell? ⟨p, 1, none⟩ = some (.int .i64 k) ∧ w'.cell? ⟨p, 2, none⟩ = some (.int .u64 z)) (first | assumption | exact RD | exact keep _ (by assumption))
    (first
      | (go_at_call 63; refine (S.gNext z k hz.1 hz.2 _).mono ?_; rintro e w1 ⟨rfl, hb1⟩; have hb1' := bel_trans hbd hb1)
      | (go_at_call 62; refine (cCAS (Aa.below hb1').mem f hc h z (nx z k)).mono ?_; rintro e w2 ⟨rfl, L2, hm2, st2⟩; rw [hok]; have A2 := (Aa.below hb1').step hm2 st2; have S2 : w2.cell? ⟨p, 0, none⟩ = some (.int .i64 h) ∧ w2.cell? ⟨p, 1, none⟩ = some (.int .i64 k) ∧ w2.cell? ⟨p, 2, none⟩ = some (.int .u64 z) := ⟨A2.cell 0, A2.cell 1, A2.cell 2⟩; have g2 := (ga.trans (Went.of_below hb1' _ _)).trans (Went.of_step st2 p); have d3 : w2.cell? ⟨p, 3, none⟩ = some (popFn 1) := A2.cell 3; have df3 := A2.free 3))
  rcases ok with _ | _
  · go_wp2
    go_end0
    exact ⟨rfl, L2, A2, g2⟩
  · go_wp2
    go_end0
    exact ⟨rfl, L2, A2.set 3 .nilFunc, g2.trans (Went.set _ _ _ _ _)⟩
set_option maxHeartbeats 1000000 in
theorem pushSwap {h a l c z : Int} {fv : Value} (A : At 85 w L s p 82 #[.int .i64 h, .int .i64 a, .int .i64 l, .int .i64 c, .int .u64 z, fv]) (f : s.Fit) (hc : s.c < 1000000) (hz : U64 z) :
    Calls Tryd.prog 58 #[.pointer (some ⟨p, 0, none⟩), .pointer (some ⟨L.b, 0, none⟩)] w fun e w' => e = .returned (.tuple #[]) ∧
      ∃ L', At 85 w' L' (s.cas h z (nx z a)) p 82 #[.int .i64 h, .int .i64 a, .int .i64 l, .int .i64 c, .int .u64 z, pushFn (if s.ok1 h z then 0 else 1)] ∧ Went w L p w' L' := by
  have c5 : w.cell? ⟨p, 5, none⟩ = some (fv) := A.cell 5; have cf5 := A.free 5
  obtain ⟨ok, hok⟩ : ∃ ok, s.ok1 h z = ok := ⟨_, rfl⟩
  rw [hok]
  have Aa : At 85 (w.setCell ⟨p, 5, none⟩ (pushFn 1)) L s p 82 #[.int .i64 h, .int .i64 a, .int .i64 l, .int .i64 c, .int .u64 z, pushFn 1] := A.set 5 (pushFn 1)
  have ga : Went w L p (w.setCell ⟨p, 5, none⟩ (pushFn 1)) L := Went.set _ _ _ _ _
  go_enter Tryd.func58, Tryd.ntmps58
  go_wp2
  change At _ (w.setCell ⟨p, 5, none⟩ (.func (.func 34) #[] #[])) _ _ _ _ _ at Aa
  change Went _ _ _ (w.setCell ⟨p, 5, none⟩ (.func (.func 34) #[] #[])) _ at ga
  generalize w.setCell ⟨p, 5, none⟩ (.func (.func 34) #[] #[]) = wa at Aa ga ⊢
  have keep : ∀ w', Below wa.heap.size wa w' → w'.cell? ⟨p, 0, none⟩ = some (.int .i64 h) ∧ w'.cell? ⟨p, 1, none⟩ = some (.int .i64 a) ∧ w'.cell? ⟨p, 4, none⟩ = some (.int .u64 z) := fun w' hb => ⟨(Aa.below hb).cell 0, (Aa.below hb).cell 1, (Aa.below hb).cell 4⟩
  have hbd : Below wa.heap.size wa wa.drew := (Below.refl wa.heap.size wa).drew
  have RD := keep _ hbd
  go_region_held3 (fun w' => w'.cell? ⟨p, 0, none⟩ = some (.int .i64 h) ∧ w'.cell? ⟨p, 1, none⟩ = some (.int .i64 a) ∧ w'.cell? ⟨p, 4, none⟩ = some (.int .u64 z)) (first | assumption | exact RD | exact keep _ (by assumption))
    (first
      | (go_at_call 63; refine (S.gNext z a hz.1 hz.2 _).mono ?_; rintro e w1 ⟨rfl, hb1⟩; have hb1' := bel_trans hbd hb1)
      | (go_at_call 62; refine (cCAS (Aa.below hb1').mem f hc h z (nx z a)).mono ?_; rintro e w2 ⟨rfl, L2, hm2, st2⟩; rw [hok]; have A2 := (Aa.below hb1').step hm2 st2; have S2 : w2.cell? ⟨p, 0, none⟩ = some (.int .i64 h) ∧ w2.cell? ⟨p, 1, none⟩ = some (.int .i64 a) ∧ w2.cell? ⟨p, 4, none⟩ = some (.int .u64 z) := ⟨A2.cell 0, A2.cell 1, A2.cell 4⟩; have g2 := (ga.trans (Went.of_below hb1' _ _)).trans (Went.of_step st2 p); have d5 : w2.cell? ⟨p, 5, none⟩ = some (pushFn 1) := A2.cell 5; have df5 := A2.free 5))
  rcases ok with _ | _
  · go_wp2
    go_end0
    exact ⟨rfl, L2, A2, g2⟩
  · go_wp2
    go_end0
    exact ⟨rfl, L2, A2.set 5 .nilFunc, g2.trans (Went.set _ _ _ _ _)⟩
theorem uReadHead {h a l c z : Int} {fv : Value} (A : At 85 w L s p 82 #[.int .i64 h, .int .i64 a, .int .i64 l, .int .i64 c, .int .u64 z, fv]) (f : s.Fit) (hc : s.c < 1000000) :
    Calls Tryd.prog 34 #[.pointer (some ⟨p, 0, none⟩), .pointer (some ⟨L.b, 0, none⟩)] w fun e w' => e = .returned (.tuple #[]) ∧
      ∃ L', At 85 w' L' (s.load h) p 82 #[.int .i64 h, .int .i64 a, .int .i64 l, .int .i64 c, .int .u64 (s.got h), pushFn 2] ∧ Went w L p w' L' := by
  have c0 : w.cell? ⟨p, 0, none⟩ = some (.int .i64 h) := A.cell 0
  go_enter Tryd.func34, Tryd.ntmps34
  go_wp2_with (go_at_call 21; refine (cLoad A.mem f hc h).mono ?_; rintro e w1 ⟨rfl, L1, hm1, st⟩; have A1 := A.step hm1 st; have d4 : w1.cell? ⟨p, 4, none⟩ = some (.int .u64 z) := A1.cell 4; have df4 := A1.free 4; have d5 : w1.cell? ⟨p, 5, none⟩ = some (fv) := A1.cell 5; have df5 := A1.free 5)
  go_end0
  exact ⟨rfl, L1, (A1.set 4 _).set 5 (pushFn 2), ((Went.of_step st p).trans (Went.set _ _ _ _ _)).trans (Went.set _ _ _ _ _)⟩
set_option maxHeartbeats 1000000 in
theorem uLink {h a l c z : Int} {fv : Value} (A : At 85 w L s p 82 #[.int .i64 h, .int .i64 a, .int .i64 l, .int .i64 c, .int .u64 z, fv]) (f : s.Fit) (hc : s.c < 1000000) (hz : U64 z) :
    Calls Tryd.prog 49 #[.pointer (some ⟨p, 0, none⟩), .pointer (some ⟨L.b, 0, none⟩)] w fun e w' => e = .returned (.tuple #[]) ∧
      ∃ L', At 85 w' L' (s.store l (hw 0 c 0 0 0 0 (t0 z))) p 82 #[.int .i64 h, .int .i64 a, .int .i64 l, .int .i64 c, .int .u64 z, pushFn 3] ∧ Went w L p w' L' := by
  have keep : ∀ w', Below w.heap.size w w' → w'.cell? ⟨p, 2, none⟩ = some (.int .i64 l) ∧ w'.cell? ⟨p, 3, none⟩ = some (.int .i64 c) ∧ w'.cell? ⟨p, 4, none⟩ = some (.int .u64 z) := fun w' hb => ⟨(A.below hb).cell 2, (A.below hb).cell 3, (A.below hb).cell 4⟩
  have hbd : Below w.heap.size w w.drew := (Below.refl w.heap.size w).drew
  have RD := keep _ hbd
  go_enter Tryd.func49, Tryd.ntmps49
  go_wp2
  go_region_held3 (fun w' => w'.cell? ⟨p, 2, none⟩ = some (.int .i64 l) ∧ w'.cell? ⟨p, 3, none⟩ = some (.int .i64 c) ∧ w'.cell? ⟨p, 4, none⟩ = some (.int .u64 z)) (first | assumption | exact RD | exact keep _ (by assumption))
    (first
      | (go_at_call 35; refine (cFirst z hz _).mono ?_; rintro e w1 ⟨rfl, hb1⟩; have hb1' := bel_trans hbd hb1)
      | (go_at_call 57; refine (H.cWord 0 c 0 0 0 0 (t0 z) _ (A.below hb1').wid).mono ?_; rintro e w2 ⟨rfl, x2, hw2⟩; have hb2' : Below w.heap.size w w2 := (by rw [hw2]; exact bel_trans hb1' (((Below.refl _ _).alloc (Nat.le_refl _) _).alloc (by simp) _)); clear hw2)
      | (go_at_call 22; refine (cStore (A.below hb2').mem f hc l _).mono ?_; rintro e w3 ⟨rfl, L3, hm3, st3⟩; have A3 := (A.below hb2').step hm3 st3; have S3 : w3.cell? ⟨p, 2, none⟩ = some (.int .i64 l) ∧ w3.cell? ⟨p, 3, none⟩ = some (.int .i64 c) ∧ w3.cell? ⟨p, 4, none⟩ = some (.int .u64 z) := ⟨A3.cell 2, A3.cell 3, A3.cell 4⟩; have g3 := (Went.of_below hb2' L p).trans (Went.of_step st3 p); have d5 : w3.cell? ⟨p, 5, none⟩ = some (fv) := A3.cell 5; have df5 := A3.free 5))
  go_wp2
  go_end0
  exact ⟨rfl, L3, A3.set 5 (pushFn 3), g3.trans (Went.set _ _ _ _ _)⟩
/-- a step of a Pop -/
theorem cPop0 {x : PopS} (A : At 85 w L s p 79 x.cells) (h0 : x.pc = 0) :
    Calls Tryd.prog 16 #[.pointer (some ⟨p, 0, none⟩), .pointer (some ⟨L.b, 0, none⟩)] w fun e w' => e = .returned (.bool true) ∧ w' = w := by
  obtain ⟨hd, k, z, pc⟩ := x
  obtain rfl : pc = 0 := h0
  have c : w.cell? ⟨p, 3, none⟩ = some .nilFunc := A.cell 3
  have n0 : ∀ w, (binOp .neq 76 .nilFunc .nilFunc).run Tryd.prog w = .ok (.bool false) w := fnNeP 0 (by omega)
  have q0 : ∀ w, (binOp .eql 76 .nilFunc .nilFunc).run Tryd.prog w = .ok (.bool true) w := fnEqP 0 (by omega)
  go_enter Tryd.func16, Tryd.ntmps16
  go_wp2
  go_ret
  exact ⟨rfl, rfl⟩
theorem cPop {x : PopS} (A : At 85 w L s p 79 x.cells) (ok : x.Ok) (f : s.Fit) (hc : s.c < 1000000) (r : s.Rng) :
    Calls Tryd.prog 16 #[.pointer (some ⟨p, 0, none⟩), .pointer (some ⟨L.b, 0, none⟩)] w fun e w' => e = .returned (.bool ((x.next s).pc == 0)) ∧
      ∃ L', At 85 w' L' (x.mem s) p 79 (x.next s).cells ∧ Went w L p w' L' := by
  obtain ⟨hd, k, z, pc⟩ := x
  have gd := fnGdP
  have ok' := (ok.next r).pc
  rcases pc_cases ok.pc with rfl | rfl | rfl | rfl
  · refine (cPop0 A rfl).mono ?_
    rintro e w' ⟨rfl, rfl⟩
    exact ⟨rfl, L, A, Went.refl _ _ _⟩
  · have cc : w.cell? ⟨p, 3, none⟩ = some (.func (.func 33) #[] #[]) := A.cell 3
    have n1 : ∀ w, (binOp .neq 76 (.func (.func 33) #[] #[]) .nilFunc).run Tryd.prog w = .ok (.bool true) w := fnNeP 1 (by omega)
    obtain ⟨q, hq⟩ : ∃ q, (PopS.next ⟨hd, k, z, 1⟩ s).pc = q := ⟨_, rfl⟩
    rw [hq] at ok' ⊢
    have q1 := fnEqP q ok'
    go_enter Tryd.func16, Tryd.ntmps16
    go_wp2_with (go_at_call 33; refine (pReadHead A f hc r).mono ?_; rintro e w1 ⟨rfl, L1, A1, g1⟩; have d : w1.cell? ⟨p, 3, none⟩ = some (popFn q) := (by rw [← hq]; exact A1.cell 3))
    go_ret
    exact ⟨rfl, L1, A1, g1⟩
  · have cc : w.cell? ⟨p, 3, none⟩ = some (.func (.func 48) #[] #[]) := A.cell 3
    have n1 : ∀ w, (binOp .neq 76 (.func (.func 48) #[] #[]) .nilFunc).run Tryd.prog w = .ok (.bool true) w := fnNeP 2 (by omega)
    obtain ⟨q, hq⟩ : ∃ q, (PopS.next ⟨hd, k, z, 2⟩ s).pc = q := ⟨_, rfl⟩
    rw [hq] at ok' ⊢
    have q1 := fnEqP q ok'
    go_enter Tryd.func16, Tryd.ntmps16
    go_wp2_with (go_at_call 48; refine (pReadCell A f hc r ok.seen).mono ?_; rintro e w1 ⟨rfl, L1, A1, g1⟩; have d : w1.cell? ⟨p, 3, none⟩ = some (popFn q) := (by rw [← hq]; exact A1.cell 3))
    go_ret
    exact ⟨rfl, L1, A1, g1⟩
  · have cc : w.cell? ⟨p, 3, none⟩ = some (.func (.func 56) #[] #[]) := A.cell 3
    have n1 : ∀ w, (binOp .neq 76 (.func (.func 56) #[] #[]) .nilFunc).run Tryd.prog w = .ok (.bool true) w := fnNeP 3 (by omega)
    obtain ⟨q, hq⟩ : ∃ q, (PopS.next ⟨hd, k, z, 3⟩ s).pc = q := ⟨_, rfl⟩
    rw [hq] at ok' ⊢
    have q1 := fnEqP q ok'
    go_enter Tryd.func16, Tryd.ntmps16
    go_wp2_with (go_at_call 56; refine (popSwap A f hc ok.seen).mono ?_; rintro e w1 ⟨rfl, L1, A1, g1⟩; have d : w1.cell? ⟨p, 3, none⟩ = some (popFn q) := (by rw [← hq]; exact A1.cell 3))
    go_ret
    exact ⟨rfl, L1, A1, g1⟩
/-- a step of a Push -/
theorem cPush0 {x : PushS} (A : At 85 w L s p 82 x.cells) (h0 : x.pc = 0) :
    Calls Tryd.prog 18 #[.pointer (some ⟨p, 0, none⟩), .pointer (some ⟨L.b, 0, none⟩)] w fun e w' => e = .returned (.bool true) ∧ w' = w := by
  obtain ⟨hd, a, l, c, z, pc⟩ := x
  obtain rfl : pc = 0 := h0
  have c : w.cell? ⟨p, 5, none⟩ = some .nilFunc := A.cell 5
  have n0 : ∀ w, (binOp .neq 80 .nilFunc .nilFunc).run Tryd.prog w = .ok (.bool false) w := fnNeU 0 (by omega)
  have q0 : ∀ w, (binOp .eql 80 .nilFunc .nilFunc).run Tryd.prog w = .ok (.bool true) w := fnEqU 0 (by omega)
  go_enter Tryd.func18, Tryd.ntmps18
  go_wp2
  go_ret
  exact ⟨rfl, rfl⟩
theorem cPush {x : PushS} (A : At 85 w L s p 82 x.cells) (ok : x.Ok) (f : s.Fit) (hc : s.c < 1000000) (r : s.Rng) :
    Calls Tryd.prog 18 #[.pointer (some ⟨p, 0, none⟩), .pointer (some ⟨L.b, 0, none⟩)] w fun e w' => e = .returned (.bool ((x.next s).pc == 0)) ∧
      ∃ L', At 85 w' L' (x.mem s) p 82 (x.next s).cells ∧ Went w L p w' L' := by
  obtain ⟨hd, a, l, c, z, pc⟩ := x
  have gd := fnGdU
  have ok' := (ok.next r).pc
  rcases pc_cases ok.pc with rfl | rfl | rfl | rfl
  · refine (cPush0 A rfl).mono ?_
    rintro e w' ⟨rfl, rfl⟩
    exact ⟨rfl, L, A, Went.refl _ _ _⟩
  · have cc : w.cell? ⟨p, 5, none⟩ = some (.func (.func 34) #[] #[]) := A.cell 5
    have n1 : ∀ w, (binOp .neq 80 (.func (.func 34) #[] #[]) .nilFunc).run Tryd.prog w = .ok (.bool true) w := fnNeU 1 (by omega)
    obtain ⟨q, hq⟩ : ∃ q, (PushS.next ⟨hd, a, l, c, z, 1⟩ s).pc = q := ⟨_, rfl⟩
    rw [hq] at ok' ⊢
    have q1 := fnEqU q ok'
    go_enter Tryd.func18, Tryd.ntmps18
    go_wp2_with (go_at_call 34; refine (uReadHead A f hc).mono ?_; rintro e w1 ⟨rfl, L1, A1, g1⟩; have d : w1.cell? ⟨p, 5, none⟩ = some (pushFn q) := (by rw [← hq]; exact A1.cell 5))
    go_ret
    exact ⟨rfl, L1, A1, g1⟩
  · have cc : w.cell? ⟨p, 5, none⟩ = some (.func (.func 49) #[] #[]) := A.cell 5
    have n1 : ∀ w, (binOp .neq 80 (.func (.func 49) #[] #[]) .nilFunc).run Tryd.prog w = .ok (.bool true) w := fnNeU 2 (by omega)
    obtain ⟨q, hq⟩ : ∃ q, (PushS.next ⟨hd, a, l, c, z, 2⟩ s).pc = q := ⟨_, rfl⟩
    rw [hq] at ok' ⊢
    have q1 := fnEqU q ok'
    go_enter Tryd.func18, Tryd.ntmps18
    go_wp2_with (go_at_call 49; refine (uLink A f hc ok.seen).mono ?_; rintro e w1 ⟨rfl, L1, A1, g1⟩; have d : w1.cell? ⟨p, 5, none⟩ = some (pushFn q) := (by rw [← hq]; exact A1.cell 5))
    go_ret
    exact ⟨rfl, L1, A1, g1⟩
  · have cc : w.cell? ⟨p, 5, none⟩ = some (.func (.func 58) #[] #[]) := A.cell 5
    have n1 : ∀ w, (binOp .neq 80 (.func (.func 58) #[] #[]) .nilFunc).run Tryd.prog w = .ok (.bool true) w := fnNeU 3 (by omega)
    obtain ⟨q, hq⟩ : ∃ q, (PushS.next ⟨hd, a, l, c, z, 3⟩ s).pc = q := ⟨_, rfl⟩
    rw [hq] at ok' ⊢
    have q1 := fnEqU q ok'
    go_enter Tryd.func18, Tryd.ntmps18
    go_wp2_with (go_at_call 58; refine (pushSwap A f hc ok.seen).mono ?_; rintro e w1 ⟨rfl, L1, A1, g1⟩; have d : w1.cell? ⟨p, 5, none⟩ = some (pushFn q) := (by rw [← hq]; exact A1.cell 5))
    go_ret
    exact ⟨rfl, L1, A1, g1⟩
theorem cResult {T : TypeId} {x : PopS} (hb : w.heap[p]? = some (.cells x.cells T (0, 0))) (ok : x.Ok) :
    Calls Tryd.prog 17 #[.pointer (some ⟨p, 0, none⟩)] w fun e w' => e = .returned (.tuple #[.int .i64 x.at_, .int .u64 x.saw]) ∧ Below w.heap.size w w' := by
  obtain ⟨hd, k, z, pc⟩ := x
  have c2 : w.cell? ⟨p, 2, none⟩ = some (.int .u64 z) := cell_of_row w _ _ _ _ _ hb
  have n0 : ∀ w, (binOp .neq 76 .nilFunc .nilFunc).run Tryd.prog w = .ok (.bool false) w := fnNeP 0 (by omega)
  rcases pc_cases ok.pc with rfl | rfl | rfl | rfl
  · have c3 : w.cell? ⟨p, 3, none⟩ = some .nilFunc := cell_of_row w _ _ _ _ _ hb
    have keep : ∀ w', Below w.heap.size w w' → w'.cell? ⟨p, 2, none⟩ = some (.int .u64 z) := fun w' h => (h.cell (lt_of_block hb)).trans c2
    have hbd : Below w.heap.size w w.drew := (Below.refl w.heap.size w).drew
    have RD := keep _ hbd
    go_enter Tryd.func17, Tryd.ntmps17
    go_wp2
    go_region_held3 (fun w' => w'.cell? ⟨p, 2, none⟩ = some (.int .u64 z)) (first | assumption | exact RD | exact keep _ (by assumption))
      ((go_at_call 35; refine (cFirst z ok.seen _).mono ?_; rintro e w1 ⟨rfl, hb1⟩; have hb1' := bel_trans hbd hb1))
    go_wp2
    go_ret2
    exact ⟨rfl, hb1'⟩
  · have c3 : w.cell? ⟨p, 3, none⟩ = some (.func (.func 33) #[] #[]) := cell_of_row w _ _ _ _ _ hb
    have n1 : ∀ w, (binOp .neq 76 (.func (.func 33) #[] #[]) .nilFunc).run Tryd.prog w = .ok (.bool true) w := fnNeP 1 (by omega)
    go_enter Tryd.func17, Tryd.ntmps17
    go_wp2
    go_ret2
    exact ⟨rfl, Below.refl _ _⟩
  · have c3 : w.cell? ⟨p, 3, none⟩ = some (.func (.func 48) #[] #[]) := cell_of_row w _ _ _ _ _ hb
    have n1 : ∀ w, (binOp .neq 76 (.func (.func 48) #[] #[]) .nilFunc).run Tryd.prog w = .ok (.bool true) w := fnNeP 2 (by omega)
    go_enter Tryd.func17, Tryd.ntmps17
    go_wp2
    go_ret2
    exact ⟨rfl, Below.refl _ _⟩
  · have c3 : w.cell? ⟨p, 3, none⟩ = some (.func (.func 56) #[] #[]) := cell_of_row w _ _ _ _ _ hb
    have n1 : ∀ w, (binOp .neq 76 (.func (.func 56) #[] #[]) .nilFunc).run Tryd.prog w = .ok (.bool true) w := fnNeP 3 (by omega)
    go_enter Tryd.func17, Tryd.ntmps17
    go_wp2
    go_ret2
    exact ⟨rfl, Below.refl _ _⟩
end
end Go.Proofs.YteclgafdflmioaaDoor
