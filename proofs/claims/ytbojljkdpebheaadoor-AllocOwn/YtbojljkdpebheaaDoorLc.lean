/-
  What the list's functions come to when they are called.
-/
import Derived.Test.YtbojljkdpebheaaDoorLp
import Derived.Deep.RegionHeld3
namespace Go.Proofs.YtbojljkdpebheaaDoor
set_option linter.unusedVariables false
set_option maxRecDepth 100000
open Go.ChangeShapes Go.WideShapes Go.RowKit
open S.Plain (t0 t1 tw nx)
open H.Plain (hw pL)

theorem ftop0 (x y : Int) (w : World) : (Instr.field 43 (.agg #[.int .i64 x, .int .i64 y]) 0).run Tryd.prog w = .ok (.int .i64 x) w := by kernel_rfl
theorem fhead6 (a b c d e f g : Int) (w : World) : (Instr.field 50 (.agg #[.int .i64 a, .int .i64 b, .int .i64 c, .int .i64 d, .int .i64 e, .int .i64 f, .int .i64 g]) 6).run Tryd.prog w = .ok (.int .i64 g) w := by kernel_rfl

theorem cFirst (a : Int) (h : U64 a) (w : World) :
    Calls Tryd.prog 67 #[.int .u64 a] w fun e w' => e = .returned (.int .i64 (t0 a)) ∧ Below w.heap.size w w' := by
  have f0 := ftop0 (t0 a) (t1 a)
  go_enter Tryd.func67, Tryd.ntmps67
  go_wp2_with (go_at_call 82; refine (S.cOfTop a h.1 h.2 _).mono ?_; rintro e w1 ⟨rfl, hw1⟩; have hb1 : Below w.heap.size w w1 := (by rw [hw1]; go_grown); clear hw1)
  go_ret
  exact ⟨rfl, hb1⟩

theorem cNewPop (h : Int) (w : World) :
    Calls Tryd.prog 58 #[.int .i64 h] w fun e w' => e = .returned (.pointer (some ⟨w.heap.size, 0, none⟩)) ∧ w' = w.alloc (.cells (PopS.new h).cells 74) := by
  go_enter Tryd.func58, Tryd.ntmps58
  go_wp2
  go_ret
  exact ⟨rfl, rfl⟩
theorem cNewPush (h f l c : Int) (w : World) :
    Calls Tryd.prog 24 #[.int .i64 h, .int .i64 f, .int .i64 l, .int .i64 c] w fun e w' => e = .returned (.pointer (some ⟨w.heap.size, 0, none⟩)) ∧ w' = w.alloc (.cells (PushS.new h f l c).cells 79) := by
  go_enter Tryd.func24, Tryd.ntmps24
  go_wp2
  go_ret
  exact ⟨rfl, rfl⟩

theorem bel_trans {a u v : World} (h : Below a.heap.size a u) (hb : Below u.heap.size u v) : Below a.heap.size a v := h.trans (hb.mono h.size)
/-- a step that is kept, against nil -/
theorem fnEqP (n : Nat) (h : n ≤ 3) (w : World) : (binOp .eql 72 (popFn n) .nilFunc).run Tryd.prog w = .ok (.bool (n == 0)) w := by
  rcases pc_cases h with rfl | rfl | rfl | rfl <;> kernel_rfl
theorem fnNeP (n : Nat) (h : n ≤ 3) (w : World) : (binOp .neq 72 (popFn n) .nilFunc).run Tryd.prog w = .ok (.bool (n != 0)) w := by
  rcases pc_cases h with rfl | rfl | rfl | rfl <;> kernel_rfl
theorem fnEqU (n : Nat) (h : n ≤ 3) (w : World) : (binOp .eql 77 (pushFn n) .nilFunc).run Tryd.prog w = .ok (.bool (n == 0)) w := by
  rcases pc_cases h with rfl | rfl | rfl | rfl <;> kernel_rfl
theorem fnNeU (n : Nat) (h : n ≤ 3) (w : World) : (binOp .neq 77 (pushFn n) .nilFunc).run Tryd.prog w = .ok (.bool (n != 0)) w := by
  rcases pc_cases h with rfl | rfl | rfl | rfl <;> kernel_rfl
theorem fnGdP (op : BinOp) (t : TypeId) (x y : Operand) (n : Nat) : eqGuard op t x y (popFn n) .nilFunc = pure () := by unfold popFn; split <;> cases op <;> rfl
theorem fnGdU (op : BinOp) (t : TypeId) (x y : Operand) (n : Nat) : eqGuard op t x y (pushFn n) .nilFunc = pure () := by unfold pushFn; split <;> cases op <;> rfl

/-- cells of a block turn from o on, n of them -/
structure Lay (cs cs' : Array Value) (o n : Nat) : Prop where
  size : cs'.size = cs.size
  off : ∀ i, i < o ∨ o + n ≤ i → cs'[i]? = cs[i]?
theorem get_ne {cs : Array Value} {i j : Nat} (h : i ≠ j) (u : Value) : (cs.setIfInBounds i u)[j]? = cs[j]? := by rw [Array.getElem?_setIfInBounds, if_neg h]
theorem get_eq {cs : Array Value} {i : Nat} {v : Value} (h : cs[i]? = some v) (u : Value) : (cs.setIfInBounds i u)[i]? = some u := by
  rw [Array.getElem?_setIfInBounds, if_pos rfl, if_pos (Array.getElem?_eq_some_iff.1 h).1]
theorem Lay.refl (cs : Array Value) (o n : Nat) : Lay cs cs o n := ⟨rfl, fun _ _ => rfl⟩
theorem Lay.trans {a b c : Array Value} {o n : Nat} (h : Lay a b o n) (h' : Lay b c o n) : Lay a c o n := ⟨h'.size.trans h.size, fun i hi => (h'.off i hi).trans (h.off i hi)⟩
theorem Lay.set (cs : Array Value) {o n i : Nat} (u : Value) (h : o ≤ i) (h' : i < o + n) : Lay cs (cs.setIfInBounds i u) o n := ⟨by simp, fun j hj => get_ne (by omega) u⟩
theorem Lay.eq {cs cs' : Array Value} {n : Nat} (h : Lay cs cs' 0 n) {d : Array Value} (hd : d.size = cs.size) (hi : ∀ i, i < n → cs'[i]? = d[i]?) (hn : cs.size ≤ n) : cs' = d := by
  refine Array.ext_getElem? fun i => ?_
  by_cases k : i < n
  · exact hi i k
  · rw [Array.getElem?_eq_none (by rw [h.size]; omega), Array.getElem?_eq_none (by rw [hd]; omega)]
/-- a Pop lies in a block's cells, from the cell o on -/
structure PopIn (cs : Array Value) (o : Nat) (h k z : Int) (fv : Value) : Prop where
  c0 : cs[o]? = some (.int .i64 h)
  c1 : cs[o + 1]? = some (.int .i64 k)
  c2 : cs[o + 2]? = some (.int .u64 z)
  c3 : cs[o + 3]? = some fv
structure PushIn (cs : Array Value) (o : Nat) (h a l c z : Int) (fv : Value) : Prop where
  c0 : cs[o]? = some (.int .i64 h)
  c1 : cs[o + 1]? = some (.int .i64 a)
  c2 : cs[o + 2]? = some (.int .i64 l)
  c3 : cs[o + 3]? = some (.int .i64 c)
  c4 : cs[o + 4]? = some (.int .u64 z)
  c5 : cs[o + 5]? = some fv
section
variable {cs : Array Value} {o : Nat} {h k a l c z : Int} {fv : Value}
theorem PopIn.link (I : PopIn cs o h k z fv) (k' : Int) : PopIn (cs.setIfInBounds (o + 1) (.int .i64 k')) o h k' z fv := ⟨by rw [get_ne (by omega)]; exact I.c0, get_eq I.c1 _, by rw [get_ne (by omega)]; exact I.c2, by rw [get_ne (by omega)]; exact I.c3⟩
theorem PopIn.seen (I : PopIn cs o h k z fv) (z' : Int) : PopIn (cs.setIfInBounds (o + 2) (.int .u64 z')) o h k z' fv := ⟨by rw [get_ne (by omega)]; exact I.c0, by rw [get_ne (by omega)]; exact I.c1, get_eq I.c2 _, by rw [get_ne (by omega)]; exact I.c3⟩
theorem PopIn.fn (I : PopIn cs o h k z fv) (f' : Value) : PopIn (cs.setIfInBounds (o + 3) f') o h k z f' := ⟨by rw [get_ne (by omega)]; exact I.c0, by rw [get_ne (by omega)]; exact I.c1, by rw [get_ne (by omega)]; exact I.c2, get_eq I.c3 _⟩
theorem PushIn.seen (I : PushIn cs o h a l c z fv) (z' : Int) : PushIn (cs.setIfInBounds (o + 4) (.int .u64 z')) o h a l c z' fv := ⟨by rw [get_ne (by omega)]; exact I.c0, by rw [get_ne (by omega)]; exact I.c1, by rw [get_ne (by omega)]; exact I.c2, by rw [get_ne (by omega)]; exact I.c3, get_eq I.c4 _, by rw [get_ne (by omega)]; exact I.c5⟩
theorem PushIn.fn (I : PushIn cs o h a l c z fv) (f' : Value) : PushIn (cs.setIfInBounds (o + 5) f') o h a l c z f' := ⟨by rw [get_ne (by omega)]; exact I.c0, by rw [get_ne (by omega)]; exact I.c1, by rw [get_ne (by omega)]; exact I.c2, by rw [get_ne (by omega)]; exact I.c3, by rw [get_ne (by omega)]; exact I.c4, get_eq I.c5 _⟩
end
section
variable {w : World} {L : Loc} {s : St} {p o : Nat} {T : TypeId} {cs : Array Value}
theorem pReadHead {h k z : Int} {fv : Value} (A : At 89 w L s p T cs) (I : PopIn cs o h k z fv) (f : s.Fit) (hc : s.c < 1000000) (r : s.Rng) :
    Calls Tryd.prog 69 #[.pointer (some ⟨p, o, none⟩), .pointer (some ⟨L.b, 0, none⟩)] w fun e w' => e = .returned (.tuple #[]) ∧
      ∃ L' cs', At 89 w' L' (s.load h) p T cs' ∧ PopIn cs' o h k (s.got h) (popFn (if t0 (s.got h) = 0 then 0 else 2)) ∧ Lay cs cs' o 4 ∧ Went w L p w' L' := by
  have c0 : w.cell? ⟨p, o, none⟩ = some (.int .i64 h) := (A.cell _).trans I.c0; have cf0 := A.free o
  have hr := r.got h
  obtain ⟨v, hv⟩ : ∃ v, s.got h = v := ⟨_, rfl⟩
  rw [hv] at hr ⊢
  by_cases hq : t0 v = 0
  · rw [if_pos hq]
    go_enter Tryd.func69, Tryd.ntmps69
    go_wp2_with (first
      | (go_at_call 15; refine (cLoad A.mem f hc h).mono ?_; rintro e w1 ⟨rfl, L1, hm1, st⟩; rw [hv]; have A1 := A.step hm1 st; have d2 : w1.cell? ⟨p, o + 2, none⟩ = some (.int .u64 z) := (A1.cell _).trans I.c2; have df2 := A1.free (o + 2); have d3 : w1.cell? ⟨p, o + 3, none⟩ = some (fv) := (A1.cell _).trans I.c3; have df3 := A1.free (o + 3))
      | (go_at_call 67; refine (cFirst _ hr _).mono ?_; rintro e w2 ⟨rfl, hb2⟩; rw [hq]; have A2 := ((A1.set (o + 2) (.int .u64 v)).set (o + 3) (popFn 2)).below hb2; have I2 := (I.seen v).fn (popFn 2); have g2 : Went w L p w2 L1 := (((Went.of_step st p).trans (Went.set _ _ _ _ _)).trans (Went.set _ _ _ _ _)).trans (Went.of_below hb2 _ _); have e3 : w2.cell? ⟨p, o + 3, none⟩ = some (popFn 2) := (A2.cell _).trans I2.c3; have ef3 := A2.free (o + 3); clear hb2))
    go_end0
    exact ⟨rfl, L1, _, A2.set (o + 3) .nilFunc, I2.fn .nilFunc, ((Lay.set _ _ (by omega) (by omega)).trans (Lay.set _ _ (by omega) (by omega))).trans (Lay.set _ _ (by omega) (by omega)), g2.trans (Went.set _ _ _ _ _)⟩
  · rw [if_neg hq]
    have hq' : (t0 v == 0) = false := by simpa using hq
    go_enter Tryd.func69, Tryd.ntmps69
    go_wp2_with (first
      | (go_at_call 15; refine (cLoad A.mem f hc h).mono ?_; rintro e w1 ⟨rfl, L1, hm1, st⟩; rw [hv]; have A1 := A.step hm1 st; have d2 : w1.cell? ⟨p, o + 2, none⟩ = some (.int .u64 z) := (A1.cell _).trans I.c2; have df2 := A1.free (o + 2); have d3 : w1.cell? ⟨p, o + 3, none⟩ = some (fv) := (A1.cell _).trans I.c3; have df3 := A1.free (o + 3))
      | (go_at_call 67; refine (cFirst _ hr _).mono ?_; rintro e w2 ⟨rfl, hb2⟩; have A2 := ((A1.set (o + 2) (.int .u64 v)).set (o + 3) (popFn 2)).below hb2; have g2 : Went w L p w2 L1 := (((Went.of_step st p).trans (Went.set _ _ _ _ _)).trans (Went.set _ _ _ _ _)).trans (Went.of_below hb2 _ _); clear hb2))
    go_end0
    exact ⟨rfl, L1, _, A2, (I.seen v).fn (popFn 2), (Lay.set _ _ (by omega) (by omega)).trans (Lay.set _ _ (by omega) (by omega)), g2⟩
theorem pReadCell {h k z : Int} {fv : Value} (A : At 89 w L s p T cs) (I : PopIn cs o h k z fv) (f : s.Fit) (hc : s.c < 1000000) (r : s.Rng) (hz : U64 z) :
    Calls Tryd.prog 85 #[.pointer (some ⟨p, o, none⟩), .pointer (some ⟨L.b, 0, none⟩)] w fun e w' => e = .returned (.tuple #[]) ∧
      ∃ L' cs', At 89 w' L' (s.load (t0 z)) p T cs' ∧ PopIn cs' o h (pL (s.got (t0 z))) z (popFn 3) ∧ Lay cs cs' o 4 ∧ Went w L p w' L' := by
  have c2 : w.cell? ⟨p, o + 2, none⟩ = some (.int .u64 z) := (A.cell _).trans I.c2; have cf2 := A.free (o + 2)
  have hr := r.got (t0 z)
  obtain ⟨v, hv⟩ : ∃ v, s.got (t0 z) = v := ⟨_, rfl⟩
  rw [hv] at hr ⊢
  have f6 := fhead6 (H.Plain.pS v) (H.Plain.pC v) (H.Plain.pN v) (H.Plain.pM v) (H.Plain.pG v) (H.Plain.pT v) (pL v)
  go_enter Tryd.func85, Tryd.ntmps85
  go_wp2_with (first
    | (go_at_call 67; refine (cFirst _ hz _).mono ?_; rintro e w0 ⟨rfl, hb0⟩; have A0 := A.below hb0)
    | (go_at_call 15; refine (cLoad A0.mem f hc _).mono ?_; rintro e w1 ⟨rfl, L1, hm1, st⟩; rw [hv]; have A1 := A0.step hm1 st)
    | (go_at_call 98; refine (H.cOf _ hr.1 hr.2 _ A1.wid.1).mono ?_; rintro e w2 ⟨rfl, hw2⟩; have hb2 : Below w1.heap.size w1 w2 := (by rw [hw2]; go_grown); clear hw2; have A2 := A1.below hb2; have d1 : w2.cell? ⟨p, o + 1, none⟩ = some (.int .i64 k) := (A2.cell _).trans I.c1; have df1 := A2.free (o + 1); have d3 : w2.cell? ⟨p, o + 3, none⟩ = some (fv) := (A2.cell _).trans I.c3; have df3 := A2.free (o + 3)))
  go_end0
  exact ⟨rfl, L1, _, (A2.set (o + 1) _).set (o + 3) (popFn 3), (I.link _).fn _, (Lay.set _ _ (by omega) (by omega)).trans (Lay.set _ _ (by omega) (by omega)), ((((Went.of_below hb0 L p).trans (Went.of_step st p)).trans (Went.of_below hb2 _ _)).trans (Went.set _ _ _ _ _)).trans (Went.set _ _ _ _ _)⟩
set_option maxHeartbeats 1000000 in
theorem popSwap {h k z : Int} {fv : Value} (A : At 89 w L s p T cs) (I : PopIn cs o h k z fv) (f : s.Fit) (hc : s.c < 1000000) (hz : U64 z) :
    Calls Tryd.prog 99 #[.pointer (some ⟨p, o, none⟩), .pointer (some ⟨L.b, 0, none⟩)] w fun e w' => e = .returned (.tuple #[]) ∧
      ∃ L' cs', At 89 w' L' (s.cas h z (nx z k)) p T cs' ∧ PopIn cs' o h k z (popFn (if s.ok1 h z then 0 else 1)) ∧ Lay cs cs' o 4 ∧ Went w L p w' L' := by
  have c3 : w.cell? ⟨p, o + 3, none⟩ = some (fv) := (A.cell _).trans I.c3; have cf3 := A.free (o + 3)
  obtain ⟨ok, hok⟩ : ∃ ok, s.ok1 h z = ok := ⟨_, rfl⟩
  rw [hok]
  have Aa := A.set (o + 3) (popFn 1)
  have Ia := I.fn (popFn 1)
  have ga : Went w L p (w.setCell ⟨p, o + 3, none⟩ (popFn 1)) L := Went.set _ _ _ _ _
  go_enter Tryd.func99, Tryd.ntmps99
  go_wp2
  change At _ (w.setCell ⟨p, o + 3, none⟩ (.func (.func 69) #[] #[])) _ _ _ _ _ at Aa
  change Went _ _ _ (w.setCell ⟨p, o + 3, none⟩ (.func (.func 69) #[] #[])) _ at ga
  generalize w.setCell ⟨p, o + 3, none⟩ (.func (.func 69) #[] #[]) = wa at Aa ga ⊢
  have keep : ∀ w', Below wa.heap.size wa w' → w'.cell? ⟨p, o, none⟩ = some (.int .i64 h) ∧ w'.cell? ⟨p, o + 1, none⟩ = some (.int .i64 k) ∧ w'.cell? ⟨p, o + 2, none⟩ = some (.int .u64 z) := fun w' hb => ⟨((Aa.below hb).cell _).trans Ia.c0, ((Aa.below hb).cell _).trans Ia.c1, ((Aa.below hb).cell _).trans Ia.c2⟩
  have hbd : Below wa.heap.size wa wa.drew := (Below.refl wa.heap.size wa).drew
  have RD := keep _ hbd
  go_region_held3 (fun w' => w'.cell? ⟨p, o, none⟩ = some (.int .i64 h) ∧ w'.cell? ⟨p, o + 1, none⟩ = some (.int .i64 k) ∧ w'.cell? ⟨p, o + 2, none⟩ = some (.int .u64 z)) (first | assumption | exact RD | exact keep _ (by assumption))
    (first
      | (go_at_call 84; refine (S.gNext z k hz.1 hz.2 _).mono ?_; rintro e w1 ⟨rfl, hb1⟩; have hb1' := bel_trans hbd hb1)
      | (go_at_call 83; refine (cCAS (Aa.below hb1').mem f hc h z (nx z k)).mono ?_; rintro e w2 ⟨rfl, L2, hm2, st2⟩; rw [hok]; have A2 := (Aa.below hb1').step hm2 st2; have S2 : w2.cell? ⟨p, o, none⟩ = some (.int .i64 h) ∧ w2.cell? ⟨p, o + 1, none⟩ = some (.int .i64 k) ∧ w2.cell? ⟨p, o + 2, none⟩ = some (.int .u64 z) := ⟨(A2.cell _).trans Ia.c0, (A2.cell _).trans Ia.c1, (A2.cell _).trans Ia.c2⟩; have g2 := (ga.trans (Went.of_below hb1' _ _)).trans (Went.of_step st2 p); have d3 : w2.cell? ⟨p, o + 3, none⟩ = some (popFn 1) := (A2.cell _).trans Ia.c3; have df3 := A2.free (o + 3)))
  rcases ok with _ | _
  · go_wp2
    go_end0
    exact ⟨rfl, L2, _, A2, Ia, Lay.set _ _ (by omega) (by omega), g2⟩
  · go_wp2
    go_end0
    exact ⟨rfl, L2, _, A2.set (o + 3) .nilFunc, Ia.fn .nilFunc, (Lay.set _ _ (by omega) (by omega)).trans (Lay.set _ _ (by omega) (by omega)), g2.trans (Went.set _ _ _ _ _)⟩
set_option maxHeartbeats 1000000 in
theorem pushSwap {h a l c z : Int} {fv : Value} (A : At 89 w L s p T cs) (I : PushIn cs o h a l c z fv) (f : s.Fit) (hc : s.c < 1000000) (hz : U64 z) :
    Calls Tryd.prog 68 #[.pointer (some ⟨p, o, none⟩), .pointer (some ⟨L.b, 0, none⟩)] w fun e w' => e = .returned (.tuple #[]) ∧
      ∃ L' cs', At 89 w' L' (s.cas h z (nx z a)) p T cs' ∧ PushIn cs' o h a l c z (pushFn (if s.ok1 h z then 0 else 1)) ∧ Lay cs cs' o 6 ∧ Went w L p w' L' := by
  have c5 : w.cell? ⟨p, o + 5, none⟩ = some (fv) := (A.cell _).trans I.c5; have cf5 := A.free (o + 5)
  obtain ⟨ok, hok⟩ : ∃ ok, s.ok1 h z = ok := ⟨_, rfl⟩
  rw [hok]
  have Aa := A.set (o + 5) (pushFn 1)
  have Ia := I.fn (pushFn 1)
  have ga : Went w L p (w.setCell ⟨p, o + 5, none⟩ (pushFn 1)) L := Went.set _ _ _ _ _
  go_enter Tryd.func68, Tryd.ntmps68
  go_wp2
  change At _ (w.setCell ⟨p, o + 5, none⟩ (.func (.func 43) #[] #[])) _ _ _ _ _ at Aa
  change Went _ _ _ (w.setCell ⟨p, o + 5, none⟩ (.func (.func 43) #[] #[])) _ at ga
  generalize w.setCell ⟨p, o + 5, none⟩ (.func (.func 43) #[] #[]) = wa at Aa ga ⊢
  have keep : ∀ w', Below wa.heap.size wa w' → w'.cell? ⟨p, o, none⟩ = some (.int .i64 h) ∧ w'.cell? ⟨p, o + 1, none⟩ = some (.int .i64 a) ∧ w'.cell? ⟨p, o + 4, none⟩ = some (.int .u64 z) := fun w' hb => ⟨((Aa.below hb).cell _).trans Ia.c0, ((Aa.below hb).cell _).trans Ia.c1, ((Aa.below hb).cell _).trans Ia.c4⟩
  have hbd : Below wa.heap.size wa wa.drew := (Below.refl wa.heap.size wa).drew
  have RD := keep _ hbd
  go_region_held3 (fun w' => w'.cell? ⟨p, o, none⟩ = some (.int .i64 h) ∧ w'.cell? ⟨p, o + 1, none⟩ = some (.int .i64 a) ∧ w'.cell? ⟨p, o + 4, none⟩ = some (.int .u64 z)) (first | assumption | exact RD | exact keep _ (by assumption))
    (first
      | (go_at_call 84; refine (S.gNext z a hz.1 hz.2 _).mono ?_; rintro e w1 ⟨rfl, hb1⟩; have hb1' := bel_trans hbd hb1)
      | (go_at_call 83; refine (cCAS (Aa.below hb1').mem f hc h z (nx z a)).mono ?_; rintro e w2 ⟨rfl, L2, hm2, st2⟩; rw [hok]; have A2 := (Aa.below hb1').step hm2 st2; have S2 : w2.cell? ⟨p, o, none⟩ = some (.int .i64 h) ∧ w2.cell? ⟨p, o + 1, none⟩ = some (.int .i64 a) ∧ w2.cell? ⟨p, o + 4, none⟩ = some (.int .u64 z) := ⟨(A2.cell _).trans Ia.c0, (A2.cell _).trans Ia.c1, (A2.cell _).trans Ia.c4⟩; have g2 := (ga.trans (Went.of_below hb1' _ _)).trans (Went.of_step st2 p); have d5 : w2.cell? ⟨p, o + 5, none⟩ = some (pushFn 1) := (A2.cell _).trans Ia.c5; have df5 := A2.free (o + 5)))
  rcases ok with _ | _
  · go_wp2
    go_end0
    exact ⟨rfl, L2, _, A2, Ia, Lay.set _ _ (by omega) (by omega), g2⟩
  · go_wp2
    go_end0
    exact ⟨rfl, L2, _, A2.set (o + 5) .nilFunc, Ia.fn .nilFunc, (Lay.set _ _ (by omega) (by omega)).trans (Lay.set _ _ (by omega) (by omega)), g2.trans (Went.set _ _ _ _ _)⟩
theorem uReadHead {h a l c z : Int} {fv : Value} (A : At 89 w L s p T cs) (I : PushIn cs o h a l c z fv) (f : s.Fit) (hc : s.c < 1000000) :
    Calls Tryd.prog 43 #[.pointer (some ⟨p, o, none⟩), .pointer (some ⟨L.b, 0, none⟩)] w fun e w' => e = .returned (.tuple #[]) ∧
      ∃ L' cs', At 89 w' L' (s.load h) p T cs' ∧ PushIn cs' o h a l c (s.got h) (pushFn 2) ∧ Lay cs cs' o 6 ∧ Went w L p w' L' := by
  have c0 : w.cell? ⟨p, o, none⟩ = some (.int .i64 h) := (A.cell _).trans I.c0; have cf0 := A.free o
  go_enter Tryd.func43, Tryd.ntmps43
  go_wp2_with (go_at_call 15; refine (cLoad A.mem f hc h).mono ?_; rintro e w1 ⟨rfl, L1, hm1, st⟩; have A1 := A.step hm1 st; have d4 : w1.cell? ⟨p, o + 4, none⟩ = some (.int .u64 z) := (A1.cell _).trans I.c4; have df4 := A1.free (o + 4); have d5 : w1.cell? ⟨p, o + 5, none⟩ = some (fv) := (A1.cell _).trans I.c5; have df5 := A1.free (o + 5))
  go_end0
  exact ⟨rfl, L1, _, (A1.set (o + 4) _).set (o + 5) (pushFn 2), (I.seen _).fn _, (Lay.set _ _ (by omega) (by omega)).trans (Lay.set _ _ (by omega) (by omega)), ((Went.of_step st p).trans (Went.set _ _ _ _ _)).trans (Went.set _ _ _ _ _)⟩
set_option maxHeartbeats 1000000 in
theorem uLink {h a l c z : Int} {fv : Value} (A : At 89 w L s p T cs) (I : PushIn cs o h a l c z fv) (f : s.Fit) (hc : s.c < 1000000) (hz : U64 z) :
    Calls Tryd.prog 57 #[.pointer (some ⟨p, o, none⟩), .pointer (some ⟨L.b, 0, none⟩)] w fun e w' => e = .returned (.tuple #[]) ∧
      ∃ L' cs', At 89 w' L' (s.store l (hw 0 c 0 0 0 0 (t0 z))) p T cs' ∧ PushIn cs' o h a l c z (pushFn 3) ∧ Lay cs cs' o 6 ∧ Went w L p w' L' := by
  have keep : ∀ w', Below w.heap.size w w' → w'.cell? ⟨p, o + 2, none⟩ = some (.int .i64 l) ∧ w'.cell? ⟨p, o + 3, none⟩ = some (.int .i64 c) ∧ w'.cell? ⟨p, o + 4, none⟩ = some (.int .u64 z) := fun w' hb => ⟨((A.below hb).cell _).trans I.c2, ((A.below hb).cell _).trans I.c3, ((A.below hb).cell _).trans I.c4⟩
  have hbd : Below w.heap.size w w.drew := (Below.refl w.heap.size w).drew
  have RD := keep _ hbd
  go_enter Tryd.func57, Tryd.ntmps57
  go_wp2
  go_region_held3 (fun w' => w'.cell? ⟨p, o + 2, none⟩ = some (.int .i64 l) ∧ w'.cell? ⟨p, o + 3, none⟩ = some (.int .i64 c) ∧ w'.cell? ⟨p, o + 4, none⟩ = some (.int .u64 z)) (first | assumption | exact RD | exact keep _ (by assumption))
    (first
      | (go_at_call 67; refine (cFirst z hz _).mono ?_; rintro e w1 ⟨rfl, hb1⟩; have hb1' := bel_trans hbd hb1)
      | (go_at_call 54; refine (H.cWord 0 c 0 0 0 0 (t0 z) _ (A.below hb1').wid.1).mono ?_; rintro e w2 ⟨rfl, x2, hw2⟩; have hb2' : Below w.heap.size w w2 := (by rw [hw2]; exact bel_trans hb1' (((Below.refl _ _).alloc (Nat.le_refl _) _).alloc (by simp) _)); clear hw2)
      | (go_at_call 27; refine (cStore (A.below hb2').mem f hc l _).mono ?_; rintro e w3 ⟨rfl, L3, hm3, st3⟩; have A3 := (A.below hb2').step hm3 st3; have S3 : w3.cell? ⟨p, o + 2, none⟩ = some (.int .i64 l) ∧ w3.cell? ⟨p, o + 3, none⟩ = some (.int .i64 c) ∧ w3.cell? ⟨p, o + 4, none⟩ = some (.int .u64 z) := ⟨(A3.cell _).trans I.c2, (A3.cell _).trans I.c3, (A3.cell _).trans I.c4⟩; have g3 := (Went.of_below hb2' L p).trans (Went.of_step st3 p); have d5 : w3.cell? ⟨p, o + 5, none⟩ = some (fv) := (A3.cell _).trans I.c5; have df5 := A3.free (o + 5)))
  go_wp2
  go_end0
  exact ⟨rfl, L3, _, A3.set (o + 5) (pushFn 3), I.fn _, Lay.set _ _ (by omega) (by omega), g3.trans (Went.set _ _ _ _ _)⟩
/-- a step of a Pop -/
theorem cPopIn0 {x : PopS} (A : At 89 w L s p T cs) (I : PopIn cs o x.hd x.link x.seen (popFn x.pc)) (h0 : x.pc = 0) :
    Calls Tryd.prog 60 #[.pointer (some ⟨p, o, none⟩), .pointer (some ⟨L.b, 0, none⟩)] w fun e w' => e = .returned (.bool true) ∧ w' = w := by
  obtain ⟨hd, k, z, pc⟩ := x
  obtain rfl : pc = 0 := h0
  have c : w.cell? ⟨p, o + 3, none⟩ = some .nilFunc := (A.cell _).trans I.c3
  have n0 : ∀ w, (binOp .neq 72 .nilFunc .nilFunc).run Tryd.prog w = .ok (.bool false) w := fnNeP 0 (by omega)
  have q0 : ∀ w, (binOp .eql 72 .nilFunc .nilFunc).run Tryd.prog w = .ok (.bool true) w := fnEqP 0 (by omega)
  go_enter Tryd.func60, Tryd.ntmps60
  go_wp2
  go_ret
  exact ⟨rfl, rfl⟩
theorem cPopIn {x : PopS} (A : At 89 w L s p T cs) (I : PopIn cs o x.hd x.link x.seen (popFn x.pc)) (ok : x.Ok) (f : s.Fit) (hc : s.c < 1000000) (r : s.Rng) :
    Calls Tryd.prog 60 #[.pointer (some ⟨p, o, none⟩), .pointer (some ⟨L.b, 0, none⟩)] w fun e w' => e = .returned (.bool ((x.next s).pc == 0)) ∧
      ∃ L' cs', At 89 w' L' (x.mem s) p T cs' ∧ PopIn cs' o (x.next s).hd (x.next s).link (x.next s).seen (popFn (x.next s).pc) ∧ Lay cs cs' o 4 ∧ Went w L p w' L' := by
  obtain ⟨hd, k, z, pc⟩ := x
  have gd := fnGdP
  have ok' := (ok.next r).pc
  rcases pc_cases ok.pc with rfl | rfl | rfl | rfl
  · refine (cPopIn0 A I rfl).mono ?_
    rintro e w' ⟨rfl, rfl⟩
    exact ⟨rfl, L, _, A, I, Lay.refl _ _ _, Went.refl _ _ _⟩
  · have cc : w.cell? ⟨p, o + 3, none⟩ = some (.func (.func 69) #[] #[]) := (A.cell _).trans I.c3
    have n1 : ∀ w, (binOp .neq 72 (.func (.func 69) #[] #[]) .nilFunc).run Tryd.prog w = .ok (.bool true) w := fnNeP 1 (by omega)
    obtain ⟨q, hq⟩ : ∃ q, (PopS.next ⟨hd, k, z, 1⟩ s).pc = q := ⟨_, rfl⟩
    rw [hq] at ok' ⊢
    have q1 := fnEqP q ok'
    go_enter Tryd.func60, Tryd.ntmps60
    go_wp2_with (go_at_call 69; refine (pReadHead A I f hc r).mono ?_; rintro e w1 ⟨rfl, L1, cs1, A1, I1, y1, g1⟩; have d : w1.cell? ⟨p, o + 3, none⟩ = some (popFn q) := (by rw [← hq]; exact (A1.cell _).trans I1.c3))
    go_ret
    exact ⟨rfl, L1, cs1, A1, by rw [← hq]; exact I1, y1, g1⟩
  · have cc : w.cell? ⟨p, o + 3, none⟩ = some (.func (.func 85) #[] #[]) := (A.cell _).trans I.c3
    have n1 : ∀ w, (binOp .neq 72 (.func (.func 85) #[] #[]) .nilFunc).run Tryd.prog w = .ok (.bool true) w := fnNeP 2 (by omega)
    obtain ⟨q, hq⟩ : ∃ q, (PopS.next ⟨hd, k, z, 2⟩ s).pc = q := ⟨_, rfl⟩
    rw [hq] at ok' ⊢
    have q1 := fnEqP q ok'
    go_enter Tryd.func60, Tryd.ntmps60
    go_wp2_with (go_at_call 85; refine (pReadCell A I f hc r ok.seen).mono ?_; rintro e w1 ⟨rfl, L1, cs1, A1, I1, y1, g1⟩; have d : w1.cell? ⟨p, o + 3, none⟩ = some (popFn q) := (by rw [← hq]; exact (A1.cell _).trans I1.c3))
    go_ret
    exact ⟨rfl, L1, cs1, A1, by rw [← hq]; exact I1, y1, g1⟩
  · have cc : w.cell? ⟨p, o + 3, none⟩ = some (.func (.func 99) #[] #[]) := (A.cell _).trans I.c3
    have n1 : ∀ w, (binOp .neq 72 (.func (.func 99) #[] #[]) .nilFunc).run Tryd.prog w = .ok (.bool true) w := fnNeP 3 (by omega)
    obtain ⟨q, hq⟩ : ∃ q, (PopS.next ⟨hd, k, z, 3⟩ s).pc = q := ⟨_, rfl⟩
    rw [hq] at ok' ⊢
    have q1 := fnEqP q ok'
    go_enter Tryd.func60, Tryd.ntmps60
    go_wp2_with (go_at_call 99; refine (popSwap A I f hc ok.seen).mono ?_; rintro e w1 ⟨rfl, L1, cs1, A1, I1, y1, g1⟩; have d : w1.cell? ⟨p, o + 3, none⟩ = some (popFn q) := (by rw [← hq]; exact (A1.cell _).trans I1.c3))
    go_ret
    exact ⟨rfl, L1, cs1, A1, by rw [← hq]; exact I1, y1, g1⟩
theorem PopS.in_ (x : PopS) : PopIn x.cells 0 x.hd x.link x.seen (popFn x.pc) := ⟨rfl, rfl, rfl, rfl⟩
theorem cPop0 {x : PopS} (A : At 89 w L s p 74 x.cells) (h0 : x.pc = 0) :
    Calls Tryd.prog 60 #[.pointer (some ⟨p, 0, none⟩), .pointer (some ⟨L.b, 0, none⟩)] w fun e w' => e = .returned (.bool true) ∧ w' = w := cPopIn0 A x.in_ h0
theorem cPop {x : PopS} (A : At 89 w L s p 74 x.cells) (ok : x.Ok) (f : s.Fit) (hc : s.c < 1000000) (r : s.Rng) :
    Calls Tryd.prog 60 #[.pointer (some ⟨p, 0, none⟩), .pointer (some ⟨L.b, 0, none⟩)] w fun e w' => e = .returned (.bool ((x.next s).pc == 0)) ∧
      ∃ L', At 89 w' L' (x.mem s) p 74 (x.next s).cells ∧ Went w L p w' L' := by
  refine (cPopIn A x.in_ ok f hc r).mono ?_
  rintro e w' ⟨rfl, L', cs', A', I', y, g⟩
  have e : cs' = (x.next s).cells := y.eq rfl (fun i hi => by
    rcases i with _ | _ | _ | _ | i
    · exact I'.c0
    · exact I'.c1
    · exact I'.c2
    · exact I'.c3
    · omega) (Nat.le_refl _)
  exact ⟨rfl, L', e ▸ A', g⟩
/-- a step of a Push -/
theorem cPushIn0 {x : PushS} (A : At 89 w L s p T cs) (I : PushIn cs o x.hd x.fst x.lst x.cls x.seen (pushFn x.pc)) (h0 : x.pc = 0) :
    Calls Tryd.prog 25 #[.pointer (some ⟨p, o, none⟩), .pointer (some ⟨L.b, 0, none⟩)] w fun e w' => e = .returned (.bool true) ∧ w' = w := by
  obtain ⟨hd, a, l, c, z, pc⟩ := x
  obtain rfl : pc = 0 := h0
  have c : w.cell? ⟨p, o + 5, none⟩ = some .nilFunc := (A.cell _).trans I.c5
  have n0 : ∀ w, (binOp .neq 77 .nilFunc .nilFunc).run Tryd.prog w = .ok (.bool false) w := fnNeU 0 (by omega)
  have q0 : ∀ w, (binOp .eql 77 .nilFunc .nilFunc).run Tryd.prog w = .ok (.bool true) w := fnEqU 0 (by omega)
  go_enter Tryd.func25, Tryd.ntmps25
  go_wp2
  go_ret
  exact ⟨rfl, rfl⟩
theorem cPushIn {x : PushS} (A : At 89 w L s p T cs) (I : PushIn cs o x.hd x.fst x.lst x.cls x.seen (pushFn x.pc)) (ok : x.Ok) (f : s.Fit) (hc : s.c < 1000000) (r : s.Rng) :
    Calls Tryd.prog 25 #[.pointer (some ⟨p, o, none⟩), .pointer (some ⟨L.b, 0, none⟩)] w fun e w' => e = .returned (.bool ((x.next s).pc == 0)) ∧
      ∃ L' cs', At 89 w' L' (x.mem s) p T cs' ∧ PushIn cs' o (x.next s).hd (x.next s).fst (x.next s).lst (x.next s).cls (x.next s).seen (pushFn (x.next s).pc) ∧ Lay cs cs' o 6 ∧ Went w L p w' L' := by
  obtain ⟨hd, a, l, c, z, pc⟩ := x
  have gd := fnGdU
  have ok' := (ok.next r).pc
  rcases pc_cases ok.pc with rfl | rfl | rfl | rfl
  · refine (cPushIn0 A I rfl).mono ?_
    rintro e w' ⟨rfl, rfl⟩
    exact ⟨rfl, L, _, A, I, Lay.refl _ _ _, Went.refl _ _ _⟩
  · have cc : w.cell? ⟨p, o + 5, none⟩ = some (.func (.func 43) #[] #[]) := (A.cell _).trans I.c5
    have n1 : ∀ w, (binOp .neq 77 (.func (.func 43) #[] #[]) .nilFunc).run Tryd.prog w = .ok (.bool true) w := fnNeU 1 (by omega)
    obtain ⟨q, hq⟩ : ∃ q, (PushS.next ⟨hd, a, l, c, z, 1⟩ s).pc = q := ⟨_, rfl⟩
    rw [hq] at ok' ⊢
    have q1 := fnEqU q ok'
    go_enter Tryd.func25, Tryd.ntmps25
    go_wp2_with (go_at_call 43; refine (uReadHead A I f hc).mono ?_; rintro e w1 ⟨rfl, L1, cs1, A1, I1, y1, g1⟩; have d : w1.cell? ⟨p, o + 5, none⟩ = some (pushFn q) := (by rw [← hq]; exact (A1.cell _).trans I1.c5))
    go_ret
    exact ⟨rfl, L1, cs1, A1, by rw [← hq]; exact I1, y1, g1⟩
  · have cc : w.cell? ⟨p, o + 5, none⟩ = some (.func (.func 57) #[] #[]) := (A.cell _).trans I.c5
    have n1 : ∀ w, (binOp .neq 77 (.func (.func 57) #[] #[]) .nilFunc).run Tryd.prog w = .ok (.bool true) w := fnNeU 2 (by omega)
    obtain ⟨q, hq⟩ : ∃ q, (PushS.next ⟨hd, a, l, c, z, 2⟩ s).pc = q := ⟨_, rfl⟩
    rw [hq] at ok' ⊢
    have q1 := fnEqU q ok'
    go_enter Tryd.func25, Tryd.ntmps25
    go_wp2_with (go_at_call 57; refine (uLink A I f hc ok.seen).mono ?_; rintro e w1 ⟨rfl, L1, cs1, A1, I1, y1, g1⟩; have d : w1.cell? ⟨p, o + 5, none⟩ = some (pushFn q) := (by rw [← hq]; exact (A1.cell _).trans I1.c5))
    go_ret
    exact ⟨rfl, L1, cs1, A1, by rw [← hq]; exact I1, y1, g1⟩
  · have cc : w.cell? ⟨p, o + 5, none⟩ = some (.func (.func 68) #[] #[]) := (A.cell _).trans I.c5
    have n1 : ∀ w, (binOp .neq 77 (.func (.func 68) #[] #[]) .nilFunc).run Tryd.prog w = .ok (.bool true) w := fnNeU 3 (by omega)
    obtain ⟨q, hq⟩ : ∃ q, (PushS.next ⟨hd, a, l, c, z, 3⟩ s).pc = q := ⟨_, rfl⟩
    rw [hq] at ok' ⊢
    have q1 := fnEqU q ok'
    go_enter Tryd.func25, Tryd.ntmps25
    go_wp2_with (go_at_call 68; refine (pushSwap A I f hc ok.seen).mono ?_; rintro e w1 ⟨rfl, L1, cs1, A1, I1, y1, g1⟩; have d : w1.cell? ⟨p, o + 5, none⟩ = some (pushFn q) := (by rw [← hq]; exact (A1.cell _).trans I1.c5))
    go_ret
    exact ⟨rfl, L1, cs1, A1, by rw [← hq]; exact I1, y1, g1⟩
theorem PushS.in_ (x : PushS) : PushIn x.cells 0 x.hd x.fst x.lst x.cls x.seen (pushFn x.pc) := ⟨rfl, rfl, rfl, rfl, rfl, rfl⟩
theorem cPush0 {x : PushS} (A : At 89 w L s p 79 x.cells) (h0 : x.pc = 0) :
    Calls Tryd.prog 25 #[.pointer (some ⟨p, 0, none⟩), .pointer (some ⟨L.b, 0, none⟩)] w fun e w' => e = .returned (.bool true) ∧ w' = w := cPushIn0 A x.in_ h0
theorem cPush {x : PushS} (A : At 89 w L s p 79 x.cells) (ok : x.Ok) (f : s.Fit) (hc : s.c < 1000000) (r : s.Rng) :
    Calls Tryd.prog 25 #[.pointer (some ⟨p, 0, none⟩), .pointer (some ⟨L.b, 0, none⟩)] w fun e w' => e = .returned (.bool ((x.next s).pc == 0)) ∧
      ∃ L', At 89 w' L' (x.mem s) p 79 (x.next s).cells ∧ Went w L p w' L' := by
  refine (cPushIn A x.in_ ok f hc r).mono ?_
  rintro e w' ⟨rfl, L', cs', A', I', y, g⟩
  have e : cs' = (x.next s).cells := y.eq rfl (fun i hi => by
    rcases i with _ | _ | _ | _ | _ | _ | i
    · exact I'.c0
    · exact I'.c1
    · exact I'.c2
    · exact I'.c3
    · exact I'.c4
    · exact I'.c5
    · omega) (Nat.le_refl _)
  exact ⟨rfl, L', e ▸ A', g⟩
theorem cResult {T : TypeId} {x : PopS} (hb : w.heap[p]? = some (.cells x.cells T (0, 0))) (ok : x.Ok) :
    Calls Tryd.prog 61 #[.pointer (some ⟨p, 0, none⟩)] w fun e w' => e = .returned (.tuple #[.int .i64 x.at_, .int .u64 x.saw]) ∧ Below w.heap.size w w' := by
  obtain ⟨hd, k, z, pc⟩ := x
  have c2 : w.cell? ⟨p, 2, none⟩ = some (.int .u64 z) := cell_of_row w _ _ _ _ _ hb
  have n0 : ∀ w, (binOp .neq 72 .nilFunc .nilFunc).run Tryd.prog w = .ok (.bool false) w := fnNeP 0 (by omega)
  rcases pc_cases ok.pc with rfl | rfl | rfl | rfl
  · have c3 : w.cell? ⟨p, 3, none⟩ = some .nilFunc := cell_of_row w _ _ _ _ _ hb
    have keep : ∀ w', Below w.heap.size w w' → w'.cell? ⟨p, 2, none⟩ = some (.int .u64 z) := fun w' h => (h.cell (lt_of_block hb)).trans c2
    have hbd : Below w.heap.size w w.drew := (Below.refl w.heap.size w).drew
    have RD := keep _ hbd
    go_enter Tryd.func61, Tryd.ntmps61
    go_wp2
    go_region_held3 (fun w' => w'.cell? ⟨p, 2, none⟩ = some (.int .u64 z)) (first | assumption | exact RD | exact keep _ (by assumption))
      ((go_at_call 67; refine (cFirst z ok.seen _).mono ?_; rintro e w1 ⟨rfl, hb1⟩; have hb1' := bel_trans hbd hb1))
    go_wp2
    go_ret2
    exact ⟨rfl, hb1'⟩
  · have c3 : w.cell? ⟨p, 3, none⟩ = some (.func (.func 69) #[] #[]) := cell_of_row w _ _ _ _ _ hb
    have n1 : ∀ w, (binOp .neq 72 (.func (.func 69) #[] #[]) .nilFunc).run Tryd.prog w = .ok (.bool true) w := fnNeP 1 (by omega)
    go_enter Tryd.func61, Tryd.ntmps61
    go_wp2
    go_ret2
    exact ⟨rfl, Below.refl _ _⟩
  · have c3 : w.cell? ⟨p, 3, none⟩ = some (.func (.func 85) #[] #[]) := cell_of_row w _ _ _ _ _ hb
    have n1 : ∀ w, (binOp .neq 72 (.func (.func 85) #[] #[]) .nilFunc).run Tryd.prog w = .ok (.bool true) w := fnNeP 2 (by omega)
    go_enter Tryd.func61, Tryd.ntmps61
    go_wp2
    go_ret2
    exact ⟨rfl, Below.refl _ _⟩
  · have c3 : w.cell? ⟨p, 3, none⟩ = some (.func (.func 99) #[] #[]) := cell_of_row w _ _ _ _ _ hb
    have n1 : ∀ w, (binOp .neq 72 (.func (.func 99) #[] #[]) .nilFunc).run Tryd.prog w = .ok (.bool true) w := fnNeP 3 (by omega)
    go_enter Tryd.func61, Tryd.ntmps61
    go_wp2
    go_ret2
    exact ⟨rfl, Below.refl _ _⟩
end
end Go.Proofs.YtbojljkdpebheaaDoor
