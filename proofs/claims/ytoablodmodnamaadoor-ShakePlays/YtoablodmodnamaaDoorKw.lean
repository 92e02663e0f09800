/-
  Phases and roots compared with themselves; the document's examples.
-/
import Derived.Test.YtoablodmodnamaaDoorKm
import Derived.Laws.StructEq
import Derived.ChangeKeysEq
namespace Go.Proofs.YtoablodmodnamaaDoor
set_option linter.unusedVariables false
set_option linter.unusedSimpArgs false
set_option maxRecDepth 100000
open Go.ChangeShapes Go.WideShapes Go.RowKit Go.ChangeAt

theorem eqPh (a b c d : Int) (w : World) : (binOp .eql 37 (.agg #[.int .i64 a, .int .i64 b, .int .i64 c, .int .i64 d]) (.agg #[.int .i64 a, .int .i64 b, .int .i64 c, .int .i64 d])).run Tryd.prog w = .ok (.bool true) w := by
  have u3 := Tryd.underlying3
  have a3 := Tryd.isAgg3
  have z3 := Tryd.sizeOf3
  have hS : Tryd.prog.underlying 37 = some (.struct (Tryd.prog.fieldsOf 37)) := by kernel_rfl
  have hp : Tryd.prog.stoodInHeld 37 = false := by kernel_rfl
  rw [run_eql_struct, show (10000 : Nat) = 9999 + 1 from rfl, run_equalIn_agg w 9999 37 _ _ hS hp]
  simp only [Program.fieldsOf, Tryd.underlying37]
  go_simp
theorem nePh (a b c d : Int) (w : World) : (binOp .neq 37 (.agg #[.int .i64 a, .int .i64 b, .int .i64 c, .int .i64 d]) (.agg #[.int .i64 a, .int .i64 b, .int .i64 c, .int .i64 d])).run Tryd.prog w = .ok (.bool false) w := by
  have u3 := Tryd.underlying3
  have a3 := Tryd.isAgg3
  have z3 := Tryd.sizeOf3
  have hS : Tryd.prog.underlying 37 = some (.struct (Tryd.prog.fieldsOf 37)) := by kernel_rfl
  have hp : Tryd.prog.stoodInHeld 37 = false := by kernel_rfl
  rw [run_neq_struct, show (10000 : Nat) = 9999 + 1 from rfl, run_equalIn_agg w 9999 37 _ _ hS hp]
  simp only [Program.fieldsOf, Tryd.underlying37]
  go_simp
theorem infoInt : ∃ i, Tryd.prog.info? 3 = some i := by
  have h : (Tryd.prog.info? 3).map (·.size) = some 1 := by kernel_rfl
  cases e : Tryd.prog.info? 3 with
  | none => rw [e] at h; simp at h
  | some i => exact ⟨i, rfl⟩
theorem cellsInt : Tryd.prog.cellsOf 3 = 1 := by kernel_rfl
theorem run_items (w : World) (d : Nat) (xs : Array Value) (l : Nat → Int) : ∀ is : List Nat, (∀ i ∈ is, (part 3 xs (i * 1)).run Tryd.prog w = .ok (.int .i64 (l i)) w) →
    (Op.eqItems (d + 1) 3 1 xs xs is).run Tryd.prog w = .ok true w
  | [], _ => by simp [Op.eqItems]
  | i :: is, hx => by
    have ih := run_items w d xs l is (fun j hj => hx j (by simp [hj]))
    simp only [Op.eqItems, Sem.run_bind, hx i (by simp), Result.andThen_ok, run_equalIn_int w d 3 .i64 .i64 _ _ Tryd.underlying3]
    simp [ih]
theorem run_part8 (w : World) (l : Nat → Int) (i : Nat) (hi : i < 8) : (part 3 #[.int .i64 (l 0), .int .i64 (l 1), .int .i64 (l 2), .int .i64 (l 3), .int .i64 (l 4), .int .i64 (l 5), .int .i64 (l 6), .int .i64 (l 7)] (i * 1)).run Tryd.prog w = .ok (.int .i64 (l i)) w := by
  have u3 := Tryd.underlying3
  have a3 := Tryd.isAgg3
  have z3 := Tryd.sizeOf3
  match i, hi with
  | 0, _ => go_simp
  | 1, _ => go_simp
  | 2, _ => go_simp
  | 3, _ => go_simp
  | 4, _ => go_simp
  | 5, _ => go_simp
  | 6, _ => go_simp
  | 7, _ => go_simp
theorem run_eqL (w : World) (d : Nat) (l : Nat → Int) : (Op.equalIn (d + 2) 40 (.agg #[.int .i64 (l 0), .int .i64 (l 1), .int .i64 (l 2), .int .i64 (l 3), .int .i64 (l 4), .int .i64 (l 5), .int .i64 (l 6), .int .i64 (l 7)]) (.agg #[.int .i64 (l 0), .int .i64 (l 1), .int .i64 (l 2), .int .i64 (l 3), .int .i64 (l 4), .int .i64 (l 5), .int .i64 (l 6), .int .i64 (l 7)])).run Tryd.prog w = .ok true w := by
  obtain ⟨i, hi⟩ := infoInt
  rw [show d + 2 = (d + 1) + 1 from rfl, run_equalIn_array w (d + 1) _ _ Tryd.underlying40 hi, cellsInt]
  exact run_items w d _ l _ (fun i hi => run_part8 w l i (by simpa using hi))
theorem neRoots (n : Int) (l : Nat → Int) (w : World) : (binOp .neq 42 (.agg #[.int .i64 n, .int .i64 (l 0), .int .i64 (l 1), .int .i64 (l 2), .int .i64 (l 3), .int .i64 (l 4), .int .i64 (l 5), .int .i64 (l 6), .int .i64 (l 7)]) (.agg #[.int .i64 n, .int .i64 (l 0), .int .i64 (l 1), .int .i64 (l 2), .int .i64 (l 3), .int .i64 (l 4), .int .i64 (l 5), .int .i64 (l 6), .int .i64 (l 7)])).run Tryd.prog w = .ok (.bool false) w := by
  have u3 := Tryd.underlying3
  have a3 := Tryd.isAgg3
  have z3 := Tryd.sizeOf3
  have u4 := Tryd.underlying40
  have a4 := Tryd.isAgg40
  have z4 := Tryd.sizeOf40
  have hS : Tryd.prog.underlying 42 = some (.struct (Tryd.prog.fieldsOf 42)) := by kernel_rfl
  have hp : Tryd.prog.stoodInHeld 42 = false := by kernel_rfl
  have hL := run_eqL w 9997 l
  rw [run_neq_struct, show (10000 : Nat) = 9999 + 1 from rfl, run_equalIn_agg w 9999 42 _ _ hS hp]
  simp only [Program.fieldsOf, Tryd.underlying42]
  go_simp

/-! ### the examples -/
def qS : Ph := ⟨1, 1, 1, 0⟩
def exA0 : AskS := AskS.new qS 1
def exS1 : St := exA0.mem (St.new 64)
def exA1 : AskS := exA0.next (St.new 64)
def exS2 : St := exA1.mem exS1
def exA2 : AskS := exA1.next exS1
def exB0 : PollS := PollS.new (10 + 0) Ph.zero 0 0 (fun _ => 0)
def exS3 : St := exB0.mem exS2
def exB1 : PollS := exB0.next exS2
def exS4 : St := exB1.mem exS3
def exB2 : PollS := exB1.next exS3
def exS5 : St := exA2.mem exS4
def exA3 : AskS := exA2.next exS4
theorem ex_facts : (exA1.pc == 0) = false ∧ (exA2.pc == 0) = false ∧ exB1.wh.pc = 5 ∧ (exB2.wh.pc == 0) = true ∧ (exA3.pc == 0) = true ∧ exB2.own.no = 1 ∧ exB2.own.md = 1 ∧ exB2.own.mr = 1 ∧ exB2.own.ls = 0 ∧ exB1.n = 0 := by decide +kernel
theorem ex_ok : exA0.Ok ∧ exA1.Ok ∧ exA2.Ok ∧ exB0.wh.Ok ∧ exB1.wh.Ok := by
  have h0 : exA0.Ok := ⟨by decide, by decide, by decide, by decide⟩
  exact ⟨h0, h0.next, h0.next.next, trivial, PollS.ok_next trivial (AskS.rng (AskS.rng (St.Rng.new 64)))⟩
theorem ex_N : exA1.N = 1 ∧ exA2.N = 1 := by decide +kernel
set_option maxHeartbeats 4000000 in
theorem cShown (w : World) (W : H.Wid w) : Calls Tryd.prog 6 #[] w fun e w' => e = .returned (.bool true) ∧ Below w.heap.size w w' := by
  obtain ⟨f1, f2, f3, f4, f5, g0, g1, g2, g3, g4⟩ := ex_facts
  obtain ⟨o0, o1, o2, o3, o4⟩ := ex_ok
  have hE := eqPh 1 1 1 0
  go_enter Tryd.func6, Tryd.ntmps6
  go_upto_region 2 with (go_at_call 8; refine (cPlan11 _).mono ?_; rintro e w0 ⟨rfl, hb0⟩)
  have hbp : Below w.heap.size w (w0.alloc (.cells #[.int .i64 1, .int .i64 1, .int .i64 11, .int .i64 32, .int .i64 64] 32)) := hb0.alloc hb0.size _
  have Bp : Blk w (w0.alloc (.cells #[.int .i64 1, .int .i64 1, .int .i64 11, .int .i64 32, .int .i64 64] 32)) w0.heap.size 32 #[.int .i64 1, .int .i64 1, .int .i64 11, .int .i64 32, .int .i64 64] := Blk.new hb0.size _ (by decide)
  generalize w0.alloc (.cells #[.int .i64 1, .int .i64 1, .int .i64 11, .int .i64 32, .int .i64 64] 32) = wp at hbp Bp ⊢
  generalize w0.heap.size = qp at Bp ⊢
  have s4 : wp.cell? ⟨qp, 4, none⟩ = some (.int .i64 64) := Bp.cell 4
  have sl := Bp.lt
  go_upto_region 3 with (go_at_call 35; refine (hNew _ 64 (by decide) (by decide) (Below.refl _ _) (W.on hbp)).mono ?_; rintro e w1 ⟨mb, rfl, h1'⟩)
  have Bp1 := Bp.below h1'.bel
  have h1 := h1'.lift hbp W
  clear s4 sl Bp hbp h1'
  go_upto_region 4 with (fail)
  have h2 := h1.alloc (.cells #[.int .i64 1, .int .i64 1, .int .i64 1, .int .i64 0] 37)
  have Bp2 := Bp1.below ((Below.refl _ _).alloc (Nat.le_refl _) (.cells #[.int .i64 1, .int .i64 1, .int .i64 1, .int .i64 0] 37))
  have Bq2 : Blk w (w1.alloc (.cells #[.int .i64 1, .int .i64 1, .int .i64 1, .int .i64 0] 37)) w1.heap.size 37 #[.int .i64 1, .int .i64 1, .int .i64 1, .int .i64 0] := Blk.new h1.bel.size _ (by decide)
  generalize w1.alloc (.cells #[.int .i64 1, .int .i64 1, .int .i64 1, .int .i64 0] 37) = w2 at h2 Bp2 Bq2 ⊢
  generalize w1.heap.size = qq at Bq2 ⊢
  clear h1 Bp1
  have x0 : w2.cell? ⟨qp, 0, none⟩ = some (.int .i64 1) := Bp2.cell 0
  have x1 : w2.cell? ⟨qp, 1, none⟩ = some (.int .i64 1) := Bp2.cell 1
  have x2 : w2.cell? ⟨qp, 2, none⟩ = some (.int .i64 11) := Bp2.cell 2
  have x3 : w2.cell? ⟨qp, 3, none⟩ = some (.int .i64 32) := Bp2.cell 3
  have x4 : w2.cell? ⟨qp, 4, none⟩ = some (.int .i64 64) := Bp2.cell 4
  have xl := Bp2.lt
  have y0 : w2.cell? ⟨qq, 0, none⟩ = some (.int .i64 1) := Bq2.cell 0
  have y1 : w2.cell? ⟨qq, 1, none⟩ = some (.int .i64 1) := Bq2.cell 1
  have y2 : w2.cell? ⟨qq, 2, none⟩ = some (.int .i64 1) := Bq2.cell 2
  have y3 : w2.cell? ⟨qq, 3, none⟩ = some (.int .i64 0) := Bq2.cell 3
  have yl := Bq2.lt
  go_upto_region 5 with (go_at_call 10; refine (nAsk (w0 := w) U11 qS 1 h2.bel.size).mono ?_; rintro e w3 ⟨za, rfl, MA, hb3, hz3⟩)
  have h3 := h2.below hb3
  have Bp3 := Bp2.below hb3
  have Bq3 := Bq2.below hb3
  clear x0 x1 x2 x3 x4 xl
  clear y0 y1 y2 y3 yl
  have x0 : w3.cell? ⟨qp, 0, none⟩ = some (.int .i64 1) := Bp3.cell 0
  have x1 : w3.cell? ⟨qp, 1, none⟩ = some (.int .i64 1) := Bp3.cell 1
  have x2 : w3.cell? ⟨qp, 2, none⟩ = some (.int .i64 11) := Bp3.cell 2
  have x3 : w3.cell? ⟨qp, 3, none⟩ = some (.int .i64 32) := Bp3.cell 3
  have x4 : w3.cell? ⟨qp, 4, none⟩ = some (.int .i64 64) := Bp3.cell 4
  have xl := Bp3.lt
  go_upto_region 6 with (go_at_call 15; refine (nPoll (w0 := w) U11 (i := 0) (by decide) (by decide) Ph.zero 0 0 (fun _ => 0) h3.bel.size).mono ?_; rintro e w4 ⟨zb, rfl, MB, hb4, hz4⟩)
  have h4 := h3.below hb4
  have Bq4 := Bq3.below hb4
  have MA4 : AM w w4 za U11 exA0 := Blk.below MA hb4
  have hab : za ≠ zb := by have := Blk.lt MA; omega
  clear x0 x1 x2 x3 x4 xl
  clear h2 h3 Bp2 Bp3 Bq2 Bq3 MA hb3 hb4
  go_upto_region 9 with (go_at_call 13; refine (hAsk h4 MA4 o0 (by decide) (by decide)).mono ?_; rintro e w5 ⟨rfl, h5, MA5, ot5⟩; rw [show (exA0.next (St.new 64)).pc = exA1.pc from rfl, f1])
  have MB5 := MB.oth ot5 (by simpa using Ne.symm hab)
  have Bq5 := Bq4.oth ot5 (by simpa using Bq4.ne MA4 (by decide))
  have MA5' : AM w w5 za U11 exA1 := MA5
  go_upto_region 10 with (go_at_call 13; refine (hAsk h5 MA5' o1 (by rw [ex_N.1]; rfl) (by decide)).mono ?_; rintro e w6 ⟨rfl, h6, MA6, ot6⟩; rw [show (exA1.next (exA0.mem (St.new 64))).pc = exA2.pc from rfl, f2])
  have MB6 := MB5.oth ot6 (by simpa using Ne.symm hab)
  have Bq6 := Bq5.oth ot6 (by simpa using Bq5.ne MA5' (by decide))
  have MA6' : AM w w6 za U11 exA2 := MA6
  go_upto_region 11 with (go_at_call 17; refine (hPoll h6 (show PM w w6 zb exB0 from MB6) o3 (by decide) (by decide) (by decide)).mono ?_; rintro e w7 ⟨rfl, h7, MB7, ot7⟩)
  have MA7 : AM w w7 za U11 exA2 := Blk.oth MA6' ot7 (by simpa using hab)
  have Bq7 := Bq6.oth ot7 (by have := MB6.ne Bq6 (by decide); simpa using Ne.symm this)
  have MB7' : PM w w7 zb exB1 := MB7
  have CP := hPoll h7 MB7' o4 (by rw [f3]; decide) (by rw [g4]; decide) (by decide)
  go_upto_region 12 with (go_at_call 17; refine CP.mono ?_; rintro e w8 ⟨rfl, h8, MB8, ot8⟩; rw [show (exB1.next (exB0.mem (exA1.mem (exA0.mem (St.new 64))))).wh.pc = exB2.wh.pc from rfl, f4])
  have MA8 : AM w w8 za U11 exA2 := Blk.oth MA7 ot8 (by simpa using hab)
  have Bq8 := Bq7.oth ot8 (by have := MB7'.ne Bq7 (by decide); simpa using Ne.symm this)
  have MB8' : PM w w8 zb exB2 := MB8
  go_upto_region 13 with (go_at_call 13; refine (hAsk h8 MA8 o2 (by rw [ex_N.2]; rfl) (by decide)).mono ?_; rintro e w9 ⟨rfl, h9, MA9, ot9⟩; rw [show (exA2.next (exB1.mem (exB0.mem (exA1.mem (exA0.mem (St.new 64)))))).pc = exA3.pc from rfl, f5])
  have MB9 := MB8'.oth ot9 (by simpa using Ne.symm hab)
  have Bq9 := Bq8.oth ot9 (by simpa using Bq8.ne MA8 (by decide))
  have bel9 := h9.bel
  clear h4 h5 h6 h7 h8 h9 MA4 MA5 MA5' MA6 MA6' MA7 MA8 MA9 MB MB5 MB6 MB7 MB7' MB8 MB8' ot5 ot6 ot7 ot8 ot9 Bq4 Bq5 Bq6 Bq7 Bq8
  go_upto_region 14 with (go_at_call 18; refine (hResult MB9).mono ?_; rintro e w10 ⟨rfl, hb10⟩; rw [g0, g1, g2, g3])
  have bel10 := bel_trans bel9 hb10
  have bel11 : Below w.heap.size w ((w10.alloc (.cells #[.int .i64 1, .int .i64 1, .int .i64 1, .int .i64 0] 37)).alloc (.cells #[.int .i64 exB2.n, .int .i64 (exB2.l 0), .int .i64 (exB2.l 1), .int .i64 (exB2.l 2), .int .i64 (exB2.l 3), .int .i64 (exB2.l 4), .int .i64 (exB2.l 5), .int .i64 (exB2.l 6), .int .i64 (exB2.l 7)] 42)) := (bel10.alloc bel10.size _).alloc (by have := bel10.size; simp; omega) _
  have hbb : Below w10.heap.size w10 ((w10.alloc (.cells #[.int .i64 1, .int .i64 1, .int .i64 1, .int .i64 0] 37)).alloc (.cells #[.int .i64 exB2.n, .int .i64 (exB2.l 0), .int .i64 (exB2.l 1), .int .i64 (exB2.l 2), .int .i64 (exB2.l 3), .int .i64 (exB2.l 4), .int .i64 (exB2.l 5), .int .i64 (exB2.l 6), .int .i64 (exB2.l 7)] 42)) := ((Below.refl _ _).alloc (Nat.le_refl _) _).alloc (by simp) _
  have Bq11 := (Bq9.below hb10).below hbb
  have Bo11 : Blk w ((w10.alloc (.cells #[.int .i64 1, .int .i64 1, .int .i64 1, .int .i64 0] 37)).alloc (.cells #[.int .i64 exB2.n, .int .i64 (exB2.l 0), .int .i64 (exB2.l 1), .int .i64 (exB2.l 2), .int .i64 (exB2.l 3), .int .i64 (exB2.l 4), .int .i64 (exB2.l 5), .int .i64 (exB2.l 6), .int .i64 (exB2.l 7)] 42)) w10.heap.size 37 #[.int .i64 1, .int .i64 1, .int .i64 1, .int .i64 0] := (Blk.new bel10.size _ (by decide)).below ((Below.refl _ _).alloc (Nat.le_refl _) _)
  clear hbb MB9 Bq9 bel9 bel10 hb10
  generalize (w10.alloc (.cells #[.int .i64 1, .int .i64 1, .int .i64 1, .int .i64 0] 37)).alloc (.cells #[.int .i64 exB2.n, .int .i64 (exB2.l 0), .int .i64 (exB2.l 1), .int .i64 (exB2.l 2), .int .i64 (exB2.l 3), .int .i64 (exB2.l 4), .int .i64 (exB2.l 5), .int .i64 (exB2.l 6), .int .i64 (exB2.l 7)] 42) = w11 at Bq11 Bo11 bel11 ⊢
  generalize w10.heap.size = qo at Bo11 ⊢
  have y0 : w11.cell? ⟨qq, 0, none⟩ = some (.int .i64 1) := Bq11.cell 0
  have u0 : w11.cell? ⟨qo, 0, none⟩ = some (.int .i64 1) := Bo11.cell 0
  have y1 : w11.cell? ⟨qq, 1, none⟩ = some (.int .i64 1) := Bq11.cell 1
  have u1 : w11.cell? ⟨qo, 1, none⟩ = some (.int .i64 1) := Bo11.cell 1
  have y2 : w11.cell? ⟨qq, 2, none⟩ = some (.int .i64 1) := Bq11.cell 2
  have u2 : w11.cell? ⟨qo, 2, none⟩ = some (.int .i64 1) := Bo11.cell 2
  have y3 : w11.cell? ⟨qq, 3, none⟩ = some (.int .i64 0) := Bq11.cell 3
  have u3 : w11.cell? ⟨qo, 3, none⟩ = some (.int .i64 0) := Bo11.cell 3
  have yl := Bq11.lt
  have ul := Bo11.lt
  clear f1 f2 f3 f4 f5 g0 g1 g2 g3 g4
  go_wp2
  go_ret
  exact ⟨rfl, bel11⟩
end Go.Proofs.YtoablodmodnamaaDoor
