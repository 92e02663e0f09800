import Derived.Test.YtpcoldpphihfmaaGreatDoorVx
import Derived.Test.YtpcoldpphihfmaaGreatDoorTie
import Derived.Lib.SmallJoins
import Derived.LaidMore
import Derived.Carry
import Derived.ChangeOld
import Derived.Deep.Slices
import Derived.ProofKit
import Derived.Test.YtpcoldpphihfmaaGreatDoorDm
import Derived.Test.YtpcoldpphihfmaaGreatDoorOwn
namespace Go.Proofs.YtpcoldpphihfmaaGreatDoor
set_option maxRecDepth 100000
open Go.ChangeShapes Go.WideShapes Go.ChangeAt Go.RowKit Go.Joins Go.Deep
theorem own : ownKnob Tryz.prog.godebug = none := by kernel_rfl
theorem laidOut : laidOutB Tryz.prog = true := by kernel_rfl
theorem gWidths : Tryz.prog.globalNamed "flit/head.widths" = some 1 := by kernel_rfl
theorem tWidths : (Tryz.prog.globals[1]?).map (·.type) = some 152 := by kernel_rfl
theorem gTable : Tryz.prog.globalNamed "flit/stopless.behindStatus" = some 0 := by kernel_rfl
theorem tTable : (Tryz.prog.globals[0]?).map (·.type) = some 156 := by kernel_rfl
def Laid (w : World) : Prop := H.Wid w ∧ Bh w
theorem door_met (os : Os) (args : Array Value) : laidMetH Tryz.prog [("flit/head.widths", Rows.laid_flit_head_widths), ("flit/stopless.behindStatus", Rows.laid_flit_stopless_behindStatus)] ((World.doorLaid Tryz.prog 14 os).forCall (fun _ _ => 0) ⟨#[], args, []⟩).memory :=
 laidMetH_of_parts3 (fuel := 8) (laidMet_of_run' 8 (by kernel_rfl) (by kernel_rfl)) (by kernel_rfl) (by kernel_rfl)
theorem of_laid {W : World} (h : laidMetH Tryz.prog [("flit/head.widths", Rows.laid_flit_head_widths), ("flit/stopless.behindStatus", Rows.laid_flit_stopless_behindStatus)] W) : Laid W := by
 rw [MakeChecks.laidMetH_plain _ _ _ (by kernel_rfl)] at h
 obtain ⟨ps, ⟨g0, t0, cs0, f0, p0, q0, hg0, ht0, hv0, hd0, ⟨g1, t1, cs1, f1, p1, q1, hg1, ht1, hv1, hd1, _, _⟩, _⟩, _, _⟩ := h
 obtain rfl := Option.some.inj (gWidths.symm.trans hg0)
 obtain rfl := Option.some.inj (tWidths.symm.trans ht0)
 obtain rfl := Option.some.inj (gTable.symm.trans hg1)
 obtain rfl := Option.some.inj (tTable.symm.trans ht1)
 obtain ⟨xs0, m0, rfl, hx10, hlen0, hn30, hel0⟩ := DataW.trod_array Tryz.underlying152 hd0
 obtain ⟨xs1, m1, rfl, hx11, hlen1, hn31, hel1⟩ := DataW.trod_array Tryz.underlying156 hd1
 have c3 : Tryz.prog.cellsOf 3 = 1 := by kernel_rfl
 have c4 : Tryz.prog.cellsOf 103 = 1 := by kernel_rfl
 simp only [Prod.mk.injEq, Rows.laid_flit_head_widths, DataW.agg.injEq] at hx10
 simp only [Prod.mk.injEq, Rows.laid_flit_stopless_behindStatus, DataW.agg.injEq] at hx11
 have key0 : ∀ (i : Nat) (k : Int), i < 7 → ([.lit (.int .i64 2), .lit (.int .i64 2), .lit (.int .i64 3), .lit (.int .i64 1), .lit (.int .i64 1), .lit (.int .i64 3), .lit (.int .i64 12)] : List (DataW Unit))[i]? = some (.lit (.int .i64 k)) → W.cell? ⟨1, i, none⟩ = some (.int .i64 k) := by
  intro i k hi hk
  have h0 := hel0 i hi
  have hlt : i < xs0.length := by omega
  rw [List.getElem?_eq_getElem hlt, c3, Nat.mul_one] at h0
  obtain ⟨k', e1, e2, _⟩ := DataW.trod_int Tryz.underlying3 h0
  rw [hx10.1, List.getElem?_map, List.getElem?_eq_getElem hlt, e2] at hk
  simp at hk
  subst hk
  rw [World.var?_cell hg0 hv0 i]
  have := congrArg (fun l => l[0]?) e1
  simpa using this
 have key1 : ∀ (i : Nat) (k : Int), i < 4 → ([.lit (.int .i64 3), .lit (.int .i64 6), .lit (.int .i64 8), .lit (.int .i64 11)] : List (DataW Unit))[i]? = some (.lit (.int .i64 k)) → W.cell? ⟨0, i, none⟩ = some (.int .i64 k) := by
  intro i k hi hk
  have h0 := hel1 i hi
  have hlt : i < xs1.length := by omega
  rw [List.getElem?_eq_getElem hlt, c4, Nat.mul_one] at h0
  obtain ⟨k', e1, e2, _⟩ := DataW.trod_int Tryz.underlying103 h0
  rw [hx11.1, List.getElem?_map, List.getElem?_eq_getElem hlt, e2] at hk
  simp at hk
  subst hk
  rw [World.var?_cell hg1 hv1 i]
  have := congrArg (fun l => l[0]?) e1
  simpa using this
 have a0 := key0 0 2 (by decide) rfl
 have a1 := key1 0 3 (by decide) rfl
 exact ⟨⟨World.block_lt_of_cell? _ _ a0, a0, key0 1 2 (by decide) rfl, key0 2 3 (by decide) rfl, key0 3 1 (by decide) rfl, key0 4 1 (by decide) rfl, key0 5 3 (by decide) rfl, key0 6 12 (by decide) rfl⟩,
  ⟨World.block_lt_of_cell? _ _ a1, a1, key1 1 6 (by decide) rfl, key1 2 8 (by decide) rfl, key1 3 11 (by decide) rfl⟩⟩
end Go.Proofs.YtpcoldpphihfmaaGreatDoor
namespace Go.Proofs.YtpcoldpphihfmaaGreatDoor
set_option linter.unusedVariables false
open Go.ChangeShapes Go.WideShapes Go.ChangeAt Go.RowKit Go.Joins Go.Deep
theorem cells1 : Tryz.prog.cellsOf 3 = 1 := by kernel_rfl
def CameI (w : World) (ao : Option Addr) (len : Nat) (z : Nat → Int) : Prop := len = 0 ∨ ∃ b off, ao = some ⟨b, off, none⟩ ∧ b < w.heap.size ∧ ∀ j, j < len → w.cell? ⟨b, off + j, none⟩ = some (.int .i64 (z j)) ∧ -9223372036854775808 ≤ z j ∧ z j ≤ 9223372036854775807
theorem CameI.on {w w' : World} {ao : Option Addr} {len : Nat} {z : Nat → Int} (h : CameI w ao len z) (k : Below w.heap.size w w') : CameI w' ao len z := by
 rcases h with h | ⟨b, off, rfl, hb, h⟩
 ·exact .inl h
 ·exact .inr ⟨b, off, rfl, Nat.lt_of_lt_of_le hb k.size, fun j hj => ⟨(k.cell hb).trans (h j hj).1, (h j hj).2⟩⟩
set_option maxRecDepth 100000 in
theorem open_slice {H : Type} {enc : TypeId × Value → H} {w : World} {base : Nat} {held : Bool} {r : Reach} {b0 : Nat} {v : Value} {d : DataW H} {p : List MemPlace}
  (hv : Value.okWide Tryz.prog w r b0 22 v) (h : DataW.Trod enc Tryz.prog w base (fun _ => true) held 22 v d p) (lt : ∀ x ∈ p, x.block < w.heap.size) :
  ∃ ao len cap z, v = .slice ao len cap ∧ CameI w ao len z := by
 obtain ⟨a0, len, cap, rfl⟩ := okWide_slice Tryz.underlying22 hv
 obtain ⟨fuel, hf⟩ := h
 rcases open_ints Tryz.underlying22 Tryz.underlying3 cells1 hf with ⟨hcs, hx⟩ | ⟨a, len', cap', zs, hcs, _, hl, hm, hz, hx, hcell, hwz⟩
 ·simp [Value.cells] at hcs
  obtain ⟨rfl, rfl, rfl⟩ := hcs
  exact ⟨_, _, _, fun _ => 0, rfl, Or.inl rfl⟩
 ·simp [Value.cells] at hcs
  obtain ⟨rfl, rfl, rfl⟩ := hcs
  simp only [Prod.mk.injEq] at hx
  obtain ⟨rfl, rfl⟩ := hx
  simp only [if_true] at hz
  refine ⟨_, _, _, fun j => zs.getD j 0, rfl, ?_⟩
  by_cases hl0 : len = 0
  ·exact Or.inl hl0
  ·obtain ⟨b, off, spot⟩ := a
   have hspot : spot = none := by simpa [Addr.add] using World.cell?_spot (hcell 0 (by omega))
   subst hspot
   refine Or.inr ⟨b, off, rfl, lt (.cell b off) (MemPlace.mem_row.2 ⟨0, by omega, by simp⟩), fun j hj => ⟨by rw [← add_plain]; exact hcell j (by omega), ?_⟩⟩
   have hj' : j < zs.length := by omega
   have := hwz (zs.getD j 0) (by rw [List.getD_eq_getElem?_getD, List.getElem?_eq_getElem hj']; exact List.getElem_mem _)
   exact bounds_i64 this
end Go.Proofs.YtpcoldpphihfmaaGreatDoor
namespace Go.Proofs.YtpcoldpphihfmaaGreatDoor
set_option linter.unusedVariables false
set_option maxRecDepth 100000
open Go.ChangeShapes Go.WideShapes Go.RowKit
structure Vl.Fit (v : Vl) : Prop where
 k0 : -9223372036854775808 ≤ v.k
 k1 : v.k ≤ 9223372036854775807
 n0 : -9223372036854775808 ≤ v.n
 n1 : v.n ≤ 9223372036854775807
def CameV (w : World) (ao : Option Addr) (len : Nat) (z : Nat → Vl) : Prop := len = 0 ∨ ∃ b off, ao = some ⟨b, off, none⟩ ∧ b < w.heap.size ∧ ∀ j, j < len → w.cell? ⟨b, off + j * 2, none⟩ = some (.int .i64 (z j).k) ∧ w.cell? ⟨b, off + (j * 2 + 1), none⟩ = some (.int .i64 (z j).n) ∧ (z j).Fit
theorem CameV.on {w w' : World} {ao : Option Addr} {len : Nat} {z : Nat → Vl} (h : CameV w ao len z) (k : Below w.heap.size w w') : CameV w' ao len z := by
 rcases h with h | ⟨b, off, rfl, hb, h⟩
 ·exact .inl h
 ·exact .inr ⟨b, off, rfl, Nat.lt_of_lt_of_le hb k.size, fun j hj => ⟨(k.cell hb).trans (h j hj).1, (k.cell hb).trans (h j hj).2.1, (h j hj).2.2⟩⟩
theorem kd_lt (c n : Int) (h : 0 < n) : 0 ≤ kd c n ∧ kd c n < n := by
 unfold kd
 exact ⟨Int.emod_nonneg _ (by omega), Int.emod_lt_of_pos _ h⟩
def obP (u : Int) : Int := if u = 0 then 96 else if u = 1 then 100 else 112
def valP (v : Vl) : Vl := if kd v.k 3 = 0 then ⟨0, kd v.n 10⟩ else if kd v.k 3 = 1 then ⟨1, 0⟩ else ⟨1, obP (kd v.n 3)⟩
set_option maxHeartbeats 1000000 in
theorem cVal (v : Vl) (f : v.Fit) (w : World) : Calls Tryz.prog 28 #[.agg #[.int .i64 v.k, .int .i64 v.n]] w fun e w' => e = .returned (.agg #[.int .i64 (valP v).k, .int .i64 (valP v).n]) ∧ Below w.heap.size w w' := by
 have a3 := kd_lt v.n 3 (by decide)
 unfold valP
 obtain ⟨x, hx⟩ : ∃ x, kd v.k 3 = x := ⟨_, rfl⟩
 obtain ⟨y, hy⟩ : ∃ y, kd v.n 10 = y := ⟨_, rfl⟩
 obtain ⟨u, hu⟩ : ∃ u, kd v.n 3 = u := ⟨_, rfl⟩
 rw [hx, hy, hu]
 rw [hu] at a3
 by_cases h1 : x = 0
 ·rw [if_pos h1]
  have q1 : (x == 0) = true := by simp [h1]
  clear h1 a3
  go_enter Tryz.func28, Tryz.ntmps28
  go_wp2_with (first
   | (go_at_call_of 11 (Value.int .i64 v.k); refine (cKind _ v.k 3 f.k0 f.k1 (by decide)).mono ?_; rintro e w1 ⟨rfl, hw1⟩; rw [hw1, hx]; clear hw1 w1)
   | (go_at_call 11; refine (cKind _ v.n 10 f.n0 f.n1 (by decide)).mono ?_; rintro e w1 ⟨rfl, hw1⟩; rw [hw1, hy]; clear hw1 w1))
  exact bodyPost_ret (v := .agg #[.int .i64 0, .int .i64 y]) (by simp [results, Tryz.results28, go_sem]) rfl ⟨rfl, by go_grown⟩
 ·rw [if_neg h1]
  have q1 : (x == 0) = false := by simpa using h1
  clear h1
  by_cases h2 : x = 1
  ·rw [if_pos h2]
   have q2 : (x == 1) = true := by simp [h2]
   clear h2 a3
   go_enter Tryz.func28, Tryz.ntmps28
   go_wp2_with (go_at_call_of 11 (Value.int .i64 v.k); refine (cKind _ v.k 3 f.k0 f.k1 (by decide)).mono ?_; rintro e w1 ⟨rfl, hw1⟩; rw [hw1, hx]; clear hw1 w1)
   exact bodyPost_ret (v := .agg #[.int .i64 1, .int .i64 0]) (by simp [results, Tryz.results28, go_sem]) rfl ⟨rfl, by go_grown⟩
  ·rw [if_neg h2]
   have q2 : (x == 1) = false := by simpa using h2
   clear h2
   rcases (show u = 0 ∨ u = 1 ∨ u = 2 by omega) with rfl | rfl | rfl
   ·rw [show obP 0 = 96 from rfl]
    go_enter Tryz.func28, Tryz.ntmps28
    go_wp2_with (first
     | (go_at_call_of 11 (Value.int .i64 v.k); refine (cKind _ v.k 3 f.k0 f.k1 (by decide)).mono ?_; rintro e w1 ⟨rfl, hw1⟩; rw [hw1, hx]; clear hw1 w1)
     | (go_at_call 11; refine (cKind _ v.n 3 f.n0 f.n1 (by decide)).mono ?_; rintro e w1 ⟨rfl, hw1⟩; rw [hw1, hu]; clear hw1 w1))
    exact bodyPost_ret (v := .agg #[.int .i64 1, .int .i64 96]) (by simp [results, Tryz.results28, go_sem]) rfl ⟨rfl, by go_grown⟩
   ·rw [show obP 1 = 100 from rfl]
    go_enter Tryz.func28, Tryz.ntmps28
    go_wp2_with (first
     | (go_at_call_of 11 (Value.int .i64 v.k); refine (cKind _ v.k 3 f.k0 f.k1 (by decide)).mono ?_; rintro e w1 ⟨rfl, hw1⟩; rw [hw1, hx]; clear hw1 w1)
     | (go_at_call 11; refine (cKind _ v.n 3 f.n0 f.n1 (by decide)).mono ?_; rintro e w1 ⟨rfl, hw1⟩; rw [hw1, hu]; clear hw1 w1))
    exact bodyPost_ret (v := .agg #[.int .i64 1, .int .i64 100]) (by simp [results, Tryz.results28, go_sem]) rfl ⟨rfl, by go_grown⟩
   ·rw [show obP 2 = 112 from rfl]
    go_enter Tryz.func28, Tryz.ntmps28
    go_wp2_with (first
     | (go_at_call_of 11 (Value.int .i64 v.k); refine (cKind _ v.k 3 f.k0 f.k1 (by decide)).mono ?_; rintro e w1 ⟨rfl, hw1⟩; rw [hw1, hx]; clear hw1 w1)
     | (go_at_call 11; refine (cKind _ v.n 3 f.n0 f.n1 (by decide)).mono ?_; rintro e w1 ⟨rfl, hw1⟩; rw [hw1, hu]; clear hw1 w1))
    exact bodyPost_ret (v := .agg #[.int .i64 1, .int .i64 112]) (by simp [results, Tryz.results28, go_sem]) rfl ⟨rfl, by go_grown⟩
structure Vl.Good (v : Vl) : Prop where
 k : v.k = 0 ∨ v.k = 1
 n0 : 0 ≤ v.n
 n1 : v.n < 1000
 far : v.far = true → v.n = 96 ∨ v.n = 100 ∨ v.n = 112
theorem of_w {v : Vl} (hk : 0 ≤ v.k ∧ v.k < 4) (hn : 0 ≤ v.n ∧ v.n < 2305843009213693952) : Vl.of v.w = v := by
 obtain ⟨k, n⟩ := v
 simp only at hk hn
 simp only [Vl.of, Vl.w, F.Plain.kind, F.Plain.num, F.Plain.word, Vl.mk.injEq]
 constructor <;> omega
theorem Vl.Good.of {v : Vl} (h : v.Good) : Vl.of v.w = v := of_w (by rcases h.k with h | h <;> omega) ⟨h.n0, by have := h.n1; omega⟩
theorem good_zero : Vl.zero.Good := ⟨.inl rfl, by decide, by decide, fun h => by simp [Vl.far, Vl.zero] at h⟩
theorem good_valP (v : Vl) : (valP v).Good := by
 have a2 := kd_lt v.n 10 (by decide)
 have a3 := kd_lt v.n 3 (by decide)
 unfold valP
 split
 ·exact ⟨.inl rfl, a2.1, by simp only; omega, fun h => by simp [Vl.far] at h⟩
 ·split
  ·exact ⟨.inr rfl, by simp, by simp, fun h => by simp [Vl.far] at h⟩
  ·refine ⟨.inr rfl, ?_, ?_, fun _ => ?_⟩
   ·simp only [obP]; split; decide; split <;> decide
   ·simp only [obP]; split; decide; split <;> decide
   ·simp only [obP]; split; exact .inl rfl; split; exact .inr (.inl rfl); exact .inr (.inr rfl)
end Go.Proofs.YtpcoldpphihfmaaGreatDoor
namespace Go.Proofs.YtpcoldpphihfmaaGreatDoor
set_option linter.unusedVariables false
set_option linter.unusedSimpArgs false
set_option maxRecDepth 100000
open Go.ChangeShapes Go.WideShapes Go.ChangeAt Go.RowKit Go.Joins Go.Deep
section
variable {H : Type} {enc : TypeId × Value → H} {w : World} {base : Nat} {spare : Nat → Bool} {held : Bool} {r : Reach} {b0 : Nat} {v : Value} {d : DataW H} {p : List MemPlace}
theorem cell_int {n o : Nat} {cs : List Value} {y : DataW H × List MemPlace} (h : DataW.trod enc Tryz.prog w base spare held n 3 ((cs.drop o).take 1) = some y) : ∃ k, cs[o]? = some (.int .i64 k) ∧ -9223372036854775808 ≤ k ∧ k ≤ 9223372036854775807 := by
 obtain ⟨k, e, _, wf⟩ := DataW.trod_int Tryz.underlying3 h
 refine ⟨k, ?_, (bounds_i64 wf).1, (bounds_i64 wf).2⟩
 have := congrArg (fun l => l[0]?) e
 simpa using this
theorem cells2 : Tryz.prog.cellsOf 38 = 2 := by kernel_rfl
theorem part_val {n o : Nat} {cs : List Value} {y : DataW H × List MemPlace} (h : DataW.trod enc Tryz.prog w base spare held n 38 ((cs.drop o).take 2) = some y) :
  ∃ q : Vl, cs[o]? = some (.int .i64 q.k) ∧ cs[o + 1]? = some (.int .i64 q.n) ∧ q.Fit := by
 obtain ⟨xs, m, _, _, _, hlen, hall⟩ := DataW.trod_struct Tryz.underlying38 h
 have h0 : DataW.trod enc Tryz.prog w base spare held m 3 ((((cs.drop o).take 2).drop 0).take (Tryz.prog.cellsOf 3)) = xs[0]? := hall 0 _ rfl
 have h1 : DataW.trod enc Tryz.prog w base spare held m 3 ((((cs.drop o).take 2).drop 1).take (Tryz.prog.cellsOf 3)) = xs[1]? := hall 1 _ rfl
 have hl : xs.length = 2 := hlen
 simp only [cells1] at h0 h1
 rw [List.getElem?_eq_getElem (by omega : 0 < xs.length)] at h0
 rw [List.getElem?_eq_getElem (by omega : 1 < xs.length)] at h1
 obtain ⟨k0, e0, b0⟩ := cell_int (o := 0) h0
 obtain ⟨k1, e1, b1⟩ := cell_int (o := 1) h1
 exact ⟨⟨k0, k1⟩, by simpa using e0, by simpa using e1, ⟨b0.1, b0.2, b1.1, b1.2⟩⟩
theorem vals_cell {n : Nat} {c : Value} {x : DataW H × List MemPlace} (hf : DataW.trod enc Tryz.prog w base (fun _ => true) held n 23 [c] = some x) : ∃ ao len cap z, c = .slice ao len cap ∧ CameV w ao len z := by
 rcases Deep.open_slice Tryz.underlying23 hf with ⟨hcs, hx⟩ | ⟨a, len, cap, m, n, D, Pl, hcs, _, hl, _, hm, hx, hall⟩
 ·simp at hcs
  exact ⟨_, _, _, fun _ => Vl.zero, hcs, Or.inl rfl⟩
 ·simp at hcs
  rw [cells2] at hall
  simp only [if_true] at hm
  by_cases hl0 : len = 0
  ·exact ⟨_, _, _, fun _ => Vl.zero, hcs, Or.inl hl0⟩
  have each : ∀ i, i < len → ∃ q : Vl, w.cell? (a.add (i * 2 + 0)) = some (.int .i64 q.k) ∧ w.cell? (a.add (i * 2 + 1)) = some (.int .i64 q.n) ∧ q.Fit := by
   intro i hi
   obtain ⟨cs', h1, h2⟩ := hall i (by omega)
   have hc := World.cells?_some h1
   have hlen : cs'.length = 2 := by obtain ⟨_, _, _, _, hq, _⟩ := DataW.trod_struct Tryz.underlying38 h2; exact hq.trans cells2
   obtain ⟨q, e0, e1, f⟩ := part_val (cs := cs') (o := 0) (by simpa [List.take_of_length_le (Nat.le_of_eq hlen)] using h2)
   simp only [Deep.add_add] at hc
   refine ⟨q, ?_, ?_, f⟩
   ·rw [hc.2.2 0 (by decide)]; exact e0
   ·rw [hc.2.2 1 (by decide)]; exact e1
  haveI : Inhabited Vl := ⟨⟨0, 0⟩⟩
  obtain ⟨z, hz⟩ := Deep.choose_lt each
  obtain ⟨b, off, spot⟩ := a
  have hspot : spot = none := by simpa [Addr.add] using World.cell?_spot (hz 0 (by omega)).1
  subst hspot
  simp only [add_plain] at hz
  exact ⟨_, _, _, z, hcs, Or.inr ⟨b, off, rfl, World.block_lt_of_cell? _ _ (hz 0 (by omega)).1, fun j hj => ⟨(hz j hj).1, (hz j hj).2.1, (hz j hj).2.2⟩⟩⟩
theorem ints_cell {n : Nat} {c : Value} {x : DataW H × List MemPlace} (hf : DataW.trod enc Tryz.prog w base (fun _ => true) held n 22 [c] = some x) : ∃ ao len cap z, c = .slice ao len cap ∧ CameI w ao len z := by
 rcases open_ints Tryz.underlying22 Tryz.underlying3 cells1 hf with ⟨hcs, hx⟩ | ⟨a, len, cap, zs, hcs, _, hl, hm, hz, hx, hcell, hwz⟩
 ·simp at hcs
  exact ⟨_, _, _, fun _ => 0, hcs, Or.inl rfl⟩
 ·simp at hcs
  simp only [if_true] at hz
  refine ⟨_, _, _, fun j => zs.getD j 0, hcs, ?_⟩
  by_cases hl0 : len = 0
  ·exact Or.inl hl0
  ·obtain ⟨b, off, spot⟩ := a
   have hspot : spot = none := by simpa [Addr.add] using World.cell?_spot (hcell 0 (by omega))
   subst hspot
   have c0 := hcell 0 (by omega)
   refine Or.inr ⟨b, off, rfl, World.block_lt_of_cell? _ _ c0, fun j hj => ⟨by rw [← add_plain]; exact hcell j (by omega), ?_⟩⟩
   have hj' : j < zs.length := by omega
   have := hwz (zs.getD j 0) (by rw [List.getD_eq_getElem?_getD, List.getElem?_eq_getElem hj']; exact List.getElem_mem _)
   exact bounds_i64 this
theorem cellsI : Tryz.prog.cellsOf 22 = 1 := by kernel_rfl
theorem cellsV : Tryz.prog.cellsOf 23 = 1 := by kernel_rfl
theorem open_begin (hv : Value.okWide Tryz.prog w r b0 25 v) (h : DataW.Trod enc Tryz.prog w base (fun _ => true) held 25 v d p) :
  ∃ a ao len cap z ao' len' cap' z', v = .agg #[.int .i64 a, .slice ao len cap, .slice ao' len' cap'] ∧ (-9223372036854775808 ≤ a ∧ a ≤ 9223372036854775807) ∧ CameI w ao len z ∧ CameV w ao' len' z' := by
 obtain ⟨cs, rfl, hsz⟩ := okWide_struct Tryz.underlying25 hv
 have hs2 : cs.size = 3 := hsz.trans (by kernel_rfl)
 obtain ⟨l⟩ := cs
 match l, hs2 with
 | [c0, c1, c2], _ =>
  obtain ⟨fuel, hf⟩ := h
  obtain ⟨xs, m, _, _, _, hlen, hall⟩ := DataW.trod_struct Tryz.underlying25 hf
  have h0 : DataW.trod enc Tryz.prog w base (fun _ => true) held m 3 (((Value.agg #[c0, c1, c2]).cells.toList.drop 0).take (Tryz.prog.cellsOf 3)) = xs[0]? := hall 0 _ rfl
  have h1 : DataW.trod enc Tryz.prog w base (fun _ => true) held m 22 (((Value.agg #[c0, c1, c2]).cells.toList.drop 1).take (Tryz.prog.cellsOf 22)) = xs[1]? := hall 1 _ rfl
  have h2 : DataW.trod enc Tryz.prog w base (fun _ => true) held m 23 (((Value.agg #[c0, c1, c2]).cells.toList.drop 2).take (Tryz.prog.cellsOf 23)) = xs[2]? := hall 2 _ rfl
  have hl : xs.length = 3 := hlen
  simp only [cells1, cellsI, cellsV] at h0 h1 h2
  rw [List.getElem?_eq_getElem (by omega : 0 < xs.length)] at h0
  rw [List.getElem?_eq_getElem (by omega : 1 < xs.length)] at h1
  rw [List.getElem?_eq_getElem (by omega : 2 < xs.length)] at h2
  obtain ⟨k0, e0, b0⟩ := cell_int (o := 0) h0
  obtain ⟨a, n, c, z, rfl, hz⟩ := ints_cell (c := c1) (by simpa [Value.cells] using h1)
  obtain ⟨a', n', c', z', rfl, hz'⟩ := vals_cell (c := c2) (by simpa [Value.cells] using h2)
  simp [Value.cells] at e0
  subst e0
  exact ⟨_, _, _, _, _, _, _, _, _, rfl, b0, hz, hz'⟩
structure Op15 where
 ob : Int
 fd : Int
 ac : Int
 md : Int
 x : Vl
 y : Vl
 hS : Int
 hC : Int
 hN : Int
 hM : Int
 hG : Int
 hT : Int
 hL : Int
structure Op15.Fit (q : Op15) : Prop where
 ob : -9223372036854775808 ≤ q.ob ∧ q.ob ≤ 9223372036854775807
 fd : -9223372036854775808 ≤ q.fd ∧ q.fd ≤ 9223372036854775807
 ac : -9223372036854775808 ≤ q.ac ∧ q.ac ≤ 9223372036854775807
 md : -9223372036854775808 ≤ q.md ∧ q.md ≤ 9223372036854775807
 x : q.x.Fit
 y : q.y.Fit
 hS : -9223372036854775808 ≤ q.hS ∧ q.hS ≤ 9223372036854775807
 hC : -9223372036854775808 ≤ q.hC ∧ q.hC ≤ 9223372036854775807
 hN : -9223372036854775808 ≤ q.hN ∧ q.hN ≤ 9223372036854775807
 hM : -9223372036854775808 ≤ q.hM ∧ q.hM ≤ 9223372036854775807
 hG : -9223372036854775808 ≤ q.hG ∧ q.hG ≤ 9223372036854775807
 hT : -9223372036854775808 ≤ q.hT ∧ q.hT ≤ 9223372036854775807
 hL : -9223372036854775808 ≤ q.hL ∧ q.hL ≤ 9223372036854775807
def Op15.cells (q : Op15) : Array Value := #[.int .i64 q.ob, .int .i64 q.fd, .int .i64 q.ac, .int .i64 q.md, .int .i64 q.x.k, .int .i64 q.x.n, .int .i64 q.y.k, .int .i64 q.y.n, .int .i64 q.hS, .int .i64 q.hC, .int .i64 q.hN, .int .i64 q.hM, .int .i64 q.hG, .int .i64 q.hT, .int .i64 q.hL]
theorem part_head {n o : Nat} {cs : List Value} {y : DataW H × List MemPlace} (h : DataW.trod enc Tryz.prog w base spare held n 40 ((cs.drop o).take 7) = some y) :
  ∃ k0 k1 k2 k3 k4 k5 k6 : Int, cs[o + 0]? = some (.int .i64 k0) ∧ cs[o + 1]? = some (.int .i64 k1) ∧ cs[o + 2]? = some (.int .i64 k2) ∧ cs[o + 3]? = some (.int .i64 k3) ∧ cs[o + 4]? = some (.int .i64 k4) ∧ cs[o + 5]? = some (.int .i64 k5) ∧ cs[o + 6]? = some (.int .i64 k6) ∧ (-9223372036854775808 ≤ k0 ∧ k0 ≤ 9223372036854775807) ∧ (-9223372036854775808 ≤ k1 ∧ k1 ≤ 9223372036854775807) ∧ (-9223372036854775808 ≤ k2 ∧ k2 ≤ 9223372036854775807) ∧ (-9223372036854775808 ≤ k3 ∧ k3 ≤ 9223372036854775807) ∧ (-9223372036854775808 ≤ k4 ∧ k4 ≤ 9223372036854775807) ∧ (-9223372036854775808 ≤ k5 ∧ k5 ≤ 9223372036854775807) ∧ (-9223372036854775808 ≤ k6 ∧ k6 ≤ 9223372036854775807) := by
 obtain ⟨xs, m, _, _, _, hlen, hall⟩ := DataW.trod_struct Tryz.underlying40 h
 have hl : xs.length = 7 := hlen
 have h0 : DataW.trod enc Tryz.prog w base spare held m 3 ((((cs.drop o).take 7).drop 0).take (Tryz.prog.cellsOf 3)) = xs[0]? := hall 0 _ rfl
 simp only [cells1] at h0
 rw [List.getElem?_eq_getElem (by omega : 0 < xs.length)] at h0
 obtain ⟨k0, e0, b0⟩ := cell_int (o := 0) h0
 have h1 : DataW.trod enc Tryz.prog w base spare held m 3 ((((cs.drop o).take 7).drop 1).take (Tryz.prog.cellsOf 3)) = xs[1]? := hall 1 _ rfl
 simp only [cells1] at h1
 rw [List.getElem?_eq_getElem (by omega : 1 < xs.length)] at h1
 obtain ⟨k1, e1, b1⟩ := cell_int (o := 1) h1
 have h2 : DataW.trod enc Tryz.prog w base spare held m 3 ((((cs.drop o).take 7).drop 2).take (Tryz.prog.cellsOf 3)) = xs[2]? := hall 2 _ rfl
 simp only [cells1] at h2
 rw [List.getElem?_eq_getElem (by omega : 2 < xs.length)] at h2
 obtain ⟨k2, e2, b2⟩ := cell_int (o := 2) h2
 have h3 : DataW.trod enc Tryz.prog w base spare held m 3 ((((cs.drop o).take 7).drop 3).take (Tryz.prog.cellsOf 3)) = xs[3]? := hall 3 _ rfl
 simp only [cells1] at h3
 rw [List.getElem?_eq_getElem (by omega : 3 < xs.length)] at h3
 obtain ⟨k3, e3, b3⟩ := cell_int (o := 3) h3
 have h4 : DataW.trod enc Tryz.prog w base spare held m 3 ((((cs.drop o).take 7).drop 4).take (Tryz.prog.cellsOf 3)) = xs[4]? := hall 4 _ rfl
 simp only [cells1] at h4
 rw [List.getElem?_eq_getElem (by omega : 4 < xs.length)] at h4
 obtain ⟨k4, e4, b4⟩ := cell_int (o := 4) h4
 have h5 : DataW.trod enc Tryz.prog w base spare held m 3 ((((cs.drop o).take 7).drop 5).take (Tryz.prog.cellsOf 3)) = xs[5]? := hall 5 _ rfl
 simp only [cells1] at h5
 rw [List.getElem?_eq_getElem (by omega : 5 < xs.length)] at h5
 obtain ⟨k5, e5, b5⟩ := cell_int (o := 5) h5
 have h6 : DataW.trod enc Tryz.prog w base spare held m 3 ((((cs.drop o).take 7).drop 6).take (Tryz.prog.cellsOf 3)) = xs[6]? := hall 6 _ rfl
 simp only [cells1] at h6
 rw [List.getElem?_eq_getElem (by omega : 6 < xs.length)] at h6
 obtain ⟨k6, e6, b6⟩ := cell_int (o := 6) h6
 exact ⟨k0, k1, k2, k3, k4, k5, k6, by simpa using e0, by simpa using e1, by simpa using e2, by simpa using e3, by simpa using e4, by simpa using e5, by simpa using e6, b0, b1, b2, b3, b4, b5, b6⟩
theorem cells7 : Tryz.prog.cellsOf 40 = 7 := by kernel_rfl
theorem open_op {n : Nat} {cs : List Value} {x : DataW H × List MemPlace}
  (h : DataW.trod enc Tryz.prog w base spare held n 42 cs = some x) : ∃ q : Op15, q.Fit ∧ cs[0]? = some (.int .i64 q.ob) ∧ cs[1]? = some (.int .i64 q.fd) ∧ cs[2]? = some (.int .i64 q.ac) ∧ cs[3]? = some (.int .i64 q.md) ∧ cs[4]? = some (.int .i64 q.x.k) ∧ cs[5]? = some (.int .i64 q.x.n) ∧ cs[6]? = some (.int .i64 q.y.k) ∧ cs[7]? = some (.int .i64 q.y.n) ∧ cs[8]? = some (.int .i64 q.hS) ∧ cs[9]? = some (.int .i64 q.hC) ∧ cs[10]? = some (.int .i64 q.hN) ∧ cs[11]? = some (.int .i64 q.hM) ∧ cs[12]? = some (.int .i64 q.hG) ∧ cs[13]? = some (.int .i64 q.hT) ∧ cs[14]? = some (.int .i64 q.hL) := by
 obtain ⟨xs, m, _, _, _, hlen, hall⟩ := DataW.trod_struct Tryz.underlying42 h
 have hl : xs.length = 7 := hlen
 have h0 : DataW.trod enc Tryz.prog w base spare held m 3 ((cs.drop 0).take (Tryz.prog.cellsOf 3)) = xs[0]? := hall 0 _ rfl
 have h1 : DataW.trod enc Tryz.prog w base spare held m 3 ((cs.drop 1).take (Tryz.prog.cellsOf 3)) = xs[1]? := hall 1 _ rfl
 have h2 : DataW.trod enc Tryz.prog w base spare held m 3 ((cs.drop 2).take (Tryz.prog.cellsOf 3)) = xs[2]? := hall 2 _ rfl
 have h3 : DataW.trod enc Tryz.prog w base spare held m 3 ((cs.drop 3).take (Tryz.prog.cellsOf 3)) = xs[3]? := hall 3 _ rfl
 have h4 : DataW.trod enc Tryz.prog w base spare held m 38 ((cs.drop 4).take (Tryz.prog.cellsOf 38)) = xs[4]? := hall 4 _ rfl
 have h5 : DataW.trod enc Tryz.prog w base spare held m 38 ((cs.drop 6).take (Tryz.prog.cellsOf 38)) = xs[5]? := hall 5 _ rfl
 have h6 : DataW.trod enc Tryz.prog w base spare held m 40 ((cs.drop 8).take (Tryz.prog.cellsOf 40)) = xs[6]? := hall 6 _ rfl
 simp only [cells1, cells2, cells7] at h0 h1 h2 h3 h4 h5 h6
 rw [List.getElem?_eq_getElem (by omega : 0 < xs.length)] at h0
 rw [List.getElem?_eq_getElem (by omega : 1 < xs.length)] at h1
 rw [List.getElem?_eq_getElem (by omega : 2 < xs.length)] at h2
 rw [List.getElem?_eq_getElem (by omega : 3 < xs.length)] at h3
 rw [List.getElem?_eq_getElem (by omega : 4 < xs.length)] at h4
 rw [List.getElem?_eq_getElem (by omega : 5 < xs.length)] at h5
 rw [List.getElem?_eq_getElem (by omega : 6 < xs.length)] at h6
 obtain ⟨k0, e0, b0⟩ := cell_int (o := 0) h0
 obtain ⟨k1, e1, b1⟩ := cell_int (o := 1) h1
 obtain ⟨k2, e2, b2⟩ := cell_int (o := 2) h2
 obtain ⟨k3, e3, b3⟩ := cell_int (o := 3) h3
 obtain ⟨q1, e4, e5, f1⟩ := part_val (o := 4) h4
 obtain ⟨q2, e6, e7, f2⟩ := part_val (o := 6) h5
 obtain ⟨m0, m1, m2, m3, m4, m5, m6, e8, e9, e10, e11, e12, e13, e14, c0, c1, c2, c3, c4, c5, c6⟩ := part_head (o := 8) h6
 exact ⟨⟨k0, k1, k2, k3, q1, q2, m0, m1, m2, m3, m4, m5, m6⟩, ⟨b0, b1, b2, b3, f1, f2, c0, c1, c2, c3, c4, c5, c6⟩, e0, e1, e2, e3, e4, e5, e6, e7, e8, e9, e10, e11, e12, e13, e14⟩
end
end Go.Proofs.YtpcoldpphihfmaaGreatDoor
