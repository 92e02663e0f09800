/-
  Contracts of the reference: Look.
-/
import Derived.Test.YtbihdkdefopijaaYc2
import Derived.Test.YtbihdkdefopijaaGs4
namespace Go.Proofs.Ytbihdkdefopijaa
set_option linter.unusedVariables false
set_option linter.unusedSimpArgs false
open Go.ChangeShapes Go.WideShapes Go.ChangeAt Go.RowKit

/-- the row of an object -/
theorem YAt.at {w : World} {L : YLoc} {g : Gr} (h : YAt w L g) {m : Nat} (hm : m < g.os.length) : ∃ lb lc u, L.vl = .slice (some ⟨lb, 0, none⟩) g.os.length lc ∧ L.vs[m]? = some u ∧ w.cell? ⟨lb, m, none⟩ = some u ∧ w.ownsRow 0 37 2 u (g.os.getD m []).length (vcells (g.os.getD m [])) := by
  obtain ⟨ao, cp, hv, hp⟩ := own_slice h.row
  obtain ⟨lb, rfl⟩ := hp (by omega)
  obtain ⟨u, e1, e2⟩ := h.obj m (g.os.getD m []) (by rw [List.getD_eq_getElem?_getD, List.getElem?_eq_getElem hm]; rfl)
  refine ⟨lb, cp, u, hv, e1, ?_, e2⟩
  have hr := h.row
  rw [hv] at hr
  rw [hr.cellAt m (by omega)]
  exact e1
set_option maxRecDepth 100000 in
set_option maxHeartbeats 400000 in
theorem yLookBad0 {w : World} {L : YLoc} {g : Gr} (hg : YAt w L g) (f : g.Fit) (t i k : Int) (hT : g.isT t = false) :
    Calls Try.prog 16 #[.pointer (some ⟨L.b, 0, none⟩), .int .i64 t, .int .i64 i, .int .i64 k] w fun e w' => e = .returned (.tuple #[vv (0, 0), .int .i64 1]) ∧ Below w.heap.size w w' := by
  have hg1 := hg.alloc (.cells #[.int .i64 0, .int .i64 0] 37)
  have hB0 := bal (Below.refl w.heap.size w) (.cells #[.int .i64 0, .int .i64 0] 37)
  go_enter Try.func16, Try.ntmps16
  go_wp2_with (go_at_call 38; refine (yIs hg1 f t).mono ?_; rintro e w1 ⟨rfl, hw⟩; rw [hw, hT]; clear hw w1)
  exact bodyPost_ret (v := .tuple #[vv (0, 0), .int .i64 1]) (by simp [results, Try.results16, go_sem]) rfl ⟨rfl, bal (Below.refl _ _) _⟩
set_option maxRecDepth 100000 in
set_option maxHeartbeats 400000 in
theorem yLookBad1 {w : World} {L : YLoc} {g : Gr} (hg : YAt w L g) (f : g.Fit) (n : Nat) (h : n < g.ts.length) (r : List Int) (hr : g.ts.getD n [] = r) (h8 : r.length ≤ 8) (i k : Int) (hX : Rw.get r i = 0) (hY : Rw.getE r i = 12) :
    Calls Try.prog 16 #[.pointer (some ⟨L.b, 0, none⟩), .int .i64 n, .int .i64 i, .int .i64 k] w fun e w' => e = .returned (.tuple #[vv (0, 0), .int .i64 12]) ∧ Below w.heap.size w w' := by
  have hg1 := hg.alloc (.cells #[.int .i64 0, .int .i64 0] 37)
  have hB0 := bal (Below.refl w.heap.size w) (.cells #[.int .i64 0, .int .i64 0] 37)
  have hT : g.isT n = true := by simp [Gr.isT, h]
  have c0 := hg1.cell0
  have t64 := f.t64
  have ob := f.ob
  obtain ⟨d0, d1, d2, d3, d4, d5, d6, d7, d8⟩ := hg1.t9 n h
  rw [hr] at d0 d1 d2 d3 d4 d5 d6 d7 d8
  go_enter Try.func16, Try.ntmps16
  go_wp2_with (first
    | (go_at_call 38; refine (yIs hg1 f n).mono ?_; rintro e w1 ⟨rfl, hw⟩; rw [hw, hT]; clear hw w1)
    | (go_at_call 41; refine (rGetR r i h8 _).mono ?_; rintro e w1 ⟨rfl, hb⟩; rw [hX, hY]; have hR := two_new _ _ _ _ hb; obtain ⟨d0, d1⟩ := hR.1; have hf := hR.2; have hB := bt hB0 hb; clear hR))
  exact bodyPost_ret (v := .tuple #[vv (0, 0), .int .i64 12]) (by simp [results, Try.results16, go_sem, d0, d1]) rfl ⟨rfl, b1 (by omega) (b1 (by omega) hB)⟩
set_option maxRecDepth 100000 in
set_option maxHeartbeats 400000 in
theorem yLookBad2 {w : World} {L : YLoc} {g : Gr} (hg : YAt w L g) (f : g.Fit) (n : Nat) (h : n < g.ts.length) (r : List Int) (hr : g.ts.getD n [] = r) (h8 : r.length ≤ 8) (i k : Int) (hX : Rw.get r i = 0) (hY : Rw.getE r i = 0) :
    Calls Try.prog 16 #[.pointer (some ⟨L.b, 0, none⟩), .int .i64 n, .int .i64 i, .int .i64 k] w fun e w' => e = .returned (.tuple #[vv (0, 0), .int .i64 14]) ∧ Below w.heap.size w w' := by
  have hg1 := hg.alloc (.cells #[.int .i64 0, .int .i64 0] 37)
  have hB0 := bal (Below.refl w.heap.size w) (.cells #[.int .i64 0, .int .i64 0] 37)
  have hT : g.isT n = true := by simp [Gr.isT, h]
  have c0 := hg1.cell0
  have t64 := f.t64
  have ob := f.ob
  obtain ⟨d0, d1, d2, d3, d4, d5, d6, d7, d8⟩ := hg1.t9 n h
  rw [hr] at d0 d1 d2 d3 d4 d5 d6 d7 d8
  go_enter Try.func16, Try.ntmps16
  go_wp2_with (first
    | (go_at_call 38; refine (yIs hg1 f n).mono ?_; rintro e w1 ⟨rfl, hw⟩; rw [hw, hT]; clear hw w1)
    | (go_at_call 41; refine (rGetR r i h8 _).mono ?_; rintro e w1 ⟨rfl, hb⟩; rw [hX, hY]; have hR := two_new _ _ _ _ hb; obtain ⟨d0, d1⟩ := hR.1; have hf := hR.2; have hB := bt hB0 hb; clear hR))
  exact bodyPost_ret (v := .tuple #[vv (0, 0), .int .i64 14]) (by simp [results, Try.results16, go_sem, d0, d1]) rfl ⟨rfl, b1 (by omega) (b1 (by omega) hB)⟩
set_option maxRecDepth 100000 in
set_option maxHeartbeats 400000 in
theorem yLookBad3 {w : World} {L : YLoc} {g : Gr} (hg : YAt w L g) (f : g.Fit) (n : Nat) (h : n < g.ts.length) (r : List Int) (hr : g.ts.getD n [] = r) (h8 : r.length ≤ 8) (i k : Int) (m : Nat) (hm : m < g.os.length) (hX : Rw.get r i = (m : Int) + 1) (hY : Rw.getE r i = 0) (hk : k < 0) :
    Calls Try.prog 16 #[.pointer (some ⟨L.b, 0, none⟩), .int .i64 n, .int .i64 i, .int .i64 k] w fun e w' => e = .returned (.tuple #[vv (0, 0), .int .i64 15]) ∧ Below w.heap.size w w' := by
  have hg1 := hg.alloc (.cells #[.int .i64 0, .int .i64 0] 37)
  have hB0 := bal (Below.refl w.heap.size w) (.cells #[.int .i64 0, .int .i64 0] 37)
  have hT : g.isT n = true := by simp [Gr.isT, h]
  have c0 := hg1.cell0
  have t64 := f.t64
  have ob := f.ob
  obtain ⟨d0, d1, d2, d3, d4, d5, d6, d7, d8⟩ := hg1.t9 n h
  rw [hr] at d0 d1 d2 d3 d4 d5 d6 d7 d8
  have hm0 : ((m : Int) + 1 == 0) = false := by simp; omega
  have hd : decide (k < 0) = true := decide_eq_true hk
  go_enter Try.func16, Try.ntmps16
  go_wp2_with (first
    | (go_at_call 38; refine (yIs hg1 f n).mono ?_; rintro e w1 ⟨rfl, hw⟩; rw [hw, hT]; clear hw w1)
    | (go_at_call 41; refine (rGetR r i h8 _).mono ?_; rintro e w1 ⟨rfl, hb⟩; rw [hX, hY]; have hR := two_new _ _ _ _ hb; obtain ⟨d0, d1⟩ := hR.1; have hf := hR.2; have hB := bt hB0 hb; clear hR))
  exact bodyPost_ret (v := .tuple #[vv (0, 0), .int .i64 15]) (by simp [results, Try.results16, go_sem, d0, d1]) rfl ⟨rfl, b1 (by omega) (b1 (by omega) hB)⟩
set_option maxRecDepth 100000 in
set_option maxHeartbeats 400000 in
theorem yLookBad4 {w : World} {L : YLoc} {g : Gr} (hg : YAt w L g) (f : g.Fit) (n : Nat) (h : n < g.ts.length) (r : List Int) (hr : g.ts.getD n [] = r) (h8 : r.length ≤ 8) (i k : Int) (m : Nat) (hm : m < g.os.length) (hX : Rw.get r i = (m : Int) + 1) (hY : Rw.getE r i = 0) (hk0 : 0 ≤ k) (o : List (Int × Int)) (ho : g.os.getD m [] = o) (hk : (o.length : Int) ≤ k) :
    Calls Try.prog 16 #[.pointer (some ⟨L.b, 0, none⟩), .int .i64 n, .int .i64 i, .int .i64 k] w fun e w' => e = .returned (.tuple #[vv (0, 0), .int .i64 15]) ∧ Below w.heap.size w w' := by
  have hg1 := hg.alloc (.cells #[.int .i64 0, .int .i64 0] 37)
  have hB0 := bal (Below.refl w.heap.size w) (.cells #[.int .i64 0, .int .i64 0] 37)
  have hT : g.isT n = true := by simp [Gr.isT, h]
  have c0 := hg1.cell0
  have t64 := f.t64
  have ob := f.ob
  obtain ⟨d0, d1, d2, d3, d4, d5, d6, d7, d8⟩ := hg1.t9 n h
  rw [hr] at d0 d1 d2 d3 d4 d5 d6 d7 d8
  have o7 : o.length ≤ 7 := by have := f.obj7 ((m : Int) + 1); rw [obj_nat, ho] at this; exact this
  have hm0 : ((m : Int) + 1 == 0) = false := by simp; omega
  have hmi : (m : Int) < (g.os.length : Int) := by omega
  have hd : decide (k < 0) = false := decide_eq_false (by omega)
  go_enter Try.func16, Try.ntmps16
  go_wp2_with (first
    | (go_at_call 38; refine (yIs hg1 f n).mono ?_; rintro e w1 ⟨rfl, hw⟩; rw [hw, hT]; clear hw w1)
    | (go_at_call 41; refine (rGetR r i h8 _).mono ?_; rintro e w1 ⟨rfl, hb⟩; rw [hX, hY]; have hR := two_new _ _ _ _ hb; obtain ⟨d0, d1⟩ := hR.1; have hf := hR.2; have hB := bt hB0 hb; clear hR; obtain ⟨lb, lc, u, hv, _, cu, ou⟩ := (hg.below hB).at hm; have q1 := (hg.below hB).cell1; rw [hv] at q1; rw [ho] at ou; obtain ⟨ua, uc, rfl, hup⟩ := own_slice ou))
  exact bodyPost_ret (v := .tuple #[vv (0, 0), .int .i64 15]) (by simp [results, Try.results16, go_sem, d0, d1]) rfl ⟨rfl, b1 (by omega) (b1 (by omega) hB)⟩
set_option maxRecDepth 100000 in
set_option maxHeartbeats 400000 in
theorem yLookGood {w : World} {L : YLoc} {g : Gr} (hg : YAt w L g) (f : g.Fit) (n : Nat) (h : n < g.ts.length) (r : List Int) (hr : g.ts.getD n [] = r) (h8 : r.length ≤ 8) (i : Int) (k : Nat) (m : Nat) (hm : m < g.os.length) (hX : Rw.get r i = (m : Int) + 1) (hY : Rw.getE r i = 0) (o : List (Int × Int)) (ho : g.os.getD m [] = o) (hk : k < o.length) (x y : Int) (hxy : o.getD k (0, 0) = (x, y)) :
    Calls Try.prog 16 #[.pointer (some ⟨L.b, 0, none⟩), .int .i64 n, .int .i64 i, .int .i64 k] w fun e w' => e = .returned (.tuple #[vv (x, y), .int .i64 0]) ∧ Below w.heap.size w w' := by
  have hg1 := hg.alloc (.cells #[.int .i64 0, .int .i64 0] 37)
  have hB0 := bal (Below.refl w.heap.size w) (.cells #[.int .i64 0, .int .i64 0] 37)
  have hT : g.isT n = true := by simp [Gr.isT, h]
  have c0 := hg1.cell0
  have t64 := f.t64
  have ob := f.ob
  obtain ⟨d0, d1, d2, d3, d4, d5, d6, d7, d8⟩ := hg1.t9 n h
  rw [hr] at d0 d1 d2 d3 d4 d5 d6 d7 d8
  have o7 : o.length ≤ 7 := by have := f.obj7 ((m : Int) + 1); rw [obj_nat, ho] at this; exact this
  have hm0 : ((m : Int) + 1 == 0) = false := by simp; omega
  have hmi : (m : Int) < (g.os.length : Int) := by omega
  have hd : decide ((k : Int) < 0) = false := decide_eq_false (by omega)
  have hki : (k : Int) < (o.length : Int) := by omega
  have hk0 : (0 : Int) ≤ (k : Int) := by omega
  go_enter Try.func16, Try.ntmps16
  go_wp2_with (first
    | (go_at_call 38; refine (yIs hg1 f n).mono ?_; rintro e w1 ⟨rfl, hw⟩; rw [hw, hT]; clear hw w1)
    | (go_at_call 41; refine (rGetR r i h8 _).mono ?_; rintro e w1 ⟨rfl, hb⟩; rw [hX, hY]; have hR := two_new _ _ _ _ hb; obtain ⟨d0, d1⟩ := hR.1; have hf := hR.2; have hB := bt hB0 hb; clear hR; obtain ⟨lb, lc, u, hv, _, cu, ou⟩ := (hg.below hB).at hm; have q1 := (hg.below hB).cell1; rw [hv] at q1; rw [ho] at ou; obtain ⟨ua, uc, rfl, hup⟩ := own_slice ou; obtain ⟨ub, rfl⟩ := hup (by omega); have hv2 := vcells_at o k (x, y) (by rw [← hxy, List.getD_eq_getElem?_getD, List.getElem?_eq_getElem hk]; rfl); have z0 := ou.cellAt (k * 2) (by omega); have z1 := ou.cellAt (k * 2 + 1) (by omega); rw [hv2.1] at z0; rw [hv2.2] at z1))
  exact bodyPost_ret (v := .tuple #[vv (x, y), .int .i64 0]) (by simp [results, Try.results16, go_sem, d0, d1]) rfl ⟨rfl, b1 (by omega) (b1 (by omega) hB)⟩
theorem acc0 {g : Gr} {n : Nat} {i k : Int} (hT : g.isT n = true) : g.lookE n i k = if Rw.isAt (g.ts.getD n []) i then (if Rw.get (g.ts.getD n []) i = 0 then 14 else if 0 ≤ k ∧ k < (g.obj (Rw.get (g.ts.getD n []) i)).length then 0 else 15) else 12 := by
  unfold Gr.lookE Gr.acc
  rw [if_pos hT, if_pos (show Src.err (g.rs n) [] = 0 from rfl)]
  rfl
theorem yLook {w : World} {L : YLoc} {g : Gr} (hg : YAt w L g) (f : g.Fit) (t i k : Int) :
    Calls Try.prog 16 #[.pointer (some ⟨L.b, 0, none⟩), .int .i64 t, .int .i64 i, .int .i64 k] w fun e w' => e = .returned (.tuple #[vv (g.lookV t i k), .int .i64 (g.lookE t i k)]) ∧ Below w.heap.size w w' := by
  rcases hT : g.isT t with _ | _
  case false =>
    have e1 : g.lookE t i k = 1 := by simp [Gr.lookE, Gr.acc, hT]
    have e2 : g.lookV t i k = (0, 0) := by simp [Gr.lookV, e1]
    rw [e1, e2]
    exact yLookBad0 hg f t i k hT
  case true =>
    obtain ⟨n, rfl, h⟩ := isT_nat hT
    have hE := acc0 (i := i) (k := k) hT
    have h8 : (g.ts.getD n []).length ≤ 8 := f.rs8 n
    have hx := f.get n i
    have hx' : 0 ≤ Rw.get (g.ts.getD n []) i ∧ Rw.get (g.ts.getD n []) i ≤ g.os.length := hx
    by_cases ha : Rw.isAt (g.ts.getD n []) i = true
    case neg =>
      rw [if_neg ha] at hE
      have e2 : g.lookV n i k = (0, 0) := by simp [Gr.lookV, hE]
      rw [hE, e2]
      exact yLookBad1 hg f n h _ rfl h8 i k (by unfold Rw.get; rw [if_neg ha]) (by unfold Rw.getE; rw [if_neg ha])
    case pos =>
      have hY : Rw.getE (g.ts.getD n []) i = 0 := by unfold Rw.getE; rw [if_pos ha]
      rw [if_pos ha] at hE
      by_cases h0 : Rw.get (g.ts.getD n []) i = 0
      case pos =>
        rw [if_pos h0] at hE
        have e2 : g.lookV n i k = (0, 0) := by simp [Gr.lookV, hE]
        rw [hE, e2]
        exact yLookBad2 hg f n h _ rfl h8 i k h0 hY
      case neg =>
        rw [if_neg h0] at hE
        obtain ⟨m, hm⟩ : ∃ m : Nat, Rw.get (g.ts.getD n []) i = (m : Int) + 1 := ⟨(Rw.get (g.ts.getD n []) i - 1).toNat, by omega⟩
        have hml : m < g.os.length := by omega
        rw [hm, obj_nat] at hE
        by_cases hk : 0 ≤ k ∧ k < (g.os.getD m []).length
        case neg =>
          rw [if_neg hk] at hE
          have e2 : g.lookV n i k = (0, 0) := by simp [Gr.lookV, hE]
          rw [hE, e2]
          by_cases hk0 : k < 0
          · exact yLookBad3 hg f n h _ rfl h8 i k m hml hm hY hk0
          · exact yLookBad4 hg f n h _ rfl h8 i k m hml hm hY (by omega) _ rfl (by omega)
        case pos =>
          rw [if_pos hk] at hE
          obtain ⟨k', rfl⟩ : ∃ k' : Nat, k = k' := ⟨k.toNat, by omega⟩
          have e2 : g.lookV n i k' = (g.os.getD m []).getD k' (0, 0) := by
            unfold Gr.lookV
            rw [if_pos hE]
            unfold Gr.field Gr.id
            show (g.obj (Rw.get (g.ts.getD n []) i)).getD k' (0, 0) = _
            rw [hm, obj_nat]
          rw [hE, e2]
          exact yLookGood hg f n h _ rfl h8 i k' m hml hm hY _ rfl (by omega) _ _ rfl
end Go.Proofs.Ytbihdkdefopijaa
