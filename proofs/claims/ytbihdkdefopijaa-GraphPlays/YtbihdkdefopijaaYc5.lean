/-
  Contracts of the reference: Write.
-/
import Derived.Test.YtbihdkdefopijaaYc4
namespace Go.Proofs.Ytbihdkdefopijaa
set_option linter.unusedVariables false
set_option linter.unusedSimpArgs false
open Go.ChangeShapes Go.WideShapes Go.ChangeAt Go.RowKit

/-- the graph, behind a store into a field -/
theorem YAt.setO {w : World} {L : YLoc} {g : Gr} (h : YAt w L g) {m k : Nat} (hm : m < g.os.length) {ub n c : Nat} (hu : L.vs[m]? = some (.slice (some ⟨ub, 0, none⟩) n c)) (hk : k < (g.os.getD m []).length) (x y : Int) :
    YAt ((w.setCell ⟨ub, k * 2, none⟩ (.int .i64 x)).setCell ⟨ub, k * 2 + 1, none⟩ (.int .i64 y)) L ⟨g.ts, g.os.set m ((g.os.getD m []).set k (x, y))⟩ ∧
    Kept L.fp w ((w.setCell ⟨ub, k * 2, none⟩ (.int .i64 x)).setCell ⟨ub, k * 2 + 1, none⟩ (.int .i64 y)) := by
  have K : Kept [ub] w ((w.setCell ⟨ub, k * 2, none⟩ (.int .i64 x)).setCell ⟨ub, k * 2 + 1, none⟩ (.int .i64 y)) := (Kept.setCell [ub] w _ _ (by simp)).trans (Kept.setCell [ub] _ _ _ (by simp)) fun _ hk => .inl hk
  obtain ⟨cu, hcu⟩ := h.vblk m _ hu ub rfl
  refine ⟨⟨?_, ?_, ?_, ?_, ?_, h.apart, fun h0 => ?_⟩, K.mono fun j hj => ?_⟩
  · rw [K.block _ (lt_of_block h.blk) (by
      simp
      intro e
      have hb := h.blk
      rw [e, hcu] at hb
      simp at hb), h.blk]
  · exact own_kept h.thr K fun j hj e => by
      simp [Value.ownBlock] at hj e
      subst hj
      exact h.vt_ne m _ hu (by rw [e]; rfl)
  · simp [h.len]
  · have R := own_kept h.row K fun j hj e => by
      simp at e
      subst e
      obtain ⟨c1, hc1⟩ := h.lblk _ hj
      rw [hcu] at hc1
      simp at hc1
    simpa using R
  · intro i o hi
    by_cases e : i = m
    · subst e
      have hi2 : (g.os.set i ((g.os.getD i []).set k (x, y)))[i]? = some o := hi
      rw [List.getElem?_set_self hm] at hi2
      injection hi2 with hi2
      subst hi2
      obtain ⟨u, e1, e2⟩ := h.obj i (g.os.getD i []) (by rw [List.getD_eq_getElem?_getD, List.getElem?_eq_getElem hm]; rfl)
      rw [hu] at e1
      injection e1 with e1
      subst e1
      obtain ⟨_, _, e4, _⟩ := own_slice e2
      injection e4 with _ e5 _
      subst e5
      refine ⟨_, hu, ?_⟩
      have R := ((e2.stored (k * 2) (.int .i64 x)).1.stored (k * 2 + 1) (.int .i64 y)).1
      rw [vcells_set _ x y k hk] at R
      rw [List.length_set]
      exact R
    · have hi' : g.os[i]? = some o := by
        have : (g.os.set m ((g.os.getD m []).set k (x, y)))[i]? = some o := hi
        rwa [List.getElem?_set_ne (Ne.symm e)] at this
      obtain ⟨u, e1, e2⟩ := h.obj i o hi'
      exact ⟨u, e1, own_kept e2 K fun j hj e3 => by
        simp at e3
        subst e3
        exact e (h.apart i m u _ _ e1 hu hj rfl)⟩
  · have hz : (g.os.set m ((g.os.getD m []).set k (x, y))).length = 0 := by
      have : g.os.set m ((g.os.getD m []).set k (x, y)) = [] := h0
      rw [this]; rfl
    simp at hz
    rw [hz] at hm
    simp at hm
  · simp at hj
    subst hj
    simp only [YLoc.fp, List.mem_cons, List.mem_append, List.mem_filterMap]
    exact .inr (.inr (.inr ⟨_, List.mem_of_getElem? hu, rfl⟩))

set_option maxRecDepth 100000 in
set_option maxHeartbeats 400000 in
theorem yWriteBad0 {w : World} {L : YLoc} {g : Gr} (hg : YAt w L g) (f : g.Fit) (t i k a b : Int) (hT : g.isT t = false) :
    Calls Try.prog 20 #[.pointer (some ⟨L.b, 0, none⟩), .int .i64 t, .int .i64 i, .int .i64 k, .agg #[.int .i64 a, .int .i64 b]] w fun e w' => e = .returned (.int .i64 1) ∧ Below w.heap.size w w' := by
  have hg1 := hg.alloc (.cells #[.int .i64 a, .int .i64 b] 32)
  have hB0 := bal (Below.refl w.heap.size w) (.cells #[.int .i64 a, .int .i64 b] 32)
  go_enter Try.func20, Try.ntmps20
  go_wp2_with (go_at_call 38; refine (yIs hg1 f t).mono ?_; rintro e w9 ⟨rfl, hw⟩; rw [hw, hT]; clear hw w9)
  go_ret
  exact ⟨rfl, hB0⟩
set_option maxRecDepth 100000 in
set_option maxHeartbeats 400000 in
theorem yWriteBad1 {w : World} {L : YLoc} {g : Gr} (hg : YAt w L g) (f : g.Fit) (n : Nat) (h : n < g.ts.length) (r : List Int) (hr : g.ts.getD n [] = r) (h8 : r.length ≤ 8) (i k a b : Int) (E : Int) (hV : nmV r (a, b) = (0, 0)) (hN : nmE r (a, b) = E) (hE : (E != 0) = true) :
    Calls Try.prog 20 #[.pointer (some ⟨L.b, 0, none⟩), .int .i64 n, .int .i64 i, .int .i64 k, .agg #[.int .i64 a, .int .i64 b]] w fun e w' => e = .returned (.int .i64 E) ∧ Below w.heap.size w w' := by
  have hg1 := hg.alloc (.cells #[.int .i64 a, .int .i64 b] 32)
  have hB0 := bal (Below.refl w.heap.size w) (.cells #[.int .i64 a, .int .i64 b] 32)
  have hT : g.isT n = true := by simp [Gr.isT, h]
  have t64 := f.t64
  have ob := f.ob
  go_enter Try.func20, Try.ntmps20
  go_wp2_with (first
    | (go_at_call 38; refine (yIs hg1 f n).mono ?_; rintro e w9 ⟨rfl, hw⟩; rw [hw, hT]; clear hw w9)
    | (go_at_call 43; refine (yNamed hg1 f n h r hr h8 a b).mono ?_; rintro e w1 ⟨rfl, hb1⟩; rw [hV, hN]; have hB1 := bt hB0 hb1; have hA := (hg.below hB1).alloc (.cells #[.int .i64 0, .int .i64 0] 37); have hBA := bal hB1 (.cells #[.int .i64 0, .int .i64 0] 37); have vA := heap_alloc_new w1 (.cells #[.int .i64 0, .int .i64 0] 37)))
  go_ret
  exact ⟨rfl, hBA⟩
set_option maxRecDepth 100000 in
set_option maxHeartbeats 400000 in
theorem yWriteBad2 {w : World} {L : YLoc} {g : Gr} (hg : YAt w L g) (f : g.Fit) (n : Nat) (h : n < g.ts.length) (r : List Int) (hr : g.ts.getD n [] = r) (h8 : r.length ≤ 8) (i k a b x y : Int) (E : Int) (hV : nmV r (a, b) = (x, y)) (hN : nmE r (a, b) = 0) (p q : Int) (hLV : g.lookV n i k = (p, q)) (hLE : g.lookE n i k = E) (hE : (E != 0) = true) :
    Calls Try.prog 20 #[.pointer (some ⟨L.b, 0, none⟩), .int .i64 n, .int .i64 i, .int .i64 k, .agg #[.int .i64 a, .int .i64 b]] w fun e w' => e = .returned (.int .i64 E) ∧ Below w.heap.size w w' := by
  have hg1 := hg.alloc (.cells #[.int .i64 a, .int .i64 b] 32)
  have hB0 := bal (Below.refl w.heap.size w) (.cells #[.int .i64 a, .int .i64 b] 32)
  have hT : g.isT n = true := by simp [Gr.isT, h]
  have t64 := f.t64
  have ob := f.ob
  go_enter Try.func20, Try.ntmps20
  go_wp2_with (first
    | (go_at_call 38; refine (yIs hg1 f n).mono ?_; rintro e w9 ⟨rfl, hw⟩; rw [hw, hT]; clear hw w9)
    | (go_at_call 43; refine (yNamed hg1 f n h r hr h8 a b).mono ?_; rintro e w1 ⟨rfl, hb1⟩; rw [hV, hN]; have hB1 := bt hB0 hb1; have hA := (hg.below hB1).alloc (.cells #[.int .i64 x, .int .i64 y] 37); have hBA := bal hB1 (.cells #[.int .i64 x, .int .i64 y] 37); have vA := heap_alloc_new w1 (.cells #[.int .i64 x, .int .i64 y] 37))
    | (go_at_call 16; refine (yLook hA f n i k).mono ?_; rintro e w2 ⟨rfl, hb2⟩; rw [hLV, hLE]; have hB2 := bt hBA hb2; have v2 := (hb2.block _ (by simp)).trans vA; have q0 := (hA.below hb2).cell0; obtain ⟨p0, p1, p2, p3, p4, p5, p6, p7, p8⟩ := (hA.below hb2).t9 n h; rw [hr] at p0 p1 p2 p3 p4 p5 p6 p7 p8))
  go_ret
  exact ⟨rfl, hB2⟩
set_option maxRecDepth 100000 in
set_option maxHeartbeats 400000 in
theorem yWriteGood {w : World} {L : YLoc} {g : Gr} (hg : YAt w L g) (f : g.Fit) (n : Nat) (h : n < g.ts.length) (r : List Int) (hr : g.ts.getD n [] = r) (h8 : r.length ≤ 8) (i : Int) (k : Nat) (a b x y : Int) (hV : nmV r (a, b) = (x, y)) (hN : nmE r (a, b) = 0) (p q : Int) (hLV : g.lookV n i k = (p, q)) (hLE : g.lookE n i k = 0) (m : Nat) (hm : m < g.os.length) (hX : Rw.get r i = (m : Int) + 1) (hY : Rw.getE r i = 0) (o : List (Int × Int)) (ho : g.os.getD m [] = o) (hk : k < o.length) :
    Calls Try.prog 20 #[.pointer (some ⟨L.b, 0, none⟩), .int .i64 n, .int .i64 i, .int .i64 k, .agg #[.int .i64 a, .int .i64 b]] w fun e w' => e = .returned (.int .i64 0) ∧ YAt w' L ⟨g.ts, g.os.set m (o.set k (x, y))⟩ ∧ YStep w L w' L := by
  have hg1 := hg.alloc (.cells #[.int .i64 a, .int .i64 b] 32)
  have hB0 := bal (Below.refl w.heap.size w) (.cells #[.int .i64 a, .int .i64 b] 32)
  have hT : g.isT n = true := by simp [Gr.isT, h]
  have t64 := f.t64
  have ob := f.ob
  have o7 : o.length ≤ 7 := by have := f.obj7 ((m : Int) + 1); rw [obj_nat, ho] at this; exact this
  have hmi : (m : Int) < (g.os.length : Int) := by omega
  have hki : (k : Int) < (o.length : Int) := by omega
  have hk0 : (0 : Int) ≤ (k : Int) := by omega
  obtain ⟨vx, vy, hvo⟩ : ∃ vx vy, o.getD k (0, 0) = (vx, vy) := ⟨_, _, rfl⟩
  have hv2 := vcells_at o k (vx, vy) (by rw [← hvo, List.getD_eq_getElem?_getD, List.getElem?_eq_getElem hk]; rfl)
  go_enter Try.func20, Try.ntmps20
  go_wp2_with (first
    | (go_at_call 38; refine (yIs hg1 f n).mono ?_; rintro e w9 ⟨rfl, hw⟩; rw [hw, hT]; clear hw w9)
    | (go_at_call 43; refine (yNamed hg1 f n h r hr h8 a b).mono ?_; rintro e w1 ⟨rfl, hb1⟩; rw [hV, hN]; have hB1 := bt hB0 hb1; have hA := (hg.below hB1).alloc (.cells #[.int .i64 x, .int .i64 y] 37); have hBA := bal hB1 (.cells #[.int .i64 x, .int .i64 y] 37); have vA := heap_alloc_new w1 (.cells #[.int .i64 x, .int .i64 y] 37))
    | (go_at_call 16; refine (yLook hA f n i k).mono ?_; rintro e w2 ⟨rfl, hb2⟩; rw [hLV, hLE]; have hB2 := bt hBA hb2; have v2 := (hb2.block _ (by simp)).trans vA; have q0 := (hA.below hb2).cell0; obtain ⟨p0, p1, p2, p3, p4, p5, p6, p7, p8⟩ := (hA.below hb2).t9 n h; rw [hr] at p0 p1 p2 p3 p4 p5 p6 p7 p8)
    | (go_at_call 41; refine (rGetR r i h8 _).mono ?_; rintro e w3 ⟨rfl, hb3⟩; rw [hX, hY]; have hB3 := bt hB2 hb3; have v3 := (hb3.block _ (lt_of_block v2)).trans v2; have d0 : w3.cell? ⟨w1.heap.size, 0, none⟩ = some (.int .i64 x) := (by rw [cell_of_row _ _ _ _ _ _ v3]; rfl); have d1 : w3.cell? ⟨w1.heap.size, 1, none⟩ = some (.int .i64 y) := (by rw [cell_of_row _ _ _ _ _ _ v3]; rfl); have hg3 := hg.below hB3; obtain ⟨lb, lc, u, hv, hu, cu, ou⟩ := hg3.at hm; have q1 := hg3.cell1; rw [hv] at q1; rw [ho] at ou; obtain ⟨ua, uc, rfl, hup⟩ := own_slice ou; obtain ⟨ub, rfl⟩ := hup (by omega); have z0 := ou.cellAt (k * 2) (by omega); have z1 := ou.cellAt (k * 2 + 1) (by omega); rw [hv2.1] at z0; rw [hv2.2] at z1; have hfz := fun j => ou.frozenAt j; have RR := hg3.setO hm hu (by rw [ho]; exact hk) x y; rw [ho] at RR; clear hg3 ou))
  go_region
  go_wp2
  go_ret
  exact ⟨rfl, RR.1.drew, ⟨((Kept.of_below hB3).trans RR.2 fun _ h => .inl h).trans (Kept.drew _ _) fun _ h => .inl h, fun _ h => .inl h, rfl⟩⟩
theorem acc1 {g : Gr} {n : Nat} {i k : Int} {s : Src} (hT : g.isT n = true) : g.writeE n i k s = if nmE (g.ts.getD n []) s = 0 then g.lookE n i k else nmE (g.ts.getD n []) s := by
  have e : Src.err (g.rs n) [s] = nmE (g.ts.getD n []) s := by
    show (if [s].all Src.ok then Src.errs (g.ts.getD n []) [s] else 1) = _
    unfold nmE Src.errs Src.errs
    by_cases h : Src.ok s = true
    · simp only [List.all_cons, List.all_nil, h, Bool.and_true, if_true]
      split
      · next h' => rw [h']
      · rfl
    · simp [h]
  rw [acc0 hT]
  unfold Gr.writeE Gr.acc
  rw [if_pos hT, e]
  rfl
theorem yWrite {w : World} {L : YLoc} {g : Gr} (hg : YAt w L g) (f : g.Fit) (t i k a b : Int) :
    Calls Try.prog 20 #[.pointer (some ⟨L.b, 0, none⟩), .int .i64 t, .int .i64 i, .int .i64 k, .agg #[.int .i64 a, .int .i64 b]] w fun e w' => e = .returned (.int .i64 (g.writeE t i k (a, b))) ∧ YAt w' L (g.write t i k (a, b)) ∧ YStep w L w' L := by
  have low : ∀ {w' : World}, Below w.heap.size w w' → YAt w' L g ∧ YStep w L w' L := fun hb => ⟨hg.below hb, YStep.of_below hb⟩
  by_cases hW : g.writeE t i k (a, b) = 0
  case neg =>
    have eG : g.write t i k (a, b) = g := by unfold Gr.write; rw [if_neg hW]
    rw [eG]
    rcases hT : g.isT t with _ | _
    case false =>
      have e1 : g.writeE t i k (a, b) = 1 := by simp [Gr.writeE, Gr.acc, hT]
      rw [e1]
      refine (yWriteBad0 hg f t i k a b hT).mono ?_
      rintro e w' ⟨rfl, hb⟩
      exact ⟨rfl, low hb⟩
    case true =>
      obtain ⟨n, rfl, h⟩ := isT_nat hT
      have h8 : (g.ts.getD n []).length ≤ 8 := f.rs8 n
      have hA := acc1 (i := i) (k := k) (s := (a, b)) hT
      by_cases hN : nmE (g.ts.getD n []) (a, b) = 0
      · rw [if_pos hN] at hA
        rw [hA] at hW ⊢
        refine (yWriteBad2 hg f n h _ rfl h8 i k a b _ _ _ rfl hN _ _ rfl rfl (by simpa using hW)).mono ?_
        rintro e w' ⟨rfl, hb⟩
        exact ⟨rfl, low hb⟩
      · rw [if_neg hN] at hA
        rw [hA] at hW ⊢
        refine (yWriteBad1 hg f n h _ rfl h8 i k a b _ (by unfold nmV; rw [if_neg hN]) rfl (by simpa using hN)).mono ?_
        rintro e w' ⟨rfl, hb⟩
        exact ⟨rfl, low hb⟩
  case pos =>
    have eG : g.write t i k (a, b) = g.setF t i k (Src.val (g.rs t) (a, b)) := by unfold Gr.write; rw [if_pos hW]
    rw [eG, hW]
    obtain ⟨n, m, k', rfl, hn, e0, ha, hm, hi, rfl, hk⟩ := acc_good f hW
    have hT : g.isT n = true := by simp [Gr.isT, hn]
    have h8 : (g.ts.getD n []).length ≤ 8 := f.rs8 n
    have hA := acc1 (i := i) (k := k') (s := (a, b)) hT
    rw [hW] at hA
    have hN : nmE (g.ts.getD n []) (a, b) = 0 := by
      by_cases h : nmE (g.ts.getD n []) (a, b) = 0
      · exact h
      · rw [if_neg h] at hA; exact hA.symm
    rw [if_pos hN] at hA
    have eS : g.setF n i k' (Src.val (g.rs n) (a, b)) = ⟨g.ts, g.os.set m ((g.os.getD m []).set k' (nmV (g.ts.getD n []) (a, b)))⟩ := by
      have e1 : nmV (g.ts.getD n []) (a, b) = Src.val (g.ts.getD n []) (a, b) := by unfold nmV; rw [if_pos hN]
      rw [e1]
      unfold Gr.setF Gr.id
      show Gr.mk g.ts (g.os.set (Rw.get (g.ts.getD n []) i - 1).toNat ((g.obj (Rw.get (g.ts.getD n []) i)).set k' (Src.val (g.ts.getD n []) (a, b)))) = _
      rw [hi, obj_nat]
      simp
    rw [eS]
    exact yWriteGood hg f n hn _ rfl h8 i k' a b _ _ rfl hN _ _ rfl hA.symm m hm hi (by unfold Rw.getE; rw [if_pos ha]) _ rfl hk
end Go.Proofs.Ytbihdkdefopijaa
