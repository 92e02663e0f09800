/-
  Contracts: Look, Write, Swap.
-/
import Derived.Test.YtbihdkdefopijaaGs3
import Derived.Test.YtbihdkdefopijaaGc5
namespace Go.Proofs.Ytbihdkdefopijaa
set_option linter.unusedVariables false
set_option linter.unusedSimpArgs false
open Go.ChangeShapes Go.WideShapes Go.ChangeAt Go.RowKit

/-- the cells of a field -/
theorem GAt.field {w : World} {L : Loc} {g : Gr} (h : GAt w L g) (f : g.Fit) {og oc m k : Nat} (hv : L.vo = .slice (some ⟨og, 0, none⟩) g.os.length oc) (hm : m < g.os.length) (hk : k < (g.os.getD m []).length) :
    w.cell? ⟨og, m * 15 + 1 + k * 2, none⟩ = some (.int .i64 (fk (g.os.getD m []) k)) ∧ w.cell? ⟨og, m * 15 + 1 + k * 2 + 1, none⟩ = some (.int .i64 (fn (g.os.getD m []) k)) := by
  have o7 : (g.os.getD m []).length ≤ 7 := by have := f.obj7 ((m : Int) + 1); unfold Gr.obj at this; simpa using this
  generalize ho : g.os.getD m [] = o at o7 hk
  have h1 := h.ocell hv m hm (1 + k * 2) (by omega)
  have h2 := h.ocell hv m hm (1 + k * 2 + 1) (by omega)
  rw [ho] at h1 h2
  rw [show m * 15 + 1 + k * 2 + 1 = m * 15 + (1 + k * 2 + 1) by omega, show m * 15 + 1 + k * 2 = m * 15 + (1 + k * 2) by omega, h1, h2]
  have k7 : k < 7 := by omega
  match k, k7 with
  | 0, _ => exact ⟨rfl, rfl⟩
  | 1, _ => exact ⟨rfl, rfl⟩
  | 2, _ => exact ⟨rfl, rfl⟩
  | 3, _ => exact ⟨rfl, rfl⟩
  | 4, _ => exact ⟨rfl, rfl⟩
  | 5, _ => exact ⟨rfl, rfl⟩
  | 6, _ => exact ⟨rfl, rfl⟩
/-- the graph, behind a store into a field -/
theorem GAt.setO {w : World} {L : Loc} {g : Gr} (h : GAt w L g) (f : g.Fit) {og oc m k : Nat} (hv : L.vo = .slice (some ⟨og, 0, none⟩) g.os.length oc) (hm : m < g.os.length) (hk : k < (g.os.getD m []).length) (x y : Int) :
    GAt ((w.setCell ⟨og, m * 15 + 1 + k * 2, none⟩ (.int .i64 x)).setCell ⟨og, m * 15 + 1 + k * 2 + 1, none⟩ (.int .i64 y)) L ⟨g.ts, g.os.set m ((g.os.getD m []).set k (x, y))⟩ ∧
    Kept L.fp w ((w.setCell ⟨og, m * 15 + 1 + k * 2, none⟩ (.int .i64 x)).setCell ⟨og, m * 15 + 1 + k * 2 + 1, none⟩ (.int .i64 y)) := by
  have o7 : (g.os.getD m []).length ≤ 7 := by have := f.obj7 ((m : Int) + 1); unfold Gr.obj at this; simpa using this
  have hog : L.vo.ownBlock = some og := by rw [hv]; rfl
  have K : Kept [og] w ((w.setCell ⟨og, m * 15 + 1 + k * 2, none⟩ (.int .i64 x)).setCell ⟨og, m * 15 + 1 + k * 2 + 1, none⟩ (.int .i64 y)) := (Kept.setCell [og] w _ _ (by simp)).trans (Kept.setCell [og] _ _ _ (by simp)) fun _ hk => .inl hk
  refine ⟨⟨?_, ?_, ?_, fun h0 => ?_⟩, K.mono fun k hk => by simp at hk; subst hk; simp [Loc.fp, hog]⟩
  · rw [K.block _ (lt_of_block h.blk) (by simp; exact fun e => h.bo (e ▸ hog)), h.blk]
  · exact own_kept h.thr K fun j hj e => by simp [Value.ownBlock] at hj e; subst hj; exact h.to (e ▸ hog)
  · have h' := h.obj
    rw [hv] at h'
    have R := ((h'.stored (m * 15 + (1 + k * 2)) (.int .i64 x)).1.stored (m * 15 + (1 + k * 2) + 1) (.int .i64 y)).1
    have e : g.os[m]? = some (g.os.getD m []) := by simp [List.getD_eq_getElem?_getD, hm]
    rw [ocells_set g.os (x, y) k (by omega) m _ e hk] at R
    rw [hv, show m * 15 + 1 + k * 2 = m * 15 + (1 + k * 2) by omega]
    simpa using R
  · have : (g.os.set m ((g.os.getD m []).set k (x, y))).length = g.os.length := by simp
    have hz : g.os.set m ((g.os.getD m []).set k (x, y)) = [] := h0
    rw [hz] at this
    simp at this
    omega
theorem obj_nat (g : Gr) (m : Nat) : g.obj ((m : Int) + 1) = g.os.getD m [] := by unfold Gr.obj; simp

set_option maxRecDepth 100000 in
set_option maxHeartbeats 400000 in
theorem cLookBad {w : World} {L : Loc} {g : Gr} (hg : GAt w L g) (f : g.Fit) (t i k : Int) (E : Int) (hE : g.lookE t i k = E) (hE0 : (E != 0) = true) (hE1 : ¬ E = 0) :
    Calls Try.prog 15 #[.pointer (some ⟨L.b, 0, none⟩), .int .i64 t, .int .i64 i, .int .i64 k] w fun e w' => e = .returned (.tuple #[vv (0, 0), .int .i64 E]) ∧ Below w.heap.size w w' := by
  have hA := cAccE (hg.alloc (.cells #[.int .i64 0, .int .i64 0] 37)) f t i k none 0 [] (.inl rfl) (by decide) (by unfold Gr.lookE at hE; rw [hE]; exact hE1)
  have hE' : g.acc t i k [] = E := hE
  rw [hE'] at hA
  have hB0 := bal (Below.refl w.heap.size w) (.cells #[.int .i64 0, .int .i64 0] 37)
  clear hE1
  go_enter Try.func15, Try.ntmps15
  go_wp2_with (go_at_call 40; refine hA.mono ?_; rintro e w1 ⟨rfl, hb⟩; have hR := two_new _ _ _ _ hb; obtain ⟨d0, d1⟩ := hR.1; have hf := hR.2; have hB := bt hB0 hb)
  exact bodyPost_ret (v := .tuple #[vv (0, 0), .int .i64 E]) (by simp [results, Try.results15, go_sem, d0, d1]) rfl ⟨rfl, b1 (by omega) (b1 (by omega) hB)⟩
set_option maxRecDepth 100000 in
set_option maxHeartbeats 400000 in
theorem cLookGood {w : World} {L : Loc} {g : Gr} (hg : GAt w L g) (f : g.Fit) (t i k : Int) (hE : g.lookE t i k = 0) :
    Calls Try.prog 15 #[.pointer (some ⟨L.b, 0, none⟩), .int .i64 t, .int .i64 i, .int .i64 k] w fun e w' => e = .returned (.tuple #[vv (g.field t i k), .int .i64 0]) ∧ Below w.heap.size w w' := by
  obtain ⟨n, m, k', rfl, hn, e0, ha, hm, hi, rfl, hk⟩ := acc_good f hE
  have eF : g.field n i k' = (fk (g.os.getD m []) k', fn (g.os.getD m []) k') := by
    unfold Gr.field Gr.id
    show ((g.obj (Rw.get (g.ts.getD n []) i)).getD k' (0, 0)) = _
    rw [hi, obj_nat]
    rfl
  rw [eF]
  have hA := cAccGood (hg.alloc (.cells #[.int .i64 0, .int .i64 0] 37)) f n hn _ rfl i k' none 0 [] (.inl rfl) (by decide) e0 ha m hm hi _ rfl hk
  have hB0 := bal (Below.refl w.heap.size w) (.cells #[.int .i64 0, .int .i64 0] 37)
  generalize hx : fk (g.os.getD m []) k' = x
  generalize hy : fn (g.os.getD m []) k' = y
  go_enter Try.func15, Try.ntmps15
  go_wp2_with (go_at_call 40; refine hA.mono ?_; rintro e w1 ⟨og, oc, v, hv, rfl, hb, -⟩; have hR := two_new _ _ _ _ hb; obtain ⟨d0, d1⟩ := hR.1; have hf := hR.2; have hB := bt hB0 hb; have hF := (hg.below hB).field f hv hm hk; rw [hx, hy] at hF; obtain ⟨q0, q1⟩ := hF; clear hR)
  exact bodyPost_ret (v := .tuple #[vv (x, y), .int .i64 0]) (by simp [results, Try.results15, go_sem, d0, d1]) rfl ⟨rfl, b1 (by omega) (b1 (by omega) hB)⟩
theorem cLookG {w : World} {L : Loc} {g : Gr} (hg : GAt w L g) (f : g.Fit) (t i k : Int) :
    Calls Try.prog 15 #[.pointer (some ⟨L.b, 0, none⟩), .int .i64 t, .int .i64 i, .int .i64 k] w fun e w' => e = .returned (.tuple #[vv (g.lookV t i k), .int .i64 (g.lookE t i k)]) ∧ Below w.heap.size w w' := by
  by_cases h : g.lookE t i k = 0
  · have e : g.lookV t i k = g.field t i k := by simp [Gr.lookV, h]
    rw [e, h]
    exact cLookGood hg f t i k h
  · have e : g.lookV t i k = (0, 0) := by simp [Gr.lookV, h]
    rw [e]
    exact cLookBad hg f t i k _ rfl (by simpa using h) h

theorem srcs1 (w : World) (a b : Int) : SrcsAt ((w.alloc (.cells #[.int .i64 a, .int .i64 b] 32)).alloc (.cells #[.int .i64 a, .int .i64 b] 32)) (some ⟨w.heap.size + 1, 0, none⟩) [(a, b)] := by
  have h := heap_alloc_new (w.alloc (.cells #[.int .i64 a, .int .i64 b] 32)) (.cells #[.int .i64 a, .int .i64 b] 32)
  rw [World.size_alloc] at h
  refine .inr ⟨w.heap.size + 1, rfl, by simp, fun j hj => ?_⟩
  obtain rfl : j = 0 := by simp at hj; omega
  exact ⟨by rw [cell_of_row _ _ _ _ _ _ h]; rfl, by rw [cell_of_row _ _ _ _ _ _ h]; rfl⟩
theorem srcs2 (w : World) (a b c d : Int) : SrcsAt (((w.alloc (.cells #[.int .i64 a, .int .i64 b] 32)).alloc (.cells #[.int .i64 c, .int .i64 d] 32)).alloc (.cells #[.int .i64 a, .int .i64 b, .int .i64 c, .int .i64 d] 32)) (some ⟨w.heap.size + 1 + 1, 0, none⟩) [(a, b), (c, d)] := by
  have h := heap_alloc_new ((w.alloc (.cells #[.int .i64 a, .int .i64 b] 32)).alloc (.cells #[.int .i64 c, .int .i64 d] 32)) (.cells #[.int .i64 a, .int .i64 b, .int .i64 c, .int .i64 d] 32)
  simp only [World.size_alloc] at h
  refine .inr ⟨w.heap.size + 1 + 1, rfl, by simp, fun j hj => ?_⟩
  have : j = 0 ∨ j = 1 := by simp at hj; omega
  rcases this with rfl | rfl
  · exact ⟨by rw [cell_of_row _ _ _ _ _ _ h]; rfl, by rw [cell_of_row _ _ _ _ _ _ h]; rfl⟩
  · exact ⟨by rw [cell_of_row _ _ _ _ _ _ h]; rfl, by rw [cell_of_row _ _ _ _ _ _ h]; rfl⟩
/-- a row of fields, by its cells -/
theorem vrow {w : World} {v : Value} {vs : List (Int × Int)} (h : w.ownsRow 0 37 2 v vs.length (vcells vs)) (hp : 0 < vs.length) : ∃ g cp, v = .slice (some ⟨g, 0, none⟩) vs.length cp ∧ (∃ cur, w.heap[g]? = some (.cells cur 37 (0, 0))) ∧ ∀ j x, vs[j]? = some x → w.cell? ⟨g, j * 2, none⟩ = some (.int .i64 x.1) ∧ w.cell? ⟨g, j * 2 + 1, none⟩ = some (.int .i64 x.2) := by
  rcases h.2 with ⟨_, h0⟩ | ⟨g, cp, cur, rfl, _, hg, _⟩
  · omega
  · refine ⟨g, cp, rfl, ⟨cur, hg⟩, fun j x hj => ?_⟩
    have hlt : j < vs.length := (List.getElem?_eq_some_iff.1 hj).1
    have := vcells_at vs j x hj
    exact ⟨by rw [h.cellAt (j * 2) (by omega), this.1], by rw [h.cellAt (j * 2 + 1) (by omega), this.2]⟩

set_option maxRecDepth 100000 in
set_option maxHeartbeats 400000 in
theorem cWriteBad {w : World} {L : Loc} {g : Gr} (hg : GAt w L g) (f : g.Fit) (t i k a b : Int) (E : Int) (hE : g.writeE t i k (a, b) = E) (hE0 : (E != 0) = true) (hE1 : ¬ E = 0) :
    Calls Try.prog 19 #[.pointer (some ⟨L.b, 0, none⟩), .int .i64 t, .int .i64 i, .int .i64 k, .agg #[.int .i64 a, .int .i64 b]] w fun e w' => e = .returned (.int .i64 E) ∧ Below w.heap.size w w' := by
  have hA := cAccE ((hg.alloc (.cells #[.int .i64 a, .int .i64 b] 32)).alloc (.cells #[.int .i64 a, .int .i64 b] 32)) f t i k (some ⟨w.heap.size + 1, 0, none⟩) 1 [(a, b)] (srcs1 w a b) (by simp) (by unfold Gr.writeE at hE; rw [hE]; exact hE1)
  have hE' : g.acc t i k [(a, b)] = E := hE
  rw [hE'] at hA
  have hB0 := bal (bal (Below.refl w.heap.size w) (.cells #[.int .i64 a, .int .i64 b] 32)) (.cells #[.int .i64 a, .int .i64 b] 32)
  clear hE1
  go_enter Try.func19, Try.ntmps19
  go_wp2_with (go_at_call 40; refine hA.mono ?_; rintro e w1 ⟨rfl, hb⟩; have hB := bt hB0 hb)
  go_ret
  exact ⟨rfl, hB⟩
set_option maxRecDepth 100000 in
set_option maxHeartbeats 400000 in
theorem cWriteGood {w : World} {L : Loc} {g : Gr} (hg : GAt w L g) (f : g.Fit) (t i k a b : Int) (hE : g.writeE t i k (a, b) = 0) :
    Calls Try.prog 19 #[.pointer (some ⟨L.b, 0, none⟩), .int .i64 t, .int .i64 i, .int .i64 k, .agg #[.int .i64 a, .int .i64 b]] w fun e w' => e = .returned (.int .i64 0) ∧ GAt w' L (g.setF t i k (Src.val (g.rs t) (a, b))) ∧ Step w L w' L := by
  obtain ⟨n, m, k', rfl, hn, e0, ha, hm, hi, rfl, hk⟩ := acc_good f hE
  have hA := cAccGood ((hg.alloc (.cells #[.int .i64 a, .int .i64 b] 32)).alloc (.cells #[.int .i64 a, .int .i64 b] 32)) f n hn _ rfl i k' (some ⟨w.heap.size + 1, 0, none⟩) 1 [(a, b)] (srcs1 w a b) (by simp) e0 ha m hm hi _ rfl hk
  have hB0 := bal (bal (Below.refl w.heap.size w) (.cells #[.int .i64 a, .int .i64 b] 32)) (.cells #[.int .i64 a, .int .i64 b] 32)
  obtain ⟨x, y, hxy⟩ : ∃ x y, Src.val (g.ts.getD n []) (a, b) = (x, y) := ⟨_, _, rfl⟩
  have eS : g.setF n i k' (Src.val (g.rs n) (a, b)) = ⟨g.ts, g.os.set m ((g.os.getD m []).set k' (x, y))⟩ := by
    unfold Gr.setF Gr.id
    show Gr.mk g.ts (g.os.set (Rw.get (g.ts.getD n []) i - 1).toNat ((g.obj (Rw.get (g.ts.getD n []) i)).set k' (Src.val (g.ts.getD n []) (a, b)))) = _
    rw [hi, obj_nat, hxy]
    simp
  rw [eS]
  simp only [List.map_cons, List.map_nil, hxy] at hA
  go_enter Try.func19, Try.ntmps19
  go_wp2_with (go_at_call 40; refine hA.mono ?_; rintro e w1 ⟨og, oc, v, hv, rfl, hb, hrow⟩; have hB := bt hB0 hb; have hg1 := hg.below hB; obtain ⟨q0, q1⟩ := hg1.field f hv hm hk; obtain ⟨vb, vc, rfl, -, hvc⟩ := vrow (vs := [(x, y)]) hrow (by simp); obtain ⟨z0, z1⟩ := hvc 0 (x, y) rfl; have hff := hg1.ofree hv; have RR := hg1.setO f hv hm hk x y; clear hvc hrow)
  go_ret
  exact ⟨rfl, RR.1, Step.after (Kept.of_below hB) ⟨RR.2, fun _ h => .inl h, rfl⟩⟩
theorem cWriteG {w : World} {L : Loc} {g : Gr} (hg : GAt w L g) (f : g.Fit) (t i k a b : Int) :
    Calls Try.prog 19 #[.pointer (some ⟨L.b, 0, none⟩), .int .i64 t, .int .i64 i, .int .i64 k, .agg #[.int .i64 a, .int .i64 b]] w fun e w' => e = .returned (.int .i64 (g.writeE t i k (a, b))) ∧ ∃ L', GAt w' L' (g.write t i k (a, b)) ∧ Step w L w' L' := by
  by_cases h : g.writeE t i k (a, b) = 0
  · have e : g.write t i k (a, b) = g.setF t i k (Src.val (g.rs t) (a, b)) := by simp [Gr.write, h]
    rw [e, h]
    refine (cWriteGood hg f t i k a b h).mono ?_
    rintro e w' ⟨rfl, hR, hS⟩
    exact ⟨rfl, L, hR, hS⟩
  · have e : g.write t i k (a, b) = g := by simp [Gr.write, h]
    rw [e]
    refine (cWriteBad hg f t i k a b _ rfl (by simpa using h) h).mono ?_
    rintro e w' ⟨rfl, hR⟩
    exact ⟨rfl, L, hg.below hR, Step.of_below hR⟩

theorem eqV (a b : Int × Int) (w : World) : (Op.equalIn 10000 37 (vv a) (vv b)).run Try.prog w = .ok (decide (a = b)) w := by
  have u3 := Try.underlying3
  have a3 := Try.isAgg3
  have z3 := Try.sizeOf3
  have hS : Try.prog.underlying 37 = some (.struct (Try.prog.fieldsOf 37)) := by kernel_rfl
  have hp : Try.prog.stoodInHeld 37 = false := by kernel_rfl
  rw [show (10000 : Nat) = 9999 + 1 from rfl, run_equalIn_agg w 9999 37 _ _ hS hp]
  simp only [Program.fieldsOf, Try.underlying37]
  obtain ⟨a1, a2⟩ := a
  obtain ⟨b1, b2⟩ := b
  go_simp
  by_cases h1 : a1 = b1 <;> by_cases h2 : a2 = b2 <;> simp [h1, h2]
theorem neqV (a b : Int × Int) (f : Bool) (h : decide (a = b) = f) (w : World) : (binOp .neq 37 (vv a) (vv b)).run Try.prog w = .ok (.bool (!f)) w := by
  rw [run_neq_struct, eqV, h]
  rfl
set_option maxRecDepth 100000 in
set_option maxHeartbeats 400000 in
theorem cSwapBad {w : World} {L : Loc} {g : Gr} (hg : GAt w L g) (f : g.Fit) (t i k a b c d : Int) (E : Int) (hE : g.swapE t i k (a, b) (c, d) = E) (hE0 : (E != 0) = true) (hE1 : ¬ E = 0) :
    Calls Try.prog 21 #[.pointer (some ⟨L.b, 0, none⟩), .int .i64 t, .int .i64 i, .int .i64 k, .agg #[.int .i64 a, .int .i64 b], .agg #[.int .i64 c, .int .i64 d]] w fun e w' => e = .returned (.tuple #[.bool false, .int .i64 E]) ∧ Below w.heap.size w w' := by
  have hA := cAccE (((hg.alloc (.cells #[.int .i64 a, .int .i64 b] 32)).alloc (.cells #[.int .i64 c, .int .i64 d] 32)).alloc (.cells #[.int .i64 a, .int .i64 b, .int .i64 c, .int .i64 d] 32)) f t i k (some ⟨w.heap.size + 1 + 1, 0, none⟩) 2 [(a, b), (c, d)] (srcs2 w a b c d) (by simp) (by unfold Gr.swapE at hE; rw [hE]; exact hE1)
  have hE' : g.acc t i k [(a, b), (c, d)] = E := hE
  rw [hE'] at hA
  have hB0 := bal (bal (bal (Below.refl w.heap.size w) (.cells #[.int .i64 a, .int .i64 b] 32)) (.cells #[.int .i64 c, .int .i64 d] 32)) (.cells #[.int .i64 a, .int .i64 b, .int .i64 c, .int .i64 d] 32)
  clear hE1
  go_enter Try.func21, Try.ntmps21
  go_wp2_with (go_at_call 40; refine hA.mono ?_; rintro e w1 ⟨rfl, hb⟩; have hB := bt hB0 hb)
  go_quiet (fail)
  go_wp2
  go_ret2
  exact ⟨rfl, bdr hB _⟩

set_option maxRecDepth 100000 in
set_option maxHeartbeats 400000 in
theorem cSwapNo {w : World} {L : Loc} {g : Gr} (hg : GAt w L g) (f : g.Fit) (t i k a b c d : Int) (hE : g.swapE t i k (a, b) (c, d) = 0) (hs : ¬ g.field t i k = Src.val (g.rs t) (a, b)) :
    Calls Try.prog 21 #[.pointer (some ⟨L.b, 0, none⟩), .int .i64 t, .int .i64 i, .int .i64 k, .agg #[.int .i64 a, .int .i64 b], .agg #[.int .i64 c, .int .i64 d]] w fun e w' => e = .returned (.tuple #[.bool false, .int .i64 0]) ∧ Below w.heap.size w w' := by
  obtain ⟨n, m, k', rfl, hn, e0, ha, hm, hi, rfl, hk⟩ := acc_good f hE
  have hA := cAccGood (((hg.alloc (.cells #[.int .i64 a, .int .i64 b] 32)).alloc (.cells #[.int .i64 c, .int .i64 d] 32)).alloc (.cells #[.int .i64 a, .int .i64 b, .int .i64 c, .int .i64 d] 32)) f n hn _ rfl i k' (some ⟨w.heap.size + 1 + 1, 0, none⟩) 2 [(a, b), (c, d)] (srcs2 w a b c d) (by simp) e0 ha m hm hi _ rfl hk
  have hB0 := bal (bal (bal (Below.refl w.heap.size w) (.cells #[.int .i64 a, .int .i64 b] 32)) (.cells #[.int .i64 c, .int .i64 d] 32)) (.cells #[.int .i64 a, .int .i64 b, .int .i64 c, .int .i64 d] 32)
  obtain ⟨x, y, hxy⟩ : ∃ x y, Src.val (g.ts.getD n []) (a, b) = (x, y) := ⟨_, _, rfl⟩
  obtain ⟨x2, y2, hxy2⟩ : ∃ x y, Src.val (g.ts.getD n []) (c, d) = (x, y) := ⟨_, _, rfl⟩
  have eF : g.field n i k' = (fk (g.os.getD m []) k', fn (g.os.getD m []) k') := by
    unfold Gr.field Gr.id
    show ((g.obj (Rw.get (g.ts.getD n []) i)).getD k' (0, 0)) = _
    rw [hi, obj_nat]
    rfl
  simp only [List.map_cons, List.map_nil, hxy, hxy2] at hA
  have hrs : Src.val (g.rs n) (a, b) = (x, y) := hxy
  rw [hrs, eF] at hs
  generalize hu : fk (g.os.getD m []) k' = u at hs
  generalize hu2 : fn (g.os.getD m []) k' = u2 at hs
  have hN := neqV (u, u2) (x, y) false (decide_eq_false hs)
  clear hs eF
  go_enter Try.func21, Try.ntmps21
  go_wp2_with (go_at_call 40; refine hA.mono ?_; rintro e w1 ⟨og, oc, v, hv, rfl, hb, hrow⟩; have hB := bt hB0 hb; have hg1 := hg.below hB; have hF := hg1.field f hv hm hk; rw [hu, hu2] at hF; obtain ⟨q0, q1⟩ := hF; obtain ⟨vb, vc, rfl, -, hvc⟩ := vrow (vs := [(x, y), (x2, y2)]) hrow (by simp); obtain ⟨z0, z1⟩ := hvc 0 (x, y) rfl; obtain ⟨z2, z3⟩ := hvc 1 (x2, y2) rfl; have hff := hg1.ofree hv; have RR := hg1.setO f hv hm hk x2 y2; clear hvc hrow)
  go_quiet (fail)
  go_wp2
  go_ret2
  exact ⟨rfl, bdr hB _⟩
set_option maxRecDepth 100000 in
set_option maxHeartbeats 400000 in
theorem cSwapYes {w : World} {L : Loc} {g : Gr} (hg : GAt w L g) (f : g.Fit) (t i k a b c d : Int) (hE : g.swapE t i k (a, b) (c, d) = 0) (hs : g.field t i k = Src.val (g.rs t) (a, b)) :
    Calls Try.prog 21 #[.pointer (some ⟨L.b, 0, none⟩), .int .i64 t, .int .i64 i, .int .i64 k, .agg #[.int .i64 a, .int .i64 b], .agg #[.int .i64 c, .int .i64 d]] w fun e w' => e = .returned (.tuple #[.bool true, .int .i64 0]) ∧ GAt w' L (g.setF t i k (Src.val (g.rs t) (c, d))) ∧ Step w L w' L := by
  obtain ⟨n, m, k', rfl, hn, e0, ha, hm, hi, rfl, hk⟩ := acc_good f hE
  have hA := cAccGood (((hg.alloc (.cells #[.int .i64 a, .int .i64 b] 32)).alloc (.cells #[.int .i64 c, .int .i64 d] 32)).alloc (.cells #[.int .i64 a, .int .i64 b, .int .i64 c, .int .i64 d] 32)) f n hn _ rfl i k' (some ⟨w.heap.size + 1 + 1, 0, none⟩) 2 [(a, b), (c, d)] (srcs2 w a b c d) (by simp) e0 ha m hm hi _ rfl hk
  have hB0 := bal (bal (bal (Below.refl w.heap.size w) (.cells #[.int .i64 a, .int .i64 b] 32)) (.cells #[.int .i64 c, .int .i64 d] 32)) (.cells #[.int .i64 a, .int .i64 b, .int .i64 c, .int .i64 d] 32)
  obtain ⟨x, y, hxy⟩ : ∃ x y, Src.val (g.ts.getD n []) (a, b) = (x, y) := ⟨_, _, rfl⟩
  obtain ⟨x2, y2, hxy2⟩ : ∃ x y, Src.val (g.ts.getD n []) (c, d) = (x, y) := ⟨_, _, rfl⟩
  have eF : g.field n i k' = (fk (g.os.getD m []) k', fn (g.os.getD m []) k') := by
    unfold Gr.field Gr.id
    show ((g.obj (Rw.get (g.ts.getD n []) i)).getD k' (0, 0)) = _
    rw [hi, obj_nat]
    rfl
  simp only [List.map_cons, List.map_nil, hxy, hxy2] at hA
  have hrs : Src.val (g.rs n) (a, b) = (x, y) := hxy
  have eS : g.setF n i k' (Src.val (g.rs n) (c, d)) = ⟨g.ts, g.os.set m ((g.os.getD m []).set k' (x2, y2))⟩ := by
    unfold Gr.setF Gr.id
    show Gr.mk g.ts (g.os.set (Rw.get (g.ts.getD n []) i - 1).toNat ((g.obj (Rw.get (g.ts.getD n []) i)).set k' (Src.val (g.ts.getD n []) (c, d)))) = _
    rw [hi, obj_nat, hxy2]
    simp
  rw [eS]
  rw [hrs, eF] at hs
  generalize hu : fk (g.os.getD m []) k' = u at hs
  generalize hu2 : fn (g.os.getD m []) k' = u2 at hs
  have hN := neqV (u, u2) (x, y) true (decide_eq_true hs)
  clear hs eF
  go_enter Try.func21, Try.ntmps21
  go_wp2_with (go_at_call 40; refine hA.mono ?_; rintro e w1 ⟨og, oc, v, hv, rfl, hb, hrow⟩; have hB := bt hB0 hb; have hg1 := hg.below hB; have hF := hg1.field f hv hm hk; rw [hu, hu2] at hF; obtain ⟨q0, q1⟩ := hF; obtain ⟨vb, vc, rfl, -, hvc⟩ := vrow (vs := [(x, y), (x2, y2)]) hrow (by simp); obtain ⟨z0, z1⟩ := hvc 0 (x, y) rfl; obtain ⟨z2, z3⟩ := hvc 1 (x2, y2) rfl; have hff := hg1.ofree hv; have RR := hg1.setO f hv hm hk x2 y2; clear hvc hrow)
  go_quiet (fail)
  go_wp2
  go_ret2
  exact ⟨rfl, RR.1.drewN _, Step.after (Kept.of_below hB) ⟨RR.2.trans (Kept.drewN _ _ _) fun _ h => .inl h, fun _ h => .inl h, rfl⟩⟩
theorem cSwapG {w : World} {L : Loc} {g : Gr} (hg : GAt w L g) (f : g.Fit) (t i k a b c d : Int) :
    Calls Try.prog 21 #[.pointer (some ⟨L.b, 0, none⟩), .int .i64 t, .int .i64 i, .int .i64 k, .agg #[.int .i64 a, .int .i64 b], .agg #[.int .i64 c, .int .i64 d]] w fun e w' => e = .returned (.tuple #[.bool (g.swapY t i k (a, b) (c, d)), .int .i64 (g.swapE t i k (a, b) (c, d))]) ∧ ∃ L', GAt w' L' (g.swap t i k (a, b) (c, d)) ∧ Step w L w' L' := by
  by_cases h : g.swapE t i k (a, b) (c, d) = 0
  · by_cases hs : g.field t i k = Src.val (g.rs t) (a, b)
    · have e : g.swapY t i k (a, b) (c, d) = true := by simp [Gr.swapY, h, hs]
      have e2 : g.swap t i k (a, b) (c, d) = g.setF t i k (Src.val (g.rs t) (c, d)) := by simp [Gr.swap, e]
      rw [e, e2, h]
      refine (cSwapYes hg f t i k a b c d h hs).mono ?_
      rintro e w' ⟨rfl, hR, hS⟩
      exact ⟨rfl, L, hR, hS⟩
    · have e : g.swapY t i k (a, b) (c, d) = false := by simp [Gr.swapY, hs]
      have e2 : g.swap t i k (a, b) (c, d) = g := by simp [Gr.swap, e]
      rw [e, e2, h]
      refine (cSwapNo hg f t i k a b c d h hs).mono ?_
      rintro e w' ⟨rfl, hR⟩
      exact ⟨rfl, L, hg.below hR, Step.of_below hR⟩
  · have e : g.swapY t i k (a, b) (c, d) = false := by simp [Gr.swapY, h]
    have e2 : g.swap t i k (a, b) (c, d) = g := by simp [Gr.swap, e]
    rw [e, e2]
    refine (cSwapBad hg f t i k a b c d _ rfl (by simpa using h) h).mono ?_
    rintro e w' ⟨rfl, hR⟩
    exact ⟨rfl, L, hg.below hR, Step.of_below hR⟩
end Go.Proofs.Ytbihdkdefopijaa
