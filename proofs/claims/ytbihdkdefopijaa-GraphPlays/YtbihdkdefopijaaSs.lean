/-
  Contract of Shape.
-/
import Derived.Test.YtbihdkdefopijaaSt
namespace Go.Proofs.Ytbihdkdefopijaa
set_option linter.unusedVariables false
set_option linter.unusedSimpArgs false
open Go.ChangeShapes Go.WideShapes Go.ChangeAt Go.RowKit Go.Maps

/-- a store into a map that the call has made, as it is laid out -/
theorem wpList_insert_own {H : Type} {P : Program} (w : World) {ops : Array Oper} {rest : List Oper} {o : Oper} {a : Act} {Q : Exit → Act → World → Prop}
    (hg : o.guard = none) (m x v : Operand) (t : TypeId) (hop : o.op = Op.insert t m x v)
    (k e : TypeId) (K : Keyed P k) (ht : P.underlying t = some (.map k e)) (R : Value → Option (DataW H × List MemPlace)) (b n : Nat) (D : DataW H)
    (hm : a.eval m = .map (some b)) (hown : w.ownsMap P k R b n D) (hn : n < maxLen) (key val : Value) (kl : Lit) (hx : a.eval x = key) (hv : a.eval v = val) (hkey : keyOf P k key = some kl)
    (d : DataW H) (ps : List MemPlace) (hval : R val = some (d, ps))
    (hK : ∀ w', w'.ownsMap P k R b (n + 1) (D.put kl d) → w.grownBy w' (some b) → wpList P ops Q rest (a.put o.dst undef) w') :
    wpList P ops Q (o :: rest) a w := by
  refine wpList_plain hg fun K' hK' => ?_
  obtain ⟨w', hrun, r1, r2⟩ := hown.update K ht hn hkey hval
  unfold Oper.wp
  simp [execOp, hop, hm, hx, hv, hrun, Result.andThen]
  exact hK' _ _ (hK w' r1 r2)

theorem sv_start {w w1 : World} {L : Loc} {g : Gr} (hg : GAt w L g) (hB : Below w.heap.size w w1) (hown : w1.ownsMap (H := Unit) Try.prog 3 (plainElem Try.prog 3) (w.heap.size + 1) (0 + 1) ((DataW.map []).put (.int .i64 0) (.lit (.int .i64 0)))) (hgr : ((w.alloc (.cells #[.slice none 0 0, .slice none 0 0] 50)).alloc (.map #[] 0)).grownBy w1 (some (w.heap.size + 1))) :
    Sv w (((w1.alloc (.cells #[.map (some (w.heap.size + 1))] 86)).alloc (.cells #[.slice none 0 0] 53)).alloc (.cells #[.slice none 0 0, .slice none 0 0] 50)) w.heap.size w1.heap.size (w1.heap.size + 1) (w1.heap.size + 1 + 1) ⟨w1.heap.size, w1.heap.size + 1, w.heap.size + 1, .slice none 0 0⟩ (.slice none 0 0) (.slice none 0 0) [] [] [] := by
  have hlt := hown.lt
  have hr : w1.heap[w.heap.size]? = some (.cells #[.slice none 0 0, .slice none 0 0] 50 (0, 0)) := by
    rw [hgr.block w.heap.size (by simp; omega) (by simp), Below.heap_alloc _ _ _ (by simp)]
    exact heap_alloc_new w _
  have h1 := heap_alloc_new w1 (.cells #[.map (some (w.heap.size + 1))] 86)
  have h2 := heap_alloc_new (w1.alloc (.cells #[.map (some (w.heap.size + 1))] 86)) (.cells #[.slice none 0 0] 53)
  have h3 := heap_alloc_new ((w1.alloc (.cells #[.map (some (w.heap.size + 1))] 86)).alloc (.cells #[.slice none 0 0] 53)) (.cells #[.slice none 0 0, .slice none 0 0] 50)
  simp only [World.size_alloc] at h2 h3
  have fp : ∀ k, k ∈ (⟨w1.heap.size, w1.heap.size + 1, w.heap.size + 1, .slice none 0 0⟩ : Mt).fp ↔ k = w1.heap.size ∨ k = w1.heap.size + 1 ∨ k = w.heap.size + 1 := fun k => by simp [Mt.fp, Value.ownBlock]
  refine ⟨rfl, rfl, ⟨?_, ?_, World.ownsRow_nil _ _ _ _, ⟨_, ((hown.alloc _).alloc _).alloc _, Nums.start⟩⟩, fun k hk => ?_, h3, ?_, by omega, ?_, ?_, Nat.le_refl _, by omega, RowR.nil _ _ _ _ _, RowR.nil _ _ _ _ _, bal (bal (bal hB _) _) _⟩
  · exact ((Below.heap_alloc _ _ _ (by simp; omega)).trans (Below.heap_alloc _ _ _ (by simp))).trans h1
  · exact (Below.heap_alloc _ _ _ (by simp)).trans h2
  · rw [fp] at hk; omega
  · rw [fp]; omega
  · exact ((Below.heap_alloc _ _ _ (by simp; omega)).trans ((Below.heap_alloc _ _ _ (by simp; omega)).trans (Below.heap_alloc _ _ _ (by omega)))).trans hr
  · rw [fp]; omega
theorem sv_end {w0 wr : World} {R0 nb mb sb : Nat} {C : Mt} {vr vl : Value} {m : List Int} {rr : List (List Int)} {ll : List (List (Int × Int))} (h : Sv w0 wr R0 nb mb sb C vr vl m rr ll) :
    Below w0.heap.size w0 ((wr.setCell ⟨R0, 0, none⟩ vr).setCell ⟨R0, 1, none⟩ vl) ∧ RowsI ((wr.setCell ⟨R0, 0, none⟩ vr).setCell ⟨R0, 1, none⟩ vl) vr rr (fun k => w0.heap.size ≤ k) ∧ RowsV ((wr.setCell ⟨R0, 0, none⟩ vr).setCell ⟨R0, 1, none⟩ vl) vl ll (fun k => w0.heap.size ≤ k) := by
  have K : Kept [R0] wr ((wr.setCell ⟨R0, 0, none⟩ vr).setCell ⟨R0, 1, none⟩ vl) := (Kept.setCell [R0] wr _ _ (by simp)).trans (Kept.setCell [R0] _ _ _ (by simp)) fun _ hk => .inl hk
  have ne : ∀ (k : Nat) (cs : Array Value) (T : TypeId), wr.heap[k]? = some (.cells cs T (0, 0)) → T ≠ 50 → ((wr.setCell ⟨R0, 0, none⟩ vr).setCell ⟨R0, 1, none⟩ vl).heap[k]? = wr.heap[k]? := fun k cs T hk hT => K.block k (lt_of_block hk) fun e => by
    simp at e
    subst e
    have := h.r
    rw [hk] at this
    simp at this
    exact hT this.2
  exact ⟨(h.bel.setCell h.r0 _).setCell h.r0 _, h.ri.on fun k cs T' hb hT hp => ⟨ne k cs T' hb (by rcases hT with rfl | rfl <;> decide), hp.2⟩, h.rv.on fun k cs T' hb hT hp => ⟨ne k cs T' hb (by rcases hT with rfl | rfl <;> decide), hp.2⟩⟩
set_option maxRecDepth 100000 in
set_option maxHeartbeats 1600000 in
theorem cShape {w : World} {L : Loc} {g : Gr} (hg : GAt w L g) (f : g.Fit) :
    Calls Try.prog 31 #[.pointer (some ⟨L.b, 0, none⟩)] w fun e w' => ∃ vr vl, e = .returned (.agg #[vr, vl]) ∧ Below w.heap.size w w' ∧ RowsI w' vr (Sh.roots g) (fun k => w.heap.size ≤ k) ∧ RowsV w' vl (Sh.objs g) (fun k => w.heap.size ≤ k) := by
  have hmm := @run_makeMap Try.prog
  have hkey0 : keyOf Try.prog 3 (.int .i64 0) = some (.int .i64 0) := keyOf_int_mk Try.underlying3 (by decide)
  have hown0 := World.ownsMap_made (H := Unit) (w.alloc (.cells #[.slice none 0 0, .slice none 0 0] 50)) Try.prog 3 (plainElem Try.prog 3)
  rw [World.size_alloc] at hown0
  obtain ⟨ii, hi, hz0, hz1, hz2⟩ := info_parts infoIs
  obtain ⟨iv, hi', hz0', hz1', hz2'⟩ := info_parts infoVs
  have c0 := hg.cell0
  have t64 := f.t64
  have ob := f.ob
  have hlb : L.b < w.heap.size := lt_of_block hg.blk
  go_enter Try.func31, Try.ntmps31
  go_wp2_with (first
    | (refine wpList_insert_own _ rfl _ _ _ 86 rfl 3 3 law3 Try.underlying86 _ (w.heap.size + 1) 0 _ rfl hown0 (by decide) _ _ _ rfl rfl hkey0 _ [] (plainElem_int Try.underlying3 (by decide)) ?_; intro w1 hown1 hg1; have hB1 : Below w.heap.size w w1 := (((Below.refl w.heap.size w).alloc (Nat.le_refl _) (.cells #[.slice none 0 0, .slice none 0 0] 50)).alloc (by simp) (.map #[] 0)).grown hg1 (by simp; omega) (fun k hk => by simp at hk; omega); have q0 := (hg.below (bal (bal (bal hB1 (.cells #[.map (some (w.heap.size + 1))] 86)) (.cells #[.slice none 0 0] 53)) (.cells #[.slice none 0 0, .slice none 0 0] 50))).cell0; have sz1 : w.heap.size + 1 < w1.heap.size := hown1.lt))
  have hV0 := sv_start hg hB1 hown1 hg1
  obtain ⟨n1, hn1⟩ : ∃ n, n = w1.heap.size := ⟨_, rfl⟩
  rw [← hn1] at hV0 ⊢
  have hmk : ∀ k, k < g.ts.length → g.ts.getD k [] ∈ g.ts := fun k hk => by rw [List.getD_eq_getElem?_getD, List.getElem?_eq_getElem hk]; exact List.getElem_mem _
  clear hown1 hg1 hown0 hkey0 hmm hB1 sz1 hn1
  go_loopw [18] (fun i wr => ∃ (k : Nat) (C : Mt) (vr : Value), k ≤ g.ts.length ∧ i = .int .i64 k ∧ Sv w wr w.heap.size n1 (n1 + 1) (n1 + 1 + 1) C vr (.slice none 0 0) (Sh.rruns [] (g.ts.take k)).1 (Sh.rruns [] (g.ts.take k)).2 []) (fun i _ => g.ts.length - (intOf i).toNat)
  case atStart => exact ⟨0, _, _, Nat.zero_le _, rfl, hV0⟩
  case round =>
    obtain ⟨k, C, vr, hk, rfl, hV⟩ := hrel
    obtain ⟨wo, rfl⟩ : ∃ wo : World, wo = wr := ⟨_, rfl⟩
    by_cases hlt : k < g.ts.length
    case pos =>
      obtain ⟨d0, d1, d2, d3, d4, d5, d6, d7, d8⟩ := (hg.below hV.bel).t9 k hlt
      have h8 := f.r8 _ (hmk k hlt)
      have hid := f.rid _ (hmk k hlt)
      have okk := Sh.Ok.rruns (N := g.os.length) (g.ts.take k) (Sh.Ok.nil _) fun r hr => f.rid r (List.mem_of_mem_take hr)
      have hT := take_next ([] : List Int) hlt
      have e2 := Sh.rruns_snoc (g.ts.take k) (g.ts.getD k []) []
      rw [← hT] at e2
      have hrl : (Sh.rruns [] (g.ts.take k)).2.length = k := by rw [Sh.rruns_len, List.length_take, Nat.min_eq_left hk]
      generalize hrr : g.ts.getD k [] = r at d0 d1 d2 d3 d4 d5 d6 d7 d8 h8 hid e2
      have hV1 := (hV.alloc (.cells #[.int .i64 r.length, .int .i64 (rl r 0), .int .i64 (rl r 1), .int .i64 (rl r 2), .int .i64 (rl r 3), .int .i64 (rl r 4), .int .i64 (rl r 5), .int .i64 (rl r 6), .int .i64 (rl r 7)] 72)).drew
      have hC := cRoots hV1.met okk ob r h8 hid
      rw [hV.nb, hV.mb] at hC
      have q1 := hV.cell0
      have l1 := lt_of_block hV.s
      have k0 : (0 : Int) ≤ (k : Int) := by omega
      have kl : (k : Int) < (g.ts.length : Int) := by omega
      go_wp2
      refine wp_region_held_drew (S := fun w' => True) (by kernel_rfl) trivial (fun hHeld => ?_)
      refine takeH (i := 0) 22 (.pointer (some ⟨n1 + 1 + 1, 0, none⟩)) rfl rfl (by kernel_rfl) (by kernel_rfl) (by kernel_rfl) (fun _ _ _ h => h) (by rfl) ?_ (by assumption) ?_
      · intro w hSw; (try dsimp only at hSw); go_simp
      simp only [List.setIfInBounds_toArray, List.set_cons_zero, List.set_cons_succ]
      refine takeH (i := 3) 25 (mfun n1 (n1 + 1)) rfl rfl (by kernel_rfl) (by kernel_rfl) (by kernel_rfl) (fun _ _ _ h => h) (by rfl) ?_ (by assumption) ?_
      · intro w hSw; (try dsimp only at hSw); go_simp
      simp only [List.setIfInBounds_toArray, List.set_cons_zero, List.set_cons_succ]
      refine wpAnyH_ready (rs := [1, 2]) (by kernel_rfl) (by simp) ?_
      refine AllReadyH.cons rfl (fun K hK => ?_) (AllReadyH.cons rfl (fun K hK => ?_) AllReadyH.nil)
      · go_simp
        refine hK.out _ _ trivial (fun hHeld => ?_)
        clear hK K
        try simp only [Act.put, List.setIfInBounds_toArray, List.set_cons_zero, List.set_cons_succ]
        refine wpAnyH_ready (rs := [2]) (by kernel_rfl) (by simp) ?_
        refine AllReadyH.cons rfl (fun K hK => ?_) AllReadyH.nil
        go_simp
        refine hK.out _ _ trivial (fun hHeld => ?_)
        clear hK K
        try simp only [Act.put, List.setIfInBounds_toArray, List.set_cons_zero, List.set_cons_succ]
        refine wpAnyH_ready (rs := [4]) (by kernel_rfl) (by simp) ?_
        refine AllReadyH.cons rfl (fun K hK => ?_) AllReadyH.nil
        go_simp
        refine hC.mono ?_; rintro e w2 ⟨gg, C2, rfl, hM2, hS2, hrow2, hgn0, hgC⟩; have hgn : w.heap.size ≤ gg := Nat.le_trans hV1.bel.size hgn0; have V2 := hV1.step hM2 hS2; have q2 := V2.cell0; have l2 := lt_of_block V2.s; obtain ⟨-, vs, -, hvs, -⟩ := id V2.ri; simp only [List.length_map, hrl] at hvs
        refine hK.out _ _ trivial (fun hHeld => ?_)
        clear hK K
        try simp only [Act.put, List.setIfInBounds_toArray, List.set_cons_zero, List.set_cons_succ]
        refine wpAnyH_ready (rs := [5]) (by kernel_rfl) (by simp) ?_
        refine AllReadyH.cons rfl (fun K hK => ?_) AllReadyH.nil
        go_simp
        refine hK.out _ _ trivial (fun hHeld => ?_)
        clear hK K
        try simp only [Act.put, List.setIfInBounds_toArray, List.set_cons_zero, List.set_cons_succ]
        refine wpAnyH_ready (rs := [6]) (by kernel_rfl) (by simp) ?_
        refine AllReadyH.cons rfl (fun K hK => ?_) AllReadyH.nil
        refine step_append_mine 28 rfl rfl _ _ 47 rfl 53 ii _ 1 24 Try.underlying47 hi hz0 hz1 hz2 rfl (by decide) vr _ vs rfl (hvs.alloc _) ⟨w2.heap.size, 0, none⟩ 1 1 [.slice (some ⟨gg, 0, none⟩) r.length r.length] rfl rfl (new1 _ _ rfl _ _) (by intro u hu; simp at hu; rw [hu]; rfl) (by unfold maxLen; omega) (by omega) (by decide) ?_
        intro g2 cp w3 hown3 hgr3 hnew3
        have R := (V2.alloc (.cells #[.slice (some ⟨gg, 0, none⟩) r.length r.length] 53)).addI (row := (Sh.meets (Sh.rruns [] (g.ts.take k)).1 r).2) (u := .slice (some ⟨gg, 0, none⟩) r.length r.length) (by rw [Sh.meets_len]; exact hrow2.alloc _) (fun j hj => by simp [Value.ownBlock] at hj; subst hj; exact ⟨hgC, hgn⟩) (vs := vs) (by rw [hrl]; exact hvs.alloc _) (by rw [hrl]; exact hown3) hgr3 hnew3
        obtain ⟨R1, c3, f3⟩ := R
        rw [hrl] at R1
        refine hK.out _ _ trivial (fun hHeld => ?_)
        clear hK K
        try simp only [Act.put, List.setIfInBounds_toArray, List.set_cons_zero, List.set_cons_succ]
        refine takeH (i := 7) 29 (.pointer (some ⟨n1 + 1 + 1, 0, none⟩)) rfl rfl (by kernel_rfl) (by kernel_rfl) (by kernel_rfl) (fun _ _ _ h => h) (by rfl) ?_ (by assumption) ?_
        · intro w hSw; (try dsimp only at hSw); go_simp
        simp only [List.setIfInBounds_toArray, List.set_cons_zero, List.set_cons_succ]
        refine wpAnyH_ready (rs := [8]) (by kernel_rfl) (by simp) ?_
        refine AllReadyH.cons rfl (fun K hK => ?_) AllReadyH.nil
        go_simp
        refine hK.out _ _ trivial (fun hHeld => ?_)
        clear hK K
        try simp only [Act.put, List.setIfInBounds_toArray, List.set_cons_zero, List.set_cons_succ]
        refine wpAnyH_done (by kernel_rfl) ?_ _
        go_wp2
        go_roundw
        case rel => exact ⟨k + 1, C2, _, by omega, by go_num, by rw [e2]; exact R1⟩
        case measure => simp [intOf]; omega
      · go_simp
        refine hK.out _ _ trivial (fun hHeld => ?_)
        clear hK K
        try simp only [Act.put, List.setIfInBounds_toArray, List.set_cons_zero, List.set_cons_succ]
        refine wpAnyH_ready (rs := [1, 4]) (by kernel_rfl) (by simp) ?_
        refine AllReadyH.cons rfl (fun K hK => ?_) (AllReadyH.cons rfl (fun K hK => ?_) AllReadyH.nil)
        · go_simp
          refine hK.out _ _ trivial (fun hHeld => ?_)
          clear hK K
          try simp only [Act.put, List.setIfInBounds_toArray, List.set_cons_zero, List.set_cons_succ]
          refine wpAnyH_ready (rs := [4]) (by kernel_rfl) (by simp) ?_
          refine AllReadyH.cons rfl (fun K hK => ?_) AllReadyH.nil
          go_simp
          refine hC.mono ?_; rintro e w2 ⟨gg, C2, rfl, hM2, hS2, hrow2, hgn0, hgC⟩; have hgn : w.heap.size ≤ gg := Nat.le_trans hV1.bel.size hgn0; have V2 := hV1.step hM2 hS2; have q2 := V2.cell0; have l2 := lt_of_block V2.s; obtain ⟨-, vs, -, hvs, -⟩ := id V2.ri; simp only [List.length_map, hrl] at hvs
          refine hK.out _ _ trivial (fun hHeld => ?_)
          clear hK K
          try simp only [Act.put, List.setIfInBounds_toArray, List.set_cons_zero, List.set_cons_succ]
          refine wpAnyH_ready (rs := [5]) (by kernel_rfl) (by simp) ?_
          refine AllReadyH.cons rfl (fun K hK => ?_) AllReadyH.nil
          go_simp
          refine hK.out _ _ trivial (fun hHeld => ?_)
          clear hK K
          try simp only [Act.put, List.setIfInBounds_toArray, List.set_cons_zero, List.set_cons_succ]
          refine wpAnyH_ready (rs := [6]) (by kernel_rfl) (by simp) ?_
          refine AllReadyH.cons rfl (fun K hK => ?_) AllReadyH.nil
          refine step_append_mine 28 rfl rfl _ _ 47 rfl 53 ii _ 1 24 Try.underlying47 hi hz0 hz1 hz2 rfl (by decide) vr _ vs rfl (hvs.alloc _) ⟨w2.heap.size, 0, none⟩ 1 1 [.slice (some ⟨gg, 0, none⟩) r.length r.length] rfl rfl (new1 _ _ rfl _ _) (by intro u hu; simp at hu; rw [hu]; rfl) (by unfold maxLen; omega) (by omega) (by decide) ?_
          intro g2 cp w3 hown3 hgr3 hnew3
          have R := (V2.alloc (.cells #[.slice (some ⟨gg, 0, none⟩) r.length r.length] 53)).addI (row := (Sh.meets (Sh.rruns [] (g.ts.take k)).1 r).2) (u := .slice (some ⟨gg, 0, none⟩) r.length r.length) (by rw [Sh.meets_len]; exact hrow2.alloc _) (fun j hj => by simp [Value.ownBlock] at hj; subst hj; exact ⟨hgC, hgn⟩) (vs := vs) (by rw [hrl]; exact hvs.alloc _) (by rw [hrl]; exact hown3) hgr3 hnew3
          obtain ⟨R1, c3, f3⟩ := R
          rw [hrl] at R1
          refine hK.out _ _ trivial (fun hHeld => ?_)
          clear hK K
          try simp only [Act.put, List.setIfInBounds_toArray, List.set_cons_zero, List.set_cons_succ]
          refine takeH (i := 7) 29 (.pointer (some ⟨n1 + 1 + 1, 0, none⟩)) rfl rfl (by kernel_rfl) (by kernel_rfl) (by kernel_rfl) (fun _ _ _ h => h) (by rfl) ?_ (by assumption) ?_
          · intro w hSw; (try dsimp only at hSw); go_simp
          simp only [List.setIfInBounds_toArray, List.set_cons_zero, List.set_cons_succ]
          refine wpAnyH_ready (rs := [8]) (by kernel_rfl) (by simp) ?_
          refine AllReadyH.cons rfl (fun K hK => ?_) AllReadyH.nil
          go_simp
          refine hK.out _ _ trivial (fun hHeld => ?_)
          clear hK K
          try simp only [Act.put, List.setIfInBounds_toArray, List.set_cons_zero, List.set_cons_succ]
          refine wpAnyH_done (by kernel_rfl) ?_ _
          go_wp2
          go_roundw
          case rel => exact ⟨k + 1, C2, _, by omega, by go_num, by rw [e2]; exact R1⟩
          case measure => simp [intOf]; omega
        · go_simp
          refine hC.mono ?_; rintro e w2 ⟨gg, C2, rfl, hM2, hS2, hrow2, hgn0, hgC⟩; have hgn : w.heap.size ≤ gg := Nat.le_trans hV1.bel.size hgn0; have V2 := hV1.step hM2 hS2; have q2 := V2.cell0; have l2 := lt_of_block V2.s; obtain ⟨-, vs, -, hvs, -⟩ := id V2.ri; simp only [List.length_map, hrl] at hvs
          refine hK.out _ _ trivial (fun hHeld => ?_)
          clear hK K
          try simp only [Act.put, List.setIfInBounds_toArray, List.set_cons_zero, List.set_cons_succ]
          refine wpAnyH_ready (rs := [1, 5]) (by kernel_rfl) (by simp) ?_
          refine AllReadyH.cons rfl (fun K hK => ?_) (AllReadyH.cons rfl (fun K hK => ?_) AllReadyH.nil)
          · go_simp
            refine hK.out _ _ trivial (fun hHeld => ?_)
            clear hK K
            try simp only [Act.put, List.setIfInBounds_toArray, List.set_cons_zero, List.set_cons_succ]
            refine wpAnyH_ready (rs := [5]) (by kernel_rfl) (by simp) ?_
            refine AllReadyH.cons rfl (fun K hK => ?_) AllReadyH.nil
            go_simp
            refine hK.out _ _ trivial (fun hHeld => ?_)
            clear hK K
            try simp only [Act.put, List.setIfInBounds_toArray, List.set_cons_zero, List.set_cons_succ]
            refine wpAnyH_ready (rs := [6]) (by kernel_rfl) (by simp) ?_
            refine AllReadyH.cons rfl (fun K hK => ?_) AllReadyH.nil
            refine step_append_mine 28 rfl rfl _ _ 47 rfl 53 ii _ 1 24 Try.underlying47 hi hz0 hz1 hz2 rfl (by decide) vr _ vs rfl (hvs.alloc _) ⟨w2.heap.size, 0, none⟩ 1 1 [.slice (some ⟨gg, 0, none⟩) r.length r.length] rfl rfl (new1 _ _ rfl _ _) (by intro u hu; simp at hu; rw [hu]; rfl) (by unfold maxLen; omega) (by omega) (by decide) ?_
            intro g2 cp w3 hown3 hgr3 hnew3
            have R := (V2.alloc (.cells #[.slice (some ⟨gg, 0, none⟩) r.length r.length] 53)).addI (row := (Sh.meets (Sh.rruns [] (g.ts.take k)).1 r).2) (u := .slice (some ⟨gg, 0, none⟩) r.length r.length) (by rw [Sh.meets_len]; exact hrow2.alloc _) (fun j hj => by simp [Value.ownBlock] at hj; subst hj; exact ⟨hgC, hgn⟩) (vs := vs) (by rw [hrl]; exact hvs.alloc _) (by rw [hrl]; exact hown3) hgr3 hnew3
            obtain ⟨R1, c3, f3⟩ := R
            rw [hrl] at R1
            refine hK.out _ _ trivial (fun hHeld => ?_)
            clear hK K
            try simp only [Act.put, List.setIfInBounds_toArray, List.set_cons_zero, List.set_cons_succ]
            refine takeH (i := 7) 29 (.pointer (some ⟨n1 + 1 + 1, 0, none⟩)) rfl rfl (by kernel_rfl) (by kernel_rfl) (by kernel_rfl) (fun _ _ _ h => h) (by rfl) ?_ (by assumption) ?_
            · intro w hSw; (try dsimp only at hSw); go_simp
            simp only [List.setIfInBounds_toArray, List.set_cons_zero, List.set_cons_succ]
            refine wpAnyH_ready (rs := [8]) (by kernel_rfl) (by simp) ?_
            refine AllReadyH.cons rfl (fun K hK => ?_) AllReadyH.nil
            go_simp
            refine hK.out _ _ trivial (fun hHeld => ?_)
            clear hK K
            try simp only [Act.put, List.setIfInBounds_toArray, List.set_cons_zero, List.set_cons_succ]
            refine wpAnyH_done (by kernel_rfl) ?_ _
            go_wp2
            go_roundw
            case rel => exact ⟨k + 1, C2, _, by omega, by go_num, by rw [e2]; exact R1⟩
            case measure => simp [intOf]; omega
          · go_simp
            refine hK.out _ _ trivial (fun hHeld => ?_)
            clear hK K
            try simp only [Act.put, List.setIfInBounds_toArray, List.set_cons_zero, List.set_cons_succ]
            refine wpAnyH_ready (rs := [1]) (by kernel_rfl) (by simp) ?_
            refine AllReadyH.cons rfl (fun K hK => ?_) AllReadyH.nil
            go_simp
            refine hK.out _ _ trivial (fun hHeld => ?_)
            clear hK K
            try simp only [Act.put, List.setIfInBounds_toArray, List.set_cons_zero, List.set_cons_succ]
            refine wpAnyH_ready (rs := [6]) (by kernel_rfl) (by simp) ?_
            refine AllReadyH.cons rfl (fun K hK => ?_) AllReadyH.nil
            refine step_append_mine 28 rfl rfl _ _ 47 rfl 53 ii _ 1 24 Try.underlying47 hi hz0 hz1 hz2 rfl (by decide) vr _ vs rfl (hvs.alloc _) ⟨w2.heap.size, 0, none⟩ 1 1 [.slice (some ⟨gg, 0, none⟩) r.length r.length] rfl rfl (new1 _ _ rfl _ _) (by intro u hu; simp at hu; rw [hu]; rfl) (by unfold maxLen; omega) (by omega) (by decide) ?_
            intro g2 cp w3 hown3 hgr3 hnew3
            have R := (V2.alloc (.cells #[.slice (some ⟨gg, 0, none⟩) r.length r.length] 53)).addI (row := (Sh.meets (Sh.rruns [] (g.ts.take k)).1 r).2) (u := .slice (some ⟨gg, 0, none⟩) r.length r.length) (by rw [Sh.meets_len]; exact hrow2.alloc _) (fun j hj => by simp [Value.ownBlock] at hj; subst hj; exact ⟨hgC, hgn⟩) (vs := vs) (by rw [hrl]; exact hvs.alloc _) (by rw [hrl]; exact hown3) hgr3 hnew3
            obtain ⟨R1, c3, f3⟩ := R
            rw [hrl] at R1
            refine hK.out _ _ trivial (fun hHeld => ?_)
            clear hK K
            try simp only [Act.put, List.setIfInBounds_toArray, List.set_cons_zero, List.set_cons_succ]
            refine takeH (i := 7) 29 (.pointer (some ⟨n1 + 1 + 1, 0, none⟩)) rfl rfl (by kernel_rfl) (by kernel_rfl) (by kernel_rfl) (fun _ _ _ h => h) (by rfl) ?_ (by assumption) ?_
            · intro w hSw; (try dsimp only at hSw); go_simp
            simp only [List.setIfInBounds_toArray, List.set_cons_zero, List.set_cons_succ]
            refine wpAnyH_ready (rs := [8]) (by kernel_rfl) (by simp) ?_
            refine AllReadyH.cons rfl (fun K hK => ?_) AllReadyH.nil
            go_simp
            refine hK.out _ _ trivial (fun hHeld => ?_)
            clear hK K
            try simp only [Act.put, List.setIfInBounds_toArray, List.set_cons_zero, List.set_cons_succ]
            refine wpAnyH_done (by kernel_rfl) ?_ _
            go_wp2
            go_roundw
            case rel => exact ⟨k + 1, C2, _, by omega, by go_num, by rw [e2]; exact R1⟩
            case measure => simp [intOf]; omega
    case neg =>
      rw [List.take_of_length_le (by omega)] at hV
      have okk := Sh.Ok.rruns (N := g.os.length) g.ts (Sh.Ok.nil _) fun r hr => f.rid r hr
      clear hV0
      go_wp2
      go_loopw [9] (fun i wr => ∃ (k : Nat) (C : Mt) (vr vl : Value) (m : List Int) (ll : List (List (Int × Int))), k ≤ m.length ∧ i = .int .i64 k ∧ Sv w wr w.heap.size n1 (n1 + 1) (n1 + 1 + 1) C vr vl m (Sh.roots g) ll ∧ Sh.Ok g.os.length m ∧ ll.length = k ∧ Sh.objs g = ll ++ (Sh.lrun g.os (g.os.length + 1 - k) k m).2) (fun i _ => g.os.length - (intOf i).toNat)
      case atStart => exact ⟨0, C, vr, .slice none 0 0, _, [], Nat.zero_le _, rfl, hV, okk, rfl, rfl⟩
      case round =>
        clear hV okk
        obtain ⟨k, C, vr, vl, m, ll, hk, rfl, hV, okk, hll, he⟩ := hrel
        obtain ⟨wp, rfl⟩ : ∃ wp : World, wp = wr := ⟨_, rfl⟩
        have hml := okk.len
        have qm := hV.met.cellM
        rw [hV.mb] at qm
        by_cases hlt : k < m.length
        case pos =>
          obtain ⟨ao, mc, hsl⟩ := hV.met.slice
          obtain ⟨mr, rfl⟩ : ∃ mr, ao = some ⟨mr, 0, none⟩ := by
            rcases hV.met.row.2 with ⟨_, h0⟩ | ⟨mr, _, _, h1, _⟩
            · omega
            · rw [hsl] at h1; simp at h1; exact ⟨mr, h1.1⟩
          have hrow := hV.met.row
          rw [hsl] at hrow qm
          have hmr := (hrow.lt mr rfl).2
          have hmk := hrow.cellAt k (by omega)
          rw [ints_at m k hlt] at hmk
          have hin := okk.inn (m.getD k 0) (by rw [List.getD_eq_getElem?_getD, List.getElem?_eq_getElem hlt]; exact List.getElem_mem _)
          obtain ⟨idx, hidx⟩ : ∃ idx : Nat, m.getD k 0 = (idx : Int) + 1 := ⟨(m.getD k 0 - 1).toNat, by omega⟩
          rw [hidx] at hin hmk
          have hil : idx < g.os.length := by omega
          obtain ⟨og, oc, hvo⟩ := hg.oslice (by omega)
          have ho : Sh.kth g.os m k = g.os.getD idx [] := by unfold Sh.kth; rw [hidx]; simp
          have hfit := Sh.kth_fit f m k
          have e3 : Sh.lrun g.os (g.os.length + 1 - k) k m = ((Sh.lrun g.os (g.os.length + 1 - (k + 1)) (k + 1) (Sh.fmeets m (Sh.kth g.os m k)).1).1, (Sh.fmeets m (Sh.kth g.os m k)).2 :: (Sh.lrun g.os (g.os.length + 1 - (k + 1)) (k + 1) (Sh.fmeets m (Sh.kth g.os m k)).1).2) := by
            rw [show g.os.length + 1 - k = (g.os.length + 1 - (k + 1)) + 1 by omega]
            simp only [Sh.lrun, hlt, if_true]
          rw [ho] at hfit e3
          have ocell := fun u hb => (hg.below (w' := u) hb).ocell hvo idx hil
          generalize hoo : g.os.getD idx [] = o at hfit e3 ocell
          have ok2 := Sh.Ok.fmeets o okk hfit.1
          have e5 : Sh.objs g = (ll ++ [(Sh.fmeets m o).2]) ++ (Sh.lrun g.os (g.os.length + 1 - (k + 1)) (k + 1) (Sh.fmeets m o).1).2 := by rw [he, e3]; simp
          have hgrow : k + 1 ≤ (Sh.fmeets m o).1.length := Nat.le_trans hlt (Sh.fmeets_grow o m)
          have keepS : ∀ u, Below w.heap.size w u → u.cell? ⟨L.b, 1, none⟩ = some (.slice (some ⟨og, 0, none⟩) g.os.length oc) ∧ u.cell? ⟨og, idx * 15, none⟩ = some (.int .i64 o.length) ∧ u.cell? ⟨og, idx * 15 + 1, none⟩ = some (.int .i64 (fk o 0)) ∧ u.cell? ⟨og, idx * 15 + 2, none⟩ = some (.int .i64 (fn o 0)) ∧ u.cell? ⟨og, idx * 15 + 3, none⟩ = some (.int .i64 (fk o 1)) ∧ u.cell? ⟨og, idx * 15 + 4, none⟩ = some (.int .i64 (fn o 1)) ∧ u.cell? ⟨og, idx * 15 + 5, none⟩ = some (.int .i64 (fk o 2)) ∧ u.cell? ⟨og, idx * 15 + 6, none⟩ = some (.int .i64 (fn o 2)) ∧ u.cell? ⟨og, idx * 15 + 7, none⟩ = some (.int .i64 (fk o 3)) ∧ u.cell? ⟨og, idx * 15 + 8, none⟩ = some (.int .i64 (fn o 3)) ∧ u.cell? ⟨og, idx * 15 + 9, none⟩ = some (.int .i64 (fk o 4)) ∧ u.cell? ⟨og, idx * 15 + 10, none⟩ = some (.int .i64 (fn o 4)) ∧ u.cell? ⟨og, idx * 15 + 11, none⟩ = some (.int .i64 (fk o 5)) ∧ u.cell? ⟨og, idx * 15 + 12, none⟩ = some (.int .i64 (fn o 5)) ∧ u.cell? ⟨og, idx * 15 + 13, none⟩ = some (.int .i64 (fk o 6)) ∧ u.cell? ⟨og, idx * 15 + 14, none⟩ = some (.int .i64 (fn o 6)) := fun u hb => by
            have hc := (hg.below (w' := u) hb).cell1
            rw [hvo] at hc
            exact ⟨hc, ocell u hb 0 (by decide), ocell u hb 1 (by decide), ocell u hb 2 (by decide), ocell u hb 3 (by decide), ocell u hb 4 (by decide), ocell u hb 5 (by decide), ocell u hb 6 (by decide), ocell u hb 7 (by decide), ocell u hb 8 (by decide), ocell u hb 9 (by decide), ocell u hb 10 (by decide), ocell u hb 11 (by decide), ocell u hb 12 (by decide), ocell u hb 13 (by decide), ocell u hb 14 (by decide)⟩
          clear e3 he hidx ocell ho hoo
          have hV1 := hV.drew
          have hC := cFields hV1.met okk ob o hfit.2 hfit.1
          rw [hV.nb, hV.mb] at hC
          have q1 := hV.cell1
          have l1 := lt_of_block hV.s
          have hw1 : IntKind.i64.wrap ((idx : Int) + 1 - 1) = idx := by rw [wrap_small _ (by omega) (by omega)]; omega
          have hw2 : IntKind.i64.wrap (idx : Int) = idx := wrap_small _ (by omega) (by omega)
          have k0 : (0 : Int) ≤ (k : Int) := by omega
          have kl : (k : Int) < (m.length : Int) := by omega
          have i0 : (0 : Int) ≤ (idx : Int) := by omega
          have il : (idx : Int) < (g.os.length : Int) := by omega
          go_wp2
          refine wp_region_held_drew (S := fun w' => w'.cell? ⟨L.b, 1, none⟩ = some (.slice (some ⟨og, 0, none⟩) g.os.length oc) ∧ w'.cell? ⟨og, idx * 15, none⟩ = some (.int .i64 o.length) ∧ w'.cell? ⟨og, idx * 15 + 1, none⟩ = some (.int .i64 (fk o 0)) ∧ w'.cell? ⟨og, idx * 15 + 2, none⟩ = some (.int .i64 (fn o 0)) ∧ w'.cell? ⟨og, idx * 15 + 3, none⟩ = some (.int .i64 (fk o 1)) ∧ w'.cell? ⟨og, idx * 15 + 4, none⟩ = some (.int .i64 (fn o 1)) ∧ w'.cell? ⟨og, idx * 15 + 5, none⟩ = some (.int .i64 (fk o 2)) ∧ w'.cell? ⟨og, idx * 15 + 6, none⟩ = some (.int .i64 (fn o 2)) ∧ w'.cell? ⟨og, idx * 15 + 7, none⟩ = some (.int .i64 (fk o 3)) ∧ w'.cell? ⟨og, idx * 15 + 8, none⟩ = some (.int .i64 (fn o 3)) ∧ w'.cell? ⟨og, idx * 15 + 9, none⟩ = some (.int .i64 (fk o 4)) ∧ w'.cell? ⟨og, idx * 15 + 10, none⟩ = some (.int .i64 (fn o 4)) ∧ w'.cell? ⟨og, idx * 15 + 11, none⟩ = some (.int .i64 (fk o 5)) ∧ w'.cell? ⟨og, idx * 15 + 12, none⟩ = some (.int .i64 (fn o 5)) ∧ w'.cell? ⟨og, idx * 15 + 13, none⟩ = some (.int .i64 (fk o 6)) ∧ w'.cell? ⟨og, idx * 15 + 14, none⟩ = some (.int .i64 (fn o 6))) (by kernel_rfl) (keepS _ hV1.bel) (fun hHeld => ?_)
          refine takeH (i := 0) 37 (.pointer (some ⟨n1 + 1 + 1, 1, none⟩)) rfl rfl (by kernel_rfl) (by kernel_rfl) (by kernel_rfl) (fun _ _ _ h => h) (by rfl) ?_ (by assumption) ?_
          · intro w hSw; (try dsimp only at hSw); go_simp
          simp only [List.setIfInBounds_toArray, List.set_cons_zero, List.set_cons_succ]
          refine takeH (i := 2) 39 (.pointer (some ⟨L.b, 0, none⟩)) rfl rfl (by kernel_rfl) (by kernel_rfl) (by kernel_rfl) (fun _ _ _ h => h) (by rfl) ?_ (by assumption) ?_
          · intro w hSw; (try dsimp only at hSw); go_simp
          simp only [List.setIfInBounds_toArray, List.set_cons_zero, List.set_cons_succ]
          refine takeH (i := 3) 40 (.pointer (some ⟨L.b, 0, none⟩)) rfl rfl (by kernel_rfl) (by kernel_rfl) (by kernel_rfl) (fun _ _ _ h => h) (by rfl) ?_ (by assumption) ?_
          · intro w hSw; (try dsimp only at hSw); go_simp
          simp only [List.setIfInBounds_toArray, List.set_cons_zero, List.set_cons_succ]
          refine takeH (i := 4) 41 (.pointer (some ⟨L.b, 1, none⟩)) rfl rfl (by kernel_rfl) (by kernel_rfl) (by kernel_rfl) (fun _ _ _ h => h) (by rfl) ?_ (by assumption) ?_
          · intro w hSw; (try dsimp only at hSw); go_simp
          simp only [List.setIfInBounds_toArray, List.set_cons_zero, List.set_cons_succ]
          refine takeH (i := 5) 42 (.slice (some ⟨og, 0, none⟩) g.os.length oc) rfl rfl (by kernel_rfl) (by kernel_rfl) (by kernel_rfl) (fun _ _ _ h => h) (by rfl) ?_ (by assumption) ?_
          · intro w hSw; (try dsimp only at hSw); go_simp
          simp only [List.setIfInBounds_toArray, List.set_cons_zero, List.set_cons_succ]
          refine takeH (i := 7) 44 (.int .i64 k) rfl rfl (by kernel_rfl) (by kernel_rfl) (by kernel_rfl) (fun _ _ _ h => h) (by rfl) ?_ (by assumption) ?_
          · intro w hSw; (try dsimp only at hSw); go_simp
          simp only [List.setIfInBounds_toArray, List.set_cons_zero, List.set_cons_succ]
          refine takeH (i := 13) 50 (mfun n1 (n1 + 1)) rfl rfl (by kernel_rfl) (by kernel_rfl) (by kernel_rfl) (fun _ _ _ h => h) (by rfl) ?_ (by assumption) ?_
          · intro w hSw; (try dsimp only at hSw); go_simp
          simp only [List.setIfInBounds_toArray, List.set_cons_zero, List.set_cons_succ]
          refine wpAnyH_ready (rs := [1, 6]) (by kernel_rfl) (by simp) ?_
          refine AllReadyH.cons rfl (fun K hK => ?_) (AllReadyH.cons rfl (fun K hK => ?_) AllReadyH.nil)
          · go_simp
            refine hK.out _ _ hHeld (fun hHeld => ?_)
            clear hK K
            try simp only [Act.put, List.setIfInBounds_toArray, List.set_cons_zero, List.set_cons_succ]
            refine wpAnyH_ready (rs := [6]) (by kernel_rfl) (by simp) ?_
            refine AllReadyH.cons rfl (fun K hK => ?_) AllReadyH.nil
            go_simp
            refine hK.out _ _ hHeld (fun hHeld => ?_)
            clear hK K
            try simp only [Act.put, List.setIfInBounds_toArray, List.set_cons_zero, List.set_cons_succ]
            refine takeH (i := 8) 45 (.pointer (some ⟨mr, k, none⟩)) rfl rfl (by kernel_rfl) (by kernel_rfl) (by kernel_rfl) (fun _ _ _ h => h) (by rfl) ?_ (by assumption) ?_
            · intro w hSw; (try dsimp only at hSw); go_simp
            simp only [List.setIfInBounds_toArray, List.set_cons_zero, List.set_cons_succ]
            refine wpAnyH_ready (rs := [9]) (by kernel_rfl) (by simp) ?_
            refine AllReadyH.cons rfl (fun K hK => ?_) AllReadyH.nil
            go_simp
            refine hK.out _ _ hHeld (fun hHeld => ?_)
            clear hK K
            try simp only [Act.put, List.setIfInBounds_toArray, List.set_cons_zero, List.set_cons_succ]
            refine takeH (i := 10) 47 (.int .i64 idx) rfl rfl (by kernel_rfl) (by kernel_rfl) (by kernel_rfl) (fun _ _ _ h => h) (by rfl) ?_ (by assumption) ?_
            · intro w hSw; (try dsimp only at hSw); go_simp
            simp only [List.setIfInBounds_toArray, List.set_cons_zero, List.set_cons_succ]
            refine takeH (i := 11) 48 (.pointer (some ⟨og, idx * 15, none⟩)) rfl rfl (by kernel_rfl) (by kernel_rfl) (by kernel_rfl) (fun _ _ _ h => h) (by rfl) ?_ (by assumption) ?_
            · intro w hSw; (try dsimp only at hSw); go_simp
            simp only [List.setIfInBounds_toArray, List.set_cons_zero, List.set_cons_succ]
            refine takeH (i := 12) 49 (ov o) rfl rfl (by kernel_rfl) (by kernel_rfl) (by kernel_rfl) (fun _ _ _ h => h) (by rfl) ?_ (by assumption) ?_
            · intro w hSw; (try dsimp only at hSw); go_simp
            simp only [List.setIfInBounds_toArray, List.set_cons_zero, List.set_cons_succ]
            refine wpAnyH_ready (rs := [14]) (by kernel_rfl) (by simp) ?_
            refine AllReadyH.cons rfl (fun K hK => ?_) AllReadyH.nil
            go_simp
            refine hC.mono ?_; rintro e w2 ⟨gg, C2, rfl, hM2, hS2, hrow2, hgn0, hgC⟩; have hgn : w.heap.size ≤ gg := Nat.le_trans hV1.bel.size hgn0; have V2 := hV1.step hM2 hS2; have q2 := V2.cell1; have l2 := lt_of_block V2.s; obtain ⟨-, vs, -, hvs, -⟩ := id V2.rv; simp only [List.length_map, hll] at hvs
            refine hK.out _ _ (keepS _ V2.bel) (fun hHeld => ?_)
            clear hK K
            try simp only [Act.put, List.setIfInBounds_toArray, List.set_cons_zero, List.set_cons_succ]
            refine wpAnyH_ready (rs := [15]) (by kernel_rfl) (by simp) ?_
            refine AllReadyH.cons rfl (fun K hK => ?_) AllReadyH.nil
            go_simp
            refine hK.out _ _ (keepS _ (bal V2.bel _)) (fun hHeld => ?_)
            clear hK K
            try simp only [Act.put, List.setIfInBounds_toArray, List.set_cons_zero, List.set_cons_succ]
            refine wpAnyH_ready (rs := [16]) (by kernel_rfl) (by simp) ?_
            refine AllReadyH.cons rfl (fun K hK => ?_) AllReadyH.nil
            refine step_append_mine 53 rfl rfl _ _ 48 rfl 60 iv _ 1 24 Try.underlying48 hi' hz0' hz1' hz2' rfl (by decide) vl _ vs rfl (hvs.alloc _) ⟨w2.heap.size, 0, none⟩ 1 1 [.slice (some ⟨gg, 0, none⟩) o.length o.length] rfl rfl (new1 _ _ rfl _ _) (by intro u hu; simp at hu; rw [hu]; rfl) (by unfold maxLen; omega) (by omega) (by decide) ?_
            intro g2 cp w3 hown3 hgr3 hnew3
            have R := (V2.alloc (.cells #[.slice (some ⟨gg, 0, none⟩) o.length o.length] 60)).addV (row := (Sh.fmeets m o).2) (u := .slice (some ⟨gg, 0, none⟩) o.length o.length) (by rw [Sh.fmeets_len]; exact hrow2.alloc _) (fun j hj => by simp [Value.ownBlock] at hj; subst hj; exact ⟨hgC, hgn⟩) (vs := vs) (by rw [hll]; exact hvs.alloc _) (by rw [hll]; exact hown3) hgr3 hnew3
            obtain ⟨R1, c3, f3⟩ := R
            rw [hll] at R1
            have B3 : Below w.heap.size w w3 := (bal V2.bel _).grown hgr3 (Nat.le_trans V2.bel.size (Kept.alloc [] w2 _).size) (fun j hj => (V2.rv.1 j hj).2)
            refine hK.out _ _ (keepS _ B3) (fun hHeld => ?_)
            clear hK K
            try simp only [Act.put, List.setIfInBounds_toArray, List.set_cons_zero, List.set_cons_succ]
            refine takeH (i := 17) 54 (.pointer (some ⟨n1 + 1 + 1, 1, none⟩)) rfl rfl (by kernel_rfl) (by kernel_rfl) (by kernel_rfl) (fun _ _ _ h => h) (by rfl) ?_ (by assumption) ?_
            · intro w hSw; (try dsimp only at hSw); go_simp
            simp only [List.setIfInBounds_toArray, List.set_cons_zero, List.set_cons_succ]
            refine wpAnyH_ready (rs := [18]) (by kernel_rfl) (by simp) ?_
            refine AllReadyH.cons rfl (fun K hK => ?_) AllReadyH.nil
            go_simp
            refine hK.out _ _ (keepS _ R1.bel) (fun hHeld => ?_)
            clear hK K
            try simp only [Act.put, List.setIfInBounds_toArray, List.set_cons_zero, List.set_cons_succ]
            refine wpAnyH_done (by kernel_rfl) ?_ _
            go_wp2
            go_roundw
            case rel => exact ⟨k + 1, C2, vr, _, _, _, by omega, by go_num, R1, ok2, by simp [hll], e5⟩
            case measure => simp [intOf]; omega
          · go_simp
            refine hK.out _ _ hHeld (fun hHeld => ?_)
            clear hK K
            try simp only [Act.put, List.setIfInBounds_toArray, List.set_cons_zero, List.set_cons_succ]
            refine takeH (i := 8) 45 (.pointer (some ⟨mr, k, none⟩)) rfl rfl (by kernel_rfl) (by kernel_rfl) (by kernel_rfl) (fun _ _ _ h => h) (by rfl) ?_ (by assumption) ?_
            · intro w hSw; (try dsimp only at hSw); go_simp
            simp only [List.setIfInBounds_toArray, List.set_cons_zero, List.set_cons_succ]
            refine wpAnyH_ready (rs := [1, 9]) (by kernel_rfl) (by simp) ?_
            refine AllReadyH.cons rfl (fun K hK => ?_) (AllReadyH.cons rfl (fun K hK => ?_) AllReadyH.nil)
            · go_simp
              refine hK.out _ _ hHeld (fun hHeld => ?_)
              clear hK K
              try simp only [Act.put, List.setIfInBounds_toArray, List.set_cons_zero, List.set_cons_succ]
              refine wpAnyH_ready (rs := [9]) (by kernel_rfl) (by simp) ?_
              refine AllReadyH.cons rfl (fun K hK => ?_) AllReadyH.nil
              go_simp
              refine hK.out _ _ hHeld (fun hHeld => ?_)
              clear hK K
              try simp only [Act.put, List.setIfInBounds_toArray, List.set_cons_zero, List.set_cons_succ]
              refine takeH (i := 10) 47 (.int .i64 idx) rfl rfl (by kernel_rfl) (by kernel_rfl) (by kernel_rfl) (fun _ _ _ h => h) (by rfl) ?_ (by assumption) ?_
              · intro w hSw; (try dsimp only at hSw); go_simp
              simp only [List.setIfInBounds_toArray, List.set_cons_zero, List.set_cons_succ]
              refine takeH (i := 11) 48 (.pointer (some ⟨og, idx * 15, none⟩)) rfl rfl (by kernel_rfl) (by kernel_rfl) (by kernel_rfl) (fun _ _ _ h => h) (by rfl) ?_ (by assumption) ?_
              · intro w hSw; (try dsimp only at hSw); go_simp
              simp only [List.setIfInBounds_toArray, List.set_cons_zero, List.set_cons_succ]
              refine takeH (i := 12) 49 (ov o) rfl rfl (by kernel_rfl) (by kernel_rfl) (by kernel_rfl) (fun _ _ _ h => h) (by rfl) ?_ (by assumption) ?_
              · intro w hSw; (try dsimp only at hSw); go_simp
              simp only [List.setIfInBounds_toArray, List.set_cons_zero, List.set_cons_succ]
              refine wpAnyH_ready (rs := [14]) (by kernel_rfl) (by simp) ?_
              refine AllReadyH.cons rfl (fun K hK => ?_) AllReadyH.nil
              go_simp
              refine hC.mono ?_; rintro e w2 ⟨gg, C2, rfl, hM2, hS2, hrow2, hgn0, hgC⟩; have hgn : w.heap.size ≤ gg := Nat.le_trans hV1.bel.size hgn0; have V2 := hV1.step hM2 hS2; have q2 := V2.cell1; have l2 := lt_of_block V2.s; obtain ⟨-, vs, -, hvs, -⟩ := id V2.rv; simp only [List.length_map, hll] at hvs
              refine hK.out _ _ (keepS _ V2.bel) (fun hHeld => ?_)
              clear hK K
              try simp only [Act.put, List.setIfInBounds_toArray, List.set_cons_zero, List.set_cons_succ]
              refine wpAnyH_ready (rs := [15]) (by kernel_rfl) (by simp) ?_
              refine AllReadyH.cons rfl (fun K hK => ?_) AllReadyH.nil
              go_simp
              refine hK.out _ _ (keepS _ (bal V2.bel _)) (fun hHeld => ?_)
              clear hK K
              try simp only [Act.put, List.setIfInBounds_toArray, List.set_cons_zero, List.set_cons_succ]
              refine wpAnyH_ready (rs := [16]) (by kernel_rfl) (by simp) ?_
              refine AllReadyH.cons rfl (fun K hK => ?_) AllReadyH.nil
              refine step_append_mine 53 rfl rfl _ _ 48 rfl 60 iv _ 1 24 Try.underlying48 hi' hz0' hz1' hz2' rfl (by decide) vl _ vs rfl (hvs.alloc _) ⟨w2.heap.size, 0, none⟩ 1 1 [.slice (some ⟨gg, 0, none⟩) o.length o.length] rfl rfl (new1 _ _ rfl _ _) (by intro u hu; simp at hu; rw [hu]; rfl) (by unfold maxLen; omega) (by omega) (by decide) ?_
              intro g2 cp w3 hown3 hgr3 hnew3
              have R := (V2.alloc (.cells #[.slice (some ⟨gg, 0, none⟩) o.length o.length] 60)).addV (row := (Sh.fmeets m o).2) (u := .slice (some ⟨gg, 0, none⟩) o.length o.length) (by rw [Sh.fmeets_len]; exact hrow2.alloc _) (fun j hj => by simp [Value.ownBlock] at hj; subst hj; exact ⟨hgC, hgn⟩) (vs := vs) (by rw [hll]; exact hvs.alloc _) (by rw [hll]; exact hown3) hgr3 hnew3
              obtain ⟨R1, c3, f3⟩ := R
              rw [hll] at R1
              have B3 : Below w.heap.size w w3 := (bal V2.bel _).grown hgr3 (Nat.le_trans V2.bel.size (Kept.alloc [] w2 _).size) (fun j hj => (V2.rv.1 j hj).2)
              refine hK.out _ _ (keepS _ B3) (fun hHeld => ?_)
              clear hK K
              try simp only [Act.put, List.setIfInBounds_toArray, List.set_cons_zero, List.set_cons_succ]
              refine takeH (i := 17) 54 (.pointer (some ⟨n1 + 1 + 1, 1, none⟩)) rfl rfl (by kernel_rfl) (by kernel_rfl) (by kernel_rfl) (fun _ _ _ h => h) (by rfl) ?_ (by assumption) ?_
              · intro w hSw; (try dsimp only at hSw); go_simp
              simp only [List.setIfInBounds_toArray, List.set_cons_zero, List.set_cons_succ]
              refine wpAnyH_ready (rs := [18]) (by kernel_rfl) (by simp) ?_
              refine AllReadyH.cons rfl (fun K hK => ?_) AllReadyH.nil
              go_simp
              refine hK.out _ _ (keepS _ R1.bel) (fun hHeld => ?_)
              clear hK K
              try simp only [Act.put, List.setIfInBounds_toArray, List.set_cons_zero, List.set_cons_succ]
              refine wpAnyH_done (by kernel_rfl) ?_ _
              go_wp2
              go_roundw
              case rel => exact ⟨k + 1, C2, vr, _, _, _, by omega, by go_num, R1, ok2, by simp [hll], e5⟩
              case measure => simp [intOf]; omega
            · go_simp
              refine hK.out _ _ hHeld (fun hHeld => ?_)
              clear hK K
              try simp only [Act.put, List.setIfInBounds_toArray, List.set_cons_zero, List.set_cons_succ]
              refine takeH (i := 10) 47 (.int .i64 idx) rfl rfl (by kernel_rfl) (by kernel_rfl) (by kernel_rfl) (fun _ _ _ h => h) (by rfl) ?_ (by assumption) ?_
              · intro w hSw; (try dsimp only at hSw); go_simp
              simp only [List.setIfInBounds_toArray, List.set_cons_zero, List.set_cons_succ]
              refine takeH (i := 11) 48 (.pointer (some ⟨og, idx * 15, none⟩)) rfl rfl (by kernel_rfl) (by kernel_rfl) (by kernel_rfl) (fun _ _ _ h => h) (by rfl) ?_ (by assumption) ?_
              · intro w hSw; (try dsimp only at hSw); go_simp
              simp only [List.setIfInBounds_toArray, List.set_cons_zero, List.set_cons_succ]
              refine takeH (i := 12) 49 (ov o) rfl rfl (by kernel_rfl) (by kernel_rfl) (by kernel_rfl) (fun _ _ _ h => h) (by rfl) ?_ (by assumption) ?_
              · intro w hSw; (try dsimp only at hSw); go_simp
              simp only [List.setIfInBounds_toArray, List.set_cons_zero, List.set_cons_succ]
              refine wpAnyH_ready (rs := [1, 14]) (by kernel_rfl) (by simp) ?_
              refine AllReadyH.cons rfl (fun K hK => ?_) (AllReadyH.cons rfl (fun K hK => ?_) AllReadyH.nil)
              · go_simp
                refine hK.out _ _ hHeld (fun hHeld => ?_)
                clear hK K
                try simp only [Act.put, List.setIfInBounds_toArray, List.set_cons_zero, List.set_cons_succ]
                refine wpAnyH_ready (rs := [14]) (by kernel_rfl) (by simp) ?_
                refine AllReadyH.cons rfl (fun K hK => ?_) AllReadyH.nil
                go_simp
                refine hC.mono ?_; rintro e w2 ⟨gg, C2, rfl, hM2, hS2, hrow2, hgn0, hgC⟩; have hgn : w.heap.size ≤ gg := Nat.le_trans hV1.bel.size hgn0; have V2 := hV1.step hM2 hS2; have q2 := V2.cell1; have l2 := lt_of_block V2.s; obtain ⟨-, vs, -, hvs, -⟩ := id V2.rv; simp only [List.length_map, hll] at hvs
                refine hK.out _ _ (keepS _ V2.bel) (fun hHeld => ?_)
                clear hK K
                try simp only [Act.put, List.setIfInBounds_toArray, List.set_cons_zero, List.set_cons_succ]
                refine wpAnyH_ready (rs := [15]) (by kernel_rfl) (by simp) ?_
                refine AllReadyH.cons rfl (fun K hK => ?_) AllReadyH.nil
                go_simp
                refine hK.out _ _ (keepS _ (bal V2.bel _)) (fun hHeld => ?_)
                clear hK K
                try simp only [Act.put, List.setIfInBounds_toArray, List.set_cons_zero, List.set_cons_succ]
                refine wpAnyH_ready (rs := [16]) (by kernel_rfl) (by simp) ?_
                refine AllReadyH.cons rfl (fun K hK => ?_) AllReadyH.nil
                refine step_append_mine 53 rfl rfl _ _ 48 rfl 60 iv _ 1 24 Try.underlying48 hi' hz0' hz1' hz2' rfl (by decide) vl _ vs rfl (hvs.alloc _) ⟨w2.heap.size, 0, none⟩ 1 1 [.slice (some ⟨gg, 0, none⟩) o.length o.length] rfl rfl (new1 _ _ rfl _ _) (by intro u hu; simp at hu; rw [hu]; rfl) (by unfold maxLen; omega) (by omega) (by decide) ?_
                intro g2 cp w3 hown3 hgr3 hnew3
                have R := (V2.alloc (.cells #[.slice (some ⟨gg, 0, none⟩) o.length o.length] 60)).addV (row := (Sh.fmeets m o).2) (u := .slice (some ⟨gg, 0, none⟩) o.length o.length) (by rw [Sh.fmeets_len]; exact hrow2.alloc _) (fun j hj => by simp [Value.ownBlock] at hj; subst hj; exact ⟨hgC, hgn⟩) (vs := vs) (by rw [hll]; exact hvs.alloc _) (by rw [hll]; exact hown3) hgr3 hnew3
                obtain ⟨R1, c3, f3⟩ := R
                rw [hll] at R1
                have B3 : Below w.heap.size w w3 := (bal V2.bel _).grown hgr3 (Nat.le_trans V2.bel.size (Kept.alloc [] w2 _).size) (fun j hj => (V2.rv.1 j hj).2)
                refine hK.out _ _ (keepS _ B3) (fun hHeld => ?_)
                clear hK K
                try simp only [Act.put, List.setIfInBounds_toArray, List.set_cons_zero, List.set_cons_succ]
                refine takeH (i := 17) 54 (.pointer (some ⟨n1 + 1 + 1, 1, none⟩)) rfl rfl (by kernel_rfl) (by kernel_rfl) (by kernel_rfl) (fun _ _ _ h => h) (by rfl) ?_ (by assumption) ?_
                · intro w hSw; (try dsimp only at hSw); go_simp
                simp only [List.setIfInBounds_toArray, List.set_cons_zero, List.set_cons_succ]
                refine wpAnyH_ready (rs := [18]) (by kernel_rfl) (by simp) ?_
                refine AllReadyH.cons rfl (fun K hK => ?_) AllReadyH.nil
                go_simp
                refine hK.out _ _ (keepS _ R1.bel) (fun hHeld => ?_)
                clear hK K
                try simp only [Act.put, List.setIfInBounds_toArray, List.set_cons_zero, List.set_cons_succ]
                refine wpAnyH_done (by kernel_rfl) ?_ _
                go_wp2
                go_roundw
                case rel => exact ⟨k + 1, C2, vr, _, _, _, by omega, by go_num, R1, ok2, by simp [hll], e5⟩
                case measure => simp [intOf]; omega
              · go_simp
                refine hC.mono ?_; rintro e w2 ⟨gg, C2, rfl, hM2, hS2, hrow2, hgn0, hgC⟩; have hgn : w.heap.size ≤ gg := Nat.le_trans hV1.bel.size hgn0; have V2 := hV1.step hM2 hS2; have q2 := V2.cell1; have l2 := lt_of_block V2.s; obtain ⟨-, vs, -, hvs, -⟩ := id V2.rv; simp only [List.length_map, hll] at hvs
                refine hK.out _ _ (keepS _ V2.bel) (fun hHeld => ?_)
                clear hK K
                try simp only [Act.put, List.setIfInBounds_toArray, List.set_cons_zero, List.set_cons_succ]
                refine wpAnyH_ready (rs := [1, 15]) (by kernel_rfl) (by simp) ?_
                refine AllReadyH.cons rfl (fun K hK => ?_) (AllReadyH.cons rfl (fun K hK => ?_) AllReadyH.nil)
                · go_simp
                  refine hK.out _ _ hHeld (fun hHeld => ?_)
                  clear hK K
                  try simp only [Act.put, List.setIfInBounds_toArray, List.set_cons_zero, List.set_cons_succ]
                  refine wpAnyH_ready (rs := [15]) (by kernel_rfl) (by simp) ?_
                  refine AllReadyH.cons rfl (fun K hK => ?_) AllReadyH.nil
                  go_simp
                  refine hK.out _ _ (keepS _ (bal V2.bel _)) (fun hHeld => ?_)
                  clear hK K
                  try simp only [Act.put, List.setIfInBounds_toArray, List.set_cons_zero, List.set_cons_succ]
                  refine wpAnyH_ready (rs := [16]) (by kernel_rfl) (by simp) ?_
                  refine AllReadyH.cons rfl (fun K hK => ?_) AllReadyH.nil
                  refine step_append_mine 53 rfl rfl _ _ 48 rfl 60 iv _ 1 24 Try.underlying48 hi' hz0' hz1' hz2' rfl (by decide) vl _ vs rfl (hvs.alloc _) ⟨w2.heap.size, 0, none⟩ 1 1 [.slice (some ⟨gg, 0, none⟩) o.length o.length] rfl rfl (new1 _ _ rfl _ _) (by intro u hu; simp at hu; rw [hu]; rfl) (by unfold maxLen; omega) (by omega) (by decide) ?_
                  intro g2 cp w3 hown3 hgr3 hnew3
                  have R := (V2.alloc (.cells #[.slice (some ⟨gg, 0, none⟩) o.length o.length] 60)).addV (row := (Sh.fmeets m o).2) (u := .slice (some ⟨gg, 0, none⟩) o.length o.length) (by rw [Sh.fmeets_len]; exact hrow2.alloc _) (fun j hj => by simp [Value.ownBlock] at hj; subst hj; exact ⟨hgC, hgn⟩) (vs := vs) (by rw [hll]; exact hvs.alloc _) (by rw [hll]; exact hown3) hgr3 hnew3
                  obtain ⟨R1, c3, f3⟩ := R
                  rw [hll] at R1
                  have B3 : Below w.heap.size w w3 := (bal V2.bel _).grown hgr3 (Nat.le_trans V2.bel.size (Kept.alloc [] w2 _).size) (fun j hj => (V2.rv.1 j hj).2)
                  refine hK.out _ _ (keepS _ B3) (fun hHeld => ?_)
                  clear hK K
                  try simp only [Act.put, List.setIfInBounds_toArray, List.set_cons_zero, List.set_cons_succ]
                  refine takeH (i := 17) 54 (.pointer (some ⟨n1 + 1 + 1, 1, none⟩)) rfl rfl (by kernel_rfl) (by kernel_rfl) (by kernel_rfl) (fun _ _ _ h => h) (by rfl) ?_ (by assumption) ?_
                  · intro w hSw; (try dsimp only at hSw); go_simp
                  simp only [List.setIfInBounds_toArray, List.set_cons_zero, List.set_cons_succ]
                  refine wpAnyH_ready (rs := [18]) (by kernel_rfl) (by simp) ?_
                  refine AllReadyH.cons rfl (fun K hK => ?_) AllReadyH.nil
                  go_simp
                  refine hK.out _ _ (keepS _ R1.bel) (fun hHeld => ?_)
                  clear hK K
                  try simp only [Act.put, List.setIfInBounds_toArray, List.set_cons_zero, List.set_cons_succ]
                  refine wpAnyH_done (by kernel_rfl) ?_ _
                  go_wp2
                  go_roundw
                  case rel => exact ⟨k + 1, C2, vr, _, _, _, by omega, by go_num, R1, ok2, by simp [hll], e5⟩
                  case measure => simp [intOf]; omega
                · go_simp
                  refine hK.out _ _ (keepS _ (bal V2.bel _)) (fun hHeld => ?_)
                  clear hK K
                  try simp only [Act.put, List.setIfInBounds_toArray, List.set_cons_zero, List.set_cons_succ]
                  refine wpAnyH_ready (rs := [1]) (by kernel_rfl) (by simp) ?_
                  refine AllReadyH.cons rfl (fun K hK => ?_) AllReadyH.nil
                  go_simp
                  refine hK.out _ _ hHeld (fun hHeld => ?_)
                  clear hK K
                  try simp only [Act.put, List.setIfInBounds_toArray, List.set_cons_zero, List.set_cons_succ]
                  refine wpAnyH_ready (rs := [16]) (by kernel_rfl) (by simp) ?_
                  refine AllReadyH.cons rfl (fun K hK => ?_) AllReadyH.nil
                  refine step_append_mine 53 rfl rfl _ _ 48 rfl 60 iv _ 1 24 Try.underlying48 hi' hz0' hz1' hz2' rfl (by decide) vl _ vs rfl (hvs.alloc _) ⟨w2.heap.size, 0, none⟩ 1 1 [.slice (some ⟨gg, 0, none⟩) o.length o.length] rfl rfl (new1 _ _ rfl _ _) (by intro u hu; simp at hu; rw [hu]; rfl) (by unfold maxLen; omega) (by omega) (by decide) ?_
                  intro g2 cp w3 hown3 hgr3 hnew3
                  have R := (V2.alloc (.cells #[.slice (some ⟨gg, 0, none⟩) o.length o.length] 60)).addV (row := (Sh.fmeets m o).2) (u := .slice (some ⟨gg, 0, none⟩) o.length o.length) (by rw [Sh.fmeets_len]; exact hrow2.alloc _) (fun j hj => by simp [Value.ownBlock] at hj; subst hj; exact ⟨hgC, hgn⟩) (vs := vs) (by rw [hll]; exact hvs.alloc _) (by rw [hll]; exact hown3) hgr3 hnew3
                  obtain ⟨R1, c3, f3⟩ := R
                  rw [hll] at R1
                  have B3 : Below w.heap.size w w3 := (bal V2.bel _).grown hgr3 (Nat.le_trans V2.bel.size (Kept.alloc [] w2 _).size) (fun j hj => (V2.rv.1 j hj).2)
                  refine hK.out _ _ (keepS _ B3) (fun hHeld => ?_)
                  clear hK K
                  try simp only [Act.put, List.setIfInBounds_toArray, List.set_cons_zero, List.set_cons_succ]
                  refine takeH (i := 17) 54 (.pointer (some ⟨n1 + 1 + 1, 1, none⟩)) rfl rfl (by kernel_rfl) (by kernel_rfl) (by kernel_rfl) (fun _ _ _ h => h) (by rfl) ?_ (by assumption) ?_
                  · intro w hSw; (try dsimp only at hSw); go_simp
                  simp only [List.setIfInBounds_toArray, List.set_cons_zero, List.set_cons_succ]
                  refine wpAnyH_ready (rs := [18]) (by kernel_rfl) (by simp) ?_
                  refine AllReadyH.cons rfl (fun K hK => ?_) AllReadyH.nil
                  go_simp
                  refine hK.out _ _ (keepS _ R1.bel) (fun hHeld => ?_)
                  clear hK K
                  try simp only [Act.put, List.setIfInBounds_toArray, List.set_cons_zero, List.set_cons_succ]
                  refine wpAnyH_done (by kernel_rfl) ?_ _
                  go_wp2
                  go_roundw
                  case rel => exact ⟨k + 1, C2, vr, _, _, _, by omega, by go_num, R1, ok2, by simp [hll], e5⟩
                  case measure => simp [intOf]; omega
        case neg =>
          have e6 : Sh.objs g = ll := by rw [he, Sh.lrun_end _ _ hlt]; simp
          obtain ⟨ao, mc, hsl⟩ := hV.met.slice
          rw [hsl] at qm
          obtain ⟨xr, nr, yr, rfl⟩ : ∃ a n c, vr = .slice a n c := by obtain ⟨a, c, h⟩ := hV.ri.slice; exact ⟨a, _, c, h⟩
          obtain ⟨xl, nl, yl, rfl⟩ : ∃ a n c, vl = .slice a n c := by obtain ⟨a, c, h⟩ := hV.rv.slice; exact ⟨a, _, c, h⟩
          have R := sv_end hV
          rw [← e6] at R
          have s0 := hV.cell0
          have s1 := hV.cell1
          have d0 : wp.cell? ⟨w.heap.size, 0, none⟩ = some (.slice none 0 0) := by rw [cell_of_row wp _ _ _ _ _ hV.r]; rfl
          have d1 : wp.cell? ⟨w.heap.size, 1, none⟩ = some (.slice none 0 0) := by rw [cell_of_row wp _ _ _ _ _ hV.r]; rfl
          have hf : ∀ j, wp.frozen? ⟨w.heap.size, j, none⟩ = false := fun j => frozen_of_row wp _ _ _ _ hV.r
          clear he e6
          go_wp2
          exact bodyPost_ret (v := .agg #[.slice xr nr yr, .slice xl nl yl]) (by simp [results, Try.results31, go_sem, d0, d1]) rfl ⟨_, _, rfl, R⟩
end Go.Proofs.Ytbihdkdefopijaa
