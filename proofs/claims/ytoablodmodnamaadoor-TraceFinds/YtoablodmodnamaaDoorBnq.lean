/-
  The reference's Alloc, made.
-/
import Derived.Deep.RegionHeld3
import Derived.Test.YtoablodmodnamaaDoorBsq
namespace Go.Proofs.YtoablodmodnamaaDoor
section
variable {P : Program} {ops : Array Oper} {Q : Exit → Act → World → Prop} {md : Region.Mode} {S : World → Prop}
theorem takeH {i : Nat} {oi : Oper} (d : Nat) (v : Value) {fuel : Nat} {listed : Array Bool} {a : Act} {w : World} (hi : ops[i]? = some oi) (hd : oi.dst = some d)
    (hs : Region.noSelect ops = true) (hf : Region.free md ops listed i = true) (hr : (Region.ready md ops listed).contains i = true)
    (hQ : ∀ c a w, Q (.panic c) (a.put oi.dst v) w → Q (.panic c) a w) (hw : Region.wanted oi (yielded ops a.tmps) = true) (hy : ∀ w, S w → (execOp a.eval oi).run P w = .ok (.value v) w) (hS : S w)
    (h : wpAnyH P md ops Q S fuel (listed.setIfInBounds i true) { a with tmps := a.tmps.setIfInBounds d v } w) : wpAnyH P md ops Q S (fuel + 1) listed a w :=
  wpAnyH_take hi hs hf hr hQ (Or.inl ⟨hw, hy⟩) hS (by unfold Act.put; rw [hd]; exact h)
theorem skipH {i : Nat} {oi : Oper} (d : Nat) {fuel : Nat} {listed : Array Bool} {a : Act} {w : World} (hi : ops[i]? = some oi) (hd : oi.dst = some d)
    (hs : Region.noSelect ops = true) (hf : Region.free md ops listed i = true) (hr : (Region.ready md ops listed).contains i = true)
    (hQ : ∀ c a w, Q (.panic c) (a.put oi.dst undef) w → Q (.panic c) a w) (hw : Region.wanted oi (yielded ops a.tmps) = false) (hS : S w)
    (h : wpAnyH P md ops Q S fuel (listed.setIfInBounds i true) { a with tmps := a.tmps.setIfInBounds d undef } w) : wpAnyH P md ops Q S (fuel + 1) listed a w :=
  wpAnyH_take hi hs hf hr hQ (Or.inr ⟨hw, rfl⟩) hS (by unfold Act.put; rw [hd]; exact h)
end
end Go.Proofs.YtoablodmodnamaaDoor

namespace Go.Proofs.YtoablodmodnamaaDoor
set_option linter.unusedVariables false
set_option linter.unusedSimpArgs false
set_option maxRecDepth 100000
open Go.ChangeShapes Go.WideShapes Go.RowKit
open S.Plain (t0 t1 tw nx bw b0 b1 b2 b3)
open H.Plain (hw pS pC pN pM pG pT pL)

theorem cl_bounds {n : Int} (n0 : 0 ≤ n) (n7 : n ≤ 7) : 0 ≤ P.Plain.cl n ∧ P.Plain.cl n ≤ 1 := by
  have : n ≤ 3 ∨ 4 ≤ n := by omega
  rcases this with h | h
  · rw [P.Plain.cl_0 n0 h]; decide
  · rw [P.Plain.cl_1 h n7]; decide
theorem AllS.ok_new {q : Pl} {n m e : Int} (h : q.Ok) (n0 : 0 ≤ n) (n7 : n ≤ 7) (e0 : 0 ≤ e) (e1 : e ≤ 1) : (AllS.new q n m e).Ok := by
  have := cl_bounds n0 n7
  exact ⟨ResS.ok_new h this.1 (by omega) e0 e1, by simp [AllS.new], by simp [AllS.new], by simp [AllS.new], by simp only [AllS.new]; omega, by simp [AllS.new]⟩
set_option maxHeartbeats 1000000 in
theorem yNewRes (q : Pl) {c e : Int} (c0 : 0 ≤ c) (c2 : c ≤ 2) (e0 : 0 ≤ e) (e1 : e ≤ 1) (w : World) :
    Calls Tryd.prog 93 #[.agg #[.int .i64 q.t, .int .i64 q.b, .int .i64 q.tb, .int .i64 q.hp, .int .i64 q.sz], .int .i64 c, .int .i64 e] w fun v w' => ∃ rp xp, v = .returned (.pointer (some ⟨rp, 0, none⟩)) ∧ w'.heap[rp]? = some (.cells ((ResS.new q c e).rcells xp (.pointer none)) 164 (0, 0)) ∧ w'.heap[xp]? = some (.cells ((PopS.new (3 + 3 * e + c)).rcells 0) 176 (0, 0)) ∧ Below w.heap.size w w' ∧ w.heap.size ≤ rp ∧ w.heap.size ≤ xp := by
  obtain ⟨j, hj'⟩ : ∃ j, 3 + 3 * e + c = j := ⟨_, rfl⟩
  rw [hj']
  have kb : (w.alloc (.cells q.cells 32)).heap[w.heap.size]? = some (.cells q.cells 32 (0, 0)) := heap_alloc_new _ _
  have hba : Below w.heap.size w (w.alloc (.cells q.cells 32)) := S.bal (Below.refl _ _) _
  go_enter Tryd.func93, Tryd.ntmps93
  go_wp2
  obtain ⟨u, hu⟩ : ∃ u, w.heap.size = u := ⟨_, rfl⟩
  have kb' : (w.alloc (.cells q.cells 32)).heap[u]? = some (.cells q.cells 32 (0, 0)) := hu ▸ kb
  have hule : w.heap.size ≤ u := by omega
  rw [hu]
  clear hu kb
  change Below w.heap.size w (w.alloc (.cells #[.int .i64 q.t, .int .i64 q.b, .int .i64 q.tb, .int .i64 q.hp, .int .i64 q.sz] 32)) at hba
  change (w.alloc (.cells #[.int .i64 q.t, .int .i64 q.b, .int .i64 q.tb, .int .i64 q.hp, .int .i64 q.sz] 32)).heap[u]? = _ at kb'
  generalize w.alloc (.cells #[.int .i64 q.t, .int .i64 q.b, .int .i64 q.tb, .int .i64 q.hp, .int .i64 q.sz] 32) = wa at kb' hba ⊢
  have keep : ∀ w', Below wa.heap.size wa w' → w'.cell? ⟨u, 0, none⟩ = some (.int .i64 q.t) ∧ w'.cell? ⟨u, 1, none⟩ = some (.int .i64 q.b) ∧ w'.cell? ⟨u, 2, none⟩ = some (.int .i64 q.tb) ∧ w'.cell? ⟨u, 3, none⟩ = some (.int .i64 q.hp) ∧ w'.cell? ⟨u, 4, none⟩ = some (.int .i64 q.sz) := fun w' h => by
    have k := (h.block u (lt_of_block kb')).trans kb'
    exact ⟨cell_of_row w' _ _ _ _ _ k, cell_of_row w' _ _ _ _ _ k, cell_of_row w' _ _ _ _ _ k, cell_of_row w' _ _ _ _ _ k, cell_of_row w' _ _ _ _ _ k⟩
  have hbd : Below wa.heap.size wa wa.drew := (Below.refl wa.heap.size wa).drew
  have RD := keep _ hbd
  refine wp_region_held_drew (S := fun w' => w'.cell? ⟨u, 0, none⟩ = some (.int .i64 q.t) ∧ w'.cell? ⟨u, 1, none⟩ = some (.int .i64 q.b) ∧ w'.cell? ⟨u, 2, none⟩ = some (.int .i64 q.tb) ∧ w'.cell? ⟨u, 3, none⟩ = some (.int .i64 q.hp) ∧ w'.cell? ⟨u, 4, none⟩ = some (.int .i64 q.sz)) (by kernel_rfl) RD (fun hHeld => ?_)
  refine takeH (i := 0) 7 (.agg #[.int .i64 q.t, .int .i64 q.b, .int .i64 q.tb, .int .i64 q.hp, .int .i64 q.sz]) rfl rfl (by kernel_rfl) (by kernel_rfl) (by kernel_rfl) (fun _ _ _ h => h) (by rfl) ?_ (by assumption) ?_
  · intro w hSw; (try dsimp only at hSw); go_simp
  simp only [List.setIfInBounds_toArray, List.set_cons_zero, List.set_cons_succ]
  refine takeH (i := 1) 8 (.int .i64 c) rfl rfl (by kernel_rfl) (by kernel_rfl) (by kernel_rfl) (fun _ _ _ h => h) (by rfl) ?_ (by assumption) ?_
  · intro w hSw; (try dsimp only at hSw); go_simp
  simp only [List.setIfInBounds_toArray, List.set_cons_zero, List.set_cons_succ]
  refine takeH (i := 2) 9 (.int .i64 e) rfl rfl (by kernel_rfl) (by kernel_rfl) (by kernel_rfl) (fun _ _ _ h => h) (by rfl) ?_ (by assumption) ?_
  · intro w hSw; (try dsimp only at hSw); go_simp
  simp only [List.setIfInBounds_toArray, List.set_cons_zero, List.set_cons_succ]
  refine takeH (i := 3) 10 (.int .i64 e) rfl rfl (by kernel_rfl) (by kernel_rfl) (by kernel_rfl) (fun _ _ _ h => h) (by rfl) ?_ (by assumption) ?_
  · intro w hSw; (try dsimp only at hSw); go_simp
  simp only [List.setIfInBounds_toArray, List.set_cons_zero, List.set_cons_succ]
  refine takeH (i := 4) 11 (.int .i64 c) rfl rfl (by kernel_rfl) (by kernel_rfl) (by kernel_rfl) (fun _ _ _ h => h) (by rfl) ?_ (by assumption) ?_
  · intro w hSw; (try dsimp only at hSw); go_simp
  simp only [List.setIfInBounds_toArray, List.set_cons_zero, List.set_cons_succ]
  refine wpAnyH_ready (rs := [5]) (by kernel_rfl) (by simp) ?_
  refine AllReadyH.cons rfl (fun K hK => ?_) AllReadyH.nil
  go_simp
  refine (P.rList e c e0 e1 c0 c2 _).mono ?_; rintro e' wx ⟨rfl, hwx⟩; rw [hj']; have hbx : Below wa.heap.size wa wx := (by rw [hwx]; exact hbd); clear hwx
  refine hK.out _ _ (keep _ hbx) (fun hHeld => ?_)
  clear hK K
  try simp only [Act.put, List.setIfInBounds_toArray, List.set_cons_zero, List.set_cons_succ]
  refine wpAnyH_ready (rs := [6]) (by kernel_rfl) (by simp) ?_
  refine AllReadyH.cons rfl (fun K hK => ?_) AllReadyH.nil
  go_simp
  refine (rNewPop j _).mono ?_; rintro e' w3 ⟨rfl, hw3⟩; have hb3 : Below wa.heap.size wa w3 := (by rw [hw3]; exact S.bal hbx _); have k3 : w3.heap[wx.heap.size]? = some (.cells ((PopS.new j).rcells 0) 176 (0, 0)) := (by rw [hw3]; exact heap_alloc_new _ _); have hyn : wa.heap.size ≤ wx.heap.size := hbx.size; obtain ⟨x, hyn'⟩ : ∃ x, wx.heap.size = x := ⟨_, rfl⟩; rw [hyn'] at hyn k3 ⊢; clear hw3 hyn'
  refine hK.out _ _ (keep _ hb3) (fun hHeld => ?_)
  clear hK K
  try simp only [Act.put, List.setIfInBounds_toArray, List.set_cons_zero, List.set_cons_succ]
  refine takeH (i := 7) 14 (.agg #[.int .i64 q.t, .int .i64 q.b, .int .i64 q.tb, .int .i64 q.hp, .int .i64 q.sz, .int .i64 c, .int .i64 e, .int .i64 1, .pointer (some ⟨x, 0, none⟩), .pointer none, .int .i64 0]) rfl rfl (by kernel_rfl) (by kernel_rfl) (by kernel_rfl) (fun _ _ _ h => h) (by rfl) ?_ (by assumption) ?_
  · intro w hSw; (try dsimp only at hSw); go_simp
  simp only [List.setIfInBounds_toArray, List.set_cons_zero, List.set_cons_succ]
  refine wpAnyH_ready (rs := [8]) (by kernel_rfl) (by simp) ?_
  refine AllReadyH.cons rfl (fun K hK => ?_) AllReadyH.nil
  go_simp
  refine hK.out _ _ (keep _ (S.bal hb3 _)) (fun hHeld => ?_)
  clear hK K
  try simp only [Act.put, List.setIfInBounds_toArray, List.set_cons_zero, List.set_cons_succ]
  refine takeH (i := 9) 6 (.pointer (some ⟨w3.heap.size, 0, none⟩)) rfl rfl (by kernel_rfl) (by kernel_rfl) (by kernel_rfl) (fun _ _ _ h => h) (by rfl) ?_ (by assumption) ?_
  · intro w hSw; (try dsimp only at hSw); go_simp
  simp only [List.setIfInBounds_toArray, List.set_cons_zero, List.set_cons_succ]
  refine wpAnyH_done (by kernel_rfl) ?_ _
  go_wp2
  go_ret
  have hb4 := S.bal hb3 (.cells #[.int .i64 q.t, .int .i64 q.b, .int .i64 q.tb, .int .i64 q.hp, .int .i64 q.sz, .int .i64 c, .int .i64 e, .int .i64 1, .pointer (some ⟨x, 0, none⟩), .pointer none, .int .i64 0] 164)
  refine ⟨w3.heap.size, x, rfl, heap_alloc_new _ _, ((Below.heap_alloc _ _ _ (lt_of_block k3)).trans k3), hba.trans (hb4.mono hba.size), ?_, Nat.le_trans hba.size hyn⟩
  exact Nat.le_trans hba.size hb3.size
set_option maxHeartbeats 1000000 in
theorem yNewAll (q : Pl) {n m e : Int} (n0 : 0 ≤ n) (n7 : n ≤ 7) (e0 : 0 ≤ e) (e1 : e ≤ 1) (w : World) :
    Calls Tryd.prog 58 #[.agg #[.int .i64 q.t, .int .i64 q.b, .int .i64 q.tb, .int .i64 q.hp, .int .i64 q.sz], .int .i64 n, .int .i64 m, .int .i64 e] w fun v w' => ∃ ap rp xp, v = .returned (.pointer (some ⟨ap, 0, none⟩)) ∧ w'.heap[ap]? = some (.cells ((AllS.new q n m e).rcells q rp) 124 (0, 0)) ∧ w'.heap[rp]? = some (.cells ((ResS.new q (P.Plain.cl n) e).rcells xp (.pointer none)) 164 (0, 0)) ∧ w'.heap[xp]? = some (.cells ((PopS.new (3 + 3 * e + P.Plain.cl n)).rcells 0) 176 (0, 0)) ∧ Below w.heap.size w w' ∧ w.heap.size ≤ ap ∧ w.heap.size ≤ rp ∧ w.heap.size ≤ xp := by
  have clb := cl_bounds n0 n7
  have k0 : 0 ≤ P.Plain.cl n ∧ P.Plain.cl n ≤ 2 := ⟨clb.1, by omega⟩
  obtain ⟨k, hk⟩ : ∃ k, P.Plain.cl n = k := ⟨_, rfl⟩
  rw [hk] at k0 ⊢
  have kb : (w.alloc (.cells q.cells 32)).heap[w.heap.size]? = some (.cells q.cells 32 (0, 0)) := heap_alloc_new _ _
  have hba : Below w.heap.size w (w.alloc (.cells q.cells 32)) := S.bal (Below.refl _ _) _
  go_enter Tryd.func58, Tryd.ntmps58
  go_wp2
  obtain ⟨u, hu⟩ : ∃ u, w.heap.size = u := ⟨_, rfl⟩
  have kb' : (w.alloc (.cells q.cells 32)).heap[u]? = some (.cells q.cells 32 (0, 0)) := hu ▸ kb
  have hule : w.heap.size ≤ u := by omega
  rw [hu]
  clear hu kb
  change Below w.heap.size w (w.alloc (.cells #[.int .i64 q.t, .int .i64 q.b, .int .i64 q.tb, .int .i64 q.hp, .int .i64 q.sz] 32)) at hba
  change (w.alloc (.cells #[.int .i64 q.t, .int .i64 q.b, .int .i64 q.tb, .int .i64 q.hp, .int .i64 q.sz] 32)).heap[u]? = _ at kb'
  generalize w.alloc (.cells #[.int .i64 q.t, .int .i64 q.b, .int .i64 q.tb, .int .i64 q.hp, .int .i64 q.sz] 32) = wa at kb' hba ⊢
  have keep : ∀ w', Below wa.heap.size wa w' → w'.cell? ⟨u, 0, none⟩ = some (.int .i64 q.t) ∧ w'.cell? ⟨u, 1, none⟩ = some (.int .i64 q.b) ∧ w'.cell? ⟨u, 2, none⟩ = some (.int .i64 q.tb) ∧ w'.cell? ⟨u, 3, none⟩ = some (.int .i64 q.hp) ∧ w'.cell? ⟨u, 4, none⟩ = some (.int .i64 q.sz) := fun w' h => by
    have k := (h.block u (lt_of_block kb')).trans kb'
    exact ⟨cell_of_row w' _ _ _ _ _ k, cell_of_row w' _ _ _ _ _ k, cell_of_row w' _ _ _ _ _ k, cell_of_row w' _ _ _ _ _ k, cell_of_row w' _ _ _ _ _ k⟩
  have hbd : Below wa.heap.size wa wa.drew := (Below.refl wa.heap.size wa).drew
  have RD := keep _ hbd
  refine wp_region_held_drew (S := fun w' => w'.cell? ⟨u, 0, none⟩ = some (.int .i64 q.t) ∧ w'.cell? ⟨u, 1, none⟩ = some (.int .i64 q.b) ∧ w'.cell? ⟨u, 2, none⟩ = some (.int .i64 q.tb) ∧ w'.cell? ⟨u, 3, none⟩ = some (.int .i64 q.hp) ∧ w'.cell? ⟨u, 4, none⟩ = some (.int .i64 q.sz)) (by kernel_rfl) RD (fun hHeld => ?_)
  refine takeH (i := 0) 9 (.agg #[.int .i64 q.t, .int .i64 q.b, .int .i64 q.tb, .int .i64 q.hp, .int .i64 q.sz]) rfl rfl (by kernel_rfl) (by kernel_rfl) (by kernel_rfl) (fun _ _ _ h => h) (by rfl) ?_ (by assumption) ?_
  · intro w hSw; (try dsimp only at hSw); go_simp
  simp only [List.setIfInBounds_toArray, List.set_cons_zero, List.set_cons_succ]
  refine takeH (i := 1) 10 (.int .i64 n) rfl rfl (by kernel_rfl) (by kernel_rfl) (by kernel_rfl) (fun _ _ _ h => h) (by rfl) ?_ (by assumption) ?_
  · intro w hSw; (try dsimp only at hSw); go_simp
  simp only [List.setIfInBounds_toArray, List.set_cons_zero, List.set_cons_succ]
  refine takeH (i := 2) 11 (.int .i64 m) rfl rfl (by kernel_rfl) (by kernel_rfl) (by kernel_rfl) (fun _ _ _ h => h) (by rfl) ?_ (by assumption) ?_
  · intro w hSw; (try dsimp only at hSw); go_simp
  simp only [List.setIfInBounds_toArray, List.set_cons_zero, List.set_cons_succ]
  refine takeH (i := 3) 12 (.agg #[.int .i64 q.t, .int .i64 q.b, .int .i64 q.tb, .int .i64 q.hp, .int .i64 q.sz]) rfl rfl (by kernel_rfl) (by kernel_rfl) (by kernel_rfl) (fun _ _ _ h => h) (by rfl) ?_ (by assumption) ?_
  · intro w hSw; (try dsimp only at hSw); go_simp
  simp only [List.setIfInBounds_toArray, List.set_cons_zero, List.set_cons_succ]
  refine takeH (i := 4) 13 (.int .i64 n) rfl rfl (by kernel_rfl) (by kernel_rfl) (by kernel_rfl) (fun _ _ _ h => h) (by rfl) ?_ (by assumption) ?_
  · intro w hSw; (try dsimp only at hSw); go_simp
  simp only [List.setIfInBounds_toArray, List.set_cons_zero, List.set_cons_succ]
  refine takeH (i := 6) 15 (.int .i64 e) rfl rfl (by kernel_rfl) (by kernel_rfl) (by kernel_rfl) (fun _ _ _ h => h) (by rfl) ?_ (by assumption) ?_
  · intro w hSw; (try dsimp only at hSw); go_simp
  simp only [List.setIfInBounds_toArray, List.set_cons_zero, List.set_cons_succ]
  refine wpAnyH_ready (rs := [5]) (by kernel_rfl) (by simp) ?_
  refine AllReadyH.cons rfl (fun K hK => ?_) AllReadyH.nil
  go_simp
  refine (P.rClass n _).mono ?_; rintro e' wx ⟨rfl, hwx⟩; rw [hk]; have hbx : Below wa.heap.size wa wx := (by rw [hwx]; exact hbd); clear hwx
  refine hK.out _ _ (keep _ hbx) (fun hHeld => ?_)
  clear hK K
  try simp only [Act.put, List.setIfInBounds_toArray, List.set_cons_zero, List.set_cons_succ]
  refine wpAnyH_ready (rs := [7]) (by kernel_rfl) (by simp) ?_
  refine AllReadyH.cons rfl (fun K hK => ?_) AllReadyH.nil
  go_simp
  refine (yNewRes q k0.1 k0.2 e0 e1 _).mono ?_; rintro e' w3 ⟨rp, xp, rfl, k3, k4, hb3', hr, hx⟩; have hb3 : Below wa.heap.size wa w3 := bel_trans hbx hb3'; have hr' : wa.heap.size ≤ rp := Nat.le_trans hbx.size hr; have hx' : wa.heap.size ≤ xp := Nat.le_trans hbx.size hx; clear hb3' hr hx
  refine hK.out _ _ (keep _ hb3) (fun hHeld => ?_)
  clear hK K
  try simp only [Act.put, List.setIfInBounds_toArray, List.set_cons_zero, List.set_cons_succ]
  refine takeH (i := 8) 17 (.agg #[.int .i64 q.t, .int .i64 q.b, .int .i64 q.tb, .int .i64 q.hp, .int .i64 q.sz, .int .i64 n, .int .i64 m, .int .i64 1, .int .i64 0, .pointer (some ⟨rp, 0, none⟩), .int .i64 0]) rfl rfl (by kernel_rfl) (by kernel_rfl) (by kernel_rfl) (fun _ _ _ h => h) (by rfl) ?_ (by assumption) ?_
  · intro w hSw; (try dsimp only at hSw); go_simp
  simp only [List.setIfInBounds_toArray, List.set_cons_zero, List.set_cons_succ]
  refine wpAnyH_ready (rs := [9]) (by kernel_rfl) (by simp) ?_
  refine AllReadyH.cons rfl (fun K hK => ?_) AllReadyH.nil
  go_simp
  refine hK.out _ _ (keep _ (S.bal hb3 _)) (fun hHeld => ?_)
  clear hK K
  try simp only [Act.put, List.setIfInBounds_toArray, List.set_cons_zero, List.set_cons_succ]
  refine takeH (i := 10) 8 (.pointer (some ⟨w3.heap.size, 0, none⟩)) rfl rfl (by kernel_rfl) (by kernel_rfl) (by kernel_rfl) (fun _ _ _ h => h) (by rfl) ?_ (by assumption) ?_
  · intro w hSw; (try dsimp only at hSw); go_simp
  simp only [List.setIfInBounds_toArray, List.set_cons_zero, List.set_cons_succ]
  refine wpAnyH_done (by kernel_rfl) ?_ _
  go_wp2
  go_ret
  have hb4 := S.bal hb3 (.cells #[.int .i64 q.t, .int .i64 q.b, .int .i64 q.tb, .int .i64 q.hp, .int .i64 q.sz, .int .i64 n, .int .i64 m, .int .i64 1, .int .i64 0, .pointer (some ⟨rp, 0, none⟩), .int .i64 0] 124)
  refine ⟨w3.heap.size, rp, xp, rfl, heap_alloc_new _ _, (Below.heap_alloc _ _ _ (lt_of_block k3)).trans k3, (Below.heap_alloc _ _ _ (lt_of_block k4)).trans k4, hba.trans (hb4.mono hba.size), Nat.le_trans hba.size hb3.size, Nat.le_trans hba.size hr', Nat.le_trans hba.size hx'⟩
end Go.Proofs.YtoablodmodnamaaDoor
