/-
  Contract of Alloc.
-/
import Derived.Test.YtbihdkdefopijaaGc4
namespace Go.Proofs.Ytbihdkdefopijaa
set_option linter.unusedVariables false
set_option linter.unusedSimpArgs false
open Go.ChangeShapes Go.WideShapes Go.ChangeAt Go.RowKit

theorem ocs_new (n : Nat) (h : n ≤ 7) : ocs (List.replicate n (0, 0)) = [.int .i64 n, .int .i64 0, .int .i64 0, .int .i64 0, .int .i64 0, .int .i64 0, .int .i64 0, .int .i64 0, .int .i64 0, .int .i64 0, .int .i64 0, .int .i64 0, .int .i64 0, .int .i64 0, .int .i64 0] := by
  match n, h with
  | 0, _ => rfl
  | 1, _ => rfl
  | 2, _ => rfl
  | 3, _ => rfl
  | 4, _ => rfl
  | 5, _ => rfl
  | 6, _ => rfl
  | 7, _ => rfl
theorem alloc_end {w2 w3 : World} {L : Loc} {g2 : Gr} {n og oc : Nat} (h7 : n ≤ 7) (hg : GAt w2 L g2)
    (hown : w3.ownsRow 0 77 15 (.slice (some ⟨og, 0, none⟩) (g2.os.length + 1) oc) (g2.os.length + 1) (ocells g2.os ++ [.int .i64 n, .int .i64 0, .int .i64 0, .int .i64 0, .int .i64 0, .int .i64 0, .int .i64 0, .int .i64 0, .int .i64 0, .int .i64 0, .int .i64 0, .int .i64 0, .int .i64 0, .int .i64 0, .int .i64 0]))
    (hgr : (w2.alloc (.cells #[.int .i64 n, .int .i64 0, .int .i64 0, .int .i64 0, .int .i64 0, .int .i64 0, .int .i64 0, .int .i64 0, .int .i64 0, .int .i64 0, .int .i64 0, .int .i64 0, .int .i64 0, .int .i64 0, .int .i64 0] 77)).drew.grownBy w3 L.vo.ownBlock) (hn : L.vo.ownBlock = some og ∨ w2.heap.size ≤ og) :
    GAt (w3.setCell ⟨L.b, 1, none⟩ (.slice (some ⟨og, 0, none⟩) (g2.os.length + 1) oc)) ⟨L.b, L.tg, L.tc, .slice (some ⟨og, 0, none⟩) (g2.os.length + 1) oc⟩ ⟨g2.ts, g2.os ++ [List.replicate n (0, 0)]⟩ ∧
    Step w2 L (w3.setCell ⟨L.b, 1, none⟩ (.slice (some ⟨og, 0, none⟩) (g2.os.length + 1) oc)) ⟨L.b, L.tg, L.tc, .slice (some ⟨og, 0, none⟩) (g2.os.length + 1) oc⟩ ∧
    w3.heap[L.b]? = some (.cells #[.slice (some ⟨L.tg, 0, none⟩) g2.ts.length L.tc, L.vo] 65 (0, 0)) := by
  have K0 : Kept L.fp w2 (w2.alloc (.cells #[.int .i64 n, .int .i64 0, .int .i64 0, .int .i64 0, .int .i64 0, .int .i64 0, .int .i64 0, .int .i64 0, .int .i64 0, .int .i64 0, .int .i64 0, .int .i64 0, .int .i64 0, .int .i64 0, .int .i64 0] 77)).drew := (Kept.alloc L.fp w2 _).trans (Kept.drew L.fp _) fun _ hk => .inl hk
  have K1 : Kept L.fp w2 w3 := K0.trans (Kept.grown L.fp hgr fun k hk => by simp [Loc.fp, hk]) fun _ hk => .inl hk
  have hb : w3.heap[L.b]? = some (.cells #[.slice (some ⟨L.tg, 0, none⟩) g2.ts.length L.tc, L.vo] 65 (0, 0)) := by
    rw [hgr.block L.b (Nat.lt_of_lt_of_le (lt_of_block hg.blk) K0.size) (fun e => hg.bo e.symm)]
    exact (hg.alloc _).drew.blk
  have hgb : og ≠ L.b := by
    rintro rfl
    rcases hn with hn | hn
    · exact hg.bo hn
    · have := lt_of_block hg.blk; omega
  have hgt : L.vo.ownBlock ≠ some L.tg := hg.to
  refine ⟨⟨?_, ?_, ?_, fun h => by simp at h⟩, ⟨K1.trans (Kept.setCell L.fp w3 ⟨L.b, 1, none⟩ _ (by simp [Loc.fp])) fun _ hk => .inl hk, ?_, rfl⟩, hb⟩
  · rw [heap_setCell_same w3 _ 1 _ _ _ hb]; rfl
  · have r1 := (hg.alloc (.cells #[.int .i64 n, .int .i64 0, .int .i64 0, .int .i64 0, .int .i64 0, .int .i64 0, .int .i64 0, .int .i64 0, .int .i64 0, .int .i64 0, .int .i64 0, .int .i64 0, .int .i64 0, .int .i64 0, .int .i64 0] 77)).drew.thr.kept hgr (.inr (by simp only [Value.ownBlock]; exact fun e => hgt e.symm))
    exact ownsRow_setCell_other r1 (by simp [Value.ownBlock]; exact fun e => hg.bt e.symm) _
  · have := ownsRow_setCell_other hown (a := ⟨L.b, 1, none⟩) (by simp [Value.ownBlock]; exact hgb) (.slice (some ⟨og, 0, none⟩) (g2.os.length + 1) oc)
    simp only [List.length_append, List.length_singleton, ocells_append]
    simpa [ocells, ocs_new n h7] using this
  · intro k hk
    simp only [Loc.fp, Value.ownBlock, Option.toList_some, List.mem_cons, List.not_mem_nil, or_false] at hk
    rcases hk with rfl | rfl | rfl
    · exact .inl (by simp [Loc.fp])
    · exact .inl (by simp [Loc.fp])
    · rcases hn with hn | hn
      · exact .inl (by simp [Loc.fp, hn])
      · exact .inr hn
theorem new15 (W : World) (k : Nat) (hk : W.heap.size = k) (l : List Value) (T : TypeId) : ∀ j u, l[j]? = some u → (W.alloc (.cells l.toArray T)).drew.cell? ((⟨k, 0, none⟩ : Addr).add j) = some u := by
  subst hk
  intro j u hu
  rw [Addr.add_lit, Nat.zero_add]
  show (W.alloc (.cells l.toArray T)).cell? _ = _
  rw [cell_of_row _ _ _ _ _ _ (heap_alloc_new W _)]
  simpa using hu

set_option maxRecDepth 100000 in
set_option maxHeartbeats 400000 in
theorem cAllocBad0 {w : World} {L : Loc} {g : Gr} (hg : GAt w L g) (f : g.Fit) (t n : Int) (hT : g.isT t = false) :
    Calls Try.prog 13 #[.pointer (some ⟨L.b, 0, none⟩), .int .i64 t, .int .i64 n] w fun e w' => e = .returned (.int .i64 1) ∧ GAt w' L g ∧ Step w L w' L := by
  have hg1 := hg.alloc (.cells #[.pointer (some ⟨L.b, 0, none⟩)] 24)
  go_enter Try.func13, Try.ntmps13
  go_wp2_with (go_at_call 34; refine (cHas hg1 f t).mono ?_; rintro e w1 ⟨rfl, hw⟩; rw [hw, hT]; clear hw w1)
  go_ret
  exact ⟨rfl, hg1, Step.of_below (bal (Below.refl _ _) _)⟩
set_option maxRecDepth 100000 in
set_option maxHeartbeats 400000 in
theorem cAllocBad1 {w : World} {L : Loc} {g : Gr} (hg : GAt w L g) (f : g.Fit) (t n : Int) (hT : g.isT t = true) (hn : n < 0 ∨ 7 < n) :
    Calls Try.prog 13 #[.pointer (some ⟨L.b, 0, none⟩), .int .i64 t, .int .i64 n] w fun e w' => e = .returned (.int .i64 10) ∧ GAt w' L g ∧ Step w L w' L := by
  have hg1 := hg.alloc (.cells #[.pointer (some ⟨L.b, 0, none⟩)] 24)
  rcases hn with hn | hn
  all_goals
    go_enter Try.func13, Try.ntmps13
    go_wp2_with (go_at_call 34; refine (cHas hg1 f t).mono ?_; rintro e w1 ⟨rfl, hw⟩; rw [hw, hT]; clear hw w1)
    go_ret
    exact ⟨rfl, hg1, Step.of_below (bal (Below.refl _ _) _)⟩

set_option maxRecDepth 100000 in
set_option maxHeartbeats 400000 in
theorem cAllocFull {w : World} {L : Loc} {g : Gr} (hg : GAt w L g) (f : g.Fit) (t n : Nat) (h : t < g.ts.length) (hn : n ≤ 7) (r : List Int) (hr : g.ts.getD t [] = r) (E : Int) (hE : Rw.pushE r = E) (hE0 : (E == 0) = false) (hE1 : E ≠ 0) :
    Calls Try.prog 13 #[.pointer (some ⟨L.b, 0, none⟩), .int .i64 t, .int .i64 n] w fun e w' => e = .returned (.int .i64 E) ∧ GAt w' L g ∧ Step w L w' L := by
  have hT : g.isT t = true := by simp [Gr.isT, h]
  have h8 : r.length ≤ 8 := hr ▸ f.rs8 t
  have hg1 := hg.alloc (.cells #[.pointer (some ⟨L.b, 0, none⟩)] 24)
  have hq : (w.alloc (.cells #[.pointer (some ⟨L.b, 0, none⟩)] 24)).cell? ⟨w.heap.size, 0, none⟩ = some (.pointer (some ⟨L.b, 0, none⟩)) := cell_of_one (heap_alloc_new w _)
  have hl : w.heap.size < (w.alloc (.cells #[.pointer (some ⟨L.b, 0, none⟩)] 24)).heap.size := by simp
  have n0 : (0 : Int) ≤ (n : Int) := by omega
  have n7 : (n : Int) ≤ 7 := by omega
  have hg0 : g.chg t (Rw.push r (g.os.length + 1)) E = g := by unfold Gr.chg; rw [if_neg hE1]
  clear hE1
  go_enter Try.func13, Try.ntmps13
  go_wp2_with (first
    | (go_at_call 34; refine (cHas hg1 f t).mono ?_; rintro e w1 ⟨rfl, hw⟩; rw [hw, hT]; clear hw w1)
    | (go_at_call 35; refine (cChgAlloc hg1 f t h w.heap.size r _ _ hr (cAlloc1 hg1 f r h8 _ hq hl)).mono ?_; rintro e w2 ⟨rfl, hR, hS⟩; rw [hE, hg0] at hR; rw [hE]))
  go_ret
  exact ⟨rfl, hR, Step.after (Kept.alloc _ _ _) hS⟩
set_option maxRecDepth 100000 in
set_option maxHeartbeats 400000 in
theorem cAllocGood {w : World} {L : Loc} {g : Gr} (hg : GAt w L g) (f : g.Fit) (t n : Nat) (h : t < g.ts.length) (hn : n ≤ 7) (r : List Int) (hr : g.ts.getD t [] = r) (hE : Rw.pushE r = 0) :
    Calls Try.prog 13 #[.pointer (some ⟨L.b, 0, none⟩), .int .i64 t, .int .i64 n] w fun e w' => e = .returned (.int .i64 0) ∧ ∃ L', GAt w' L' ⟨g.ts.set t (Rw.push r (g.os.length + 1)), g.os ++ [List.replicate n (0, 0)]⟩ ∧ Step w L w' L' := by
  have hT : g.isT t = true := by simp [Gr.isT, h]
  have h8 : r.length ≤ 8 := hr ▸ f.rs8 t
  have hg1 := hg.alloc (.cells #[.pointer (some ⟨L.b, 0, none⟩)] 24)
  have hq : (w.alloc (.cells #[.pointer (some ⟨L.b, 0, none⟩)] 24)).cell? ⟨w.heap.size, 0, none⟩ = some (.pointer (some ⟨L.b, 0, none⟩)) := cell_of_one (heap_alloc_new w _)
  have hl : w.heap.size < (w.alloc (.cells #[.pointer (some ⟨L.b, 0, none⟩)] 24)).heap.size := by simp
  have n0 : (0 : Int) ≤ (n : Int) := by omega
  have n7 : (n : Int) ≤ 7 := by omega
  have ob := f.ob
  obtain ⟨i0, hi, hz0, hz1, hz2⟩ := info_parts infoObj
  have hg0 : g.chg t (Rw.push r (g.os.length + 1)) 0 = ⟨g.ts.set t (Rw.push r (g.os.length + 1)), g.os⟩ := by unfold Gr.chg; rw [if_pos rfl]; rfl
  generalize hts : g.ts.set t (Rw.push r (g.os.length + 1)) = ts2 at hg0 ⊢
  have hnot := hg.new_notin (Nat.le_refl _)
  go_enter Try.func13, Try.ntmps13
  go_wp2_with (first
    | (go_at_call 34; refine (cHas hg1 f t).mono ?_; rintro e w1 ⟨rfl, hw⟩; rw [hw, hT]; clear hw w1)
    | (go_at_call 35; refine (cChgAlloc hg1 f t h w.heap.size r _ _ hr (cAlloc1 hg1 f r h8 _ hq hl)).mono ?_; rintro e w2 ⟨rfl, hR, hS⟩; rw [hE, hg0] at hR; rw [hE]; have q2 : w2.cell? ⟨w.heap.size, 0, none⟩ = some (.pointer (some ⟨L.b, 0, none⟩)) := (World.cell?_of_block (hS.kept.block _ hl hnot)).trans hq))
  have c1 := hR.cell1
  have f1 := hR.free 1
  have hlb : L.b < w2.heap.size := lt_of_block hR.blk
  have hlq : w.heap.size < w2.heap.size := Nat.lt_of_lt_of_le hl hS.kept.size
  have S0 : w2.drew.cell? ⟨w.heap.size, 0, none⟩ = some (.pointer (some ⟨L.b, 0, none⟩)) ∧ w.heap.size ≤ w2.drew.heap.size := ⟨q2, Nat.le_of_lt hlq⟩
  have SA : ∀ o, (w2.alloc o).drew.cell? ⟨w.heap.size, 0, none⟩ = some (.pointer (some ⟨L.b, 0, none⟩)) ∧ w.heap.size ≤ (w2.alloc o).drew.heap.size := fun o => ⟨((bal (Below.refl w2.heap.size w2) o).drew.cell hlq).trans q2, Nat.le_of_lt (Nat.lt_of_lt_of_le hlq (Kept.alloc [] w2 o).size)⟩
  have SC : ∀ (o : Obj) (w3 : World), (w2.alloc o).drew.grownBy w3 L.vo.ownBlock → (w3.cell? ⟨w.heap.size, 0, none⟩ = some (.pointer (some ⟨L.b, 0, none⟩)) ∧ w.heap.size ≤ w3.heap.size) ∧ ∀ u, (w3.setCell ⟨L.b, 1, none⟩ u).cell? ⟨w.heap.size, 0, none⟩ = some (.pointer (some ⟨L.b, 0, none⟩)) ∧ w.heap.size ≤ (w3.setCell ⟨L.b, 1, none⟩ u).heap.size := fun o w3 hgr => by
    have K := ((Kept.alloc L.fp w2 o).trans (Kept.drew L.fp _) fun _ hk => .inl hk).trans (Kept.grown L.fp hgr fun k hk => by simp [Loc.fp, hk]) fun _ hk => .inl hk
    have z : w3.cell? ⟨w.heap.size, 0, none⟩ = some (.pointer (some ⟨L.b, 0, none⟩)) := (World.cell?_of_block (K.block _ hlq hnot)).trans q2
    have z2 : w.heap.size ≤ w3.heap.size := Nat.le_trans (Nat.le_of_lt hlq) K.size
    refine ⟨⟨z, z2⟩, fun u => ⟨?_, by simpa using z2⟩⟩
    have hne : w.heap.size ≠ L.b := fun e => hnot (by rw [e]; simp [Loc.fp])
    exact (World.cell?_of_block (Below.heap_setCell w3 ⟨L.b, 1, none⟩ u w.heap.size hne)).trans z
  refine wp_region_held_drew (S := fun w' => w'.cell? ⟨w.heap.size, 0, none⟩ = some (.pointer (some ⟨L.b, 0, none⟩)) ∧ w.heap.size ≤ w'.heap.size) (by kernel_rfl) S0 (fun hHeld => ?_)
  refine takeH (i := 0) 24 (.pointer (some ⟨L.b, 0, none⟩)) rfl rfl (by kernel_rfl) (by kernel_rfl) (by kernel_rfl) (fun _ _ _ h => h) (by rfl) ?_ (by assumption) ?_
  · intro w hSw; (try dsimp only at hSw); go_simp
  simp only [List.setIfInBounds_toArray, List.set_cons_zero, List.set_cons_succ]
  refine takeH (i := 1) 25 (.pointer (some ⟨L.b, 0, none⟩)) rfl rfl (by kernel_rfl) (by kernel_rfl) (by kernel_rfl) (fun _ _ _ h => h) (by rfl) ?_ (by assumption) ?_
  · intro w hSw; (try dsimp only at hSw); go_simp
  simp only [List.setIfInBounds_toArray, List.set_cons_zero, List.set_cons_succ]
  refine takeH (i := 2) 26 (.pointer (some ⟨L.b, 0, none⟩)) rfl rfl (by kernel_rfl) (by kernel_rfl) (by kernel_rfl) (fun _ _ _ h => h) (by rfl) ?_ (by assumption) ?_
  · intro w hSw; (try dsimp only at hSw); go_simp
  simp only [List.setIfInBounds_toArray, List.set_cons_zero, List.set_cons_succ]
  refine takeH (i := 3) 27 (.pointer (some ⟨L.b, 1, none⟩)) rfl rfl (by kernel_rfl) (by kernel_rfl) (by kernel_rfl) (fun _ _ _ h => h) (by rfl) ?_ (by assumption) ?_
  · intro w hSw; (try dsimp only at hSw); go_simp
  simp only [List.setIfInBounds_toArray, List.set_cons_zero, List.set_cons_succ]
  refine takeH (i := 5) 29 (.int .i64 n) rfl rfl (by kernel_rfl) (by kernel_rfl) (by kernel_rfl) (fun _ _ _ h => h) (by rfl) ?_ (by assumption) ?_
  · intro w hSw; (try dsimp only at hSw); go_simp
  simp only [List.setIfInBounds_toArray, List.set_cons_zero, List.set_cons_succ]
  refine takeH (i := 6) 30 (.agg #[.int .i64 n, .int .i64 0, .int .i64 0, .int .i64 0, .int .i64 0, .int .i64 0, .int .i64 0, .int .i64 0, .int .i64 0, .int .i64 0, .int .i64 0, .int .i64 0, .int .i64 0, .int .i64 0, .int .i64 0]) rfl rfl (by kernel_rfl) (by kernel_rfl) (by kernel_rfl) (fun _ _ _ h => h) (by rfl) ?_ (by assumption) ?_
  · intro w hSw; (try dsimp only at hSw); go_simp
  simp only [List.setIfInBounds_toArray, List.set_cons_zero, List.set_cons_succ]
  refine wpAnyH_ready (rs := [4, 7]) (by kernel_rfl) (by simp) ?_
  refine AllReadyH.cons rfl (fun K hK => ?_) (AllReadyH.cons rfl (fun K hK => ?_) AllReadyH.nil)
  · go_simp
    refine hK.out _ _ S0 (fun hHeld => ?_)
    clear hK K
    try simp only [Act.put, List.setIfInBounds_toArray, List.set_cons_zero, List.set_cons_succ]
    refine wpAnyH_ready (rs := [7]) (by kernel_rfl) (by simp) ?_
    refine AllReadyH.cons rfl (fun K hK => ?_) AllReadyH.nil
    go_simp
    refine hK.out _ _ (SA _) (fun hHeld => ?_)
    clear hK K
    try simp only [Act.put, List.setIfInBounds_toArray, List.set_cons_zero, List.set_cons_succ]
    refine wpAnyH_ready (rs := [8]) (by kernel_rfl) (by simp) ?_
    refine AllReadyH.cons rfl (fun K hK => ?_) AllReadyH.nil
    refine step_append_mine 32 rfl rfl _ _ 63 rfl 77 i0 _ 15 120 Try.underlying63 hi hz0 hz1 hz2 rfl (by decide) L.vo _ _ rfl ((hR.obj.alloc _)) ⟨w2.heap.size, 0, none⟩ 1 1 [.int .i64 n, .int .i64 0, .int .i64 0, .int .i64 0, .int .i64 0, .int .i64 0, .int .i64 0, .int .i64 0, .int .i64 0, .int .i64 0, .int .i64 0, .int .i64 0, .int .i64 0, .int .i64 0, .int .i64 0] rfl rfl (new15 _ _ rfl _ _) (by intro u hu; simp at hu; rcases hu with rfl | rfl <;> rfl) (by show g.os.length + 1 ≤ maxLen; unfold maxLen; omega) (by show (g.os.length + 1) * 120 ≤ _; omega) (by decide) ?_
    intro og oc w3 hown hgr hnew
    have R := alloc_end hn hR hown hgr (hnew.imp id fun h => Nat.le_trans (Kept.alloc [] w2 _).size h)
    have R2 := SC _ _ hgr
    have c3 : w3.cell? ⟨L.b, 1, none⟩ = some L.vo := by rw [cell_of_row w3 _ _ _ _ _ R.2.2]; rfl
    have f3 : w3.frozen? ⟨L.b, 1, none⟩ = false := frozen_of_row w3 _ _ _ _ R.2.2
    refine hK.out _ _ R2.1 (fun hHeld => ?_)
    clear hK K
    try simp only [Act.put, List.setIfInBounds_toArray, List.set_cons_zero, List.set_cons_succ]
    refine takeH (i := 9) 33 (.pointer (some ⟨L.b, 0, none⟩)) rfl rfl (by kernel_rfl) (by kernel_rfl) (by kernel_rfl) (fun _ _ _ h => h) (by rfl) ?_ (by assumption) ?_
    · intro w hSw; (try dsimp only at hSw); go_simp
    simp only [List.setIfInBounds_toArray, List.set_cons_zero, List.set_cons_succ]
    refine takeH (i := 10) 34 (.pointer (some ⟨L.b, 1, none⟩)) rfl rfl (by kernel_rfl) (by kernel_rfl) (by kernel_rfl) (fun _ _ _ h => h) (by rfl) ?_ (by assumption) ?_
    · intro w hSw; (try dsimp only at hSw); go_simp
    simp only [List.setIfInBounds_toArray, List.set_cons_zero, List.set_cons_succ]
    refine wpAnyH_ready (rs := [11]) (by kernel_rfl) (by simp) ?_
    refine AllReadyH.cons rfl (fun K hK => ?_) AllReadyH.nil
    go_simp
    refine hK.out _ _ (R2.2 _) (fun hHeld => ?_)
    clear hK K
    try simp only [Act.put, List.setIfInBounds_toArray, List.set_cons_zero, List.set_cons_succ]
    refine wpAnyH_done (by kernel_rfl) ?_ _
    go_wp2
    go_ret
    exact ⟨rfl, _, R.1, Step.after (Kept.alloc _ _ _) (hS.trans R.2.1)⟩
  · go_simp
    refine hK.out _ _ (SA _) (fun hHeld => ?_)
    clear hK K
    try simp only [Act.put, List.setIfInBounds_toArray, List.set_cons_zero, List.set_cons_succ]
    refine wpAnyH_ready (rs := [4]) (by kernel_rfl) (by simp) ?_
    refine AllReadyH.cons rfl (fun K hK => ?_) AllReadyH.nil
    go_simp
    refine hK.out _ _ (SA _) (fun hHeld => ?_)
    clear hK K
    try simp only [Act.put, List.setIfInBounds_toArray, List.set_cons_zero, List.set_cons_succ]
    refine wpAnyH_ready (rs := [8]) (by kernel_rfl) (by simp) ?_
    refine AllReadyH.cons rfl (fun K hK => ?_) AllReadyH.nil
    refine step_append_mine 32 rfl rfl _ _ 63 rfl 77 i0 _ 15 120 Try.underlying63 hi hz0 hz1 hz2 rfl (by decide) L.vo _ _ rfl ((hR.obj.alloc _)) ⟨w2.heap.size, 0, none⟩ 1 1 [.int .i64 n, .int .i64 0, .int .i64 0, .int .i64 0, .int .i64 0, .int .i64 0, .int .i64 0, .int .i64 0, .int .i64 0, .int .i64 0, .int .i64 0, .int .i64 0, .int .i64 0, .int .i64 0, .int .i64 0] rfl rfl (new15 _ _ rfl _ _) (by intro u hu; simp at hu; rcases hu with rfl | rfl <;> rfl) (by show g.os.length + 1 ≤ maxLen; unfold maxLen; omega) (by show (g.os.length + 1) * 120 ≤ _; omega) (by decide) ?_
    intro og oc w3 hown hgr hnew
    have R := alloc_end hn hR hown hgr (hnew.imp id fun h => Nat.le_trans (Kept.alloc [] w2 _).size h)
    have R2 := SC _ _ hgr
    have c3 : w3.cell? ⟨L.b, 1, none⟩ = some L.vo := by rw [cell_of_row w3 _ _ _ _ _ R.2.2]; rfl
    have f3 : w3.frozen? ⟨L.b, 1, none⟩ = false := frozen_of_row w3 _ _ _ _ R.2.2
    refine hK.out _ _ R2.1 (fun hHeld => ?_)
    clear hK K
    try simp only [Act.put, List.setIfInBounds_toArray, List.set_cons_zero, List.set_cons_succ]
    refine takeH (i := 9) 33 (.pointer (some ⟨L.b, 0, none⟩)) rfl rfl (by kernel_rfl) (by kernel_rfl) (by kernel_rfl) (fun _ _ _ h => h) (by rfl) ?_ (by assumption) ?_
    · intro w hSw; (try dsimp only at hSw); go_simp
    simp only [List.setIfInBounds_toArray, List.set_cons_zero, List.set_cons_succ]
    refine takeH (i := 10) 34 (.pointer (some ⟨L.b, 1, none⟩)) rfl rfl (by kernel_rfl) (by kernel_rfl) (by kernel_rfl) (fun _ _ _ h => h) (by rfl) ?_ (by assumption) ?_
    · intro w hSw; (try dsimp only at hSw); go_simp
    simp only [List.setIfInBounds_toArray, List.set_cons_zero, List.set_cons_succ]
    refine wpAnyH_ready (rs := [11]) (by kernel_rfl) (by simp) ?_
    refine AllReadyH.cons rfl (fun K hK => ?_) AllReadyH.nil
    go_simp
    refine hK.out _ _ (R2.2 _) (fun hHeld => ?_)
    clear hK K
    try simp only [Act.put, List.setIfInBounds_toArray, List.set_cons_zero, List.set_cons_succ]
    refine wpAnyH_done (by kernel_rfl) ?_ _
    go_wp2
    go_ret
    exact ⟨rfl, _, R.1, Step.after (Kept.alloc _ _ _) (hS.trans R.2.1)⟩

theorem cAllocG {w : World} {L : Loc} {g : Gr} (hg : GAt w L g) (f : g.Fit) (t n : Int) :
    Calls Try.prog 13 #[.pointer (some ⟨L.b, 0, none⟩), .int .i64 t, .int .i64 n] w fun e w' => e = .returned (.int .i64 (g.allocE t n)) ∧ ∃ L', GAt w' L' (g.alloc t n) ∧ Step w L w' L' := by
  rcases h : g.isT t with _ | _
  · refine (cAllocBad0 hg f t n h).mono ?_
    rintro e w' ⟨rfl, hR, hS⟩
    exact ⟨by simp [Gr.allocE, h], L, by simpa [Gr.alloc, Gr.allocE, h] using hR, hS⟩
  · by_cases hn : 0 ≤ n ∧ n ≤ 7
    · obtain ⟨k, rfl, hk⟩ := isT_nat h
      obtain ⟨m, rfl⟩ : ∃ m : Nat, n = m := ⟨n.toNat, by omega⟩
      have eE : g.allocE k m = Rw.pushE (g.ts.getD k []) := by unfold Gr.allocE; rw [if_pos h, if_pos hn]; rfl
      unfold Gr.alloc
      rw [eE]
      by_cases e0 : Rw.pushE (g.ts.getD k []) = 0
      · refine (cAllocGood hg f k m hk (by omega) _ rfl e0).mono ?_
        rintro e w' ⟨rfl, L', hR, hS⟩
        rw [c_err e0] at hR
        refine ⟨by rw [e0], L', ?_, hS⟩
        rw [if_pos e0]
        exact hR
      · refine (cAllocFull hg f k m hk (by omega) _ rfl _ rfl (by simpa using e0) e0).mono ?_
        rintro e w' ⟨rfl, hR, hS⟩
        refine ⟨rfl, L, ?_, hS⟩
        rw [if_neg e0]
        exact hR
    · refine (cAllocBad1 hg f t n h (by omega)).mono ?_
      rintro e w' ⟨rfl, hR, hS⟩
      have eE : g.allocE t n = 10 := by unfold Gr.allocE; rw [if_pos h, if_neg hn]
      exact ⟨by rw [eE], L, by unfold Gr.alloc; rw [eE]; exact hR, hS⟩
end Go.Proofs.Ytbihdkdefopijaa
