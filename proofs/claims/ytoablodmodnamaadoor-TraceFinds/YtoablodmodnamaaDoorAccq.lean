/-
  Contracts of the four accesses.
-/
import Derived.Test.YtoablodmodnamaaDoorAcc0q
namespace Go.Proofs.YtoablodmodnamaaDoor
set_option linter.unusedVariables false
open Go.ChangeShapes Go.WideShapes Go.RowKit

theorem Step.after {w w1 w2 : World} {L L' : Loc} (k : Kept L.fp w w1) (h : Step w1 L w2 L') : Step w L w2 L' :=
  ⟨k.trans h.kept fun _ hk => .inl hk, fun j hj => (h.new j hj).imp id fun h' => Nat.le_trans k.size h', h.b⟩
theorem St.is1_nat {s : St} {a : Int} (h : s.is1 a = true) : ∃ n : Nat, a = n ∧ n < s.ws.length := by
  simp [St.is1] at h
  exact ⟨a.toNat, by omega, by omega⟩
theorem St.is2_nat {s : St} {a : Int} (h : s.is2 a = true) : ∃ n : Nat, a = n ∧ n + 1 < s.ws.length := by
  simp [St.is2] at h
  exact ⟨a.toNat, by omega, by omega⟩
theorem new_notin {T : TypeId} {w : World} {L : Loc} {s : St} (h : MemAt T w L s) {k : Nat} (hk : w.heap.size ≤ k) : k ∉ L.fp := fun h' => by have := h.lt k h'; omega

theorem fit_if {b : Bool} {s t : St} (h : s.Fit) (k : t.Fit) : (if b = true then s else t).Fit := by cases b <;> simpa
/-- Load -/
theorem aLoad {w : World} {L : Loc} {s : St} (hm : Mm w L s) (f : s.Fit) (hc : s.c < 1000000) (a : Int) :
    Calls Tryd.prog 76 #[.pointer (some ⟨L.b, 0, none⟩), .int .i64 1, .int .i64 a, .int .i64 1, .func (.func 77) #[] #[.pointer (some ⟨w.heap.size, 0, none⟩)]] (w.alloc (.cells #[.int .u64 0] 76))
      fun e w' => e = .returned (.bool (s.is1 a)) ∧ (∃ L', Mm w' L' (s.load a) ∧ Step w L w' L') ∧ w'.cell? ⟨w.heap.size, 0, none⟩ = some (.int .u64 (s.got a)) := by
  have hm0 := hm.alloc (.cells #[.int .u64 0] 76)
  have hn := heap_alloc_new w (.cells #[.int .u64 0] 76)
  have hf := new_notin hm (Nat.le_refl _)
  rcases h1 : s.is1 a with _ | _
  · refine (cAccTrap hm0 f hc 1 a 1 _ ((cHas1 hm0 f a).mono fun e w' ⟨he, hw⟩ => ⟨by rw [he, h1], hw⟩)).mono ?_
    rintro e w' ⟨rfl, L', hm', st⟩
    refine ⟨rfl, ⟨L', by unfold St.load; rw [h1]; exact hm', st.after (Kept.alloc _ _ _)⟩, ?_⟩
    rw [World.cell?_of_block (st.kept.block _ (lt_of_block hn) hf), cell_of_one hn]
    simp [St.got, h1]
  · obtain ⟨n, rfl, hlt⟩ := St.is1_nat h1
    have hd := cLoadDo (c := L.cp - n) (hm0.wcell n hlt) (cell_of_one hn) (free_of_one hn)
    refine (cAccLoad (X := fun w' => w' = (w.alloc (.cells #[.int .u64 0] 76)).setCell ⟨w.heap.size, 0, none⟩ (.int .u64 (s.ws.getD n 0))) (ok := true) hm0 f f hc 1 n 1 w.heap.size (by omega) (Nat.le_refl _)
      ((cHas1 hm0 f n).mono fun e w' ⟨he, hw⟩ => ⟨by rw [he, h1], hw⟩) (hd.mono fun e w' ⟨he, hw⟩ => ⟨he, by rw [hw]; exact hm0.on (Kept.setCell [w.heap.size] _ _ _ (by simp)) (fun k hk e => by simp at e; subst e; exact hf hk), hw⟩)).mono ?_
    rintro e w' ⟨rfl, w1, L', hw1, hm1, hm', st⟩
    have h31 := one_setCell (u := .int .u64 (s.ws.getD n 0)) hn
    rw [← hw1] at h31
    refine ⟨rfl, ⟨L', by unfold St.load; rw [h1]; exact hm', st.after ?_⟩, ?_⟩
    · rw [hw1]
      exact (Kept.alloc _ _ _).trans (Kept.setCell [w.heap.size] _ _ _ (by simp)) fun k hk => .inr (by simp at hk; omega)
    · rw [World.cell?_of_block (st.kept.block _ (lt_of_block h31) hf), cell_of_one h31]
      simp [St.got, h1, St.word]
theorem cLoad {w : World} {L : Loc} {s : St} (hm : Mm w L s) (f : s.Fit) (hc : s.c < 1000000) (a : Int) :
    Calls Tryd.prog 31 #[.pointer (some ⟨L.b, 0, none⟩), .int .i64 a] w fun e w' => e = .returned (.int .u64 (s.got a)) ∧ ∃ L', Mm w' L' (s.load a) ∧ Step w L w' L' := by
  go_enter Tryd.func31, Tryd.ntmps31
  go_wp2_with (go_at_call 76; refine (aLoad hm f hc a).mono ?_; rintro e w1 ⟨rfl, hm', hcell⟩)
  go_ret
  exact ⟨rfl, hm'⟩

/-- Store -/
theorem put_cell {T : TypeId} {w : World} {L : Loc} {s : St} (h : MemAt T w L s) (n : Nat) (x : Int) : MemAt T (w.setCell ⟨L.g, n, none⟩ (.int .u64 x)) L (s.put n x) := by
  have r := h.row.stored n (.int .u64 x)
  have hl : (s.ws.set n x).length = s.ws.length := by simp
  refine ⟨?_, ?_, ?_, h.non, h.ht⟩
  · rw [Below.heap_setCell _ _ _ _ h.bg, h.blk]; simp [St.put]
  · have := r.1
    simp only [St.put, Int.toNat_natCast, hl, wds_set]
    exact this
  · exact ownsRow_setCell_other h.unt h.gu _
theorem aStore {w : World} {L : Loc} {s : St} (hm : Mm w L s) (f : s.Fit) (hc : s.c < 1000000) (a x : Int) :
    Calls Tryd.prog 76 #[.pointer (some ⟨L.b, 0, none⟩), .int .i64 2, .int .i64 a, .int .i64 1, .func (.func 78) #[] #[.pointer (some ⟨w.heap.size, 0, none⟩)]] (w.alloc (.cells #[.int .u64 x] 76))
      fun e w' => e = .returned (.bool (s.is1 a)) ∧ ∃ L', Mm w' L' (s.store a x) ∧ Step w L w' L' := by
  have hm0 := hm.alloc (.cells #[.int .u64 x] 76)
  have hn := heap_alloc_new w (.cells #[.int .u64 x] 76)
  rcases h1 : s.is1 a with _ | _
  · refine (cAccTrap hm0 f hc 2 a 1 _ ((cHas1 hm0 f a).mono fun e w' ⟨he, hw⟩ => ⟨by rw [he, h1], hw⟩)).mono ?_
    rintro e w' ⟨rfl, L', hm', st⟩
    exact ⟨rfl, L', by unfold St.store; rw [h1]; exact hm', st.after (Kept.alloc _ _ _)⟩
  · obtain ⟨n, rfl, hlt⟩ := St.is1_nat h1
    have hd := cStoreDo (c := L.cp - n) (hm0.wcell n hlt) (hm0.wfree n) (cell_of_one hn)
    refine (cAccStore (X := fun w' => Kept L.fp w w') (ok := true) hm0 f (f.put n x) hc 2 n 1 w.heap.size (by omega) (Nat.le_refl _)
      ((cHas1 hm0 f n).mono fun e w' ⟨he, hw⟩ => ⟨by rw [he, h1], hw⟩) (hd.mono fun e w' ⟨he, hw⟩ => ⟨he, by rw [hw]; exact put_cell hm0 n x, by rw [hw]; exact (Kept.alloc _ _ _).trans (Kept.setCell L.fp _ _ _ (by simp [Loc.fp])) fun k hk => .inl hk⟩)).mono ?_
    rintro e w' ⟨rfl, w1, L', hk1, hm1, hm', st⟩
    exact ⟨rfl, L', by unfold St.store; rw [h1]; exact hm', st.after hk1⟩
theorem cStore {w : World} {L : Loc} {s : St} (hm : Mm w L s) (f : s.Fit) (hc : s.c < 1000000) (a x : Int) :
    Calls Tryd.prog 37 #[.pointer (some ⟨L.b, 0, none⟩), .int .i64 a, .int .u64 x] w fun e w' => e = .returned (.tuple #[]) ∧ ∃ L', Mm w' L' (s.store a x) ∧ Step w L w' L' := by
  go_enter Tryd.func37, Tryd.ntmps37
  go_wp2_with (go_at_call 76; refine (aStore hm f hc a x).mono ?_; rintro e w1 ⟨rfl, hm'⟩)
  go_end0
  exact ⟨rfl, hm'⟩

/-- the words that a CAS has in hand -/
theorem cHand1 {w : World} {L : Loc} {s : St} (hm : Mm w L s) (old x : Int) :
    Calls Tryd.prog 97 #[.slice (some ⟨w.heap.size, 0, none⟩) 1 1, .slice (some ⟨w.heap.size + 1, 0, none⟩) 1 1] ((w.alloc (.cells #[.int .u64 old] 76)).alloc (.cells #[.int .u64 x] 76)) fun e w' =>
      e = .returned (.func (.func 110) #[] #[.pointer (some ⟨w.heap.size + 2, 0, none⟩), .pointer (some ⟨w.heap.size + 3, 0, none⟩)]) ∧ Mm w' L s ∧ Kept L.fp w w' ∧
      w'.cell? ⟨w.heap.size + 2, 0, none⟩ = some (.slice (some ⟨w.heap.size, 0, none⟩) 1 1) ∧ w'.cell? ⟨w.heap.size + 3, 0, none⟩ = some (.slice (some ⟨w.heap.size + 1, 0, none⟩) 1 1) ∧ w'.cell? ⟨w.heap.size, 0, none⟩ = some (.int .u64 old) ∧ w'.cell? ⟨w.heap.size + 1, 0, none⟩ = some (.int .u64 x) := by
  refine (cSwap ((w.alloc (.cells #[.int .u64 old] 76)).alloc (.cells #[.int .u64 x] 76)) ⟨w.heap.size, 0, none⟩ ⟨w.heap.size + 1, 0, none⟩ 1 1 1 1).mono ?_
  rintro e w' ⟨rfl, rfl⟩
  refine ⟨by simp, (((hm.alloc _).alloc _).alloc _).alloc _, ?_, ?_⟩
  · exact (((Kept.alloc _ _ _).trans (Kept.alloc _ _ _) fun _ h => .inl h).trans (Kept.alloc _ _ _) fun _ h => .inl h).trans (Kept.alloc _ _ _) fun _ h => .inl h
  · refine ⟨?_, ?_, ?_, ?_⟩ <;> simp [go_sem]
theorem aCas1 {w w1 : World} {L : Loc} {s : St} (hm : Mm w1 L s) (hk : Kept L.fp w w1) (f : s.Fit) (hc : s.c < 1000000) (a old x : Int)
    (h0 : w1.cell? ⟨w.heap.size + 2, 0, none⟩ = some (.slice (some ⟨w.heap.size, 0, none⟩) 1 1)) (h1 : w1.cell? ⟨w.heap.size + 3, 0, none⟩ = some (.slice (some ⟨w.heap.size + 1, 0, none⟩) 1 1)) (h2 : w1.cell? ⟨w.heap.size, 0, none⟩ = some (.int .u64 old)) (h3 : w1.cell? ⟨w.heap.size + 1, 0, none⟩ = some (.int .u64 x)) :
    Calls Tryd.prog 76 #[.pointer (some ⟨L.b, 0, none⟩), .int .i64 3, .int .i64 a, .int .i64 1, .func (.func 110) #[] #[.pointer (some ⟨w.heap.size + 2, 0, none⟩), .pointer (some ⟨w.heap.size + 3, 0, none⟩)]] w1
      fun e w' => e = .returned (.bool (s.ok1 a old)) ∧ ∃ L', Mm w' L' (s.cas a old x) ∧ Step w L w' L' := by
  rcases i1 : s.is1 a with _ | _
  · refine (cAccTrap hm f hc 3 a 1 _ ((cHas1 hm f a).mono fun e w' ⟨he, hw⟩ => ⟨by rw [he, i1], hw⟩)).mono ?_
    rintro e w' ⟨rfl, L', hm', st⟩
    exact ⟨by simp [St.ok1, i1], L', by simp [St.cas, St.ok1, i1]; exact hm', st.after hk⟩
  · obtain ⟨n, rfl, hlt⟩ := St.is1_nat i1
    have hd := cSwap1 (c := L.cp - n) hm hlt h0 h1 h2 h3
    refine (cAccSwap (X := fun w' => Kept L.fp w w') (ok := (s.word n == old)) (s1 := if (s.word n == old) then s.put n x else s) hm f (fit_if (f.put n x) f) (by split <;> exact hc) 3 n 1 _ _ (by omega) (by decide)
      ((cHas1 hm f n).mono fun e w' ⟨he, hw⟩ => ⟨by rw [he, i1], hw⟩) (hd.mono fun e w' ⟨he, hm', hk'⟩ => ⟨he, hm', hk.trans hk' fun k h => .inl (by simp at h; subst h; simp [Loc.fp])⟩)).mono ?_
    rintro e w' ⟨rfl, w2, L', hk2, hm2, hm', st⟩
    refine ⟨by simp [St.ok1, i1], L', ?_, st.after hk2⟩
    simp only [St.cas, St.ok1, i1, Bool.true_and, St.tell, if_true]
    exact hm'
theorem cCAS {w : World} {L : Loc} {s : St} (hm : Mm w L s) (f : s.Fit) (hc : s.c < 1000000) (a old x : Int) :
    Calls Tryd.prog 62 #[.pointer (some ⟨L.b, 0, none⟩), .int .i64 a, .int .u64 old, .int .u64 x] w fun e w' => e = .returned (.bool (s.ok1 a old)) ∧ ∃ L', Mm w' L' (s.cas a old x) ∧ Step w L w' L' := by
  go_enter Tryd.func62, Tryd.ntmps62
  go_wp2_with (first
    | (go_at_call 97; refine (cHand1 hm old x).mono ?_; rintro e w1 ⟨rfl, hm1, hk1, h0, h1, h2, h3⟩)
    | (go_at_call 76; refine (aCas1 hm1 hk1 f hc a old x h0 h1 h2 h3).mono ?_; rintro e w2 ⟨rfl, hm'⟩))
  go_ret
  exact ⟨rfl, hm'⟩

end Go.Proofs.YtoablodmodnamaaDoor
