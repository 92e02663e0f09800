import Derived.Test.YtpcoldpphihfmaaGreatDoorCalls3
namespace Go.Proofs.YtpcoldpphihfmaaGreatDoor
set_option linter.unusedVariables false
open Go.ChangeShapes Go.WideShapes Go.RowKit
theorem info44 : (Tryz.prog.info? 136).map (fun i => (i.zero, i.size, i.bytes)) = some (some (.agg #[.int .i64 0, .int .i64 0, .bool false]), 3, 24) := by kernel_rfl
section
variable {T : TypeId} {w : World} {L : Loc} {s : St}
theorem unt_now (h : MemAt T w L s) (u : Value) (o : Obj) : ((w.setCell ⟨L.b, 1, none⟩ u).alloc o).ownsRow 0 136 3 L.vu s.l.length (accs s.l) := (ownsRow_setCell_other h.unt h.bu _).alloc o
theorem trap_at (h : MemAt T w L s) : MemAt T (w.setCell ⟨L.b, 2, none⟩ (.int .i64 (s.t + 1))) L ⟨s.ws, s.c, s.t + 1, s.l⟩ where
 blk := by rw [heap_setCell_same w _ 2 _ _ _ h.blk]; rfl
 row := ownsRow_setCell_other h.row (by simp [Value.ownBlock]; exact fun e => h.bg e.symm) _
 unt := ownsRow_setCell_other h.unt h.bu _
 non := h.non
 ht := h.ht
theorem b_now {w2 : World} {o : Obj} {u : Value} (h : MemAt T w L s) (hg : ((w.setCell ⟨L.b, 1, none⟩ u).alloc o).grownBy w2 L.vu.ownBlock) :
  w2.heap[L.b]? = some (.cells #[.slice (some ⟨L.g, 0, none⟩) s.ws.length L.cp, u, .int .i64 s.t, L.vu] T (0, 0)) := by
 rw [hg.block L.b (by simp; exact Nat.lt_succ_of_lt (lt_of_block h.blk)) (fun e => h.bu e.symm), Below.heap_alloc _ _ _ (by simp; exact lt_of_block h.blk), heap_setCell_same w _ 1 _ _ _ h.blk]
 rfl
theorem tell_end {w2 : World} {o : Obj} {g cp : Nat} {op a : Int} {ok : Bool} (h : MemAt T w L s)
  (hown : w2.ownsRow 0 136 3 (.slice (some ⟨g, 0, none⟩) (s.l.length + 1) cp) (s.l.length + 1) (accs s.l ++ [.int .i64 op, .int .i64 a, .bool ok]))
  (hg : ((w.setCell ⟨L.b, 1, none⟩ (.int .i64 (s.c + 1))).alloc o).grownBy w2 L.vu.ownBlock) (hn : L.vu.ownBlock = some g ∨ w.heap.size ≤ g) :
  MemAt T (w2.setCell ⟨L.b, 3, none⟩ (.slice (some ⟨g, 0, none⟩) (s.l.length + 1) cp)) ⟨L.b, L.g, L.cp, .slice (some ⟨g, 0, none⟩) (s.l.length + 1) cp⟩ ⟨s.ws, s.c + 1, s.t, s.l ++ [(op, a, ok)]⟩ ∧
  Step w L (w2.setCell ⟨L.b, 3, none⟩ (.slice (some ⟨g, 0, none⟩) (s.l.length + 1) cp)) ⟨L.b, L.g, L.cp, .slice (some ⟨g, 0, none⟩) (s.l.length + 1) cp⟩ := by
 have hb := b_now h hg
 have hgb : g ≠ L.b := by
  rintro rfl
  rcases hn with hn | hn
  ·exact h.bu hn
  ·have := lt_of_block h.blk; omega
 have K0 : Kept L.fp w ((w.setCell ⟨L.b, 1, none⟩ (.int .i64 (s.c + 1))).alloc o) := (Kept.setCell L.fp w ⟨L.b, 1, none⟩ _ (by simp [Loc.fp])).trans (Kept.alloc L.fp _ o) fun _ hk => .inl hk
 have K1 : Kept L.fp w w2 := K0.trans (Kept.grown L.fp hg fun k hk => by simp [Loc.fp, hk]) fun _ hk => .inl hk
 have K2 : Kept L.fp w (w2.setCell ⟨L.b, 3, none⟩ (.slice (some ⟨g, 0, none⟩) (s.l.length + 1) cp)) := K1.trans (Kept.setCell L.fp w2 ⟨L.b, 3, none⟩ _ (by simp [Loc.fp])) fun _ hk => .inl hk
 refine ⟨⟨?_, ?_, ?_, fun h => by simp at h, h.ht⟩, ⟨K2, ?_, rfl⟩⟩
 ·rw [heap_setCell_same w2 _ 3 _ _ _ hb]; rfl
 ·have r0 := ownsRow_setCell_other h.row (a := ⟨L.b, 1, none⟩) (by simp [Value.ownBlock]; exact fun e => h.bg e.symm) (.int .i64 (s.c + 1))
  have r1 := (r0.alloc o).kept hg (.inr (by simp only [Value.ownBlock]; exact fun e => h.gu e.symm))
  exact ownsRow_setCell_other r1 (by simp [Value.ownBlock]; exact fun e => h.bg e.symm) _
 ·have := ownsRow_setCell_other hown (a := ⟨L.b, 3, none⟩) (by simp [Value.ownBlock]; exact hgb) (.slice (some ⟨g, 0, none⟩) (s.l.length + 1) cp)
  simpa [accs_append, accs] using this
 ·intro k hk
  simp only [Loc.fp, Value.ownBlock, Option.toList_some, List.mem_cons, List.not_mem_nil, or_false] at hk
  rcases hk with rfl | rfl | rfl
  ·exact .inl (by simp [Loc.fp])
  ·exact .inl (by simp [Loc.fp])
  ·rcases hn with hn | hn
   ·exact .inl (by simp [Loc.fp, hn])
   ·exact .inr (by omega)
end
theorem new3 (W : World) (k : Nat) (hk : W.heap.size = k) (x y z : Value) (T : TypeId) : ∀ j u, [x, y, z][j]? = some u → (W.alloc (.cells #[x, y, z] T)).cell? ((⟨k, 0, none⟩ : Addr).add j) = some u := by
 subst hk
 intro j u hu
 rw [Addr.add_lit, Nat.zero_add, cell_of_row _ _ _ _ _ _ (heap_alloc_new W _)]
 simpa using hu
set_option maxHeartbeats 800000 in
set_option maxRecDepth 100000 in
theorem cAccTrap {w : World} {L : Loc} {s : St} (hm : Mm w L s) (f : s.Fit) (hc : s.c < 1000000) (op a n : Int) (fv : Value)
  (hh : Calls Tryz.prog 67 #[.pointer (some ⟨L.b, 0, none⟩), .int .i64 a, .int .i64 n] w fun e w' => e = .returned (.bool false) ∧ w' = w) :
  Calls Tryz.prog 42 #[.pointer (some ⟨L.b, 0, none⟩), .int .i64 op, .int .i64 a, .int .i64 n, fv] w fun e w' => e = .returned (.bool false) ∧ ∃ L', Mm w' L' (s.tell op a false false) ∧ Step w L w' L' := by
 obtain ⟨i0, hi, hz0, hz1, hz2⟩ := info_parts info44
 have c1 := hm.cell1
 have c2 := hm.cell2
 have c3 := hm.cell3
 have f1 := hm.free 1
 have f2 := hm.free 2
 have f3 := hm.free 3
 have t0 := f.t0
 have tc := f.tc
 have lc := f.lc
 have hm1 := trap_at hm
 go_enter Tryz.func42, Tryz.ntmps42
 go_wp2_with (first
  | (go_at_call 67; refine hh.mono ?_; rintro e w1 ⟨rfl, hw1⟩; rw [hw1]; clear hw1 w1)
  | (at_builtin; refine wpList_append_mine _ rfl _ _ 73 rfl 136 i0 _ 3 24 Tryz.underlying73 hi hz0 hz1 hz2 rfl (by decide) L.vu _ _ rfl (unt_now hm1 _ _) ⟨w.heap.size, 0, none⟩ 1 1 [.int .i64 op, .int .i64 a, .bool false] rfl rfl ?c1 ?c2 ?c3 ?c4 (by decide) ?_))
 case c1 => exact new3 _ _ (by simp) _ _ _ _
 case c2 => intro u hu; simp at hu; rcases hu with rfl | rfl | rfl <;> rfl
 case c3 => unfold maxLen; omega
 case c4 => omega
 intro g cp w2 hown hgr hnew
 have hb := b_now hm1 hgr
 have k3 : w2.cell? ⟨L.b, 3, none⟩ = some L.vu := by rw [cell_of_row w2 _ _ _ _ _ hb]; rfl
 have e3 : w2.frozen? ⟨L.b, 3, none⟩ = false := frozen_of_row w2 _ _ _ _ hb
 have R := tell_end hm1 hown hgr (hnew.imp id fun h => by first | omega | (simp; omega))
 have R1 := R.1
 have R2 : Step w L _ _ := ⟨(Kept.setCell L.fp w ⟨L.b, 2, none⟩ _ (by simp [Loc.fp])).trans R.2.kept fun _ hk => .inl hk, fun k hk => (R.2.new k hk).imp id fun h => by simpa using h, R.2.b⟩
 clear hb hown hgr hnew R c1 c2 c3
 go_wp2
 go_ret
 exact ⟨rfl, _, R1, R2⟩
set_option maxHeartbeats 800000 in
set_option maxRecDepth 100000 in
theorem cAccLoad {w : World} {L : Loc} {s s1 : St} {X : World → Prop} {ok : Bool} (hm : Mm w L s) (f : s.Fit) (f1 : s1.Fit) (hc : s1.c < 1000000) (op : Int) (a n p : Nat) (ha : a + n ≤ s.ws.length) (hn : 1 ≤ n)
  (hh : Calls Tryz.prog 67 #[.pointer (some ⟨L.b, 0, none⟩), .int .i64 a, .int .i64 n] w fun e w' => e = .returned (.bool true) ∧ w' = w)
  (hd : Calls Tryz.prog 66 #[.slice (some ⟨L.g, a, none⟩) n (L.cp - a), .pointer (some ⟨p, 0, none⟩)] w fun e w' => e = .returned (.bool ok) ∧ Mm w' L s1 ∧ X w') :
  Calls Tryz.prog 42 #[.pointer (some ⟨L.b, 0, none⟩), .int .i64 op, .int .i64 a, .int .i64 n, .func (.func 66) #[] #[.pointer (some ⟨p, 0, none⟩)]] w fun e w' =>
   e = .returned (.bool ok) ∧ ∃ w1 L', X w1 ∧ Mm w1 L s1 ∧ Mm w' L' ⟨s1.ws, s1.c + 1, s1.t, s1.l ++ [(op, (a : Int), ok)]⟩ ∧ Step w1 L w' L' := by
 obtain ⟨i0, hi, hz0, hz1, hz2⟩ := info_parts info44
 obtain ⟨_, _, hcap, hcm, _⟩ := hm.gblk
 have c0 := hm.cell0
 have n4 := f.n4
 have t0 := f1.t0
 have tc := f1.tc
 have lc := f1.lc
 go_enter Tryz.func42, Tryz.ntmps42
 go_wp2_with (first
  | (go_at_call 67; refine hh.mono ?_; rintro e w1 ⟨rfl, hw1⟩; rw [hw1]; clear hw1 w1)
  | (go_at_call 66; refine hd.mono ?_; rintro e w1 ⟨rfl, hm1, hk1⟩; have c1 := hm1.cell1; have c3 := hm1.cell3; have e1 := hm1.free 1; have e3 := hm1.free 3)
  | (at_builtin; refine wpList_append_mine _ rfl _ _ 73 rfl 136 i0 _ 3 24 Tryz.underlying73 hi hz0 hz1 hz2 rfl (by decide) L.vu _ _ rfl (unt_now hm1 _ _) ⟨w1.heap.size, 0, none⟩ 1 1 [.int .i64 op, .int .i64 a, .bool ok] rfl rfl ?c1 ?c2 ?c3 ?c4 (by decide) ?_))
 case c1 => exact new3 _ _ (by simp) _ _ _ _
 case c2 => intro u hu; simp at hu; rcases hu with rfl | rfl | rfl <;> rfl
 case c3 => unfold maxLen; omega
 case c4 => omega
 intro g cp w2 hown hgr hnew
 have hb := b_now hm1 hgr
 have k3 : w2.cell? ⟨L.b, 3, none⟩ = some L.vu := by rw [cell_of_row w2 _ _ _ _ _ hb]; rfl
 have g3 : w2.frozen? ⟨L.b, 3, none⟩ = false := frozen_of_row w2 _ _ _ _ hb
 have R := tell_end hm1 hown hgr (hnew.imp id fun h => by first | omega | (simp; omega))
 clear hb hown hgr hnew c1 c3
 go_wp2
 go_ret
 exact ⟨rfl, w1, _, hk1, hm1, R.1, R.2⟩
set_option maxHeartbeats 800000 in
set_option maxRecDepth 100000 in
theorem cAccStore {w : World} {L : Loc} {s s1 : St} {X : World → Prop} {ok : Bool} (hm : Mm w L s) (f : s.Fit) (f1 : s1.Fit) (hc : s1.c < 1000000) (op : Int) (a n p : Nat) (ha : a + n ≤ s.ws.length) (hn : 1 ≤ n)
  (hh : Calls Tryz.prog 67 #[.pointer (some ⟨L.b, 0, none⟩), .int .i64 a, .int .i64 n] w fun e w' => e = .returned (.bool true) ∧ w' = w)
  (hd : Calls Tryz.prog 43 #[.slice (some ⟨L.g, a, none⟩) n (L.cp - a), .pointer (some ⟨p, 0, none⟩)] w fun e w' => e = .returned (.bool ok) ∧ Mm w' L s1 ∧ X w') :
  Calls Tryz.prog 42 #[.pointer (some ⟨L.b, 0, none⟩), .int .i64 op, .int .i64 a, .int .i64 n, .func (.func 43) #[] #[.pointer (some ⟨p, 0, none⟩)]] w fun e w' =>
   e = .returned (.bool ok) ∧ ∃ w1 L', X w1 ∧ Mm w1 L s1 ∧ Mm w' L' ⟨s1.ws, s1.c + 1, s1.t, s1.l ++ [(op, (a : Int), ok)]⟩ ∧ Step w1 L w' L' := by
 obtain ⟨i0, hi, hz0, hz1, hz2⟩ := info_parts info44
 obtain ⟨_, _, hcap, hcm, _⟩ := hm.gblk
 have c0 := hm.cell0
 have n4 := f.n4
 have t0 := f1.t0
 have tc := f1.tc
 have lc := f1.lc
 go_enter Tryz.func42, Tryz.ntmps42
 go_wp2_with (first
  | (go_at_call 67; refine hh.mono ?_; rintro e w1 ⟨rfl, hw1⟩; rw [hw1]; clear hw1 w1)
  | (go_at_call 43; refine hd.mono ?_; rintro e w1 ⟨rfl, hm1, hk1⟩; have c1 := hm1.cell1; have c3 := hm1.cell3; have e1 := hm1.free 1; have e3 := hm1.free 3)
  | (at_builtin; refine wpList_append_mine _ rfl _ _ 73 rfl 136 i0 _ 3 24 Tryz.underlying73 hi hz0 hz1 hz2 rfl (by decide) L.vu _ _ rfl (unt_now hm1 _ _) ⟨w1.heap.size, 0, none⟩ 1 1 [.int .i64 op, .int .i64 a, .bool ok] rfl rfl ?c1 ?c2 ?c3 ?c4 (by decide) ?_))
 case c1 => exact new3 _ _ (by simp) _ _ _ _
 case c2 => intro u hu; simp at hu; rcases hu with rfl | rfl | rfl <;> rfl
 case c3 => unfold maxLen; omega
 case c4 => omega
 intro g cp w2 hown hgr hnew
 have hb := b_now hm1 hgr
 have k3 : w2.cell? ⟨L.b, 3, none⟩ = some L.vu := by rw [cell_of_row w2 _ _ _ _ _ hb]; rfl
 have g3 : w2.frozen? ⟨L.b, 3, none⟩ = false := frozen_of_row w2 _ _ _ _ hb
 have R := tell_end hm1 hown hgr (hnew.imp id fun h => by first | omega | (simp; omega))
 clear hb hown hgr hnew c1 c3
 go_wp2
 go_ret
 exact ⟨rfl, w1, _, hk1, hm1, R.1, R.2⟩
set_option maxHeartbeats 800000 in
set_option maxRecDepth 100000 in
theorem cAccSwap {w : World} {L : Loc} {s s1 : St} {X : World → Prop} {ok : Bool} (hm : Mm w L s) (f : s.Fit) (f1 : s1.Fit) (hc : s1.c < 1000000) (op : Int) (a n p q : Nat) (ha : a + n ≤ s.ws.length) (hn : 1 ≤ n)
  (hh : Calls Tryz.prog 67 #[.pointer (some ⟨L.b, 0, none⟩), .int .i64 a, .int .i64 n] w fun e w' => e = .returned (.bool true) ∧ w' = w)
  (hd : Calls Tryz.prog 105 #[.slice (some ⟨L.g, a, none⟩) n (L.cp - a), .pointer (some ⟨p, 0, none⟩), .pointer (some ⟨q, 0, none⟩)] w fun e w' => e = .returned (.bool ok) ∧ Mm w' L s1 ∧ X w') :
  Calls Tryz.prog 42 #[.pointer (some ⟨L.b, 0, none⟩), .int .i64 op, .int .i64 a, .int .i64 n, .func (.func 105) #[] #[.pointer (some ⟨p, 0, none⟩), .pointer (some ⟨q, 0, none⟩)]] w fun e w' =>
   e = .returned (.bool ok) ∧ ∃ w1 L', X w1 ∧ Mm w1 L s1 ∧ Mm w' L' ⟨s1.ws, s1.c + 1, s1.t, s1.l ++ [(op, (a : Int), ok)]⟩ ∧ Step w1 L w' L' := by
 obtain ⟨i0, hi, hz0, hz1, hz2⟩ := info_parts info44
 obtain ⟨_, _, hcap, hcm, _⟩ := hm.gblk
 have c0 := hm.cell0
 have n4 := f.n4
 have t0 := f1.t0
 have tc := f1.tc
 have lc := f1.lc
 go_enter Tryz.func42, Tryz.ntmps42
 go_wp2_with (first
  | (go_at_call 67; refine hh.mono ?_; rintro e w1 ⟨rfl, hw1⟩; rw [hw1]; clear hw1 w1)
  | (go_at_call 105; refine hd.mono ?_; rintro e w1 ⟨rfl, hm1, hk1⟩; have c1 := hm1.cell1; have c3 := hm1.cell3; have e1 := hm1.free 1; have e3 := hm1.free 3)
  | (at_builtin; refine wpList_append_mine _ rfl _ _ 73 rfl 136 i0 _ 3 24 Tryz.underlying73 hi hz0 hz1 hz2 rfl (by decide) L.vu _ _ rfl (unt_now hm1 _ _) ⟨w1.heap.size, 0, none⟩ 1 1 [.int .i64 op, .int .i64 a, .bool ok] rfl rfl ?c1 ?c2 ?c3 ?c4 (by decide) ?_))
 case c1 => exact new3 _ _ (by simp) _ _ _ _
 case c2 => intro u hu; simp at hu; rcases hu with rfl | rfl | rfl <;> rfl
 case c3 => unfold maxLen; omega
 case c4 => omega
 intro g cp w2 hown hgr hnew
 have hb := b_now hm1 hgr
 have k3 : w2.cell? ⟨L.b, 3, none⟩ = some L.vu := by rw [cell_of_row w2 _ _ _ _ _ hb]; rfl
 have g3 : w2.frozen? ⟨L.b, 3, none⟩ = false := frozen_of_row w2 _ _ _ _ hb
 have R := tell_end hm1 hown hgr (hnew.imp id fun h => by first | omega | (simp; omega))
 clear hb hown hgr hnew c1 c3
 go_wp2
 go_ret
 exact ⟨rfl, w1, _, hk1, hm1, R.1, R.2⟩
end Go.Proofs.YtpcoldpphihfmaaGreatDoor
namespace Go.Proofs.YtpcoldpphihfmaaGreatDoor
set_option maxRecDepth 100000
set_option linter.unusedVariables false
open Go.ChangeShapes Go.WideShapes Go.RowKit
theorem Step.after {w w1 w2 : World} {L L' : Loc} (k : Kept L.fp w w1) (h : Step w1 L w2 L') : Step w L w2 L' :=
 ⟨k.trans h.kept fun _ hk => .inl hk, fun j hj => (h.new j hj).imp id fun h' => Nat.le_trans k.size h', h.b⟩
theorem St.is1_nat {s : St} {a : Int} (h : s.is1 a = true) : ∃ n : Nat, a = n ∧ n < s.ws.length := by
 simp [St.is1] at h
 exact ⟨a.toNat, by omega, by omega⟩
theorem St.is2_nat {s : St} {a : Int} (h : s.is2 a = true) : ∃ n : Nat, a = n ∧ n + 1 < s.ws.length := by
 simp [St.is2] at h
 exact ⟨a.toNat, by omega, by omega⟩
theorem new_notin {T : TypeId} {w : World} {L : Loc} {s : St} (h : MemAt T w L s) {k : Nat} (hk : w.heap.size ≤ k) : k ∉ L.fp := fun h' => by have := h.lt k h'; omega
theorem fit_if {b : Bool} {s t : St} (h : s.Fit) (k : t.Fit) : (if b = true then s else t).Fit := by cases b <;> simpa
theorem aLoad {w : World} {L : Loc} {s : St} (hm : Mm w L s) (f : s.Fit) (hc : s.c < 1000000) (a : Int) :
  Calls Tryz.prog 42 #[.pointer (some ⟨L.b, 0, none⟩), .int .i64 1, .int .i64 a, .int .i64 1, .func (.func 66) #[] #[.pointer (some ⟨w.heap.size, 0, none⟩)]] (w.alloc (.cells #[.int .u64 0] 43))
   fun e w' => e = .returned (.bool (s.is1 a)) ∧ (∃ L', Mm w' L' (s.load a) ∧ Step w L w' L') ∧ w'.cell? ⟨w.heap.size, 0, none⟩ = some (.int .u64 (s.got a)) := by
 have hm0 := hm.alloc (.cells #[.int .u64 0] 43)
 have hn := heap_alloc_new w (.cells #[.int .u64 0] 43)
 have hf := new_notin hm (Nat.le_refl _)
 rcases h1 : s.is1 a with _ | _
 ·refine (cAccTrap hm0 f hc 1 a 1 _ ((cHas1 hm0 f a).mono fun e w' ⟨he, hw⟩ => ⟨by rw [he, h1], hw⟩)).mono ?_
  rintro e w' ⟨rfl, L', hm', st⟩
  refine ⟨rfl, ⟨L', by unfold St.load; rw [h1]; exact hm', st.after (Kept.alloc _ _ _)⟩, ?_⟩
  rw [World.cell?_of_block (st.kept.block _ (lt_of_block hn) hf), cell_of_one hn]
  simp [St.got, h1]
 ·obtain ⟨n, rfl, hlt⟩ := St.is1_nat h1
  have hd := cLoadDo (c := L.cp - n) (hm0.wcell n hlt) (cell_of_one hn) (free_of_one hn)
  refine (cAccLoad (X := fun w' => w' = (w.alloc (.cells #[.int .u64 0] 43)).setCell ⟨w.heap.size, 0, none⟩ (.int .u64 (s.ws.getD n 0))) (ok := true) hm0 f f hc 1 n 1 w.heap.size (by omega) (Nat.le_refl _)
   ((cHas1 hm0 f n).mono fun e w' ⟨he, hw⟩ => ⟨by rw [he, h1], hw⟩) (hd.mono fun e w' ⟨he, hw⟩ => ⟨he, by rw [hw]; exact hm0.on (Kept.setCell [w.heap.size] _ _ _ (by simp)) (fun k hk e => by simp at e; subst e; exact hf hk), hw⟩)).mono ?_
  rintro e w' ⟨rfl, w1, L', hw1, hm1, hm', st⟩
  have h31 := one_setCell (u := .int .u64 (s.ws.getD n 0)) hn
  rw [← hw1] at h31
  refine ⟨rfl, ⟨L', by unfold St.load; rw [h1]; exact hm', st.after ?_⟩, ?_⟩
  ·rw [hw1]
   exact (Kept.alloc _ _ _).trans (Kept.setCell [w.heap.size] _ _ _ (by simp)) fun k hk => .inr (by simp at hk; omega)
  ·rw [World.cell?_of_block (st.kept.block _ (lt_of_block h31) hf), cell_of_one h31]
   simp [St.got, h1, St.word]
theorem cLoad {w : World} {L : Loc} {s : St} (hm : Mm w L s) (f : s.Fit) (hc : s.c < 1000000) (a : Int) :
  Calls Tryz.prog 34 #[.pointer (some ⟨L.b, 0, none⟩), .int .i64 a] w fun e w' => e = .returned (.int .u64 (s.got a)) ∧ ∃ L', Mm w' L' (s.load a) ∧ Step w L w' L' := by
 go_enter Tryz.func34, Tryz.ntmps34
 go_wp2_with (go_at_call 42; refine (aLoad hm f hc a).mono ?_; rintro e w1 ⟨rfl, hm', hcell⟩)
 go_ret
 exact ⟨rfl, hm'⟩
theorem put_cell {T : TypeId} {w : World} {L : Loc} {s : St} (h : MemAt T w L s) (n : Nat) (x : Int) : MemAt T (w.setCell ⟨L.g, n, none⟩ (.int .u64 x)) L (s.put n x) := by
 have r := h.row.stored n (.int .u64 x)
 have hl : (s.ws.set n x).length = s.ws.length := by simp
 refine ⟨?_, ?_, ?_, h.non, h.ht⟩
 ·rw [Below.heap_setCell _ _ _ _ h.bg, h.blk]; simp [St.put]
 ·have := r.1
  simp only [St.put, Int.toNat_natCast, hl, wds_set]
  exact this
 ·exact ownsRow_setCell_other h.unt h.gu _
theorem aStore {w : World} {L : Loc} {s : St} (hm : Mm w L s) (f : s.Fit) (hc : s.c < 1000000) (a x : Int) :
  Calls Tryz.prog 42 #[.pointer (some ⟨L.b, 0, none⟩), .int .i64 2, .int .i64 a, .int .i64 1, .func (.func 43) #[] #[.pointer (some ⟨w.heap.size, 0, none⟩)]] (w.alloc (.cells #[.int .u64 x] 43))
   fun e w' => e = .returned (.bool (s.is1 a)) ∧ ∃ L', Mm w' L' (s.store a x) ∧ Step w L w' L' := by
 have hm0 := hm.alloc (.cells #[.int .u64 x] 43)
 have hn := heap_alloc_new w (.cells #[.int .u64 x] 43)
 rcases h1 : s.is1 a with _ | _
 ·refine (cAccTrap hm0 f hc 2 a 1 _ ((cHas1 hm0 f a).mono fun e w' ⟨he, hw⟩ => ⟨by rw [he, h1], hw⟩)).mono ?_
  rintro e w' ⟨rfl, L', hm', st⟩
  exact ⟨rfl, L', by unfold St.store; rw [h1]; exact hm', st.after (Kept.alloc _ _ _)⟩
 ·obtain ⟨n, rfl, hlt⟩ := St.is1_nat h1
  have hd := cStoreDo (c := L.cp - n) (hm0.wcell n hlt) (hm0.wfree n) (cell_of_one hn)
  refine (cAccStore (X := fun w' => Kept L.fp w w') (ok := true) hm0 f (f.put n x) hc 2 n 1 w.heap.size (by omega) (Nat.le_refl _)
   ((cHas1 hm0 f n).mono fun e w' ⟨he, hw⟩ => ⟨by rw [he, h1], hw⟩) (hd.mono fun e w' ⟨he, hw⟩ => ⟨he, by rw [hw]; exact put_cell hm0 n x, by rw [hw]; exact (Kept.alloc _ _ _).trans (Kept.setCell L.fp _ _ _ (by simp [Loc.fp])) fun k hk => .inl hk⟩)).mono ?_
  rintro e w' ⟨rfl, w1, L', hk1, hm1, hm', st⟩
  exact ⟨rfl, L', by unfold St.store; rw [h1]; exact hm', st.after hk1⟩
theorem cStore {w : World} {L : Loc} {s : St} (hm : Mm w L s) (f : s.Fit) (hc : s.c < 1000000) (a x : Int) :
  Calls Tryz.prog 13 #[.pointer (some ⟨L.b, 0, none⟩), .int .i64 a, .int .u64 x] w fun e w' => e = .returned (.tuple #[]) ∧ ∃ L', Mm w' L' (s.store a x) ∧ Step w L w' L' := by
 go_enter Tryz.func13, Tryz.ntmps13
 go_wp2_with (go_at_call 42; refine (aStore hm f hc a x).mono ?_; rintro e w1 ⟨rfl, hm'⟩)
 go_end0
 exact ⟨rfl, hm'⟩
theorem cHand1 {w : World} {L : Loc} {s : St} (hm : Mm w L s) (old x : Int) :
  Calls Tryz.prog 92 #[.slice (some ⟨w.heap.size, 0, none⟩) 1 1, .slice (some ⟨w.heap.size + 1, 0, none⟩) 1 1] ((w.alloc (.cells #[.int .u64 old] 43)).alloc (.cells #[.int .u64 x] 43)) fun e w' =>
   e = .returned (.func (.func 105) #[] #[.pointer (some ⟨w.heap.size + 2, 0, none⟩), .pointer (some ⟨w.heap.size + 3, 0, none⟩)]) ∧ Mm w' L s ∧ Kept L.fp w w' ∧
   w'.cell? ⟨w.heap.size + 2, 0, none⟩ = some (.slice (some ⟨w.heap.size, 0, none⟩) 1 1) ∧ w'.cell? ⟨w.heap.size + 3, 0, none⟩ = some (.slice (some ⟨w.heap.size + 1, 0, none⟩) 1 1) ∧ w'.cell? ⟨w.heap.size, 0, none⟩ = some (.int .u64 old) ∧ w'.cell? ⟨w.heap.size + 1, 0, none⟩ = some (.int .u64 x) := by
 refine (cSwap ((w.alloc (.cells #[.int .u64 old] 43)).alloc (.cells #[.int .u64 x] 43)) ⟨w.heap.size, 0, none⟩ ⟨w.heap.size + 1, 0, none⟩ 1 1 1 1).mono ?_
 rintro e w' ⟨rfl, rfl⟩
 refine ⟨by simp, (((hm.alloc _).alloc _).alloc _).alloc _, ?_, ?_⟩
 ·exact (((Kept.alloc _ _ _).trans (Kept.alloc _ _ _) fun _ h => .inl h).trans (Kept.alloc _ _ _) fun _ h => .inl h).trans (Kept.alloc _ _ _) fun _ h => .inl h
 ·refine ⟨?_, ?_, ?_, ?_⟩ <;> simp [go_sem]
theorem aCas1 {w w1 : World} {L : Loc} {s : St} (hm : Mm w1 L s) (hk : Kept L.fp w w1) (f : s.Fit) (hc : s.c < 1000000) (a old x : Int)
  (h0 : w1.cell? ⟨w.heap.size + 2, 0, none⟩ = some (.slice (some ⟨w.heap.size, 0, none⟩) 1 1)) (h1 : w1.cell? ⟨w.heap.size + 3, 0, none⟩ = some (.slice (some ⟨w.heap.size + 1, 0, none⟩) 1 1)) (h2 : w1.cell? ⟨w.heap.size, 0, none⟩ = some (.int .u64 old)) (h3 : w1.cell? ⟨w.heap.size + 1, 0, none⟩ = some (.int .u64 x)) :
  Calls Tryz.prog 42 #[.pointer (some ⟨L.b, 0, none⟩), .int .i64 3, .int .i64 a, .int .i64 1, .func (.func 105) #[] #[.pointer (some ⟨w.heap.size + 2, 0, none⟩), .pointer (some ⟨w.heap.size + 3, 0, none⟩)]] w1
   fun e w' => e = .returned (.bool (s.ok1 a old)) ∧ ∃ L', Mm w' L' (s.cas a old x) ∧ Step w L w' L' := by
 rcases i1 : s.is1 a with _ | _
 ·refine (cAccTrap hm f hc 3 a 1 _ ((cHas1 hm f a).mono fun e w' ⟨he, hw⟩ => ⟨by rw [he, i1], hw⟩)).mono ?_
  rintro e w' ⟨rfl, L', hm', st⟩
  exact ⟨by simp [St.ok1, i1], L', by simp [St.cas, St.ok1, i1]; exact hm', st.after hk⟩
 ·obtain ⟨n, rfl, hlt⟩ := St.is1_nat i1
  have hd := cSwap1 (c := L.cp - n) hm hlt h0 h1 h2 h3
  refine (cAccSwap (X := fun w' => Kept L.fp w w') (ok := (s.word n == old)) (s1 := if (s.word n == old) then s.put n x else s) hm f (fit_if (f.put n x) f) (by split <;> exact hc) 3 n 1 _ _ (by omega) (by decide)
   ((cHas1 hm f n).mono fun e w' ⟨he, hw⟩ => ⟨by rw [he, i1], hw⟩) (hd.mono fun e w' ⟨he, hm', hk'⟩ => ⟨he, hm', hk.trans hk' fun k h => .inl (by simp at h; subst h; simp [Loc.fp])⟩)).mono ?_
  rintro e w' ⟨rfl, w2, L', hk2, hm2, hm', st⟩
  refine ⟨by simp [St.ok1, i1], L', ?_, st.after hk2⟩
  simp only [St.cas, St.ok1, i1, Bool.true_and, St.tell, if_true]
  exact hm'
theorem cCAS {w : World} {L : Loc} {s : St} (hm : Mm w L s) (f : s.Fit) (hc : s.c < 1000000) (a old x : Int) :
  Calls Tryz.prog 62 #[.pointer (some ⟨L.b, 0, none⟩), .int .i64 a, .int .u64 old, .int .u64 x] w fun e w' => e = .returned (.bool (s.ok1 a old)) ∧ ∃ L', Mm w' L' (s.cas a old x) ∧ Step w L w' L' := by
 go_enter Tryz.func62, Tryz.ntmps62
 go_wp2_with (first
  | (go_at_call 92; refine (cHand1 hm old x).mono ?_; rintro e w1 ⟨rfl, hm1, hk1, h0, h1, h2, h3⟩)
  | (go_at_call 42; refine (aCas1 hm1 hk1 f hc a old x h0 h1 h2 h3).mono ?_; rintro e w2 ⟨rfl, hm'⟩))
 go_ret
 exact ⟨rfl, hm'⟩
theorem cHand2 {w : World} {L : Loc} {s : St} (hm : Mm w L s) (o0 o1 x0 x1 : Int) :
  Calls Tryz.prog 92 #[.slice (some ⟨w.heap.size, 0, none⟩) 2 2, .slice (some ⟨w.heap.size + 1, 0, none⟩) 2 2] ((w.alloc (.cells #[.int .u64 o0, .int .u64 o1] 43)).alloc (.cells #[.int .u64 x0, .int .u64 x1] 43)) fun e w' =>
   e = .returned (.func (.func 105) #[] #[.pointer (some ⟨w.heap.size + 2, 0, none⟩), .pointer (some ⟨w.heap.size + 3, 0, none⟩)]) ∧ Mm w' L s ∧ Kept L.fp w w' ∧
   w'.cell? ⟨w.heap.size + 2, 0, none⟩ = some (.slice (some ⟨w.heap.size, 0, none⟩) 2 2) ∧ w'.cell? ⟨w.heap.size + 3, 0, none⟩ = some (.slice (some ⟨w.heap.size + 1, 0, none⟩) 2 2) ∧ w'.cell? ⟨w.heap.size, 0, none⟩ = some (.int .u64 o0) ∧ w'.cell? ⟨w.heap.size, 1, none⟩ = some (.int .u64 o1) ∧ w'.cell? ⟨w.heap.size + 1, 0, none⟩ = some (.int .u64 x0) ∧ w'.cell? ⟨w.heap.size + 1, 1, none⟩ = some (.int .u64 x1) := by
 refine (cSwap ((w.alloc (.cells #[.int .u64 o0, .int .u64 o1] 43)).alloc (.cells #[.int .u64 x0, .int .u64 x1] 43)) ⟨w.heap.size, 0, none⟩ ⟨w.heap.size + 1, 0, none⟩ 2 2 2 2).mono ?_
 rintro e w' ⟨rfl, rfl⟩
 refine ⟨by simp, (((hm.alloc _).alloc _).alloc _).alloc _, ?_, ?_⟩
 ·exact (((Kept.alloc _ _ _).trans (Kept.alloc _ _ _) fun _ h => .inl h).trans (Kept.alloc _ _ _) fun _ h => .inl h).trans (Kept.alloc _ _ _) fun _ h => .inl h
 ·refine ⟨?_, ?_, ?_, ?_, ?_, ?_⟩ <;> simp [go_sem]
theorem aCas2 {w w1 : World} {L : Loc} {s : St} (hm : Mm w1 L s) (hk : Kept L.fp w w1) (f : s.Fit) (hc : s.c < 1000000) (a o0 o1 x0 x1 : Int)
  (h0 : w1.cell? ⟨w.heap.size + 2, 0, none⟩ = some (.slice (some ⟨w.heap.size, 0, none⟩) 2 2)) (h1 : w1.cell? ⟨w.heap.size + 3, 0, none⟩ = some (.slice (some ⟨w.heap.size + 1, 0, none⟩) 2 2)) (h2 : w1.cell? ⟨w.heap.size, 0, none⟩ = some (.int .u64 o0)) (h3 : w1.cell? ⟨w.heap.size, 1, none⟩ = some (.int .u64 o1)) (h4 : w1.cell? ⟨w.heap.size + 1, 0, none⟩ = some (.int .u64 x0)) (h5 : w1.cell? ⟨w.heap.size + 1, 1, none⟩ = some (.int .u64 x1)) :
  Calls Tryz.prog 42 #[.pointer (some ⟨L.b, 0, none⟩), .int .i64 4, .int .i64 a, .int .i64 2, .func (.func 105) #[] #[.pointer (some ⟨w.heap.size + 2, 0, none⟩), .pointer (some ⟨w.heap.size + 3, 0, none⟩)]] w1
   fun e w' => e = .returned (.bool (s.ok2 a o0 o1)) ∧ ∃ L', Mm w' L' (s.cas2 a o0 o1 x0 x1) ∧ Step w L w' L' := by
 rcases i1 : s.is2 a with _ | _
 ·refine (cAccTrap hm f hc 4 a 2 _ ((cHas2 hm f a).mono fun e w' ⟨he, hw⟩ => ⟨by rw [he, i1], hw⟩)).mono ?_
  rintro e w' ⟨rfl, L', hm', st⟩
  exact ⟨by simp [St.ok2, i1], L', by simp [St.cas2, St.ok2, i1]; exact hm', st.after hk⟩
 ·obtain ⟨n, rfl, hlt⟩ := St.is2_nat i1
  have hd := cSwap2 (c := L.cp - n) hm hlt h0 h1 h2 h3 h4 h5
  refine (cAccSwap (X := fun w' => Kept L.fp w w') (ok := (s.word n == o0 && s.word (n + 1) == o1)) (s1 := if (s.word n == o0 && s.word (n + 1) == o1) then (s.put n x0).put (n + 1) x1 else s) hm f (fit_if ((f.put n x0).put (n + 1) x1) f) (by split <;> exact hc) 4 n 2 _ _ (by omega) (by decide)
   ((cHas2 hm f n).mono fun e w' ⟨he, hw⟩ => ⟨by rw [he, i1], hw⟩) (hd.mono fun e w' ⟨he, hm', hk'⟩ => ⟨he, hm', hk.trans hk' fun k h => .inl (by simp at h; subst h; simp [Loc.fp])⟩)).mono ?_
  rintro e w' ⟨rfl, w2, L', hk2, hm2, hm', st⟩
  refine ⟨by simp [St.ok2, i1], L', ?_, st.after hk2⟩
  simp only [St.cas2, St.ok2, i1, Bool.true_and, St.tell, if_true]
  exact hm'
theorem cCAS2 {w : World} {L : Loc} {s : St} (hm : Mm w L s) (f : s.Fit) (hc : s.c < 1000000) (a o0 o1 x0 x1 : Int) :
  Calls Tryz.prog 63 #[.pointer (some ⟨L.b, 0, none⟩), .int .i64 a, .int .u64 o0, .int .u64 o1, .int .u64 x0, .int .u64 x1] w fun e w' => e = .returned (.bool (s.ok2 a o0 o1)) ∧ ∃ L', Mm w' L' (s.cas2 a o0 o1 x0 x1) ∧ Step w L w' L' := by
 go_enter Tryz.func63, Tryz.ntmps63
 go_wp2_with (first
  | (go_at_call 92; refine (cHand2 hm o0 o1 x0 x1).mono ?_; rintro e w1 ⟨rfl, hm1, hk1, h0, h1, h2, h3, h4, h5⟩)
  | (go_at_call 42; refine (aCas2 hm1 hk1 f hc a o0 o1 x0 x1 h0 h1 h2 h3 h4 h5).mono ?_; rintro e w2 ⟨rfl, hm'⟩))
 go_ret
 exact ⟨rfl, hm'⟩
end Go.Proofs.YtpcoldpphihfmaaGreatDoor
