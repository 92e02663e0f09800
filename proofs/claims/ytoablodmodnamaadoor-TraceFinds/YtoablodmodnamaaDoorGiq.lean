/-
  A Shade that lies within a block of another one: cells ahead of it and behind it.
-/
import Derived.Test.YtoablodmodnamaaDoorGcq
namespace Go.Proofs.YtoablodmodnamaaDoor
set_option linter.unusedVariables false
set_option maxRecDepth 100000
open Go.ChangeShapes Go.WideShapes Go.RowKit
open S.Plain (t0 t1 tw nx)
open H.Plain (hw pS pC pN pM pG pT pL)

/-- cells d of a block: la ahead, lb behind -/
def lay (la : List Value) (d : Array Value) (lb : List Value) : Array Value := (la ++ (d.toList ++ lb)).toArray
/-- cells e in the place of those of d from k on -/
def put (d : Array Value) (k : Nat) (e : Array Value) : Array Value := (d.toList.take k ++ (e.toList ++ d.toList.drop (k + e.size))).toArray
section
variable {la lb : List Value} {d e : Array Value} {i k : Nat} {u v : Value}
theorem lay_size (la lb : List Value) (d : Array Value) : (lay la d lb).size = la.length + d.size + lb.length := by simp [lay]; omega
theorem lay_get (h : i < d.size) : (lay la d lb)[la.length + i]? = d[i]? := by
  simp only [lay, List.getElem?_toArray]
  rw [List.getElem?_append_right (by omega), List.getElem?_append_left (by simp; omega), Nat.add_sub_cancel_left, Array.getElem?_toList]
theorem lay_lo (h : i < la.length) : (lay la d lb)[i]? = la[i]? := by
  simp only [lay, List.getElem?_toArray]
  rw [List.getElem?_append_left h]
theorem lay_hi (h : la.length + d.size ≤ i) : (lay la d lb)[i]? = lb[i - (la.length + d.size)]? := by
  simp only [lay, List.getElem?_toArray]
  rw [List.getElem?_append_right (by omega), List.getElem?_append_right (by simp; omega)]
  congr 1
  simp; omega
theorem lay_ext {cs : Array Value} (hs : cs.size = la.length + d.size + lb.length) (hm : ∀ i, i < d.size → cs[la.length + i]? = d[i]?) (ho : ∀ i, i < la.length ∨ la.length + d.size ≤ i → cs[i]? = (lay la e lb)[i]?) (he : e.size = d.size) : cs = lay la d lb := by
  refine Array.ext_getElem? fun i => ?_
  by_cases h1 : i < la.length
  · rw [ho i (.inl h1), lay_lo h1, lay_lo h1]
  · by_cases h2 : i < la.length + d.size
    · obtain ⟨j, rfl⟩ : ∃ j, i = la.length + j := ⟨i - la.length, by omega⟩
      rw [hm j (by omega), lay_get (by omega)]
    · rw [ho i (.inr (by omega)), lay_hi (by omega), lay_hi (by omega), he]
theorem lay_set (h : i < d.size) (u : Value) : (lay la d lb).setIfInBounds (la.length + i) u = lay la (d.setIfInBounds i u) lb := by
  refine lay_ext (e := d) (by simp [lay_size]) (fun j hj => ?_) (fun j hj => ?_) (by simp)
  · simp only [Array.size_setIfInBounds] at hj
    rw [Array.getElem?_setIfInBounds, Array.getElem?_setIfInBounds, lay_size]
    by_cases h' : i = j
    · subst h'; rw [if_pos rfl, if_pos rfl, if_pos (by omega), if_pos h]
    · rw [if_neg (by omega), if_neg h', lay_get hj]
  · simp only [Array.size_setIfInBounds] at hj
    rw [Array.getElem?_setIfInBounds, if_neg (by omega)]
theorem lay_put (la lb : List Value) (d e : Array Value) (k : Nat) : lay la (put d k e) lb = lay (la ++ d.toList.take k) e (d.toList.drop (k + e.size) ++ lb) := by simp [lay, put]
end
theorem lt_of_get {d : Array Value} {i : Nat} {v : Value} (h : d[i]? = some v) : i < d.size := (Array.getElem?_eq_some_iff.1 h).1
/-- where it lies -/
structure BlI (w : World) (p : Nat) (T : TypeId) (la lb : List Value) (o : Nat) (d : Array Value) : Prop where
  blk : w.heap[p]? = some (.cells (lay la d lb) T (0, 0))
  len : la.length = o
structure AtI (TM : TypeId) (w : World) (L : Loc) (s : St) (p : Nat) (T : TypeId) (la lb : List Value) (o : Nat) (d : Array Value) : Prop where
  at_ : At TM w L s p T (lay la d lb)
  len : la.length = o
section
variable {TM T : TypeId} {w w1 : World} {L L1 : Loc} {s s1 : St} {p o i k : Nat} {la lb : List Value} {d e : Array Value} {v : Value}
theorem BlI.cell (h : BlI w p T la lb o d) (i : Nat) {v : Value} (hv : d[i]? = some v := by rfl) : w.cell? ⟨p, o + i, none⟩ = some v := by
  rw [cell_of_row w _ _ _ _ _ h.blk, ← h.len, lay_get (lt_of_get hv)]; exact hv
theorem BlI.free (h : BlI w p T la lb o d) (i : Nat) : w.frozen? ⟨p, o + i, none⟩ = false := frozen_of_row w _ _ _ _ h.blk
theorem BlI.below (h : BlI w p T la lb o d) (hb : Below w.heap.size w w1) : BlI w1 p T la lb o d := ⟨(hb.block p (lt_of_block h.blk)).trans h.blk, h.len⟩
theorem BlI.sub (h : BlI w p T la lb o (put d k e)) (hk : k ≤ d.size) : BlI w p T (la ++ d.toList.take k) (d.toList.drop (k + e.size) ++ lb) (o + k) e :=
  ⟨by rw [← lay_put]; exact h.blk, by simp [h.len]; omega⟩
theorem AtI.bl (h : AtI TM w L s p T la lb o d) : BlI w p T la lb o d := ⟨h.at_.blk, h.len⟩
theorem AtI.mem (h : AtI TM w L s p T la lb o d) : MemAt TM w L s := h.at_.mem
theorem AtI.wid (h : AtI TM w L s p T la lb o d) : H.Wid w := h.at_.wid
theorem AtI.cell (h : AtI TM w L s p T la lb o d) (i : Nat) {v : Value} (hv : d[i]? = some v := by rfl) : w.cell? ⟨p, o + i, none⟩ = some v := h.bl.cell i hv
theorem AtI.free (h : AtI TM w L s p T la lb o d) (i : Nat) : w.frozen? ⟨p, o + i, none⟩ = false := h.bl.free i
theorem AtI.step (h : AtI TM w L s p T la lb o d) (hm : MemAt TM w1 L1 s1) (st : Step w L w1 L1) : AtI TM w1 L1 s1 p T la lb o d := ⟨h.at_.step hm st, h.len⟩
theorem AtI.below (h : AtI TM w L s p T la lb o d) (hb : Below w.heap.size w w1) : AtI TM w1 L s p T la lb o d := ⟨h.at_.below hb, h.len⟩
theorem AtI.alloc (h : AtI TM w L s p T la lb o d) (x : Obj) : AtI TM (w.alloc x) L s p T la lb o d := ⟨h.at_.alloc x, h.len⟩
theorem AtI.set (h : AtI TM w L s p T la lb o d) (i : Nat) (u : Value) {v : Value} (hv : d[i]? = some v := by rfl) : AtI TM (w.setCell ⟨p, o + i, none⟩ u) L s p T la lb o (d.setIfInBounds i u) :=
  ⟨by have := h.at_.set (o + i) u; rwa [← h.len, lay_set (lt_of_get hv), h.len] at this, h.len⟩
theorem AtI.sub (h : AtI TM w L s p T la lb o (put d k e)) (hk : k ≤ d.size) : AtI TM w L s p T (la ++ d.toList.take k) (d.toList.drop (k + e.size) ++ lb) (o + k) e :=
  ⟨by rw [← lay_put]; exact h.at_, by simp [h.len]; omega⟩
theorem AtI.up {e' : Array Value} (h : AtI TM w L s p T (la ++ d.toList.take k) (d.toList.drop (k + e.size) ++ lb) (o + k) e') (hl : la.length = o) (he : e'.size = e.size) : AtI TM w L s p T la lb o (put d k e') :=
  ⟨by rw [lay_put, he]; exact h.at_, hl⟩
/-- cells that are written one behind the other -/
def sets (w : World) (p : Nat) : Nat → List Value → World
  | _, [] => w
  | o, u :: us => sets (w.setCell ⟨p, o, none⟩ u) p (o + 1) us
theorem put_cons (d : Array Value) (k : Nat) (u : Value) (us : List Value) (h : k < d.size) : put (d.setIfInBounds k u) (k + 1) us.toArray = put d k (u :: us).toArray := by
  have hl : k < d.toList.length := by simpa using h
  have e : (d.setIfInBounds k u).toList = d.toList.take k ++ u :: d.toList.drop (k + 1) := by
    simp only [Array.toList_setIfInBounds]
    rw [List.set_eq_take_append_cons_drop, if_pos hl]
  have ht : (d.toList.take k).length = k := by simp; omega
  have h1 : (d.toList.take k ++ u :: d.toList.drop (k + 1)).take (k + 1) = d.toList.take k ++ [u] := by
    rw [List.take_append, ht, List.take_of_length_le (by omega), show k + 1 - k = 1 by omega]; rfl
  have h2 : (d.toList.take k ++ u :: d.toList.drop (k + 1)).drop (k + 1 + us.length) = d.toList.drop (k + (us.length + 1)) := by
    rw [List.drop_append, ht, List.drop_of_length_le (by omega), show k + 1 + us.length - k = us.length + 1 by omega, List.drop_succ_cons, List.drop_drop, List.nil_append]
    congr 1; omega
  simp only [put, e, h1, List.size_toArray, h2, List.length_cons]
  simp
theorem AtI.sets (us : List Value) : ∀ {w : World} {d : Array Value} {k : Nat}, AtI TM w L s p T la lb o d → k + us.length ≤ d.size → AtI TM (Go.Proofs.YtoablodmodnamaaDoor.sets w p (o + k) us) L s p T la lb o (put d k us.toArray) := by
  induction us with
  | nil => intro w d k h hk; simpa [Go.Proofs.YtoablodmodnamaaDoor.sets, put] using h
  | cons u us ih =>
    intro w d k h hk
    simp only [List.length_cons] at hk
    rw [← put_cons d k u us (by omega)]
    exact ih (k := k + 1) (h.set k u (Array.getElem?_eq_getElem (show k < d.size by omega))) (by simp; omega)
theorem Went.sets (p : Nat) (L : Loc) (us : List Value) : ∀ (w : World) (k : Nat), Went w L p (Go.Proofs.YtoablodmodnamaaDoor.sets w p k us) L := by
  induction us with
  | nil => intro w k; exact Went.refl _ _ _
  | cons u us ih => intro w k; exact (Went.set w L p k u).trans (ih _ _)
theorem BlI.set (h : BlI w p T la lb o d) (i : Nat) (u : Value) {v : Value} (hv : d[i]? = some v := by rfl) : BlI (w.setCell ⟨p, o + i, none⟩ u) p T la lb o (d.setIfInBounds i u) :=
  ⟨by have := Go.Joins.block_setCell (i := o + i) h.blk u; rwa [← h.len, lay_set (lt_of_get hv), h.len] at this, h.len⟩
theorem At.in_ (h : At TM w L s p T d) : AtI TM w L s p T [] [] 0 d := ⟨by simpa [lay] using h, rfl⟩
theorem AtI.out (h : AtI TM w L s p T [] [] 0 d) : At TM w L s p T d := by simpa [lay] using h.at_
theorem bl_of {w : World} {p : Nat} {T : TypeId} {d : Array Value} (h : w.heap[p]? = some (.cells d T (0, 0))) : BlI w p T [] [] 0 d := ⟨by simpa [lay] using h, rfl⟩
theorem bl_out {w : World} {p : Nat} {T : TypeId} {d : Array Value} (h : BlI w p T [] [] 0 d) : w.heap[p]? = some (.cells d T (0, 0)) := by simpa [lay] using h.blk
end
section
variable {TM T : TypeId} {w : World} {L : Loc} {s : St} {p o : Nat} {la lb : List Value}
theorem AtI.putS {a0 a1 a2 a3 a4 a5 a6 a7 a8 a9 a10 a11 : Value} (A : AtI TM w L s p T la lb o #[a0, a1, a2, a3, a4, a5, a6, a7, a8, a9, a10, a11]) (v0 v1 v2 v3 v4 v5 v6 : Value) :
    AtI TM (((((((w.setCell ⟨p, o + 4, none⟩ v0).setCell ⟨p, o + 5, none⟩ v1).setCell ⟨p, o + 6, none⟩ v2).setCell ⟨p, o + 7, none⟩ v3).setCell ⟨p, o + 8, none⟩ v4).setCell ⟨p, o + 9, none⟩ v5).setCell ⟨p, o + 10, none⟩ v6) L s p T la lb o #[a0, a1, a2, a3, v0, v1, v2, v3, v4, v5, v6, a11] := by
  have A1 : AtI TM (w.setCell ⟨p, o + 4, none⟩ v0) L s p T la lb o #[a0, a1, a2, a3, v0, a5, a6, a7, a8, a9, a10, a11] := A.set 4 v0
  have A2 : AtI TM ((w.setCell ⟨p, o + 4, none⟩ v0).setCell ⟨p, o + 5, none⟩ v1) L s p T la lb o #[a0, a1, a2, a3, v0, v1, a6, a7, a8, a9, a10, a11] := A1.set 5 v1
  have A3 : AtI TM (((w.setCell ⟨p, o + 4, none⟩ v0).setCell ⟨p, o + 5, none⟩ v1).setCell ⟨p, o + 6, none⟩ v2) L s p T la lb o #[a0, a1, a2, a3, v0, v1, v2, a7, a8, a9, a10, a11] := A2.set 6 v2
  have A4 : AtI TM ((((w.setCell ⟨p, o + 4, none⟩ v0).setCell ⟨p, o + 5, none⟩ v1).setCell ⟨p, o + 6, none⟩ v2).setCell ⟨p, o + 7, none⟩ v3) L s p T la lb o #[a0, a1, a2, a3, v0, v1, v2, v3, a8, a9, a10, a11] := A3.set 7 v3
  have A5 : AtI TM (((((w.setCell ⟨p, o + 4, none⟩ v0).setCell ⟨p, o + 5, none⟩ v1).setCell ⟨p, o + 6, none⟩ v2).setCell ⟨p, o + 7, none⟩ v3).setCell ⟨p, o + 8, none⟩ v4) L s p T la lb o #[a0, a1, a2, a3, v0, v1, v2, v3, v4, a9, a10, a11] := A4.set 8 v4
  have A6 : AtI TM ((((((w.setCell ⟨p, o + 4, none⟩ v0).setCell ⟨p, o + 5, none⟩ v1).setCell ⟨p, o + 6, none⟩ v2).setCell ⟨p, o + 7, none⟩ v3).setCell ⟨p, o + 8, none⟩ v4).setCell ⟨p, o + 9, none⟩ v5) L s p T la lb o #[a0, a1, a2, a3, v0, v1, v2, v3, v4, v5, a10, a11] := A5.set 9 v5
  have A7 : AtI TM (((((((w.setCell ⟨p, o + 4, none⟩ v0).setCell ⟨p, o + 5, none⟩ v1).setCell ⟨p, o + 6, none⟩ v2).setCell ⟨p, o + 7, none⟩ v3).setCell ⟨p, o + 8, none⟩ v4).setCell ⟨p, o + 9, none⟩ v5).setCell ⟨p, o + 10, none⟩ v6) L s p T la lb o #[a0, a1, a2, a3, v0, v1, v2, v3, v4, v5, v6, a11] := A6.set 10 v6
  exact A7
theorem AtI.putM {a0 a1 a2 a3 a4 a5 a6 a7 a8 a9 a10 a11 : Value} (A : AtI TM w L s p T la lb o #[a0, a1, a2, a3, a4, a5, a6, a7, a8, a9, a10, a11]) (v0 v1 v2 v3 : Value) :
    AtI TM ((((w.setCell ⟨p, o + 7, none⟩ v0).setCell ⟨p, o + 8, none⟩ v1).setCell ⟨p, o + 10, none⟩ v2).setCell ⟨p, o + 2, none⟩ v3) L s p T la lb o #[a0, a1, v3, a3, a4, a5, a6, v0, v1, a9, v2, a11] := by
  have A1 : AtI TM (w.setCell ⟨p, o + 7, none⟩ v0) L s p T la lb o #[a0, a1, a2, a3, a4, a5, a6, v0, a8, a9, a10, a11] := A.set 7 v0
  have A2 : AtI TM ((w.setCell ⟨p, o + 7, none⟩ v0).setCell ⟨p, o + 8, none⟩ v1) L s p T la lb o #[a0, a1, a2, a3, a4, a5, a6, v0, v1, a9, a10, a11] := A1.set 8 v1
  have A3 : AtI TM (((w.setCell ⟨p, o + 7, none⟩ v0).setCell ⟨p, o + 8, none⟩ v1).setCell ⟨p, o + 10, none⟩ v2) L s p T la lb o #[a0, a1, a2, a3, a4, a5, a6, v0, v1, a9, v2, a11] := A2.set 10 v2
  have A4 : AtI TM ((((w.setCell ⟨p, o + 7, none⟩ v0).setCell ⟨p, o + 8, none⟩ v1).setCell ⟨p, o + 10, none⟩ v2).setCell ⟨p, o + 2, none⟩ v3) L s p T la lb o #[a0, a1, v3, a3, a4, a5, a6, v0, v1, a9, v2, a11] := A3.set 2 v3
  exact A4
theorem Went.headI (w : World) (L : Loc) (p o : Nat) (v0 v1 v2 v3 v4 v5 v6 : Value) : Went w L p (((((((w.setCell ⟨p, o + 4, none⟩ v0).setCell ⟨p, o + 5, none⟩ v1).setCell ⟨p, o + 6, none⟩ v2).setCell ⟨p, o + 7, none⟩ v3).setCell ⟨p, o + 8, none⟩ v4).setCell ⟨p, o + 9, none⟩ v5).setCell ⟨p, o + 10, none⟩ v6) L := ((((((((Went.refl w L p).trans (Went.set _ _ _ _ _)).trans (Went.set _ _ _ _ _)).trans (Went.set _ _ _ _ _)).trans (Went.set _ _ _ _ _)).trans (Went.set _ _ _ _ _)).trans (Went.set _ _ _ _ _)).trans (Went.set _ _ _ _ _))
end
section
variable {w : World} {L : Loc} {s : St} {p o : Nat} {la lb : List Value} {T : TypeId}
set_option maxHeartbeats 1000000 in
theorem si1a {c m z y1 y2 y3 y4 y5 y6 y7 l : Int} (A : AtI 142 w L s p T la lb o #[.int .i64 c, .int .i64 m, .int .i64 1, .int .u64 z, .int .i64 y1, .int .i64 y2, .int .i64 y3, .int .i64 y4, .int .i64 y5, .int .i64 y6, .int .i64 y7, .int .u64 l]) (f : s.Fit) (hc : s.c < 1000000) (r : s.Rng) (h1 : pS (s.got c) ≠ 1) :
    Calls Tryd.prog 26 #[.pointer (some ⟨p, o, none⟩), .pointer (some ⟨L.b, 0, none⟩)] w fun e w' => e = .returned (.bool true) ∧
      ∃ L', AtI 142 w' L' (s.load c) p T la lb o #[.int .i64 c, .int .i64 m, .int .i64 0, .int .u64 (s.got c), .int .i64 (pS (s.got c)), .int .i64 (pC (s.got c)), .int .i64 (pN (s.got c)), .int .i64 (pM (s.got c)), .int .i64 (pG (s.got c)), .int .i64 (pT (s.got c)), .int .i64 (pL (s.got c)), .int .u64 l] ∧ Went w L p w' L' := by
  have c0 : w.cell? ⟨p, o, none⟩ = some (.int .i64 c) := A.cell 0
  have cf0 := A.free 0
  have c1 : w.cell? ⟨p, o + 1, none⟩ = some (.int .i64 m) := A.cell 1
  have cf1 := A.free 1
  have c2 : w.cell? ⟨p, o + 2, none⟩ = some (.int .i64 1) := A.cell 2
  have cf2 := A.free 2
  have c3 : w.cell? ⟨p, o + 3, none⟩ = some (.int .u64 z) := A.cell 3
  have cf3 := A.free 3
  have hr := r.got c
  obtain ⟨v, hv⟩ : ∃ v, s.got c = v := ⟨_, rfl⟩
  rw [hv] at hr ⊢
  rw [hv] at h1
  have q1 : (pS v != 1) = true := by simpa using h1
  go_enter Tryd.func26, Tryd.ntmps26
  go_wp2
  go_step3
  go_wp2
  go_step3
  go_wp2_with (first
    | (go_at_call 31; refine (cLoad A.mem f hc c).mono ?_; rintro e w1 ⟨rfl, L1, hm1, st⟩; rw [hv]; have A1 := A.step hm1 st; have d3 : w1.cell? ⟨p, o + 3, none⟩ = some (.int .u64 z) := A1.cell 3; have df3 := A1.free 3)
    | (go_at_call 61; refine (H.cOf v hr.1 hr.2 _ (A1.set 3 (.int .u64 v)).wid).mono ?_; rintro e w2 ⟨rfl, hw2⟩; have hb2 : Below (w1.setCell ⟨p, o + 3, none⟩ (.int .u64 v)).heap.size (w1.setCell ⟨p, o + 3, none⟩ (.int .u64 v)) w2 := (by rw [hw2]; go_grown); clear hw2; have A2 : AtI 142 w2 L1 (s.load c) p T la lb o #[.int .i64 c, .int .i64 m, .int .i64 1, .int .u64 v, .int .i64 y1, .int .i64 y2, .int .i64 y3, .int .i64 y4, .int .i64 y5, .int .i64 y6, .int .i64 y7, .int .u64 l] := (A1.set 3 (.int .u64 v)).below hb2; have g2 : Went w L p w2 L1 := ((Went.of_step st p).trans (Went.set _ _ _ _ _)).trans (Went.of_below hb2 _ _); clear hb2; have x0 : w2.cell? ⟨p, o, none⟩ = some (.int .i64 c) := A2.cell 0; have xf0 := A2.free 0; have x1 : w2.cell? ⟨p, o + 1, none⟩ = some (.int .i64 m) := A2.cell 1; have xf1 := A2.free 1; have x2 : w2.cell? ⟨p, o + 2, none⟩ = some (.int .i64 1) := A2.cell 2; have xf2 := A2.free 2; have x3 : w2.cell? ⟨p, o + 3, none⟩ = some (.int .u64 v) := A2.cell 3; have xf3 := A2.free 3; have x4 : w2.cell? ⟨p, o + 4, none⟩ = some (.int .i64 y1) := A2.cell 4; have xf4 := A2.free 4; have x5 : w2.cell? ⟨p, o + 5, none⟩ = some (.int .i64 y2) := A2.cell 5; have xf5 := A2.free 5; have x6 : w2.cell? ⟨p, o + 6, none⟩ = some (.int .i64 y3) := A2.cell 6; have xf6 := A2.free 6; have x7 : w2.cell? ⟨p, o + 7, none⟩ = some (.int .i64 y4) := A2.cell 7; have xf7 := A2.free 7; have x8 : w2.cell? ⟨p, o + 8, none⟩ = some (.int .i64 y5) := A2.cell 8; have xf8 := A2.free 8; have x9 : w2.cell? ⟨p, o + 9, none⟩ = some (.int .i64 y6) := A2.cell 9; have xf9 := A2.free 9; have x10 : w2.cell? ⟨p, o + 10, none⟩ = some (.int .i64 y7) := A2.cell 10; have xf10 := A2.free 10; have x11 : w2.cell? ⟨p, o + 11, none⟩ = some (.int .u64 l) := A2.cell 11; have xf11 := A2.free 11; have A3 := A2.putS (.int .i64 (pS v)) (.int .i64 (pC v)) (.int .i64 (pN v)) (.int .i64 (pM v)) (.int .i64 (pG v)) (.int .i64 (pT v)) (.int .i64 (pL v)); have g3 := g2.trans (Went.headI w2 L1 p o (.int .i64 (pS v)) (.int .i64 (pC v)) (.int .i64 (pN v)) (.int .i64 (pM v)) (.int .i64 (pG v)) (.int .i64 (pT v)) (.int .i64 (pL v)))))
  rw [Exit.noGoto_ret]
  go_ret
  exact ⟨rfl, L1, A3.set 2 (.int .i64 0), g3.trans (Went.set _ _ _ _ _)⟩
set_option maxHeartbeats 1000000 in
theorem si1b {c m z y1 y2 y3 y4 y5 y6 y7 l : Int} (A : AtI 142 w L s p T la lb o #[.int .i64 c, .int .i64 m, .int .i64 1, .int .u64 z, .int .i64 y1, .int .i64 y2, .int .i64 y3, .int .i64 y4, .int .i64 y5, .int .i64 y6, .int .i64 y7, .int .u64 l]) (f : s.Fit) (hc : s.c < 1000000) (r : s.Rng) (h1 : pS (s.got c) = 1) (h2 : pM (s.got c) = m) :
    Calls Tryd.prog 26 #[.pointer (some ⟨p, o, none⟩), .pointer (some ⟨L.b, 0, none⟩)] w fun e w' => e = .returned (.bool true) ∧
      ∃ L', AtI 142 w' L' (s.load c) p T la lb o #[.int .i64 c, .int .i64 m, .int .i64 0, .int .u64 (s.got c), .int .i64 (pS (s.got c)), .int .i64 (pC (s.got c)), .int .i64 (pN (s.got c)), .int .i64 (pM (s.got c)), .int .i64 (pG (s.got c)), .int .i64 (pT (s.got c)), .int .i64 (pL (s.got c)), .int .u64 l] ∧ Went w L p w' L' := by
  have c0 : w.cell? ⟨p, o, none⟩ = some (.int .i64 c) := A.cell 0
  have cf0 := A.free 0
  have c1 : w.cell? ⟨p, o + 1, none⟩ = some (.int .i64 m) := A.cell 1
  have cf1 := A.free 1
  have c2 : w.cell? ⟨p, o + 2, none⟩ = some (.int .i64 1) := A.cell 2
  have cf2 := A.free 2
  have c3 : w.cell? ⟨p, o + 3, none⟩ = some (.int .u64 z) := A.cell 3
  have cf3 := A.free 3
  have hr := r.got c
  obtain ⟨v, hv⟩ : ∃ v, s.got c = v := ⟨_, rfl⟩
  rw [hv] at hr ⊢
  rw [hv] at h1 h2
  have q1 : (pS v != 1) = false := by simp [h1]
  have q2 : (pM v == m) = true := by simp [h2]
  clear h1 h2
  go_enter Tryd.func26, Tryd.ntmps26
  go_wp2
  go_step3
  go_wp2
  go_step3
  go_wp2_with (first
    | (go_at_call 31; refine (cLoad A.mem f hc c).mono ?_; rintro e w1 ⟨rfl, L1, hm1, st⟩; rw [hv]; have A1 := A.step hm1 st; have d3 : w1.cell? ⟨p, o + 3, none⟩ = some (.int .u64 z) := A1.cell 3; have df3 := A1.free 3)
    | (go_at_call 61; refine (H.cOf v hr.1 hr.2 _ (A1.set 3 (.int .u64 v)).wid).mono ?_; rintro e w2 ⟨rfl, hw2⟩; have hb2 : Below (w1.setCell ⟨p, o + 3, none⟩ (.int .u64 v)).heap.size (w1.setCell ⟨p, o + 3, none⟩ (.int .u64 v)) w2 := (by rw [hw2]; go_grown); clear hw2; have A2 : AtI 142 w2 L1 (s.load c) p T la lb o #[.int .i64 c, .int .i64 m, .int .i64 1, .int .u64 v, .int .i64 y1, .int .i64 y2, .int .i64 y3, .int .i64 y4, .int .i64 y5, .int .i64 y6, .int .i64 y7, .int .u64 l] := (A1.set 3 (.int .u64 v)).below hb2; have g2 : Went w L p w2 L1 := ((Went.of_step st p).trans (Went.set _ _ _ _ _)).trans (Went.of_below hb2 _ _); clear hb2; have x0 : w2.cell? ⟨p, o, none⟩ = some (.int .i64 c) := A2.cell 0; have xf0 := A2.free 0; have x1 : w2.cell? ⟨p, o + 1, none⟩ = some (.int .i64 m) := A2.cell 1; have xf1 := A2.free 1; have x2 : w2.cell? ⟨p, o + 2, none⟩ = some (.int .i64 1) := A2.cell 2; have xf2 := A2.free 2; have x3 : w2.cell? ⟨p, o + 3, none⟩ = some (.int .u64 v) := A2.cell 3; have xf3 := A2.free 3; have x4 : w2.cell? ⟨p, o + 4, none⟩ = some (.int .i64 y1) := A2.cell 4; have xf4 := A2.free 4; have x5 : w2.cell? ⟨p, o + 5, none⟩ = some (.int .i64 y2) := A2.cell 5; have xf5 := A2.free 5; have x6 : w2.cell? ⟨p, o + 6, none⟩ = some (.int .i64 y3) := A2.cell 6; have xf6 := A2.free 6; have x7 : w2.cell? ⟨p, o + 7, none⟩ = some (.int .i64 y4) := A2.cell 7; have xf7 := A2.free 7; have x8 : w2.cell? ⟨p, o + 8, none⟩ = some (.int .i64 y5) := A2.cell 8; have xf8 := A2.free 8; have x9 : w2.cell? ⟨p, o + 9, none⟩ = some (.int .i64 y6) := A2.cell 9; have xf9 := A2.free 9; have x10 : w2.cell? ⟨p, o + 10, none⟩ = some (.int .i64 y7) := A2.cell 10; have xf10 := A2.free 10; have x11 : w2.cell? ⟨p, o + 11, none⟩ = some (.int .u64 l) := A2.cell 11; have xf11 := A2.free 11; have A3 := A2.putS (.int .i64 (pS v)) (.int .i64 (pC v)) (.int .i64 (pN v)) (.int .i64 (pM v)) (.int .i64 (pG v)) (.int .i64 (pT v)) (.int .i64 (pL v)); have g3 := g2.trans (Went.headI w2 L1 p o (.int .i64 (pS v)) (.int .i64 (pC v)) (.int .i64 (pN v)) (.int .i64 (pM v)) (.int .i64 (pG v)) (.int .i64 (pT v)) (.int .i64 (pL v)))))
  clear x0 xf0 x1 xf1 x2 xf2 x3 xf3 x4 xf4 x5 xf5 x6 xf6 x7 xf7 x8 xf8 x9 xf9 x10 xf10 x11 xf11
  generalize ((((((w2.setCell ⟨p, o + 4, none⟩ (.int .i64 (pS v))).setCell ⟨p, o + 5, none⟩ (.int .i64 (pC v))).setCell ⟨p, o + 6, none⟩ (.int .i64 (pN v))).setCell ⟨p, o + 7, none⟩ (.int .i64 (pM v))).setCell ⟨p, o + 8, none⟩ (.int .i64 (pG v))).setCell ⟨p, o + 9, none⟩ (.int .i64 (pT v))).setCell ⟨p, o + 10, none⟩ (.int .i64 (pL v)) = wa at A3 g3 ⊢
  have u0 : wa.cell? ⟨p, o, none⟩ = some (.int .i64 c) := A3.cell 0
  have uf0 := A3.free 0
  have u1 : wa.cell? ⟨p, o + 1, none⟩ = some (.int .i64 m) := A3.cell 1
  have uf1 := A3.free 1
  have u2 : wa.cell? ⟨p, o + 2, none⟩ = some (.int .i64 1) := A3.cell 2
  have uf2 := A3.free 2
  have u3 : wa.cell? ⟨p, o + 3, none⟩ = some (.int .u64 v) := A3.cell 3
  have uf3 := A3.free 3
  have u4 : wa.cell? ⟨p, o + 4, none⟩ = some (.int .i64 (pS v)) := A3.cell 4
  have uf4 := A3.free 4
  have u5 : wa.cell? ⟨p, o + 5, none⟩ = some (.int .i64 (pC v)) := A3.cell 5
  have uf5 := A3.free 5
  have u6 : wa.cell? ⟨p, o + 6, none⟩ = some (.int .i64 (pN v)) := A3.cell 6
  have uf6 := A3.free 6
  have u7 : wa.cell? ⟨p, o + 7, none⟩ = some (.int .i64 (pM v)) := A3.cell 7
  have uf7 := A3.free 7
  have u8 : wa.cell? ⟨p, o + 8, none⟩ = some (.int .i64 (pG v)) := A3.cell 8
  have uf8 := A3.free 8
  have u9 : wa.cell? ⟨p, o + 9, none⟩ = some (.int .i64 (pT v)) := A3.cell 9
  have uf9 := A3.free 9
  have u10 : wa.cell? ⟨p, o + 10, none⟩ = some (.int .i64 (pL v)) := A3.cell 10
  have uf10 := A3.free 10
  have u11 : wa.cell? ⟨p, o + 11, none⟩ = some (.int .u64 l) := A3.cell 11
  have uf11 := A3.free 11
  go_quiet (fail)
  go_wp2
  rw [Exit.noGoto_ret]
  go_ret
  exact ⟨rfl, L1, (A3.below (S.bdr (Below.refl _ _) _)).set 2 (.int .i64 0), (g3.trans (Went.of_below (S.bdr (Below.refl _ _) _) _ _)).trans (Went.set _ _ _ _ _)⟩
set_option maxHeartbeats 1000000 in
theorem si1c {c m z y1 y2 y3 y4 y5 y6 y7 l : Int} (A : AtI 142 w L s p T la lb o #[.int .i64 c, .int .i64 m, .int .i64 1, .int .u64 z, .int .i64 y1, .int .i64 y2, .int .i64 y3, .int .i64 y4, .int .i64 y5, .int .i64 y6, .int .i64 y7, .int .u64 l]) (f : s.Fit) (hc : s.c < 1000000) (r : s.Rng) (h1 : pS (s.got c) = 1) (h2 : pM (s.got c) ≠ m) :
    Calls Tryd.prog 26 #[.pointer (some ⟨p, o, none⟩), .pointer (some ⟨L.b, 0, none⟩)] w fun e w' => e = .returned (.bool false) ∧
      ∃ L', AtI 142 w' L' (s.load c) p T la lb o #[.int .i64 c, .int .i64 m, .int .i64 2, .int .u64 (s.got c), .int .i64 (pS (s.got c)), .int .i64 (pC (s.got c)), .int .i64 (pN (s.got c)), .int .i64 m, .int .i64 1, .int .i64 (pT (s.got c)), .int .i64 0, .int .u64 l] ∧ Went w L p w' L' := by
  have c0 : w.cell? ⟨p, o, none⟩ = some (.int .i64 c) := A.cell 0
  have cf0 := A.free 0
  have c1 : w.cell? ⟨p, o + 1, none⟩ = some (.int .i64 m) := A.cell 1
  have cf1 := A.free 1
  have c2 : w.cell? ⟨p, o + 2, none⟩ = some (.int .i64 1) := A.cell 2
  have cf2 := A.free 2
  have c3 : w.cell? ⟨p, o + 3, none⟩ = some (.int .u64 z) := A.cell 3
  have cf3 := A.free 3
  have hr := r.got c
  obtain ⟨v, hv⟩ : ∃ v, s.got c = v := ⟨_, rfl⟩
  rw [hv] at hr ⊢
  rw [hv] at h1 h2
  have q1 : (pS v != 1) = false := by simp [h1]
  have q2 : (pM v == m) = false := by simpa using h2
  clear h1 h2
  go_enter Tryd.func26, Tryd.ntmps26
  go_wp2
  go_step3
  go_wp2
  go_step3
  go_wp2_with (first
    | (go_at_call 31; refine (cLoad A.mem f hc c).mono ?_; rintro e w1 ⟨rfl, L1, hm1, st⟩; rw [hv]; have A1 := A.step hm1 st; have d3 : w1.cell? ⟨p, o + 3, none⟩ = some (.int .u64 z) := A1.cell 3; have df3 := A1.free 3)
    | (go_at_call 61; refine (H.cOf v hr.1 hr.2 _ (A1.set 3 (.int .u64 v)).wid).mono ?_; rintro e w2 ⟨rfl, hw2⟩; have hb2 : Below (w1.setCell ⟨p, o + 3, none⟩ (.int .u64 v)).heap.size (w1.setCell ⟨p, o + 3, none⟩ (.int .u64 v)) w2 := (by rw [hw2]; go_grown); clear hw2; have A2 : AtI 142 w2 L1 (s.load c) p T la lb o #[.int .i64 c, .int .i64 m, .int .i64 1, .int .u64 v, .int .i64 y1, .int .i64 y2, .int .i64 y3, .int .i64 y4, .int .i64 y5, .int .i64 y6, .int .i64 y7, .int .u64 l] := (A1.set 3 (.int .u64 v)).below hb2; have g2 : Went w L p w2 L1 := ((Went.of_step st p).trans (Went.set _ _ _ _ _)).trans (Went.of_below hb2 _ _); clear hb2; have x0 : w2.cell? ⟨p, o, none⟩ = some (.int .i64 c) := A2.cell 0; have xf0 := A2.free 0; have x1 : w2.cell? ⟨p, o + 1, none⟩ = some (.int .i64 m) := A2.cell 1; have xf1 := A2.free 1; have x2 : w2.cell? ⟨p, o + 2, none⟩ = some (.int .i64 1) := A2.cell 2; have xf2 := A2.free 2; have x3 : w2.cell? ⟨p, o + 3, none⟩ = some (.int .u64 v) := A2.cell 3; have xf3 := A2.free 3; have x4 : w2.cell? ⟨p, o + 4, none⟩ = some (.int .i64 y1) := A2.cell 4; have xf4 := A2.free 4; have x5 : w2.cell? ⟨p, o + 5, none⟩ = some (.int .i64 y2) := A2.cell 5; have xf5 := A2.free 5; have x6 : w2.cell? ⟨p, o + 6, none⟩ = some (.int .i64 y3) := A2.cell 6; have xf6 := A2.free 6; have x7 : w2.cell? ⟨p, o + 7, none⟩ = some (.int .i64 y4) := A2.cell 7; have xf7 := A2.free 7; have x8 : w2.cell? ⟨p, o + 8, none⟩ = some (.int .i64 y5) := A2.cell 8; have xf8 := A2.free 8; have x9 : w2.cell? ⟨p, o + 9, none⟩ = some (.int .i64 y6) := A2.cell 9; have xf9 := A2.free 9; have x10 : w2.cell? ⟨p, o + 10, none⟩ = some (.int .i64 y7) := A2.cell 10; have xf10 := A2.free 10; have x11 : w2.cell? ⟨p, o + 11, none⟩ = some (.int .u64 l) := A2.cell 11; have xf11 := A2.free 11; have A3 := A2.putS (.int .i64 (pS v)) (.int .i64 (pC v)) (.int .i64 (pN v)) (.int .i64 (pM v)) (.int .i64 (pG v)) (.int .i64 (pT v)) (.int .i64 (pL v)); have g3 := g2.trans (Went.headI w2 L1 p o (.int .i64 (pS v)) (.int .i64 (pC v)) (.int .i64 (pN v)) (.int .i64 (pM v)) (.int .i64 (pG v)) (.int .i64 (pT v)) (.int .i64 (pL v)))))
  clear x0 xf0 x1 xf1 x2 xf2 x3 xf3 x4 xf4 x5 xf5 x6 xf6 x7 xf7 x8 xf8 x9 xf9 x10 xf10 x11 xf11
  generalize ((((((w2.setCell ⟨p, o + 4, none⟩ (.int .i64 (pS v))).setCell ⟨p, o + 5, none⟩ (.int .i64 (pC v))).setCell ⟨p, o + 6, none⟩ (.int .i64 (pN v))).setCell ⟨p, o + 7, none⟩ (.int .i64 (pM v))).setCell ⟨p, o + 8, none⟩ (.int .i64 (pG v))).setCell ⟨p, o + 9, none⟩ (.int .i64 (pT v))).setCell ⟨p, o + 10, none⟩ (.int .i64 (pL v)) = wa at A3 g3 ⊢
  have u0 : wa.cell? ⟨p, o, none⟩ = some (.int .i64 c) := A3.cell 0
  have uf0 := A3.free 0
  have u1 : wa.cell? ⟨p, o + 1, none⟩ = some (.int .i64 m) := A3.cell 1
  have uf1 := A3.free 1
  have u2 : wa.cell? ⟨p, o + 2, none⟩ = some (.int .i64 1) := A3.cell 2
  have uf2 := A3.free 2
  have u3 : wa.cell? ⟨p, o + 3, none⟩ = some (.int .u64 v) := A3.cell 3
  have uf3 := A3.free 3
  have u4 : wa.cell? ⟨p, o + 4, none⟩ = some (.int .i64 (pS v)) := A3.cell 4
  have uf4 := A3.free 4
  have u5 : wa.cell? ⟨p, o + 5, none⟩ = some (.int .i64 (pC v)) := A3.cell 5
  have uf5 := A3.free 5
  have u6 : wa.cell? ⟨p, o + 6, none⟩ = some (.int .i64 (pN v)) := A3.cell 6
  have uf6 := A3.free 6
  have u7 : wa.cell? ⟨p, o + 7, none⟩ = some (.int .i64 (pM v)) := A3.cell 7
  have uf7 := A3.free 7
  have u8 : wa.cell? ⟨p, o + 8, none⟩ = some (.int .i64 (pG v)) := A3.cell 8
  have uf8 := A3.free 8
  have u9 : wa.cell? ⟨p, o + 9, none⟩ = some (.int .i64 (pT v)) := A3.cell 9
  have uf9 := A3.free 9
  have u10 : wa.cell? ⟨p, o + 10, none⟩ = some (.int .i64 (pL v)) := A3.cell 10
  have uf10 := A3.free 10
  have u11 : wa.cell? ⟨p, o + 11, none⟩ = some (.int .u64 l) := A3.cell 11
  have uf11 := A3.free 11
  go_quiet (fail)
  go_wp2
  rw [Exit.noGoto_ret]
  go_ret
  exact ⟨rfl, L1, (A3.below (S.bdr (Below.refl _ _) _)).putM (.int .i64 m) (.int .i64 1) (.int .i64 0) (.int .i64 2), ((((g3.trans (Went.of_below (S.bdr (Below.refl _ _) _) _ _)).trans (Went.set _ _ _ _ _)).trans (Went.set _ _ _ _ _)).trans (Went.set _ _ _ _ _)).trans (Went.set _ _ _ _ _)⟩
set_option maxHeartbeats 1000000 in
theorem si2t {c m z y1 y2 y3 y4 y5 y6 y7 l : Int} (A : AtI 142 w L s p T la lb o #[.int .i64 c, .int .i64 m, .int .i64 2, .int .u64 z, .int .i64 y1, .int .i64 y2, .int .i64 y3, .int .i64 y4, .int .i64 y5, .int .i64 y6, .int .i64 y7, .int .u64 l]) (f : s.Fit) (hc : s.c < 1000000) (r : s.Rng) (hok : s.ok1 c z = true) :
    Calls Tryd.prog 26 #[.pointer (some ⟨p, o, none⟩), .pointer (some ⟨L.b, 0, none⟩)] w fun e w' => e = .returned (.bool false) ∧
      ∃ L', AtI 142 w' L' (s.cas c z (hw y1 y2 y3 y4 y5 y6 y7)) p T la lb o #[.int .i64 c, .int .i64 m, .int .i64 3, .int .u64 z, .int .i64 y1, .int .i64 y2, .int .i64 y3, .int .i64 y4, .int .i64 y5, .int .i64 y6, .int .i64 y7, .int .u64 l] ∧ Went w L p w' L' := by
  have c2 : w.cell? ⟨p, o + 2, none⟩ = some (.int .i64 2) := A.cell 2
  have keep : ∀ w', Below w.heap.size w w' → w'.cell? ⟨p, o, none⟩ = some (.int .i64 c) ∧ w'.cell? ⟨p, o + 3, none⟩ = some (.int .u64 z) ∧ w'.cell? ⟨p, o + 4, none⟩ = some (.int .i64 y1) ∧ w'.cell? ⟨p, o + 5, none⟩ = some (.int .i64 y2) ∧ w'.cell? ⟨p, o + 6, none⟩ = some (.int .i64 y3) ∧ w'.cell? ⟨p, o + 7, none⟩ = some (.int .i64 y4) ∧ w'.cell? ⟨p, o + 8, none⟩ = some (.int .i64 y5) ∧ w'.cell? ⟨p, o + 9, none⟩ = some (.int .i64 y6) ∧ w'.cell? ⟨p, o + 10, none⟩ = some (.int .i64 y7) := fun w' hb => ⟨(A.below hb).cell 0, (A.below hb).cell 3, (A.below hb).cell 4, (A.below hb).cell 5, (A.below hb).cell 6, (A.below hb).cell 7, (A.below hb).cell 8, (A.below hb).cell 9, (A.below hb).cell 10⟩
  have hbd : Below w.heap.size w w.drew := (Below.refl w.heap.size w).drew
  have RD := keep _ hbd
  go_enter Tryd.func26, Tryd.ntmps26
  go_wp2
  go_step3
  go_wp2
  go_step3
  go_wp2
  go_region_held3 (fun w' => w'.cell? ⟨p, o, none⟩ = some (.int .i64 c) ∧ w'.cell? ⟨p, o + 3, none⟩ = some (.int .u64 z) ∧ w'.cell? ⟨p, o + 4, none⟩ = some (.int .i64 y1) ∧ w'.cell? ⟨p, o + 5, none⟩ = some (.int .i64 y2) ∧ w'.cell? ⟨p, o + 6, none⟩ = some (.int .i64 y3) ∧ w'.cell? ⟨p, o + 7, none⟩ = some (.int .i64 y4) ∧ w'.cell? ⟨p, o + 8, none⟩ = some (.int .i64 y5) ∧ w'.cell? ⟨p, o + 9, none⟩ = some (.int .i64 y6) ∧ w'.cell? ⟨p, o + 10, none⟩ = some (.int .i64 y7)) (first | assumption | exact RD | exact keep _ (by assumption))
    (first
      | (go_at_call 63; refine (H.cWord y1 y2 y3 y4 y5 y6 y7 _ (A.below hbd).wid).mono ?_; rintro e w1 ⟨rfl, x1, hw1⟩; have hb1' : Below w.heap.size w w1 := (by rw [hw1]; exact bel_trans hbd (((Below.refl _ _).alloc (Nat.le_refl _) _).alloc (by simp) _)); clear hw1)
      | (go_at_call 62; refine (cCAS (A.below hb1').mem f hc c z (hw y1 y2 y3 y4 y5 y6 y7)).mono ?_; rintro e w2 ⟨rfl, L2, hm2, st2⟩; rw [hok]; have A2 := (A.below hb1').step hm2 st2; have S2 : w2.cell? ⟨p, o, none⟩ = some (.int .i64 c) ∧ w2.cell? ⟨p, o + 3, none⟩ = some (.int .u64 z) ∧ w2.cell? ⟨p, o + 4, none⟩ = some (.int .i64 y1) ∧ w2.cell? ⟨p, o + 5, none⟩ = some (.int .i64 y2) ∧ w2.cell? ⟨p, o + 6, none⟩ = some (.int .i64 y3) ∧ w2.cell? ⟨p, o + 7, none⟩ = some (.int .i64 y4) ∧ w2.cell? ⟨p, o + 8, none⟩ = some (.int .i64 y5) ∧ w2.cell? ⟨p, o + 9, none⟩ = some (.int .i64 y6) ∧ w2.cell? ⟨p, o + 10, none⟩ = some (.int .i64 y7) := ⟨A2.cell 0, A2.cell 3, A2.cell 4, A2.cell 5, A2.cell 6, A2.cell 7, A2.cell 8, A2.cell 9, A2.cell 10⟩; have g2 := (Went.of_below hb1' L p).trans (Went.of_step st2 p); have d2 : w2.cell? ⟨p, o + 2, none⟩ = some (.int .i64 2) := A2.cell 2; have df2 := A2.free 2))
  go_wp2
  rw [Exit.noGoto_ret]
  go_ret
  exact ⟨rfl, L2, A2.set 2 (.int .i64 3), g2.trans (Went.set _ _ _ _ _)⟩
set_option maxHeartbeats 1000000 in
theorem si2f {c m z y1 y2 y3 y4 y5 y6 y7 l : Int} (A : AtI 142 w L s p T la lb o #[.int .i64 c, .int .i64 m, .int .i64 2, .int .u64 z, .int .i64 y1, .int .i64 y2, .int .i64 y3, .int .i64 y4, .int .i64 y5, .int .i64 y6, .int .i64 y7, .int .u64 l]) (f : s.Fit) (hc : s.c < 1000000) (r : s.Rng) (hok : s.ok1 c z = false) :
    Calls Tryd.prog 26 #[.pointer (some ⟨p, o, none⟩), .pointer (some ⟨L.b, 0, none⟩)] w fun e w' => e = .returned (.bool false) ∧
      ∃ L', AtI 142 w' L' (s.cas c z (hw y1 y2 y3 y4 y5 y6 y7)) p T la lb o #[.int .i64 c, .int .i64 m, .int .i64 1, .int .u64 z, .int .i64 y1, .int .i64 y2, .int .i64 y3, .int .i64 y4, .int .i64 y5, .int .i64 y6, .int .i64 y7, .int .u64 l] ∧ Went w L p w' L' := by
  have c2 : w.cell? ⟨p, o + 2, none⟩ = some (.int .i64 2) := A.cell 2
  have keep : ∀ w', Below w.heap.size w w' → w'.cell? ⟨p, o, none⟩ = some (.int .i64 c) ∧ w'.cell? ⟨p, o + 3, none⟩ = some (.int .u64 z) ∧ w'.cell? ⟨p, o + 4, none⟩ = some (.int .i64 y1) ∧ w'.cell? ⟨p, o + 5, none⟩ = some (.int .i64 y2) ∧ w'.cell? ⟨p, o + 6, none⟩ = some (.int .i64 y3) ∧ w'.cell? ⟨p, o + 7, none⟩ = some (.int .i64 y4) ∧ w'.cell? ⟨p, o + 8, none⟩ = some (.int .i64 y5) ∧ w'.cell? ⟨p, o + 9, none⟩ = some (.int .i64 y6) ∧ w'.cell? ⟨p, o + 10, none⟩ = some (.int .i64 y7) := fun w' hb => ⟨(A.below hb).cell 0, (A.below hb).cell 3, (A.below hb).cell 4, (A.below hb).cell 5, (A.below hb).cell 6, (A.below hb).cell 7, (A.below hb).cell 8, (A.below hb).cell 9, (A.below hb).cell 10⟩
  have hbd : Below w.heap.size w w.drew := (Below.refl w.heap.size w).drew
  have RD := keep _ hbd
  go_enter Tryd.func26, Tryd.ntmps26
  go_wp2
  go_step3
  go_wp2
  go_step3
  go_wp2
  go_region_held3 (fun w' => w'.cell? ⟨p, o, none⟩ = some (.int .i64 c) ∧ w'.cell? ⟨p, o + 3, none⟩ = some (.int .u64 z) ∧ w'.cell? ⟨p, o + 4, none⟩ = some (.int .i64 y1) ∧ w'.cell? ⟨p, o + 5, none⟩ = some (.int .i64 y2) ∧ w'.cell? ⟨p, o + 6, none⟩ = some (.int .i64 y3) ∧ w'.cell? ⟨p, o + 7, none⟩ = some (.int .i64 y4) ∧ w'.cell? ⟨p, o + 8, none⟩ = some (.int .i64 y5) ∧ w'.cell? ⟨p, o + 9, none⟩ = some (.int .i64 y6) ∧ w'.cell? ⟨p, o + 10, none⟩ = some (.int .i64 y7)) (first | assumption | exact RD | exact keep _ (by assumption))
    (first
      | (go_at_call 63; refine (H.cWord y1 y2 y3 y4 y5 y6 y7 _ (A.below hbd).wid).mono ?_; rintro e w1 ⟨rfl, x1, hw1⟩; have hb1' : Below w.heap.size w w1 := (by rw [hw1]; exact bel_trans hbd (((Below.refl _ _).alloc (Nat.le_refl _) _).alloc (by simp) _)); clear hw1)
      | (go_at_call 62; refine (cCAS (A.below hb1').mem f hc c z (hw y1 y2 y3 y4 y5 y6 y7)).mono ?_; rintro e w2 ⟨rfl, L2, hm2, st2⟩; rw [hok]; have A2 := (A.below hb1').step hm2 st2; have S2 : w2.cell? ⟨p, o, none⟩ = some (.int .i64 c) ∧ w2.cell? ⟨p, o + 3, none⟩ = some (.int .u64 z) ∧ w2.cell? ⟨p, o + 4, none⟩ = some (.int .i64 y1) ∧ w2.cell? ⟨p, o + 5, none⟩ = some (.int .i64 y2) ∧ w2.cell? ⟨p, o + 6, none⟩ = some (.int .i64 y3) ∧ w2.cell? ⟨p, o + 7, none⟩ = some (.int .i64 y4) ∧ w2.cell? ⟨p, o + 8, none⟩ = some (.int .i64 y5) ∧ w2.cell? ⟨p, o + 9, none⟩ = some (.int .i64 y6) ∧ w2.cell? ⟨p, o + 10, none⟩ = some (.int .i64 y7) := ⟨A2.cell 0, A2.cell 3, A2.cell 4, A2.cell 5, A2.cell 6, A2.cell 7, A2.cell 8, A2.cell 9, A2.cell 10⟩; have g2 := (Went.of_below hb1' L p).trans (Went.of_step st2 p); have d2 : w2.cell? ⟨p, o + 2, none⟩ = some (.int .i64 2) := A2.cell 2; have df2 := A2.free 2))
  go_wp2
  rw [Exit.noGoto_ret]
  go_ret
  exact ⟨rfl, L2, A2.set 2 (.int .i64 1), g2.trans (Went.set _ _ _ _ _)⟩
set_option maxHeartbeats 1000000 in
theorem si3 {c m z y1 y2 y3 y4 y5 y6 y7 l : Int} (A : AtI 142 w L s p T la lb o #[.int .i64 c, .int .i64 m, .int .i64 3, .int .u64 z, .int .i64 y1, .int .i64 y2, .int .i64 y3, .int .i64 y4, .int .i64 y5, .int .i64 y6, .int .i64 y7, .int .u64 l]) (f : s.Fit) (hc : s.c < 1000000) (r : s.Rng) :
    Calls Tryd.prog 26 #[.pointer (some ⟨p, o, none⟩), .pointer (some ⟨L.b, 0, none⟩)] w fun e w' => e = .returned (.bool false) ∧
      ∃ L', AtI 142 w' L' (s.load 1) p T la lb o #[.int .i64 c, .int .i64 m, .int .i64 4, .int .u64 z, .int .i64 y1, .int .i64 y2, .int .i64 y3, .int .i64 y4, .int .i64 y5, .int .i64 y6, .int .i64 y7, .int .u64 (s.got 1)] ∧ Went w L p w' L' := by
  have c2 : w.cell? ⟨p, o + 2, none⟩ = some (.int .i64 3) := A.cell 2
  go_enter Tryd.func26, Tryd.ntmps26
  go_wp2
  go_step3
  go_wp2
  go_step3
  go_wp2_with (go_at_call 31; refine (cLoad A.mem f hc 1).mono ?_; rintro e w1 ⟨rfl, L1, hm1, st⟩; have A1 := A.step hm1 st; have d2 : w1.cell? ⟨p, o + 2, none⟩ = some (.int .i64 3) := A1.cell 2; have df2 := A1.free 2; have d11 : w1.cell? ⟨p, o + 11, none⟩ = some (.int .u64 l) := A1.cell 11; have df11 := A1.free 11)
  rw [Exit.noGoto_ret]
  go_ret
  exact ⟨rfl, L1, (A1.set 11 _).set 2 (.int .i64 4), ((Went.of_step st p).trans (Went.set _ _ _ _ _)).trans (Went.set _ _ _ _ _)⟩
set_option maxHeartbeats 1000000 in
theorem si4 {c m z y1 y2 y3 y4 y5 y6 y7 l : Int} (A : AtI 142 w L s p T la lb o #[.int .i64 c, .int .i64 m, .int .i64 4, .int .u64 z, .int .i64 y1, .int .i64 y2, .int .i64 y3, .int .i64 y4, .int .i64 y5, .int .i64 y6, .int .i64 y7, .int .u64 l]) (f : s.Fit) (hc : s.c < 1000000) (r : s.Rng) (hl : U64 l) :
    Calls Tryd.prog 26 #[.pointer (some ⟨p, o, none⟩), .pointer (some ⟨L.b, 0, none⟩)] w fun e w' => e = .returned (.bool false) ∧
      ∃ L', AtI 142 w' L' (s.store c (hw y1 y2 y3 y4 y5 y6 (t0 l))) p T la lb o #[.int .i64 c, .int .i64 m, .int .i64 5, .int .u64 z, .int .i64 y1, .int .i64 y2, .int .i64 y3, .int .i64 y4, .int .i64 y5, .int .i64 y6, .int .i64 (t0 l), .int .u64 l] ∧ Went w L p w' L' := by
  have c2 : w.cell? ⟨p, o + 2, none⟩ = some (.int .i64 4) := A.cell 2
  have c11 : w.cell? ⟨p, o + 11, none⟩ = some (.int .u64 l) := A.cell 11
  go_enter Tryd.func26, Tryd.ntmps26
  go_wp2
  go_step3
  go_wp2
  go_step3
  go_wp2_with (go_at_call 64; refine (cFirst l hl _).mono ?_; rintro e w0 ⟨rfl, hb0⟩; have A0 := A.below hb0; have d10 : w0.cell? ⟨p, o + 10, none⟩ = some (.int .i64 y7) := A0.cell 10; have df10 := A0.free 10)
  have Aa : AtI 142 (w0.setCell ⟨p, o + 10, none⟩ (.int .i64 (t0 l))) L s p T la lb o #[.int .i64 c, .int .i64 m, .int .i64 4, .int .u64 z, .int .i64 y1, .int .i64 y2, .int .i64 y3, .int .i64 y4, .int .i64 y5, .int .i64 y6, .int .i64 (t0 l), .int .u64 l] := A0.set 10 (.int .i64 (t0 l))
  have ga : Went w L p (w0.setCell ⟨p, o + 10, none⟩ (.int .i64 (t0 l))) L := (Went.of_below hb0 L p).trans (Went.set _ _ _ _ _)
  generalize w0.setCell ⟨p, o + 10, none⟩ (.int .i64 (t0 l)) = wa at Aa ga ⊢
  have keep : ∀ w', Below wa.heap.size wa w' → w'.cell? ⟨p, o, none⟩ = some (.int .i64 c) ∧ w'.cell? ⟨p, o + 4, none⟩ = some (.int .i64 y1) ∧ w'.cell? ⟨p, o + 5, none⟩ = some (.int .i64 y2) ∧ w'.cell? ⟨p, o + 6, none⟩ = some (.int .i64 y3) ∧ w'.cell? ⟨p, o + 7, none⟩ = some (.int .i64 y4) ∧ w'.cell? ⟨p, o + 8, none⟩ = some (.int .i64 y5) ∧ w'.cell? ⟨p, o + 9, none⟩ = some (.int .i64 y6) ∧ w'.cell? ⟨p, o + 10, none⟩ = some (.int .i64 (t0 l)) := fun w' hb => ⟨(Aa.below hb).cell 0, (Aa.below hb).cell 4, (Aa.below hb).cell 5, (Aa.below hb).cell 6, (Aa.below hb).cell 7, (Aa.below hb).cell 8, (Aa.below hb).cell 9, (Aa.below hb).cell 10⟩
  have hbd : Below wa.heap.size wa wa.drew := (Below.refl wa.heap.size wa).drew
  have RD := keep _ hbd
  go_region_held3 (fun w' => w'.cell? ⟨p, o, none⟩ = some (.int .i64 c) ∧ w'.cell? ⟨p, o + 4, none⟩ = some (.int .i64 y1) ∧ w'.cell? ⟨p, o + 5, none⟩ = some (.int .i64 y2) ∧ w'.cell? ⟨p, o + 6, none⟩ = some (.int .i64 y3) ∧ w'.cell? ⟨p, o + 7, none⟩ = some (.int .i64 y4) ∧ w'.cell? ⟨p, o + 8, none⟩ = some (.int .i64 y5) ∧ w'.cell? ⟨p, o + 9, none⟩ = some (.int .i64 y6) ∧ w'.cell? ⟨p, o + 10, none⟩ = some (.int .i64 (t0 l))) (first | assumption | exact RD | exact keep _ (by assumption))
    (first
      | (go_at_call 63; refine (H.cWord y1 y2 y3 y4 y5 y6 (t0 l) _ (Aa.below hbd).wid).mono ?_; rintro e w1 ⟨rfl, x1, hw1⟩; have hb1' : Below wa.heap.size wa w1 := (by rw [hw1]; exact bel_trans hbd (((Below.refl _ _).alloc (Nat.le_refl _) _).alloc (by simp) _)); clear hw1)
      | (go_at_call 37; refine (cStore (Aa.below hb1').mem f hc c (hw y1 y2 y3 y4 y5 y6 (t0 l))).mono ?_; rintro e w2 ⟨rfl, L2, hm2, st2⟩; have A2 := (Aa.below hb1').step hm2 st2; have S2 : w2.cell? ⟨p, o, none⟩ = some (.int .i64 c) ∧ w2.cell? ⟨p, o + 4, none⟩ = some (.int .i64 y1) ∧ w2.cell? ⟨p, o + 5, none⟩ = some (.int .i64 y2) ∧ w2.cell? ⟨p, o + 6, none⟩ = some (.int .i64 y3) ∧ w2.cell? ⟨p, o + 7, none⟩ = some (.int .i64 y4) ∧ w2.cell? ⟨p, o + 8, none⟩ = some (.int .i64 y5) ∧ w2.cell? ⟨p, o + 9, none⟩ = some (.int .i64 y6) ∧ w2.cell? ⟨p, o + 10, none⟩ = some (.int .i64 (t0 l)) := ⟨A2.cell 0, A2.cell 4, A2.cell 5, A2.cell 6, A2.cell 7, A2.cell 8, A2.cell 9, A2.cell 10⟩; have g2 := (ga.trans (Went.of_below hb1' L p)).trans (Went.of_step st2 p); have d2 : w2.cell? ⟨p, o + 2, none⟩ = some (.int .i64 4) := A2.cell 2; have df2 := A2.free 2))
  go_wp2
  rw [Exit.noGoto_ret]
  go_ret
  exact ⟨rfl, L2, A2.set 2 (.int .i64 5), g2.trans (Went.set _ _ _ _ _)⟩
set_option maxHeartbeats 1000000 in
theorem si5t {c m z y1 y2 y3 y4 y5 y6 y7 l : Int} (A : AtI 142 w L s p T la lb o #[.int .i64 c, .int .i64 m, .int .i64 5, .int .u64 z, .int .i64 y1, .int .i64 y2, .int .i64 y3, .int .i64 y4, .int .i64 y5, .int .i64 y6, .int .i64 y7, .int .u64 l]) (f : s.Fit) (hc : s.c < 1000000) (r : s.Rng) (hl : U64 l) (hok : s.ok1 1 l = true) :
    Calls Tryd.prog 26 #[.pointer (some ⟨p, o, none⟩), .pointer (some ⟨L.b, 0, none⟩)] w fun e w' => e = .returned (.bool true) ∧
      ∃ L', AtI 142 w' L' (s.cas 1 l (nx l c)) p T la lb o #[.int .i64 c, .int .i64 m, .int .i64 0, .int .u64 z, .int .i64 y1, .int .i64 y2, .int .i64 y3, .int .i64 y4, .int .i64 y5, .int .i64 y6, .int .i64 y7, .int .u64 l] ∧ Went w L p w' L' := by
  have c2 : w.cell? ⟨p, o + 2, none⟩ = some (.int .i64 5) := A.cell 2
  have keep : ∀ w', Below w.heap.size w w' → w'.cell? ⟨p, o, none⟩ = some (.int .i64 c) ∧ w'.cell? ⟨p, o + 11, none⟩ = some (.int .u64 l) := fun w' hb => ⟨(A.below hb).cell 0, (A.below hb).cell 11⟩
  have hbd : Below w.heap.size w w.drew := (Below.refl w.heap.size w).drew
  have RD := keep _ hbd
  go_enter Tryd.func26, Tryd.ntmps26
  go_wp2
  go_step3
  go_wp2
  go_step3
  go_wp2
  go_region_held3 (fun w' => w'.cell? ⟨p, o, none⟩ = some (.int .i64 c) ∧ w'.cell? ⟨p, o + 11, none⟩ = some (.int .u64 l)) (first | assumption | exact RD | exact keep _ (by assumption))
    (first
      | (go_at_call 65; refine (S.gNext l c hl.1 hl.2 _).mono ?_; rintro e w1 ⟨rfl, hb1⟩; have hb1' := bel_trans hbd hb1)
      | (go_at_call 62; refine (cCAS (A.below hb1').mem f hc 1 l (nx l c)).mono ?_; rintro e w2 ⟨rfl, L2, hm2, st2⟩; rw [hok]; have A2 := (A.below hb1').step hm2 st2; have S2 : w2.cell? ⟨p, o, none⟩ = some (.int .i64 c) ∧ w2.cell? ⟨p, o + 11, none⟩ = some (.int .u64 l) := ⟨A2.cell 0, A2.cell 11⟩; have g2 := (Went.of_below hb1' L p).trans (Went.of_step st2 p); have d2 : w2.cell? ⟨p, o + 2, none⟩ = some (.int .i64 5) := A2.cell 2; have df2 := A2.free 2))
  go_wp2
  rw [Exit.noGoto_ret]
  go_ret
  exact ⟨rfl, L2, A2.set 2 (.int .i64 0), g2.trans (Went.set _ _ _ _ _)⟩
set_option maxHeartbeats 1000000 in
theorem si5f {c m z y1 y2 y3 y4 y5 y6 y7 l : Int} (A : AtI 142 w L s p T la lb o #[.int .i64 c, .int .i64 m, .int .i64 5, .int .u64 z, .int .i64 y1, .int .i64 y2, .int .i64 y3, .int .i64 y4, .int .i64 y5, .int .i64 y6, .int .i64 y7, .int .u64 l]) (f : s.Fit) (hc : s.c < 1000000) (r : s.Rng) (hl : U64 l) (hok : s.ok1 1 l = false) :
    Calls Tryd.prog 26 #[.pointer (some ⟨p, o, none⟩), .pointer (some ⟨L.b, 0, none⟩)] w fun e w' => e = .returned (.bool false) ∧
      ∃ L', AtI 142 w' L' (s.cas 1 l (nx l c)) p T la lb o #[.int .i64 c, .int .i64 m, .int .i64 3, .int .u64 z, .int .i64 y1, .int .i64 y2, .int .i64 y3, .int .i64 y4, .int .i64 y5, .int .i64 y6, .int .i64 y7, .int .u64 l] ∧ Went w L p w' L' := by
  have c2 : w.cell? ⟨p, o + 2, none⟩ = some (.int .i64 5) := A.cell 2
  have keep : ∀ w', Below w.heap.size w w' → w'.cell? ⟨p, o, none⟩ = some (.int .i64 c) ∧ w'.cell? ⟨p, o + 11, none⟩ = some (.int .u64 l) := fun w' hb => ⟨(A.below hb).cell 0, (A.below hb).cell 11⟩
  have hbd : Below w.heap.size w w.drew := (Below.refl w.heap.size w).drew
  have RD := keep _ hbd
  go_enter Tryd.func26, Tryd.ntmps26
  go_wp2
  go_step3
  go_wp2
  go_step3
  go_wp2
  go_region_held3 (fun w' => w'.cell? ⟨p, o, none⟩ = some (.int .i64 c) ∧ w'.cell? ⟨p, o + 11, none⟩ = some (.int .u64 l)) (first | assumption | exact RD | exact keep _ (by assumption))
    (first
      | (go_at_call 65; refine (S.gNext l c hl.1 hl.2 _).mono ?_; rintro e w1 ⟨rfl, hb1⟩; have hb1' := bel_trans hbd hb1)
      | (go_at_call 62; refine (cCAS (A.below hb1').mem f hc 1 l (nx l c)).mono ?_; rintro e w2 ⟨rfl, L2, hm2, st2⟩; rw [hok]; have A2 := (A.below hb1').step hm2 st2; have S2 : w2.cell? ⟨p, o, none⟩ = some (.int .i64 c) ∧ w2.cell? ⟨p, o + 11, none⟩ = some (.int .u64 l) := ⟨A2.cell 0, A2.cell 11⟩; have g2 := (Went.of_below hb1' L p).trans (Went.of_step st2 p); have d2 : w2.cell? ⟨p, o + 2, none⟩ = some (.int .i64 5) := A2.cell 2; have df2 := A2.free 2))
  go_wp2
  rw [Exit.noGoto_ret]
  go_ret
  exact ⟨rfl, L2, A2.set 2 (.int .i64 3), g2.trans (Went.set _ _ _ _ _)⟩
set_option maxHeartbeats 1000000 in
theorem si0 {c m z y1 y2 y3 y4 y5 y6 y7 l : Int} (A : AtI 142 w L s p T la lb o #[.int .i64 c, .int .i64 m, .int .i64 0, .int .u64 z, .int .i64 y1, .int .i64 y2, .int .i64 y3, .int .i64 y4, .int .i64 y5, .int .i64 y6, .int .i64 y7, .int .u64 l]) (f : s.Fit) (hc : s.c < 1000000) (r : s.Rng) :
    Calls Tryd.prog 26 #[.pointer (some ⟨p, o, none⟩), .pointer (some ⟨L.b, 0, none⟩)] w fun e w' => e = .returned (.bool true) ∧
      ∃ L', AtI 142 w' L' (s) p T la lb o #[.int .i64 c, .int .i64 m, .int .i64 0, .int .u64 z, .int .i64 y1, .int .i64 y2, .int .i64 y3, .int .i64 y4, .int .i64 y5, .int .i64 y6, .int .i64 y7, .int .u64 l] ∧ Went w L p w' L' := by
  have c2 : w.cell? ⟨p, o + 2, none⟩ = some (.int .i64 0) := A.cell 2
  have cf2 := A.free 2
  go_enter Tryd.func26, Tryd.ntmps26
  go_wp2
  go_step3
  go_wp2
  go_step3
  go_wp2
  rw [Exit.noGoto_ret]
  go_ret
  exact ⟨rfl, L, A.set 2 (.int .i64 0), Went.set _ _ _ _ _⟩
/-- a step of a Shade within a block -/
theorem cShadeI {x : ShadeS} (A : AtI 142 w L s p T la lb o x.cells) (ok : x.Ok) (f : s.Fit) (hc : s.c < 1000000) (r : s.Rng) :
    Calls Tryd.prog 26 #[.pointer (some ⟨p, o, none⟩), .pointer (some ⟨L.b, 0, none⟩)] w fun e w' => e = .returned (.bool ((x.next s).pc == 0)) ∧
      ∃ L', AtI 142 w' L' (x.mem s) p T la lb o (x.next s).cells ∧ Went w L p w' L' := by
  obtain ⟨c, m, pc, z, ⟨y1, y2, y3, y4, y5, y6, y7⟩, l⟩ := x
  rcases pc_cases5 ok.pc with rfl | rfl | rfl | rfl | rfl | rfl
  · exact si0 A f hc r
  · simp only [ShadeS.next]
    by_cases h1 : pS (s.got c) = 1
    · by_cases h2 : pM (s.got c) = m
      · rw [if_pos (show skips (s.got c) m from Or.inr h2)]; exact si1b A f hc r h1 h2
      · rw [if_neg (show ¬ skips (s.got c) m from fun h => h.elim (fun h => h h1) h2)]; exact si1c A f hc r h1 h2
    · rw [if_pos (show skips (s.got c) m from Or.inl h1)]; exact si1a A f hc r h1
  · simp only [ShadeS.next]
    rcases hok : s.ok1 c z with _ | _
    · exact si2f A f hc r hok
    · exact si2t A f hc r hok
  · exact si3 A f hc r
  · exact si4 A f hc r ok.list
  · simp only [ShadeS.next]
    rcases hok : s.ok1 1 l with _ | _
    · exact si5f A f hc r ok.list hok
    · exact si5t A f hc r ok.list hok
end
end Go.Proofs.YtoablodmodnamaaDoor
