/-
  A machine that lies within a block of another one: cells ahead of it and behind it.
-/
import Derived.Test.YtbojljkdpebheaaDoorLh
namespace Go.Proofs.YtbojljkdpebheaaDoor
set_option linter.unusedVariables false
set_option maxRecDepth 100000
open Go.ChangeShapes Go.WideShapes Go.RowKit
open S.Plain (t0 t1 tw nx)
open H.Plain (hw pL)

/-- cells d of a block: la ahead, lb behind -/
def lay (la : List Value) (d : Array Value) (lb : List Value) : Array Value := (la ++ (d.toList ++ lb)).toArray
/-- cells e in the place of those of d from k on -/
def put (d : Array Value) (k : Nat) (e : Array Value) : Array Value := (d.toList.take k ++ (e.toList ++ d.toList.drop (k + e.size))).toArray
section
variable {la lb : List Value} {d e : Array Value} {i k : Nat} {u v : Value}
theorem lay_size (la lb : List Value) (d : Array Value) : (lay la d lb).size = la.length + d.size + lb.length := by simp [lay]; omega
theorem lay_get (h : i < d.size) : (lay la d lb)[la.length + i]? = d[i]? := by
  simp only [lay, List.getElem?_toArray]
  rw [List.getElem?_append_right (by omega), List.getElem?_append_left (by simp; omega), Nat.add_sub_cancel_left, Array.getElem?_toList]
theorem lay_lo (h : i < la.length) : (lay la d lb)[i]? = la[i]? := by
  simp only [lay, List.getElem?_toArray]
  rw [List.getElem?_append_left h]
theorem lay_hi (h : la.length + d.size ≤ i) : (lay la d lb)[i]? = lb[i - (la.length + d.size)]? := by
  simp only [lay, List.getElem?_toArray]
  rw [List.getElem?_append_right (by omega), List.getElem?_append_right (by simp; omega)]
  congr 1
  simp; omega
theorem lay_ext {cs : Array Value} (hs : cs.size = la.length + d.size + lb.length) (hm : ∀ i, i < d.size → cs[la.length + i]? = d[i]?) (ho : ∀ i, i < la.length ∨ la.length + d.size ≤ i → cs[i]? = (lay la e lb)[i]?) (he : e.size = d.size) : cs = lay la d lb := by
  refine Array.ext_getElem? fun i => ?_
  by_cases h1 : i < la.length
  · rw [ho i (.inl h1), lay_lo h1, lay_lo h1]
  · by_cases h2 : i < la.length + d.size
    · obtain ⟨j, rfl⟩ : ∃ j, i = la.length + j := ⟨i - la.length, by omega⟩
      rw [hm j (by omega), lay_get (by omega)]
    · rw [ho i (.inr (by omega)), lay_hi (by omega), lay_hi (by omega), he]
theorem lay_set (h : i < d.size) (u : Value) : (lay la d lb).setIfInBounds (la.length + i) u = lay la (d.setIfInBounds i u) lb := by
  refine lay_ext (e := d) (by simp [lay_size]) (fun j hj => ?_) (fun j hj => ?_) (by simp)
  · simp only [Array.size_setIfInBounds] at hj
    rw [Array.getElem?_setIfInBounds, Array.getElem?_setIfInBounds, lay_size]
    by_cases h' : i = j
    · subst h'; rw [if_pos rfl, if_pos rfl, if_pos (by omega), if_pos h]
    · rw [if_neg (by omega), if_neg h', lay_get hj]
  · simp only [Array.size_setIfInBounds] at hj
    rw [Array.getElem?_setIfInBounds, if_neg (by omega)]
theorem lay_put (la lb : List Value) (d e : Array Value) (k : Nat) : lay la (put d k e) lb = lay (la ++ d.toList.take k) e (d.toList.drop (k + e.size) ++ lb) := by simp [lay, put]
end
theorem lt_of_get {d : Array Value} {i : Nat} {v : Value} (h : d[i]? = some v) : i < d.size := (Array.getElem?_eq_some_iff.1 h).1
/-- where it lies -/
structure BlI (w : World) (p : Nat) (T : TypeId) (la lb : List Value) (o : Nat) (d : Array Value) : Prop where
  blk : w.heap[p]? = some (.cells (lay la d lb) T (0, 0))
  len : la.length = o
structure AtI (TM : TypeId) (w : World) (L : Loc) (s : St) (p : Nat) (T : TypeId) (la lb : List Value) (o : Nat) (d : Array Value) : Prop where
  at_ : At TM w L s p T (lay la d lb)
  len : la.length = o
section
variable {TM T : TypeId} {w w1 : World} {L L1 : Loc} {s s1 : St} {p o i k : Nat} {la lb : List Value} {d e : Array Value} {v : Value}
theorem BlI.cell (h : BlI w p T la lb o d) (i : Nat) {v : Value} (hv : d[i]? = some v := by rfl) : w.cell? ⟨p, o + i, none⟩ = some v := by
  rw [cell_of_row w _ _ _ _ _ h.blk, ← h.len, lay_get (lt_of_get hv)]; exact hv
theorem BlI.free (h : BlI w p T la lb o d) (i : Nat) : w.frozen? ⟨p, o + i, none⟩ = false := frozen_of_row w _ _ _ _ h.blk
theorem BlI.below (h : BlI w p T la lb o d) (hb : Below w.heap.size w w1) : BlI w1 p T la lb o d := ⟨(hb.block p (lt_of_block h.blk)).trans h.blk, h.len⟩
theorem BlI.sub (h : BlI w p T la lb o (put d k e)) (hk : k ≤ d.size) : BlI w p T (la ++ d.toList.take k) (d.toList.drop (k + e.size) ++ lb) (o + k) e :=
  ⟨by rw [← lay_put]; exact h.blk, by simp [h.len]; omega⟩
theorem AtI.bl (h : AtI TM w L s p T la lb o d) : BlI w p T la lb o d := ⟨h.at_.blk, h.len⟩
theorem AtI.mem (h : AtI TM w L s p T la lb o d) : MemAt TM w L s := h.at_.mem
theorem AtI.wid (h : AtI TM w L s p T la lb o d) : Laid w := h.at_.wid
theorem AtI.cell (h : AtI TM w L s p T la lb o d) (i : Nat) {v : Value} (hv : d[i]? = some v := by rfl) : w.cell? ⟨p, o + i, none⟩ = some v := h.bl.cell i hv
theorem AtI.free (h : AtI TM w L s p T la lb o d) (i : Nat) : w.frozen? ⟨p, o + i, none⟩ = false := h.bl.free i
theorem AtI.step (h : AtI TM w L s p T la lb o d) (hm : MemAt TM w1 L1 s1) (st : Step w L w1 L1) : AtI TM w1 L1 s1 p T la lb o d := ⟨h.at_.step hm st, h.len⟩
theorem AtI.below (h : AtI TM w L s p T la lb o d) (hb : Below w.heap.size w w1) : AtI TM w1 L s p T la lb o d := ⟨h.at_.below hb, h.len⟩
theorem AtI.alloc (h : AtI TM w L s p T la lb o d) (x : Obj) : AtI TM (w.alloc x) L s p T la lb o d := ⟨h.at_.alloc x, h.len⟩
theorem AtI.set (h : AtI TM w L s p T la lb o d) (i : Nat) (u : Value) {v : Value} (hv : d[i]? = some v := by rfl) : AtI TM (w.setCell ⟨p, o + i, none⟩ u) L s p T la lb o (d.setIfInBounds i u) :=
  ⟨by have := h.at_.set (o + i) u; rwa [← h.len, lay_set (lt_of_get hv), h.len] at this, h.len⟩
theorem AtI.sub (h : AtI TM w L s p T la lb o (put d k e)) (hk : k ≤ d.size) : AtI TM w L s p T (la ++ d.toList.take k) (d.toList.drop (k + e.size) ++ lb) (o + k) e :=
  ⟨by rw [← lay_put]; exact h.at_, by simp [h.len]; omega⟩
theorem AtI.up {e' : Array Value} (h : AtI TM w L s p T (la ++ d.toList.take k) (d.toList.drop (k + e.size) ++ lb) (o + k) e') (hl : la.length = o) (he : e'.size = e.size) : AtI TM w L s p T la lb o (put d k e') :=
  ⟨by rw [lay_put, he]; exact h.at_, hl⟩
/-- cells that are written one behind the other -/
def sets (w : World) (p : Nat) : Nat → List Value → World
  | _, [] => w
  | o, u :: us => sets (w.setCell ⟨p, o, none⟩ u) p (o + 1) us
theorem put_cons (d : Array Value) (k : Nat) (u : Value) (us : List Value) (h : k < d.size) : put (d.setIfInBounds k u) (k + 1) us.toArray = put d k (u :: us).toArray := by
  have hl : k < d.toList.length := by simpa using h
  have e : (d.setIfInBounds k u).toList = d.toList.take k ++ u :: d.toList.drop (k + 1) := by
    simp only [Array.toList_setIfInBounds]
    rw [List.set_eq_take_append_cons_drop, if_pos hl]
  have ht : (d.toList.take k).length = k := by simp; omega
  have h1 : (d.toList.take k ++ u :: d.toList.drop (k + 1)).take (k + 1) = d.toList.take k ++ [u] := by
    rw [List.take_append, ht, List.take_of_length_le (by omega), show k + 1 - k = 1 by omega]; rfl
  have h2 : (d.toList.take k ++ u :: d.toList.drop (k + 1)).drop (k + 1 + us.length) = d.toList.drop (k + (us.length + 1)) := by
    rw [List.drop_append, ht, List.drop_of_length_le (by omega), show k + 1 + us.length - k = us.length + 1 by omega, List.drop_succ_cons, List.drop_drop, List.nil_append]
    congr 1; omega
  simp only [put, e, h1, List.size_toArray, h2, List.length_cons]
  simp
theorem AtI.sets (us : List Value) : ∀ {w : World} {d : Array Value} {k : Nat}, AtI TM w L s p T la lb o d → k + us.length ≤ d.size → AtI TM (Go.Proofs.YtbojljkdpebheaaDoor.sets w p (o + k) us) L s p T la lb o (put d k us.toArray) := by
  induction us with
  | nil => intro w d k h hk; simpa [Go.Proofs.YtbojljkdpebheaaDoor.sets, put] using h
  | cons u us ih =>
    intro w d k h hk
    simp only [List.length_cons] at hk
    rw [← put_cons d k u us (by omega)]
    exact ih (k := k + 1) (h.set k u (Array.getElem?_eq_getElem (show k < d.size by omega))) (by simp; omega)
theorem Went.sets (p : Nat) (L : Loc) (us : List Value) : ∀ (w : World) (k : Nat), Went w L p (Go.Proofs.YtbojljkdpebheaaDoor.sets w p k us) L := by
  induction us with
  | nil => intro w k; exact Went.refl _ _ _
  | cons u us ih => intro w k; exact (Went.set w L p k u).trans (ih _ _)
theorem BlI.set (h : BlI w p T la lb o d) (i : Nat) (u : Value) {v : Value} (hv : d[i]? = some v := by rfl) : BlI (w.setCell ⟨p, o + i, none⟩ u) p T la lb o (d.setIfInBounds i u) :=
  ⟨by have := Go.Joins.block_setCell (i := o + i) h.blk u; rwa [← h.len, lay_set (lt_of_get hv), h.len] at this, h.len⟩
theorem BlI.sets (us : List Value) : ∀ {w : World} {d : Array Value} {k : Nat}, BlI w p T la lb o d → k + us.length ≤ d.size → BlI (Go.Proofs.YtbojljkdpebheaaDoor.sets w p (o + k) us) p T la lb o (put d k us.toArray) := by
  induction us with
  | nil => intro w d k h hk; simpa [Go.Proofs.YtbojljkdpebheaaDoor.sets, put] using h
  | cons u us ih =>
    intro w d k h hk
    simp only [List.length_cons] at hk
    rw [← put_cons d k u us (by omega)]
    exact ih (k := k + 1) (h.set k u (Array.getElem?_eq_getElem (show k < d.size by omega))) (by simp; omega)
theorem Kept.sets (p : Nat) (us : List Value) : ∀ (w : World) (k : Nat), Kept [p] w (Go.Proofs.YtbojljkdpebheaaDoor.sets w p k us) := by
  induction us with
  | nil => intro w k; exact Kept.refl _ _
  | cons u us ih => intro w k; exact (Kept.setCell [p] w ⟨p, k, none⟩ u (by simp)).trans (ih _ _) (fun _ h => .inl h)
/-- a call that writes the machine's block alone -/
theorem AtI.on (h : AtI TM w L s p T la lb o d) {d' : Array Value} (B : BlI w1 p T la lb o d') (k : Kept [p] w w1) : AtI TM w1 L s p T la lb o d' ∧ Went w L p w1 L := by
  have hz := h.at_.zero
  refine ⟨⟨⟨h.at_.mem.on k fun j hj e => ?_, B.blk, h.at_.hT, wid_kept h.at_.wid k (fun j hj e => ?_), hz⟩, h.len⟩, ⟨k.mono fun j hj => by simp at hj ⊢; exact .inl hj, fun _ h => .inl h, rfl⟩⟩
  · simp at e; subst e; exact h.at_.notin hj
  · simp at e; have := hz.2; omega
theorem At.in_ (h : At TM w L s p T d) : AtI TM w L s p T [] [] 0 d := ⟨by simpa [lay] using h, rfl⟩
theorem AtI.out (h : AtI TM w L s p T [] [] 0 d) : At TM w L s p T d := by simpa [lay] using h.at_
theorem bl_of {w : World} {p : Nat} {T : TypeId} {d : Array Value} (h : w.heap[p]? = some (.cells d T (0, 0))) : BlI w p T [] [] 0 d := ⟨by simpa [lay] using h, rfl⟩
theorem bl_out {w : World} {p : Nat} {T : TypeId} {d : Array Value} (h : BlI w p T [] [] 0 d) : w.heap[p]? = some (.cells d T (0, 0)) := by simpa [lay] using h.blk
end
section
variable {T : TypeId} {w : World} {L : Loc} {s : St} {p o : Nat} {la lb : List Value}
/-- a Pop and a Push, embedded -/
theorem cPopI {x : PopS} (A : AtI 89 w L s p T la lb o x.cells) (ok : x.Ok) (f : s.Fit) (hc : s.c < 1000000) (r : s.Rng) :
    Calls Tryd.prog 60 #[.pointer (some ⟨p, o, none⟩), .pointer (some ⟨L.b, 0, none⟩)] w fun e w' => e = .returned (.bool ((x.next s).pc == 0)) ∧
      ∃ L', AtI 89 w' L' (x.mem s) p T la lb o (x.next s).cells ∧ Went w L p w' L' := by
  have hl := A.len
  have g : ∀ i, i < 4 → (lay la x.cells lb)[o + i]? = x.cells[i]? := fun i hi => by rw [← hl]; exact lay_get hi
  refine (cPopIn A.at_ ⟨g 0 (by decide), g 1 (by decide), g 2 (by decide), g 3 (by decide)⟩ ok f hc r).mono ?_
  rintro e w' ⟨rfl, L', cs', A', I', y, gw⟩
  have hk : cs' = lay la (x.next s).cells lb := lay_ext (e := x.cells) (by rw [y.size, lay_size]; rfl) (fun i hi => by
    rw [hl]
    have : i = 0 ∨ i = 1 ∨ i = 2 ∨ i = 3 := by have : i < 4 := hi; omega
    rcases this with rfl | rfl | rfl | rfl
    · exact I'.c0
    · exact I'.c1
    · exact I'.c2
    · exact I'.c3) (fun i hi => y.off i (by rw [hl] at hi; exact hi)) rfl
  exact ⟨rfl, L', ⟨hk ▸ A', hl⟩, gw⟩
theorem cPushI {x : PushS} (A : AtI 89 w L s p T la lb o x.cells) (ok : x.Ok) (f : s.Fit) (hc : s.c < 1000000) (r : s.Rng) :
    Calls Tryd.prog 25 #[.pointer (some ⟨p, o, none⟩), .pointer (some ⟨L.b, 0, none⟩)] w fun e w' => e = .returned (.bool ((x.next s).pc == 0)) ∧
      ∃ L', AtI 89 w' L' (x.mem s) p T la lb o (x.next s).cells ∧ Went w L p w' L' := by
  have hl := A.len
  have g : ∀ i, i < 6 → (lay la x.cells lb)[o + i]? = x.cells[i]? := fun i hi => by rw [← hl]; exact lay_get hi
  refine (cPushIn A.at_ ⟨g 0 (by decide), g 1 (by decide), g 2 (by decide), g 3 (by decide), g 4 (by decide), g 5 (by decide)⟩ ok f hc r).mono ?_
  rintro e w' ⟨rfl, L', cs', A', I', y, gw⟩
  have hk : cs' = lay la (x.next s).cells lb := lay_ext (e := x.cells) (by rw [y.size, lay_size]; rfl) (fun i hi => by
    rw [hl]
    have : i = 0 ∨ i = 1 ∨ i = 2 ∨ i = 3 ∨ i = 4 ∨ i = 5 := by have : i < 6 := hi; omega
    rcases this with rfl | rfl | rfl | rfl | rfl | rfl
    · exact I'.c0
    · exact I'.c1
    · exact I'.c2
    · exact I'.c3
    · exact I'.c4
    · exact I'.c5) (fun i hi => y.off i (by rw [hl] at hi; exact hi)) rfl
  exact ⟨rfl, L', ⟨hk ▸ A', hl⟩, gw⟩
/-- what a Pop tells that is done -/
theorem cResultI {x : PopS} (hb : BlI w p T la lb o x.cells) (ok : x.Ok) (h0 : x.pc = 0) :
    Calls Tryd.prog 61 #[.pointer (some ⟨p, o, none⟩)] w fun e w' => e = .returned (.tuple #[.int .i64 (t0 x.seen), .int .u64 x.seen]) ∧ Below w.heap.size w w' := by
  obtain ⟨hd, k, z, pc⟩ := x
  obtain rfl : pc = 0 := h0
  have c2 : w.cell? ⟨p, o + 2, none⟩ = some (.int .u64 z) := hb.cell 2
  have c3 : w.cell? ⟨p, o + 3, none⟩ = some .nilFunc := hb.cell 3
  have n0 : ∀ w, (binOp .neq 72 .nilFunc .nilFunc).run Tryd.prog w = .ok (.bool false) w := fnNeP 0 (by omega)
  have keep : ∀ w', Below w.heap.size w w' → w'.cell? ⟨p, o + 2, none⟩ = some (.int .u64 z) := fun w' h => (hb.below h).cell 2
  have hbd : Below w.heap.size w w.drew := (Below.refl w.heap.size w).drew
  have RD := keep _ hbd
  go_enter Tryd.func61, Tryd.ntmps61
  go_wp2
  go_region_held3 (fun w' => w'.cell? ⟨p, o + 2, none⟩ = some (.int .u64 z)) (first | assumption | exact RD | exact keep _ (by assumption))
    ((go_at_call 67; refine (cFirst z ok.seen _).mono ?_; rintro e w1 ⟨rfl, hb1⟩; have hb1' := bel_trans hbd hb1))
  go_wp2
  go_ret2
  exact ⟨rfl, hb1'⟩
end
end Go.Proofs.YtbojljkdpebheaaDoor
