/-
  Contract of renumberedFields.
-/
import Derived.Test.YtbihdkdefopijaaSn
import Derived.Test.YtbihdkdefopijaaGs2
namespace Go.Proofs.Ytbihdkdefopijaa
set_option linter.unusedVariables false
set_option linter.unusedSimpArgs false
open Go.ChangeShapes Go.WideShapes Go.ChangeAt Go.RowKit Go.Maps

/-- an object by value, and in a block -/
abbrev ov (o : List (Int × Int)) : Value := (.agg #[.int .i64 o.length, .int .i64 (fk o 0), .int .i64 (fn o 0), .int .i64 (fk o 1), .int .i64 (fn o 1), .int .i64 (fk o 2), .int .i64 (fn o 2), .int .i64 (fk o 3), .int .i64 (fn o 3), .int .i64 (fk o 4), .int .i64 (fn o 4), .int .i64 (fk o 5), .int .i64 (fn o 5), .int .i64 (fk o 6), .int .i64 (fn o 6)])
def OAt (w : World) (b : Nat) (o : List (Int × Int)) : Prop := w.heap[b]? = some (.cells #[.int .i64 o.length, .int .i64 (fk o 0), .int .i64 (fn o 0), .int .i64 (fk o 1), .int .i64 (fn o 1), .int .i64 (fk o 2), .int .i64 (fn o 2), .int .i64 (fk o 3), .int .i64 (fn o 3), .int .i64 (fk o 4), .int .i64 (fn o 4), .int .i64 (fk o 5), .int .i64 (fn o 5), .int .i64 (fk o 6), .int .i64 (fn o 6)] 77 (0, 0))
theorem OAt.new (w : World) (o : List (Int × Int)) : OAt (w.alloc (.cells #[.int .i64 o.length, .int .i64 (fk o 0), .int .i64 (fn o 0), .int .i64 (fk o 1), .int .i64 (fn o 1), .int .i64 (fk o 2), .int .i64 (fn o 2), .int .i64 (fk o 3), .int .i64 (fn o 3), .int .i64 (fk o 4), .int .i64 (fn o 4), .int .i64 (fk o 5), .int .i64 (fn o 5), .int .i64 (fk o 6), .int .i64 (fn o 6)] 77)) w.heap.size o := heap_alloc_new _ _
theorem OAt.lt {w : World} {b : Nat} {o : List (Int × Int)} (h : OAt w b o) : b < w.heap.size := lt_of_block h
theorem OAt.stay {w u : World} {b : Nat} {o : List (Int × Int)} (h : OAt w b o) (e : u.heap[b]? = w.heap[b]?) : OAt u b o := e.trans h
theorem OAt.field {w : World} {b : Nat} {o : List (Int × Int)} (h : OAt w b o) (k : Nat) (hk : k < 7) : w.cell? ⟨b, 1 + k * 2, none⟩ = some (.int .i64 (fk o k)) ∧ w.cell? ⟨b, 1 + k * 2 + 1, none⟩ = some (.int .i64 (fn o k)) := by
  rw [cell_of_row w b _ _ _ _ h, cell_of_row w b _ _ _ _ h]
  match k, hk with
  | 0, _ => exact ⟨rfl, rfl⟩
  | 1, _ => exact ⟨rfl, rfl⟩
  | 2, _ => exact ⟨rfl, rfl⟩
  | 3, _ => exact ⟨rfl, rfl⟩
  | 4, _ => exact ⟨rfl, rfl⟩
  | 5, _ => exact ⟨rfl, rfl⟩
  | 6, _ => exact ⟨rfl, rfl⟩
theorem vcells_set (l : List (Int × Int)) (x y : Int) : ∀ k : Nat, k < l.length → ((vcells l).set (k * 2) (.int .i64 x)).set (k * 2 + 1) (.int .i64 y) = vcells (l.set k (x, y)) := by
  induction l with
  | nil => intro k h; simp at h
  | cons v r ih =>
    intro k h
    cases k with
    | zero => rfl
    | succ k =>
      have := ih k (by simpa using h)
      rw [show (k + 1) * 2 = k * 2 + 1 + 1 by omega]
      simp only [vcells, List.set_cons_succ, this]
theorem vcells_set2 (l : List (Int × Int)) (x y z : Int) : ∀ k : Nat, k < l.length → (vcells (l.set k (x, y))).set (k * 2 + 1) (.int .i64 z) = vcells (l.set k (x, z)) := by
  induction l with
  | nil => intro k h; simp at h
  | cons v r ih =>
    intro k h
    cases k with
    | zero => rfl
    | succ k =>
      have := ih k (by simpa using h)
      rw [show (k + 1) * 2 = k * 2 + 1 + 1 by omega]
      simp only [vcells, List.set_cons_succ, this]
theorem vcells_nils (n : Nat) : vcells (List.replicate n (0, 0)) = List.replicate (n * 2) (.int .i64 0) := by
  induction n with
  | zero => rfl
  | succ n ih =>
    rw [show (n + 1) * 2 = n * 2 + 1 + 1 by omega]
    simp only [List.replicate_succ, vcells, ih]
theorem vcells_new (n : Nat) : (madeCells (vv (0, 0)).cells (n * 2)).toList = vcells (List.replicate n (0, 0)) := by
  rw [vcells_nils]
  refine made_same _ _ _ (by decide) fun k hk => ?_
  match k, hk with
  | 0, _ => rfl
  | 1, _ => rfl
theorem vpair (w : World) {g n : Nat} {l : List (Int × Int)} (h : w.ownsRow 0 37 2 (.slice (some ⟨g, 0, none⟩) n n) n (vcells l)) (k : Nat) (hk : k < l.length) : (∃ z, w.cell? ⟨g, k * 2, none⟩ = some z) ∧ ∃ z, w.cell? ⟨g, k * 2 + 1, none⟩ = some z := by
  have hl := vcells_length l
  refine ⟨?_, ?_⟩
  · have := h.cellAt (k * 2) (by have := h.1; omega)
    rw [List.getElem?_eq_getElem (by omega)] at this
    exact ⟨_, this⟩
  · have := h.cellAt (k * 2 + 1) (by have := h.1; omega)
    rw [List.getElem?_eq_getElem (by omega)] at this
    exact ⟨_, this⟩

set_option maxRecDepth 100000 in
set_option maxHeartbeats 800000 in
theorem cFields {w : World} {C : Mt} {m : List Int} {N : Nat} (h : Met w C m) (ok : Sh.Ok N m) (hN : N ≤ 1000) (o : List (Int × Int)) (h7 : o.length ≤ 7) (ho : ∀ v ∈ o, v.1 = 1 → 0 ≤ v.2 ∧ v.2 ≤ N) :
    Calls Try.prog 54 #[ov o, mfun C.nb C.mb] w fun e w' => ∃ g C', e = .returned (.slice (some ⟨g, 0, none⟩) o.length o.length) ∧ Met w' C' (Sh.fmeets m o).1 ∧ StepM w C w' C' ∧ w'.ownsRow 0 37 2 (.slice (some ⟨g, 0, none⟩) o.length o.length) o.length (vcells (Sh.fmeets m o).2) ∧ w.heap.size ≤ g ∧ g ∉ C'.fp := by
  obtain ⟨i0, hi, hz0, hz1, hz2⟩ := info_parts infoVal
  have hA := OAt.new w o
  go_enter Try.func54, Try.ntmps54
  go_wp2_with (at_make; refine wpList_make_full _ rfl _ _ 60 rfl 0 37 i0 _ 2 Try.underlying60 hi hz0 hz1 .i64 .i64 o.length o.length o.length rfl rfl rfl rfl (by rw [hz2]; omega) (by unfold maxLen; omega) (by omega) ?_; intro w1 hown hgr)
  rw [vcells_new] at hown
  obtain ⟨g, hgdef⟩ : ∃ g, g = w.heap.size + 1 := ⟨_, rfl⟩
  have e1 : (w.alloc (.cells #[.int .i64 o.length, .int .i64 (fk o 0), .int .i64 (fn o 0), .int .i64 (fk o 1), .int .i64 (fn o 1), .int .i64 (fk o 2), .int .i64 (fn o 2), .int .i64 (fk o 3), .int .i64 (fn o 3), .int .i64 (fk o 4), .int .i64 (fn o 4), .int .i64 (fk o 5), .int .i64 (fn o 5), .int .i64 (fk o 6), .int .i64 (fn o 6)] 77)).heap.size = w.heap.size + 1 := by simp
  rw [e1] at hown
  rw [← hgdef] at hown ⊢
  have hbox : w.heap.size ∉ C.fp := fun e => by have := h.lt _ e; omega
  have hgn : g ∉ C.fp := fun e => by have := h.lt _ e; omega
  have hA1 : OAt w1 w.heap.size o := hA.stay (hgr.block w.heap.size (by simp) (by simp))
  have M1 : Met w1 C m := (h.alloc (.cells #[.int .i64 o.length, .int .i64 (fk o 0), .int .i64 (fn o 0), .int .i64 (fk o 1), .int .i64 (fn o 1), .int .i64 (fk o 2), .int .i64 (fn o 2), .int .i64 (fk o 3), .int .i64 (fn o 3), .int .i64 (fk o 4), .int .i64 (fn o 4), .int .i64 (fk o 5), .int .i64 (fn o 5), .int .i64 (fk o 6), .int .i64 (fn o 6)] 77)).on (Kept.grown [] hgr fun k hk => by cases hk) fun _ _ => by simp
  have hsz : g < w1.heap.size := (hown.lt g rfl).2
  have K1 : StepM w C w1 C := ⟨(Kept.alloc C.fp w (.cells #[.int .i64 o.length, .int .i64 (fk o 0), .int .i64 (fn o 0), .int .i64 (fk o 1), .int .i64 (fn o 1), .int .i64 (fk o 2), .int .i64 (fn o 2), .int .i64 (fk o 3), .int .i64 (fn o 3), .int .i64 (fk o 4), .int .i64 (fn o 4), .int .i64 (fk o 5), .int .i64 (fn o 5), .int .i64 (fk o 6), .int .i64 (fn o 6)] 77)).trans (Kept.grown C.fp hgr fun k hk => by cases hk) fun _ hk => .inl hk, fun _ h => .inl h, rfl, rfl⟩
  clear hgr
  have hgle : w.heap.size < g := by omega
  clear hgdef e1
  go_loopw [12] (fun i wr => ∃ (k : Nat) (C' : Mt), k ≤ o.length ∧ i = .int .i64 k ∧ Met wr C' (Sh.fmeets m (o.take k)).1 ∧ StepM w C wr C' ∧ OAt wr w.heap.size o ∧ w.heap.size ∉ C'.fp ∧ g ∉ C'.fp ∧ wr.ownsRow 0 37 2 (.slice (some ⟨g, 0, none⟩) o.length o.length) o.length (vcells ((Sh.fmeets m (o.take k)).2 ++ List.replicate (o.length - k) (0, 0)))) (fun i _ => o.length - (intOf i).toNat)
  case atStart => exact ⟨0, C, Nat.zero_le _, rfl, M1, K1, hA1, hbox, hgn, by simpa [Sh.fmeets] using hown⟩
  case round =>
    obtain ⟨k, C', hk, rfl, hM, hS, hR, hb1, hg1, hrow⟩ := hrel
    obtain ⟨wo, rfl⟩ : ∃ wo : World, wo = wr := ⟨_, rfl⟩
    by_cases hlt : k < o.length
    case pos =>
      have hc := hR.field k (by omega)
      have k0 : (0 : Int) ≤ (k : Int) := by omega
      have k7 : (k : Int) < 7 := by omega
      have hkl : (k : Int) < (o.length : Int) := by omega
      have hmem : o.getD k (0, 0) ∈ o := by rw [List.getD_eq_getElem?_getD, List.getElem?_eq_getElem hlt]; exact List.getElem_mem _
      have hx := ho _ hmem
      have okk := Sh.Ok.fmeets (o.take k) ok fun x hx => ho x (List.mem_of_mem_take hx)
      have hml := okk.len
      have hT := take_next (0, 0) hlt
      have e2 := Sh.fmeets_snoc (o.take k) (o.getD k (0, 0)) m
      rw [← hT] at e2
      have hlen := Sh.fmeets_len (o.take k) m
      rw [List.length_take, Nat.min_eq_left hk] at hlen
      have e3 : fk o k = (o.getD k (0, 0)).1 ∧ fn o k = (o.getD k (0, 0)).2 := ⟨rfl, rfl⟩
      rw [e3.1, e3.2] at hc
      clear e3
      obtain ⟨⟨a, x⟩, hax⟩ : ∃ v : Int × Int, o.getD k (0, 0) = v := ⟨_, rfl⟩
      rw [hax] at hc hx e2
      clear hax hT hmem
      obtain ⟨c0, c1⟩ := hc
      have hll : k < ((Sh.fmeets m (o.take k)).2 ++ List.replicate (o.length - k) (0, 0)).length := by simp; omega
      have hst0 := ((hrow.stored (k * 2) (.int .i64 a)).1.stored (k * 2 + 1) (.int .i64 x)).1
      rw [vcells_set _ _ _ _ hll] at hst0
      obtain ⟨⟨z0, hz0'⟩, ⟨z1, hz1'⟩⟩ := vpair wo hrow k hll
      have hfz := hrow.frozenAt
      have hKs : Kept [g] wo ((wo.setCell ⟨g, k * 2, none⟩ (.int .i64 a)).setCell ⟨g, k * 2 + 1, none⟩ (.int .i64 x)) := (Kept.setCell [g] wo _ _ (by simp)).trans (Kept.setCell [g] _ _ _ (by simp)) fun _ hk => .inl hk
      have hM1 := hM.on hKs (fun j hj e => by simp at e; subst e; exact hg1 hj)
      have hR1 := hR.stay (hKs.block w.heap.size hR.lt (by simp; omega))
      have hS1 : StepM w C ((wo.setCell ⟨g, k * 2, none⟩ (.int .i64 a)).setCell ⟨g, k * 2 + 1, none⟩ (.int .i64 x)) C' := ⟨hS.kept.trans hKs fun j hj => .inr (by simp at hj; omega), hS.new, hS.nb, hS.mb⟩
      by_cases ha : a = 1
      case neg =>
        have ha' : (a == 1) = false := by simpa using ha
        have e4 : Sh.fmeets m (o.take (k + 1)) = ((Sh.fmeets m (o.take k)).1, (Sh.fmeets m (o.take k)).2 ++ [(a, x)]) := by rw [e2]; simp [Sh.fadd, Sh.fnum, ha]
        rw [set_next _ _ _ _ _ hlen hlt] at hst0
        clear ha
        go_wp2
        go_roundw
        case rel => exact ⟨k + 1, C', by omega, by go_num, by rw [e4]; exact hM1, hS1, hR1, hb1, hg1, by rw [e4]; exact hst0⟩
        case measure => simp [intOf]; omega
      case pos =>
        subst ha
        have hx' := hx rfl
        have hC := cMeet hM1 x hx'.1 (by omega) (by omega)
        rw [hS.nb, hS.mb] at hC
        have e4 : Sh.fmeets m (o.take (k + 1)) = (Sh.add (Sh.fmeets m (o.take k)).1 x, (Sh.fmeets m (o.take k)).2 ++ [(1, Sh.num (Sh.add (Sh.fmeets m (o.take k)).1 x) x)]) := by rw [e2]; simp [Sh.fadd, Sh.fnum]
        generalize hnum : Sh.num (Sh.add (Sh.fmeets m (o.take k)).1 x) x = y at hC e4
        clear e2
        go_wp2_with (go_at_call 52; refine hC.mono ?_; rintro e w2 ⟨rfl, C2, hM2, hS2⟩; have hbk := hS2.other hR1.lt hb1; have hgk := hS2.other (hst0.lt g rfl).2 hg1; have hrow2 := own_kept hst0 hS2.kept (fun j hj => by simp [Value.ownBlock] at hj; subst hj; exact hg1); obtain ⟨⟨y0, hy0⟩, ⟨y1, hy1⟩⟩ := vpair w2 hrow2 k (by simp; omega); have hfz2 := hrow2.frozenAt; have hst := (hrow2.stored (k * 2 + 1) (.int .i64 y)).1)
        rw [vcells_set2 _ _ _ _ _ hll, set_next _ _ _ _ _ hlen hlt] at hst
        have hKt := Kept.setCell [g] w2 ⟨g, k * 2 + 1, none⟩ (.int .i64 y) (by simp)
        have hM3 := hM2.on hKt (fun j hj e => by simp at e; subst e; exact hgk.2.1 hj)
        have hR3 := (hR1.stay hbk.1).stay (hKt.block w.heap.size hbk.2.2 (by simp; omega))
        go_wp2
        go_roundw
        case rel =>
          refine ⟨k + 1, C2, by omega, by go_num, by rw [e4]; exact hM3, ?_, hR3, hbk.2.1, hgk.2.1, by rw [e4]; exact hst⟩
          have := hS1.trans hS2
          exact ⟨this.kept.trans hKt fun j hj => .inr (by simp at hj; omega), this.new, this.nb, this.mb⟩
        case measure => simp [intOf]; omega
    case neg =>
      have hkl : k = o.length := by omega
      rw [List.take_of_length_le (by omega)] at hM hrow
      have e0 : o.length - k = 0 := by omega
      rw [e0] at hrow
      simp only [List.replicate_zero, List.append_nil] at hrow
      go_wp2
      go_ret
      exact ⟨g, C', rfl, hM, hS, hrow, by omega, hg1⟩
end Go.Proofs.Ytbihdkdefopijaa
