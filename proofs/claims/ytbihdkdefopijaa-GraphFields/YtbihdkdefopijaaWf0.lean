/-
  What GraphFields leans on: an object of seven fields, what a Src names there; a region that ends in one state, whatever its order.
-/
import Derived.Test.YtbihdkdefopijaaOg
namespace Go.Proofs.Ytbihdkdefopijaa
set_option linter.unusedVariables false
set_option linter.unusedSimpArgs false
open Go.ChangeShapes Go.WideShapes Go.ChangeAt Go.RowKit

/-- it ends so -/
def Meets (a1 : Act) (w1 : World) : Exit → Act → World → Prop
  | .normal, a, w => a = a1 ∧ w = w1
  | _, _, _ => False
theorem region_cut {P : Program} {id : Nat} {ops : Array Oper} {b : Bool} {Q : Exit → Act → World → Prop} {a0 : Act} {w0 : World} {a1 : Act} {w1 : World} (h1 : (Code.region id ops b).wp P (Meets a1 w1) a0 w0) (h2 : Q .normal a1 w1) : (Code.region id ops b).wp P Q a0 w0 :=
  Code.wp_mono (fun e a w h => by
    cases e with
    | normal => obtain ⟨rfl, rfl⟩ := h; exact h2
    | _ => exact absurd h (fun h => h)) h1

/-- values laid into slots -/
def setl (a : Act) : List (Nat × Value) → Act
  | [] => a
  | p :: l => setl { a with tmps := a.tmps.setIfInBounds p.1 p.2 } l
theorem region_cut_set {P : Program} {id : Nat} {ops : Array Oper} {b : Bool} {Q : Exit → Act → World → Prop} {a0 : Act} {w0 : World} (l : List (Nat × Value)) (w1 : World) (h1 : (Code.region id ops b).wp P (Meets (setl a0 l) w1) a0 w0) (h2 : Q .normal (setl a0 l) w1) : (Code.region id ops b).wp P Q a0 w0 := region_cut h1 h2

def gf (o : List (Int × Int)) : Gr := ⟨[[1, 2]], [o, []]⟩
def nm (s : Src) : Int × Int := Src.val [1, 2] s
structure Small (s : Src) : Prop where
  k0 : 0 ≤ s.1
  k2 : s.1 ≤ 2
  n0 : 0 ≤ s.2
  n1 : s.2 ≤ 1
theorem Small.err {s : Src} (h : Small s) : Src.ok s = true ∧ Src.lost [1, 2] s = 0 := by
  obtain ⟨k0, k2, n0, n1⟩ := h
  refine ⟨?_, ?_⟩
  · simp [Src.ok]; omega
  · unfold Src.lost Rw.getE Rw.isAt
    simp
    omega
theorem small_err1 {s : Src} (h : Small s) : Src.err [1, 2] [s] = 0 := by simp [Src.err, Src.errs, h.err.1, h.err.2]
theorem small_err2 {s u : Src} (h : Small s) (h' : Small u) : Src.err [1, 2] [s, u] = 0 := by simp [Src.err, Src.errs, h.err.1, h.err.2, h'.err.1, h'.err.2]
theorem gf_acc (o : List (Int × Int)) (ho : o.length = 7) {k : Int} (h0 : 0 ≤ k) (h7 : k < 7) (l : List Src) (hl : Src.err [1, 2] l = 0) : (gf o).acc 0 0 k l = 0 := by
  unfold Gr.acc
  rw [show (gf o).isT 0 = true from rfl, show (gf o).rs 0 = [1, 2] from rfl, if_pos rfl, if_pos hl, if_pos (by rfl), show (gf o).id 0 0 = 1 from rfl, if_neg (by decide), show (gf o).obj 1 = o from rfl, if_pos ⟨h0, by omega⟩]
theorem gf_field (o : List (Int × Int)) (k : Int) : (gf o).field 0 0 k = o.getD k.toNat (0, 0) := rfl
theorem gf_write (o : List (Int × Int)) (ho : o.length = 7) {k : Int} (h0 : 0 ≤ k) (h7 : k < 7) {s : Src} (hs : Small s) : (gf o).writeE 0 0 k s = 0 ∧ (gf o).write 0 0 k s = gf (o.set k.toNat (nm s)) := by
  have hA := gf_acc o ho h0 h7 [s] (small_err1 hs)
  refine ⟨hA, ?_⟩
  unfold Gr.write Gr.writeE
  rw [if_pos hA]
  rfl
theorem gf_swap (o : List (Int × Int)) (ho : o.length = 7) {k : Int} (h0 : 0 ≤ k) (h7 : k < 7) {s u : Src} (hs : Small s) (hu : Small u) : (gf o).swapE 0 0 k s u = 0 ∧ (gf o).swapY 0 0 k s u = decide (o.getD k.toNat (0, 0) = nm s) ∧ (gf o).swap 0 0 k s u = if o.getD k.toNat (0, 0) = nm s then gf (o.set k.toNat (nm u)) else gf o := by
  have hA := gf_acc o ho h0 h7 [s, u] (small_err2 hs hu)
  have hY : (gf o).swapY 0 0 k s u = decide (o.getD k.toNat (0, 0) = nm s) := by
    unfold Gr.swapY Gr.swapE
    rw [hA, gf_field]
    simp
    rfl
  refine ⟨hA, hY, ?_⟩
  unfold Gr.swap
  rw [hY]
  by_cases h : o.getD k.toNat (0, 0) = nm s
  · simp only [h, decide_true, if_true]
    rfl
  · simp only [h, decide_false, if_false, Bool.false_eq_true]
theorem gf_look (o : List (Int × Int)) (ho : o.length = 7) {k : Int} (h0 : 0 ≤ k) (h7 : k < 7) : (gf o).lookE 0 0 k = 0 ∧ (gf o).lookV 0 0 k = o.getD k.toNat (0, 0) := by
  have hA := gf_acc o ho h0 h7 [] rfl
  refine ⟨hA, ?_⟩
  unfold Gr.lookV Gr.lookE
  rw [if_pos hA]
  rfl
set_option maxRecDepth 100000 in
theorem cNm (w : World) (k n : Int) (h : Small (k, n)) : Calls Try.prog 33 #[.agg #[.int .i64 k, .int .i64 n]] w fun e w' => e = .returned (vv (nm (k, n))) ∧ Below w.heap.size w w' := by
  obtain ⟨k0, k2, n0, n1⟩ := h
  simp only at k0 k2 n0 n1
  have R : ∀ o1 o2, Below w.heap.size w ((w.alloc o1).alloc o2) := fun o1 o2 => bal (bal (Below.refl _ _) _) _
  have : k = 0 ∨ k = 1 ∨ k = 2 := by omega
  rcases this with rfl | rfl | rfl
  · go_enter Try.func33, Try.ntmps33
    go_wp2
    exact bodyPost_ret (v := vv (0, n)) (by simp [results, Try.results33, go_sem]) rfl ⟨by simp [nm, Src.val], R _ _⟩
  · have e : nm (1, n) = (1, 1 + n) := by
      have : n = 0 ∨ n = 1 := by omega
      rcases this with rfl | rfl <;> rfl
    rw [e]
    go_enter Try.func33, Try.ntmps33
    go_wp2
    exact bodyPost_ret (v := vv (1, 1 + n)) (by simp [results, Try.results33, go_sem]) rfl ⟨rfl, R _ _⟩
  · go_enter Try.func33, Try.ntmps33
    go_wp2
    exact bodyPost_ret (v := vv (1, 0)) (by simp [results, Try.results33, go_sem]) rfl ⟨rfl, R _ _⟩
/-- an array of fields in a block -/
def WAt (w : World) (b : Nat) (o : List (Int × Int)) : Prop := w.heap[b]? = some (.cells (vcells o).toArray 55 (0, 0))
theorem WAt.cells {w : World} {b : Nat} {o : List (Int × Int)} (h : WAt w b o) (k : Nat) (hk : k < o.length) : w.cell? ⟨b, k * 2, none⟩ = some (.int .i64 (o.getD k (0, 0)).1) ∧ w.cell? ⟨b, k * 2 + 1, none⟩ = some (.int .i64 (o.getD k (0, 0)).2) := by
  have := vcells_at o k (o.getD k (0, 0)) (by rw [List.getD_eq_getElem?_getD, List.getElem?_eq_getElem hk]; rfl)
  rw [cell_of_row w _ _ _ _ _ h, cell_of_row w _ _ _ _ _ h]
  simpa using this
theorem WAt.free {w : World} {b : Nat} {o : List (Int × Int)} (h : WAt w b o) (j : Nat) : w.frozen? ⟨b, j, none⟩ = false := frozen_of_row w _ _ _ _ h
theorem WAt.set {w : World} {b : Nat} {o : List (Int × Int)} (h : WAt w b o) (k : Nat) (hk : k < o.length) (x y : Int) : WAt ((w.setCell ⟨b, k * 2, none⟩ (.int .i64 x)).setCell ⟨b, k * 2 + 1, none⟩ (.int .i64 y)) b (o.set k (x, y)) := by
  have h1 := heap_setCell_same w b (k * 2) _ _ (.int .i64 x) h
  have h2 := heap_setCell_same _ b (k * 2 + 1) _ _ (.int .i64 y) h1
  unfold WAt
  rw [h2, ← vcells_set o x y k hk]
  simp
/-- two stores into the array -/
theorem own_set2 {w0 w : World} {b N wb : Nat} {g : Gr} {o : List (Int × Int)} (h : Own w0 w b g N) (v : WAt w wb o) (h0 : w0.heap.size ≤ wb) (k : Nat) (x y : Int) : Own w0 ((w.setCell ⟨wb, k * 2, none⟩ (.int .i64 x)).setCell ⟨wb, k * 2 + 1, none⟩ (.int .i64 y)) b g N :=
  (h.setCell v (by decide) h0 _).setCell (heap_setCell_same w wb (k * 2) _ _ (.int .i64 x) v) (by decide) h0 _
end Go.Proofs.Ytbihdkdefopijaa
