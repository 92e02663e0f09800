/-
  Roots by value and in a block; what the first of them alone are.
-/
import Derived.Test.YtbihdkdefopijaaRows
import Derived.Test.YtbihdkdefopijaaPlain
import Derived.WalkKit
import Derived.ProofKit
import Derived.OpenShut
import Derived.Below
import Derived.WalkSpells
import Derived.WalkLawsBesides
import Derived.Outline
import Derived.BigQuiet
import Derived.Deep.QuietTactic
import Derived.Deep.RegionHeld3
import Derived.Handy
import Derived.Laws.StructEq
import Derived.Laws.CopyRow
import Derived.OneCell
import Derived.ChangeKeysEq
namespace Go.Proofs.Ytbihdkdefopijaa
set_option linter.unusedVariables false
open Go.ChangeShapes Go.WideShapes Go.ChangeAt Go.RowKit
open Plain

theorem bal {a w : World} (h : Below a.heap.size a w) (o : Obj) : Below a.heap.size a (w.alloc o) := h.alloc h.size o
theorem bdr {a w : World} (h : Below a.heap.size a w) (n : Nat) : Below a.heap.size a (w.drewN n) := by
  induction n with
  | zero => exact h
  | succ n ih => exact ih.drew
theorem bt {w u v : World} (h : Below w.heap.size w u) (hb : Below u.heap.size u v) : Below w.heap.size w v := h.trans (hb.mono h.size)

/-- roots by value -/
abbrev rv (n : Int) (l : Nat → Int) : Value := .agg #[.int .i64 n, .int .i64 (l 0), .int .i64 (l 1), .int .i64 (l 2), .int .i64 (l 3), .int .i64 (l 4), .int .i64 (l 5), .int .i64 (l 6), .int .i64 (l 7)]
/-- roots lie in the block b -/
def RAt (w : World) (b : Nat) (n : Int) (l : Nat → Int) : Prop := w.heap[b]? = some (.cells #[.int .i64 n, .int .i64 (l 0), .int .i64 (l 1), .int .i64 (l 2), .int .i64 (l 3), .int .i64 (l 4), .int .i64 (l 5), .int .i64 (l 6), .int .i64 (l 7)] 72 (0, 0))
theorem RAt.lt {w : World} {b : Nat} {n : Int} {l : Nat → Int} (h : RAt w b n l) : b < w.heap.size := lt_of_block h
theorem RAt.on {w u : World} {b : Nat} {n : Int} {l : Nat → Int} (h : RAt w b n l) (hb : Below w.heap.size w u) : RAt u b n l := (hb.block b h.lt).trans h
theorem RAt.free {w : World} {b : Nat} {n : Int} {l : Nat → Int} (h : RAt w b n l) (j : Nat) : w.frozen? ⟨b, j, none⟩ = false := frozen_of_row _ _ _ _ _ h
theorem RAt.cell {w : World} {b : Nat} {n : Int} {l : Nat → Int} (h : RAt w b n l) (j : Nat) (hj : j < 8) : w.cell? ⟨b, 1 + j, none⟩ = some (.int .i64 (l j)) := by
  rw [cell_of_row w b _ _ _ _ h]
  match j, hj with
  | 0, _ => rfl
  | 1, _ => rfl
  | 2, _ => rfl
  | 3, _ => rfl
  | 4, _ => rfl
  | 5, _ => rfl
  | 6, _ => rfl
  | 7, _ => rfl
/-- its cells, one by one -/
theorem RAt.cells {w : World} {b : Nat} {n : Int} {l : Nat → Int} (h : RAt w b n l) : w.cell? ⟨b, 0, none⟩ = some (.int .i64 n) ∧ w.cell? ⟨b, 1, none⟩ = some (.int .i64 (l 0)) ∧ w.cell? ⟨b, 2, none⟩ = some (.int .i64 (l 1)) ∧ w.cell? ⟨b, 3, none⟩ = some (.int .i64 (l 2)) ∧ w.cell? ⟨b, 4, none⟩ = some (.int .i64 (l 3)) ∧ w.cell? ⟨b, 5, none⟩ = some (.int .i64 (l 4)) ∧ w.cell? ⟨b, 6, none⟩ = some (.int .i64 (l 5)) ∧ w.cell? ⟨b, 7, none⟩ = some (.int .i64 (l 6)) ∧ w.cell? ⟨b, 8, none⟩ = some (.int .i64 (l 7)) := by
  refine ⟨?_, ?_, ?_, ?_, ?_, ?_, ?_, ?_, ?_⟩ <;> (rw [cell_of_row w b _ _ _ _ h]; rfl)
theorem RAt.new (w : World) (n : Int) (l : Nat → Int) : RAt (w.alloc (.cells #[.int .i64 n, .int .i64 (l 0), .int .i64 (l 1), .int .i64 (l 2), .int .i64 (l 3), .int .i64 (l 4), .int .i64 (l 5), .int .i64 (l 6), .int .i64 (l 7)] 72)) w.heap.size n l := heap_alloc_new _ _
theorem RAt.alloc {w : World} {b : Nat} {n : Int} {l : Nat → Int} (h : RAt w b n l) (o : Obj) : RAt (w.alloc o) b n l := h.on ((Below.refl _ _).alloc (Nat.le_refl _) o)
theorem RAt.drew {w : World} {b : Nat} {n : Int} {l : Nat → Int} (h : RAt w b n l) : RAt w.drew b n l := h
/-- the number x is stored at the place j -/
theorem RAt.set {w : World} {b : Nat} {n : Int} {l : Nat → Int} (h : RAt w b n l) (j : Nat) (hj : j < 8) (x : Int) : RAt (w.setCell ⟨b, 1 + j, none⟩ (.int .i64 x)) b n (put l j x) := by
  unfold RAt
  rw [heap_setCell_same w b _ _ _ _ h]
  match j, hj with
  | 0, _ => rfl
  | 1, _ => rfl
  | 2, _ => rfl
  | 3, _ => rfl
  | 4, _ => rfl
  | 5, _ => rfl
  | 6, _ => rfl
  | 7, _ => rfl
theorem RAt.setN {w : World} {b : Nat} {n : Int} {l : Nat → Int} (h : RAt w b n l) (x : Int) : RAt (w.setCell ⟨b, 0, none⟩ (.int .i64 x)) b x l := by
  unfold RAt
  rw [heap_setCell_same w b _ _ _ _ h]
  rfl
theorem RAt.other {w : World} {b : Nat} {n : Int} {l : Nat → Int} (h : RAt w b n l) (p : Addr) (u : Value) (hp : b ≠ p.block) : RAt (w.setCell p u) b n l := (heap_setCell_other w p b u hp).trans h

theorem sizeInt : (Try.prog.info? 3).map (·.size) = some 1 := by kernel_rfl
/-- the first k of eight numbers, laid over nought -/
theorem laid_cut (m : Int) (l : Nat → Int) (k : Nat) (hk : k ≤ 8) :
    (#[Value.int .i64 m, .int .i64 0, .int .i64 0, .int .i64 0, .int .i64 0, .int .i64 0, .int .i64 0, .int .i64 0, .int .i64 0].toList.take 1 ++ (List.range k).map (fun i => Value.int .i64 (l i)) ++ #[Value.int .i64 m, .int .i64 0, .int .i64 0, .int .i64 0, .int .i64 0, .int .i64 0, .int .i64 0, .int .i64 0, .int .i64 0].toList.drop (1 + ((List.range k).map (fun i => Value.int .i64 (l i))).length)).toArray = #[.int .i64 m, .int .i64 (cut l k 0), .int .i64 (cut l k 1), .int .i64 (cut l k 2), .int .i64 (cut l k 3), .int .i64 (cut l k 4), .int .i64 (cut l k 5), .int .i64 (cut l k 6), .int .i64 (cut l k 7)] := by
  match k, hk with
  | 0, _ => simp [cut]
  | 1, _ => simp [cut, List.range_succ]
  | 2, _ => simp [cut, List.range_succ]
  | 3, _ => simp [cut, List.range_succ]
  | 4, _ => simp [cut, List.range_succ]
  | 5, _ => simp [cut, List.range_succ]
  | 6, _ => simp [cut, List.range_succ]
  | 7, _ => simp [cut, List.range_succ]
  | 8, _ => simp [cut, List.range_succ]
theorem modify_last {α : Type} (a : Array α) (x : α) (f : α → α) : (a.push x).modify a.size f = a.push (f x) := by
  apply Array.ext
  · simp
  · intro i h1 h2
    simp only [Array.getElem_modify, Array.getElem_push]
    by_cases h : i < a.size
    · simp [h, show ¬ a.size = i by omega]
    · have e : a.size = i := by simp at h2; omega
      simp [e]
theorem setRow_last (w : World) (old new : Array Value) (t : TypeId) : (w.alloc (.cells old t)).drew.setRow w.heap.size new = (w.alloc (.cells new t)).drew := by
  unfold World.setRow World.alloc World.drew
  simp only [modify_last]
/-- the copy, behind which the block that was made last has the first k -/
theorem copy8 {w : World} {a : Nat} {n m : Int} {l : Nat → Int} (k : Nat) (hk : k ≤ 8) (hA : RAt (w.alloc (.cells #[.int .i64 m, .int .i64 0, .int .i64 0, .int .i64 0, .int .i64 0, .int .i64 0, .int .i64 0, .int .i64 0, .int .i64 0] 72)).drew a n l) :
    (Builtin.copy_ #[53, 53] 3 #[.slice (some ⟨w.heap.size, 1, none⟩) 8 8, .slice (some ⟨a, 1, none⟩) k 8]).run Try.prog (w.alloc (.cells #[.int .i64 m, .int .i64 0, .int .i64 0, .int .i64 0, .int .i64 0, .int .i64 0, .int .i64 0, .int .i64 0, .int .i64 0] 72)).drew = .ok (.int .i64 k) (w.alloc (.cells #[.int .i64 m, .int .i64 (cut l k 0), .int .i64 (cut l k 1), .int .i64 (cut l k 2), .int .i64 (cut l k 3), .int .i64 (cut l k 4), .int .i64 (cut l k 5), .int .i64 (cut l k 6), .int .i64 (cut l k 7)] 72)).drew := by
  have hr := run_copy_row (P := Try.prog) (w.alloc (.cells #[.int .i64 m, .int .i64 0, .int .i64 0, .int .i64 0, .int .i64 0, .int .i64 0, .int .i64 0, .int .i64 0, .int .i64 0] 72)).drew 53 53 3 3 w.heap.size 1 8 8 ⟨a, 1, none⟩ k 8 _ _ ((List.range k).map fun i => .int .i64 (l i)) Try.underlying53 sizeInt (heap_alloc_new w _) (by simp only [List.length_map, List.length_range]; exact (Nat.min_eq_left hk).symm)
    (by
      intro j v hv
      simp only [List.getElem?_map, Option.map_eq_some_iff] at hv
      obtain ⟨i, hi, rfl⟩ := hv
      obtain ⟨hi1, rfl⟩ : j < k ∧ i = j := by
        rw [List.getElem?_eq_some_iff] at hi
        obtain ⟨h1, h2⟩ := hi
        simp at h1 h2
        exact ⟨h1, h2.symm⟩
      rw [add_plain]
      exact hA.cell i (by omega))
    (by simp; omega) (by intro v hv; simp at hv; obtain ⟨i, _, rfl⟩ := hv; rfl)
  have hl : goInt ((List.range k).map fun i => Value.int .i64 (l i)).length = .int .i64 k := by simp [goInt]
  rw [hl, setRow_last, laid_cut m l k hk] at hr
  exact hr

set_option maxHeartbeats 400000 in
theorem cFirst (n : Int) (l : Nat → Int) (k : Nat) (hk : k ≤ 8) (w : World) :
    Calls Try.prog 59 #[rv n l, .int .i64 k] w fun e w' => e = .returned (rv k (cut l k)) ∧ Below w.heap.size w w' := by
  have k0 : (0 : Int) ≤ (k : Int) := by omega
  have k8 : (k : Int) ≤ 8 := by omega
  have hA := ((RAt.new w n l).alloc (.cells #[.int .i64 0, .int .i64 0, .int .i64 0, .int .i64 0, .int .i64 0, .int .i64 0, .int .i64 0, .int .i64 0, .int .i64 0] 72)).alloc (.cells #[.int .i64 k, .int .i64 0, .int .i64 0, .int .i64 0, .int .i64 0, .int .i64 0, .int .i64 0, .int .i64 0, .int .i64 0] 72)
  have hr := copy8 k hk hA.drew
  simp only [World.size_alloc] at hr
  clear hA
  go_enter Try.func59, Try.ntmps59
  go_wp2
  go_region
  go_wp2
  exact bodyPost_ret (v := rv k (cut l k)) (by simp [results, Try.results59, go_sem]) rfl ⟨rfl, (bal (bal (bal (Below.refl _ _) _) _) _).drew⟩

/-- eight numbers are the same -/
def eq8 (l m : Nat → Int) : Bool := (List.range 8).all fun j => l j == m j
theorem eq8_self (l : Nat → Int) : eq8 l l = true := by simp [eq8]
theorem infoInt : ∃ i, Try.prog.info? 3 = some i := by
  have h := sizeInt
  cases e : Try.prog.info? 3 with
  | none => rw [e] at h; simp at h
  | some i => exact ⟨i, rfl⟩
theorem run_items (w : World) (d : Nat) (xs ys : Array Value) (l m : Nat → Int) : ∀ is : List Nat, (∀ i ∈ is, (part 3 xs (i * 1)).run Try.prog w = .ok (.int .i64 (l i)) w) → (∀ i ∈ is, (part 3 ys (i * 1)).run Try.prog w = .ok (.int .i64 (m i)) w) →
    (Op.eqItems (d + 1) 3 1 xs ys is).run Try.prog w = .ok (is.all fun j => l j == m j) w
  | [], _, _ => by simp [Op.eqItems]
  | i :: is, hx, hy => by
    have ih := run_items w d xs ys l m is (fun j hj => hx j (by simp [hj])) (fun j hj => hy j (by simp [hj]))
    simp only [Op.eqItems, Sem.run_bind, hx i (by simp), hy i (by simp), Result.andThen_ok, run_equalIn_int w d 3 .i64 .i64 _ _ Try.underlying3]
    by_cases h : l i = m i <;> simp [h, ih]
theorem run_part8 (w : World) (l : Nat → Int) (i : Nat) (hi : i < 8) : (part 3 #[.int .i64 (l 0), .int .i64 (l 1), .int .i64 (l 2), .int .i64 (l 3), .int .i64 (l 4), .int .i64 (l 5), .int .i64 (l 6), .int .i64 (l 7)] (i * 1)).run Try.prog w = .ok (.int .i64 (l i)) w := by
  have u3 := Try.underlying3
  have a3 := Try.isAgg3
  have z3 := Try.sizeOf3
  match i, hi with
  | 0, _ => go_simp
  | 1, _ => go_simp
  | 2, _ => go_simp
  | 3, _ => go_simp
  | 4, _ => go_simp
  | 5, _ => go_simp
  | 6, _ => go_simp
  | 7, _ => go_simp
theorem cellsInt : Try.prog.cellsOf 3 = 1 := by kernel_rfl
theorem run_eqL (w : World) (d : Nat) (l m : Nat → Int) : (Op.equalIn (d + 2) 70 (.agg #[.int .i64 (l 0), .int .i64 (l 1), .int .i64 (l 2), .int .i64 (l 3), .int .i64 (l 4), .int .i64 (l 5), .int .i64 (l 6), .int .i64 (l 7)]) (.agg #[.int .i64 (m 0), .int .i64 (m 1), .int .i64 (m 2), .int .i64 (m 3), .int .i64 (m 4), .int .i64 (m 5), .int .i64 (m 6), .int .i64 (m 7)])).run Try.prog w = .ok (eq8 l m) w := by
  obtain ⟨i, hi⟩ := infoInt
  rw [show d + 2 = (d + 1) + 1 from rfl, run_equalIn_array w (d + 1) _ _ Try.underlying70 hi, cellsInt]
  exact run_items w d _ _ l m _ (fun i hi => run_part8 w l i (by simpa using hi)) (fun i hi => run_part8 w m i (by simpa using hi))
theorem eqL (l m : Nat → Int) (w : World) : (binOp .eql 70 (.agg #[.int .i64 (l 0), .int .i64 (l 1), .int .i64 (l 2), .int .i64 (l 3), .int .i64 (l 4), .int .i64 (l 5), .int .i64 (l 6), .int .i64 (l 7)]) (.agg #[.int .i64 (m 0), .int .i64 (m 1), .int .i64 (m 2), .int .i64 (m 3), .int .i64 (m 4), .int .i64 (m 5), .int .i64 (m 6), .int .i64 (m 7)])).run Try.prog w = .ok (.bool (eq8 l m)) w := by
  rw [run_eql_struct, show (10000 : Nat) = 9998 + 2 from rfl, run_eqL]
  rfl
theorem run_eqR (w : World) (n n' : Int) (l m : Nat → Int) : (Op.equalIn 10000 72 (rv n l) (rv n' m)).run Try.prog w = .ok (n == n' && eq8 l m) w := by
  have u3 := Try.underlying3
  have a3 := Try.isAgg3
  have z3 := Try.sizeOf3
  have u4 := Try.underlying70
  have a4 := Try.isAgg70
  have z4 := Try.sizeOf70
  have hS : Try.prog.underlying 72 = some (.struct (Try.prog.fieldsOf 72)) := by kernel_rfl
  have hp : Try.prog.stoodInHeld 72 = false := by kernel_rfl
  have hL := run_eqL w 9997 l m
  rw [show (10000 : Nat) = 9999 + 1 from rfl, run_equalIn_agg w 9999 72 _ _ hS hp]
  simp only [Program.fieldsOf, Try.underlying72]
  go_simp
  by_cases h1 : n = n' <;> cases h2 : eq8 l m <;> simp [h1]
theorem eqR (n n' : Int) (l m : Nat → Int) (w : World) : (binOp .eql 72 (rv n l) (rv n' m)).run Try.prog w = .ok (.bool (n == n' && eq8 l m)) w := by
  rw [run_eql_struct, run_eqR]
  rfl
theorem neqR (n n' : Int) (l m : Nat → Int) (w : World) : (binOp .neq 72 (rv n l) (rv n' m)).run Try.prog w = .ok (.bool (!(n == n' && eq8 l m))) w := by
  rw [run_neq_struct, run_eqR]
  rfl
end Go.Proofs.Ytbihdkdefopijaa
