/-
  An array of zeros that a call makes: 'a := [n]T{}' at once, however many cells it has.
-/
import Derived.WalkKit
import Derived.Deep.WholeRow
namespace Go.Proofs.YtoablodmodnamaaDoor
set_option linter.unusedVariables false
section
variable {P : Program} {ops : Array Oper} {rest : List Oper} {o1 o2 o3 : Oper} {a : Act} {w : World} {Q : Exit → Act → World → Prop}
theorem run_alloc_zero {t : TypeId} {c : Array Value} {n : Nat} (ρ : Operand → Value) (ho : o2.op = .alloc t) (hi : (P.info? t).map (fun i => (i.zero, i.size)) = some (some (.agg c), n)) :
    (execOp ρ o2).run P w = .ok (.value (.pointer (some ⟨w.heap.size, 0, none⟩))) (w.alloc (.cells c t)) := by
  have hz := (zero_of_info hi).1
  unfold execOp
  simp only [ho]
  simp [go_sem, hz, Result.andThen, Value.cells]
theorem run_store_zero {t : TypeId} {c : Array Value} {n : Nat} (x y : Operand) (ρ : Operand → Value) (ho : o3.op = .store t x y) (hx : ρ x = .pointer (some ⟨w.heap.size, 0, none⟩)) (hy : ρ y = .agg c) (hi : (P.info? t).map (fun i => (i.zero, i.size)) = some (some (.agg c), n)) (hn : c.size = n) (h1 : c.all (·.oneCell') = true) :
    (execOp ρ o3).run P (w.alloc (.cells c t)) = .ok .skip (w.alloc (.cells c t)) := by
  have hs := (zero_of_info hi).2
  unfold execOp
  simp only [ho, hx, hy]
  have := run_storeAt_new (P := P) w t c c (by rw [hs, hn]) rfl h1
  simp only [Sem.run_bind, this, Result.andThen_ok, Sem.run_pure]
/-- the three operations -/
theorem wpList_zeros (g1 : o1.guard = none) (g2 : o2.guard = none) (g3 : o3.guard = none) (t : TypeId) (d1 d2 : Tmp) (h1 : o1.op = .build t #[]) (h2 : o2.op = .alloc t) (h3 : o3.op = .store t (.tmp d2) (.tmp d1)) (e1 : o1.dst = some d1) (e2 : o2.dst = some d2) (e3 : o3.dst = none)
    (c : Array Value) (n : Nat) (hb : P.built t [] = some c) (hi : (P.info? t).map (fun i => (i.zero, i.size)) = some (some (.agg c), n)) (hn : c.size = n) (hc : c.all (·.oneCell') = true)
    (hd1 : ((a.put (some d1) (.agg c)).put (some d2) (.pointer (some ⟨w.heap.size, 0, none⟩))).eval (.tmp d1) = .agg c) (hd2 : ((a.put (some d1) (.agg c)).put (some d2) (.pointer (some ⟨w.heap.size, 0, none⟩))).eval (.tmp d2) = .pointer (some ⟨w.heap.size, 0, none⟩))
    (h : wpList P ops Q rest (((a.put (some d1) (.agg c)).put (some d2) (.pointer (some ⟨w.heap.size, 0, none⟩))).put none undef) (w.alloc (.cells c t))) : wpList P ops Q (o1 :: o2 :: o3 :: rest) a w := by
  refine wpList_build g1 t #[] h1 (by simp [hb]) ?_
  rw [e1]
  simp only [List.map_toArray, List.map_nil, hb, Option.getD_some]
  refine wpList_plain g2 fun K hK => ?_
  unfold Oper.wp
  rw [run_alloc_zero _ h2 hi, Oper.upon_value, e2]
  refine hK _ _ ?_
  refine wpList_plain g3 fun K hK => ?_
  unfold Oper.wp
  rw [run_store_zero _ _ _ h3 hd2 hd1 hi hn hc, Oper.upon_skip, e3]
  exact hK _ _ h
end
end Go.Proofs.YtoablodmodnamaaDoor
