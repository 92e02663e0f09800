/-
  Cells of the reference's Poll.
-/
import Derived.Test.YtoablodmodnamaaDoorKv3
namespace Go.Proofs.YtoablodmodnamaaDoor
set_option linter.unusedVariables false
set_option linter.unusedSimpArgs false
section
variable {w0 w : World} {q : Nat} {F : List Nat} {x : PollS}
theorem rpCells (h : RPm w0 w q F x) : w.cell? ⟨q, 8, none⟩ = some (.int .i64 x.own.no) ∧ w.cell? ⟨q, 9, none⟩ = some (.int .i64 x.own.md) ∧ w.cell? ⟨q, 10, none⟩ = some (.int .i64 x.own.mr) ∧ w.cell? ⟨q, 11, none⟩ = some (.int .i64 x.own.ls) ∧ w.cell? ⟨q, 16, none⟩ = some (.int .i64 x.al) ∧ w.cell? ⟨q, 17, none⟩ = some (.int .i64 x.n) ∧ w.cell? ⟨q, 18, none⟩ = some (.int .i64 (x.l 0)) ∧ w.cell? ⟨q, 19, none⟩ = some (.int .i64 (x.l 1)) ∧ w.cell? ⟨q, 20, none⟩ = some (.int .i64 (x.l 2)) ∧ w.cell? ⟨q, 21, none⟩ = some (.int .i64 (x.l 3)) ∧ w.cell? ⟨q, 22, none⟩ = some (.int .i64 (x.l 4)) ∧ w.cell? ⟨q, 23, none⟩ = some (.int .i64 (x.l 5)) ∧ w.cell? ⟨q, 24, none⟩ = some (.int .i64 (x.l 6)) ∧ w.cell? ⟨q, 25, none⟩ = some (.int .i64 (x.l 7)) ∧ q < w.heap.size := by
  obtain ⟨b, B, I, _⟩ := h
  have e1 := I.own
  have e2 := I.al
  have e3 := I.n
  have e4 := I.l
  rw [← e1, ← e2, ← e3, ← e4]
  exact ⟨B.cell 8, B.cell 9, B.cell 10, B.cell 11, B.cell 16, B.cell 17, B.cell 18, B.cell 19, B.cell 20, B.cell 21, B.cell 22, B.cell 23, B.cell 24, B.cell 25, B.lt⟩
end
theorem rangeOf {w : World} {b o : Nat} {n : Nat} {l : Nat → Int} (h : w.cell? ⟨b, o, none⟩ = some (.int .i64 n) ∧ w.cell? ⟨b, o + 1, none⟩ = some (.int .i64 (l 0)) ∧ w.cell? ⟨b, o + 2, none⟩ = some (.int .i64 (l 1)) ∧ w.cell? ⟨b, o + 3, none⟩ = some (.int .i64 (l 2)) ∧ w.cell? ⟨b, o + 4, none⟩ = some (.int .i64 (l 3)) ∧ w.cell? ⟨b, o + 5, none⟩ = some (.int .i64 (l 4)) ∧ w.cell? ⟨b, o + 6, none⟩ = some (.int .i64 (l 5)) ∧ w.cell? ⟨b, o + 7, none⟩ = some (.int .i64 (l 6)) ∧ w.cell? ⟨b, o + 8, none⟩ = some (.int .i64 (l 7))) : w.rangeAt b o [.int .i64 n, .int .i64 (l 0), .int .i64 (l 1), .int .i64 (l 2), .int .i64 (l 3), .int .i64 (l 4), .int .i64 (l 5), .int .i64 (l 6), .int .i64 (l 7)] := by
  obtain ⟨c0, c1, c2, c3, c4, c5, c6, c7, c8⟩ := h
  intro j v hv
  match j, hv with
  | 0, hv => have e := Option.some.inj hv; subst e; exact c0
  | 1, hv => have e := Option.some.inj hv; subst e; exact c1
  | 2, hv => have e := Option.some.inj hv; subst e; exact c2
  | 3, hv => have e := Option.some.inj hv; subst e; exact c3
  | 4, hv => have e := Option.some.inj hv; subst e; exact c4
  | 5, hv => have e := Option.some.inj hv; subst e; exact c5
  | 6, hv => have e := Option.some.inj hv; subst e; exact c6
  | 7, hv => have e := Option.some.inj hv; subst e; exact c7
  | 8, hv => have e := Option.some.inj hv; subst e; exact c8
  | j + 9, hv => simp at hv
theorem Ap.rq {w0 w : World} {mb y N : Nat} {s1 s2 : St} {kx qp qo ql qr qa qb za zd : Nat} {a1 a2 : AskS} {ow : Nat → Ph} {al : Nat → Int} {rn : Nat → Nat} {rl : Nat → Nat → Int} {pa pr : Nat → Value} {bs : Nat → Option PollS} {Fs : Nat → List Nat} {k : Nat} (h : Ap kx w0 w mb y N s1 s2 qp qo ql qr qa qb za zd a1 a2 ow al rn rl pa pr bs Fs) (hk : k < 3) {n : Nat} {l : Nat → Int} (e : rn k = n) (e' : rl k = l) : w.rangeAt qr (k * 9) [.int .i64 n, .int .i64 (l 0), .int .i64 (l 1), .int .i64 (l 2), .int .i64 (l 3), .int .i64 (l 4), .int .i64 (l 5), .int .i64 (l 6), .int .i64 (l 7)] := rangeOf (h.cq hk e e')
theorem yRoots {op : Oper} {w : World} {ρ : Operand → Value} (x : Operand) (ho : op.op = .load 42 x) (b o : Nat) (hx : ρ x = .pointer (some ⟨b, o, none⟩)) (cs : List Value) (h9 : cs.length = 9) (hc : w.rangeAt b o cs) : (execOp ρ op).run Tryd.prog w = .ok (.value (.agg cs.toArray)) w := by
  have := ldRoots w b o cs h9 hc
  unfold execOp
  simp only [ho, hx, this, Sem.run_bind, Sem.run_pure, Result.andThen_ok]
end Go.Proofs.YtoablodmodnamaaDoor
