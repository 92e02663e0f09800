/-
  A row of roots is written; what a team is at its beginning.
-/
import Derived.Test.YtoablodmodnamaaDoorKv
import Derived.Deep.MidRow
namespace Go.Proofs.YtoablodmodnamaaDoor
set_option linter.unusedVariables false
set_option linter.unusedSimpArgs false
section
variable {w0 w w' : World} {mb y N : Nat} {s1 s2 : St} {qr k : Nat} {rn : Nat → Nat} {rl : Nat → Nat → Int}
set_option maxHeartbeats 1000000 in
theorem rtsRow (h : Two w0 w mb y s1 s2 N) (B : Blk w0 w qr 43 (rts3 rn rl)) (hk : k < 3) (n : Nat) (l : Nat → Int) : Two w0 (((((((((w.setCell ⟨qr, k * 9, none⟩ (.int .i64 n)).setCell ⟨qr, k * 9 + 1, none⟩ (.int .i64 (l 0))).setCell ⟨qr, k * 9 + 2, none⟩ (.int .i64 (l 1))).setCell ⟨qr, k * 9 + 3, none⟩ (.int .i64 (l 2))).setCell ⟨qr, k * 9 + 4, none⟩ (.int .i64 (l 3))).setCell ⟨qr, k * 9 + 5, none⟩ (.int .i64 (l 4))).setCell ⟨qr, k * 9 + 6, none⟩ (.int .i64 (l 5))).setCell ⟨qr, k * 9 + 7, none⟩ (.int .i64 (l 6))).setCell ⟨qr, k * 9 + 8, none⟩ (.int .i64 (l 7))) mb y s1 s2 N ∧ Blk w0 (((((((((w.setCell ⟨qr, k * 9, none⟩ (.int .i64 n)).setCell ⟨qr, k * 9 + 1, none⟩ (.int .i64 (l 0))).setCell ⟨qr, k * 9 + 2, none⟩ (.int .i64 (l 1))).setCell ⟨qr, k * 9 + 3, none⟩ (.int .i64 (l 2))).setCell ⟨qr, k * 9 + 4, none⟩ (.int .i64 (l 3))).setCell ⟨qr, k * 9 + 5, none⟩ (.int .i64 (l 4))).setCell ⟨qr, k * 9 + 6, none⟩ (.int .i64 (l 5))).setCell ⟨qr, k * 9 + 7, none⟩ (.int .i64 (l 6))).setCell ⟨qr, k * 9 + 8, none⟩ (.int .i64 (l 7))) qr 43 (rts3 (updN rn k n) (updN rl k l)) ∧ ∀ (z : Nat) (T : TypeId) (c : Array Value), T ≠ 43 → Blk w0 w z T c → Blk w0 (((((((((w.setCell ⟨qr, k * 9, none⟩ (.int .i64 n)).setCell ⟨qr, k * 9 + 1, none⟩ (.int .i64 (l 0))).setCell ⟨qr, k * 9 + 2, none⟩ (.int .i64 (l 1))).setCell ⟨qr, k * 9 + 3, none⟩ (.int .i64 (l 2))).setCell ⟨qr, k * 9 + 4, none⟩ (.int .i64 (l 3))).setCell ⟨qr, k * 9 + 5, none⟩ (.int .i64 (l 4))).setCell ⟨qr, k * 9 + 6, none⟩ (.int .i64 (l 5))).setCell ⟨qr, k * 9 + 7, none⟩ (.int .i64 (l 6))).setCell ⟨qr, k * 9 + 8, none⟩ (.int .i64 (l 7))) z T c := by
  have o := othQ (qr := qr) (k := k) w n l
  have T1 := h.set B (k * 9) (.int .i64 n)
  have B1 := B.set (k * 9) (.int .i64 n)
  have T2 := T1.set B1 (k * 9 + 1) (.int .i64 (l 0))
  have B2 := B1.set (k * 9 + 1) (.int .i64 (l 0))
  have T3 := T2.set B2 (k * 9 + 2) (.int .i64 (l 1))
  have B3 := B2.set (k * 9 + 2) (.int .i64 (l 1))
  have T4 := T3.set B3 (k * 9 + 3) (.int .i64 (l 2))
  have B4 := B3.set (k * 9 + 3) (.int .i64 (l 2))
  have T5 := T4.set B4 (k * 9 + 4) (.int .i64 (l 3))
  have B5 := B4.set (k * 9 + 4) (.int .i64 (l 3))
  have T6 := T5.set B5 (k * 9 + 5) (.int .i64 (l 4))
  have B6 := B5.set (k * 9 + 5) (.int .i64 (l 4))
  have T7 := T6.set B6 (k * 9 + 6) (.int .i64 (l 5))
  have B7 := B6.set (k * 9 + 6) (.int .i64 (l 5))
  have T8 := T7.set B7 (k * 9 + 7) (.int .i64 (l 6))
  have B8 := B7.set (k * 9 + 7) (.int .i64 (l 6))
  have T9 := T8.set B8 (k * 9 + 8) (.int .i64 (l 7))
  have B9 := B8.set (k * 9 + 8) (.int .i64 (l 7))
  rw [rts3_set rn rl hk n l] at B9
  exact ⟨T9, B9, fun z T c hT b => b.oth o (by simpa using b.ne B hT)⟩
theorem updN_le (h : ∀ k, k < 3 → rn k ≤ 8) {n : Nat} (hn : n ≤ 8) : ∀ i, i < 3 → updN rn k n i ≤ 8 := fun i hi => by
  unfold updN; split
  · exact hn
  · exact h i hi
theorem lenA {a : AskS} {s : St} (h : s.ws.length = 160) : (a.mem s).ws.length = 160 := by
  unfold AskS.mem; split
  · exact n_store' h _ _
  · exact n_len h _
  · exact h
theorem lenS {x : ShadeS} {s : St} (h : s.ws.length = 160) : (x.mem s).ws.length = 160 := by
  unfold ShadeS.mem; split <;> first | exact n_store' h _ _ | exact n_cas' h _ _ _ | exact n_len h _ | exact h
theorem lenP {x : PollS} {s : St} (h : s.ws.length = 160) : (x.mem s).ws.length = 160 := by
  unfold PollS.mem; split <;> first | exact n_store' h _ _ | exact lenS h | exact n_len h _ | exact h
theorem n_nextP {x : PollS} {s : St} : (x.next s).n = x.n := by
  unfold PollS.next; split <;> rfl
theorem okAsk (q : Ph) : (AskS.new q 3).Ok := ⟨by show 1 ≤ 2; omega, fun h => by simp [AskS.new] at h, by show 1 ≤ 3; omega, by show 3 ≤ 64; omega⟩
theorem neBool (a : Bool) (w : World) : (binOp .neq 4 (.bool a) (.bool a)).run Tryd.prog w = .ok (.bool false) w := by cases a <;> kernel_rfl
theorem setCells9 (w : World) (b o : Nat) (v0 v1 v2 v3 v4 v5 v6 v7 v8 : Value) : w.setCells b o [v0, v1, v2, v3, v4, v5, v6, v7, v8] = (((((((((w.setCell ⟨b, o, none⟩ v0).setCell ⟨b, o + 1, none⟩ v1).setCell ⟨b, o + 2, none⟩ v2).setCell ⟨b, o + 3, none⟩ v3).setCell ⟨b, o + 4, none⟩ v4).setCell ⟨b, o + 5, none⟩ v5).setCell ⟨b, o + 6, none⟩ v6).setCell ⟨b, o + 7, none⟩ v7).setCell ⟨b, o + 8, none⟩ v8) := rfl
theorem setCells4 (w : World) (b o : Nat) (v0 v1 v2 v3 : Value) : w.setCells b o [v0, v1, v2, v3] = ((((w.setCell ⟨b, o, none⟩ v0).setCell ⟨b, o + 1, none⟩ v1).setCell ⟨b, o + 2, none⟩ v2).setCell ⟨b, o + 3, none⟩ v3) := rfl
theorem blkThere {b o n : Nat} {T : TypeId} {c : Array Value} (B : Blk w0 w b T c) (h : o + n ≤ c.size) : w.there b o n := fun j hj => ⟨by rw [B.cell (o + j), Array.getElem?_eq_getElem (by omega)]; rfl, B.free (o + j)⟩
theorem und42 : ∃ d, Tryd.prog.underlying 42 = some d ∧ d.isRow = true := by simp
/-- the cells of a row from o on -/
theorem rowRange {b : Nat} {T : TypeId} {c : Array Value} (h : w.heap[b]? = some (.cells c T (0, 0))) (o : Nat) (cs : List Value) (hc : ∀ j v, cs[j]? = some v → c[o + j]? = some v) : w.rangeAt b o cs := fun j v hv => by
  rw [cell_of_row w _ _ _ _ _ h]; exact hc j v hv
theorem blkRange {b : Nat} {T : TypeId} {cs : List Value} (B : Blk w0 w b T cs.toArray) : w.rangeAt b 0 cs := rowRange B.at_ 0 cs (fun j v hv => by simpa using hv)
theorem ldRoots (w : World) (b o : Nat) (cs : List Value) (h9 : cs.length = 9) (hc : w.rangeAt b o cs) : (Instr.loadAt 42 (.pointer (some ⟨b, o, none⟩))).run Tryd.prog w = .ok (.agg cs.toArray) w := by
  obtain ⟨d, h1, h2⟩ := und42
  exact run_loadAt_mid w b o _ cs d hc h1 h2 (by rw [h9]; kernel_rfl)
theorem wpList_ldRoots {ops : Array Oper} {rest : List Oper} {op : Oper} {a : Act} {Q : Exit → Act → World → Prop} (hgd : op.guard = none) (x : Operand) (ho : op.op = .load 42 x) (b o : Nat) (hx : a.eval x = .pointer (some ⟨b, o, none⟩)) (cs : List Value) (h9 : cs.length = 9) (hc : w.rangeAt b o cs) (h : wpList Tryd.prog ops Q rest (a.put op.dst (.agg cs.toArray)) w) : wpList Tryd.prog ops Q (op :: rest) a w := by
  obtain ⟨d, h1, h2⟩ := und42
  exact wpList_load_mid hgd _ x ho b o hx cs d hc h1 h2 (by rw [h9]; kernel_rfl) h
def z27 : Array Value := #[.int .i64 0, .int .i64 0, .int .i64 0, .int .i64 0, .int .i64 0, .int .i64 0, .int .i64 0, .int .i64 0, .int .i64 0, .int .i64 0, .int .i64 0, .int .i64 0, .int .i64 0, .int .i64 0, .int .i64 0, .int .i64 0, .int .i64 0, .int .i64 0, .int .i64 0, .int .i64 0, .int .i64 0, .int .i64 0, .int .i64 0, .int .i64 0, .int .i64 0, .int .i64 0, .int .i64 0]
theorem rts3_z27 : rts3 (fun _ => 0) (fun _ => no0) = z27 := by
  simp [rts3, no0, z27]
end
end Go.Proofs.YtoablodmodnamaaDoor
