/-
  Polls and Asks in a law's hand.
-/
import Derived.Test.YtoablodmodnamaaDoorKtq
import Derived.Test.YtoablodmodnamaaDoorPCalls2q
namespace Go.Proofs.YtoablodmodnamaaDoor
set_option linter.unusedVariables false
set_option linter.unusedSimpArgs false
set_option maxRecDepth 100000
open Go.ChangeShapes Go.WideShapes Go.RowKit
open S.Plain (t0 t1 tw nx p0 p1 p2 p3 pw)
open H.Plain (hw pS pC pN pM pG pT pL)

/-- values, as calls take them -/
def Pl5.val (U : Pl5) : Value := .agg #[.int .i64 U.th, .int .i64 U.bl, .int .i64 U.ta, .int .i64 U.he, .int .i64 U.si]
def Ph.val (own : Ph) : Value := .agg #[.int .i64 own.no, .int .i64 own.md, .int .i64 own.mr, .int .i64 own.ls]
def rootsV (n : Nat) (l : Nat → Int) : Value := .agg #[.int .i64 n, .int .i64 (l 0), .int .i64 (l 1), .int .i64 (l 2), .int .i64 (l 3), .int .i64 (l 4), .int .i64 (l 5), .int .i64 (l 6), .int .i64 (l 7)]
/-- a Poll in a law's hand -/
def PM (w0 w : World) (p : Nat) (x : PollS) : Prop := ∃ b, Blk w0 w p 112 b.cells ∧ x.Is b
def AM (w0 w : World) (p : Nat) (U : Pl5) (x : AskS) : Prop := Blk w0 w p 102 (x.cells U)
def RAM (w0 w : World) (p : Nat) (U : Pl5) (x : AskS) : Prop := Blk w0 w p 104 (x.cells U) ∧ (x.pc = 1 → x.k = 0)
theorem AskS.k0_next {x : AskS} {s : St} (h : x.pc = 1 → x.k = 0) : (x.next s).pc = 1 → (x.next s).k = 0 := by
  obtain ⟨q, N, pc, k⟩ := x
  match pc, h with
  | 0, h => intro h1; simp [AskS.next] at h1
  | 1, h => intro h1; simp [AskS.next] at h1
  | 2, h =>
    intro h1
    simp only [AskS.next] at h1
    split at h1
    · split at h1 <;> simp at h1
    · simp at h1
  | n + 3, h => exact h
section
variable {w0 w w' : World} {ow : Bool} {mb y p N : Nat} {s s1 s2 : St} {x : PollS} {a : AskS} {U : Pl5} {F : List Nat} {T : TypeId} {cs : Array Value}
theorem PM.oth (m : PM w0 w p x) (ot : Oth F w w') (hp : p ∉ F) : PM w0 w' p x := by
  obtain ⟨b, B, I⟩ := m
  exact ⟨b, B.oth ot hp, I⟩
theorem PM.below (m : PM w0 w p x) (hb : Below w.heap.size w w') : PM w0 w' p x := m.oth (F := []) (Oth.below hb) (by simp)
theorem PM.set (m : PM w0 w p x) {q i : Nat} {u : Value} (B : Blk w0 w q T cs) (hT : T ≠ 112) : PM w0 (w.setCell ⟨q, i, none⟩ u) p x := by
  obtain ⟨b, B1, I⟩ := m
  exact PM.oth (F := [q]) ⟨b, B1, I⟩ (Oth.set _ _ _ _ (by simp)) (by simpa using B1.ne B (Ne.symm hT))
theorem PM.lt (m : PM w0 w p x) : p < w.heap.size := by
  obtain ⟨b, B1, I⟩ := m
  exact B1.lt
theorem PM.ne (m : PM w0 w p x) {q : Nat} (B : Blk w0 w q T cs) (hT : T ≠ 112) : p ≠ q := by
  obtain ⟨b, B1, I⟩ := m
  exact B1.ne B (Ne.symm hT)
theorem tPoll (h : TwoT ow w0 w mb y s1 s2 N) (m : PM w0 w p x) (ok : x.wh.Ok) (nd : x.wh.pc ≠ 0) (n8 : x.n ≤ 8) (hN : N < 1000000) :
    Calls Tryd.prog 17 #[pt p, pt mb] w fun e w' => e = .returned (.bool ((x.next s1).wh.pc == 0)) ∧ TwoT ow w0 w' mb y (x.mem s1) s2 (N + 1) ∧ PM w0 w' p (x.next s1) ∧ Oth [p] w w' := by
  have ht := h.top1
  have hc : s1.c < 1000000 := by omega
  have f := h.fit1
  have r := h.rng1
  obtain ⟨b, B, I⟩ := m
  obtain ⟨L, rfl, A, k⟩ := h.went1 B
  refine (cPoll A I ok nd n8 f hc r).mono ?_
  rintro e w' ⟨rfl, L', b', A', I', g⟩
  have := PollS.count (s := s1) ok
  obtain ⟨R1, R2, R3⟩ := k A' g (PollS.fit ok f hc) (PollS.rng ok r) (show _ ≤ ((N + 1 : Nat) : Int) by omega) (by omega)
  exact ⟨rfl, R1, ⟨b', R2, I'⟩, R3⟩
theorem hPoll (h : Hand w0 w mb s N) (m : PM w0 w p x) (ok : x.wh.Ok) (nd : x.wh.pc ≠ 0) (n8 : x.n ≤ 8) (hN : N < 1000000) :
    Calls Tryd.prog 17 #[pt p, pt mb] w fun e w' => e = .returned (.bool ((x.next s).wh.pc == 0)) ∧ Hand w0 w' mb (x.mem s) (N + 1) ∧ PM w0 w' p (x.next s) ∧ Oth [p] w w' := by
  have ht := h.top
  have hc : s.c < 1000000 := by omega
  have f := h.fit
  have r := h.rng
  obtain ⟨b, B, I⟩ := m
  obtain ⟨L, rfl, A, k⟩ := h.went B
  refine (cPoll A I ok nd n8 f hc r).mono ?_
  rintro e w' ⟨rfl, L', b', A', I', g⟩
  have := PollS.count (s := s) ok
  obtain ⟨R1, R2, R3⟩ := k A' g (PollS.fit ok f hc) (PollS.rng ok r) (show _ ≤ ((N + 1 : Nat) : Int) by omega)
  exact ⟨rfl, R1, ⟨b', R2, I'⟩, R3⟩
theorem tAsk (h : TwoT ow w0 w mb y s1 s2 N) (m : AM w0 w p U a) (ok : a.Ok) (hU : U.th = a.N) (hN : N < 1000000) :
    Calls Tryd.prog 13 #[pt p, pt mb] w fun e w' => e = .returned (.bool ((a.next s1).pc == 0)) ∧ TwoT ow w0 w' mb y (a.mem s1) s2 (N + 1) ∧ AM w0 w' p U (a.next s1) ∧ Oth [p] w w' := by
  have ht := h.top1
  have hc : s1.c < 1000000 := by omega
  have f := h.fit1
  have r := h.rng1
  obtain ⟨L, rfl, A, k⟩ := h.went1 m
  refine (cAsk A ok hU f hc).mono ?_
  rintro e w' ⟨rfl, L', A', g⟩
  have := AskS.count (x := a) (s := s1)
  exact ⟨rfl, k A' g (AskS.fit f hc) (AskS.rng r) (show _ ≤ ((N + 1 : Nat) : Int) by omega) (by omega)⟩
theorem hAsk (h : Hand w0 w mb s N) (m : AM w0 w p U a) (ok : a.Ok) (hU : U.th = a.N) (hN : N < 1000000) :
    Calls Tryd.prog 13 #[pt p, pt mb] w fun e w' => e = .returned (.bool ((a.next s).pc == 0)) ∧ Hand w0 w' mb (a.mem s) (N + 1) ∧ AM w0 w' p U (a.next s) ∧ Oth [p] w w' := by
  have ht := h.top
  have hc : s.c < 1000000 := by omega
  have f := h.fit
  have r := h.rng
  obtain ⟨L, rfl, A, k⟩ := h.went m
  refine (cAsk A ok hU f hc).mono ?_
  rintro e w' ⟨rfl, L', A', g⟩
  have := AskS.count (x := a) (s := s)
  exact ⟨rfl, k A' g (AskS.fit f hc) (AskS.rng r) (show _ ≤ ((N + 1 : Nat) : Int) by omega)⟩
theorem yAsk (h : Two w0 w mb y s1 s2 N) (m : RAM w0 w p U a) (ok : a.Ok) (hU : U.th = a.N) (hN : N < 1000000) :
    Calls Tryd.prog 14 #[pt p, pt y] w fun e w' => e = .returned (.bool ((a.next s2).pc == 0)) ∧ Two w0 w' mb y s1 (a.mem s2) (N + 1) ∧ RAM w0 w' p U (a.next s2) ∧ Oth [p] w w' := by
  have ht := h.top2
  have hc : s2.c < 1000000 := by omega
  have f := h.fit2
  have r := h.rng2
  obtain ⟨M, rfl, A, k⟩ := h.went2 m.1
  refine (rAsk A ok hU m.2 f hc).mono ?_
  rintro e w' ⟨rfl, L', A', g⟩
  have := AskS.count (x := a) (s := s2)
  obtain ⟨R1, R2, R3⟩ := k A' g (AskS.fit f hc) (AskS.rng r) (show _ ≤ ((N + 1 : Nat) : Int) by omega) (by omega)
  exact ⟨rfl, R1, ⟨R2, AskS.k0_next m.2⟩, R3⟩
theorem tLoad (h : TwoT ow w0 w mb y s1 s2 N) (hN : N < 1000000) (i : Int) :
    Calls Tryd.prog 31 #[pt mb, .int .i64 i] w fun e w' => e = .returned (.int .u64 (s1.got i)) ∧ TwoT ow w0 w' mb y (s1.load i) s2 (N + 1) ∧ Oth [] w w' := by
  have ht := h.top1
  have hc : s1.c < 1000000 := by omega
  have f := h.fit1
  have r := h.rng1
  obtain ⟨L, rfl, A, k⟩ := h.step1
  refine (cLoad A f hc i).mono ?_
  rintro e w' ⟨rfl, L', A', g⟩
  exact ⟨rfl, k A' g (f.load hc i) (r.load i) (by rw [St.c_load]; omega) (by omega)⟩
/-- made -/
theorem nPoll (U : Pl5) {i : Int} (h0 : 0 ≤ i) (h1 : i ≤ 1000) (own : Ph) (al : Int) (n : Nat) (l : Nat → Int) (hs : w0.heap.size ≤ w.heap.size) :
    Calls Tryd.prog 15 #[.agg #[.int .i64 U.th, .int .i64 U.bl, .int .i64 U.ta, .int .i64 U.he, .int .i64 U.si], .int .i64 i, .agg #[.int .i64 own.no, .int .i64 own.md, .int .i64 own.mr, .int .i64 own.ls], .int .i64 al, .agg #[.int .i64 n, .int .i64 (l 0), .int .i64 (l 1), .int .i64 (l 2), .int .i64 (l 3), .int .i64 (l 4), .int .i64 (l 5), .int .i64 (l 6), .int .i64 (l 7)]] w fun e w' => ∃ z, e = .returned (pt z) ∧ PM w0 w' z (PollS.new (10 + i) own al n l) ∧ Below w.heap.size w w' ∧ w.heap.size ≤ z := by
  refine (cNewPoll U h0 h1 own al n l w).mono ?_
  rintro e w' ⟨z, rfl, hz, hb, bl⟩
  exact ⟨z, rfl, ⟨_, ⟨hb, Nat.le_trans hs hz, by decide⟩, PB.is_fresh ..⟩, bl, hz⟩
theorem nAsk (U : Pl5) (q : Ph) (N : Nat) (hs : w0.heap.size ≤ w.heap.size) :
    Calls Tryd.prog 10 #[.agg #[.int .i64 U.th, .int .i64 U.bl, .int .i64 U.ta, .int .i64 U.he, .int .i64 U.si], .agg #[.int .i64 q.no, .int .i64 q.md, .int .i64 q.mr, .int .i64 q.ls]] w fun e w' => ∃ z, e = .returned (pt z) ∧ AM w0 w' z U (AskS.new q N) ∧ Below w.heap.size w w' ∧ w.heap.size ≤ z := by
  refine (cNewAsk U q w).mono ?_
  rintro e w' ⟨z, rfl, hz, hb, bl⟩
  exact ⟨z, rfl, ⟨hb, Nat.le_trans hs hz, by decide⟩, bl, hz⟩
theorem nRPoll (U : Pl5) {i : Int} (h0 : 0 ≤ i) (h1 : i ≤ 1000) (own : Ph) (al : Int) (n : Nat) (l : Nat → Int) (hs : w0.heap.size ≤ w.heap.size) :
    Calls Tryd.prog 16 #[.agg #[.int .i64 U.th, .int .i64 U.bl, .int .i64 U.ta, .int .i64 U.he, .int .i64 U.si], .int .i64 i, .agg #[.int .i64 own.no, .int .i64 own.md, .int .i64 own.mr, .int .i64 own.ls], .int .i64 al, .agg #[.int .i64 n, .int .i64 (l 0), .int .i64 (l 1), .int .i64 (l 2), .int .i64 (l 3), .int .i64 (l 4), .int .i64 (l 5), .int .i64 (l 6), .int .i64 (l 7)]] w fun e w' => ∃ z, e = .returned (pt z) ∧ RPm w0 w' z [] (PollS.new (10 + i) own al n l) ∧ Below w.heap.size w w' ∧ w.heap.size ≤ z := by
  refine (rNewPoll U h0 h1 own al n l w).mono ?_
  rintro e w' ⟨z, rfl, hz, hb, bl⟩
  exact ⟨z, rfl, ⟨_, ⟨hb, Nat.le_trans hs hz, by decide⟩, RB.is_fresh U ⟨h0, h1⟩ own al n l, rfl⟩, bl, hz⟩
theorem nRAsk (U : Pl5) (q : Ph) (N : Nat) (hs : w0.heap.size ≤ w.heap.size) :
    Calls Tryd.prog 11 #[.agg #[.int .i64 U.th, .int .i64 U.bl, .int .i64 U.ta, .int .i64 U.he, .int .i64 U.si], .agg #[.int .i64 q.no, .int .i64 q.md, .int .i64 q.mr, .int .i64 q.ls]] w fun e w' => ∃ z, e = .returned (pt z) ∧ RAM w0 w' z U (AskS.new q N) ∧ Below w.heap.size w w' ∧ w.heap.size ≤ z := by
  refine (rNewAsk U q w).mono ?_
  rintro e w' ⟨z, rfl, hz, hb, bl⟩
  exact ⟨z, rfl, ⟨⟨hb, Nat.le_trans hs hz, by decide⟩, fun _ => rfl⟩, bl, hz⟩
/-- told -/
theorem hResult (m : PM w0 w p x) : Calls Tryd.prog 18 #[pt p] w fun e w' => e = .returned (.tuple #[.agg #[.int .i64 x.own.no, .int .i64 x.own.md, .int .i64 x.own.mr, .int .i64 x.own.ls], .int .i64 x.al, .agg #[.int .i64 x.n, .int .i64 (x.l 0), .int .i64 (x.l 1), .int .i64 (x.l 2), .int .i64 (x.l 3), .int .i64 (x.l 4), .int .i64 (x.l 5), .int .i64 (x.l 6), .int .i64 (x.l 7)]]) ∧ Below w.heap.size w w' := by
  obtain ⟨b, B, I⟩ := m
  refine (cPollResult B.at_).mono ?_
  rintro e w' ⟨rfl, hb⟩
  rw [I.own, I.al, I.n, I.l]
  exact ⟨rfl, hb⟩
end
/-- the plans of the laws -/
def U34 : Pl5 := ⟨3, 4, 13, 32, 160⟩
def U11 : Pl5 := ⟨1, 1, 11, 32, 64⟩
theorem cPlan34 (w : World) : Calls Tryd.prog 8 #[.int .i64 3, .int .i64 4] w fun e w' => e = .returned (.tuple #[.agg #[.int .i64 3, .int .i64 4, .int .i64 13, .int .i64 32, .int .i64 160], .int .i64 0]) ∧ Below w.heap.size w w' := by
  refine (P.rNew 3 4 (by decide) (by decide) (by decide) (by decide) w).mono ?_
  rintro e w' ⟨rfl, hb⟩
  exact ⟨rfl, hb⟩
theorem cPlan11 (w : World) : Calls Tryd.prog 8 #[.int .i64 1, .int .i64 1] w fun e w' => e = .returned (.tuple #[.agg #[.int .i64 1, .int .i64 1, .int .i64 11, .int .i64 32, .int .i64 64], .int .i64 0]) ∧ Below w.heap.size w w' := by
  refine (P.rNew 1 1 (by decide) (by decide) (by decide) (by decide) w).mono ?_
  rintro e w' ⟨rfl, hb⟩
  exact ⟨rfl, hb⟩
theorem duoClone {w0 w : World} {mb N : Nat} {s : St} (h : Hand w0 w mb s N) : Calls Tryd.prog 55 #[pt mb] w fun e w' => ∃ c, e = .returned (pt c) ∧ TwoT true w0 w' mb c s s N ∧ Below w.heap.size w w' := by
  refine (hClone h).mono ?_
  rintro e w' ⟨c, rfl, h'⟩
  exact ⟨c, rfl, h.duo h' (Nat.le_refl _), h'.bel⟩
end Go.Proofs.YtoablodmodnamaaDoor
