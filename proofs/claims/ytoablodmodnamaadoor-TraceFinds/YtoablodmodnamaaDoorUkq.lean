/-
  A Trace is made; phases and headers compared.
-/
import Derived.Test.YtoablodmodnamaaDoorKuq
import Derived.Test.YtoablodmodnamaaDoorTdq
import Derived.Test.YtoablodmodnamaaDoorUdq
import Derived.Test.YtoablodmodnamaaDoorD2q
import Derived.Test.YtoablodmodnamaaDoorBzq
import Derived.Test.YtoablodmodnamaaDoorUbq
import Derived.Deep.RegionHeld3
import Derived.Laws.StructEq
import Derived.ChangeKeysEq
import Derived.Deep.MidRow
namespace Go.Proofs.YtoablodmodnamaaDoor
set_option linter.unusedVariables false
set_option linter.unusedSimpArgs false
set_option maxRecDepth 100000
open Go.ChangeShapes Go.WideShapes Go.RowKit
open S.Plain (t0 t1 tw nx p0 p1 p2 p3 pw)
open H.Plain (hw pS pC pN pM pG pT pL)

theorem po0 {w : World} {L : Loc} {s : St} {p : Nat} {b : PB} (A : At 142 w L s p 112 b.cells) (hpc : b.pc = 0) :
    Calls Tryd.prog 17 #[.pointer (some ⟨p, 0, none⟩), .pointer (some ⟨L.b, 0, none⟩)] w fun e w' => e = .returned (.bool true) ∧ w' = w := by
  have c15 : w.cell? ⟨p, 15, none⟩ = some (.int .i64 0) := (A.cell 15).trans (by show some (Value.int .i64 (b.pc : Int)) = _; rw [hpc]; rfl)
  clear hpc
  go_enter Tryd.func17, Tryd.ntmps17
  go_wp2
  go_ret
  exact ⟨rfl, rfl⟩
/-- a Trace in a law's hand -/
def TM (w0 w : World) (p : Nat) (U : Pl5) (x : TrS) : Prop := Blk w0 w p 134 (x.cells U)
def SM (w0 w : World) (p : Nat) (x : ShadeS) : Prop := Blk w0 w p 110 x.cells
section
variable {w0 w w' : World} {ow : Bool} {mb y p N : Nat} {s s1 s2 : St} {x : TrS} {z : PollS} {g : ShadeS} {U : Pl5} {F : List Nat} {T : TypeId} {cs : Array Value}
theorem tTrace (h : TwoT ow w0 w mb y s1 s2 N) (m : TM w0 w p U x) (ok : x.Ok U) (hN : N < 1000000) :
    Calls Tryd.prog 30 #[pt p, pt mb] w fun e w' => e = .returned (.bool ((x.next U s1).pc == 0)) ∧ TwoT ow w0 w' mb y (x.mem s1) s2 (N + 1) ∧ TM w0 w' p U (x.next U s1) ∧ Oth [p] w w' := by
  have ht := h.top1
  have hc : s1.c < 1000000 := by omega
  have f := h.fit1
  have r := h.rng1
  obtain ⟨L, rfl, A, k⟩ := h.went1 m
  refine (cTrace A ok f hc r).mono ?_
  rintro e w' ⟨rfl, L', A', g⟩
  have := TrS.count (s := s1) ok
  exact ⟨rfl, k A' g (TrS.fit ok f hc) (TrS.rng ok r) (show _ ≤ ((N + 1 : Nat) : Int) by omega) (by omega)⟩
theorem hTrace (h : Hand w0 w mb s N) (m : TM w0 w p U x) (ok : x.Ok U) (hN : N < 1000000) :
    Calls Tryd.prog 30 #[pt p, pt mb] w fun e w' => e = .returned (.bool ((x.next U s).pc == 0)) ∧ Hand w0 w' mb (x.mem s) (N + 1) ∧ TM w0 w' p U (x.next U s) ∧ Oth [p] w w' := by
  have ht := h.top
  have hc : s.c < 1000000 := by omega
  have f := h.fit
  have r := h.rng
  obtain ⟨L, rfl, A, k⟩ := h.went m
  refine (cTrace A ok f hc r).mono ?_
  rintro e w' ⟨rfl, L', A', g⟩
  have := TrS.count (s := s) ok
  exact ⟨rfl, k A' g (TrS.fit ok f hc) (TrS.rng ok r) (show _ ≤ ((N + 1 : Nat) : Int) by omega)⟩
theorem sStep (h : TwoT ow w0 w mb y s1 s2 N) (m : SM w0 w p g) (ok : g.Ok) (hN : N < 1000000) :
    Calls Tryd.prog 26 #[pt p, pt mb] w fun e w' => e = .returned (.bool ((g.next s1).pc == 0)) ∧ TwoT ow w0 w' mb y (g.mem s1) s2 (N + 1) ∧ SM w0 w' p (g.next s1) ∧ Oth [p] w w' := by
  have ht := h.top1
  have hc : s1.c < 1000000 := by omega
  have f := h.fit1
  have r := h.rng1
  obtain ⟨L, rfl, A, k⟩ := h.went1 m
  refine (cShade A ok f hc r).mono ?_
  rintro e w' ⟨rfl, L', A', g⟩
  have := ShadeS.count (s := s1) ok
  exact ⟨rfl, k A' g (ShadeS.fit ok f hc) (ShadeS.rng ok r) (show _ ≤ ((N + 1 : Nat) : Int) by omega) (by omega)⟩
theorem poll_pc0 (h : z.wh.pc = 0) : z.wh = .done := by
  obtain ⟨ack, own, q, al, n, l, wh⟩ := z
  cases wh <;> simp [Wh.pc] at h ⊢
/-- a Poll's step, of one that is done, too -/
theorem tPoll0 (h : TwoT ow w0 w mb y s1 s2 N) (m : PM w0 w p z) (ok : z.wh.Ok) (n8 : z.n ≤ 8) (hN : N < 1000000) :
    Calls Tryd.prog 17 #[pt p, pt mb] w fun e w' => e = .returned (.bool ((z.next s1).wh.pc == 0)) ∧ TwoT ow w0 w' mb y (z.mem s1) s2 (N + 1) ∧ PM w0 w' p (z.next s1) ∧ Oth [p] w w' := by
  by_cases nd : z.wh.pc = 0
  · have e0 := poll_pc0 nd
    have e1 : z.next s1 = z := by unfold PollS.next; rw [e0]
    have e2 : z.mem s1 = s1 := by unfold PollS.mem; rw [e0]
    obtain ⟨b, B, I⟩ := m
    have hb : b.pc = 0 := by have := I.pc; omega
    obtain ⟨L, e3, A, _⟩ := h.went1 B
    rw [← e3]
    refine (po0 A hb).mono ?_
    rintro e w' ⟨rfl, rfl⟩
    rw [e1, e2, e3]
    exact ⟨by rw [nd]; rfl, h.mono (by omega), ⟨b, B, I⟩, Oth.refl _ _⟩
  · exact tPoll h m ok nd n8 hN
/-- made -/
theorem nShade (a m : Int) (hs : w0.heap.size ≤ w.heap.size) :
    Calls Tryd.prog 25 #[.int .i64 a, .int .i64 m] w fun e w' => ∃ z, e = .returned (pt z) ∧ SM w0 w' z (ShadeS.new a m) ∧ Below w.heap.size w w' ∧ w.heap.size ≤ z := by
  refine (cNewShade a m w).mono ?_
  rintro e w' ⟨rfl, M⟩
  exact ⟨_, rfl, ⟨M.blk, hs, by decide⟩, M.bel, Nat.le_refl _⟩
end
end Go.Proofs.YtoablodmodnamaaDoor

namespace Go.Proofs.YtoablodmodnamaaDoor
set_option linter.unusedVariables false
set_option linter.unusedSimpArgs false
set_option maxRecDepth 100000
open Go.ChangeShapes Go.WideShapes Go.RowKit
open S.Plain (t0 t1 tw nx p0 p1 p2 p3 pw)
open H.Plain (hw pS pC pN pM pG pT pL)

/-- the program's memory, as far as it is laid: the words of the reference's -/
def laidTo (l : List Int) : Nat → St
  | 0 => St.new l.length
  | j + 1 => (laidTo l j).store j (l.getD j 0)
theorem laidTo_len (l : List Int) (j : Nat) : (laidTo l j).ws.length = l.length := by
  induction j with
  | zero => simp [laidTo, St.new]
  | succ j ih => simp only [laidTo, St.n_store, ih]
theorem laidTo_ws (l : List Int) (j : Nat) (hj : j ≤ l.length) : (∀ i, i < j → (laidTo l j).ws[i]? = l[i]?) ∧ (laidTo l j).t = 0 ∧ (laidTo l j).c = j := by
  induction j with
  | zero => simp [laidTo, St.new]
  | succ j ih =>
    obtain ⟨h1, h2, h3⟩ := ih (by omega)
    have hi : (laidTo l j).is1 (j : Int) = true := by simp only [St.is1, laidTo_len, Bool.and_eq_true, decide_eq_true_eq]; omega
    refine ⟨?_, ?_, ?_⟩
    · intro i hij
      simp only [laidTo, St.store, hi, if_true, St.tell, St.put, Int.toNat_natCast]
      rw [List.getElem?_set]
      by_cases e : j = i
      · subst e
        rw [if_pos rfl, if_pos (by rw [laidTo_len]; omega), List.getD_eq_getElem?_getD, List.getElem?_eq_getElem (by omega)]
        rfl
      · rw [if_neg e]
        exact h1 i (by omega)
    · simp only [laidTo, St.store, hi, if_true, St.tell, St.put, h2]
    · rw [laidTo, St.c_store, h3]; omega
theorem laidTo_all (l : List Int) : (laidTo l l.length).ws = l ∧ (laidTo l l.length).t = 0 ∧ (laidTo l l.length).c = l.length := by
  have h := laidTo_ws l l.length (Nat.le_refl _)
  refine ⟨List.ext_getElem? fun i => ?_, h.2⟩
  by_cases e : i < l.length
  · exact h.1 i e
  · rw [List.getElem?_eq_none (by rw [laidTo_len]; omega), List.getElem?_eq_none (by omega)]
theorem Vw.copied {n : Nat} {S : St} {f : Int → Int} (h : Vw n S f) : Vw n (laidTo S.ws S.ws.length) f := by
  obtain ⟨h1, h2, h3⟩ := laidTo_all S.ws
  exact ⟨by rw [h1]; exact h.len, h2, fun a a0 a1 => by rw [← h.word a a0 a1]; simp [St.word, h1]⟩
theorem Y1.duo {w0 w w' : World} {y b N N' : Nat} {s1 s2 : St} (h : Y1 w0 w y s2 N) (g : Hand w w' b s1 N') (hN : N ≤ N') : TwoT false w0 w' b y s1 s2 N' := by
  obtain ⟨⟨M, e, hm, hl⟩, hb, f2, t2, r2, wd⟩ := h
  obtain ⟨⟨L, e1, hm1, hl1⟩, hb1, f1, t1, r1, wd1⟩ := g
  exact ⟨⟨L, M, e1, e, hm1, hm.below hb1, fun k hk => ⟨Nat.le_trans hb.size (hl1 k hk), fun hM => by have := hm.lt k hM; have := hl1 k hk; omega⟩, hl⟩, hb.trans (hb1.mono hb.size), f1, f2, t1, by omega, r1, r2, wd⟩
theorem Y1.seen {w0 w : World} {y N : Nat} {s : St} (h : Y1 w0 w y s N) : ∃ g cp, Seen2 w y g cp s := by
  obtain ⟨⟨M, rfl, hr, hl⟩, _⟩ := h
  exact ⟨M.g, M.cp, hr.cell0, hr.cell2, fun j hj => hr.wcell j hj, hr.lt _ (by simp [Loc.fp]), hr.lt _ (by simp [Loc.fp])⟩
set_option maxHeartbeats 2000000 in
theorem cCopied {w0 w : World} {y N n : Nat} {S : St} (h : Y1 w0 w y S N) (hlen : S.ws.length = n) (n1 : 2 ≤ n) (n2 : n ≤ 1000) :
    Calls Tryd.prog 23 #[.pointer (some ⟨y, 0, none⟩)] w fun e w' => ∃ b, e = .returned (.pointer (some ⟨b, 0, none⟩)) ∧ Hand w w' b (laidTo S.ws n) n := by
  obtain ⟨g, cp, hS⟩ := h.seen
  have wd := h.widw
  have c0 := hS.c0
  rw [hlen] at c0
  have ly := hS.ly
  go_enter Tryd.func23, Tryd.ntmps23
  go_wp2_with (go_at_call 35; refine (hNew _ n n1 (by omega) (Below.refl _ _) wd).mono ?_; rintro e w2 ⟨b, rfl, h2⟩)
  have h0 : Hand w w2 b (laidTo S.ws 0) 0 := by rw [laidTo, hlen]; exact h2
  clear h2 c0 ly
  go_loopw [5] (fun i wr => ∃ j : Nat, j ≤ n ∧ i = .int .i64 j ∧ Hand w wr b (laidTo S.ws j) j) (fun i _ => n - (intOf i).toNat)
  case atStart => exact ⟨0, Nat.zero_le _, rfl, h0⟩
  case round =>
    obtain ⟨j, hj, rfl, q1⟩ := hrel
    clear h0
    have hS1 := hS.below q1.bel
    have x0 := hS1.c0
    have ly := hS1.ly
    rw [hlen] at x0
    by_cases hjn : j < n
    case pos =>
      have xj := hS1.cw j (by omega)
      have lg := hS1.lg
      have hu : U64 (S.ws.getD j 0) := by
        have := h.rng2.word (j : Int)
        simpa [St.word] using this
      have hL : laidTo S.ws (j + 1) = (laidTo S.ws j).store j (S.ws.getD j 0) := rfl
      obtain ⟨v, hv⟩ : ∃ v, S.ws.getD j 0 = v := ⟨_, rfl⟩
      rw [hv] at xj hu hL
      clear hS1 hv
      go_wp2_with (go_at_call 37; refine (hStore q1 (by omega) j hu).mono ?_; rintro e w3 ⟨rfl, q3, o3⟩)
      go_roundw
      case rel => exact ⟨j + 1, by omega, by go_num, by rw [hL]; exact q3⟩
      case measure => simp [intOf]; omega
    case neg =>
      have e : j = n := by omega
      go_wp2
      go_ret
      exact ⟨b, rfl, e ▸ q1⟩
end Go.Proofs.YtoablodmodnamaaDoor

namespace Go.Proofs.YtoablodmodnamaaDoor
set_option linter.unusedVariables false
set_option linter.unusedSimpArgs false
set_option maxRecDepth 100000
open Go.ChangeShapes Go.WideShapes Go.RowKit Go.ChangeAt
open S.Plain (t0 t1 tw nx p0 p1 p2 p3 pw)
open H.Plain (hw pS pC pN pM pG pT pL)

theorem eqPh (a b c d : Int) (w : World) : (binOp .eql 37 (.agg #[.int .i64 a, .int .i64 b, .int .i64 c, .int .i64 d]) (.agg #[.int .i64 a, .int .i64 b, .int .i64 c, .int .i64 d])).run Tryd.prog w = .ok (.bool true) w := by
  have u3 := Tryd.underlying3
  have a3 := Tryd.isAgg3
  have z3 := Tryd.sizeOf3
  have hS : Tryd.prog.underlying 37 = some (.struct (Tryd.prog.fieldsOf 37)) := by kernel_rfl
  have hp : Tryd.prog.stoodInHeld 37 = false := by kernel_rfl
  rw [run_eql_struct, show (10000 : Nat) = 9999 + 1 from rfl, run_equalIn_agg w 9999 37 _ _ hS hp]
  simp only [Program.fieldsOf, Tryd.underlying37]
  go_simp
theorem neHead (a b c d e f g : Int) (w : World) : (binOp .neq 74 (.agg #[.int .i64 a, .int .i64 b, .int .i64 c, .int .i64 d, .int .i64 e, .int .i64 f, .int .i64 g]) (.agg #[.int .i64 a, .int .i64 b, .int .i64 c, .int .i64 d, .int .i64 e, .int .i64 f, .int .i64 g])).run Tryd.prog w = .ok (.bool false) w := by
  have u3 := Tryd.underlying3
  have a3 := Tryd.isAgg3
  have z3 := Tryd.sizeOf3
  have hS : Tryd.prog.underlying 74 = some (.struct (Tryd.prog.fieldsOf 74)) := by kernel_rfl
  have hp : Tryd.prog.stoodInHeld 74 = false := by kernel_rfl
  rw [run_neq_struct, show (10000 : Nat) = 9999 + 1 from rfl, run_equalIn_agg w 9999 74 _ _ hS hp]
  simp only [Program.fieldsOf, Tryd.underlying74]
  go_simp
theorem Oth.fresh {w w1 w' : World} {p : Nat} (a : Oth [] w w1) (b : Oth [p] w1 w') (h : w.heap.size ≤ p) : Oth [] w w' := ⟨Nat.le_trans a.size b.size, fun k cs T fz hF hT hk => b.blk k cs T fz (fun hz => by
  have := lt_of_block hk
  simp only [List.mem_singleton] at hz
  omega) hT (a.blk k cs T fz hF hT hk)⟩
def TrS.zero (q : Ph) : TrS := ⟨q, 0, ⟨0, 0, Hd.zero, 0, 0⟩, 0, 0, 0, ⟨0, 0, 0, 0, Hd.zero, 0⟩, ⟨0, 0, 0, 0, 0⟩, ⟨Ph.zero, 1, 0, 0⟩, Ph.zero⟩
section
variable {w0 w w' : World} {ow : Bool} {mb y p N : Nat} {s s1 s2 : St} {x : TrS}
set_option maxHeartbeats 2000000 in
theorem tNewT (h : TwoT ow w0 w mb y s1 s2 N) (U : Pl5) (q : Ph) :
    Calls Tryd.prog 29 #[.agg #[.int .i64 U.th, .int .i64 U.bl, .int .i64 U.ta, .int .i64 U.he, .int .i64 U.si], .agg #[.int .i64 q.no, .int .i64 q.md, .int .i64 q.mr, .int .i64 q.ls]] w fun e w' => ∃ z, e = .returned (pt z) ∧ TwoT ow w0 w' mb y s1 s2 N ∧ TM w0 w' z U (TrS.new q) ∧ Oth [] w w' ∧ w.heap.size ≤ z := by
  obtain ⟨u0, u1, u2, u3, u4⟩ := U
  obtain ⟨q0, q1, q2, q3⟩ := q
  dsimp only
  go_enter Tryd.func29, Tryd.ntmps29
  go_upto_region 2 with (fail)
  have hb2 : Below w.heap.size w ((w.alloc (.cells #[.int .i64 u0, .int .i64 u1, .int .i64 u2, .int .i64 u3, .int .i64 u4] 32)).alloc (.cells #[.int .i64 q0, .int .i64 q1, .int .i64 q2, .int .i64 q3] 37)) := ((Below.refl _ _).alloc (Nat.le_refl _) _).alloc (by simp) _
  have hsz : ((w.alloc (.cells #[.int .i64 u0, .int .i64 u1, .int .i64 u2, .int .i64 u3, .int .i64 u4] 32)).alloc (.cells #[.int .i64 q0, .int .i64 q1, .int .i64 q2, .int .i64 q3] 37)).heap.size = w.heap.size + 1 + 1 := by simp
  rw [← hsz]
  generalize (w.alloc (.cells #[.int .i64 u0, .int .i64 u1, .int .i64 u2, .int .i64 u3, .int .i64 u4] 32)).alloc (.cells #[.int .i64 q0, .int .i64 q1, .int .i64 q2, .int .i64 q3] 37) = wa at hb2 hsz ⊢
  have T2 := h.below hb2
  have hs2 := T2.bel.size
  obtain ⟨x, hx⟩ : ∃ x, TrS.zero ⟨q0, q1, q2, q3⟩ = x := ⟨_, rfl⟩
  have B3 : Blk w0 (wa.alloc (.cells (x.cells ⟨u0, u1, u2, u3, u4⟩) 134)) wa.heap.size 134 (x.cells ⟨u0, u1, u2, u3, u4⟩) := Blk.new hs2 _ (by decide)
  have T3 := T2.alloc (.cells (x.cells ⟨u0, u1, u2, u3, u4⟩) 134)
  have O3 : Oth [] w (wa.alloc (.cells (x.cells ⟨u0, u1, u2, u3, u4⟩) 134)) := (Oth.below hb2).trans (Oth.alloc _ _ _)
  have hz : w.heap.size ≤ wa.heap.size := hb2.size
  have e3 : wa.alloc (.cells (x.cells ⟨u0, u1, u2, u3, u4⟩) 134) = wa.alloc (.cells ((TrS.zero ⟨q0, q1, q2, q3⟩).cells ⟨u0, u1, u2, u3, u4⟩) 134) := by rw [hx]
  obtain ⟨w3, hw3⟩ : ∃ w3, wa.alloc (.cells (x.cells ⟨u0, u1, u2, u3, u4⟩) 134) = w3 := ⟨_, rfl⟩
  rw [hw3] at e3 B3 T3 O3
  have e4 : (wa.alloc (.cells #[.int .i64 u0, .int .i64 u1, .int .i64 u2, .int .i64 u3, .int .i64 u4, .int .i64 q0, .int .i64 q1, .int .i64 q2, .int .i64 q3, .int .i64 0, .int .i64 0, .int .u64 0, .int .i64 0, .int .i64 0, .int .i64 0, .int .i64 0, .int .i64 0, .int .i64 0, .int .i64 0, .int .i64 0, .int .i64 0, .int .i64 0, .int .i64 0, .int .i64 0, .int .i64 0, .int .i64 0, .int .i64 0, .int .u64 0, .int .i64 0, .int .i64 0, .int .i64 0, .int .i64 0, .int .i64 0, .int .i64 0, .int .i64 0, .int .u64 0, .int .i64 0, .int .i64 0, .int .i64 0, .int .i64 0, .int .i64 0, .int .i64 0, .int .i64 0, .int .i64 0, .int .i64 0, .int .i64 0, .int .i64 0, .int .i64 0, .int .i64 0, .int .i64 0, .int .i64 0] 134)) = w3 := e3.symm
  rw [e4]
  clear e3 e4 hw3 T2 hb2 hsz h
  generalize wa.heap.size = p at B3 hz ⊢
  clear hs2
  have ft := T3.fit1
  have rg := T3.rng1
  have tp := T3.top1
  have hz' := hz
  obtain ⟨L, eL, A, k⟩ := T3.went1 B3
  go_wp2_with (go_at_call 68; refine (cToGrey A).mono ?_; rintro e w4 ⟨rfl, A4, g4⟩; obtain ⟨R1, R2, R3⟩ := k A4 g4 ft rg tp (Nat.le_refl _); have c9 : w4.cell? ⟨p, 9, none⟩ = some (.int .i64 x.pc) := R2.cell 9; have f9 := R2.free 9; have cl := R2.lt)
  go_ret
  refine ⟨p, rfl, R1.set R2 9 _, ?_, O3.fresh (R3.trans (Oth.set _ _ _ _ (by simp))) hz', hz'⟩
  have := R2.set 9 (.int .i64 1)
  rw [← hx] at this
  exact this
set_option maxHeartbeats 2000000 in
theorem hNewT (h : Hand w0 w mb s N) (U : Pl5) (q : Ph) :
    Calls Tryd.prog 29 #[.agg #[.int .i64 U.th, .int .i64 U.bl, .int .i64 U.ta, .int .i64 U.he, .int .i64 U.si], .agg #[.int .i64 q.no, .int .i64 q.md, .int .i64 q.mr, .int .i64 q.ls]] w fun e w' => ∃ z, e = .returned (pt z) ∧ Hand w0 w' mb s N ∧ TM w0 w' z U (TrS.new q) ∧ Oth [] w w' ∧ w.heap.size ≤ z := by
  obtain ⟨u0, u1, u2, u3, u4⟩ := U
  obtain ⟨q0, q1, q2, q3⟩ := q
  dsimp only
  go_enter Tryd.func29, Tryd.ntmps29
  go_upto_region 2 with (fail)
  have hb2 : Below w.heap.size w ((w.alloc (.cells #[.int .i64 u0, .int .i64 u1, .int .i64 u2, .int .i64 u3, .int .i64 u4] 32)).alloc (.cells #[.int .i64 q0, .int .i64 q1, .int .i64 q2, .int .i64 q3] 37)) := ((Below.refl _ _).alloc (Nat.le_refl _) _).alloc (by simp) _
  have hsz : ((w.alloc (.cells #[.int .i64 u0, .int .i64 u1, .int .i64 u2, .int .i64 u3, .int .i64 u4] 32)).alloc (.cells #[.int .i64 q0, .int .i64 q1, .int .i64 q2, .int .i64 q3] 37)).heap.size = w.heap.size + 1 + 1 := by simp
  rw [← hsz]
  generalize (w.alloc (.cells #[.int .i64 u0, .int .i64 u1, .int .i64 u2, .int .i64 u3, .int .i64 u4] 32)).alloc (.cells #[.int .i64 q0, .int .i64 q1, .int .i64 q2, .int .i64 q3] 37) = wa at hb2 hsz ⊢
  have T2 := h.below hb2
  have hs2 := T2.bel.size
  obtain ⟨x, hx⟩ : ∃ x, TrS.zero ⟨q0, q1, q2, q3⟩ = x := ⟨_, rfl⟩
  have B3 : Blk w0 (wa.alloc (.cells (x.cells ⟨u0, u1, u2, u3, u4⟩) 134)) wa.heap.size 134 (x.cells ⟨u0, u1, u2, u3, u4⟩) := Blk.new hs2 _ (by decide)
  have T3 := T2.alloc (.cells (x.cells ⟨u0, u1, u2, u3, u4⟩) 134)
  have O3 : Oth [] w (wa.alloc (.cells (x.cells ⟨u0, u1, u2, u3, u4⟩) 134)) := (Oth.below hb2).trans (Oth.alloc _ _ _)
  have hz : w.heap.size ≤ wa.heap.size := hb2.size
  have e3 : wa.alloc (.cells (x.cells ⟨u0, u1, u2, u3, u4⟩) 134) = wa.alloc (.cells ((TrS.zero ⟨q0, q1, q2, q3⟩).cells ⟨u0, u1, u2, u3, u4⟩) 134) := by rw [hx]
  obtain ⟨w3, hw3⟩ : ∃ w3, wa.alloc (.cells (x.cells ⟨u0, u1, u2, u3, u4⟩) 134) = w3 := ⟨_, rfl⟩
  rw [hw3] at e3 B3 T3 O3
  have e4 : (wa.alloc (.cells #[.int .i64 u0, .int .i64 u1, .int .i64 u2, .int .i64 u3, .int .i64 u4, .int .i64 q0, .int .i64 q1, .int .i64 q2, .int .i64 q3, .int .i64 0, .int .i64 0, .int .u64 0, .int .i64 0, .int .i64 0, .int .i64 0, .int .i64 0, .int .i64 0, .int .i64 0, .int .i64 0, .int .i64 0, .int .i64 0, .int .i64 0, .int .i64 0, .int .i64 0, .int .i64 0, .int .i64 0, .int .i64 0, .int .u64 0, .int .i64 0, .int .i64 0, .int .i64 0, .int .i64 0, .int .i64 0, .int .i64 0, .int .i64 0, .int .u64 0, .int .i64 0, .int .i64 0, .int .i64 0, .int .i64 0, .int .i64 0, .int .i64 0, .int .i64 0, .int .i64 0, .int .i64 0, .int .i64 0, .int .i64 0, .int .i64 0, .int .i64 0, .int .i64 0, .int .i64 0] 134)) = w3 := e3.symm
  rw [e4]
  clear e3 e4 hw3 T2 hb2 hsz h
  generalize wa.heap.size = p at B3 hz ⊢
  clear hs2
  have ft := T3.fit
  have rg := T3.rng
  have tp := T3.top
  have hz' := hz
  obtain ⟨L, eL, A, k⟩ := T3.went B3
  go_wp2_with (go_at_call 68; refine (cToGrey A).mono ?_; rintro e w4 ⟨rfl, A4, g4⟩; obtain ⟨R1, R2, R3⟩ := k A4 g4 ft rg tp; have c9 : w4.cell? ⟨p, 9, none⟩ = some (.int .i64 x.pc) := R2.cell 9; have f9 := R2.free 9; have cl := R2.lt)
  go_ret
  refine ⟨p, rfl, R1.set R2 9 _, ?_, O3.fresh (R3.trans (Oth.set _ _ _ _ (by simp))) hz', hz'⟩
  have := R2.set 9 (.int .i64 1)
  rw [← hx] at this
  exact this
end
end Go.Proofs.YtoablodmodnamaaDoor
