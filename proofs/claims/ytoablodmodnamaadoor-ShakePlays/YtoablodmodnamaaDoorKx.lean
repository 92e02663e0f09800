/-
  A memory with a plan's box, a phase's, an Ask and a Poll, as a law has them.
-/
import Derived.Test.YtoablodmodnamaaDoorKw
namespace Go.Proofs.YtoablodmodnamaaDoor
set_option linter.unusedVariables false
set_option linter.unusedSimpArgs false
set_option maxRecDepth 100000
open Go.ChangeShapes Go.WideShapes Go.RowKit
open S.Plain (t0 t1 tw nx p0 p1 p2 p3 pw)
open H.Plain (hw pS pC pN pM pG pT pL)

def planC : Array Value := #[.int .i64 3, .int .i64 4, .int .i64 13, .int .i64 32, .int .i64 160]
def Ph.cells (q : Ph) : Array Value := #[.int .i64 q.no, .int .i64 q.md, .int .i64 q.mr, .int .i64 q.ls]
/-- the law's boxes and one Ask -/
structure Lw (ow : Bool) (w0 w : World) (mb y N : Nat) (s1 s2 : St) (qp qq za : Nat) (q : Ph) (a : AskS) : Prop where
  two : TwoT ow w0 w mb y s1 s2 N
  bp : Blk w0 w qp 32 planC
  bq : Blk w0 w qq 37 q.cells
  ask : AM w0 w za U34 a
structure Lm (ow : Bool) (w0 w : World) (mb y N : Nat) (s1 s2 : St) (qp qq za zb : Nat) (q : Ph) (a : AskS) (x : PollS) : Prop extends Lw ow w0 w mb y N s1 s2 qp qq za q a where
  poll : PM w0 w zb x
section
variable {ow : Bool} {w0 w w' : World} {mb y N p : Nat} {s1 s2 s1' s2' : St} {qp qq za zb : Nat} {q : Ph} {a : AskS} {x : PollS} {F : List Nat} {T : TypeId} {cs : Array Value}
theorem Lw.below (h : Lw ow w0 w mb y N s1 s2 qp qq za q a) (hb : Below w.heap.size w w') : Lw ow w0 w' mb y N s1 s2 qp qq za q a := ⟨h.two.below hb, h.bp.below hb, h.bq.below hb, Blk.below h.ask hb⟩
theorem Lm.below (h : Lm ow w0 w mb y N s1 s2 qp qq za zb q a x) (hb : Below w.heap.size w w') : Lm ow w0 w' mb y N s1 s2 qp qq za zb q a x := ⟨h.toLw.below hb, h.poll.below hb⟩
theorem Lw.moved (h : Lw ow w0 w mb y N s1 s2 qp qq za q a) {N' : Nat} (T : TwoT ow w0 w' mb y s1' s2' N') (o : Oth F w w') (hF : ∀ k ∈ F, k ≠ qp ∧ k ≠ qq ∧ k ≠ za) : Lw ow w0 w' mb y N' s1' s2' qp qq za q a :=
  ⟨T, h.bp.oth o (fun hh => (hF _ hh).1 rfl), h.bq.oth o (fun hh => (hF _ hh).2.1 rfl), Blk.oth h.ask o (fun hh => (hF _ hh).2.2 rfl)⟩
/-- the Ask steps -/
theorem lwAsk (h : Lw ow w0 w mb y N s1 s2 qp qq za q a) (ok : a.Ok) (h3 : a.N = 3) (hN : N < 1000000) :
    Calls Tryd.prog 13 #[pt za, pt mb] w fun e w' => e = .returned (.bool ((a.next s1).pc == 0)) ∧ Lw ow w0 w' mb y (N + 1) (a.mem s1) s2 qp qq za q (a.next s1) ∧ Oth [za] w w' := by
  refine (tAsk h.two h.ask ok (by rw [h3]; rfl) hN).mono ?_
  rintro e w' ⟨rfl, T1, A1, o⟩
  exact ⟨rfl, ⟨T1, h.bp.oth o (by simpa using h.bp.ne h.ask (by decide)), h.bq.oth o (by simpa using h.bq.ne h.ask (by decide)), A1⟩, o⟩
theorem lmAsk (h : Lm ow w0 w mb y N s1 s2 qp qq za zb q a x) (ok : a.Ok) (h3 : a.N = 3) (hN : N < 1000000) :
    Calls Tryd.prog 13 #[pt za, pt mb] w fun e w' => e = .returned (.bool ((a.next s1).pc == 0)) ∧ Lm ow w0 w' mb y (N + 1) (a.mem s1) s2 qp qq za zb q (a.next s1) x ∧ Oth [za] w w' := by
  refine (lwAsk h.toLw ok h3 hN).mono ?_
  rintro e w' ⟨rfl, L1, o⟩
  exact ⟨rfl, ⟨L1, h.poll.oth o (by simpa using h.poll.ne h.ask (by decide))⟩, o⟩
/-- a Poll beside steps -/
theorem lwPoll {p : Nat} (h : Lw ow w0 w mb y N s1 s2 qp qq za q a) (m : PM w0 w p x) (ok : x.wh.Ok) (nd : x.wh.pc ≠ 0) (n8 : x.n ≤ 8) (hN : N < 1000000) :
    Calls Tryd.prog 17 #[pt p, pt mb] w fun e w' => e = .returned (.bool ((x.next s1).wh.pc == 0)) ∧ Lw ow w0 w' mb y (N + 1) (x.mem s1) s2 qp qq za q a ∧ PM w0 w' p (x.next s1) ∧ Oth [p] w w' := by
  refine (tPoll h.two m ok nd n8 hN).mono ?_
  rintro e w' ⟨rfl, T1, m1, o⟩
  exact ⟨rfl, h.moved T1 o (by simpa using ⟨m.ne h.bp (by decide), m.ne h.bq (by decide), m.ne h.ask (by decide)⟩), m1, o⟩
theorem lmPoll (h : Lm ow w0 w mb y N s1 s2 qp qq za zb q a x) (ok : x.wh.Ok) (nd : x.wh.pc ≠ 0) (n8 : x.n ≤ 8) (hN : N < 1000000) :
    Calls Tryd.prog 17 #[pt zb, pt mb] w fun e w' => e = .returned (.bool ((x.next s1).wh.pc == 0)) ∧ Lm ow w0 w' mb y (N + 1) (x.mem s1) s2 qp qq za zb q a (x.next s1) ∧ Oth [zb] w w' := by
  refine (lwPoll h.toLw h.poll ok nd n8 hN).mono ?_
  rintro e w' ⟨rfl, L1, m1, o⟩
  exact ⟨rfl, ⟨L1, m1⟩, o⟩
theorem lwLoad (h : Lw ow w0 w mb y N s1 s2 qp qq za q a) (hN : N < 1000000) (i : Int) :
    Calls Tryd.prog 31 #[pt mb, .int .i64 i] w fun e w' => e = .returned (.int .u64 (s1.got i)) ∧ Lw ow w0 w' mb y (N + 1) (s1.load i) s2 qp qq za q a ∧ Oth [] w w' := by
  refine (tLoad h.two hN i).mono ?_
  rintro e w' ⟨rfl, T1, o⟩
  exact ⟨rfl, h.moved T1 o (by simp), o⟩
theorem lwLoad2 (h : Lw true w0 w mb y N s1 s2 qp qq za q a) (hN : N < 1000000) (i : Int) :
    Calls Tryd.prog 31 #[pt y, .int .i64 i] w fun e w' => e = .returned (.int .u64 (s2.got i)) ∧ Lw true w0 w' mb y (N + 1) s1 (s2.load i) qp qq za q a ∧ Oth [] w w' := by
  refine (tLoad h.two.flip hN i).mono ?_
  rintro e w' ⟨rfl, T1, o⟩
  exact ⟨rfl, h.moved T1.flip o (by simp), o⟩
theorem lmClone (h : Lm ow w0 w mb y N s1 s2 qp qq za zb q a x) :
    Calls Tryd.prog 55 #[pt mb] w fun e w' => ∃ c, e = .returned (pt c) ∧ Lm true w0 w' mb c N s1 s1 qp qq za zb q a x ∧ Below w.heap.size w w' := by
  refine (duoClone h.two.one).mono ?_
  rintro e w' ⟨c, rfl, T1, hb⟩
  exact ⟨c, rfl, ⟨⟨T1, h.bp.below hb, h.bq.below hb, Blk.below h.ask hb⟩, h.poll.below hb⟩, hb⟩
end
theorem Lw.mono {ow : Bool} {w0 w : World} {mb y N N' : Nat} {s1 s2 : St} {qp qq za : Nat} {q : Ph} {a : AskS} (h : Lw ow w0 w mb y N s1 s2 qp qq za q a) (hN : N ≤ N') : Lw ow w0 w mb y N' s1 s2 qp qq za q a := ⟨h.two.mono hN, h.bp, h.bq, h.ask⟩
theorem Lm.mono {ow : Bool} {w0 w : World} {mb y N N' : Nat} {s1 s2 : St} {qp qq za zb : Nat} {q : Ph} {a : AskS} {x : PollS} (h : Lm ow w0 w mb y N s1 s2 qp qq za zb q a x) (hN : N ≤ N') : Lm ow w0 w mb y N' s1 s2 qp qq za zb q a x := ⟨h.toLw.mono hN, h.poll⟩
/-- two boxes made one behind the other -/
theorem blk2 {w0 w : World} (A : Obj) (cs : Array Value) {T : TypeId} (hs : w0.heap.size ≤ w.heap.size) (hT : T ∉ MTs) : Blk w0 ((w.alloc A).alloc (.cells cs T)) (w.heap.size + 1) T cs := by
  have h := heap_alloc_new (w.alloc A) (.cells cs T)
  have e : (w.alloc A).heap.size = w.heap.size + 1 := by simp
  rw [e] at h
  exact ⟨h, by omega, hT⟩
/-! ### words -/
theorem got_ws {s t : St} (h : s.ws = t.ws) (i : Int) : s.got i = t.got i := by
  have e1 : s.is1 i = t.is1 i := by unfold St.is1; rw [h]
  have e2 : s.word i = t.word i := by unfold St.word; rw [h]
  unfold St.got
  rw [e1, e2]
theorem ask1_mem (q : Ph) (N : Nat) (s : St) : (AskS.new q N).mem s = s.store 0 q.w := rfl
theorem ask1_next (q : Ph) (N : Nat) (s : St) : (AskS.new q N).next s = ⟨q, N, 2, 0⟩ := rfl
theorem In0 : In 0 := ⟨by omega, by omega⟩
/-- the phase is what was asked for -/
theorem asked (s : St) (h : s.ws.length = 160) (q : Ph) : (s.store 0 q.w).got 0 = q.w := by
  rw [In.got (n_store' h 0 _) In0, word_store h In0 In0, if_pos rfl]
theorem of_w (q : Ph) (h0 : 0 ≤ q.no ∧ q.no < 1099511627776) (h1 : 0 ≤ q.md ∧ q.md < 16) (h2 : 0 ≤ q.mr ∧ q.mr < 2) (h3 : 0 ≤ q.ls ∧ q.ls < 2) : Ph.of q.w = q := by
  obtain ⟨a, b, c, d⟩ := q
  simp only at h0 h1 h2 h3
  simp only [Ph.of, Ph.w, S.Plain.p0_pw, S.Plain.p1_pw, S.Plain.p2_pw, S.Plain.p3_pw, Ph.mk.injEq]
  refine ⟨?_, ?_, ?_, ?_⟩ <;> omega
theorem laidO_len (t : Nat → Bool) : ∀ i, (laidO t i).ws.length = 160
  | 0 => by simp [laidO, St.new]
  | i + 1 => n_store' (laidO_len t i) _ _
theorem laid_len (t : Nat → Bool) (al : Int) : (laidS t al).ws.length = 160 := n_store' (laidO_len t 16) _ _
end Go.Proofs.YtoablodmodnamaaDoor
