/-
  A step of the reference's Poll.
-/
import Derived.Test.YtoablodmodnamaaDoorKrq
namespace Go.Proofs.YtoablodmodnamaaDoor
set_option linter.unusedVariables false
set_option linter.unusedSimpArgs false
set_option maxRecDepth 100000
open Go.ChangeShapes Go.WideShapes Go.RowKit
open S.Plain (t0 t1 tw nx p0 p1 p2 p3 pw)
open H.Plain (hw pS pC pN pM pG pT pL)

section
variable {w0 w w' : World} {mb y p N : Nat} {s1 s2 : St} {b : RB} {x : PollS} {F : List Nat}
theorem yLoad (h : Two w0 w mb y s1 s2 N) (hN : N < 1000000) (a : Int) :
    Calls Tryd.prog 44 #[.pointer (some ⟨y, 0, none⟩), .int .i64 a] w fun e w' => e = .returned (.int .u64 (s2.got a)) ∧ Two w0 w' mb y s1 (s2.load a) (N + 1) ∧ Oth [] w w' := by
  have ht := h.top2
  have hc : s2.c < 1000000 := by omega
  have f := h.fit2
  have r := h.rng2
  obtain ⟨M, rfl, A, k⟩ := h.step2
  refine (rLoad A f hc a).mono ?_
  rintro e w' ⟨rfl, L', A', g⟩
  exact ⟨rfl, k A' g (f.load hc a) (r.load a) (by rw [St.c_load]; omega) (by omega)⟩
theorem nat_ne0 {n : Nat} (h : n ≠ 0) : ((n : Int) == 0) = false := by simpa using h
theorem TwoT.by1 {ow : Bool} {T : TypeId} {cs : Array Value} (h : TwoT ow w0 w mb y s1 s2 N) (B : Blk w0 w p T cs) (k : Kept [p] w w') : TwoT ow w0 w' mb y s1 s2 N :=
  h.kept k fun j hj => by simp at hj; subst hj; exact ⟨B.old, _, _, _, B.hT, B.at_⟩
set_option maxHeartbeats 1500000 in
theorem rp1 (h : Two w0 w mb y s1 s2 N) (B : Blk w0 w p 62 b.cells) (th : 0 ≤ b.th ∧ b.th ≤ 1000) (n8 : b.n ≤ 8) (hN : N < 1000000) (hpc : b.pc = 1) (hK : b.K = 0) :
    Calls Tryd.prog 19 #[pt p, pt y] w fun e w' => e = .returned (.bool (((PollS.mk (10 + b.th) b.own b.q b.al b.n b.l .look : PollS).next s2).wh.pc == 0)) ∧ Two w0 w' mb y s1 (s2.load 0) (N + 1) ∧ Oth [p] w w' ∧
      ∃ F', RPm w0 w' p F' ((PollS.mk (10 + b.th) b.own b.q b.al b.n b.l .look : PollS).next s2) ∧ ∀ j ∈ F', w.heap.size ≤ j := by
  have c6 : w.cell? ⟨p, 6, none⟩ = some (.int .i64 1) := (B.cell 6).trans (by show some (Value.int .i64 (b.pc : Int)) = _; rw [hpc]; rfl)
  have cl := B.lt
  have hr := h.rng2.got 0
  obtain ⟨v, hv⟩ : ∃ v, s2.got 0 = v := ⟨_, rfl⟩
  rw [hv] at hr
  by_cases h0 : (Ph.of v).no = b.own.no
  · have q0 : (p0 v == b.own.no) = true := beq_iff_eq.2 h0
    have hx : ((PollS.mk (10 + b.th) b.own b.q b.al b.n b.l .look : PollS).next s2) = PollS.mk (10 + b.th) b.own (Ph.of v) b.al b.n b.l .done := by simp only [PollS.next, hv, if_pos h0, if_true, if_false]
    rw [hx]
    obtain ⟨x', hx'⟩ : ∃ x' : PollS, PollS.mk (10 + b.th) b.own (Ph.of v) b.al b.n b.l .done = x' := ⟨_, rfl⟩
    rw [hx']
    have hd : (x'.wh.pc == 0) = true := by rw [← hx']; rfl
    rw [hd]
    have II : ∀ d : RB, d.U = b.U → d.th = b.th → d.own = b.own → d.q = Ph.of v → d.al = b.al → d.n = b.n → d.l = b.l → d.pc = x'.wh.pc → x'.wh.At d.K d.n → d.Is x' := fun d e1 e2 e3 e4 e5 e6 e7 e8 e9 => by
      subst hx'
      exact ⟨by rw [e2], by rw [e2]; exact th, e3, e4, e5, e6, e7, e8, e9⟩
    have hw : x'.wh = .done := by rw [← hx']
    clear hx hx' hd
    go_enter Tryd.func19, Tryd.ntmps19
    go_upto_region 4 with (first
      | (go_at_call 44; refine (yLoad h hN 0).mono ?_; rintro e w1 ⟨rfl, T1, o1⟩; rw [hv]; have B1 := B.oth o1 (by simp))
      | (go_at_call 51; refine (S.rOfPhase v hr.1 hr.2 _).mono ?_; rintro e w2 ⟨rfl, hw2⟩; have hb2 : Below w1.heap.size w1 w2 := (by rw [hw2]; go_grown); clear hw2; have B2 := B1.below hb2; have T2 := T1.below hb2; have o2 : Oth [p] w w2 := (o1.trans (Oth.below hb2)).mono (by simp); clear hb2; have x12 : w2.cell? ⟨p, 12, none⟩ = some (.int .i64 b.q.no) := B2.cell 12; have xf12 := B2.free 12; have x13 : w2.cell? ⟨p, 13, none⟩ = some (.int .i64 b.q.md) := B2.cell 13; have xf13 := B2.free 13; have x14 : w2.cell? ⟨p, 14, none⟩ = some (.int .i64 b.q.mr) := B2.cell 14; have xf14 := B2.free 14; have x15 : w2.cell? ⟨p, 15, none⟩ = some (.int .i64 b.q.ls) := B2.cell 15; have xf15 := B2.free 15; have xl := B2.lt))
    have T3 := ((((T2.set B2 12 (.int .i64 (p0 v))).set (B2.set 12 (.int .i64 (p0 v))) 13 (.int .i64 (p1 v))).set ((B2.set 12 (.int .i64 (p0 v))).set 13 (.int .i64 (p1 v))) 14 (.int .i64 (p2 v))).set (((B2.set 12 (.int .i64 (p0 v))).set 13 (.int .i64 (p1 v))).set 14 (.int .i64 (p2 v))) 15 (.int .i64 (p3 v)))
    have B3 : Blk w0 ((((w2.setCell ⟨p, 12, none⟩ (.int .i64 (p0 v))).setCell ⟨p, 13, none⟩ (.int .i64 (p1 v))).setCell ⟨p, 14, none⟩ (.int .i64 (p2 v))).setCell ⟨p, 15, none⟩ (.int .i64 (p3 v))) p 62 (b.asks (Ph.of v)).cells := ((((B2.set 12 (.int .i64 (p0 v))).set 13 (.int .i64 (p1 v))).set 14 (.int .i64 (p2 v))).set 15 (.int .i64 (p3 v)))
    have o3 : Oth [p] w ((((w2.setCell ⟨p, 12, none⟩ (.int .i64 (p0 v))).setCell ⟨p, 13, none⟩ (.int .i64 (p1 v))).setCell ⟨p, 14, none⟩ (.int .i64 (p2 v))).setCell ⟨p, 15, none⟩ (.int .i64 (p3 v))) := (((o2.trans (Oth.set w2 p 12 (.int .i64 (p0 v)) (by simp))).trans (Oth.set _ p 13 _ (by simp))).trans (Oth.set _ p 14 _ (by simp))).trans (Oth.set _ p 15 _ (by simp))
    clear x12 xf12 x13 xf13 x14 xf14 x15 xf15 xl
    generalize (((w2.setCell ⟨p, 12, none⟩ (.int .i64 (p0 v))).setCell ⟨p, 13, none⟩ (.int .i64 (p1 v))).setCell ⟨p, 14, none⟩ (.int .i64 (p2 v))).setCell ⟨p, 15, none⟩ (.int .i64 (p3 v)) = w3 at T3 B3 o3 ⊢
    have d6 : w3.cell? ⟨p, 6, none⟩ = some (.int .i64 b.pc) := B3.cell 6
    have df6 := B3.free 6
    have dl := B3.lt
    go_upto_region 5 with (fail)
    have T4 := T3.set B3 6 (.int .i64 5)
    have B4 : Blk w0 (w3.setCell ⟨p, 6, none⟩ (.int .i64 5)) p 62 ((b.asks (Ph.of v)).goto 5).cells := B3.set 6 (.int .i64 5)
    have o4 : Oth [p] w (w3.setCell ⟨p, 6, none⟩ (.int .i64 5)) := o3.trans (Oth.set _ p 6 _ (by simp))
    clear d6 df6 dl
    generalize w3.setCell ⟨p, 6, none⟩ (.int .i64 5) = w4 at T4 B4 o4 ⊢
    have e8 : w4.cell? ⟨p, 8, none⟩ = some (.int .i64 b.own.no) := B4.cell 8
    have e12 : w4.cell? ⟨p, 12, none⟩ = some (.int .i64 (p0 v)) := B4.cell 12
    have el := B4.lt
    go_quiet (fail)
    have hbq : Below w4.heap.size w4 (w4.drewN nq) := S.bdr (Below.refl w4.heap.size w4) nq
    have T5 := T4.below hbq
    have B5 := B4.below hbq
    have o5 := o4.trans (Oth.below (F := [p]) hbq)
    clear hbq e8 e12 el
    generalize w4.drewN nq = w5 at T5 B5 o5 ⊢
    have g6 : w5.cell? ⟨p, 6, none⟩ = some (.int .i64 5) := B5.cell 6
    have gf6 := B5.free 6
    have g13 : w5.cell? ⟨p, 13, none⟩ = some (.int .i64 (p1 v)) := B5.cell 13
    have gl := B5.lt
    go_wp2
    go_ret
    exact ⟨rfl, (T5.set B5 6 (.int .i64 0)), (o5.trans (Oth.set _ p 6 _ (by simp))), [], ⟨(b.asks (Ph.of v)).goto 0, (B5.set 6 (.int .i64 0)), II _ rfl rfl rfl rfl rfl rfl rfl (by rw [hw]; rfl) (by rw [hw]; trivial), by rw [hw]; rfl⟩, by simp⟩
  have q0 : (p0 v == b.own.no) = false := beq_eq_false_iff_ne.2 h0
  by_cases h1 : (Ph.of v).md = 2
  · have q1 : (p1 v == 2) = true := beq_iff_eq.2 h1
    have hx : ((PollS.mk (10 + b.th) b.own b.q b.al b.n b.l .look : PollS).next s2) = PollS.mk (10 + b.th) b.own (Ph.of v) b.al b.n b.l (toShade b.l b.n (p2 v) 0) := by simp only [PollS.next, hv, if_neg h0, if_pos h1, if_true, if_false]; rfl
    rw [hx]
    obtain ⟨x', hx'⟩ : ∃ x' : PollS, PollS.mk (10 + b.th) b.own (Ph.of v) b.al b.n b.l (toShade b.l b.n (p2 v) 0) = x' := ⟨_, rfl⟩
    rw [hx']
    have hd : (x'.wh.pc == 0) = false := by rw [← hx']; show (((toShade b.l b.n (p2 v) 0)).pc == 0) = false; unfold toShade; split <;> rfl
    rw [hd]
    have II : ∀ d : RB, d.U = b.U → d.th = b.th → d.own = b.own → d.q = Ph.of v → d.al = b.al → d.n = b.n → d.l = b.l → d.pc = x'.wh.pc → x'.wh.At d.K d.n → d.Is x' := fun d e1 e2 e3 e4 e5 e6 e7 e8 e9 => by
      subst hx'
      exact ⟨by rw [e2], by rw [e2]; exact th, e3, e4, e5, e6, e7, e8, e9⟩
    have hw : x'.wh = (toShade b.l b.n (p2 v) 0) := by rw [← hx']
    clear hx hx' hd
    go_enter Tryd.func19, Tryd.ntmps19
    go_upto_region 4 with (first
      | (go_at_call 44; refine (yLoad h hN 0).mono ?_; rintro e w1 ⟨rfl, T1, o1⟩; rw [hv]; have B1 := B.oth o1 (by simp))
      | (go_at_call 51; refine (S.rOfPhase v hr.1 hr.2 _).mono ?_; rintro e w2 ⟨rfl, hw2⟩; have hb2 : Below w1.heap.size w1 w2 := (by rw [hw2]; go_grown); clear hw2; have B2 := B1.below hb2; have T2 := T1.below hb2; have o2 : Oth [p] w w2 := (o1.trans (Oth.below hb2)).mono (by simp); clear hb2; have x12 : w2.cell? ⟨p, 12, none⟩ = some (.int .i64 b.q.no) := B2.cell 12; have xf12 := B2.free 12; have x13 : w2.cell? ⟨p, 13, none⟩ = some (.int .i64 b.q.md) := B2.cell 13; have xf13 := B2.free 13; have x14 : w2.cell? ⟨p, 14, none⟩ = some (.int .i64 b.q.mr) := B2.cell 14; have xf14 := B2.free 14; have x15 : w2.cell? ⟨p, 15, none⟩ = some (.int .i64 b.q.ls) := B2.cell 15; have xf15 := B2.free 15; have xl := B2.lt))
    have T3 := ((((T2.set B2 12 (.int .i64 (p0 v))).set (B2.set 12 (.int .i64 (p0 v))) 13 (.int .i64 (p1 v))).set ((B2.set 12 (.int .i64 (p0 v))).set 13 (.int .i64 (p1 v))) 14 (.int .i64 (p2 v))).set (((B2.set 12 (.int .i64 (p0 v))).set 13 (.int .i64 (p1 v))).set 14 (.int .i64 (p2 v))) 15 (.int .i64 (p3 v)))
    have B3 : Blk w0 ((((w2.setCell ⟨p, 12, none⟩ (.int .i64 (p0 v))).setCell ⟨p, 13, none⟩ (.int .i64 (p1 v))).setCell ⟨p, 14, none⟩ (.int .i64 (p2 v))).setCell ⟨p, 15, none⟩ (.int .i64 (p3 v))) p 62 (b.asks (Ph.of v)).cells := ((((B2.set 12 (.int .i64 (p0 v))).set 13 (.int .i64 (p1 v))).set 14 (.int .i64 (p2 v))).set 15 (.int .i64 (p3 v)))
    have o3 : Oth [p] w ((((w2.setCell ⟨p, 12, none⟩ (.int .i64 (p0 v))).setCell ⟨p, 13, none⟩ (.int .i64 (p1 v))).setCell ⟨p, 14, none⟩ (.int .i64 (p2 v))).setCell ⟨p, 15, none⟩ (.int .i64 (p3 v))) := (((o2.trans (Oth.set w2 p 12 (.int .i64 (p0 v)) (by simp))).trans (Oth.set _ p 13 _ (by simp))).trans (Oth.set _ p 14 _ (by simp))).trans (Oth.set _ p 15 _ (by simp))
    clear x12 xf12 x13 xf13 x14 xf14 x15 xf15 xl
    generalize (((w2.setCell ⟨p, 12, none⟩ (.int .i64 (p0 v))).setCell ⟨p, 13, none⟩ (.int .i64 (p1 v))).setCell ⟨p, 14, none⟩ (.int .i64 (p2 v))).setCell ⟨p, 15, none⟩ (.int .i64 (p3 v)) = w3 at T3 B3 o3 ⊢
    have d6 : w3.cell? ⟨p, 6, none⟩ = some (.int .i64 b.pc) := B3.cell 6
    have df6 := B3.free 6
    have dl := B3.lt
    go_upto_region 5 with (fail)
    have T4 := T3.set B3 6 (.int .i64 5)
    have B4 : Blk w0 (w3.setCell ⟨p, 6, none⟩ (.int .i64 5)) p 62 ((b.asks (Ph.of v)).goto 5).cells := B3.set 6 (.int .i64 5)
    have o4 : Oth [p] w (w3.setCell ⟨p, 6, none⟩ (.int .i64 5)) := o3.trans (Oth.set _ p 6 _ (by simp))
    clear d6 df6 dl
    generalize w3.setCell ⟨p, 6, none⟩ (.int .i64 5) = w4 at T4 B4 o4 ⊢
    have e8 : w4.cell? ⟨p, 8, none⟩ = some (.int .i64 b.own.no) := B4.cell 8
    have e12 : w4.cell? ⟨p, 12, none⟩ = some (.int .i64 (p0 v)) := B4.cell 12
    have el := B4.lt
    go_quiet (fail)
    have hbq : Below w4.heap.size w4 (w4.drewN nq) := S.bdr (Below.refl w4.heap.size w4) nq
    have T5 := T4.below hbq
    have B5 := B4.below hbq
    have o5 := o4.trans (Oth.below (F := [p]) hbq)
    clear hbq e8 e12 el
    generalize w4.drewN nq = w5 at T5 B5 o5 ⊢
    have g6 : w5.cell? ⟨p, 6, none⟩ = some (.int .i64 5) := B5.cell 6
    have gf6 := B5.free 6
    have g13 : w5.cell? ⟨p, 13, none⟩ = some (.int .i64 (p1 v)) := B5.cell 13
    have gl := B5.lt
    have hnz : x'.wh.pc ≠ 0 := by rw [hw]; unfold toShade; split <;> simp [Wh.pc]
    go_upto_region 30 with (go_at_call 52; refine (rGo2 B5 n8 (show b.K ≤ b.n by omega) II (show x'.wh = toShade b.l b.n (p2 v) b.K by rw [hK]; exact hw) T5.bel.size).mono ?_; rintro e w6 ⟨rfl, k6, H6⟩)
    have T6 := T5.by1 B5 k6
    have o6 := o5.trans (Oth.kept (k6.mono (by simp)))
    obtain ⟨F', M6, hF⟩ := H6
    have M6' := M6
    obtain ⟨b', B', I', f'⟩ := M6'
    have z6 : w6.cell? ⟨p, 6, none⟩ = some (.int .i64 b'.pc) := B'.cell 6
    have zl := B'.lt
    have hq0 : ((b'.pc : Int) == 0) = false := by rw [I'.pc]; exact nat_ne0 hnz
    go_wp2
    go_ret
    exact ⟨rfl, T6, o6, F', M6, fun j hj => Nat.le_trans o5.size (hF j hj)⟩
  have q1 : (p1 v == 2) = false := beq_eq_false_iff_ne.2 h1
  by_cases h2 : (Ph.of v).md = 5
  · have q2 : (p1 v == 5) = true := beq_iff_eq.2 h2
    have hx : ((PollS.mk (10 + b.th) b.own b.q b.al b.n b.l .look : PollS).next s2) = PollS.mk (10 + b.th) b.own (Ph.of v) b.al b.n b.l .alpha := by simp only [PollS.next, hv, if_neg h0, if_neg h1, if_pos h2, if_true, if_false]
    rw [hx]
    obtain ⟨x', hx'⟩ : ∃ x' : PollS, PollS.mk (10 + b.th) b.own (Ph.of v) b.al b.n b.l .alpha = x' := ⟨_, rfl⟩
    rw [hx']
    have hd : (x'.wh.pc == 0) = false := by rw [← hx']; rfl
    rw [hd]
    have II : ∀ d : RB, d.U = b.U → d.th = b.th → d.own = b.own → d.q = Ph.of v → d.al = b.al → d.n = b.n → d.l = b.l → d.pc = x'.wh.pc → x'.wh.At d.K d.n → d.Is x' := fun d e1 e2 e3 e4 e5 e6 e7 e8 e9 => by
      subst hx'
      exact ⟨by rw [e2], by rw [e2]; exact th, e3, e4, e5, e6, e7, e8, e9⟩
    have hw : x'.wh = .alpha := by rw [← hx']
    clear hx hx' hd
    go_enter Tryd.func19, Tryd.ntmps19
    go_upto_region 4 with (first
      | (go_at_call 44; refine (yLoad h hN 0).mono ?_; rintro e w1 ⟨rfl, T1, o1⟩; rw [hv]; have B1 := B.oth o1 (by simp))
      | (go_at_call 51; refine (S.rOfPhase v hr.1 hr.2 _).mono ?_; rintro e w2 ⟨rfl, hw2⟩; have hb2 : Below w1.heap.size w1 w2 := (by rw [hw2]; go_grown); clear hw2; have B2 := B1.below hb2; have T2 := T1.below hb2; have o2 : Oth [p] w w2 := (o1.trans (Oth.below hb2)).mono (by simp); clear hb2; have x12 : w2.cell? ⟨p, 12, none⟩ = some (.int .i64 b.q.no) := B2.cell 12; have xf12 := B2.free 12; have x13 : w2.cell? ⟨p, 13, none⟩ = some (.int .i64 b.q.md) := B2.cell 13; have xf13 := B2.free 13; have x14 : w2.cell? ⟨p, 14, none⟩ = some (.int .i64 b.q.mr) := B2.cell 14; have xf14 := B2.free 14; have x15 : w2.cell? ⟨p, 15, none⟩ = some (.int .i64 b.q.ls) := B2.cell 15; have xf15 := B2.free 15; have xl := B2.lt))
    have T3 := ((((T2.set B2 12 (.int .i64 (p0 v))).set (B2.set 12 (.int .i64 (p0 v))) 13 (.int .i64 (p1 v))).set ((B2.set 12 (.int .i64 (p0 v))).set 13 (.int .i64 (p1 v))) 14 (.int .i64 (p2 v))).set (((B2.set 12 (.int .i64 (p0 v))).set 13 (.int .i64 (p1 v))).set 14 (.int .i64 (p2 v))) 15 (.int .i64 (p3 v)))
    have B3 : Blk w0 ((((w2.setCell ⟨p, 12, none⟩ (.int .i64 (p0 v))).setCell ⟨p, 13, none⟩ (.int .i64 (p1 v))).setCell ⟨p, 14, none⟩ (.int .i64 (p2 v))).setCell ⟨p, 15, none⟩ (.int .i64 (p3 v))) p 62 (b.asks (Ph.of v)).cells := ((((B2.set 12 (.int .i64 (p0 v))).set 13 (.int .i64 (p1 v))).set 14 (.int .i64 (p2 v))).set 15 (.int .i64 (p3 v)))
    have o3 : Oth [p] w ((((w2.setCell ⟨p, 12, none⟩ (.int .i64 (p0 v))).setCell ⟨p, 13, none⟩ (.int .i64 (p1 v))).setCell ⟨p, 14, none⟩ (.int .i64 (p2 v))).setCell ⟨p, 15, none⟩ (.int .i64 (p3 v))) := (((o2.trans (Oth.set w2 p 12 (.int .i64 (p0 v)) (by simp))).trans (Oth.set _ p 13 _ (by simp))).trans (Oth.set _ p 14 _ (by simp))).trans (Oth.set _ p 15 _ (by simp))
    clear x12 xf12 x13 xf13 x14 xf14 x15 xf15 xl
    generalize (((w2.setCell ⟨p, 12, none⟩ (.int .i64 (p0 v))).setCell ⟨p, 13, none⟩ (.int .i64 (p1 v))).setCell ⟨p, 14, none⟩ (.int .i64 (p2 v))).setCell ⟨p, 15, none⟩ (.int .i64 (p3 v)) = w3 at T3 B3 o3 ⊢
    have d6 : w3.cell? ⟨p, 6, none⟩ = some (.int .i64 b.pc) := B3.cell 6
    have df6 := B3.free 6
    have dl := B3.lt
    go_upto_region 5 with (fail)
    have T4 := T3.set B3 6 (.int .i64 5)
    have B4 : Blk w0 (w3.setCell ⟨p, 6, none⟩ (.int .i64 5)) p 62 ((b.asks (Ph.of v)).goto 5).cells := B3.set 6 (.int .i64 5)
    have o4 : Oth [p] w (w3.setCell ⟨p, 6, none⟩ (.int .i64 5)) := o3.trans (Oth.set _ p 6 _ (by simp))
    clear d6 df6 dl
    generalize w3.setCell ⟨p, 6, none⟩ (.int .i64 5) = w4 at T4 B4 o4 ⊢
    have e8 : w4.cell? ⟨p, 8, none⟩ = some (.int .i64 b.own.no) := B4.cell 8
    have e12 : w4.cell? ⟨p, 12, none⟩ = some (.int .i64 (p0 v)) := B4.cell 12
    have el := B4.lt
    go_quiet (fail)
    have hbq : Below w4.heap.size w4 (w4.drewN nq) := S.bdr (Below.refl w4.heap.size w4) nq
    have T5 := T4.below hbq
    have B5 := B4.below hbq
    have o5 := o4.trans (Oth.below (F := [p]) hbq)
    clear hbq e8 e12 el
    generalize w4.drewN nq = w5 at T5 B5 o5 ⊢
    have g6 : w5.cell? ⟨p, 6, none⟩ = some (.int .i64 5) := B5.cell 6
    have gf6 := B5.free 6
    have g13 : w5.cell? ⟨p, 13, none⟩ = some (.int .i64 (p1 v)) := B5.cell 13
    have gl := B5.lt
    go_wp2
    go_ret
    exact ⟨rfl, (T5.set B5 6 (.int .i64 3)), (o5.trans (Oth.set _ p 6 _ (by simp))), [], ⟨(b.asks (Ph.of v)).goto 3, (B5.set 6 (.int .i64 3)), II _ rfl rfl rfl rfl rfl rfl rfl (by rw [hw]; rfl) (by rw [hw]; trivial), by rw [hw]; rfl⟩, by simp⟩
  have q2 : (p1 v == 5) = false := beq_eq_false_iff_ne.2 h2
  by_cases h3 : (Ph.of v).md = 8
  · have q3 : (p1 v == 8) = true := beq_iff_eq.2 h3
    have hx : ((PollS.mk (10 + b.th) b.own b.q b.al b.n b.l .look : PollS).next s2) = PollS.mk (10 + b.th) b.own (Ph.of v) b.al b.n b.l (toFix b.l b.n 0) := by simp only [PollS.next, hv, if_neg h0, if_neg h1, if_neg h2, if_pos h3, if_true, if_false]
    rw [hx]
    obtain ⟨x', hx'⟩ : ∃ x' : PollS, PollS.mk (10 + b.th) b.own (Ph.of v) b.al b.n b.l (toFix b.l b.n 0) = x' := ⟨_, rfl⟩
    rw [hx']
    have hd : (x'.wh.pc == 0) = false := by rw [← hx']; show (((toFix b.l b.n 0)).pc == 0) = false; unfold toFix; split <;> rfl
    rw [hd]
    have II : ∀ d : RB, d.U = b.U → d.th = b.th → d.own = b.own → d.q = Ph.of v → d.al = b.al → d.n = b.n → d.l = b.l → d.pc = x'.wh.pc → x'.wh.At d.K d.n → d.Is x' := fun d e1 e2 e3 e4 e5 e6 e7 e8 e9 => by
      subst hx'
      exact ⟨by rw [e2], by rw [e2]; exact th, e3, e4, e5, e6, e7, e8, e9⟩
    have hw : x'.wh = (toFix b.l b.n 0) := by rw [← hx']
    clear hx hx' hd
    go_enter Tryd.func19, Tryd.ntmps19
    go_upto_region 4 with (first
      | (go_at_call 44; refine (yLoad h hN 0).mono ?_; rintro e w1 ⟨rfl, T1, o1⟩; rw [hv]; have B1 := B.oth o1 (by simp))
      | (go_at_call 51; refine (S.rOfPhase v hr.1 hr.2 _).mono ?_; rintro e w2 ⟨rfl, hw2⟩; have hb2 : Below w1.heap.size w1 w2 := (by rw [hw2]; go_grown); clear hw2; have B2 := B1.below hb2; have T2 := T1.below hb2; have o2 : Oth [p] w w2 := (o1.trans (Oth.below hb2)).mono (by simp); clear hb2; have x12 : w2.cell? ⟨p, 12, none⟩ = some (.int .i64 b.q.no) := B2.cell 12; have xf12 := B2.free 12; have x13 : w2.cell? ⟨p, 13, none⟩ = some (.int .i64 b.q.md) := B2.cell 13; have xf13 := B2.free 13; have x14 : w2.cell? ⟨p, 14, none⟩ = some (.int .i64 b.q.mr) := B2.cell 14; have xf14 := B2.free 14; have x15 : w2.cell? ⟨p, 15, none⟩ = some (.int .i64 b.q.ls) := B2.cell 15; have xf15 := B2.free 15; have xl := B2.lt))
    have T3 := ((((T2.set B2 12 (.int .i64 (p0 v))).set (B2.set 12 (.int .i64 (p0 v))) 13 (.int .i64 (p1 v))).set ((B2.set 12 (.int .i64 (p0 v))).set 13 (.int .i64 (p1 v))) 14 (.int .i64 (p2 v))).set (((B2.set 12 (.int .i64 (p0 v))).set 13 (.int .i64 (p1 v))).set 14 (.int .i64 (p2 v))) 15 (.int .i64 (p3 v)))
    have B3 : Blk w0 ((((w2.setCell ⟨p, 12, none⟩ (.int .i64 (p0 v))).setCell ⟨p, 13, none⟩ (.int .i64 (p1 v))).setCell ⟨p, 14, none⟩ (.int .i64 (p2 v))).setCell ⟨p, 15, none⟩ (.int .i64 (p3 v))) p 62 (b.asks (Ph.of v)).cells := ((((B2.set 12 (.int .i64 (p0 v))).set 13 (.int .i64 (p1 v))).set 14 (.int .i64 (p2 v))).set 15 (.int .i64 (p3 v)))
    have o3 : Oth [p] w ((((w2.setCell ⟨p, 12, none⟩ (.int .i64 (p0 v))).setCell ⟨p, 13, none⟩ (.int .i64 (p1 v))).setCell ⟨p, 14, none⟩ (.int .i64 (p2 v))).setCell ⟨p, 15, none⟩ (.int .i64 (p3 v))) := (((o2.trans (Oth.set w2 p 12 (.int .i64 (p0 v)) (by simp))).trans (Oth.set _ p 13 _ (by simp))).trans (Oth.set _ p 14 _ (by simp))).trans (Oth.set _ p 15 _ (by simp))
    clear x12 xf12 x13 xf13 x14 xf14 x15 xf15 xl
    generalize (((w2.setCell ⟨p, 12, none⟩ (.int .i64 (p0 v))).setCell ⟨p, 13, none⟩ (.int .i64 (p1 v))).setCell ⟨p, 14, none⟩ (.int .i64 (p2 v))).setCell ⟨p, 15, none⟩ (.int .i64 (p3 v)) = w3 at T3 B3 o3 ⊢
    have d6 : w3.cell? ⟨p, 6, none⟩ = some (.int .i64 b.pc) := B3.cell 6
    have df6 := B3.free 6
    have dl := B3.lt
    go_upto_region 5 with (fail)
    have T4 := T3.set B3 6 (.int .i64 5)
    have B4 : Blk w0 (w3.setCell ⟨p, 6, none⟩ (.int .i64 5)) p 62 ((b.asks (Ph.of v)).goto 5).cells := B3.set 6 (.int .i64 5)
    have o4 : Oth [p] w (w3.setCell ⟨p, 6, none⟩ (.int .i64 5)) := o3.trans (Oth.set _ p 6 _ (by simp))
    clear d6 df6 dl
    generalize w3.setCell ⟨p, 6, none⟩ (.int .i64 5) = w4 at T4 B4 o4 ⊢
    have e8 : w4.cell? ⟨p, 8, none⟩ = some (.int .i64 b.own.no) := B4.cell 8
    have e12 : w4.cell? ⟨p, 12, none⟩ = some (.int .i64 (p0 v)) := B4.cell 12
    have el := B4.lt
    go_quiet (fail)
    have hbq : Below w4.heap.size w4 (w4.drewN nq) := S.bdr (Below.refl w4.heap.size w4) nq
    have T5 := T4.below hbq
    have B5 := B4.below hbq
    have o5 := o4.trans (Oth.below (F := [p]) hbq)
    clear hbq e8 e12 el
    generalize w4.drewN nq = w5 at T5 B5 o5 ⊢
    have g6 : w5.cell? ⟨p, 6, none⟩ = some (.int .i64 5) := B5.cell 6
    have gf6 := B5.free 6
    have g13 : w5.cell? ⟨p, 13, none⟩ = some (.int .i64 (p1 v)) := B5.cell 13
    have gl := B5.lt
    have hnz : x'.wh.pc ≠ 0 := by rw [hw]; unfold toFix; split <;> simp [Wh.pc]
    go_upto_region 30 with (go_at_call 52; refine (rGo4 B5 n8 (show b.K ≤ b.n by omega) II (show x'.wh = toFix b.l b.n b.K by rw [hK]; exact hw)).mono ?_; rintro e w6 ⟨rfl, k6, H6⟩)
    have T6 := T5.by1 B5 k6
    have o6 := o5.trans (Oth.kept (k6.mono (by simp)))
    have M6 := H6
    have M6' := M6
    obtain ⟨b', B', I', f'⟩ := M6'
    have z6 : w6.cell? ⟨p, 6, none⟩ = some (.int .i64 b'.pc) := B'.cell 6
    have zl := B'.lt
    have hq0 : ((b'.pc : Int) == 0) = false := by rw [I'.pc]; exact nat_ne0 hnz
    go_wp2
    go_ret
    exact ⟨rfl, T6, o6, [], M6, by simp⟩
  have q3 : (p1 v == 8) = false := beq_eq_false_iff_ne.2 h3
  have hx : ((PollS.mk (10 + b.th) b.own b.q b.al b.n b.l .look : PollS).next s2) = PollS.mk (10 + b.th) b.own (Ph.of v) b.al b.n b.l .tell := by simp only [PollS.next, hv, if_neg h0, if_neg h1, if_neg h2, if_neg h3, if_true, if_false]
  rw [hx]
  obtain ⟨x', hx'⟩ : ∃ x' : PollS, PollS.mk (10 + b.th) b.own (Ph.of v) b.al b.n b.l .tell = x' := ⟨_, rfl⟩
  rw [hx']
  have hd : (x'.wh.pc == 0) = false := by rw [← hx']; rfl
  rw [hd]
  have II : ∀ d : RB, d.U = b.U → d.th = b.th → d.own = b.own → d.q = Ph.of v → d.al = b.al → d.n = b.n → d.l = b.l → d.pc = x'.wh.pc → x'.wh.At d.K d.n → d.Is x' := fun d e1 e2 e3 e4 e5 e6 e7 e8 e9 => by
    subst hx'
    exact ⟨by rw [e2], by rw [e2]; exact th, e3, e4, e5, e6, e7, e8, e9⟩
  have hw : x'.wh = .tell := by rw [← hx']
  clear hx hx' hd
  go_enter Tryd.func19, Tryd.ntmps19
  go_upto_region 4 with (first
    | (go_at_call 44; refine (yLoad h hN 0).mono ?_; rintro e w1 ⟨rfl, T1, o1⟩; rw [hv]; have B1 := B.oth o1 (by simp))
    | (go_at_call 51; refine (S.rOfPhase v hr.1 hr.2 _).mono ?_; rintro e w2 ⟨rfl, hw2⟩; have hb2 : Below w1.heap.size w1 w2 := (by rw [hw2]; go_grown); clear hw2; have B2 := B1.below hb2; have T2 := T1.below hb2; have o2 : Oth [p] w w2 := (o1.trans (Oth.below hb2)).mono (by simp); clear hb2; have x12 : w2.cell? ⟨p, 12, none⟩ = some (.int .i64 b.q.no) := B2.cell 12; have xf12 := B2.free 12; have x13 : w2.cell? ⟨p, 13, none⟩ = some (.int .i64 b.q.md) := B2.cell 13; have xf13 := B2.free 13; have x14 : w2.cell? ⟨p, 14, none⟩ = some (.int .i64 b.q.mr) := B2.cell 14; have xf14 := B2.free 14; have x15 : w2.cell? ⟨p, 15, none⟩ = some (.int .i64 b.q.ls) := B2.cell 15; have xf15 := B2.free 15; have xl := B2.lt))
  have T3 := ((((T2.set B2 12 (.int .i64 (p0 v))).set (B2.set 12 (.int .i64 (p0 v))) 13 (.int .i64 (p1 v))).set ((B2.set 12 (.int .i64 (p0 v))).set 13 (.int .i64 (p1 v))) 14 (.int .i64 (p2 v))).set (((B2.set 12 (.int .i64 (p0 v))).set 13 (.int .i64 (p1 v))).set 14 (.int .i64 (p2 v))) 15 (.int .i64 (p3 v)))
  have B3 : Blk w0 ((((w2.setCell ⟨p, 12, none⟩ (.int .i64 (p0 v))).setCell ⟨p, 13, none⟩ (.int .i64 (p1 v))).setCell ⟨p, 14, none⟩ (.int .i64 (p2 v))).setCell ⟨p, 15, none⟩ (.int .i64 (p3 v))) p 62 (b.asks (Ph.of v)).cells := ((((B2.set 12 (.int .i64 (p0 v))).set 13 (.int .i64 (p1 v))).set 14 (.int .i64 (p2 v))).set 15 (.int .i64 (p3 v)))
  have o3 : Oth [p] w ((((w2.setCell ⟨p, 12, none⟩ (.int .i64 (p0 v))).setCell ⟨p, 13, none⟩ (.int .i64 (p1 v))).setCell ⟨p, 14, none⟩ (.int .i64 (p2 v))).setCell ⟨p, 15, none⟩ (.int .i64 (p3 v))) := (((o2.trans (Oth.set w2 p 12 (.int .i64 (p0 v)) (by simp))).trans (Oth.set _ p 13 _ (by simp))).trans (Oth.set _ p 14 _ (by simp))).trans (Oth.set _ p 15 _ (by simp))
  clear x12 xf12 x13 xf13 x14 xf14 x15 xf15 xl
  generalize (((w2.setCell ⟨p, 12, none⟩ (.int .i64 (p0 v))).setCell ⟨p, 13, none⟩ (.int .i64 (p1 v))).setCell ⟨p, 14, none⟩ (.int .i64 (p2 v))).setCell ⟨p, 15, none⟩ (.int .i64 (p3 v)) = w3 at T3 B3 o3 ⊢
  have d6 : w3.cell? ⟨p, 6, none⟩ = some (.int .i64 b.pc) := B3.cell 6
  have df6 := B3.free 6
  have dl := B3.lt
  go_upto_region 5 with (fail)
  have T4 := T3.set B3 6 (.int .i64 5)
  have B4 : Blk w0 (w3.setCell ⟨p, 6, none⟩ (.int .i64 5)) p 62 ((b.asks (Ph.of v)).goto 5).cells := B3.set 6 (.int .i64 5)
  have o4 : Oth [p] w (w3.setCell ⟨p, 6, none⟩ (.int .i64 5)) := o3.trans (Oth.set _ p 6 _ (by simp))
  clear d6 df6 dl
  generalize w3.setCell ⟨p, 6, none⟩ (.int .i64 5) = w4 at T4 B4 o4 ⊢
  have e8 : w4.cell? ⟨p, 8, none⟩ = some (.int .i64 b.own.no) := B4.cell 8
  have e12 : w4.cell? ⟨p, 12, none⟩ = some (.int .i64 (p0 v)) := B4.cell 12
  have el := B4.lt
  go_quiet (fail)
  have hbq : Below w4.heap.size w4 (w4.drewN nq) := S.bdr (Below.refl w4.heap.size w4) nq
  have T5 := T4.below hbq
  have B5 := B4.below hbq
  have o5 := o4.trans (Oth.below (F := [p]) hbq)
  clear hbq e8 e12 el
  generalize w4.drewN nq = w5 at T5 B5 o5 ⊢
  have g6 : w5.cell? ⟨p, 6, none⟩ = some (.int .i64 5) := B5.cell 6
  have gf6 := B5.free 6
  have g13 : w5.cell? ⟨p, 13, none⟩ = some (.int .i64 (p1 v)) := B5.cell 13
  have gl := B5.lt
  go_wp2
  go_ret
  exact ⟨rfl, T5, o5, [], ⟨(b.asks (Ph.of v)).goto 5, B5, II _ rfl rfl rfl rfl rfl rfl rfl (by rw [hw]; rfl) (by rw [hw]; trivial), by rw [hw]; rfl⟩, by simp⟩
set_option maxHeartbeats 1500000 in
theorem rp2 (h : Two w0 w mb y s1 s2 N) (B : Blk w0 w p 62 b.cells) (th : 0 ≤ b.th ∧ b.th ≤ 1000) (n8 : b.n ≤ 8) (hN : N < 1000000) {i v : Nat} {z : ShadeS} {g : Hd} {u : Int} (hpc : b.pc = 2) (hK : b.K = i) (hi : i < b.n) (hX : b.X = pt v) (Bv : Blk w0 w v 150 (z.rcells g u)) (rf : z.Rf g u) (ok : z.Ok) :
    Calls Tryd.prog 19 #[pt p, pt y] w fun e w' => e = .returned (.bool (((PollS.mk (10 + b.th) b.own b.q b.al b.n b.l (.shade i z) : PollS).next s2).wh.pc == 0)) ∧ Two w0 w' mb y s1 (z.mem s2) (N + 1) ∧ Oth [p, v] w w' ∧
      ∃ F', RPm w0 w' p F' ((PollS.mk (10 + b.th) b.own b.q b.al b.n b.l (.shade i z) : PollS).next s2) ∧ ∀ j ∈ F', j ∈ [v] ∨ w.heap.size ≤ j := by
  have c6 : w.cell? ⟨p, 6, none⟩ = some (.int .i64 2) := (B.cell 6).trans (by show some (Value.int .i64 (b.pc : Int)) = _; rw [hpc]; rfl)
  have cl := B.lt
  have c26 : w.cell? ⟨p, 26, none⟩ = some (pt v) := (B.cell 26).trans (by show some b.X = _; rw [hX])
  have vl := Bv.lt
  have hpv : p ≠ v := B.ne Bv (by decide)
  rcases hd : ((z.next s2).pc == 0) with _ | _
  · have hd' : (z.next s2).pc ≠ 0 := by simpa using hd
    have hx : ((PollS.mk (10 + b.th) b.own b.q b.al b.n b.l (.shade i z) : PollS).next s2) = PollS.mk (10 + b.th) b.own b.q b.al b.n b.l (.shade i (z.next s2)) := by simp only [PollS.next, if_neg hd']
    rw [hx]
    go_enter Tryd.func19, Tryd.ntmps19
    go_upto_region 15 with (go_at_call 53; refine (yShade h Bv rf ok hN).mono ?_; rintro e w1 ⟨rfl, T1, ⟨g1, u1, Bv1, rf1⟩, o1⟩; rw [hd]; have B1 := B.oth o1 (by simpa using hpv))
    have d6 : w1.cell? ⟨p, 6, none⟩ = some (.int .i64 2) := (B1.cell 6).trans (by show some (Value.int .i64 (b.pc : Int)) = _; rw [hpc]; rfl)
    have dl := B1.lt
    go_wp2
    go_ret
    exact ⟨rfl, T1, o1.mono (by simp), [v], ⟨b, B1, ⟨rfl, th, rfl, rfl, rfl, rfl, rfl, hpc, ⟨hK, hi⟩⟩, v, hX, rfl, g1, u1, Bv1, rf1⟩, by simp⟩
  · have hd' : (z.next s2).pc = 0 := by simpa using hd
    have hx : ((PollS.mk (10 + b.th) b.own b.q b.al b.n b.l (.shade i z) : PollS).next s2) = PollS.mk (10 + b.th) b.own b.q b.al b.n b.l (toShade b.l b.n b.q.mr (i + 1)) := by simp only [PollS.next, if_pos hd']
    rw [hx]
    obtain ⟨x', hx'⟩ : ∃ x' : PollS, PollS.mk (10 + b.th) b.own b.q b.al b.n b.l (toShade b.l b.n b.q.mr (i + 1)) = x' := ⟨_, rfl⟩
    rw [hx']
    have II : ∀ d : RB, d.U = b.U → d.th = b.th → d.own = b.own → d.q = b.q → d.al = b.al → d.n = b.n → d.l = b.l → d.pc = x'.wh.pc → x'.wh.At d.K d.n → d.Is x' := fun d e1 e2 e3 e4 e5 e6 e7 e8 e9 => by
      subst hx'
      exact ⟨by rw [e2], by rw [e2]; exact th, e3, e4, e5, e6, e7, e8, e9⟩
    have hw : x'.wh = toShade b.l b.n b.q.mr (i + 1) := by rw [← hx']
    have hnz : x'.wh.pc ≠ 0 := by rw [hw]; unfold toShade; split <;> simp [Wh.pc]
    have hdn : (x'.wh.pc == 0) = false := by simpa using hnz
    rw [hdn]
    clear hx hx' hdn
    obtain ⟨k, hk⟩ : ∃ k : Nat, i + 1 = k := ⟨_, rfl⟩
    have hki : (i : Int) + 1 = (k : Int) := by omega
    rw [hk] at hw
    go_enter Tryd.func19, Tryd.ntmps19
    go_upto_region 16 with (go_at_call 53; refine (yShade h Bv rf ok hN).mono ?_; rintro e w1 ⟨rfl, T1, ⟨g1, u1, Bv1, rf1⟩, o1⟩; rw [hd]; have B1 := B.oth o1 (by simpa using hpv))
    have d7 : w1.cell? ⟨p, 7, none⟩ = some (.int .i64 i) := (B1.cell 7).trans (by show some (Value.int .i64 (b.K : Int)) = _; rw [hK])
    have df7 := B1.free 7
    have dl := B1.lt
    go_upto_region 17 with (fail)
    have T2 := T1.set B1 7 (.int .i64 k)
    have B2 : Blk w0 (w1.setCell ⟨p, 7, none⟩ (.int .i64 k)) p 62 (b.at k).cells := B1.set 7 (.int .i64 k)
    have o2 : Oth [p, v] w (w1.setCell ⟨p, 7, none⟩ (.int .i64 k)) := (o1.mono (by simp)).trans (Oth.set _ p 7 _ (by simp))
    clear d7 df7 dl
    generalize w1.setCell ⟨p, 7, none⟩ (.int .i64 k) = w5 at T2 B2 o2 ⊢
    go_upto_region 30 with (go_at_call 52; refine (rGo2 B2 n8 (show k ≤ b.n by omega) II hw T2.bel.size).mono ?_; rintro e w6 ⟨rfl, k6, H6⟩)
    have T6 := T2.by1 B2 k6
    have o6 := o2.trans (Oth.kept (k6.mono (by simp)))
    obtain ⟨F', M6, hF⟩ := H6
    have M6' := M6
    obtain ⟨b', B', I', f'⟩ := M6'
    have z6 : w6.cell? ⟨p, 6, none⟩ = some (.int .i64 b'.pc) := B'.cell 6
    have zl := B'.lt
    have hq0 : ((b'.pc : Int) == 0) = false := by rw [I'.pc]; exact nat_ne0 hnz
    go_wp2
    go_ret
    exact ⟨rfl, T6, o6, F', M6, fun j hj => .inr (Nat.le_trans o2.size (hF j hj))⟩
set_option maxHeartbeats 1500000 in
theorem rp3 (h : Two w0 w mb y s1 s2 N) (B : Blk w0 w p 62 b.cells) (th : 0 ≤ b.th ∧ b.th ≤ 1000) (n8 : b.n ≤ 8) (hN : N < 1000000) (hpc : b.pc = 3) :
    Calls Tryd.prog 19 #[pt p, pt y] w fun e w' => e = .returned (.bool (((PollS.mk (10 + b.th) b.own b.q b.al b.n b.l .alpha : PollS).next s2).wh.pc == 0)) ∧ Two w0 w' mb y s1 (s2.load 9) (N + 1) ∧ Oth [p] w w' ∧
      ∃ F', RPm w0 w' p F' ((PollS.mk (10 + b.th) b.own b.q b.al b.n b.l .alpha : PollS).next s2) ∧ ∀ j ∈ F', w.heap.size ≤ j := by
  have c6 : w.cell? ⟨p, 6, none⟩ = some (.int .i64 3) := (B.cell 6).trans (by show some (Value.int .i64 (b.pc : Int)) = _; rw [hpc]; rfl)
  have cl := B.lt
  obtain ⟨v, hv⟩ : ∃ v, s2.got 9 = v := ⟨_, rfl⟩
  obtain ⟨u, hu⟩ : ∃ u, IntKind.i64.wrap v = u := ⟨_, rfl⟩
  have hx : ((PollS.mk (10 + b.th) b.own b.q b.al b.n b.l .alpha : PollS).next s2) = PollS.mk (10 + b.th) b.own b.q u b.n b.l .tell := by simp only [PollS.next, hv, hu]
  rw [hx]
  go_enter Tryd.func19, Tryd.ntmps19
  go_wp2_with (go_at_call 44; refine (yLoad h hN 9).mono ?_; rintro e w1 ⟨rfl, T1, o1⟩; rw [hv]; have B1 := B.oth o1 (by simp); have d6 : w1.cell? ⟨p, 6, none⟩ = some (.int .i64 b.pc) := B1.cell 6; have df6 := B1.free 6; have d16 : w1.cell? ⟨p, 16, none⟩ = some (.int .i64 b.al) := B1.cell 16; have df16 := B1.free 16; have dl := B1.lt)
  go_ret
  exact ⟨rfl, (T1.set B1 16 (.int .i64 u)).set (B1.set 16 (.int .i64 u)) 6 (.int .i64 5), ((o1.mono (by simp)).trans (Oth.set _ p 16 _ (by simp))).trans (Oth.set _ p 6 _ (by simp)), [], ⟨(b.knows u).goto 5, (B1.set 16 (.int .i64 u)).set 6 (.int .i64 5), ⟨rfl, th, rfl, rfl, rfl, rfl, rfl, rfl, trivial⟩, rfl⟩, by simp⟩
set_option maxHeartbeats 1500000 in
theorem rp4 (h : Two w0 w mb y s1 s2 N) (B : Blk w0 w p 62 b.cells) (th : 0 ≤ b.th ∧ b.th ≤ 1000) (n8 : b.n ≤ 8) (hN : N < 1000000) {k : Nat} (hpc : b.pc = 4) (hK : b.K = k) (hi : k < b.n) :
    Calls Tryd.prog 19 #[pt p, pt y] w fun e w' => e = .returned (.bool (((PollS.mk (10 + b.th) b.own b.q b.al b.n b.l (.fix k) : PollS).next s2).wh.pc == 0)) ∧ Two w0 w' mb y s1 (s2.load (b.l k)) (N + 1) ∧ Oth [p] w w' ∧
      ∃ F', RPm w0 w' p F' ((PollS.mk (10 + b.th) b.own b.q b.al b.n b.l (.fix k) : PollS).next s2) ∧ ∀ j ∈ F', w.heap.size ≤ j := by
  have c6 : w.cell? ⟨p, 6, none⟩ = some (.int .i64 4) := (B.cell 6).trans (by show some (Value.int .i64 (b.pc : Int)) = _; rw [hpc]; rfl)
  have cl := B.lt
  have c7 : w.cell? ⟨p, 7, none⟩ = some (.int .i64 k) := (B.cell 7).trans (by show some (Value.int .i64 (b.K : Int)) = _; rw [hK])
  have hk8 : k < 8 := by omega
  have hk0 : (0 : Int) ≤ (k : Int) ∧ (k : Int) < 8 := by omega
  obtain ⟨a, ha⟩ : ∃ a, b.l k = a := ⟨_, rfl⟩
  have ck : w.cell? ⟨p, 18 + k, none⟩ = some (.int .i64 a) := (B.cell _).trans ((b.root_at k hk8).trans (by rw [ha]))
  rw [ha]
  have hr := h.rng2.got a
  obtain ⟨v, hv⟩ : ∃ v, s2.got a = v := ⟨_, rfl⟩
  rw [hv] at hr
  obtain ⟨u, hu⟩ : ∃ u, mvd v a = u := ⟨_, rfl⟩
  have hu' : H.Plain.mv v a = u := hu
  have hx : ((PollS.mk (10 + b.th) b.own b.q b.al b.n b.l (.fix k) : PollS).next s2) = PollS.mk (10 + b.th) b.own b.q b.al b.n (lput b.l k u) (toFix (lput b.l k u) b.n (k + 1)) := by simp only [PollS.next, ha, hv, hu]
  rw [hx]
  obtain ⟨x', hx'⟩ : ∃ x' : PollS, PollS.mk (10 + b.th) b.own b.q b.al b.n (lput b.l k u) (toFix (lput b.l k u) b.n (k + 1)) = x' := ⟨_, rfl⟩
  rw [hx']
  have II : ∀ d : RB, d.U = b.U → d.th = b.th → d.own = b.own → d.q = b.q → d.al = b.al → d.n = b.n → d.l = lput b.l k u → d.pc = x'.wh.pc → x'.wh.At d.K d.n → d.Is x' := fun d e1 e2 e3 e4 e5 e6 e7 e8 e9 => by
    subst hx'
    exact ⟨by rw [e2], by rw [e2]; exact th, e3, e4, e5, e6, e7, e8, e9⟩
  have hw : x'.wh = toFix (lput b.l k u) b.n (k + 1) := by rw [← hx']
  have hnz : x'.wh.pc ≠ 0 := by rw [hw]; unfold toFix; split <;> simp [Wh.pc]
  have hdn : (x'.wh.pc == 0) = false := by simpa using hnz
  rw [hdn]
  clear hx hx' hdn
  obtain ⟨k1, hk1⟩ : ∃ k1 : Nat, k + 1 = k1 := ⟨_, rfl⟩
  have hki : (k : Int) + 1 = (k1 : Int) := by omega
  rw [hk1] at hw
  go_enter Tryd.func19, Tryd.ntmps19
  go_wp2_with (fail)
  go_quiet (fail)
  clear c7 ck c6 cl
  go_upto_region 23 with (fail)
  generalize hwd : w.drewN _ = wd
  have hbq : Below w.heap.size w wd := hwd ▸ S.bdr (Below.refl w.heap.size w) _
  have Td := h.below hbq
  have Bd := B.below hbq
  have od : Oth [p] w wd := Oth.below hbq
  clear hwd hbq
  have hld := Bd.lt
  have keep : ∀ w', Below wd.heap.size wd w' → w'.cell? ⟨p, 7, none⟩ = some (.int .i64 k) := fun w' hb => ((Bd.below hb).cell 7).trans (by show some (Value.int .i64 (b.K : Int)) = _; rw [hK])
  have hbd : Below wd.heap.size wd wd.drew := (Below.refl wd.heap.size wd).drew
  have RD := keep _ hbd
  go_region_held3 (fun w' => w'.cell? ⟨p, 7, none⟩ = some (.int .i64 k)) (first | assumption | exact RD | exact S3 | exact keep _ (by assumption))
    (first
      | (go_at_call 44; refine (yLoad (Td.below hbd) hN a).mono ?_; rintro e w1 ⟨rfl, T1, o1⟩; rw [hv]; have B1 := (Bd.below hbd).oth o1 (by simp); have S1 : w1.cell? ⟨p, 7, none⟩ = some (.int .i64 k) := (B1.cell 7).trans (by show some (Value.int .i64 (b.K : Int)) = _; rw [hK]))
      | (go_at_call 54; refine (H.rMoved v a hr.1 hr.2 _).mono ?_; rintro e w2 ⟨rfl, hw2⟩; rw [hu']; have hb2 : Below w1.heap.size w1 w2 := (by rw [hw2]; go_grown); clear hw2; have T2 := T1.below hb2; have B2 := B1.below hb2; have S2 : w2.cell? ⟨p, 7, none⟩ = some (.int .i64 k) := (B2.cell 7).trans (by show some (Value.int .i64 (b.K : Int)) = _; rw [hK]); have s18 : w2.cell? ⟨p, 18 + k, none⟩ = some (.int .i64 a) := (B2.cell _).trans ((b.root_at k hk8).trans (by rw [ha])); have sf18 := B2.free (18 + k); have sl2 := B2.lt; have S3 : (w2.setCell ⟨p, 18 + k, none⟩ (.int .i64 u)).cell? ⟨p, 7, none⟩ = some (.int .i64 k) := ((b.root_set k hk8 u ▸ B2.set (18 + k) (.int .i64 u) : Blk w0 (w2.setCell ⟨p, 18 + k, none⟩ (.int .i64 u)) p 62 (b.puts k u).cells).cell 7).trans (by show some (Value.int .i64 (b.K : Int)) = _; rw [hK])))
  have B3 : Blk w0 (w2.setCell ⟨p, 18 + k, none⟩ (.int .i64 u)) p 62 (b.puts k u).cells := b.root_set k hk8 u ▸ B2.set (18 + k) (.int .i64 u)
  have T3 := T2.set B2 (18 + k) (.int .i64 u)
  have o3 : Oth [p] w (w2.setCell ⟨p, 18 + k, none⟩ (.int .i64 u)) := (((od.trans (Oth.below hbd)).trans (o1.mono (by simp))).trans (Oth.below hb2)).trans (Oth.set _ p _ _ (by simp))
  clear S1 S2 S3 s18 sf18 sl2 keep RD
  generalize w2.setCell ⟨p, 18 + k, none⟩ (.int .i64 u) = w3 at T3 B3 o3 ⊢
  have d7 : w3.cell? ⟨p, 7, none⟩ = some (.int .i64 k) := (B3.cell 7).trans (by show some (Value.int .i64 (b.K : Int)) = _; rw [hK])
  have df7 := B3.free 7
  have dl := B3.lt
  go_upto_region 25 with (fail)
  have T4 := T3.set B3 7 (.int .i64 k1)
  have B4 : Blk w0 (w3.setCell ⟨p, 7, none⟩ (.int .i64 k1)) p 62 ((b.puts k u).at k1).cells := B3.set 7 (.int .i64 k1)
  have o4 : Oth [p] w (w3.setCell ⟨p, 7, none⟩ (.int .i64 k1)) := o3.trans (Oth.set _ p 7 _ (by simp))
  clear d7 df7 dl
  generalize w3.setCell ⟨p, 7, none⟩ (.int .i64 k1) = w5 at T4 B4 o4 ⊢
  go_upto_region 30 with (go_at_call 52; refine (rGo4 B4 n8 (show k1 ≤ b.n by omega) II hw).mono ?_; rintro e w6 ⟨rfl, k6, H6⟩)
  have T6 := T4.by1 B4 k6
  have o6 := o4.trans (Oth.kept (k6.mono (by simp)))
  have M6 := H6
  have M6' := M6
  obtain ⟨b', B', I', f'⟩ := M6'
  have z6 : w6.cell? ⟨p, 6, none⟩ = some (.int .i64 b'.pc) := B'.cell 6
  have zl := B'.lt
  have hq0 : ((b'.pc : Int) == 0) = false := by rw [I'.pc]; exact nat_ne0 hnz
  go_wp2
  go_ret
  exact ⟨rfl, T6, o6, [], M6, by simp⟩
set_option maxHeartbeats 1500000 in
theorem rp5 (h : Two w0 w mb y s1 s2 N) (B : Blk w0 w p 62 b.cells) (th : 0 ≤ b.th ∧ b.th ≤ 1000) (n8 : b.n ≤ 8) (hN : N < 1000000) (hpc : b.pc = 5) :
    Calls Tryd.prog 19 #[pt p, pt y] w fun e w' => e = .returned (.bool (((PollS.mk (10 + b.th) b.own b.q b.al b.n b.l .tell : PollS).next s2).wh.pc == 0)) ∧ Two w0 w' mb y s1 (s2.store (10 + b.th) (IntKind.u64.wrap b.q.no)) (N + 1) ∧ Oth [p] w w' ∧
      ∃ F', RPm w0 w' p F' ((PollS.mk (10 + b.th) b.own b.q b.al b.n b.l .tell : PollS).next s2) ∧ ∀ j ∈ F', w.heap.size ≤ j := by
  have c6 : w.cell? ⟨p, 6, none⟩ = some (.int .i64 5) := (B.cell 6).trans (by show some (Value.int .i64 (b.pc : Int)) = _; rw [hpc]; rfl)
  have cl := B.lt
  obtain ⟨u, hu⟩ : ∃ u, IntKind.u64.wrap b.q.no = u := ⟨_, rfl⟩
  have hU : U64 u := hu ▸ u64_wrap _
  rw [hu]
  have hx : ((PollS.mk (10 + b.th) b.own b.q b.al b.n b.l .tell : PollS).next s2) = PollS.mk (10 + b.th) b.q b.q b.al b.n b.l .done := rfl
  rw [hx]
  have keep : ∀ w', Below w.heap.size w w' → w'.cell? ⟨p, 0, none⟩ = some (.int .i64 b.U.th) ∧ w'.cell? ⟨p, 1, none⟩ = some (.int .i64 b.U.bl) ∧ w'.cell? ⟨p, 2, none⟩ = some (.int .i64 b.U.ta) ∧ w'.cell? ⟨p, 3, none⟩ = some (.int .i64 b.U.he) ∧ w'.cell? ⟨p, 4, none⟩ = some (.int .i64 b.U.si) ∧ w'.cell? ⟨p, 5, none⟩ = some (.int .i64 b.th) ∧ w'.cell? ⟨p, 12, none⟩ = some (.int .i64 b.q.no) := fun w' hb => ⟨(B.below hb).cell 0, (B.below hb).cell 1, (B.below hb).cell 2, (B.below hb).cell 3, (B.below hb).cell 4, (B.below hb).cell 5, (B.below hb).cell 12⟩
  have hbd : Below w.heap.size w w.drew := (Below.refl w.heap.size w).drew
  have RD := keep _ hbd
  have hT := (h.below hbd)
  go_enter Tryd.func19, Tryd.ntmps19
  go_wp2_with (fail)
  go_region_held3 (fun w' => w'.cell? ⟨p, 0, none⟩ = some (.int .i64 b.U.th) ∧ w'.cell? ⟨p, 1, none⟩ = some (.int .i64 b.U.bl) ∧ w'.cell? ⟨p, 2, none⟩ = some (.int .i64 b.U.ta) ∧ w'.cell? ⟨p, 3, none⟩ = some (.int .i64 b.U.he) ∧ w'.cell? ⟨p, 4, none⟩ = some (.int .i64 b.U.si) ∧ w'.cell? ⟨p, 5, none⟩ = some (.int .i64 b.th) ∧ w'.cell? ⟨p, 12, none⟩ = some (.int .i64 b.q.no)) (first | assumption | exact RD | exact keep _ (by assumption))
    (first
      | (go_at_call 45; refine (P.rAck _ _ _ _ _ b.th th.1 th.2 _).mono ?_; rintro e w1 ⟨rfl, hw1⟩; have hb1 : Below w.heap.size w w1 := (by rw [hw1]; exact bel_trans hbd ((Below.refl _ _).alloc (Nat.le_refl _) _)); clear hw1)
      | (go_at_call 39; refine (yStore (h.below hb1) hN (10 + b.th) hU).mono ?_; rintro e w2 ⟨rfl, T2, o2⟩; have B2 := (B.below hb1).oth o2 (by simp); have S2 : w2.cell? ⟨p, 0, none⟩ = some (.int .i64 b.U.th) ∧ w2.cell? ⟨p, 1, none⟩ = some (.int .i64 b.U.bl) ∧ w2.cell? ⟨p, 2, none⟩ = some (.int .i64 b.U.ta) ∧ w2.cell? ⟨p, 3, none⟩ = some (.int .i64 b.U.he) ∧ w2.cell? ⟨p, 4, none⟩ = some (.int .i64 b.U.si) ∧ w2.cell? ⟨p, 5, none⟩ = some (.int .i64 b.th) ∧ w2.cell? ⟨p, 12, none⟩ = some (.int .i64 b.q.no) := ⟨B2.cell 0, B2.cell 1, B2.cell 2, B2.cell 3, B2.cell 4, B2.cell 5, B2.cell 12⟩))
  clear keep RD
  have x6 : w2.cell? ⟨p, 6, none⟩ = some (.int .i64 b.pc) := B2.cell 6
  have xf6 := B2.free 6
  have x8 : w2.cell? ⟨p, 8, none⟩ = some (.int .i64 b.own.no) := B2.cell 8
  have xf8 := B2.free 8
  have x9 : w2.cell? ⟨p, 9, none⟩ = some (.int .i64 b.own.md) := B2.cell 9
  have xf9 := B2.free 9
  have x10 : w2.cell? ⟨p, 10, none⟩ = some (.int .i64 b.own.mr) := B2.cell 10
  have xf10 := B2.free 10
  have x11 : w2.cell? ⟨p, 11, none⟩ = some (.int .i64 b.own.ls) := B2.cell 11
  have xf11 := B2.free 11
  have x12 : w2.cell? ⟨p, 12, none⟩ = some (.int .i64 b.q.no) := B2.cell 12
  have xf12 := B2.free 12
  have x13 : w2.cell? ⟨p, 13, none⟩ = some (.int .i64 b.q.md) := B2.cell 13
  have xf13 := B2.free 13
  have x14 : w2.cell? ⟨p, 14, none⟩ = some (.int .i64 b.q.mr) := B2.cell 14
  have xf14 := B2.free 14
  have x15 : w2.cell? ⟨p, 15, none⟩ = some (.int .i64 b.q.ls) := B2.cell 15
  have xf15 := B2.free 15
  have xl := B2.lt
  have T3 := (((((T2.set B2 8 (.int .i64 b.q.no)).set (B2.set 8 (.int .i64 b.q.no)) 9 (.int .i64 b.q.md)).set ((B2.set 8 (.int .i64 b.q.no)).set 9 (.int .i64 b.q.md)) 10 (.int .i64 b.q.mr)).set (((B2.set 8 (.int .i64 b.q.no)).set 9 (.int .i64 b.q.md)).set 10 (.int .i64 b.q.mr)) 11 (.int .i64 b.q.ls)).set ((((B2.set 8 (.int .i64 b.q.no)).set 9 (.int .i64 b.q.md)).set 10 (.int .i64 b.q.mr)).set 11 (.int .i64 b.q.ls)) 6 (.int .i64 0))
  have B3 := (((((B2.set 8 (.int .i64 b.q.no)).set 9 (.int .i64 b.q.md)).set 10 (.int .i64 b.q.mr)).set 11 (.int .i64 b.q.ls)).set 6 (.int .i64 0))
  have B4 : Blk w0 (((((w2.setCell ⟨p, 8, none⟩ (.int .i64 b.q.no)).setCell ⟨p, 9, none⟩ (.int .i64 b.q.md)).setCell ⟨p, 10, none⟩ (.int .i64 b.q.mr)).setCell ⟨p, 11, none⟩ (.int .i64 b.q.ls)).setCell ⟨p, 6, none⟩ (.int .i64 0)) p 62 ((b.owns b.q).goto 0).cells := B3
  have o3 : Oth [p] w (((((w2.setCell ⟨p, 8, none⟩ (.int .i64 b.q.no)).setCell ⟨p, 9, none⟩ (.int .i64 b.q.md)).setCell ⟨p, 10, none⟩ (.int .i64 b.q.mr)).setCell ⟨p, 11, none⟩ (.int .i64 b.q.ls)).setCell ⟨p, 6, none⟩ (.int .i64 0)) := ((((((Oth.below hb1).trans (o2.mono (by simp))).trans (Oth.set _ p 8 _ (by simp))).trans (Oth.set _ p 9 _ (by simp))).trans (Oth.set _ p 10 _ (by simp))).trans (Oth.set _ p 11 _ (by simp))).trans (Oth.set _ p 6 _ (by simp))
  clear B3
  go_wp2
  go_ret
  refine ⟨rfl, T3, o3, [], ⟨(b.owns b.q).goto 0, B4, ⟨rfl, th, rfl, rfl, rfl, rfl, rfl, rfl, trivial⟩, rfl⟩, by simp⟩
/-- a step of the reference's Poll -/
theorem rPoll (h : Two w0 w mb y s1 s2 N) (M : RPm w0 w p F x) (ok : x.wh.Ok) (nd : x.wh.pc ≠ 0) (n8 : x.n ≤ 8) (hN : N < 1000000) :
    Calls Tryd.prog 19 #[pt p, pt y] w fun e w' => e = .returned (.bool ((x.next s2).wh.pc == 0)) ∧ Two w0 w' mb y s1 (x.mem s2) (N + 1) ∧ Oth (p :: F) w w' ∧
      ∃ F', RPm w0 w' p F' (x.next s2) ∧ ∀ j ∈ F', j ∈ F ∨ w.heap.size ≤ j := by
  obtain ⟨b, B, ⟨hack, th, hown, hq, hal, hn, hl, hpc, hK⟩, f⟩ := M
  obtain ⟨xa, xo, xq, xal, n, l, wh⟩ := x
  simp only at hack hown hq hal hn hl hpc hK f n8
  subst hack hown hq hal hn hl
  cases wh with
  | done => exact absurd rfl nd
  | look =>
    obtain rfl := (show F = [] from f)
    refine (rp1 h B th n8 hN hpc hK).mono ?_
    rintro e w' ⟨rfl, T1, o1, F', M', hF⟩
    exact ⟨rfl, T1, o1, F', M', fun j hj => .inr (hF j hj)⟩
  | shade i z =>
    obtain ⟨v, hX, rfl, g, u, Bv, rf⟩ := f
    refine (rp2 h B th n8 hN hpc hK.1 (hK.2) hX Bv rf ok).mono ?_
    rintro e w' ⟨rfl, T1, o1, F', M', hF⟩
    exact ⟨rfl, T1, o1, F', M', hF⟩
  | alpha =>
    obtain rfl := (show F = [] from f)
    refine (rp3 h B th n8 hN hpc).mono ?_
    rintro e w' ⟨rfl, T1, o1, F', M', hF⟩
    exact ⟨rfl, T1, o1, F', M', fun j hj => .inr (hF j hj)⟩
  | fix i =>
    obtain rfl := (show F = [] from f)
    refine (rp4 h B th n8 hN hpc hK.1 hK.2).mono ?_
    rintro e w' ⟨rfl, T1, o1, F', M', hF⟩
    exact ⟨rfl, T1, o1, F', M', fun j hj => .inr (hF j hj)⟩
  | tell =>
    obtain rfl := (show F = [] from f)
    refine (rp5 h B th n8 hN hpc).mono ?_
    rintro e w' ⟨rfl, T1, o1, F', M', hF⟩
    exact ⟨rfl, T1, o1, F', M', fun j hj => .inr (hF j hj)⟩
end
end Go.Proofs.YtoablodmodnamaaDoor
