import Derived.Test.YtpcoldpphihfmaaGreatDoorYd
namespace Go.Proofs.YtpcoldpphihfmaaGreatDoor
set_option linter.unusedVariables false
set_option linter.unusedSimpArgs false
set_option maxRecDepth 100000
open Go.ChangeShapes Go.WideShapes Go.RowKit
open H.Plain (hw pS pC pN pM pG pT pL mv)
theorem fHd6 (q0 q1 q2 q3 q4 q5 q6 : Int) (w : World) : (Instr.field 40 (.agg #[.int .i64 q0, .int .i64 q1, .int .i64 q2, .int .i64 q3, .int .i64 q4, .int .i64 q5, .int .i64 q6]) 6).run Tryz.prog w = .ok (.int .i64 q6) w := by kernel_rfl
structure RC.On (d : RC) (q : Wq) : Prop where
 r : d.r = q.r
 lo : decide (d.e.md < 7) = q.lo
 fx : (d.e.md == 8) = q.fx
 o : d.o = Ou.zero
structure RC.Iw (d : RC) (q : Wq) (wl : Int) : Prop where
 on : d.On q
 wd : d.wide = wl
 f : d.f = Cw.fa q
 s : d.s = Cw.pa q wl
def SimC (w0 w : World) (d : RC) (F : List Nat) : Cw → Prop
 | .fin t o => d.pc = 0 ∧ d.sh = t ∧ d.o = o ∧ F = []
 | .hd q => d.pc = 1 ∧ d.sh = false ∧ F = [] ∧ d.On q
 | .a2 q wd => d.pc = 2 ∧ d.sh = false ∧ F = [] ∧ d.Iw q wd
 | .a3 q wd => d.pc = 3 ∧ d.sh = false ∧ F = [] ∧ d.Iw q wd
 | .a4 q wd w => d.pc = 4 ∧ d.sh = true ∧ F = [] ∧ d.Iw q wd ∧ d.w = w
 | .a5 q wd w => d.pc = 5 ∧ d.sh = true ∧ F = [] ∧ d.Iw q wd ∧ d.w = w
 | .a6 q wd st => d.pc = (if st = 1 then 6 else 8) ∧ d.sh = false ∧ F = [] ∧ d.Iw q wd ∧ d.stat = st
 | .a7 q wd st w => d.pc = 7 ∧ d.sh = true ∧ F = [] ∧ d.Iw q wd ∧ d.stat = st ∧ d.w = w
 | .a9 q wd w => d.pc = 9 ∧ d.sh = true ∧ F = [] ∧ d.Iw q wd ∧ d.w = w
 | .a11 q wd => d.pc = 11 ∧ d.sh = false ∧ F = [] ∧ d.Iw q wd
 | .a12 q wd w => d.pc = 12 ∧ d.sh = true ∧ F = [] ∧ d.Iw q wd ∧ d.w = w
 | .a13 q wd w l => d.pc = 13 ∧ d.sh = false ∧ F = [] ∧ d.Iw q wd ∧ d.w = w ∧ d.final = l
 | .a14 q wd w => d.pc = 14 ∧ d.sh = false ∧ F = [] ∧ d.Iw q wd ∧ d.w = w
 | .pl x => d.pc = 20 ∧ d.sh = x.hit ∧ ∃ px F', F = px :: F' ∧ d.x = pt px ∧ RPm w0 w px F' x
 | .dr t x => d.pc = 21 ∧ d.sh = t ∧ ∃ px F', F = px :: F' ∧ d.y = pt px ∧ RDm w0 w px F' x
def Yo (w0 w : World) (b y p : Nat) (s1 s' : St) (N : Nat) (x' : Cw) (e : Ending) (w' : World) : Prop :=
 e = .returned (.bool x'.done) ∧ ∃ d', XTo w0 w w' b y p s1 s' (N + 1) d' ∧ ∃ F', SimC w0 w' d' F' x' ∧ ∀ k ∈ F', w.heap.size ≤ k
section
variable {w0 w w' : World} {b y p : Nat} {s1 s2 s' : St} {N : Nat} {d d' : RC} {q : Wq} {wd : Int} {x' : Cw}
theorem yo {t : Bool} (hd : x'.done = t) (T : XTo w0 w w' b y p s1 s' (N + 1) d') (S : SimC w0 w' d' [] x') : Yo w0 w b y p s1 s' N x' (.returned (.bool t)) w' := ⟨by rw [hd], d', T, [], S, by simp⟩
theorem RC.Iw.put (I : d.Iw q wd) (pc stat w final : Int) (x y : Value) (sh : Bool) : ({ d with pc := pc, stat := stat, w := w, final := final, x := x, y := y, sh := sh } : RC).Iw q wd := ⟨⟨I.on.r, I.on.lo, I.on.fx, I.on.o⟩, I.wd, I.f, I.s⟩
theorem byP_ne (t : Int) : (byP t == 0) = false := by unfold byP; (repeat' split) <;> rfl
theorem sim_by {t : Int} (I : d'.Iw q wd) (hp : d'.pc = byP t) (hs : d'.sh = false) (ht : d'.stat = t) : SimC w0 w' d' [] (Cw.by_ q wd t) ∧ (Cw.by_ q wd t).done = false := by
 unfold byP at hp
 unfold Cw.by_
 by_cases h0 : t = 0
 ·rw [if_pos h0] at hp ⊢; exact ⟨⟨hp, hs, rfl, I⟩, rfl⟩
 ·rw [if_neg h0] at hp ⊢
  by_cases h1 : t = 1
  ·rw [if_pos h1] at hp ⊢; exact ⟨⟨hp, hs, rfl, I, ht.trans h1⟩, rfl⟩
  ·rw [if_neg h1] at hp ⊢
   by_cases h2 : t = 2
   ·rw [if_pos h2] at hp ⊢; exact ⟨⟨hp, hs, rfl, I, ht.trans h2⟩, rfl⟩
   ·rw [if_neg h2] at hp ⊢; exact ⟨⟨hp, hs, rfl, I⟩, rfl⟩
theorem sim_go {pd : Nat} {base : Int} {fx t : Bool} (hop : d.r.op = 1 ∨ d.r.op = 2 ∨ d.r.op = 3) (D : Blk w0 w' pd 129 (RD.new (base + 1 + d.r.fd) d.r (hwC fx)).cells) (h1 : d'.pc = 21) (h2 : d'.sh = t) (h3 : d'.y = pt pd) (hr : d.r = q.r) (hfx : fx = q.fx) : SimC w0 w' d' [pd] (Cw.go t q base) := by
 unfold Cw.go
 rw [← hr, ← hfx]
 exact ⟨h1, h2, pd, [], rfl, h3, rdm_new D hop⟩
set_option maxHeartbeats 4000000
theorem ys0 (h : Two w0 w b y s1 s2 N) (B : Blk w0 w p 62 d.cells) (hpc : d.pc = 0) : Calls Tryz.prog 20 #[pt p, pt y] w fun e w' => e = .returned (.bool true) ∧ w' = w := by
 have c10 : w.cell? ⟨p, 10, none⟩ = some (.int .i64 0) := hpc ▸ B.cell 10
 have l := B.lt
 go_enter Tryz.func20, Tryz.ntmps20
 go_wp2
 go_ret
 exact ⟨rfl, rfl⟩
theorem ys2 (h : Two w0 w b y s1 s2 N) (B : Blk w0 w p 62 d.cells) (hN : N + 5 < 1000000) (hpc : d.pc = 2) (I : d.Iw q wd) (hok : q.r.Ok ∧ In12 wd) :
  Calls Tryz.prog 20 #[pt p, pt y] w fun e w' => Yo w0 w b y p s1 ((Cw.a2 q wd).mem s2) N ((Cw.a2 q wd).next s2) e w' := by
 obtain ⟨z, hz⟩ : ∃ z, s2.got d.s = z := ⟨_, rfl⟩
 have hU : U64 z := hz ▸ h.rng2.got _
 have em : (Cw.a2 q wd).mem s2 = s2.load d.s := by simp only [Cw.mem, I.s]
 have en : (Cw.a2 q wd).next s2 = Cw.by_ q wd z := by simp only [Cw.next, ← I.s, hz]
 rw [em, en]
 obtain ⟨bp, hbp⟩ : ∃ x, byP z = x := ⟨_, rfl⟩
 have hb0 : (bp == 0) = false := hbp ▸ byP_ne z
 have c10 : w.cell? ⟨p, 10, none⟩ = some (.int .i64 2) := hpc ▸ B.cell 10
 have c19 : w.cell? ⟨p, 19, none⟩ = some (.bool d.sh) := B.cell 19
 have f19 := B.free 19
 have lw := B.lt
 have t2 : XTo w0 w (w.setCell ⟨p, 19, none⟩ (.bool false)) b y p s1 s2 N ({ d with sh := false } : RC) := (⟨h, B, Oth.refl _ _⟩ : XTo w0 w w b y p s1 s2 N d).one 19 _ (B.r_sh false)
 refine viaQ fun Q k => ?_
 go_enter Tryz.func20, Tryz.ntmps20
 go_upto_region 4 with (fail)
 generalize w.setCell ⟨p, 19, none⟩ (.bool false) = w2 at t2 ⊢
 clear c10 c19 f19 lw
 have b2 := t2.blk
 have c10 : w2.cell? ⟨p, 10, none⟩ = some (.int .i64 2) := hpc ▸ b2.cell 10
 have c13 : w2.cell? ⟨p, 13, none⟩ = some (.int .i64 d.s) := b2.cell 13
 have lw2 := b2.lt
 go_upto_region 20 with (go_at_call 51; refine (yLoad t2.two (by omega) d.s).mono ?_; rintro e w3 ⟨rfl, h3, o3⟩; rw [hz]; have t3 := t2.mem h3 o3; have b3 := t3.blk; have z14 : w3.cell? ⟨p, 14, none⟩ = some (.int .u64 d.stat) := b3.cell 14; have zf14 := b3.free 14; have zl := b3.lt)
 have t4 := t3.one 14 (.int .u64 z) (t3.blk.r_stat z)
 generalize w3.setCell ⟨p, 14, none⟩ (.int .u64 z) = w4 at t4 ⊢
 have b4 := t4.blk
 clear c10 c13 lw2 z14 zf14 zl
 have c10 : w4.cell? ⟨p, 10, none⟩ = some (.int .i64 2) := hpc ▸ b4.cell 10
 have c14 : w4.cell? ⟨p, 14, none⟩ = some (.int .u64 z) := b4.cell 14
 have f10 := b4.free 10
 have lw4 := b4.lt
 go_wp2_with (go_at_call 53; refine (yBy z _).mono ?_; rintro e wk ⟨rfl, hwk⟩; rw [hwk, hbp]; clear hwk wk)
 have S := sim_by (w0 := w0) (w' := w4.setCell ⟨p, 10, none⟩ (.int .i64 bp)) (t := z) (I.put bp z d.w d.final d.x d.y false) hbp.symm rfl rfl
 exact k.out _ _ (yo S.2 (t4.one 10 _ (b4.r_pc bp)) S.1)
theorem ys3 (h : Two w0 w b y s1 s2 N) (B : Blk w0 w p 62 d.cells) (hN : N + 5 < 1000000) (hpc : d.pc = 3) (I : d.Iw q wd) (hok : q.r.Ok ∧ In12 wd) :
  Calls Tryz.prog 20 #[pt p, pt y] w fun e w' => Yo w0 w b y p s1 ((Cw.a3 q wd).mem s2) N ((Cw.a3 q wd).next s2) e w' := by
 obtain ⟨z, hz⟩ : ∃ z, s2.got d.f = z := ⟨_, rfl⟩
 have hU : U64 z := hz ▸ h.rng2.got _
 have hop : d.r.op = 1 ∨ d.r.op = 2 ∨ d.r.op = 3 := I.on.r ▸ hok.1.1
 obtain ⟨tl, htl⟩ : ∃ t, decide (toldP d.r z) = t := ⟨_, rfl⟩
 have htq : decide (Cw.told q z) = tl := by rw [← htl, I.on.r]; rfl
 obtain ⟨fz, hfz⟩ : ∃ t, F.Plain.froz z = t := ⟨_, rfl⟩
 have em : (Cw.a3 q wd).mem s2 = s2.load d.f := by simp only [Cw.mem, I.f]
 have en : (Cw.a3 q wd).next s2 = if fz then .a5 q wd z else if tl then Cw.tells true q z else .a4 q wd z := by simp only [Cw.next, ← I.f, hz, hfz, ← htq, decide_eq_true_eq]
 rw [em, en]
 have c10 : w.cell? ⟨p, 10, none⟩ = some (.int .i64 3) := hpc ▸ B.cell 10
 have c19 : w.cell? ⟨p, 19, none⟩ = some (.bool d.sh) := B.cell 19
 have f19 := B.free 19
 have lw := B.lt
 have t2 : XTo w0 w (w.setCell ⟨p, 19, none⟩ (.bool false)) b y p s1 s2 N ({ d with sh := false } : RC) := (⟨h, B, Oth.refl _ _⟩ : XTo w0 w w b y p s1 s2 N d).one 19 _ (B.r_sh false)
 refine viaQ fun Q k => ?_
 go_enter Tryz.func20, Tryz.ntmps20
 go_upto_region 4 with (fail)
 generalize w.setCell ⟨p, 19, none⟩ (.bool false) = w2 at t2 ⊢
 clear c10 c19 f19 lw
 have b2 := t2.blk
 have c10 : w2.cell? ⟨p, 10, none⟩ = some (.int .i64 3) := hpc ▸ b2.cell 10
 have c12 : w2.cell? ⟨p, 12, none⟩ = some (.int .i64 d.f) := b2.cell 12
 have lw2 := b2.lt
 go_upto_region 23 with (go_at_call 51; refine (yLoad t2.two (by omega) d.f).mono ?_; rintro e w3 ⟨rfl, h3, o3⟩; rw [hz]; have t3 := t2.mem h3 o3; have b3 := t3.blk; have z15 : w3.cell? ⟨p, 15, none⟩ = some (.int .u64 d.w) := b3.cell 15; have zf15 := b3.free 15; have zl := b3.lt)
 have t4 := t3.one 15 (.int .u64 z) (t3.blk.r_w z)
 generalize w3.setCell ⟨p, 15, none⟩ (.int .u64 z) = w4 at t4 ⊢
 have b4 := t4.blk
 clear c10 c12 lw2 z15 zf15 zl
 have c19 : w4.cell? ⟨p, 19, none⟩ = some (.bool false) := b4.cell 19
 have f19 := b4.free 19
 have lw4 := b4.lt
 go_upto_region 24 with (fail)
 have t5 := t4.one 19 (.bool true) (t4.blk.r_sh true)
 generalize w4.setCell ⟨p, 19, none⟩ (.bool true) = w5 at t5 ⊢
 have b5 := t5.blk
 clear c19 f19 lw4
 have c15 : w5.cell? ⟨p, 15, none⟩ = some (.int .u64 z) := b5.cell 15
 have lw5 := b5.lt
 go_upto_region 25 with (go_at_call 35; refine (F.rFrozen z hU.1 hU.2 _).mono ?_; rintro e wk ⟨rfl, hwk⟩; rw [hwk, hfz]; clear hwk wk)
 go_upto_region 26 with (go_at_call 54; refine (yTold b5 hop hU htl).mono ?_; rintro e w6 ⟨rfl, hb6⟩; have t6 := t5.below hb6; have b6 := t6.blk; clear hb6)
 clear c15 lw5
 have c10 : w6.cell? ⟨p, 10, none⟩ = some (.int .i64 3) := hpc ▸ b6.cell 10
 have f10 := b6.free 10
 have lw6 := b6.lt
 go_upto_region 27 with (fail)
 have t7 := t6.one 10 (.int .i64 4) (t6.blk.r_pc 4)
 generalize w6.setCell ⟨p, 10, none⟩ (.int .i64 4) = w7 at t7 ⊢
 have b7 := t7.blk
 clear c10 f10 lw6
 rcases fz with _ | _
 ·rcases tl with _ | _
  ·have c10 : w7.cell? ⟨p, 10, none⟩ = some (.int .i64 4) := b7.cell 10
   have ll := b7.lt
   go_wp2
   exact k.out _ _ (yo rfl t7 ⟨rfl, rfl, rfl, I.put _ _ _ _ _ _ _, rfl⟩)
  ·have c10 : w7.cell? ⟨p, 10, none⟩ = some (.int .i64 4) := b7.cell 10
   have f10 := b7.free 10
   have ll := b7.lt
   go_upto_region 31 with (fail)
   have t8 := t7.one 10 (.int .i64 0) (b7.r_pc 0)
   generalize w7.setCell ⟨p, 10, none⟩ (.int .i64 0) = w8 at t8 ⊢
   clear c10 f10 ll
   have b8 := t8.blk
   have c10 : w8.cell? ⟨p, 10, none⟩ = some (.int .i64 0) := b8.cell 10
   have c0 : w8.cell? ⟨p, 0, none⟩ = some (.int .i64 d.r.op) := b8.cell 0
   have c15 : w8.cell? ⟨p, 15, none⟩ = some (.int .u64 z) := b8.cell 15
   have ll := b8.lt
   rcases ho1 : (d.r.op == 1) with _ | _
   ·go_wp2
    exact k.out _ _ (yo rfl t8 ⟨rfl, rfl, by
     have e1 : ¬ q.r.op = 1 := by rw [← I.on.r]; simpa using ho1
     show d.o = _
     rw [if_neg e1]
     exact I.on.o, rfl⟩)
   ·go_wp2_with (go_at_call 30; refine (F.rOf z hU.1 hU.2 _).mono ?_; rintro e w9 ⟨rfl, hw9⟩; have hb9 : Below w8.heap.size w8 w9 := (by rw [hw9]; go_grown); have t9 := t8.below hb9; have b9 := t9.blk; have z21 : w9.cell? ⟨p, 21, none⟩ = some (.int .i64 d.o.v.k) := b9.cell 21; have z22 : w9.cell? ⟨p, 22, none⟩ = some (.int .i64 d.o.v.n) := b9.cell 22; have zf21 := b9.free 21; have zf22 := b9.free 22; have zl := b9.lt; have c10' : w9.cell? ⟨p, 10, none⟩ = some (.int .i64 0) := b9.cell 10; clear hw9 hb9)
    exact k.out _ _ (yo rfl (t9.kept (kept2 ..) (b9.r_ov (Vl.of z))) ⟨rfl, rfl, by
     have e1 : q.r.op = 1 := by rw [← I.on.r]; simpa using ho1
     show (⟨d.o.c, Vl.of z, d.o.y⟩ : Ou) = _
     rw [if_pos e1, I.on.o]
     rfl, rfl⟩)
 ·have c10 : w7.cell? ⟨p, 10, none⟩ = some (.int .i64 4) := b7.cell 10
  have f10 := b7.free 10
  have ll := b7.lt
  go_wp2
  exact k.out _ _ (yo rfl (t7.one 10 _ (b7.r_pc 5)) ⟨rfl, rfl, rfl, I.put _ _ _ _ _ _ _, rfl⟩)
variable {wz : Int}
theorem ys4 (h : Two w0 w b y s1 s2 N) (B : Blk w0 w p 62 d.cells) (hN : N + 5 < 1000000) (hpc : d.pc = 4) (I : d.Iw q wd) (hok : q.r.Ok ∧ In12 wd) (hw : d.w = wz) (hU : U64 wz) :
  Calls Tryz.prog 20 #[pt p, pt y] w fun e w' => Yo w0 w b y p s1 ((Cw.a4 q wd wz).mem s2) N ((Cw.a4 q wd wz).next s2) e w' := by
 subst hw
 obtain ⟨yw, hyw'⟩ : ∃ z, d.r.y.w = z := ⟨_, rfl⟩
 have hyw : F.Plain.word d.r.y.k d.r.y.n = yw := hyw'
 have hUy : U64 yw := hyw' ▸ Vl.u64 _
 have hyq : q.r.y.w = yw := by rw [← hyw', I.on.r]
 obtain ⟨okb, hokb⟩ : ∃ t, s2.ok1 d.f d.w = t := ⟨_, rfl⟩
 obtain ⟨ob, hob⟩ : ∃ t, (d.r.op == 3) = t := ⟨_, rfl⟩
 have hobq : (q.r.op == 3) = ob := by rw [← hob, I.on.r]
 have en1 : q.lo = true → (Cw.a4 q wd d.w).next s2 = if okb then Cw.wrote q else Cw.a3 q wd := fun e => by simp only [Cw.next, e, ← I.f, hyq, hokb, if_true]
 have em1 : q.lo = true → (Cw.a4 q wd d.w).mem s2 = s2.cas d.f d.w yw := fun e => by simp only [Cw.mem, e, ← I.f, hyq, if_true]
 have en0 : q.lo = false → (Cw.a4 q wd d.w).next s2 = Cw.a3 q wd := fun e => by simp only [Cw.next, e, Bool.false_eq_true, if_false]
 have em0 : q.lo = false → (Cw.a4 q wd d.w).mem s2 = s2.cas d.f d.w (F.Plain.fz d.w) := fun e => by simp only [Cw.mem, e, ← I.f, Bool.false_eq_true, if_false]
 rcases hlo : q.lo with _ | _
 ·have q7 : decide (d.e.md < 7) = false := I.on.lo.trans hlo
  rw [em0 hlo, en0 hlo]
  clear en1 em1 en0 em0
  have c10 : w.cell? ⟨p, 10, none⟩ = some (.int .i64 4) := hpc ▸ B.cell 10
  have c19 : w.cell? ⟨p, 19, none⟩ = some (.bool d.sh) := B.cell 19
  have f19 := B.free 19
  have lw := B.lt
  have t2 : XTo w0 w (w.setCell ⟨p, 19, none⟩ (.bool false)) b y p s1 s2 N ({ d with sh := false } : RC) := (⟨h, B, Oth.refl _ _⟩ : XTo w0 w w b y p s1 s2 N d).one 19 _ (B.r_sh false)
  refine viaQ fun Q k => ?_
  go_enter Tryz.func20, Tryz.ntmps20
  go_upto_region 4 with (fail)
  generalize w.setCell ⟨p, 19, none⟩ (.bool false) = w2 at t2 ⊢
  clear c10 c19 f19 lw
  have b2 := t2.blk
  have c10 : w2.cell? ⟨p, 10, none⟩ = some (.int .i64 4) := hpc ▸ b2.cell 10
  have f10 := b2.free 10
  have lw2 := b2.lt
  go_upto_region 35 with (fail)
  have t3 := t2.one 10 (.int .i64 3) (t2.blk.r_pc 3)
  generalize w2.setCell ⟨p, 10, none⟩ (.int .i64 3) = w3 at t3 ⊢
  have b3 := t3.blk
  clear c10 f10 lw2
  have c7 : w3.cell? ⟨p, 7, none⟩ = some (.int .i64 d.e.md) := b3.cell 7
  have lw3 := b3.lt
  go_upto_region 39 with (fail)
  clear c7 lw3
  have hbd : Below w3.heap.size w3 w3.drew := (Below.refl _ _).drew
  have tD := t3.below hbd
  refine wp_region_noPanic ?_
  refine wp_region_held_drew (S := fun w' => w'.cell? ⟨p, 12, none⟩ = some (.int .i64 d.f) ∧ w'.cell? ⟨p, 15, none⟩ = some (.int .u64 d.w)) (by kernel_rfl) ⟨tD.blk.cell 12, tD.blk.cell 15⟩ (fun hHeld => ?_)
  refine tkH (i := 0) 208 (pt y) rfl rfl ?_
  simp only [sA1, sA2, sA3]
  refine tkH (i := 1) 209 (pt p) rfl rfl ?_
  simp only [sA1, sA2, sA3]
  refine tkH (i := 2) 210 (pt p) rfl rfl ?_
  simp only [sA1, sA2, sA3]
  refine tkH (i := 3) 211 (.pointer (some ⟨p, 12, none⟩)) rfl rfl ?_
  simp only [sA1, sA2, sA3]
  refine tkH (i := 4) 212 (.int .i64 d.f) rfl rfl ?_
  simp only [sA1, sA2, sA3]
  refine tkH (i := 5) 213 (pt p) rfl rfl ?_
  simp only [sA1, sA2, sA3]
  refine tkH (i := 6) 214 (pt p) rfl rfl ?_
  simp only [sA1, sA2, sA3]
  refine tkH (i := 7) 215 (.pointer (some ⟨p, 15, none⟩)) rfl rfl ?_
  simp only [sA1, sA2, sA3]
  refine tkH (i := 8) 216 (.int .u64 d.w) rfl rfl ?_
  simp only [sA1, sA2, sA3]
  refine tkH (i := 9) 217 (pt p) rfl rfl ?_
  simp only [sA1, sA2, sA3]
  refine tkH (i := 10) 218 (pt p) rfl rfl ?_
  simp only [sA1, sA2, sA3]
  refine tkH (i := 11) 219 (.pointer (some ⟨p, 15, none⟩)) rfl rfl ?_
  simp only [sA1, sA2, sA3]
  refine tkH (i := 12) 220 (.int .u64 d.w) rfl rfl ?_
  simp only [sA1, sA2, sA3]
  refine rd1 13 rfl fun K hK => ?_
  go_simp
  refine (F.rFreeze d.w hU.1 hU.2 _).mono ?_
  rintro e wa ⟨rfl, hwa⟩
  subst hwa
  have ta := tD
  refine hK.out _ _ ⟨ta.blk.cell 12, ta.blk.cell 15⟩ (fun hHeld => ?_)
  clear hK K
  try simp only [Act.put, sA1, sA2, sA3]
  refine rd1 14 rfl fun K hK => ?_
  go_simp
  refine (yCAS ta.two (by omega) d.f d.w (u64_fz hU)).mono ?_
  rintro e w6 ⟨rfl, h5, o5⟩
  have tz := ta.mem h5 o5
  refine hK.out _ _ ⟨tz.blk.cell 12, tz.blk.cell 15⟩ (fun hHeld => ?_)
  clear hK K
  try simp only [Act.put, sA1, sA2, sA3]
  refine wpAnyH_done (by kernel_rfl) ?_ _
  refine NoPanic.normal ?_
  have c10 : w6.cell? ⟨p, 10, none⟩ = some (.int .i64 3) := tz.blk.cell 10
  have ll := tz.blk.lt
  go_wp2
  exact k.out _ _ (yo rfl tz ⟨rfl, rfl, rfl, I.put _ _ _ _ _ _ _⟩)
 ·have q7 : decide (d.e.md < 7) = true := I.on.lo.trans hlo
  rw [em1 hlo, en1 hlo]
  clear en1 em1 en0 em0
  have c10 : w.cell? ⟨p, 10, none⟩ = some (.int .i64 4) := hpc ▸ B.cell 10
  have c19 : w.cell? ⟨p, 19, none⟩ = some (.bool d.sh) := B.cell 19
  have f19 := B.free 19
  have lw := B.lt
  have t2 : XTo w0 w (w.setCell ⟨p, 19, none⟩ (.bool false)) b y p s1 s2 N ({ d with sh := false } : RC) := (⟨h, B, Oth.refl _ _⟩ : XTo w0 w w b y p s1 s2 N d).one 19 _ (B.r_sh false)
  refine viaQ fun Q k => ?_
  go_enter Tryz.func20, Tryz.ntmps20
  go_upto_region 4 with (fail)
  generalize w.setCell ⟨p, 19, none⟩ (.bool false) = w2 at t2 ⊢
  clear c10 c19 f19 lw
  have b2 := t2.blk
  have c10 : w2.cell? ⟨p, 10, none⟩ = some (.int .i64 4) := hpc ▸ b2.cell 10
  have f10 := b2.free 10
  have lw2 := b2.lt
  go_upto_region 35 with (fail)
  have t3 := t2.one 10 (.int .i64 3) (t2.blk.r_pc 3)
  generalize w2.setCell ⟨p, 10, none⟩ (.int .i64 3) = w3 at t3 ⊢
  have b3 := t3.blk
  clear c10 f10 lw2
  have c7 : w3.cell? ⟨p, 7, none⟩ = some (.int .i64 d.e.md) := b3.cell 7
  have lw3 := b3.lt
  go_upto_region 36 with (fail)
  clear c7 lw3
  have hbd : Below w3.heap.size w3 w3.drew := (Below.refl _ _).drew
  have tD := t3.below hbd
  refine wp_region_noPanic ?_
  refine wp_region_held_drew (S := fun w' => w'.cell? ⟨p, 12, none⟩ = some (.int .i64 d.f) ∧ w'.cell? ⟨p, 15, none⟩ = some (.int .u64 d.w) ∧ w'.cell? ⟨p, 5, none⟩ = some (.int .i64 d.r.y.k) ∧ w'.cell? ⟨p, 6, none⟩ = some (.int .i64 d.r.y.n)) (by kernel_rfl) ⟨tD.blk.cell 12, tD.blk.cell 15, tD.blk.cell 5, tD.blk.cell 6⟩ (fun hHeld => ?_)
  refine tkH (i := 0) 189 (pt y) rfl rfl ?_
  simp only [sA1, sA2, sA3]
  refine tkH (i := 1) 190 (pt p) rfl rfl ?_
  simp only [sA1, sA2, sA3]
  refine tkH (i := 2) 191 (pt p) rfl rfl ?_
  simp only [sA1, sA2, sA3]
  refine tkH (i := 3) 192 (.pointer (some ⟨p, 12, none⟩)) rfl rfl ?_
  simp only [sA1, sA2, sA3]
  refine tkH (i := 4) 193 (.int .i64 d.f) rfl rfl ?_
  simp only [sA1, sA2, sA3]
  refine tkH (i := 5) 194 (pt p) rfl rfl ?_
  simp only [sA1, sA2, sA3]
  refine tkH (i := 6) 195 (pt p) rfl rfl ?_
  simp only [sA1, sA2, sA3]
  refine tkH (i := 7) 196 (.pointer (some ⟨p, 15, none⟩)) rfl rfl ?_
  simp only [sA1, sA2, sA3]
  refine tkH (i := 8) 197 (.int .u64 d.w) rfl rfl ?_
  simp only [sA1, sA2, sA3]
  refine tkH (i := 9) 198 (pt p) rfl rfl ?_
  simp only [sA1, sA2, sA3]
  refine tkH (i := 10) 199 (pt p) rfl rfl ?_
  simp only [sA1, sA2, sA3]
  refine tkH (i := 11) 200 (pt p) rfl rfl ?_
  simp only [sA1, sA2, sA3]
  refine tkH (i := 12) 201 (.pointer (some ⟨p, 5, none⟩)) rfl rfl ?_
  simp only [sA1, sA2, sA3]
  refine tkH (i := 13) 202 (.agg #[.int .i64 d.r.y.k, .int .i64 d.r.y.n]) rfl rfl ?_
  simp only [sA1, sA2, sA3]
  refine rd1 14 rfl fun K hK => ?_
  go_simp
  refine (F.rWord d.r.y.k d.r.y.n _).mono ?_
  rintro e wa ⟨rfl, ma, hwa⟩
  rw [hyw]
  have hba : Below _ _ wa := (by rw [hwa]; exact F.bdr ((Below.refl _ _).alloc (Nat.le_refl _) _) _)
  have ta := tD.below hba
  clear hwa
  refine hK.out _ _ ⟨ta.blk.cell 12, ta.blk.cell 15, ta.blk.cell 5, ta.blk.cell 6⟩ (fun hHeld => ?_)
  clear hK K
  try simp only [Act.put, sA1, sA2, sA3]
  refine rd1 15 rfl fun K hK => ?_
  go_simp
  refine (yCAS ta.two (by omega) d.f d.w hUy).mono ?_
  rintro e wb ⟨rfl, h5, o5⟩
  rw [hokb]
  have tb := ta.mem h5 o5
  refine hK.out _ _ ⟨tb.blk.cell 12, tb.blk.cell 15, tb.blk.cell 5, tb.blk.cell 6⟩ (fun hHeld => ?_)
  clear hK K
  try simp only [Act.put, sA1, sA2, sA3]
  refine tkH (i := 16) 8 (.bool okb) rfl rfl ?_
  simp only [sA1, sA2, sA3]
  refine wpAnyH_done (by kernel_rfl) ?_ _
  refine NoPanic.normal ?_
  have b5 := tb.blk
  have c10 : wb.cell? ⟨p, 10, none⟩ = some (.int .i64 3) := b5.cell 10
  have ll := b5.lt
  rcases okb with _ | _
  ·go_wp2
   exact k.out _ _ (yo rfl tb ⟨rfl, rfl, rfl, I.put _ _ _ _ _ _ _⟩)
  ·go_wp2_with (go_at_call 56; refine (yWrote b5 hob).mono ?_; rintro e w6 ⟨rfl, K6, b6⟩; have c10' : w6.cell? ⟨p, 10, none⟩ = some (.int .i64 0) := b6.cell 10)
   exact k.out _ _ (yo rfl (tb.kept K6 b6) ⟨rfl, rfl, by
    show (⟨d.o.c, d.o.v, ob⟩ : Ou) = _
    rw [I.on.o, hobq]
    rfl, rfl⟩)
theorem ys9 (h : Two w0 w b y s1 s2 N) (B : Blk w0 w p 62 d.cells) (hN : N + 5 < 1000000) (hpc : d.pc = 9) (I : d.Iw q wd) (hok : q.r.Ok ∧ In12 wd) (hw : d.w = wz) (hU : U64 wz) :
  Calls Tryz.prog 20 #[pt p, pt y] w fun e w' => Yo w0 w b y p s1 ((Cw.a9 q wd wz).mem s2) N ((Cw.a9 q wd wz).next s2) e w' := by
 subst hw
 obtain ⟨yw, hyw'⟩ : ∃ z, d.r.y.w = z := ⟨_, rfl⟩
 have hyw : F.Plain.word d.r.y.k d.r.y.n = yw := hyw'
 have hUy : U64 yw := hyw' ▸ Vl.u64 _
 have hyq : q.r.y.w = yw := by rw [← hyw', I.on.r]
 obtain ⟨okb, hokb⟩ : ∃ t, s2.ok2 d.s 1 d.w = t := ⟨_, rfl⟩
 obtain ⟨ob, hob⟩ : ∃ t, (d.r.op == 3) = t := ⟨_, rfl⟩
 have hobq : (q.r.op == 3) = ob := by rw [← hob, I.on.r]
 have en1 : q.lo = true → (Cw.a9 q wd d.w).next s2 = if okb then Cw.wrote q else Cw.a2 q wd := fun e => by simp only [Cw.next, e, ← I.s, hyq, hokb, if_true]
 have em1 : q.lo = true → (Cw.a9 q wd d.w).mem s2 = s2.cas2 d.s 1 d.w 1 yw := fun e => by simp only [Cw.mem, e, ← I.s, hyq, if_true]
 have en0 : q.lo = false → (Cw.a9 q wd d.w).next s2 = Cw.a2 q wd := fun e => by simp only [Cw.next, e, Bool.false_eq_true, if_false]
 have em0 : q.lo = false → (Cw.a9 q wd d.w).mem s2 = s2.cas2 d.s 1 d.w 2 d.w := fun e => by simp only [Cw.mem, e, ← I.s, Bool.false_eq_true, if_false]
 rcases hlo : q.lo with _ | _
 ·have q7 : decide (d.e.md < 7) = false := I.on.lo.trans hlo
  rw [em0 hlo, en0 hlo]
  clear en1 em1 en0 em0
  have c10 : w.cell? ⟨p, 10, none⟩ = some (.int .i64 9) := hpc ▸ B.cell 10
  have c19 : w.cell? ⟨p, 19, none⟩ = some (.bool d.sh) := B.cell 19
  have f19 := B.free 19
  have lw := B.lt
  have t2 : XTo w0 w (w.setCell ⟨p, 19, none⟩ (.bool false)) b y p s1 s2 N ({ d with sh := false } : RC) := (⟨h, B, Oth.refl _ _⟩ : XTo w0 w w b y p s1 s2 N d).one 19 _ (B.r_sh false)
  refine viaQ fun Q k => ?_
  go_enter Tryz.func20, Tryz.ntmps20
  go_upto_region 4 with (fail)
  generalize w.setCell ⟨p, 19, none⟩ (.bool false) = w2 at t2 ⊢
  clear c10 c19 f19 lw
  have b2 := t2.blk
  have c10 : w2.cell? ⟨p, 10, none⟩ = some (.int .i64 9) := hpc ▸ b2.cell 10
  have f10 := b2.free 10
  have lw2 := b2.lt
  go_upto_region 63 with (fail)
  have t3 := t2.one 10 (.int .i64 2) (t2.blk.r_pc 2)
  generalize w2.setCell ⟨p, 10, none⟩ (.int .i64 2) = w3 at t3 ⊢
  have b3 := t3.blk
  clear c10 f10 lw2
  have c7 : w3.cell? ⟨p, 7, none⟩ = some (.int .i64 d.e.md) := b3.cell 7
  have lw3 := b3.lt
  go_upto_region 67 with (fail)
  clear c7 lw3
  have hbd : Below w3.heap.size w3 w3.drew := (Below.refl _ _).drew
  have tD := t3.below hbd
  refine wp_region_noPanic ?_
  refine wp_region_held_drew (S := fun w' => w'.cell? ⟨p, 13, none⟩ = some (.int .i64 d.s) ∧ w'.cell? ⟨p, 15, none⟩ = some (.int .u64 d.w)) (by kernel_rfl) ⟨tD.blk.cell 13, tD.blk.cell 15⟩ (fun hHeld => ?_)
  refine tkH (i := 0) 343 (pt y) rfl rfl ?_
  simp only [sA1, sA2, sA3]
  refine tkH (i := 1) 344 (pt p) rfl rfl ?_
  simp only [sA1, sA2, sA3]
  refine tkH (i := 2) 345 (pt p) rfl rfl ?_
  simp only [sA1, sA2, sA3]
  refine tkH (i := 3) 346 (.pointer (some ⟨p, 13, none⟩)) rfl rfl ?_
  simp only [sA1, sA2, sA3]
  refine tkH (i := 4) 347 (.int .i64 d.s) rfl rfl ?_
  simp only [sA1, sA2, sA3]
  refine tkH (i := 5) 348 (pt p) rfl rfl ?_
  simp only [sA1, sA2, sA3]
  refine tkH (i := 6) 349 (pt p) rfl rfl ?_
  simp only [sA1, sA2, sA3]
  refine tkH (i := 7) 350 (.pointer (some ⟨p, 15, none⟩)) rfl rfl ?_
  simp only [sA1, sA2, sA3]
  refine tkH (i := 8) 351 (.int .u64 d.w) rfl rfl ?_
  simp only [sA1, sA2, sA3]
  refine tkH (i := 9) 352 (pt p) rfl rfl ?_
  simp only [sA1, sA2, sA3]
  refine tkH (i := 10) 353 (pt p) rfl rfl ?_
  simp only [sA1, sA2, sA3]
  refine tkH (i := 11) 354 (.pointer (some ⟨p, 15, none⟩)) rfl rfl ?_
  simp only [sA1, sA2, sA3]
  refine tkH (i := 12) 355 (.int .u64 d.w) rfl rfl ?_
  simp only [sA1, sA2, sA3]
  refine rd1 13 rfl fun K hK => ?_
  go_simp
  refine (yCAS2 (x0 := 2) tD.two (by omega) d.s 1 d.w ⟨by decide, by decide⟩ hU).mono ?_
  rintro e w5 ⟨rfl, h5, o5⟩
  have tz := tD.mem h5 o5
  refine hK.out _ _ ⟨tz.blk.cell 13, tz.blk.cell 15⟩ (fun hHeld => ?_)
  clear hK K
  try simp only [Act.put, sA1, sA2, sA3]
  refine wpAnyH_done (by kernel_rfl) ?_ _
  refine NoPanic.normal ?_
  have c10 : w5.cell? ⟨p, 10, none⟩ = some (.int .i64 2) := tz.blk.cell 10
  have ll := tz.blk.lt
  go_wp2
  exact k.out _ _ (yo rfl tz ⟨rfl, rfl, rfl, I.put _ _ _ _ _ _ _⟩)
 ·have q7 : decide (d.e.md < 7) = true := I.on.lo.trans hlo
  rw [em1 hlo, en1 hlo]
  clear en1 em1 en0 em0
  have c10 : w.cell? ⟨p, 10, none⟩ = some (.int .i64 9) := hpc ▸ B.cell 10
  have c19 : w.cell? ⟨p, 19, none⟩ = some (.bool d.sh) := B.cell 19
  have f19 := B.free 19
  have lw := B.lt
  have t2 : XTo w0 w (w.setCell ⟨p, 19, none⟩ (.bool false)) b y p s1 s2 N ({ d with sh := false } : RC) := (⟨h, B, Oth.refl _ _⟩ : XTo w0 w w b y p s1 s2 N d).one 19 _ (B.r_sh false)
  refine viaQ fun Q k => ?_
  go_enter Tryz.func20, Tryz.ntmps20
  go_upto_region 4 with (fail)
  generalize w.setCell ⟨p, 19, none⟩ (.bool false) = w2 at t2 ⊢
  clear c10 c19 f19 lw
  have b2 := t2.blk
  have c10 : w2.cell? ⟨p, 10, none⟩ = some (.int .i64 9) := hpc ▸ b2.cell 10
  have f10 := b2.free 10
  have lw2 := b2.lt
  go_upto_region 63 with (fail)
  have t3 := t2.one 10 (.int .i64 2) (t2.blk.r_pc 2)
  generalize w2.setCell ⟨p, 10, none⟩ (.int .i64 2) = w3 at t3 ⊢
  have b3 := t3.blk
  clear c10 f10 lw2
  have c7 : w3.cell? ⟨p, 7, none⟩ = some (.int .i64 d.e.md) := b3.cell 7
  have lw3 := b3.lt
  go_upto_region 64 with (fail)
  clear c7 lw3
  have hbd : Below w3.heap.size w3 w3.drew := (Below.refl _ _).drew
  have tD := t3.below hbd
  refine wp_region_noPanic ?_
  refine wp_region_held_drew (S := fun w' => w'.cell? ⟨p, 13, none⟩ = some (.int .i64 d.s) ∧ w'.cell? ⟨p, 15, none⟩ = some (.int .u64 d.w) ∧ w'.cell? ⟨p, 5, none⟩ = some (.int .i64 d.r.y.k) ∧ w'.cell? ⟨p, 6, none⟩ = some (.int .i64 d.r.y.n)) (by kernel_rfl) ⟨tD.blk.cell 13, tD.blk.cell 15, tD.blk.cell 5, tD.blk.cell 6⟩ (fun hHeld => ?_)
  refine tkH (i := 0) 324 (pt y) rfl rfl ?_
  simp only [sA1, sA2, sA3]
  refine tkH (i := 1) 325 (pt p) rfl rfl ?_
  simp only [sA1, sA2, sA3]
  refine tkH (i := 2) 326 (pt p) rfl rfl ?_
  simp only [sA1, sA2, sA3]
  refine tkH (i := 3) 327 (.pointer (some ⟨p, 13, none⟩)) rfl rfl ?_
  simp only [sA1, sA2, sA3]
  refine tkH (i := 4) 328 (.int .i64 d.s) rfl rfl ?_
  simp only [sA1, sA2, sA3]
  refine tkH (i := 5) 329 (pt p) rfl rfl ?_
  simp only [sA1, sA2, sA3]
  refine tkH (i := 6) 330 (pt p) rfl rfl ?_
  simp only [sA1, sA2, sA3]
  refine tkH (i := 7) 331 (.pointer (some ⟨p, 15, none⟩)) rfl rfl ?_
  simp only [sA1, sA2, sA3]
  refine tkH (i := 8) 332 (.int .u64 d.w) rfl rfl ?_
  simp only [sA1, sA2, sA3]
  refine tkH (i := 9) 333 (pt p) rfl rfl ?_
  simp only [sA1, sA2, sA3]
  refine tkH (i := 10) 334 (pt p) rfl rfl ?_
  simp only [sA1, sA2, sA3]
  refine tkH (i := 11) 335 (pt p) rfl rfl ?_
  simp only [sA1, sA2, sA3]
  refine tkH (i := 12) 336 (.pointer (some ⟨p, 5, none⟩)) rfl rfl ?_
  simp only [sA1, sA2, sA3]
  refine tkH (i := 13) 337 (.agg #[.int .i64 d.r.y.k, .int .i64 d.r.y.n]) rfl rfl ?_
  simp only [sA1, sA2, sA3]
  refine rd1 14 rfl fun K hK => ?_
  go_simp
  refine (F.rWord d.r.y.k d.r.y.n _).mono ?_
  rintro e wa ⟨rfl, ma, hwa⟩
  rw [hyw]
  have hba : Below _ _ wa := (by rw [hwa]; exact F.bdr ((Below.refl _ _).alloc (Nat.le_refl _) _) _)
  have ta := tD.below hba
  clear hwa
  refine hK.out _ _ ⟨ta.blk.cell 13, ta.blk.cell 15, ta.blk.cell 5, ta.blk.cell 6⟩ (fun hHeld => ?_)
  clear hK K
  try simp only [Act.put, sA1, sA2, sA3]
  refine rd1 15 rfl fun K hK => ?_
  go_simp
  refine (yCAS2 (x0 := 1) ta.two (by omega) d.s 1 d.w ⟨by decide, by decide⟩ hUy).mono ?_
  rintro e wb ⟨rfl, h5, o5⟩
  rw [hokb]
  have tb := ta.mem h5 o5
  refine hK.out _ _ ⟨tb.blk.cell 13, tb.blk.cell 15, tb.blk.cell 5, tb.blk.cell 6⟩ (fun hHeld => ?_)
  clear hK K
  try simp only [Act.put, sA1, sA2, sA3]
  refine tkH (i := 16) 11 (.bool okb) rfl rfl ?_
  simp only [sA1, sA2, sA3]
  refine wpAnyH_done (by kernel_rfl) ?_ _
  refine NoPanic.normal ?_
  have b5 := tb.blk
  have c10 : wb.cell? ⟨p, 10, none⟩ = some (.int .i64 2) := b5.cell 10
  have ll := b5.lt
  rcases okb with _ | _
  ·go_wp2
   exact k.out _ _ (yo rfl tb ⟨rfl, rfl, rfl, I.put _ _ _ _ _ _ _⟩)
  ·go_wp2_with (go_at_call 56; refine (yWrote b5 hob).mono ?_; rintro e w6 ⟨rfl, K6, b6⟩; have c10' : w6.cell? ⟨p, 10, none⟩ = some (.int .i64 0) := b6.cell 10)
   exact k.out _ _ (yo rfl (tb.kept K6 b6) ⟨rfl, rfl, by
    show (⟨d.o.c, d.o.v, ob⟩ : Ou) = _
    rw [I.on.o, hobq]
    rfl, rfl⟩)
theorem ys5 (h : Two w0 w b y s1 s2 N) (B : Blk w0 w p 62 d.cells) (hN : N + 5 < 1000000) (hpc : d.pc = 5) (I : d.Iw q wd) (hok : q.r.Ok ∧ In12 wd) (hw : d.w = wz) (hU : U64 wz) :
  Calls Tryz.prog 20 #[pt p, pt y] w fun e w' => Yo w0 w b y p s1 ((Cw.a5 q wd wz).mem s2) N ((Cw.a5 q wd wz).next s2) e w' := by
 subst hw
 have em : (Cw.a5 q wd d.w).mem s2 = s2.cas2 d.s 0 0 1 (F.Plain.th d.w) := by simp only [Cw.mem, I.s]
 rw [em]
 have c10 : w.cell? ⟨p, 10, none⟩ = some (.int .i64 5) := hpc ▸ B.cell 10
 have c19 : w.cell? ⟨p, 19, none⟩ = some (.bool d.sh) := B.cell 19
 have f19 := B.free 19
 have lw := B.lt
 have t2 : XTo w0 w (w.setCell ⟨p, 19, none⟩ (.bool false)) b y p s1 s2 N ({ d with sh := false } : RC) := (⟨h, B, Oth.refl _ _⟩ : XTo w0 w w b y p s1 s2 N d).one 19 _ (B.r_sh false)
 refine viaQ fun Q k => ?_
 go_enter Tryz.func20, Tryz.ntmps20
 go_upto_region 4 with (fail)
 generalize w.setCell ⟨p, 19, none⟩ (.bool false) = w2 at t2 ⊢
 clear c10 c19 f19 lw
 have b2 := t2.blk
 have c10 : w2.cell? ⟨p, 10, none⟩ = some (.int .i64 5) := hpc ▸ b2.cell 10
 have lw2 := b2.lt
 go_upto_region 41 with (fail)
 clear c10 lw2
 have hbd : Below w2.heap.size w2 w2.drew := (Below.refl _ _).drew
 have tD := t2.below hbd
 refine wp_region_noPanic ?_
 refine wp_region_held_drew (S := fun w' => w'.cell? ⟨p, 13, none⟩ = some (.int .i64 d.s) ∧ w'.cell? ⟨p, 15, none⟩ = some (.int .u64 d.w)) (by kernel_rfl) ⟨tD.blk.cell 13, tD.blk.cell 15⟩ (fun hHeld => ?_)
 refine tkH (i := 0) 225 (pt y) rfl rfl ?_
 simp only [sA1, sA2, sA3]
 refine tkH (i := 1) 226 (pt p) rfl rfl ?_
 simp only [sA1, sA2, sA3]
 refine tkH (i := 2) 227 (pt p) rfl rfl ?_
 simp only [sA1, sA2, sA3]
 refine tkH (i := 3) 228 (.pointer (some ⟨p, 13, none⟩)) rfl rfl ?_
 simp only [sA1, sA2, sA3]
 refine tkH (i := 4) 229 (.int .i64 d.s) rfl rfl ?_
 simp only [sA1, sA2, sA3]
 refine tkH (i := 5) 230 (pt p) rfl rfl ?_
 simp only [sA1, sA2, sA3]
 refine tkH (i := 6) 231 (pt p) rfl rfl ?_
 simp only [sA1, sA2, sA3]
 refine tkH (i := 7) 232 (.pointer (some ⟨p, 15, none⟩)) rfl rfl ?_
 simp only [sA1, sA2, sA3]
 refine tkH (i := 8) 233 (.int .u64 d.w) rfl rfl ?_
 simp only [sA1, sA2, sA3]
 refine rd1 9 rfl fun K hK => ?_
 go_simp
 refine (F.rThaw d.w hU.1 hU.2 _).mono ?_
 rintro e wa ⟨rfl, hwa⟩
 subst hwa
 have ta := tD
 refine hK.out _ _ ⟨ta.blk.cell 13, ta.blk.cell 15⟩ (fun hHeld => ?_)
 clear hK K
 try simp only [Act.put, sA1, sA2, sA3]
 refine rd1 10 rfl fun K hK => ?_
 go_simp
 refine (yCAS2 (x0 := 1) ta.two (by omega) d.s 0 0 ⟨by decide, by decide⟩ (u64_th hU)).mono ?_
 rintro e w5 ⟨rfl, h5, o5⟩
 have tz := ta.mem h5 o5
 refine hK.out _ _ ⟨tz.blk.cell 13, tz.blk.cell 15⟩ (fun hHeld => ?_)
 clear hK K
 try simp only [Act.put, sA1, sA2, sA3]
 refine wpAnyH_done (by kernel_rfl) ?_ _
 refine NoPanic.normal ?_
 have b5 := tz.blk
 have c10 : w5.cell? ⟨p, 10, none⟩ = some (.int .i64 5) := hpc ▸ b5.cell 10
 have f10 := b5.free 10
 have ll := b5.lt
 go_wp2
 exact k.out _ _ (yo rfl (tz.one 10 _ (b5.r_pc 2)) ⟨rfl, rfl, rfl, I.put _ _ _ _ _ _ _⟩)
theorem ys14 (h : Two w0 w b y s1 s2 N) (B : Blk w0 w p 62 d.cells) (hN : N + 5 < 1000000) (hpc : d.pc = 14) (I : d.Iw q wd) (hok : q.r.Ok ∧ In12 wd) (hw : d.w = wz) (hU : U64 wz) :
  Calls Tryz.prog 20 #[pt p, pt y] w fun e w' => Yo w0 w b y p s1 ((Cw.a14 q wd wz).mem s2) N ((Cw.a14 q wd wz).next s2) e w' := by
 subst hw
 have em : (Cw.a14 q wd d.w).mem s2 = s2.cas2 d.s 2 d.w 3 d.w := by simp only [Cw.mem, I.s]
 rw [em]
 have c10 : w.cell? ⟨p, 10, none⟩ = some (.int .i64 14) := hpc ▸ B.cell 10
 have c19 : w.cell? ⟨p, 19, none⟩ = some (.bool d.sh) := B.cell 19
 have f19 := B.free 19
 have lw := B.lt
 have t2 : XTo w0 w (w.setCell ⟨p, 19, none⟩ (.bool false)) b y p s1 s2 N ({ d with sh := false } : RC) := (⟨h, B, Oth.refl _ _⟩ : XTo w0 w w b y p s1 s2 N d).one 19 _ (B.r_sh false)
 refine viaQ fun Q k => ?_
 go_enter Tryz.func20, Tryz.ntmps20
 go_upto_region 4 with (fail)
 generalize w.setCell ⟨p, 19, none⟩ (.bool false) = w2 at t2 ⊢
 clear c10 c19 f19 lw
 have b2 := t2.blk
 have c10 : w2.cell? ⟨p, 10, none⟩ = some (.int .i64 14) := hpc ▸ b2.cell 10
 have lw2 := b2.lt
 go_upto_region 77 with (fail)
 clear c10 lw2
 have hbd : Below w2.heap.size w2 w2.drew := (Below.refl _ _).drew
 have tD := t2.below hbd
 refine wp_region_noPanic ?_
 refine wp_region_held_drew (S := fun w' => w'.cell? ⟨p, 13, none⟩ = some (.int .i64 d.s) ∧ w'.cell? ⟨p, 15, none⟩ = some (.int .u64 d.w)) (by kernel_rfl) ⟨tD.blk.cell 13, tD.blk.cell 15⟩ (fun hHeld => ?_)
 refine tkH (i := 0) 411 (pt y) rfl rfl ?_
 simp only [sA1, sA2, sA3]
 refine tkH (i := 1) 412 (pt p) rfl rfl ?_
 simp only [sA1, sA2, sA3]
 refine tkH (i := 2) 413 (pt p) rfl rfl ?_
 simp only [sA1, sA2, sA3]
 refine tkH (i := 3) 414 (.pointer (some ⟨p, 13, none⟩)) rfl rfl ?_
 simp only [sA1, sA2, sA3]
 refine tkH (i := 4) 415 (.int .i64 d.s) rfl rfl ?_
 simp only [sA1, sA2, sA3]
 refine tkH (i := 5) 416 (pt p) rfl rfl ?_
 simp only [sA1, sA2, sA3]
 refine tkH (i := 6) 417 (pt p) rfl rfl ?_
 simp only [sA1, sA2, sA3]
 refine tkH (i := 7) 418 (.pointer (some ⟨p, 15, none⟩)) rfl rfl ?_
 simp only [sA1, sA2, sA3]
 refine tkH (i := 8) 419 (.int .u64 d.w) rfl rfl ?_
 simp only [sA1, sA2, sA3]
 refine tkH (i := 9) 420 (pt p) rfl rfl ?_
 simp only [sA1, sA2, sA3]
 refine tkH (i := 10) 421 (pt p) rfl rfl ?_
 simp only [sA1, sA2, sA3]
 refine tkH (i := 11) 422 (.pointer (some ⟨p, 15, none⟩)) rfl rfl ?_
 simp only [sA1, sA2, sA3]
 refine tkH (i := 12) 423 (.int .u64 d.w) rfl rfl ?_
 simp only [sA1, sA2, sA3]
 refine rd1 13 rfl fun K hK => ?_
 go_simp
 refine (yCAS2 (x0 := 3) tD.two (by omega) d.s 2 d.w ⟨by decide, by decide⟩ hU).mono ?_
 rintro e w5 ⟨rfl, h5, o5⟩
 have tz := tD.mem h5 o5
 refine hK.out _ _ ⟨tz.blk.cell 13, tz.blk.cell 15⟩ (fun hHeld => ?_)
 clear hK K
 try simp only [Act.put, sA1, sA2, sA3]
 refine wpAnyH_done (by kernel_rfl) ?_ _
 refine NoPanic.normal ?_
 have b5 := tz.blk
 have c10 : w5.cell? ⟨p, 10, none⟩ = some (.int .i64 14) := hpc ▸ b5.cell 10
 have f10 := b5.free 10
 have ll := b5.lt
 go_wp2
 exact k.out _ _ (yo rfl (tz.one 10 _ (b5.r_pc 2)) ⟨rfl, rfl, rfl, I.put _ _ _ _ _ _ _⟩)
theorem ys13 (h : Two w0 w b y s1 s2 N) (B : Blk w0 w p 62 d.cells) (hN : N + 5 < 1000000) {l : Int} (hpc : d.pc = 13) (I : d.Iw q wd) (hok : q.r.Ok ∧ In12 wd) (hw : d.w = wz) (hU : U64 wz) (hl : d.final = l) (hL : In12 l) :
  Calls Tryz.prog 20 #[pt p, pt y] w fun e w' => Yo w0 w b y p s1 ((Cw.a13 q wd wz l).mem s2) N ((Cw.a13 q wd wz l).next s2) e w' := by
 subst hw
 subst hl
 obtain ⟨fa, hfa⟩ : ∃ z, d.final + 1 + d.r.fd = z := ⟨_, rfl⟩
 have em : (Cw.a13 q wd d.w d.final).mem s2 = s2.cas fa 2 d.w := by simp only [Cw.mem, empW, ← hfa, I.on.r]
 have k1 := hok.1.2.2.2.1
 have k2 := hok.1.2.2.2.2
 rw [← I.on.r] at k1 k2
 have k3 := hL.1
 have k4 := hL.2
 have i1 : IntKind.i64.wrap (d.final + 1) = d.final + 1 := by rw [IntKind.wrap_i64]; omega
 have i2 : IntKind.i64.wrap (d.final + 1 + d.r.fd) = fa := by rw [IntKind.wrap_i64]; omega
 have i3 : IntKind.i64.wrap fa = fa := by rw [IntKind.wrap_i64]; omega
 rw [em]
 have c10 : w.cell? ⟨p, 10, none⟩ = some (.int .i64 13) := hpc ▸ B.cell 10
 have c19 : w.cell? ⟨p, 19, none⟩ = some (.bool d.sh) := B.cell 19
 have f19 := B.free 19
 have lw := B.lt
 have t2 : XTo w0 w (w.setCell ⟨p, 19, none⟩ (.bool false)) b y p s1 s2 N ({ d with sh := false } : RC) := (⟨h, B, Oth.refl _ _⟩ : XTo w0 w w b y p s1 s2 N d).one 19 _ (B.r_sh false)
 refine viaQ fun Q k => ?_
 go_enter Tryz.func20, Tryz.ntmps20
 go_upto_region 4 with (fail)
 generalize w.setCell ⟨p, 19, none⟩ (.bool false) = w2 at t2 ⊢
 clear c10 c19 f19 lw
 have b2 := t2.blk
 have c10 : w2.cell? ⟨p, 10, none⟩ = some (.int .i64 13) := hpc ▸ b2.cell 10
 have lw2 := b2.lt
 go_upto_region 74 with (fail)
 clear c10 lw2
 have hbd : Below w2.heap.size w2 w2.drew := (Below.refl _ _).drew
 have tD := t2.below hbd
 refine wp_region_noPanic ?_
 refine wp_region_held_drew (S := fun w' => w'.cell? ⟨p, 16, none⟩ = some (.int .i64 d.final) ∧ w'.cell? ⟨p, 2, none⟩ = some (.int .i64 d.r.fd) ∧ w'.cell? ⟨p, 15, none⟩ = some (.int .u64 d.w)) (by kernel_rfl) ⟨tD.blk.cell 16, tD.blk.cell 2, tD.blk.cell 15⟩ (fun hHeld => ?_)
 refine tkH (i := 0) 387 (pt y) rfl rfl ?_
 simp only [sA1, sA2, sA3]
 refine tkH (i := 1) 388 (pt p) rfl rfl ?_
 simp only [sA1, sA2, sA3]
 refine tkH (i := 2) 389 (pt p) rfl rfl ?_
 simp only [sA1, sA2, sA3]
 refine tkH (i := 3) 390 (.pointer (some ⟨p, 16, none⟩)) rfl rfl ?_
 simp only [sA1, sA2, sA3]
 refine tkH (i := 4) 391 (.int .i64 d.final) rfl rfl ?_
 simp only [sA1, sA2, sA3]
 refine tkH (i := 5) 392 (.int .i64 (d.final + 1)) rfl rfl ?_
 simp only [sA1, sA2, sA3]
 refine tkH (i := 6) 393 (pt p) rfl rfl ?_
 simp only [sA1, sA2, sA3]
 refine tkH (i := 7) 394 (pt p) rfl rfl ?_
 simp only [sA1, sA2, sA3]
 refine tkH (i := 8) 395 (pt p) rfl rfl ?_
 simp only [sA1, sA2, sA3]
 refine tkH (i := 9) 396 (.pointer (some ⟨p, 2, none⟩)) rfl rfl ?_
 simp only [sA1, sA2, sA3]
 refine tkH (i := 10) 397 (.int .i64 d.r.fd) rfl rfl ?_
 simp only [sA1, sA2, sA3]
 refine tkH (i := 11) 398 (.int .i64 fa) rfl rfl ?_
 simp only [sA1, sA2, sA3]
 refine tkH (i := 12) 399 (.agg #[.int .i64 2, .int .i64 0]) rfl rfl ?_
 simp only [sA1, sA2, sA3]
 refine tkH (i := 14) 401 (pt p) rfl rfl ?_
 simp only [sA1, sA2, sA3]
 refine tkH (i := 15) 402 (pt p) rfl rfl ?_
 simp only [sA1, sA2, sA3]
 refine tkH (i := 16) 403 (.pointer (some ⟨p, 15, none⟩)) rfl rfl ?_
 simp only [sA1, sA2, sA3]
 refine tkH (i := 17) 404 (.int .u64 d.w) rfl rfl ?_
 simp only [sA1, sA2, sA3]
 refine rd1 13 rfl fun K hK => ?_
 go_simp
 refine (F.rWord 2 0 _).mono ?_
 rintro e wa ⟨rfl, ma, hwa⟩
 rw [show F.Plain.word 2 0 = 2 by decide]
 have hba : Below _ _ wa := (by rw [hwa]; exact F.bdr ((Below.refl _ _).alloc (Nat.le_refl _) _) _)
 have ta := tD.below hba
 clear hwa
 refine hK.out _ _ ⟨ta.blk.cell 16, ta.blk.cell 2, ta.blk.cell 15⟩ (fun hHeld => ?_)
 clear hK K
 try simp only [Act.put, sA1, sA2, sA3]
 refine rd1 18 rfl fun K hK => ?_
 go_simp
 refine (yCAS ta.two (by omega) fa 2 hU).mono ?_
 rintro e w5 ⟨rfl, h5, o5⟩
 have tz := ta.mem h5 o5
 refine hK.out _ _ ⟨tz.blk.cell 16, tz.blk.cell 2, tz.blk.cell 15⟩ (fun hHeld => ?_)
 clear hK K
 try simp only [Act.put, sA1, sA2, sA3]
 refine wpAnyH_done (by kernel_rfl) ?_ _
 refine NoPanic.normal ?_
 have b5 := tz.blk
 have c10 : w5.cell? ⟨p, 10, none⟩ = some (.int .i64 13) := hpc ▸ b5.cell 10
 have f10 := b5.free 10
 have ll := b5.lt
 go_wp2
 exact k.out _ _ (yo rfl (tz.one 10 _ (b5.r_pc 14)) ⟨rfl, rfl, rfl, I.put _ _ _ _ _ _ _, rfl⟩)
theorem ys11 (h : Two w0 w b y s1 s2 N) (B : Blk w0 w p 62 d.cells) (hN : N + 5 < 1000000) (hpc : d.pc = 11) (I : d.Iw q wd) (hok : q.r.Ok ∧ In12 wd) :
  Calls Tryz.prog 20 #[pt p, pt y] w fun e w' => Yo w0 w b y p s1 ((Cw.a11 q wd).mem s2) N ((Cw.a11 q wd).next s2) e w' := by
 obtain ⟨z, hz⟩ : ∃ z, s2.got d.wide = z := ⟨_, rfl⟩
 have hU : U64 z := hz ▸ h.rng2.got _
 have em : (Cw.a11 q wd).mem s2 = s2.load d.wide := by simp only [Cw.mem, I.wd]
 have en : (Cw.a11 q wd).next s2 = Cw.go false q (pL z) := by simp only [Cw.next, ← I.wd, hz]
 rw [em, en]
 have hrk : d.r.Ok := I.on.r ▸ hok.1
 have l0 := in12_pL z
 obtain ⟨q0, e0⟩ : ∃ q, pS z = q := ⟨_, rfl⟩
 obtain ⟨q1, e1⟩ : ∃ q, pC z = q := ⟨_, rfl⟩
 obtain ⟨q2, e2⟩ : ∃ q, pN z = q := ⟨_, rfl⟩
 obtain ⟨q3, e3⟩ : ∃ q, pM z = q := ⟨_, rfl⟩
 obtain ⟨q4, e4⟩ : ∃ q, pG z = q := ⟨_, rfl⟩
 obtain ⟨q5, e5⟩ : ∃ q, pT z = q := ⟨_, rfl⟩
 obtain ⟨q6, e6⟩ : ∃ q, pL z = q := ⟨_, rfl⟩
 rw [e6] at l0 ⊢
 have f6 := fHd6
 have c10 : w.cell? ⟨p, 10, none⟩ = some (.int .i64 11) := hpc ▸ B.cell 10
 have c19 : w.cell? ⟨p, 19, none⟩ = some (.bool d.sh) := B.cell 19
 have f19 := B.free 19
 have lw := B.lt
 have t2 : XTo w0 w (w.setCell ⟨p, 19, none⟩ (.bool false)) b y p s1 s2 N ({ d with sh := false } : RC) := (⟨h, B, Oth.refl _ _⟩ : XTo w0 w w b y p s1 s2 N d).one 19 _ (B.r_sh false)
 refine viaQ fun Q k => ?_
 go_enter Tryz.func20, Tryz.ntmps20
 go_upto_region 4 with (fail)
 generalize w.setCell ⟨p, 19, none⟩ (.bool false) = w2 at t2 ⊢
 clear c10 c19 f19 lw
 have b2 := t2.blk
 have c10 : w2.cell? ⟨p, 10, none⟩ = some (.int .i64 11) := hpc ▸ b2.cell 10
 have c11 : w2.cell? ⟨p, 11, none⟩ = some (.int .i64 d.wide) := b2.cell 11
 have lw2 := b2.lt
 go_wp2_with (first
  | (go_at_call 51; refine (yLoad t2.two (by omega) d.wide).mono ?_; rintro e w3 ⟨rfl, h3, o3⟩; rw [hz]; have t3 := t2.mem h3 o3; have b3 := t3.blk)
  | (go_at_call 50; refine (H.rOf z hU.1 hU.2 _).mono ?_; rintro e w4 ⟨rfl, hw4⟩; rw [e0, e1, e2, e3, e4, e5, e6] at hw4 ⊢; have hb4 : Below w3.heap.size w3 w4 := (by rw [hw4]; go_grown); have t4 := t3.below hb4; have b4 := t4.blk; clear hw4 hb4)
  | (go_at_call 52; refine (yTo t4.blk hrk I.on.fx l0.1 l0.2).mono ?_; rintro e w8 ⟨rfl, K8, pd, np, b8, D8⟩; have c10' : w8.cell? ⟨p, 10, none⟩ = some (.int .i64 21) := b8.cell 10))
 exact k.out _ _ ⟨rfl, _, t4.kept K8 b8, [pd], sim_go hrk.1 D8 rfl rfl rfl I.on.r rfl, fun k hk => by simp at hk; subst hk; exact Nat.le_trans t4.oth.size np⟩
theorem ys12 (h : Two w0 w b y s1 s2 N) (B : Blk w0 w p 62 d.cells) (hN : N + 5 < 1000000) (hpc : d.pc = 12) (I : d.Iw q wd) (hok : q.r.Ok ∧ In12 wd) (hw : d.w = wz) (hUw : U64 wz) :
  Calls Tryz.prog 20 #[pt p, pt y] w fun e w' => Yo w0 w b y p s1 ((Cw.a12 q wd wz).mem s2) N ((Cw.a12 q wd wz).next s2) e w' := by
 obtain ⟨z, hz⟩ : ∃ z, s2.got d.wide = z := ⟨_, rfl⟩
 have hU : U64 z := hz ▸ h.rng2.got _
 subst hw
 have em : (Cw.a12 q wd d.w).mem s2 = s2.load d.wide := by simp only [Cw.mem, I.wd]
 have en : (Cw.a12 q wd d.w).next s2 = .a13 q wd d.w (pL z) := by simp only [Cw.next, ← I.wd, hz]
 rw [em, en]
 obtain ⟨q0, e0⟩ : ∃ q, pS z = q := ⟨_, rfl⟩
 obtain ⟨q1, e1⟩ : ∃ q, pC z = q := ⟨_, rfl⟩
 obtain ⟨q2, e2⟩ : ∃ q, pN z = q := ⟨_, rfl⟩
 obtain ⟨q3, e3⟩ : ∃ q, pM z = q := ⟨_, rfl⟩
 obtain ⟨q4, e4⟩ : ∃ q, pG z = q := ⟨_, rfl⟩
 obtain ⟨q5, e5⟩ : ∃ q, pT z = q := ⟨_, rfl⟩
 obtain ⟨q6, e6⟩ : ∃ q, pL z = q := ⟨_, rfl⟩
 rw [e6]
 have f6 := fHd6
 have c10 : w.cell? ⟨p, 10, none⟩ = some (.int .i64 12) := hpc ▸ B.cell 10
 have c19 : w.cell? ⟨p, 19, none⟩ = some (.bool d.sh) := B.cell 19
 have f19 := B.free 19
 have lw := B.lt
 have t2 : XTo w0 w (w.setCell ⟨p, 19, none⟩ (.bool false)) b y p s1 s2 N ({ d with sh := false } : RC) := (⟨h, B, Oth.refl _ _⟩ : XTo w0 w w b y p s1 s2 N d).one 19 _ (B.r_sh false)
 refine viaQ fun Q k => ?_
 go_enter Tryz.func20, Tryz.ntmps20
 go_upto_region 4 with (fail)
 generalize w.setCell ⟨p, 19, none⟩ (.bool false) = w2 at t2 ⊢
 clear c10 c19 f19 lw
 have b2 := t2.blk
 have c10 : w2.cell? ⟨p, 10, none⟩ = some (.int .i64 12) := hpc ▸ b2.cell 10
 have c11 : w2.cell? ⟨p, 11, none⟩ = some (.int .i64 d.wide) := b2.cell 11
 have lw2 := b2.lt
 go_upto_region 72 with (first
  | (go_at_call 51; refine (yLoad t2.two (by omega) d.wide).mono ?_; rintro e w3 ⟨rfl, h3, o3⟩; rw [hz]; have t3 := t2.mem h3 o3; have b3 := t3.blk)
  | (go_at_call 50; refine (H.rOf z hU.1 hU.2 _).mono ?_; rintro e w4 ⟨rfl, hw4⟩; rw [e0, e1, e2, e3, e4, e5, e6] at hw4 ⊢; have hb4 : Below w3.heap.size w3 w4 := (by rw [hw4]; go_grown); have t4 := t3.below hb4; have b4 := t4.blk; clear hw4 hb4; have z16 : w4.cell? ⟨p, 16, none⟩ = some (.int .i64 d.final) := b4.cell 16; have zf16 := b4.free 16; have zl := b4.lt))
 have t5 := t4.one 16 (.int .i64 q6) (t4.blk.r_final q6)
 generalize w4.setCell ⟨p, 16, none⟩ (.int .i64 q6) = w5 at t5 ⊢
 have b5 := t5.blk
 clear c10 c11 lw2 z16 zf16 zl
 have c10 : w5.cell? ⟨p, 10, none⟩ = some (.int .i64 12) := hpc ▸ b5.cell 10
 have f10 := b5.free 10
 have lw5 := b5.lt
 go_wp2
 exact k.out _ _ (yo rfl (t5.one 10 _ (b5.r_pc 13)) ⟨rfl, rfl, rfl, I.put _ _ _ _ _ _ _, rfl, rfl⟩)
theorem ys6a (h : Two w0 w b y s1 s2 N) (B : Blk w0 w p 62 d.cells) (hN : N + 5 < 1000000) (hpc : d.pc = 6) (I : d.Iw q wd) (hok : q.r.Ok ∧ In12 wd) (hst : d.stat = 1) :
  Calls Tryz.prog 20 #[pt p, pt y] w fun e w' => Yo w0 w b y p s1 ((Cw.a6 q wd 1).mem s2) N ((Cw.a6 q wd 1).next s2) e w' := by
 obtain ⟨z, hz⟩ : ∃ z, s2.got (d.s + 1) = z := ⟨_, rfl⟩
 have hU : U64 z := hz ▸ h.rng2.got _
 have hop : d.r.op = 1 ∨ d.r.op = 2 ∨ d.r.op = 3 := I.on.r ▸ hok.1.1
 obtain ⟨tl, htl⟩ : ∃ t, decide (toldP d.r z) = t := ⟨_, rfl⟩
 have htq : decide (Cw.told q z) = tl := by rw [← htl, I.on.r]; rfl
 have em : (Cw.a6 q wd 1).mem s2 = s2.load (d.s + 1) := by simp only [Cw.mem, I.s]
 have en : (Cw.a6 q wd 1).next s2 = if tl then .a7 q wd 1 z else .a9 q wd z := by simp only [Cw.next, ← I.s, hz, ← htq, decide_eq_true_eq]; rfl
 rw [em, en]
 have k0 : 0 ≤ d.s ∧ d.s < 20000 := by have a1 := hok.1.2.2.2.1; have a2 := hok.1.2.2.2.2; have a3 := hok.2.1; have a4 := hok.2.2; rw [I.s, Cw.pa, pairP]; omega
 have i1 : IntKind.i64.wrap (d.s + 1) = d.s + 1 := by rw [IntKind.wrap_i64]; omega
 have c10 : w.cell? ⟨p, 10, none⟩ = some (.int .i64 6) := hpc ▸ B.cell 10
 have c19 : w.cell? ⟨p, 19, none⟩ = some (.bool d.sh) := B.cell 19
 have f19 := B.free 19
 have lw := B.lt
 have t2 : XTo w0 w (w.setCell ⟨p, 19, none⟩ (.bool false)) b y p s1 s2 N ({ d with sh := false } : RC) := (⟨h, B, Oth.refl _ _⟩ : XTo w0 w w b y p s1 s2 N d).one 19 _ (B.r_sh false)
 refine viaQ fun Q k => ?_
 go_enter Tryz.func20, Tryz.ntmps20
 go_upto_region 4 with (fail)
 generalize w.setCell ⟨p, 19, none⟩ (.bool false) = w2 at t2 ⊢
 clear c10 c19 f19 lw
 have b2 := t2.blk
 have c10 : w2.cell? ⟨p, 10, none⟩ = some (.int .i64 6) := hpc ▸ b2.cell 10
 have c13 : w2.cell? ⟨p, 13, none⟩ = some (.int .i64 d.s) := b2.cell 13
 have lw2 := b2.lt
 go_upto_region 46 with (go_at_call 51; refine (yLoad t2.two (by omega) (d.s + 1)).mono ?_; rintro e w3 ⟨rfl, h3, o3⟩; rw [hz]; have t3 := t2.mem h3 o3; have b3 := t3.blk; have z15 : w3.cell? ⟨p, 15, none⟩ = some (.int .u64 d.w) := b3.cell 15; have zf15 := b3.free 15; have zl := b3.lt)
 have t4 := t3.one 15 (.int .u64 z) (t3.blk.r_w z)
 generalize w3.setCell ⟨p, 15, none⟩ (.int .u64 z) = w4 at t4 ⊢
 have b4 := t4.blk
 clear c10 c13 lw2 z15 zf15 zl
 have c19 : w4.cell? ⟨p, 19, none⟩ = some (.bool false) := b4.cell 19
 have f19 := b4.free 19
 have lw4 := b4.lt
 go_upto_region 47 with (fail)
 have t5 := t4.one 19 (.bool true) (t4.blk.r_sh true)
 generalize w4.setCell ⟨p, 19, none⟩ (.bool true) = w5 at t5 ⊢
 have b5 := t5.blk
 clear c19 f19 lw4
 have lw5 := b5.lt
 go_upto_region 48 with (go_at_call 54; refine (yTold b5 hop hU htl).mono ?_; rintro e w6 ⟨rfl, hb6⟩; have t6 := t5.below hb6; have b6 := t6.blk; clear hb6)
 have c10 : w6.cell? ⟨p, 10, none⟩ = some (.int .i64 6) := hpc ▸ b6.cell 10
 have f10 := b6.free 10
 have lw6 := b6.lt
 rcases tl with _ | _
 ·go_wp2
  exact k.out _ _ (yo rfl (t6.one 10 _ (b6.r_pc 9)) ⟨rfl, rfl, rfl, I.put _ _ _ _ _ _ _, rfl⟩)
 ·go_wp2
  exact k.out _ _ (yo rfl (t6.one 10 _ (b6.r_pc 7)) ⟨rfl, rfl, rfl, I.put _ _ _ _ _ _ _, hst, rfl⟩)
theorem ys6b (h : Two w0 w b y s1 s2 N) (B : Blk w0 w p 62 d.cells) (hN : N + 5 < 1000000) (hpc : d.pc = 8) (I : d.Iw q wd) (hok : q.r.Ok ∧ In12 wd) (hst : d.stat = 2) :
  Calls Tryz.prog 20 #[pt p, pt y] w fun e w' => Yo w0 w b y p s1 ((Cw.a6 q wd 2).mem s2) N ((Cw.a6 q wd 2).next s2) e w' := by
 obtain ⟨z, hz⟩ : ∃ z, s2.got (d.s + 1) = z := ⟨_, rfl⟩
 have hU : U64 z := hz ▸ h.rng2.got _
 have hop : d.r.op = 1 ∨ d.r.op = 2 ∨ d.r.op = 3 := I.on.r ▸ hok.1.1
 obtain ⟨tl, htl⟩ : ∃ t, decide (toldP d.r z) = t := ⟨_, rfl⟩
 have htq : decide (Cw.told q z) = tl := by rw [← htl, I.on.r]; rfl
 have em : (Cw.a6 q wd 2).mem s2 = s2.load (d.s + 1) := by simp only [Cw.mem, I.s]
 have en : (Cw.a6 q wd 2).next s2 = if tl then .a7 q wd 2 z else .a12 q wd z := by simp only [Cw.next, ← I.s, hz, ← htq, decide_eq_true_eq]; rfl
 rw [em, en]
 have k0 : 0 ≤ d.s ∧ d.s < 20000 := by have a1 := hok.1.2.2.2.1; have a2 := hok.1.2.2.2.2; have a3 := hok.2.1; have a4 := hok.2.2; rw [I.s, Cw.pa, pairP]; omega
 have i1 : IntKind.i64.wrap (d.s + 1) = d.s + 1 := by rw [IntKind.wrap_i64]; omega
 have c10 : w.cell? ⟨p, 10, none⟩ = some (.int .i64 8) := hpc ▸ B.cell 10
 have c19 : w.cell? ⟨p, 19, none⟩ = some (.bool d.sh) := B.cell 19
 have f19 := B.free 19
 have lw := B.lt
 have t2 : XTo w0 w (w.setCell ⟨p, 19, none⟩ (.bool false)) b y p s1 s2 N ({ d with sh := false } : RC) := (⟨h, B, Oth.refl _ _⟩ : XTo w0 w w b y p s1 s2 N d).one 19 _ (B.r_sh false)
 refine viaQ fun Q k => ?_
 go_enter Tryz.func20, Tryz.ntmps20
 go_upto_region 4 with (fail)
 generalize w.setCell ⟨p, 19, none⟩ (.bool false) = w2 at t2 ⊢
 clear c10 c19 f19 lw
 have b2 := t2.blk
 have c10 : w2.cell? ⟨p, 10, none⟩ = some (.int .i64 8) := hpc ▸ b2.cell 10
 have c13 : w2.cell? ⟨p, 13, none⟩ = some (.int .i64 d.s) := b2.cell 13
 have lw2 := b2.lt
 go_upto_region 46 with (go_at_call 51; refine (yLoad t2.two (by omega) (d.s + 1)).mono ?_; rintro e w3 ⟨rfl, h3, o3⟩; rw [hz]; have t3 := t2.mem h3 o3; have b3 := t3.blk; have z15 : w3.cell? ⟨p, 15, none⟩ = some (.int .u64 d.w) := b3.cell 15; have zf15 := b3.free 15; have zl := b3.lt)
 have t4 := t3.one 15 (.int .u64 z) (t3.blk.r_w z)
 generalize w3.setCell ⟨p, 15, none⟩ (.int .u64 z) = w4 at t4 ⊢
 have b4 := t4.blk
 clear c10 c13 lw2 z15 zf15 zl
 have c19 : w4.cell? ⟨p, 19, none⟩ = some (.bool false) := b4.cell 19
 have f19 := b4.free 19
 have lw4 := b4.lt
 go_upto_region 47 with (fail)
 have t5 := t4.one 19 (.bool true) (t4.blk.r_sh true)
 generalize w4.setCell ⟨p, 19, none⟩ (.bool true) = w5 at t5 ⊢
 have b5 := t5.blk
 clear c19 f19 lw4
 have lw5 := b5.lt
 go_upto_region 48 with (go_at_call 54; refine (yTold b5 hop hU htl).mono ?_; rintro e w6 ⟨rfl, hb6⟩; have t6 := t5.below hb6; have b6 := t6.blk; clear hb6)
 have c10 : w6.cell? ⟨p, 10, none⟩ = some (.int .i64 8) := hpc ▸ b6.cell 10
 have f10 := b6.free 10
 have lw6 := b6.lt
 rcases tl with _ | _
 ·go_wp2
  exact k.out _ _ (yo rfl (t6.one 10 _ (b6.r_pc 12)) ⟨rfl, rfl, rfl, I.put _ _ _ _ _ _ _, rfl⟩)
 ·go_wp2
  exact k.out _ _ (yo rfl (t6.one 10 _ (b6.r_pc 7)) ⟨rfl, rfl, rfl, I.put _ _ _ _ _ _ _, hst, rfl⟩)
theorem ys7 (h : Two w0 w b y s1 s2 N) (B : Blk w0 w p 62 d.cells) (hN : N + 5 < 1000000) {st : Int} (hpc : d.pc = 7) (I : d.Iw q wd) (hok : q.r.Ok ∧ In12 wd) (hst : d.stat = st) (hw : d.w = wz) (hUw : U64 wz) :
  Calls Tryz.prog 20 #[pt p, pt y] w fun e w' => Yo w0 w b y p s1 ((Cw.a7 q wd st wz).mem s2) N ((Cw.a7 q wd st wz).next s2) e w' := by
 obtain ⟨z, hz⟩ : ∃ z, s2.got d.s = z := ⟨_, rfl⟩
 have hU : U64 z := hz ▸ h.rng2.got _
 have hop : d.r.op = 1 ∨ d.r.op = 2 ∨ d.r.op = 3 := I.on.r ▸ hok.1.1
 subst hw
 subst hst
 have em : (Cw.a7 q wd d.stat d.w).mem s2 = s2.load d.s := by simp only [Cw.mem, I.s]
 have en : (Cw.a7 q wd d.stat d.w).next s2 = if z = d.stat then Cw.tells false q d.w else Cw.by_ q wd z := by simp only [Cw.next, ← I.s, hz]
 rw [em, en]
 obtain ⟨bp, hbp⟩ : ∃ x, byP z = x := ⟨_, rfl⟩
 have hb0 : (bp == 0) = false := hbp ▸ byP_ne z
 rcases hzs : (z == d.stat) with _ | _
 ·rw [if_neg (by simpa using hzs)]
  have c10 : w.cell? ⟨p, 10, none⟩ = some (.int .i64 7) := hpc ▸ B.cell 10
  have c19 : w.cell? ⟨p, 19, none⟩ = some (.bool d.sh) := B.cell 19
  have f19 := B.free 19
  have lw := B.lt
  have t2 : XTo w0 w (w.setCell ⟨p, 19, none⟩ (.bool false)) b y p s1 s2 N ({ d with sh := false } : RC) := (⟨h, B, Oth.refl _ _⟩ : XTo w0 w w b y p s1 s2 N d).one 19 _ (B.r_sh false)
  refine viaQ fun Q k => ?_
  go_enter Tryz.func20, Tryz.ntmps20
  go_upto_region 4 with (fail)
  generalize w.setCell ⟨p, 19, none⟩ (.bool false) = w2 at t2 ⊢
  clear c10 c19 f19 lw
  have b2 := t2.blk
  have c10 : w2.cell? ⟨p, 10, none⟩ = some (.int .i64 7) := hpc ▸ b2.cell 10
  have c13 : w2.cell? ⟨p, 13, none⟩ = some (.int .i64 d.s) := b2.cell 13
  have lw2 := b2.lt
  go_upto_region 55 with (go_at_call 51; refine (yLoad t2.two (by omega) d.s).mono ?_; rintro e w3 ⟨rfl, h3, o3⟩; rw [hz]; have t3 := t2.mem h3 o3; have b3 := t3.blk)
  clear c10 c13 lw2
  have c10 : w3.cell? ⟨p, 10, none⟩ = some (.int .i64 7) := hpc ▸ b3.cell 10
  have c14 : w3.cell? ⟨p, 14, none⟩ = some (.int .u64 d.stat) := b3.cell 14
  have f14 := b3.free 14
  have lw3 := b3.lt
  go_upto_region 60 with (fail)
  have t4 := t3.one 14 (.int .u64 z) (t3.blk.r_stat z)
  generalize w3.setCell ⟨p, 14, none⟩ (.int .u64 z) = w4 at t4 ⊢
  have b4 := t4.blk
  clear c10 c14 f14 lw3
  have c10 : w4.cell? ⟨p, 10, none⟩ = some (.int .i64 7) := hpc ▸ b4.cell 10
  have f10 := b4.free 10
  have lw4 := b4.lt
  go_wp2_with (go_at_call 53; refine (yBy z _).mono ?_; rintro e wk ⟨rfl, hwk⟩; rw [hwk, hbp]; clear hwk wk)
  have S := sim_by (w0 := w0) (w' := w4.setCell ⟨p, 10, none⟩ (.int .i64 bp)) (t := z) (I.put bp z d.w d.final d.x d.y false) hbp.symm rfl rfl
  exact k.out _ _ (yo S.2 (t4.one 10 _ (b4.r_pc bp)) S.1)
 ·rw [if_pos (by simpa using hzs)]
  have c10 : w.cell? ⟨p, 10, none⟩ = some (.int .i64 7) := hpc ▸ B.cell 10
  have c19 : w.cell? ⟨p, 19, none⟩ = some (.bool d.sh) := B.cell 19
  have f19 := B.free 19
  have lw := B.lt
  have t2 : XTo w0 w (w.setCell ⟨p, 19, none⟩ (.bool false)) b y p s1 s2 N ({ d with sh := false } : RC) := (⟨h, B, Oth.refl _ _⟩ : XTo w0 w w b y p s1 s2 N d).one 19 _ (B.r_sh false)
  refine viaQ fun Q k => ?_
  go_enter Tryz.func20, Tryz.ntmps20
  go_upto_region 4 with (fail)
  generalize w.setCell ⟨p, 19, none⟩ (.bool false) = w2 at t2 ⊢
  clear c10 c19 f19 lw
  have b2 := t2.blk
  have c10 : w2.cell? ⟨p, 10, none⟩ = some (.int .i64 7) := hpc ▸ b2.cell 10
  have c13 : w2.cell? ⟨p, 13, none⟩ = some (.int .i64 d.s) := b2.cell 13
  have lw2 := b2.lt
  go_upto_region 55 with (go_at_call 51; refine (yLoad t2.two (by omega) d.s).mono ?_; rintro e w3 ⟨rfl, h3, o3⟩; rw [hz]; have t3 := t2.mem h3 o3; have b3 := t3.blk)
  clear c10 c13 lw2
  have c14 : w3.cell? ⟨p, 14, none⟩ = some (.int .u64 d.stat) := b3.cell 14
  have lw3 := b3.lt
  have c10 : w3.cell? ⟨p, 10, none⟩ = some (.int .i64 7) := hpc ▸ b3.cell 10
  have f10 := b3.free 10
  have ll := b3.lt
  go_upto_region 57 with (fail)
  have t8 := t3.one 10 (.int .i64 0) (b3.r_pc 0)
  generalize w3.setCell ⟨p, 10, none⟩ (.int .i64 0) = w8 at t8 ⊢
  clear c10 f10 ll
  have b8 := t8.blk
  have c10 : w8.cell? ⟨p, 10, none⟩ = some (.int .i64 0) := b8.cell 10
  have c0 : w8.cell? ⟨p, 0, none⟩ = some (.int .i64 d.r.op) := b8.cell 0
  have c15 : w8.cell? ⟨p, 15, none⟩ = some (.int .u64 d.w) := b8.cell 15
  have ll := b8.lt
  rcases ho1 : (d.r.op == 1) with _ | _
  ·go_wp2
   exact k.out _ _ (yo rfl t8 ⟨rfl, rfl, by
    have e1 : ¬ q.r.op = 1 := by rw [← I.on.r]; simpa using ho1
    show d.o = _
    rw [if_neg e1]
    exact I.on.o, rfl⟩)
  ·go_wp2_with (go_at_call 30; refine (F.rOf d.w hUw.1 hUw.2 _).mono ?_; rintro e w9 ⟨rfl, hw9⟩; have hb9 : Below w8.heap.size w8 w9 := (by rw [hw9]; go_grown); have t9 := t8.below hb9; have b9 := t9.blk; have z21 : w9.cell? ⟨p, 21, none⟩ = some (.int .i64 d.o.v.k) := b9.cell 21; have z22 : w9.cell? ⟨p, 22, none⟩ = some (.int .i64 d.o.v.n) := b9.cell 22; have zf21 := b9.free 21; have zf22 := b9.free 22; have zl := b9.lt; have c10' : w9.cell? ⟨p, 10, none⟩ = some (.int .i64 0) := b9.cell 10; clear hw9 hb9)
   exact k.out _ _ (yo rfl (t9.kept (kept2 ..) (b9.r_ov (Vl.of d.w))) ⟨rfl, rfl, by
    have e1 : q.r.op = 1 := by rw [← I.on.r]; simpa using ho1
    show (⟨d.o.c, Vl.of d.w, d.o.y⟩ : Ou) = _
    rw [if_pos e1, I.on.o]
    rfl, rfl⟩)
theorem ys1 (h : Two w0 w b y s1 s2 N) (B : Blk w0 w p 62 d.cells) (hN : N + 5 < 1000000) (hpc : d.pc = 1) (I : d.On q) (hok : q.r.Ok) :
  Calls Tryz.prog 20 #[pt p, pt y] w fun e w' => Yo w0 w b y p s1 ((Cw.hd q).mem s2) N ((Cw.hd q).next s2) e w' := by
 obtain ⟨z, hz⟩ : ∃ z, s2.got d.r.at_ = z := ⟨_, rfl⟩
 have hU : U64 z := hz ▸ h.rng2.got _
 have hrk : d.r.Ok := I.r ▸ hok
 have em : (Cw.hd q).mem s2 = s2.load d.r.at_ := by simp only [Cw.mem, I.r]
 have en : (Cw.hd q).next s2 = if d.r.fd < 0 ∨ pN z ≤ d.r.fd then .fin false ⟨15, Vl.zero, false⟩ else if pT z = 2 then Cw.go false q (pL z) else if pT z = 3 then .a2 q (pL z) else Cw.go false q d.r.at_ := by simp only [Cw.next, ← I.r, hz]
 rw [em, en]
 have l0 := in12_pL z
 have t0 : decide (d.r.fd < 0) = false := by have := hrk.2.2.2.1; simpa using this
 have k1 := hrk.2.1
 have k2 := hrk.2.2.1
 have k3 := hrk.2.2.2.1
 have k4 := hrk.2.2.2.2
 obtain ⟨fa, hfa⟩ : ∃ x, d.r.at_ + 1 + d.r.fd = x := ⟨_, rfl⟩
 have i1 : IntKind.i64.wrap (d.r.at_ + 1) = d.r.at_ + 1 := by rw [IntKind.wrap_i64]; omega
 have i2 : IntKind.i64.wrap (d.r.at_ + 1 + d.r.fd) = fa := by rw [IntKind.wrap_i64]; omega
 have i3 : IntKind.i64.wrap fa = fa := by rw [IntKind.wrap_i64]; omega
 obtain ⟨q0, e0⟩ : ∃ q, pS z = q := ⟨_, rfl⟩
 obtain ⟨q1, e1⟩ : ∃ q, pC z = q := ⟨_, rfl⟩
 obtain ⟨q2, e2⟩ : ∃ q, pN z = q := ⟨_, rfl⟩
 obtain ⟨q3, e3⟩ : ∃ q, pM z = q := ⟨_, rfl⟩
 obtain ⟨q4, e4⟩ : ∃ q, pG z = q := ⟨_, rfl⟩
 obtain ⟨q5, e5⟩ : ∃ q, pT z = q := ⟨_, rfl⟩
 obtain ⟨q6, e6⟩ : ∃ q, pL z = q := ⟨_, rfl⟩
 rw [e2, e5, e6]
 rw [e6] at l0
 obtain ⟨pp, hpp⟩ : ∃ x, pairP q6 d.r.fd = x := ⟨_, rfl⟩
 have c10 : w.cell? ⟨p, 10, none⟩ = some (.int .i64 1) := hpc ▸ B.cell 10
 have c19 : w.cell? ⟨p, 19, none⟩ = some (.bool d.sh) := B.cell 19
 have f19 := B.free 19
 have lw := B.lt
 have t2 : XTo w0 w (w.setCell ⟨p, 19, none⟩ (.bool false)) b y p s1 s2 N ({ d with sh := false } : RC) := (⟨h, B, Oth.refl _ _⟩ : XTo w0 w w b y p s1 s2 N d).one 19 _ (B.r_sh false)
 refine viaQ fun Q k => ?_
 go_enter Tryz.func20, Tryz.ntmps20
 go_upto_region 4 with (fail)
 generalize w.setCell ⟨p, 19, none⟩ (.bool false) = w2 at t2 ⊢
 clear c10 c19 f19 lw
 have b2 := t2.blk
 have c10 : w2.cell? ⟨p, 10, none⟩ = some (.int .i64 1) := hpc ▸ b2.cell 10
 have c1 : w2.cell? ⟨p, 1, none⟩ = some (.int .i64 d.r.at_) := b2.cell 1
 have lw2 := b2.lt
 go_upto_region 7 with (first
  | (go_at_call 51; refine (yLoad t2.two (by omega) d.r.at_).mono ?_; rintro e w3 ⟨rfl, h3, o3⟩; rw [hz]; have t3 := t2.mem h3 o3; have b3 := t3.blk)
  | (go_at_call 50; refine (H.rOf z hU.1 hU.2 _).mono ?_; rintro e w4 ⟨rfl, hw4⟩; rw [e0, e1, e2, e3, e4, e5, e6] at hw4 ⊢; have hb4 : Below w3.heap.size w3 w4 := (by rw [hw4]; go_grown); have t4 := t3.below hb4; have b4 := t4.blk; clear hw4 hb4))
 clear c10 c1 lw2
 have aH : Below w4.heap.size w4 (w4.alloc (.cells #[.int .i64 q0, .int .i64 q1, .int .i64 q2, .int .i64 q3, .int .i64 q4, .int .i64 q5, .int .i64 q6] 40)) := (Below.refl _ _).alloc (Nat.le_refl _) _
 have V6 : Blk w0 (w4.alloc (.cells #[.int .i64 q0, .int .i64 q1, .int .i64 q2, .int .i64 q3, .int .i64 q4, .int .i64 q5, .int .i64 q6] 40)) w4.heap.size 40 #[.int .i64 q0, .int .i64 q1, .int .i64 q2, .int .i64 q3, .int .i64 q4, .int .i64 q5, .int .i64 q6] := Blk.new t4.two.bel.size _ (by decide)
 have t6 := t4.below aH
 generalize w4.alloc (.cells #[.int .i64 q0, .int .i64 q1, .int .i64 q2, .int .i64 q3, .int .i64 q4, .int .i64 q5, .int .i64 q6] 40) = w6 at t6 V6 ⊢
 generalize w4.heap.size = hbk at V6 ⊢
 clear aH
 have b6 := t6.blk
 have c2 : w6.cell? ⟨p, 2, none⟩ = some (.int .i64 d.r.fd) := b6.cell 2
 have k2' : w6.cell? ⟨hbk, 2, none⟩ = some (.int .i64 q2) := V6.cell 2
 have kl := V6.lt
 have ll := b6.lt
 have Q7 (tt : Bool) (ht : decide (q2 ≤ d.r.fd) = tt) : True := trivial
 rcases t1 : decide (q2 ≤ d.r.fd) with _ | _
 ·have nf : ¬ (d.r.fd < 0 ∨ q2 ≤ d.r.fd) := by have := of_decide_eq_false t1; omega
  rw [if_neg nf] at k
  go_quiet (fail)
  have hq := S.bdr (Below.refl w6.heap.size w6) nq
  have t7 := t6.below hq
  have V7 := V6.below hq
  generalize w6.drewN nq = w7 at t7 V7 ⊢
  clear hq c2 k2' kl ll b6
  have b7 := t7.blk
  have k5 : w7.cell? ⟨hbk, 5, none⟩ = some (.int .i64 q5) := V7.cell 5
  have k6 : w7.cell? ⟨hbk, 6, none⟩ = some (.int .i64 q6) := V7.cell 6
  have kl := V7.lt
  rcases t2' : (q5 == 2) with _ | _
  ·rw [if_neg (by simpa using t2')] at k
   rcases t3' : (q5 == 3) with _ | _
   ·rw [if_neg (by simpa using t3')] at k
    have c1 : w7.cell? ⟨p, 1, none⟩ = some (.int .i64 d.r.at_) := b7.cell 1
    have lw7 := b7.lt
    go_wp2_with (go_at_call 52; refine (yTo t7.blk hrk I.fx k1 k2).mono ?_; rintro e w8 ⟨rfl, K8, pd, np, b8, D8⟩; have c10' : w8.cell? ⟨p, 10, none⟩ = some (.int .i64 21) := b8.cell 10)
    exact k.out _ _ ⟨rfl, _, t7.kept K8 b8, [pd], sim_go hrk.1 D8 rfl rfl rfl I.r rfl, fun k hk => by simp at hk; subst hk; exact Nat.le_trans t7.oth.size np⟩
   ·rw [if_pos (by simpa using t3')] at k
    have c11 : w7.cell? ⟨p, 11, none⟩ = some (.int .i64 d.wide) := b7.cell 11
    have f11 := b7.free 11
    have lw7 := b7.lt
    go_upto_region 14 with (fail)
    have t8 := t7.one 11 (.int .i64 q6) (t7.blk.r_wide q6)
    generalize w7.setCell ⟨p, 11, none⟩ (.int .i64 q6) = w8 at t8 ⊢
    have b8 := t8.blk
    clear c11 f11 lw7 k5 k6 kl
    have hbd : Below w8.heap.size w8 w8.drew := (Below.refl _ _).drew
    have tD := t8.below hbd
    refine wp_region_noPanic ?_
    refine wp_region_held_drew (S := fun w' => w'.cell? ⟨p, 1, none⟩ = some (.int .i64 d.r.at_) ∧ w'.cell? ⟨p, 2, none⟩ = some (.int .i64 d.r.fd)) (by kernel_rfl) ⟨tD.blk.cell 1, tD.blk.cell 2⟩ (fun hHeld => ?_)
    generalize w8.drew = w8d at tD hHeld ⊢
    refine tkH (i := 0) 74 (pt p) rfl rfl ?_
    simp only [sA1, sA2, sA3]
    refine tkH (i := 1) 75 (pt p) rfl rfl ?_
    simp only [sA1, sA2, sA3]
    refine tkH (i := 2) 76 (pt p) rfl rfl ?_
    simp only [sA1, sA2, sA3]
    refine tkH (i := 3) 77 (pt p) rfl rfl ?_
    simp only [sA1, sA2, sA3]
    refine tkH (i := 4) 78 (.pointer (some ⟨p, 1, none⟩)) rfl rfl ?_
    simp only [sA1, sA2, sA3]
    refine tkH (i := 5) 79 (.int .i64 d.r.at_) rfl rfl ?_
    simp only [sA1, sA2, sA3]
    refine tkH (i := 6) 80 (.int .i64 (d.r.at_ + 1)) rfl rfl ?_
    simp only [sA1, sA2, sA3]
    refine tkH (i := 7) 81 (pt p) rfl rfl ?_
    simp only [sA1, sA2, sA3]
    refine tkH (i := 8) 82 (pt p) rfl rfl ?_
    simp only [sA1, sA2, sA3]
    refine tkH (i := 9) 83 (pt p) rfl rfl ?_
    simp only [sA1, sA2, sA3]
    refine tkH (i := 10) 84 (.pointer (some ⟨p, 2, none⟩)) rfl rfl ?_
    simp only [sA1, sA2, sA3]
    refine tkH (i := 11) 85 (.int .i64 d.r.fd) rfl rfl ?_
    simp only [sA1, sA2, sA3]
    refine tkH (i := 12) 86 (.int .i64 fa) rfl rfl ?_
    simp only [sA1, sA2, sA3]
    refine tkH (i := 13) 87 (pt p) rfl rfl ?_
    simp only [sA1, sA2, sA3]
    refine tkH (i := 14) 88 (.pointer (some ⟨p, 12, none⟩)) rfl rfl ?_
    simp only [sA1, sA2, sA3]
    have bD := tD.blk
    have z12 : w8d.cell? ⟨p, 12, none⟩ = some (.int .i64 d.f) := bD.cell 12
    have zf12 := bD.free 12
    have t9 := tD.one 12 (.int .i64 fa) (bD.r_f fa)
    refine rd1 15 rfl fun K hK => ?_
    go_simp
    refine hK.out _ _ ⟨t9.blk.cell 1, t9.blk.cell 2⟩ (fun hHeld => ?_)
    clear hK K
    try simp only [Act.put, sA1, sA2, sA3]
    refine wpAnyH_done (by kernel_rfl) ?_ _
    refine NoPanic.normal ?_
    clear z12 zf12
    generalize w8d.setCell ⟨p, 12, none⟩ (.int .i64 fa) = w9 at t9 ⊢
    go_upto_region 15 with (fail)
    have hbe : Below w9.heap.size w9 w9.drew := (Below.refl _ _).drew
    have tE := t9.below hbe
    refine wp_region_noPanic ?_
    refine wp_region_held_drew (S := fun w' => w'.cell? ⟨p, 11, none⟩ = some (.int .i64 q6) ∧ w'.cell? ⟨p, 2, none⟩ = some (.int .i64 d.r.fd)) (by kernel_rfl) ⟨tE.blk.cell 11, tE.blk.cell 2⟩ (fun hHeld => ?_)
    generalize w9.drew = w9d at tE hHeld ⊢
    refine tkH (i := 0) 89 (pt p) rfl rfl ?_
    simp only [sA1, sA2, sA3]
    refine tkH (i := 1) 90 (pt p) rfl rfl ?_
    simp only [sA1, sA2, sA3]
    refine tkH (i := 2) 91 (pt p) rfl rfl ?_
    simp only [sA1, sA2, sA3]
    refine tkH (i := 3) 92 (.pointer (some ⟨p, 11, none⟩)) rfl rfl ?_
    simp only [sA1, sA2, sA3]
    refine tkH (i := 4) 93 (.int .i64 q6) rfl rfl ?_
    simp only [sA1, sA2, sA3]
    refine tkH (i := 5) 94 (pt p) rfl rfl ?_
    simp only [sA1, sA2, sA3]
    refine tkH (i := 6) 95 (pt p) rfl rfl ?_
    simp only [sA1, sA2, sA3]
    refine tkH (i := 7) 96 (pt p) rfl rfl ?_
    simp only [sA1, sA2, sA3]
    refine tkH (i := 8) 97 (.pointer (some ⟨p, 2, none⟩)) rfl rfl ?_
    simp only [sA1, sA2, sA3]
    refine tkH (i := 9) 98 (.int .i64 d.r.fd) rfl rfl ?_
    simp only [sA1, sA2, sA3]
    refine rd1 10 rfl fun K hK => ?_
    go_simp
    refine (yPair q6 d.r.fd l0.1 l0.2 hrk.2.2.2.1 hrk.2.2.2.2 _).mono ?_
    rintro e wk ⟨rfl, hwk⟩
    rw [hwk, hpp]
    clear hwk wk
    have z13 : w9d.cell? ⟨p, 13, none⟩ = some (.int .i64 d.s) := tE.blk.cell 13
    have zf13 := tE.blk.free 13
    refine hK.out _ _ ⟨tE.blk.cell 11, tE.blk.cell 2⟩ (fun hHeld => ?_)
    clear hK K
    try simp only [Act.put, sA1, sA2, sA3]
    refine tkH (i := 11) 100 (pt p) rfl rfl ?_
    simp only [sA1, sA2, sA3]
    refine tkH (i := 12) 101 (.pointer (some ⟨p, 13, none⟩)) rfl rfl ?_
    simp only [sA1, sA2, sA3]
    have t10 := tE.one 13 (.int .i64 pp) (tE.blk.r_s pp)
    refine rd1 13 rfl fun K hK => ?_
    go_simp
    refine hK.out _ _ ⟨t10.blk.cell 11, t10.blk.cell 2⟩ (fun hHeld => ?_)
    clear hK K
    try simp only [Act.put, sA1, sA2, sA3]
    refine wpAnyH_done (by kernel_rfl) ?_ _
    refine NoPanic.normal ?_
    clear z13 zf13
    generalize w9d.setCell ⟨p, 13, none⟩ (.int .i64 pp) = w10 at t10 ⊢
    have b10 := t10.blk
    have c10 : w10.cell? ⟨p, 10, none⟩ = some (.int .i64 1) := hpc ▸ b10.cell 10
    have f10 := b10.free 10
    have ll := b10.lt
    go_wp2
    exact k.out _ _ (yo rfl (t10.one 10 _ (b10.r_pc 2)) ⟨rfl, rfl, rfl, ⟨⟨I.r, I.lo, I.fx, I.o⟩, rfl, by rw [← hfa]; simp only [Cw.fa, ← I.r], by rw [← hpp]; simp only [Cw.pa, ← I.r]⟩⟩)
  ·rw [if_pos (by simpa using t2')] at k
   go_wp2_with (go_at_call 52; refine (yTo t7.blk hrk I.fx l0.1 l0.2).mono ?_; rintro e w8 ⟨rfl, K8, pd, np, b8, D8⟩; have c10' : w8.cell? ⟨p, 10, none⟩ = some (.int .i64 21) := b8.cell 10)
   exact k.out _ _ ⟨rfl, _, t7.kept K8 b8, [pd], sim_go hrk.1 D8 rfl rfl rfl I.r rfl, fun k hk => by simp at hk; subst hk; exact Nat.le_trans t7.oth.size np⟩
 ·rw [if_pos (.inr (of_decide_eq_true t1))] at k
  go_quiet (fail)
  have hq := S.bdr (Below.refl w6.heap.size w6) nq
  have t7 := t6.below hq
  generalize w6.drewN nq = w7 at t7 ⊢
  clear hq c2 k2' kl ll b6
  have b7 := t7.blk
  have c10 : w7.cell? ⟨p, 10, none⟩ = some (.int .i64 1) := hpc ▸ b7.cell 10
  have c20 : w7.cell? ⟨p, 20, none⟩ = some (.int .i64 d.o.c) := b7.cell 20
  have f10 := b7.free 10
  have f20 := b7.free 20
  have lw7 := b7.lt
  go_wp2
  exact k.out _ _ (yo rfl (t7.kept (kept2 ..) ((b7.r_oc 15).r_pc 0)) ⟨rfl, rfl, by show (⟨15, d.o.v, d.o.y⟩ : Ou) = _; rw [I.o]; rfl, rfl⟩)
end
end Go.Proofs.YtpcoldpphihfmaaGreatDoor
