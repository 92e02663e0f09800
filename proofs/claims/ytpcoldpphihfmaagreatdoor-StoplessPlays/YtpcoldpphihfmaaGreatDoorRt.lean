import Derived.Test.YtpcoldpphihfmaaGreatDoorRd1
import Derived.Test.YtpcoldpphihfmaaGreatDoorRd3
import Derived.Test.YtpcoldpphihfmaaGreatDoorDs3
namespace Go.Proofs.YtpcoldpphihfmaaGreatDoor
set_option linter.unusedVariables false
set_option linter.unusedSimpArgs false
set_option maxRecDepth 100000
open Go.ChangeShapes Go.WideShapes Go.RowKit
open H.Plain (hw pS pC pN pM pG pT pL mv)
def SimK (d : RD) : K → Prop
 | .read f fx => d.pc = 10 ∧ d.f = f ∧ d.h.fx = fx ∧ d.o = Ou.zero
 | .follow a => d.pc = 11 ∧ d.o = ⟨0, ⟨1, a⟩, false⟩
 | .store f v => d.pc = 23 ∧ d.f = f ∧ d.r.y = v ∧ d.o = Ou.zero
 | .load f v h => d.pc = 20 ∧ d.f = f ∧ d.r.y = v ∧ d.h = h ∧ d.o = Ou.zero
 | .swap f r h => d.pc = 30 ∧ d.f = f ∧ d.r = r ∧ d.h = h ∧ d.o = Ou.zero
 | .exch f w r h => d.pc = 35 ∧ d.f = f ∧ d.w = w ∧ d.r = r ∧ d.h = h ∧ d.o = Ou.zero
 | .shade _ t => d.o = Ou.zero ∧ ((d.pc = 21 ∧ t = shadeK d.r.y d.h (.store d.f d.r.y)) ∨ (d.pc = 22 ∧ t = .store d.f d.r.y) ∨ (d.pc = 33 ∧ t = shadeK d.r.y d.h (.exch d.f d.w d.r d.h)) ∨ (d.pc = 34 ∧ t = .exch d.f d.w d.r d.h))
 | .compS a b t => d.pc = 31 ∧ a = (Vl.of d.w).n ∧ b = d.r.x.n ∧ t = behind d.f d.w d.r d.h ∧ d.o = Ou.zero
 | .comp2S c b t => d.pc = 32 ∧ d.a = c ∧ b = d.r.x.n ∧ t = behind d.f d.w d.r d.h ∧ d.o = Ou.zero
 | _ => False
def Sim (d : RD) (x : Sx) : Prop :=
 match x.k with
 | none => d.pc = 0 ∧ d.o = x.o
 | some k => x.o = Ou.zero ∧ SimK d k
def OwnS (w0 w : World) (d : RD) (F : List Nat) : Option K → Prop
 | some (.shade s _) => ∃ ps q z, F = [ps] ∧ d.x = pt ps ∧ Blk w0 w ps 162 (s.rcells q z) ∧ s.Rf q z ∧ s.Ok
 | _ => F = []
structure RDm (w0 w : World) (p : Nat) (F : List Nat) (x : Sx) : Prop where
 it : ∃ d : RD, Blk w0 w p 129 d.cells ∧ U64 d.w ∧ x.hit = d.sh ∧ Sim d x ∧ OwnS w0 w d F x.k
theorem SimK.pc {d : RD} {k : K} (h : SimK d k) : d.pc ≠ 0 := by
 cases k with
 | shade s t => rcases h.2 with h | h | h | h <;> (rw [h.1]; decide)
 | compT a b => exact h.elim
 | comp2T a b => exact h.elim
 | plain r e => exact h.elim
 | _ => rw [h.1]; decide
section
variable {w0 w w' : World} {p : Nat} {F G : List Nat} {x : Sx} {d : RD}
theorem OwnS.oth {k : Option K} (h : OwnS w0 w d F k) (o : Oth G w w') (hd : ∀ q ∈ F, q ∉ G) : OwnS w0 w' d F k := by
 unfold OwnS at h ⊢
 split
 ·obtain ⟨ps, q, z, rfl, e, B, r⟩ := h
  exact ⟨ps, q, z, rfl, e, B.oth o (hd ps (by simp)), r⟩
 ·rename_i hne
  split at h
  ·rename_i s t
   exact (hne s t rfl).elim
  ·exact h
theorem RDm.oth (h : RDm w0 w p F x) (o : Oth G w w') (hp : p ∉ G) (hd : ∀ q ∈ F, q ∉ G) : RDm w0 w' p F x := by
 obtain ⟨d, B, U, hh, S, O⟩ := h
 exact ⟨d, B.oth o hp, U, hh, S, O.oth o hd⟩
def FTs : List TypeId := [114, 62, 129, 119, 162]
def Foot (w0 w : World) (F : List Nat) : Prop := ∀ q ∈ F, ∃ T cs, T ∈ FTs ∧ Blk w0 w q T cs
theorem RDm.foot (h : RDm w0 w p F x) : Foot w0 w (p :: F) := by
 obtain ⟨d, B, U, hh, S, O⟩ := h
 intro q hq
 simp only [List.mem_cons] at hq
 rcases hq with rfl | hq
 ·exact ⟨_, _, by decide, B⟩
 ·unfold OwnS at O
  split at O
  ·obtain ⟨ps, q', z, rfl, e, B', r⟩ := O
   simp at hq
   subst hq
   exact ⟨_, _, by decide, B'⟩
  ·subst O
   simp at hq
theorem RDm.shown (h : RDm w0 w p F x) : w.cell? ⟨p, 16, none⟩ = some (.bool x.hit) := by
 obtain ⟨d, B, U, hh, S, O⟩ := h
 rw [hh]
 exact B.cell 16
theorem RDm.lt (h : RDm w0 w p F x) : p < w.heap.size := by
 obtain ⟨d, B, _⟩ := h
 exact B.lt
theorem RDm.told (h : RDm w0 w p F x) : ∃ pc c k n : Int, ∃ y : Bool, w.cell? ⟨p, 12, none⟩ = some (.int .i64 pc) ∧ w.cell? ⟨p, 17, none⟩ = some (.int .i64 c) ∧ w.cell? ⟨p, 18, none⟩ = some (.int .i64 k) ∧ w.cell? ⟨p, 19, none⟩ = some (.int .i64 n) ∧ w.cell? ⟨p, 20, none⟩ = some (.bool y) ∧
  (pc == 0) = x.done ∧ (x.done = true → x.o = ⟨c, ⟨k, n⟩, y⟩) ∧ (x.done = false → x.o = Ou.zero) := by
 obtain ⟨d, B, U, hh, S, O⟩ := h
 refine ⟨d.pc, d.o.c, d.o.v.k, d.o.v.n, d.o.y, B.cell 12, B.cell 17, B.cell 18, B.cell 19, B.cell 20, ?_⟩
 unfold Sim at S
 unfold Sx.done
 split at S
 ·rename_i e
  rw [e]
  exact ⟨by simp [S.1], fun _ => S.2.symm, fun h => by simp at h⟩
 ·rename_i k e
  rw [e]
  exact ⟨by have := S.2.pc; simpa using this, fun h => by simp at h, fun _ => S.1⟩
end
theorem rf_new (a m : Int) : (ShadeS.new a m).Rf Hd.zero 0 := by
 have : (ShadeS.new a m).pc ≤ 1 := by simp only [ShadeS.new]; split <;> omega
 exact ⟨U64.zero, fun h => by omega, fun h => by omega, fun h => by omega⟩
section
variable {w0 w w' : World} {n : Nat} {d dd : RD}
theorem aft_true {be : Int} {T : K} (hb : be = 23 ∧ T = .store d.f d.r.y ∨ be = 35 ∧ T = .exch d.f d.w d.r d.h) (e1 : dd.h = d.h) (e2 : dd.w = d.w) (e3 : dd.r = d.r) (hpc : d.pc = pcA dd true be) (ho : d.o = Ou.zero)
  (q : pcA dd true be ≠ be → ∃ ps, d.x = pt ps ∧ Blk w0 w' ps 162 ((shA dd true).rcells Hd.zero 0) ∧ n ≤ ps) :
  ∃ F, SimK d (shadeK (Vl.of d.w) d.h (shadeK d.r.y d.h T)) ∧ OwnS w0 w' d F (some (shadeK (Vl.of d.w) d.h (shadeK d.r.y d.h T))) ∧ ∀ k ∈ F, n ≤ k := by
 have hP : pcA dd true be = if (d.h.sh && (Vl.of d.w).far) = true then be - 2 else if (d.h.sh && d.r.y.far) = true then be - 1 else be := by simp only [pcA, e1, e2, e3, Bool.and_true]
 have hS : shA dd true = if (d.h.sh && (Vl.of d.w).far) = true then ShadeS.new (Vl.of d.w).n d.h.mr else ShadeS.new d.r.y.n d.h.mr := by simp only [shA, e1, e2, e3, Bool.and_true]
 rw [hP] at hpc q
 rw [hS] at q
 unfold shadeK
 by_cases c1 : (d.h.sh && (Vl.of d.w).far) = true
 ·rw [if_pos c1] at hpc q ⊢
  simp only [if_pos c1] at q
  obtain ⟨ps, x1, x2, x3⟩ := q (by omega)
  refine ⟨[ps], ⟨ho, ?_⟩, ⟨ps, _, _, rfl, x1, x2, rf_new _ _, ShadeS.ok_new _ _⟩, by simpa using x3⟩
  rcases hb with ⟨rfl, rfl⟩ | ⟨rfl, rfl⟩
  ·exact .inl ⟨by omega, rfl⟩
  ·exact .inr (.inr (.inl ⟨by omega, rfl⟩))
 ·rw [if_neg c1] at hpc q ⊢
  simp only [if_neg c1] at q
  by_cases c2 : (d.h.sh && d.r.y.far) = true
  ·rw [if_pos c2] at hpc q ⊢
   obtain ⟨ps, x1, x2, x3⟩ := q (by omega)
   refine ⟨[ps], ⟨ho, ?_⟩, ⟨ps, _, _, rfl, x1, x2, rf_new _ _, ShadeS.ok_new _ _⟩, by simpa using x3⟩
   rcases hb with ⟨rfl, rfl⟩ | ⟨rfl, rfl⟩
   ·exact .inr (.inl ⟨by omega, rfl⟩)
   ·exact .inr (.inr (.inr ⟨by omega, rfl⟩))
  ·rw [if_neg c2] at hpc q ⊢
   rcases hb with ⟨rfl, rfl⟩ | ⟨rfl, rfl⟩
   ·exact ⟨[], ⟨hpc, rfl, rfl, ho⟩, rfl, by simp⟩
   ·exact ⟨[], ⟨hpc, rfl, rfl, rfl, rfl, ho⟩, rfl, by simp⟩
theorem aft_false {be : Int} {T : K} (hb : be = 23 ∧ T = .store d.f d.r.y ∨ be = 35 ∧ T = .exch d.f d.w d.r d.h) (e1 : dd.h = d.h) (e3 : dd.r = d.r) (hpc : d.pc = pcA dd false be) (ho : d.o = Ou.zero)
  (q : pcA dd false be ≠ be → ∃ ps, d.x = pt ps ∧ Blk w0 w' ps 162 ((shA dd false).rcells Hd.zero 0) ∧ n ≤ ps) :
  ∃ F, SimK d (shadeK d.r.y d.h T) ∧ OwnS w0 w' d F (some (shadeK d.r.y d.h T)) ∧ ∀ k ∈ F, n ≤ k := by
 have hP : pcA dd false be = if (d.h.sh && d.r.y.far) = true then be - 1 else be := by simp only [pcA, e1, e3, Bool.and_false, Bool.false_and, Bool.false_eq_true, if_false]
 have hS : shA dd false = ShadeS.new d.r.y.n d.h.mr := by simp only [shA, e1, e3, Bool.and_false, Bool.false_and, Bool.false_eq_true, if_false]
 rw [hP] at hpc q
 rw [hS] at q
 unfold shadeK
 by_cases c2 : (d.h.sh && d.r.y.far) = true
 ·rw [if_pos c2] at hpc q ⊢
  obtain ⟨ps, x1, x2, x3⟩ := q (by omega)
  refine ⟨[ps], ⟨ho, ?_⟩, ⟨ps, _, _, rfl, x1, x2, rf_new _ _, ShadeS.ok_new _ _⟩, by simpa using x3⟩
  rcases hb with ⟨rfl, rfl⟩ | ⟨rfl, rfl⟩
  ·exact .inr (.inl ⟨by omega, rfl⟩)
  ·exact .inr (.inr (.inr ⟨by omega, rfl⟩))
 ·rw [if_neg c2] at hpc q ⊢
  rcases hb with ⟨rfl, rfl⟩ | ⟨rfl, rfl⟩
  ·exact ⟨[], ⟨hpc, rfl, rfl, ho⟩, rfl, by simp⟩
  ·exact ⟨[], ⟨hpc, rfl, rfl, rfl, rfl, ho⟩, rfl, by simp⟩
end
theorem rDStep {w0 w : World} {b y p : Nat} {s1 s2 : St} {N : Nat} {F : List Nat} {x : Sx} (h : Two w0 w b y s1 s2 N) (M : RDm w0 w p F x) (hN : N + 5 < 1000000) :
  Calls Tryz.prog 60 #[pt p, pt y] w fun e w' => e = .returned (.bool (x.next s2).done) ∧ Two w0 w' b y s1 (x.mem s2) (N + 1) ∧ Oth (p :: F) w w' ∧ ∃ F', RDm w0 w' p F' (x.next s2) ∧ ∀ k ∈ F', k ∈ F ∨ w.heap.size ≤ k := by
 obtain ⟨d, B, U, hh, S, O⟩ := M
 obtain ⟨k?, hit, o⟩ := x
 cases k? with
 | none =>
  obtain ⟨hpc, ho⟩ := S
  refine (rd0 h B hN hpc).mono ?_
  rintro e w' ⟨rfl, rfl⟩
  exact ⟨rfl, h.mono (by omega), Oth.refl _ _, F, ⟨d, B, U, hh, ⟨hpc, ho⟩, O⟩, fun k hk => .inl hk⟩
 | some k =>
  obtain ⟨rfl, S⟩ := S
  cases k with
  | read f fx =>
   obtain ⟨hpc, rfl, rfl, ho⟩ := S
   obtain rfl : F = [] := O
   refine (rd10 h B hN hpc).mono ?_
   rintro e w' ⟨rfl, t, bl, ot⟩
   rw [ho] at bl
   rcases c : (d.h.fx && (Vl.of (s2.got d.f)).far) with _ | _
   ·simp only [c, Bool.false_eq_true, if_false] at bl
    refine ⟨by simp [Sx.next, K.next, c, Sx.done], t, ot, [], ⟨_, bl, U, ?_, ?_, ?_⟩, fun k hk => by cases hk⟩ <;> simp [Sx.next, K.next, c, Sim, OwnS, Ou.zero]
   ·simp only [c, if_true] at bl
    have hk : (Vl.of (s2.got d.f)).k = 1 := by simp only [Bool.and_eq_true, Vl.far, beq_iff_eq] at c; exact c.2.1
    have en : (Sx.mk (some (.read d.f d.h.fx)) hit Ou.zero).next s2 = ⟨some (.follow (Vl.of (s2.got d.f)).n), true, Ou.zero⟩ := by simp only [Sx.next, K.next, c, if_true]
    rw [en]
    exact ⟨rfl, t, ot, [], ⟨_, bl, U, rfl, ⟨rfl, rfl, by rw [← hk]; rfl⟩, rfl⟩, fun k hk => by cases hk⟩
  | follow a =>
   obtain ⟨hpc, ho⟩ := S
   obtain rfl : F = [] := O
   refine (rd11 h B hN hpc).mono ?_
   rintro e w' ⟨rfl, t, bl, ot⟩
   rw [ho] at bl t
   exact ⟨rfl, t, ot, [], ⟨_, bl, U, rfl, ⟨rfl, rfl⟩, rfl⟩, fun k hk => by cases hk⟩
  | store f v =>
   obtain ⟨hpc, rfl, rfl, ho⟩ := S
   obtain rfl : F = [] := O
   refine (rd23 h B hN hpc).mono ?_
   rintro e w' ⟨rfl, t, bl, ot⟩
   exact ⟨rfl, t, ot, [], ⟨_, bl, U, rfl, ⟨rfl, ho⟩, rfl⟩, fun k hk => by cases hk⟩
  | load f v hh' =>
   obtain ⟨hpc, rfl, rfl, rfl, ho⟩ := S
   obtain rfl : F = [] := O
   refine (rd20 h B hN hpc).mono ?_
   rintro e w' ⟨rfl, vx, ⟨t, bl, ot⟩, q⟩
   obtain ⟨F', sk, ow, fr⟩ := aft_true (w0 := w0) (w' := w') (n := w.heap.size) (d := ⟨d.f, d.r, d.h, _, s2.got d.f, d.a, vx, false, d.o⟩) (dd := ⟨d.f, d.r, d.h, 20, s2.got d.f, d.a, d.x, false, d.o⟩) (be := 23) (T := .store d.f d.r.y) (.inl ⟨rfl, rfl⟩) rfl rfl rfl rfl ho q
   exact ⟨rfl, t, ot, F', ⟨_, bl, h.rng2.got _, rfl, ⟨rfl, sk⟩, ow⟩, fun k hk => .inr (fr k hk)⟩
  | swap f r hh' =>
   obtain ⟨hpc, rfl, rfl, rfl, ho⟩ := S
   obtain rfl : F = [] := O
   by_cases hq : Vl.of (s2.got d.f) = d.r.x
   ·refine (rd30y h B hN hpc hq).mono ?_
    rintro e w' ⟨rfl, vx, ⟨t, bl, ot⟩, q⟩
    obtain ⟨F', sk, ow, fr⟩ := aft_true (w0 := w0) (w' := w') (n := w.heap.size) (d := ⟨d.f, d.r, d.h, _, s2.got d.f, d.a, vx, true, d.o⟩) (dd := ⟨d.f, d.r, d.h, 30, s2.got d.f, d.a, d.x, true, d.o⟩) (be := 35) (T := .exch d.f (s2.got d.f) d.r d.h) (.inr ⟨rfl, rfl⟩) rfl rfl rfl rfl ho q
    have en : (Sx.mk (some (.swap d.f d.r d.h)) hit Ou.zero).next s2 = ⟨some (behind d.f (s2.got d.f) d.r d.h), true, Ou.zero⟩ := by simp only [Sx.next, K.next, if_pos hq]
    rw [en]
    exact ⟨rfl, t, ot, F', ⟨_, bl, h.rng2.got _, rfl, ⟨rfl, sk⟩, ow⟩, fun k hk => .inr (fr k hk)⟩
   ·refine (rd30n h B hN hpc hq).mono ?_
    rintro e w' ⟨rfl, t, bl, ot⟩
    rcases c : (d.h.ca && (Vl.of (s2.got d.f)).far && d.r.x.far) with _ | _
    ·have en : (Sx.mk (some (.swap d.f d.r d.h)) hit Ou.zero).next s2 = ⟨none, true, Ou.zero⟩ := by simp only [Sx.next, K.next, if_neg hq, c, Bool.false_eq_true, if_false]
     rw [en]
     simp only [c, Bool.false_eq_true, if_false] at bl
     exact ⟨rfl, t, ot, [], ⟨_, bl, h.rng2.got _, rfl, ⟨rfl, ho⟩, rfl⟩, fun k hk => by cases hk⟩
    ·have en : (Sx.mk (some (.swap d.f d.r d.h)) hit Ou.zero).next s2 = ⟨some (.compS (Vl.of (s2.got d.f)).n d.r.x.n (behind d.f (s2.got d.f) d.r d.h)), true, Ou.zero⟩ := by simp only [Sx.next, K.next, if_neg hq, c, if_true]
     rw [en]
     simp only [c, if_true] at bl
     exact ⟨rfl, t, ot, [], ⟨_, bl, h.rng2.got _, rfl, ⟨rfl, rfl, rfl, rfl, rfl, ho⟩, rfl⟩, fun k hk => by cases hk⟩
  | exch f w r hh' =>
   obtain ⟨hpc, rfl, rfl, rfl, rfl, ho⟩ := S
   obtain rfl : F = [] := O
   rcases c : s2.ok1 d.f d.w with _ | _
   ·refine (rd35n h B hN hpc c).mono ?_
    rintro e w' ⟨rfl, t, bl, ot⟩
    have en : (Sx.mk (some (.exch d.f d.w d.r d.h)) hit Ou.zero).next s2 = ⟨some (.swap d.f d.r d.h), false, Ou.zero⟩ := by simp only [Sx.next, K.next, c, Bool.false_eq_true, if_false]
    rw [en]
    exact ⟨rfl, t, ot, [], ⟨_, bl, U, rfl, ⟨rfl, rfl, rfl, rfl, rfl, ho⟩, rfl⟩, fun k hk => by cases hk⟩
   ·refine (rd35y h B hN hpc c).mono ?_
    rintro e w' ⟨rfl, t, bl, ot⟩
    rw [ho] at bl
    have en : (Sx.mk (some (.exch d.f d.w d.r d.h)) hit Ou.zero).next s2 = ⟨none, true, ⟨0, Vl.zero, true⟩⟩ := by simp only [Sx.next, K.next, c, if_true]
    rw [en]
    exact ⟨rfl, t, ot, [], ⟨_, bl, U, rfl, ⟨rfl, rfl⟩, rfl⟩, fun k hk => by cases hk⟩
  | shade s t =>
   obtain ⟨ho, S⟩ := S
   obtain ⟨ps, q, z, rfl, hx, Bs, rf, ok⟩ := O
   rcases c : ((s.next s2).pc == 0) with _ | _
   ·have c' : ¬ (s.next s2).pc = 0 := by simpa using c
    have en : ∀ t', (Sx.mk (some (.shade s t')) hit Ou.zero).next s2 = ⟨some (.shade (s.next s2) t'), false, Ou.zero⟩ := fun t' => by simp only [Sx.next, K.next, if_neg c']
    rw [en]
    have ok' := ok.next h.rng2
    rcases S with ⟨hpc, ht⟩ | ⟨hpc, ht⟩ | ⟨hpc, ht⟩ | ⟨hpc, ht⟩
    ·refine (rd21n h B hN hpc Bs rf ok hx c).mono ?_
     rintro e w' ⟨rfl, ⟨t, bl, ot⟩, q', z', B', rf'⟩
     exact ⟨rfl, t, ot, [ps], ⟨_, bl, U, rfl, ⟨rfl, ho, .inl ⟨rfl, ht⟩⟩, ⟨ps, q', z', rfl, hx, B', rf', ok'⟩⟩, fun k hk => .inl hk⟩
    ·refine (rd22n h B hN hpc Bs rf ok hx c).mono ?_
     rintro e w' ⟨rfl, ⟨t, bl, ot⟩, q', z', B', rf'⟩
     exact ⟨rfl, t, ot, [ps], ⟨_, bl, U, rfl, ⟨rfl, ho, .inr (.inl ⟨rfl, ht⟩)⟩, ⟨ps, q', z', rfl, hx, B', rf', ok'⟩⟩, fun k hk => .inl hk⟩
    ·refine (rd33n h B hN hpc Bs rf ok hx c).mono ?_
     rintro e w' ⟨rfl, ⟨t, bl, ot⟩, q', z', B', rf'⟩
     exact ⟨rfl, t, ot, [ps], ⟨_, bl, U, rfl, ⟨rfl, ho, .inr (.inr (.inl ⟨rfl, ht⟩))⟩, ⟨ps, q', z', rfl, hx, B', rf', ok'⟩⟩, fun k hk => .inl hk⟩
    ·refine (rd34n h B hN hpc Bs rf ok hx c).mono ?_
     rintro e w' ⟨rfl, ⟨t, bl, ot⟩, q', z', B', rf'⟩
     exact ⟨rfl, t, ot, [ps], ⟨_, bl, U, rfl, ⟨rfl, ho, .inr (.inr (.inr ⟨rfl, ht⟩))⟩, ⟨ps, q', z', rfl, hx, B', rf', ok'⟩⟩, fun k hk => .inl hk⟩
   ·have c' : (s.next s2).pc = 0 := by simpa using c
    have en : ∀ t', (Sx.mk (some (.shade s t')) hit Ou.zero).next s2 = ⟨some t', false, Ou.zero⟩ := fun t' => by simp only [Sx.next, K.next, if_pos c']
    rw [en]
    rcases S with ⟨hpc, ht⟩ | ⟨hpc, ht⟩ | ⟨hpc, ht⟩ | ⟨hpc, ht⟩
    ·refine (rd21d h B hN hpc U Bs rf ok hx c).mono ?_
     rintro e w' ⟨rfl, vx, ⟨t, bl, ot⟩, q⟩
     obtain ⟨F', sk, ow, fr⟩ := aft_false (w0 := w0) (w' := w') (n := w.heap.size) (d := ⟨d.f, d.r, d.h, _, d.w, d.a, vx, false, d.o⟩) (dd := ⟨d.f, d.r, d.h, 21, d.w, d.a, d.x, false, d.o⟩) (be := 23) (T := .store d.f d.r.y) (.inl ⟨rfl, rfl⟩) rfl rfl rfl ho q
     rw [ht]
     exact ⟨rfl, t, ot, F', ⟨_, bl, U, rfl, ⟨rfl, sk⟩, ow⟩, fun k hk => .inr (fr k hk)⟩
    ·refine (rd22d h B hN hpc Bs rf ok hx c).mono ?_
     rintro e w' ⟨rfl, t, bl, ot⟩
     rw [ht]
     exact ⟨rfl, t, ot, [], ⟨_, bl, U, rfl, ⟨rfl, rfl, rfl, rfl, ho⟩, rfl⟩, fun k hk => by cases hk⟩
    ·refine (rd33d h B hN hpc U Bs rf ok hx c).mono ?_
     rintro e w' ⟨rfl, vx, ⟨t, bl, ot⟩, q⟩
     obtain ⟨F', sk, ow, fr⟩ := aft_false (w0 := w0) (w' := w') (n := w.heap.size) (d := ⟨d.f, d.r, d.h, _, d.w, d.a, vx, false, d.o⟩) (dd := ⟨d.f, d.r, d.h, 33, d.w, d.a, d.x, false, d.o⟩) (be := 35) (T := .exch d.f d.w d.r d.h) (.inr ⟨rfl, rfl⟩) rfl rfl rfl ho q
     rw [ht]
     exact ⟨rfl, t, ot, F', ⟨_, bl, U, rfl, ⟨rfl, sk⟩, ow⟩, fun k hk => .inr (fr k hk)⟩
    ·refine (rd34d h B hN hpc Bs rf ok hx c).mono ?_
     rintro e w' ⟨rfl, t, bl, ot⟩
     rw [ht]
     exact ⟨rfl, t, ot, [], ⟨_, bl, U, rfl, ⟨rfl, rfl, rfl, rfl, rfl, rfl, ho⟩, rfl⟩, fun k hk => by cases hk⟩
  | compS a b' t =>
   obtain ⟨hpc, rfl, rfl, rfl, ho⟩ := S
   obtain rfl : F = [] := O
   refine (rd31 h B hN hpc U).mono ?_
   rintro e w' ⟨rfl, t, bl, ot⟩
   exact ⟨rfl, t, ot, [], ⟨_, bl, U, rfl, ⟨rfl, rfl, rfl, rfl, rfl, ho⟩, rfl⟩, fun k hk => by cases hk⟩
  | comp2S c b' t =>
   obtain ⟨hpc, rfl, rfl, rfl, ho⟩ := S
   obtain rfl : F = [] := O
   rcases c : (d.a == mv (s2.got d.r.x.n) d.r.x.n) with _ | _
   ·have c' : ¬ d.a = mv (s2.got d.r.x.n) d.r.x.n := by simpa using c
    refine (rd32n h B hN hpc U c).mono ?_
    rintro e w' ⟨rfl, t, bl, ot⟩
    have en : (Sx.mk (some (.comp2S d.a d.r.x.n (behind d.f d.w d.r d.h))) hit Ou.zero).next s2 = ⟨none, false, Ou.zero⟩ := by simp only [Sx.next, K.next, if_neg c']
    rw [en]
    exact ⟨rfl, t, ot, [], ⟨_, bl, U, rfl, ⟨rfl, ho⟩, rfl⟩, fun k hk => by cases hk⟩
   ·have c' : d.a = mv (s2.got d.r.x.n) d.r.x.n := by simpa using c
    refine (rd32y h B hN hpc U c).mono ?_
    rintro e w' ⟨rfl, vx, ⟨t, bl, ot⟩, q⟩
    obtain ⟨F', sk, ow, fr⟩ := aft_true (w0 := w0) (w' := w') (n := w.heap.size) (d := ⟨d.f, d.r, d.h, _, d.w, d.a, vx, false, d.o⟩) (dd := ⟨d.f, d.r, d.h, 0, d.w, d.a, d.x, false, d.o⟩) (be := 35) (T := .exch d.f d.w d.r d.h) (.inr ⟨rfl, rfl⟩) rfl rfl rfl rfl ho q
    have en : (Sx.mk (some (.comp2S d.a d.r.x.n (behind d.f d.w d.r d.h))) hit Ou.zero).next s2 = ⟨some (behind d.f d.w d.r d.h), false, Ou.zero⟩ := by simp only [Sx.next, K.next, if_pos c']
    rw [en]
    exact ⟨rfl, t, ot, F', ⟨_, bl, U, rfl, ⟨rfl, sk⟩, ow⟩, fun k hk => .inr (fr k hk)⟩
  | compT a b' => exact S.elim
  | comp2T a b' => exact S.elim
  | plain r e => exact S.elim
end Go.Proofs.YtpcoldpphihfmaaGreatDoor
namespace Go.Proofs.YtpcoldpphihfmaaGreatDoor
set_option linter.unusedVariables false
set_option linter.unusedSimpArgs false
set_option maxRecDepth 100000
open Go.ChangeShapes Go.WideShapes Go.RowKit
open H.Plain (hw pS pC pN pM pG pT pL mv)
structure RpTo (w0 w w' : World) (b y p : Nat) (s1 s' : St) (N : Nat) (d : RP) (F : List Nat) : Prop where
 two : Two w0 w' b y s1 s' (N + 1)
 blk : Blk w0 w' p 119 d.cells
 oth : Oth F w w'
theorem shadesM_eq (md : Int) : shadesM md = (decide (1 ≤ md) && decide (md ≤ 3)) := by
 unfold shadesM
 by_cases h : 1 ≤ md ∧ md ≤ 3
 ·rcases (show md = 1 ∨ md = 2 ∨ md = 3 by omega) with rfl | rfl | rfl <;> rfl
 ·have h1 : (md == 1) = false := by simp only [beq_eq_false_iff_ne]; omega
  have h2 : (md == 2) = false := by simp only [beq_eq_false_iff_ne]; omega
  have h3 : (md == 3) = false := by simp only [beq_eq_false_iff_ne]; omega
  rw [h1, h2, h3]
  rcases ha : decide (1 ≤ md) with _ | _
  ·rfl
  ·rcases hb : decide (md ≤ 3) with _ | _
   ·rfl
   ·exact absurd ⟨of_decide_eq_true ha, of_decide_eq_true hb⟩ h
set_option maxHeartbeats 4000000 in
theorem rp0 {w0 w : World} {b y p : Nat} {s1 s2 : St} {N : Nat} {d : RP} (h : Two w0 w b y s1 s2 N) (B : Blk w0 w p 119 d.cells) (hN : N + 5 < 1000000) (hpc : d.pc = 0) :
  Calls Tryz.prog 59 #[pt p, pt y] w fun e w' => e = .returned (.bool true) ∧ w' = w := by
 obtain ⟨r, ⟨md, mr, al⟩, pc, xx, sh, ⟨oc, ov, oy⟩⟩ := d
 simp only [RP.cells] at B hpc ⊢
 subst hpc
 have c0 : w.cell? ⟨p, 0, none⟩ = some (.int .i64 r.op) := B.cell 0
 have c1 : w.cell? ⟨p, 1, none⟩ = some (.int .i64 r.at_) := B.cell 1
 have c2 : w.cell? ⟨p, 2, none⟩ = some (.int .i64 r.fd) := B.cell 2
 have c3 : w.cell? ⟨p, 3, none⟩ = some (.int .i64 r.x.k) := B.cell 3
 have c4 : w.cell? ⟨p, 4, none⟩ = some (.int .i64 r.x.n) := B.cell 4
 have c5 : w.cell? ⟨p, 5, none⟩ = some (.int .i64 r.y.k) := B.cell 5
 have c6 : w.cell? ⟨p, 6, none⟩ = some (.int .i64 r.y.n) := B.cell 6
 have c7 : w.cell? ⟨p, 7, none⟩ = some (.int .i64 md) := B.cell 7
 have c8 : w.cell? ⟨p, 8, none⟩ = some (.int .i64 mr) := B.cell 8
 have c9 : w.cell? ⟨p, 9, none⟩ = some (.int .i64 al) := B.cell 9
 have c10 : w.cell? ⟨p, 10, none⟩ = some (.int .i64 0) := B.cell 10
 have c11 : w.cell? ⟨p, 11, none⟩ = some (xx) := B.cell 11
 have c12 : w.cell? ⟨p, 12, none⟩ = some (.bool sh) := B.cell 12
 have c13 : w.cell? ⟨p, 13, none⟩ = some (.int .i64 oc) := B.cell 13
 have c14 : w.cell? ⟨p, 14, none⟩ = some (.int .i64 ov.k) := B.cell 14
 have c15 : w.cell? ⟨p, 15, none⟩ = some (.int .i64 ov.n) := B.cell 15
 have c16 : w.cell? ⟨p, 16, none⟩ = some (.bool oy) := B.cell 16
 have cl := B.lt
 have cz : ∀ i, w.frozen? ⟨p, i, none⟩ = false := fun i => B.free i
 go_enter Tryz.func59, Tryz.ntmps59
 go_wp2
 go_ret
 exact ⟨rfl, rfl⟩
set_option maxHeartbeats 4000000 in
theorem rp1e {w0 w : World} {b y p : Nat} {s1 s2 : St} {N : Nat} {d : RP} (h : Two w0 w b y s1 s2 N) (B : Blk w0 w p 119 d.cells) (hN : N + 5 < 1000000) (hpc : d.pc = 1) (hq : d.r.fd < 0 ∨ pN (s2.got d.r.at_) ≤ d.r.fd) :
  Calls Tryz.prog 59 #[pt p, pt y] w fun e w' => e = .returned (.bool true) ∧ RpTo w0 w w' b y p s1 (s2.load d.r.at_) N ⟨d.r, d.e, 0, d.x, false, ⟨15, d.o.v, d.o.y⟩⟩ [p] := by
 obtain ⟨r, ⟨md, mr, al⟩, pc, xx, sh, ⟨oc, ov, oy⟩⟩ := d
 simp only [RP.cells] at B hpc hq ⊢
 subst hpc
 obtain ⟨v, hv⟩ : ∃ v, s2.got r.at_ = v := ⟨_, rfl⟩
 have hU : U64 v := hv ▸ h.rng2.got r.at_
 rw [hv] at hq
 obtain ⟨cn, hcn⟩ : ∃ k, pN v = k := ⟨_, rfl⟩
 rw [hcn] at hq
 have cn7 : 0 ≤ cn ∧ cn < 8 := by rw [← hcn]; unfold H.Plain.pN; omega
 have c0 : w.cell? ⟨p, 0, none⟩ = some (.int .i64 r.op) := B.cell 0
 have c1 : w.cell? ⟨p, 1, none⟩ = some (.int .i64 r.at_) := B.cell 1
 have c2 : w.cell? ⟨p, 2, none⟩ = some (.int .i64 r.fd) := B.cell 2
 have c3 : w.cell? ⟨p, 3, none⟩ = some (.int .i64 r.x.k) := B.cell 3
 have c4 : w.cell? ⟨p, 4, none⟩ = some (.int .i64 r.x.n) := B.cell 4
 have c5 : w.cell? ⟨p, 5, none⟩ = some (.int .i64 r.y.k) := B.cell 5
 have c6 : w.cell? ⟨p, 6, none⟩ = some (.int .i64 r.y.n) := B.cell 6
 have c7 : w.cell? ⟨p, 7, none⟩ = some (.int .i64 md) := B.cell 7
 have c8 : w.cell? ⟨p, 8, none⟩ = some (.int .i64 mr) := B.cell 8
 have c9 : w.cell? ⟨p, 9, none⟩ = some (.int .i64 al) := B.cell 9
 have c10 : w.cell? ⟨p, 10, none⟩ = some (.int .i64 1) := B.cell 10
 have c11 : w.cell? ⟨p, 11, none⟩ = some (xx) := B.cell 11
 have c12 : w.cell? ⟨p, 12, none⟩ = some (.bool sh) := B.cell 12
 have c13 : w.cell? ⟨p, 13, none⟩ = some (.int .i64 oc) := B.cell 13
 have c14 : w.cell? ⟨p, 14, none⟩ = some (.int .i64 ov.k) := B.cell 14
 have c15 : w.cell? ⟨p, 15, none⟩ = some (.int .i64 ov.n) := B.cell 15
 have c16 : w.cell? ⟨p, 16, none⟩ = some (.bool oy) := B.cell 16
 have cl := B.lt
 have cz : ∀ i, w.frozen? ⟨p, i, none⟩ = false := fun i => B.free i
 go_enter Tryz.func59, Tryz.ntmps59
 go_upto_region 6 with (fail)
 clear c0 c1 c2 c3 c4 c5 c6 c7 c8 c9 c10 c11 c12 c13 c14 c15 c16 cl cz
 have B1 : Blk w0 (w.setCell ⟨p, 12, none⟩ (.bool false)) p 119 #[.int .i64 r.op, .int .i64 r.at_, .int .i64 r.fd, .int .i64 r.x.k, .int .i64 r.x.n, .int .i64 r.y.k, .int .i64 r.y.n, .int .i64 md, .int .i64 mr, .int .i64 al, .int .i64 1, xx, .bool false, .int .i64 oc, .int .i64 ov.k, .int .i64 ov.n, .bool oy] := B.set 12 (.bool false)
 have T1 := h.set B 12 (.bool false)
 have O1 : Oth [p] w (w.setCell ⟨p, 12, none⟩ (.bool false)) := Oth.set _ _ _ _ (by simp)
 generalize w.setCell ⟨p, 12, none⟩ (.bool false) = w1 at B1 T1 O1 ⊢
 have c0 : w1.cell? ⟨p, 0, none⟩ = some (.int .i64 r.op) := B1.cell 0
 have c1 : w1.cell? ⟨p, 1, none⟩ = some (.int .i64 r.at_) := B1.cell 1
 have c2 : w1.cell? ⟨p, 2, none⟩ = some (.int .i64 r.fd) := B1.cell 2
 have c3 : w1.cell? ⟨p, 3, none⟩ = some (.int .i64 r.x.k) := B1.cell 3
 have c4 : w1.cell? ⟨p, 4, none⟩ = some (.int .i64 r.x.n) := B1.cell 4
 have c5 : w1.cell? ⟨p, 5, none⟩ = some (.int .i64 r.y.k) := B1.cell 5
 have c6 : w1.cell? ⟨p, 6, none⟩ = some (.int .i64 r.y.n) := B1.cell 6
 have c7 : w1.cell? ⟨p, 7, none⟩ = some (.int .i64 md) := B1.cell 7
 have c8 : w1.cell? ⟨p, 8, none⟩ = some (.int .i64 mr) := B1.cell 8
 have c9 : w1.cell? ⟨p, 9, none⟩ = some (.int .i64 al) := B1.cell 9
 have c10 : w1.cell? ⟨p, 10, none⟩ = some (.int .i64 1) := B1.cell 10
 have c11 : w1.cell? ⟨p, 11, none⟩ = some (xx) := B1.cell 11
 have c12 : w1.cell? ⟨p, 12, none⟩ = some (.bool false) := B1.cell 12
 have c13 : w1.cell? ⟨p, 13, none⟩ = some (.int .i64 oc) := B1.cell 13
 have c14 : w1.cell? ⟨p, 14, none⟩ = some (.int .i64 ov.k) := B1.cell 14
 have c15 : w1.cell? ⟨p, 15, none⟩ = some (.int .i64 ov.n) := B1.cell 15
 have c16 : w1.cell? ⟨p, 16, none⟩ = some (.bool oy) := B1.cell 16
 have cl := B1.lt
 have cz : ∀ i, w1.frozen? ⟨p, i, none⟩ = false := fun i => B1.free i
 go_upto_region 7 with (first
  | (go_at_call 51; refine (yLoad T1 (by omega) r.at_).mono ?_; rintro e w2 ⟨rfl, T2, o2⟩; rw [hv]; have B2 := B1.oth o2 (by simp); have O2 : Oth [p] w w2 := O1.trans (o2.mono (by simp)); clear o2)
  | (go_at_call 50; refine (H.rOf v hU.1 hU.2 _).mono ?_; rintro e w3 ⟨rfl, hw3⟩; rw [hcn] at hw3 ⊢; have hb3 : Below w2.heap.size w2 w3 := (by rw [hw3]; go_grown); have B3 := B2.below hb3; have T3 := T2.below hb3; have O3 : Oth [p] w w3 := O2.trans (Oth.below hb3); clear hw3 hb3))
 clear c0 c1 c2 c3 c4 c5 c6 c7 c8 c9 c10 c11 c12 c13 c14 c15 c16 cl cz
 have hbx : Below w3.heap.size w3 (w3.alloc (.cells #[.int .i64 (pS v), .int .i64 (pC v), .int .i64 cn, .int .i64 (pM v), .int .i64 (pG v), .int .i64 (pT v), .int .i64 (pL v)] 40)) := (Below.refl _ _).alloc (Nat.le_refl _) _
 have hs0 : w0.heap.size ≤ w3.heap.size := Nat.le_trans B3.old (Nat.le_of_lt B3.lt)
 have V4 : Blk w0 (w3.alloc (.cells #[.int .i64 (pS v), .int .i64 (pC v), .int .i64 cn, .int .i64 (pM v), .int .i64 (pG v), .int .i64 (pT v), .int .i64 (pL v)] 40)) w3.heap.size 40 #[.int .i64 (pS v), .int .i64 (pC v), .int .i64 cn, .int .i64 (pM v), .int .i64 (pG v), .int .i64 (pT v), .int .i64 (pL v)] := Blk.new hs0 _ (by decide)
 have B4 := B3.below hbx
 have T4 := T3.below hbx
 have O4 : Oth [p] w (w3.alloc (.cells #[.int .i64 (pS v), .int .i64 (pC v), .int .i64 cn, .int .i64 (pM v), .int .i64 (pG v), .int .i64 (pT v), .int .i64 (pL v)] 40)) := O3.trans (Oth.below hbx)
 clear hbx
 generalize w3.alloc (.cells #[.int .i64 (pS v), .int .i64 (pC v), .int .i64 cn, .int .i64 (pM v), .int .i64 (pG v), .int .i64 (pT v), .int .i64 (pL v)] 40) = w4 at V4 B4 T4 O4 ⊢
 generalize w3.heap.size = vb at V4 ⊢
 have c0 : w4.cell? ⟨p, 0, none⟩ = some (.int .i64 r.op) := B4.cell 0
 have c1 : w4.cell? ⟨p, 1, none⟩ = some (.int .i64 r.at_) := B4.cell 1
 have c2 : w4.cell? ⟨p, 2, none⟩ = some (.int .i64 r.fd) := B4.cell 2
 have c3 : w4.cell? ⟨p, 3, none⟩ = some (.int .i64 r.x.k) := B4.cell 3
 have c4 : w4.cell? ⟨p, 4, none⟩ = some (.int .i64 r.x.n) := B4.cell 4
 have c5 : w4.cell? ⟨p, 5, none⟩ = some (.int .i64 r.y.k) := B4.cell 5
 have c6 : w4.cell? ⟨p, 6, none⟩ = some (.int .i64 r.y.n) := B4.cell 6
 have c7 : w4.cell? ⟨p, 7, none⟩ = some (.int .i64 md) := B4.cell 7
 have c8 : w4.cell? ⟨p, 8, none⟩ = some (.int .i64 mr) := B4.cell 8
 have c9 : w4.cell? ⟨p, 9, none⟩ = some (.int .i64 al) := B4.cell 9
 have c10 : w4.cell? ⟨p, 10, none⟩ = some (.int .i64 1) := B4.cell 10
 have c11 : w4.cell? ⟨p, 11, none⟩ = some (xx) := B4.cell 11
 have c12 : w4.cell? ⟨p, 12, none⟩ = some (.bool false) := B4.cell 12
 have c13 : w4.cell? ⟨p, 13, none⟩ = some (.int .i64 oc) := B4.cell 13
 have c14 : w4.cell? ⟨p, 14, none⟩ = some (.int .i64 ov.k) := B4.cell 14
 have c15 : w4.cell? ⟨p, 15, none⟩ = some (.int .i64 ov.n) := B4.cell 15
 have c16 : w4.cell? ⟨p, 16, none⟩ = some (.bool oy) := B4.cell 16
 have cl := B4.lt
 have cz : ∀ i, w4.frozen? ⟨p, i, none⟩ = false := fun i => B4.free i
 go_upto_region 8 with (fail)
 clear c0 c1 c2 c3 c4 c5 c6 c7 c8 c9 c10 c11 c12 c13 c14 c15 c16 cl cz
 have B5 : Blk w0 (w4.setCell ⟨p, 10, none⟩ (.int .i64 2)) p 119 #[.int .i64 r.op, .int .i64 r.at_, .int .i64 r.fd, .int .i64 r.x.k, .int .i64 r.x.n, .int .i64 r.y.k, .int .i64 r.y.n, .int .i64 md, .int .i64 mr, .int .i64 al, .int .i64 2, xx, .bool false, .int .i64 oc, .int .i64 ov.k, .int .i64 ov.n, .bool oy] := (B4.set 10 (.int .i64 2))
 have T5 := (T4.set B4 10 (.int .i64 2))
 have O5 : Oth [p] w (w4.setCell ⟨p, 10, none⟩ (.int .i64 2)) := (O4.trans (Oth.set _ _ _ _ (by simp)))
 have V5 := V4.oth (Oth.set (F := [p]) w4 p 10 (.int .i64 2) (by simp)) (by simpa using V4.ne B4 (by decide))
 generalize (w4.setCell ⟨p, 10, none⟩ (.int .i64 2)) = w5 at B5 T5 O5 V5 ⊢
 have c0 : w5.cell? ⟨p, 0, none⟩ = some (.int .i64 r.op) := B5.cell 0
 have c1 : w5.cell? ⟨p, 1, none⟩ = some (.int .i64 r.at_) := B5.cell 1
 have c2 : w5.cell? ⟨p, 2, none⟩ = some (.int .i64 r.fd) := B5.cell 2
 have c3 : w5.cell? ⟨p, 3, none⟩ = some (.int .i64 r.x.k) := B5.cell 3
 have c4 : w5.cell? ⟨p, 4, none⟩ = some (.int .i64 r.x.n) := B5.cell 4
 have c5 : w5.cell? ⟨p, 5, none⟩ = some (.int .i64 r.y.k) := B5.cell 5
 have c6 : w5.cell? ⟨p, 6, none⟩ = some (.int .i64 r.y.n) := B5.cell 6
 have c7 : w5.cell? ⟨p, 7, none⟩ = some (.int .i64 md) := B5.cell 7
 have c8 : w5.cell? ⟨p, 8, none⟩ = some (.int .i64 mr) := B5.cell 8
 have c9 : w5.cell? ⟨p, 9, none⟩ = some (.int .i64 al) := B5.cell 9
 have c10 : w5.cell? ⟨p, 10, none⟩ = some (.int .i64 2) := B5.cell 10
 have c11 : w5.cell? ⟨p, 11, none⟩ = some (xx) := B5.cell 11
 have c12 : w5.cell? ⟨p, 12, none⟩ = some (.bool false) := B5.cell 12
 have c13 : w5.cell? ⟨p, 13, none⟩ = some (.int .i64 oc) := B5.cell 13
 have c14 : w5.cell? ⟨p, 14, none⟩ = some (.int .i64 ov.k) := B5.cell 14
 have c15 : w5.cell? ⟨p, 15, none⟩ = some (.int .i64 ov.n) := B5.cell 15
 have c16 : w5.cell? ⟨p, 16, none⟩ = some (.bool oy) := B5.cell 16
 have cl := B5.lt
 have cz : ∀ i, w5.frozen? ⟨p, i, none⟩ = false := fun i => B5.free i
 have v2 : w5.cell? ⟨vb, 2, none⟩ = some (.int .i64 cn) := V5.cell 2
 have vl := V5.lt
 rcases hq with hq | hq
 ·have hd1 : decide (r.fd < 0) = true := by simpa using hq
  go_quiet (fail)
  clear c0 c1 c2 c3 c4 c5 c6 c7 c8 c9 c10 c11 c12 c13 c14 c15 c16 cl cz
  clear v2 vl
  have hbd := bel_drewN w5 nq
  have B6 := B5.below hbd
  have T6 := T5.below hbd
  have O6 : Oth [p] w (w5.drewN nq) := O5.trans (Oth.below hbd)
  clear hbd
  generalize w5.drewN nq = w6 at B6 T6 O6 ⊢
  have c0 : w6.cell? ⟨p, 0, none⟩ = some (.int .i64 r.op) := B6.cell 0
  have c1 : w6.cell? ⟨p, 1, none⟩ = some (.int .i64 r.at_) := B6.cell 1
  have c2 : w6.cell? ⟨p, 2, none⟩ = some (.int .i64 r.fd) := B6.cell 2
  have c3 : w6.cell? ⟨p, 3, none⟩ = some (.int .i64 r.x.k) := B6.cell 3
  have c4 : w6.cell? ⟨p, 4, none⟩ = some (.int .i64 r.x.n) := B6.cell 4
  have c5 : w6.cell? ⟨p, 5, none⟩ = some (.int .i64 r.y.k) := B6.cell 5
  have c6 : w6.cell? ⟨p, 6, none⟩ = some (.int .i64 r.y.n) := B6.cell 6
  have c7 : w6.cell? ⟨p, 7, none⟩ = some (.int .i64 md) := B6.cell 7
  have c8 : w6.cell? ⟨p, 8, none⟩ = some (.int .i64 mr) := B6.cell 8
  have c9 : w6.cell? ⟨p, 9, none⟩ = some (.int .i64 al) := B6.cell 9
  have c10 : w6.cell? ⟨p, 10, none⟩ = some (.int .i64 2) := B6.cell 10
  have c11 : w6.cell? ⟨p, 11, none⟩ = some (xx) := B6.cell 11
  have c12 : w6.cell? ⟨p, 12, none⟩ = some (.bool false) := B6.cell 12
  have c13 : w6.cell? ⟨p, 13, none⟩ = some (.int .i64 oc) := B6.cell 13
  have c14 : w6.cell? ⟨p, 14, none⟩ = some (.int .i64 ov.k) := B6.cell 14
  have c15 : w6.cell? ⟨p, 15, none⟩ = some (.int .i64 ov.n) := B6.cell 15
  have c16 : w6.cell? ⟨p, 16, none⟩ = some (.bool oy) := B6.cell 16
  have cl := B6.lt
  have cz : ∀ i, w6.frozen? ⟨p, i, none⟩ = false := fun i => B6.free i
  go_wp2
  go_ret
  exact ⟨rfl, ⟨((T6.set B6 13 (.int .i64 15)).set (B6.set 13 (.int .i64 15)) 10 (.int .i64 0)).mono (by omega), ((B6.set 13 (.int .i64 15)).set 10 (.int .i64 0)), ((O6.trans (Oth.set _ _ _ _ (by simp))).trans (Oth.set _ _ _ _ (by simp)))⟩⟩
 ·rcases hd1 : decide (r.fd < 0) with _ | _
  ·have hd2 : decide (r.fd ≥ cn) = true := by simpa using hq
   go_quiet (fail)
   clear c0 c1 c2 c3 c4 c5 c6 c7 c8 c9 c10 c11 c12 c13 c14 c15 c16 cl cz
   clear v2 vl
   have hbd := bel_drewN w5 nq
   have B6 := B5.below hbd
   have T6 := T5.below hbd
   have O6 : Oth [p] w (w5.drewN nq) := O5.trans (Oth.below hbd)
   clear hbd
   generalize w5.drewN nq = w6 at B6 T6 O6 ⊢
   have c0 : w6.cell? ⟨p, 0, none⟩ = some (.int .i64 r.op) := B6.cell 0
   have c1 : w6.cell? ⟨p, 1, none⟩ = some (.int .i64 r.at_) := B6.cell 1
   have c2 : w6.cell? ⟨p, 2, none⟩ = some (.int .i64 r.fd) := B6.cell 2
   have c3 : w6.cell? ⟨p, 3, none⟩ = some (.int .i64 r.x.k) := B6.cell 3
   have c4 : w6.cell? ⟨p, 4, none⟩ = some (.int .i64 r.x.n) := B6.cell 4
   have c5 : w6.cell? ⟨p, 5, none⟩ = some (.int .i64 r.y.k) := B6.cell 5
   have c6 : w6.cell? ⟨p, 6, none⟩ = some (.int .i64 r.y.n) := B6.cell 6
   have c7 : w6.cell? ⟨p, 7, none⟩ = some (.int .i64 md) := B6.cell 7
   have c8 : w6.cell? ⟨p, 8, none⟩ = some (.int .i64 mr) := B6.cell 8
   have c9 : w6.cell? ⟨p, 9, none⟩ = some (.int .i64 al) := B6.cell 9
   have c10 : w6.cell? ⟨p, 10, none⟩ = some (.int .i64 2) := B6.cell 10
   have c11 : w6.cell? ⟨p, 11, none⟩ = some (xx) := B6.cell 11
   have c12 : w6.cell? ⟨p, 12, none⟩ = some (.bool false) := B6.cell 12
   have c13 : w6.cell? ⟨p, 13, none⟩ = some (.int .i64 oc) := B6.cell 13
   have c14 : w6.cell? ⟨p, 14, none⟩ = some (.int .i64 ov.k) := B6.cell 14
   have c15 : w6.cell? ⟨p, 15, none⟩ = some (.int .i64 ov.n) := B6.cell 15
   have c16 : w6.cell? ⟨p, 16, none⟩ = some (.bool oy) := B6.cell 16
   have cl := B6.lt
   have cz : ∀ i, w6.frozen? ⟨p, i, none⟩ = false := fun i => B6.free i
   go_wp2
   go_ret
   exact ⟨rfl, ⟨((T6.set B6 13 (.int .i64 15)).set (B6.set 13 (.int .i64 15)) 10 (.int .i64 0)).mono (by omega), ((B6.set 13 (.int .i64 15)).set 10 (.int .i64 0)), ((O6.trans (Oth.set _ _ _ _ (by simp))).trans (Oth.set _ _ _ _ (by simp)))⟩⟩
  ·go_quiet (fail)
   clear c0 c1 c2 c3 c4 c5 c6 c7 c8 c9 c10 c11 c12 c13 c14 c15 c16 cl cz
   clear v2 vl
   have hbd := bel_drewN w5 nq
   have B6 := B5.below hbd
   have T6 := T5.below hbd
   have O6 : Oth [p] w (w5.drewN nq) := O5.trans (Oth.below hbd)
   clear hbd
   generalize w5.drewN nq = w6 at B6 T6 O6 ⊢
   have c0 : w6.cell? ⟨p, 0, none⟩ = some (.int .i64 r.op) := B6.cell 0
   have c1 : w6.cell? ⟨p, 1, none⟩ = some (.int .i64 r.at_) := B6.cell 1
   have c2 : w6.cell? ⟨p, 2, none⟩ = some (.int .i64 r.fd) := B6.cell 2
   have c3 : w6.cell? ⟨p, 3, none⟩ = some (.int .i64 r.x.k) := B6.cell 3
   have c4 : w6.cell? ⟨p, 4, none⟩ = some (.int .i64 r.x.n) := B6.cell 4
   have c5 : w6.cell? ⟨p, 5, none⟩ = some (.int .i64 r.y.k) := B6.cell 5
   have c6 : w6.cell? ⟨p, 6, none⟩ = some (.int .i64 r.y.n) := B6.cell 6
   have c7 : w6.cell? ⟨p, 7, none⟩ = some (.int .i64 md) := B6.cell 7
   have c8 : w6.cell? ⟨p, 8, none⟩ = some (.int .i64 mr) := B6.cell 8
   have c9 : w6.cell? ⟨p, 9, none⟩ = some (.int .i64 al) := B6.cell 9
   have c10 : w6.cell? ⟨p, 10, none⟩ = some (.int .i64 2) := B6.cell 10
   have c11 : w6.cell? ⟨p, 11, none⟩ = some (xx) := B6.cell 11
   have c12 : w6.cell? ⟨p, 12, none⟩ = some (.bool false) := B6.cell 12
   have c13 : w6.cell? ⟨p, 13, none⟩ = some (.int .i64 oc) := B6.cell 13
   have c14 : w6.cell? ⟨p, 14, none⟩ = some (.int .i64 ov.k) := B6.cell 14
   have c15 : w6.cell? ⟨p, 15, none⟩ = some (.int .i64 ov.n) := B6.cell 15
   have c16 : w6.cell? ⟨p, 16, none⟩ = some (.bool oy) := B6.cell 16
   have cl := B6.lt
   have cz : ∀ i, w6.frozen? ⟨p, i, none⟩ = false := fun i => B6.free i
   go_wp2
   go_ret
   exact ⟨rfl, ⟨((T6.set B6 13 (.int .i64 15)).set (B6.set 13 (.int .i64 15)) 10 (.int .i64 0)).mono (by omega), ((B6.set 13 (.int .i64 15)).set 10 (.int .i64 0)), ((O6.trans (Oth.set _ _ _ _ (by simp))).trans (Oth.set _ _ _ _ (by simp)))⟩⟩
set_option maxHeartbeats 8000000 in
theorem rp1o {w0 w : World} {b y p : Nat} {s1 s2 : St} {N : Nat} {d : RP} (h : Two w0 w b y s1 s2 N) (B : Blk w0 w p 119 d.cells) (hN : N + 5 < 1000000) (hpc : d.pc = 1) (hq0 : 0 ≤ d.r.fd) (hq1 : d.r.fd < pN (s2.got d.r.at_)) (hop : d.r.op = 1 ∨ d.r.op = 2 ∨ d.r.op = 3) (ha0 : 0 ≤ d.r.at_) (ha1 : d.r.at_ < 4096) :
  Calls Tryz.prog 59 #[pt p, pt y] w fun e w' => e = .returned (.bool false) ∧ ∃ pd, RpTo w0 w w' b y p s1 (s2.load d.r.at_) N ⟨d.r, d.e, 2, pt pd, false, d.o⟩ [p] ∧ Blk w0 w' pd 129 (RD.new (d.r.at_ + 1 + d.r.fd) d.r ⟨shadesM d.e.md, false, false, d.e.mr⟩).cells ∧ w.heap.size ≤ pd := by
 obtain ⟨r, ⟨md, mr, al⟩, pc, xx, sh, ⟨oc, ov, oy⟩⟩ := d
 simp only [RP.cells] at B hpc hq0 hq1 hop ha0 ha1 ⊢
 subst hpc
 obtain ⟨v, hv⟩ : ∃ v, s2.got r.at_ = v := ⟨_, rfl⟩
 have hU : U64 v := hv ▸ h.rng2.got r.at_
 rw [hv] at hq1
 obtain ⟨cn, hcn⟩ : ∃ k, pN v = k := ⟨_, rfl⟩
 rw [hcn] at hq1
 have cn7 : 0 ≤ cn ∧ cn < 8 := by rw [← hcn]; unfold H.Plain.pN; omega
 have c0 : w.cell? ⟨p, 0, none⟩ = some (.int .i64 r.op) := B.cell 0
 have c1 : w.cell? ⟨p, 1, none⟩ = some (.int .i64 r.at_) := B.cell 1
 have c2 : w.cell? ⟨p, 2, none⟩ = some (.int .i64 r.fd) := B.cell 2
 have c3 : w.cell? ⟨p, 3, none⟩ = some (.int .i64 r.x.k) := B.cell 3
 have c4 : w.cell? ⟨p, 4, none⟩ = some (.int .i64 r.x.n) := B.cell 4
 have c5 : w.cell? ⟨p, 5, none⟩ = some (.int .i64 r.y.k) := B.cell 5
 have c6 : w.cell? ⟨p, 6, none⟩ = some (.int .i64 r.y.n) := B.cell 6
 have c7 : w.cell? ⟨p, 7, none⟩ = some (.int .i64 md) := B.cell 7
 have c8 : w.cell? ⟨p, 8, none⟩ = some (.int .i64 mr) := B.cell 8
 have c9 : w.cell? ⟨p, 9, none⟩ = some (.int .i64 al) := B.cell 9
 have c10 : w.cell? ⟨p, 10, none⟩ = some (.int .i64 1) := B.cell 10
 have c11 : w.cell? ⟨p, 11, none⟩ = some (xx) := B.cell 11
 have c12 : w.cell? ⟨p, 12, none⟩ = some (.bool sh) := B.cell 12
 have c13 : w.cell? ⟨p, 13, none⟩ = some (.int .i64 oc) := B.cell 13
 have c14 : w.cell? ⟨p, 14, none⟩ = some (.int .i64 ov.k) := B.cell 14
 have c15 : w.cell? ⟨p, 15, none⟩ = some (.int .i64 ov.n) := B.cell 15
 have c16 : w.cell? ⟨p, 16, none⟩ = some (.bool oy) := B.cell 16
 have cl := B.lt
 have cz : ∀ i, w.frozen? ⟨p, i, none⟩ = false := fun i => B.free i
 go_enter Tryz.func59, Tryz.ntmps59
 go_upto_region 6 with (fail)
 clear c0 c1 c2 c3 c4 c5 c6 c7 c8 c9 c10 c11 c12 c13 c14 c15 c16 cl cz
 have B1 : Blk w0 (w.setCell ⟨p, 12, none⟩ (.bool false)) p 119 #[.int .i64 r.op, .int .i64 r.at_, .int .i64 r.fd, .int .i64 r.x.k, .int .i64 r.x.n, .int .i64 r.y.k, .int .i64 r.y.n, .int .i64 md, .int .i64 mr, .int .i64 al, .int .i64 1, xx, .bool false, .int .i64 oc, .int .i64 ov.k, .int .i64 ov.n, .bool oy] := B.set 12 (.bool false)
 have T1 := h.set B 12 (.bool false)
 have O1 : Oth [p] w (w.setCell ⟨p, 12, none⟩ (.bool false)) := Oth.set _ _ _ _ (by simp)
 generalize w.setCell ⟨p, 12, none⟩ (.bool false) = w1 at B1 T1 O1 ⊢
 have c0 : w1.cell? ⟨p, 0, none⟩ = some (.int .i64 r.op) := B1.cell 0
 have c1 : w1.cell? ⟨p, 1, none⟩ = some (.int .i64 r.at_) := B1.cell 1
 have c2 : w1.cell? ⟨p, 2, none⟩ = some (.int .i64 r.fd) := B1.cell 2
 have c3 : w1.cell? ⟨p, 3, none⟩ = some (.int .i64 r.x.k) := B1.cell 3
 have c4 : w1.cell? ⟨p, 4, none⟩ = some (.int .i64 r.x.n) := B1.cell 4
 have c5 : w1.cell? ⟨p, 5, none⟩ = some (.int .i64 r.y.k) := B1.cell 5
 have c6 : w1.cell? ⟨p, 6, none⟩ = some (.int .i64 r.y.n) := B1.cell 6
 have c7 : w1.cell? ⟨p, 7, none⟩ = some (.int .i64 md) := B1.cell 7
 have c8 : w1.cell? ⟨p, 8, none⟩ = some (.int .i64 mr) := B1.cell 8
 have c9 : w1.cell? ⟨p, 9, none⟩ = some (.int .i64 al) := B1.cell 9
 have c10 : w1.cell? ⟨p, 10, none⟩ = some (.int .i64 1) := B1.cell 10
 have c11 : w1.cell? ⟨p, 11, none⟩ = some (xx) := B1.cell 11
 have c12 : w1.cell? ⟨p, 12, none⟩ = some (.bool false) := B1.cell 12
 have c13 : w1.cell? ⟨p, 13, none⟩ = some (.int .i64 oc) := B1.cell 13
 have c14 : w1.cell? ⟨p, 14, none⟩ = some (.int .i64 ov.k) := B1.cell 14
 have c15 : w1.cell? ⟨p, 15, none⟩ = some (.int .i64 ov.n) := B1.cell 15
 have c16 : w1.cell? ⟨p, 16, none⟩ = some (.bool oy) := B1.cell 16
 have cl := B1.lt
 have cz : ∀ i, w1.frozen? ⟨p, i, none⟩ = false := fun i => B1.free i
 go_upto_region 7 with (first
  | (go_at_call 51; refine (yLoad T1 (by omega) r.at_).mono ?_; rintro e w2 ⟨rfl, T2, o2⟩; rw [hv]; have B2 := B1.oth o2 (by simp); have O2 : Oth [p] w w2 := O1.trans (o2.mono (by simp)); clear o2)
  | (go_at_call 50; refine (H.rOf v hU.1 hU.2 _).mono ?_; rintro e w3 ⟨rfl, hw3⟩; rw [hcn] at hw3 ⊢; have hb3 : Below w2.heap.size w2 w3 := (by rw [hw3]; go_grown); have B3 := B2.below hb3; have T3 := T2.below hb3; have O3 : Oth [p] w w3 := O2.trans (Oth.below hb3); clear hw3 hb3))
 clear c0 c1 c2 c3 c4 c5 c6 c7 c8 c9 c10 c11 c12 c13 c14 c15 c16 cl cz
 have hbx : Below w3.heap.size w3 (w3.alloc (.cells #[.int .i64 (pS v), .int .i64 (pC v), .int .i64 cn, .int .i64 (pM v), .int .i64 (pG v), .int .i64 (pT v), .int .i64 (pL v)] 40)) := (Below.refl _ _).alloc (Nat.le_refl _) _
 have hs0 : w0.heap.size ≤ w3.heap.size := Nat.le_trans B3.old (Nat.le_of_lt B3.lt)
 have V4 : Blk w0 (w3.alloc (.cells #[.int .i64 (pS v), .int .i64 (pC v), .int .i64 cn, .int .i64 (pM v), .int .i64 (pG v), .int .i64 (pT v), .int .i64 (pL v)] 40)) w3.heap.size 40 #[.int .i64 (pS v), .int .i64 (pC v), .int .i64 cn, .int .i64 (pM v), .int .i64 (pG v), .int .i64 (pT v), .int .i64 (pL v)] := Blk.new hs0 _ (by decide)
 have B4 := B3.below hbx
 have T4 := T3.below hbx
 have O4 : Oth [p] w (w3.alloc (.cells #[.int .i64 (pS v), .int .i64 (pC v), .int .i64 cn, .int .i64 (pM v), .int .i64 (pG v), .int .i64 (pT v), .int .i64 (pL v)] 40)) := O3.trans (Oth.below hbx)
 clear hbx
 generalize w3.alloc (.cells #[.int .i64 (pS v), .int .i64 (pC v), .int .i64 cn, .int .i64 (pM v), .int .i64 (pG v), .int .i64 (pT v), .int .i64 (pL v)] 40) = w4 at V4 B4 T4 O4 ⊢
 generalize w3.heap.size = vb at V4 ⊢
 have c0 : w4.cell? ⟨p, 0, none⟩ = some (.int .i64 r.op) := B4.cell 0
 have c1 : w4.cell? ⟨p, 1, none⟩ = some (.int .i64 r.at_) := B4.cell 1
 have c2 : w4.cell? ⟨p, 2, none⟩ = some (.int .i64 r.fd) := B4.cell 2
 have c3 : w4.cell? ⟨p, 3, none⟩ = some (.int .i64 r.x.k) := B4.cell 3
 have c4 : w4.cell? ⟨p, 4, none⟩ = some (.int .i64 r.x.n) := B4.cell 4
 have c5 : w4.cell? ⟨p, 5, none⟩ = some (.int .i64 r.y.k) := B4.cell 5
 have c6 : w4.cell? ⟨p, 6, none⟩ = some (.int .i64 r.y.n) := B4.cell 6
 have c7 : w4.cell? ⟨p, 7, none⟩ = some (.int .i64 md) := B4.cell 7
 have c8 : w4.cell? ⟨p, 8, none⟩ = some (.int .i64 mr) := B4.cell 8
 have c9 : w4.cell? ⟨p, 9, none⟩ = some (.int .i64 al) := B4.cell 9
 have c10 : w4.cell? ⟨p, 10, none⟩ = some (.int .i64 1) := B4.cell 10
 have c11 : w4.cell? ⟨p, 11, none⟩ = some (xx) := B4.cell 11
 have c12 : w4.cell? ⟨p, 12, none⟩ = some (.bool false) := B4.cell 12
 have c13 : w4.cell? ⟨p, 13, none⟩ = some (.int .i64 oc) := B4.cell 13
 have c14 : w4.cell? ⟨p, 14, none⟩ = some (.int .i64 ov.k) := B4.cell 14
 have c15 : w4.cell? ⟨p, 15, none⟩ = some (.int .i64 ov.n) := B4.cell 15
 have c16 : w4.cell? ⟨p, 16, none⟩ = some (.bool oy) := B4.cell 16
 have cl := B4.lt
 have cz : ∀ i, w4.frozen? ⟨p, i, none⟩ = false := fun i => B4.free i
 go_upto_region 8 with (fail)
 clear c0 c1 c2 c3 c4 c5 c6 c7 c8 c9 c10 c11 c12 c13 c14 c15 c16 cl cz
 have B5 : Blk w0 (w4.setCell ⟨p, 10, none⟩ (.int .i64 2)) p 119 #[.int .i64 r.op, .int .i64 r.at_, .int .i64 r.fd, .int .i64 r.x.k, .int .i64 r.x.n, .int .i64 r.y.k, .int .i64 r.y.n, .int .i64 md, .int .i64 mr, .int .i64 al, .int .i64 2, xx, .bool false, .int .i64 oc, .int .i64 ov.k, .int .i64 ov.n, .bool oy] := (B4.set 10 (.int .i64 2))
 have T5 := (T4.set B4 10 (.int .i64 2))
 have O5 : Oth [p] w (w4.setCell ⟨p, 10, none⟩ (.int .i64 2)) := (O4.trans (Oth.set _ _ _ _ (by simp)))
 have V5 := V4.oth (Oth.set (F := [p]) w4 p 10 (.int .i64 2) (by simp)) (by simpa using V4.ne B4 (by decide))
 generalize (w4.setCell ⟨p, 10, none⟩ (.int .i64 2)) = w5 at B5 T5 O5 V5 ⊢
 have c0 : w5.cell? ⟨p, 0, none⟩ = some (.int .i64 r.op) := B5.cell 0
 have c1 : w5.cell? ⟨p, 1, none⟩ = some (.int .i64 r.at_) := B5.cell 1
 have c2 : w5.cell? ⟨p, 2, none⟩ = some (.int .i64 r.fd) := B5.cell 2
 have c3 : w5.cell? ⟨p, 3, none⟩ = some (.int .i64 r.x.k) := B5.cell 3
 have c4 : w5.cell? ⟨p, 4, none⟩ = some (.int .i64 r.x.n) := B5.cell 4
 have c5 : w5.cell? ⟨p, 5, none⟩ = some (.int .i64 r.y.k) := B5.cell 5
 have c6 : w5.cell? ⟨p, 6, none⟩ = some (.int .i64 r.y.n) := B5.cell 6
 have c7 : w5.cell? ⟨p, 7, none⟩ = some (.int .i64 md) := B5.cell 7
 have c8 : w5.cell? ⟨p, 8, none⟩ = some (.int .i64 mr) := B5.cell 8
 have c9 : w5.cell? ⟨p, 9, none⟩ = some (.int .i64 al) := B5.cell 9
 have c10 : w5.cell? ⟨p, 10, none⟩ = some (.int .i64 2) := B5.cell 10
 have c11 : w5.cell? ⟨p, 11, none⟩ = some (xx) := B5.cell 11
 have c12 : w5.cell? ⟨p, 12, none⟩ = some (.bool false) := B5.cell 12
 have c13 : w5.cell? ⟨p, 13, none⟩ = some (.int .i64 oc) := B5.cell 13
 have c14 : w5.cell? ⟨p, 14, none⟩ = some (.int .i64 ov.k) := B5.cell 14
 have c15 : w5.cell? ⟨p, 15, none⟩ = some (.int .i64 ov.n) := B5.cell 15
 have c16 : w5.cell? ⟨p, 16, none⟩ = some (.bool oy) := B5.cell 16
 have cl := B5.lt
 have cz : ∀ i, w5.frozen? ⟨p, i, none⟩ = false := fun i => B5.free i
 have v2 : w5.cell? ⟨vb, 2, none⟩ = some (.int .i64 cn) := V5.cell 2
 have vl := V5.lt
 have hd1 : decide (r.fd < 0) = false := by simpa using hq0
 have hd2 : decide (r.fd ≥ cn) = false := by simpa using hq1
 go_quiet (fail)
 clear c0 c1 c2 c3 c4 c5 c6 c7 c8 c9 c10 c11 c12 c13 c14 c15 c16 cl cz
 clear v2 vl
 have hbd := bel_drewN w5 nq
 have B6 := B5.below hbd
 have T6 := T5.below hbd
 have O6 : Oth [p] w (w5.drewN nq) := O5.trans (Oth.below hbd)
 clear hbd
 generalize w5.drewN nq = w6 at B6 T6 O6 ⊢
 have c0 : w6.cell? ⟨p, 0, none⟩ = some (.int .i64 r.op) := B6.cell 0
 have c1 : w6.cell? ⟨p, 1, none⟩ = some (.int .i64 r.at_) := B6.cell 1
 have c2 : w6.cell? ⟨p, 2, none⟩ = some (.int .i64 r.fd) := B6.cell 2
 have c3 : w6.cell? ⟨p, 3, none⟩ = some (.int .i64 r.x.k) := B6.cell 3
 have c4 : w6.cell? ⟨p, 4, none⟩ = some (.int .i64 r.x.n) := B6.cell 4
 have c5 : w6.cell? ⟨p, 5, none⟩ = some (.int .i64 r.y.k) := B6.cell 5
 have c6 : w6.cell? ⟨p, 6, none⟩ = some (.int .i64 r.y.n) := B6.cell 6
 have c7 : w6.cell? ⟨p, 7, none⟩ = some (.int .i64 md) := B6.cell 7
 have c8 : w6.cell? ⟨p, 8, none⟩ = some (.int .i64 mr) := B6.cell 8
 have c9 : w6.cell? ⟨p, 9, none⟩ = some (.int .i64 al) := B6.cell 9
 have c10 : w6.cell? ⟨p, 10, none⟩ = some (.int .i64 2) := B6.cell 10
 have c11 : w6.cell? ⟨p, 11, none⟩ = some (xx) := B6.cell 11
 have c12 : w6.cell? ⟨p, 12, none⟩ = some (.bool false) := B6.cell 12
 have c13 : w6.cell? ⟨p, 13, none⟩ = some (.int .i64 oc) := B6.cell 13
 have c14 : w6.cell? ⟨p, 14, none⟩ = some (.int .i64 ov.k) := B6.cell 14
 have c15 : w6.cell? ⟨p, 15, none⟩ = some (.int .i64 ov.n) := B6.cell 15
 have c16 : w6.cell? ⟨p, 16, none⟩ = some (.bool oy) := B6.cell 16
 have cl := B6.lt
 have cz : ∀ i, w6.frozen? ⟨p, i, none⟩ = false := fun i => B6.free i
 clear hd1 hd2
 go_upto_region 11 with (fail)
 refine wp_region_noPanic ?_
 have keep : ∀ w', Below w6.heap.size w6 w' → w'.cell? ⟨p, 0, none⟩ = some (.int .i64 r.op) ∧ w'.cell? ⟨p, 1, none⟩ = some (.int .i64 r.at_) ∧ w'.cell? ⟨p, 2, none⟩ = some (.int .i64 r.fd) ∧ w'.cell? ⟨p, 3, none⟩ = some (.int .i64 r.x.k) ∧ w'.cell? ⟨p, 4, none⟩ = some (.int .i64 r.x.n) ∧ w'.cell? ⟨p, 5, none⟩ = some (.int .i64 r.y.k) ∧ w'.cell? ⟨p, 6, none⟩ = some (.int .i64 r.y.n) ∧ w'.cell? ⟨p, 7, none⟩ = some (.int .i64 md) ∧ w'.cell? ⟨p, 8, none⟩ = some (.int .i64 mr) := fun w' hb => ⟨bcell hb cl c0, bcell hb cl c1, bcell hb cl c2, bcell hb cl c3, bcell hb cl c4, bcell hb cl c5, bcell hb cl c6, bcell hb cl c7, bcell hb cl c8⟩
 have RD := keep _ ((Below.refl w6.heap.size w6).drew)
 have hsm := shadesM_eq md
 rcases hg1 : decide (1 ≤ md) with _ | _
 ·have hg1' : ¬ 1 ≤ md := by simpa using hg1
  refine wp_region_held_drew (S := fun w' => w'.cell? ⟨p, 0, none⟩ = some (.int .i64 r.op) ∧ w'.cell? ⟨p, 1, none⟩ = some (.int .i64 r.at_) ∧ w'.cell? ⟨p, 2, none⟩ = some (.int .i64 r.fd) ∧ w'.cell? ⟨p, 3, none⟩ = some (.int .i64 r.x.k) ∧ w'.cell? ⟨p, 4, none⟩ = some (.int .i64 r.x.n) ∧ w'.cell? ⟨p, 5, none⟩ = some (.int .i64 r.y.k) ∧ w'.cell? ⟨p, 6, none⟩ = some (.int .i64 r.y.n) ∧ w'.cell? ⟨p, 7, none⟩ = some (.int .i64 md) ∧ w'.cell? ⟨p, 8, none⟩ = some (.int .i64 mr)) (by kernel_rfl) RD (fun hHeld => ?_)
  refine tkH (i := 0) 55 (pt p) rfl rfl ?_
  simp only [sA1, sA2, sA3]
  refine tkH (i := 1) 56 (pt p) rfl rfl ?_
  simp only [sA1, sA2, sA3]
  refine tkH (i := 2) 57 (pt p) rfl rfl ?_
  simp only [sA1, sA2, sA3]
  refine tkH (i := 3) 58 (.pointer (some ⟨p, 0, none⟩)) rfl rfl ?_
  simp only [sA1, sA2, sA3]
  refine tkH (i := 4) 59 (.pointer (some ⟨p, 1, none⟩)) rfl rfl ?_
  simp only [sA1, sA2, sA3]
  refine tkH (i := 5) 60 (.int .i64 r.at_) rfl rfl ?_
  simp only [sA1, sA2, sA3]
  refine tkH (i := 6) 61 (pt p) rfl rfl ?_
  simp only [sA1, sA2, sA3]
  refine tkH (i := 7) 62 (pt p) rfl rfl ?_
  simp only [sA1, sA2, sA3]
  refine tkH (i := 8) 63 (.pointer (some ⟨p, 0, none⟩)) rfl rfl ?_
  simp only [sA1, sA2, sA3]
  refine tkH (i := 9) 64 (.agg #[.int .i64 r.op, .int .i64 r.at_, .int .i64 r.fd, .int .i64 r.x.k, .int .i64 r.x.n, .int .i64 r.y.k, .int .i64 r.y.n]) rfl rfl ?_
  simp only [sA1, sA2, sA3]
  refine tkH (i := 10) 65 (pt p) rfl rfl ?_
  simp only [sA1, sA2, sA3]
  refine tkH (i := 11) 66 (pt p) rfl rfl ?_
  simp only [sA1, sA2, sA3]
  refine tkH (i := 12) 67 (.pointer (some ⟨p, 7, none⟩)) rfl rfl ?_
  simp only [sA1, sA2, sA3]
  refine tkH (i := 13) 68 (.pointer (some ⟨p, 7, none⟩)) rfl rfl ?_
  simp only [sA1, sA2, sA3]
  refine tkH (i := 14) 69 (.int .i64 md) rfl rfl ?_
  simp only [sA1, sA2, sA3]
  refine tkX (i := 15) 70 (.bool false) rfl rfl ?_ ?_
  ·intro w hSw; (try dsimp only at hSw); go_simp <;> first | assumption | omega | (simp; omega)
  simp only [sA1, sA2, sA3]
  refine tkH (i := 16) 71 (.bool false) rfl rfl ?_
  simp only [sA1, sA2, sA3]
  refine skipH (i := 17) 72 rfl rfl (by kernel_rfl) (by kernel_rfl) (by kernel_rfl) (fun _ _ _ h => h) (by rfl) (by assumption) ?_
  simp only [sA1, sA2, sA3]
  refine skipH (i := 18) 73 rfl rfl (by kernel_rfl) (by kernel_rfl) (by kernel_rfl) (fun _ _ _ h => h) (by rfl) (by assumption) ?_
  simp only [sA1, sA2, sA3]
  refine skipH (i := 19) 74 rfl rfl (by kernel_rfl) (by kernel_rfl) (by kernel_rfl) (fun _ _ _ h => h) (by rfl) (by assumption) ?_
  simp only [sA1, sA2, sA3]
  refine skipH (i := 20) 75 rfl rfl (by kernel_rfl) (by kernel_rfl) (by kernel_rfl) (fun _ _ _ h => h) (by rfl) (by assumption) ?_
  simp only [sA1, sA2, sA3]
  refine skipH (i := 21) 76 rfl rfl (by kernel_rfl) (by kernel_rfl) (by kernel_rfl) (fun _ _ _ h => h) (by rfl) (by assumption) ?_
  simp only [sA1, sA2, sA3]
  refine skipH (i := 22) 77 rfl rfl (by kernel_rfl) (by kernel_rfl) (by kernel_rfl) (fun _ _ _ h => h) (by rfl) (by assumption) ?_
  simp only [sA1, sA2, sA3]
  refine tkH (i := 23) 78 (.bool false) rfl rfl ?_
  simp only [sA1, sA2, sA3]
  refine tkH (i := 24) 79 (pt p) rfl rfl ?_
  simp only [sA1, sA2, sA3]
  refine tkH (i := 25) 80 (pt p) rfl rfl ?_
  simp only [sA1, sA2, sA3]
  refine tkH (i := 26) 81 (.pointer (some ⟨p, 7, none⟩)) rfl rfl ?_
  simp only [sA1, sA2, sA3]
  refine tkH (i := 27) 82 (.pointer (some ⟨p, 8, none⟩)) rfl rfl ?_
  simp only [sA1, sA2, sA3]
  refine tkH (i := 28) 83 (.int .i64 mr) rfl rfl ?_
  simp only [sA1, sA2, sA3]
  refine tkH (i := 29) 84 (.agg #[.bool false, .bool false, .bool false, .int .i64 mr]) rfl rfl ?_
  simp only [sA1, sA2, sA3]
  refine rd1 30 rfl fun K hK => ?_
  go_simp
  refine (rNewDirect r.at_ r ⟨false, false, false, mr⟩ _ ha0 ha1 hq0 (by omega) hop).mono ?_
  rintro e w7 ⟨pd, rfl, M7⟩
  have hb7 := bel_trans ((Below.refl w6.heap.size w6).drew) M7.bel
  have B7 := B6.below hb7
  have sx : w7.cell? ⟨p, 11, none⟩ = some xx := B7.cell 11
  have sz := B7.free 11
  refine hK.out _ _ (keep _ hb7) (fun hHeld => ?_)
  clear hK K
  try simp only [Act.put, sA1, sA2, sA3]
  refine tkH (i := 31) 86 (pt p) rfl rfl ?_
  simp only [sA1, sA2, sA3]
  refine tkH (i := 32) 87 (.pointer (some ⟨p, 11, none⟩)) rfl rfl ?_
  simp only [sA1, sA2, sA3]
  refine rd1 33 rfl fun K hK => ?_
  go_simp
  refine hK.out _ _ ⟨(B7.set 11 (pt pd)).cell 0, (B7.set 11 (pt pd)).cell 1, (B7.set 11 (pt pd)).cell 2, (B7.set 11 (pt pd)).cell 3, (B7.set 11 (pt pd)).cell 4, (B7.set 11 (pt pd)).cell 5, (B7.set 11 (pt pd)).cell 6, (B7.set 11 (pt pd)).cell 7, (B7.set 11 (pt pd)).cell 8⟩ (fun hHeld => ?_)
  clear hK K
  try simp only [Act.put, sA1, sA2, sA3]
  refine wpAnyH_done (by kernel_rfl) ?_ _
  refine NoPanic.normal ?_
  have T7 := T6.below hb7
  have O7 : Oth [p] w w7 := O6.trans (Oth.below hb7)
  have hs6 : w0.heap.size ≤ w6.heap.size := Nat.le_trans B6.old (Nat.le_of_lt B6.lt)
  have D7 := M7.blk' (w0 := w0) (by have := hb7.size; exact hs6) (by decide)
  have npd : w.heap.size ≤ pd := Nat.le_trans O6.size M7.new
  clear c0 c1 c2 c3 c4 c5 c6 c7 c8 c9 c10 c11 c12 c13 c14 c15 c16 cl cz sx sz hHeld keep RD
  have B8 : Blk w0 (w7.setCell ⟨p, 11, none⟩ (pt pd)) p 119 #[.int .i64 r.op, .int .i64 r.at_, .int .i64 r.fd, .int .i64 r.x.k, .int .i64 r.x.n, .int .i64 r.y.k, .int .i64 r.y.n, .int .i64 md, .int .i64 mr, .int .i64 al, .int .i64 2, pt pd, .bool false, .int .i64 oc, .int .i64 ov.k, .int .i64 ov.n, .bool oy] := (B7.set 11 (pt pd))
  have T8 := (T7.set B7 11 (pt pd))
  have O8 : Oth [p] w (w7.setCell ⟨p, 11, none⟩ (pt pd)) := (O7.trans (Oth.set _ _ _ _ (by simp)))
  have D8 := D7.oth (Oth.set (F := [p]) w7 p 11 (pt pd) (by simp)) (by simpa using D7.ne B7 (by decide))
  generalize (w7.setCell ⟨p, 11, none⟩ (pt pd)) = w8 at B8 T8 O8 D8 ⊢
  have d12 := D8.cell 12
  have dl := D8.lt
  have c0 : w8.cell? ⟨p, 0, none⟩ = some (.int .i64 r.op) := B8.cell 0
  have c1 : w8.cell? ⟨p, 1, none⟩ = some (.int .i64 r.at_) := B8.cell 1
  have c2 : w8.cell? ⟨p, 2, none⟩ = some (.int .i64 r.fd) := B8.cell 2
  have c3 : w8.cell? ⟨p, 3, none⟩ = some (.int .i64 r.x.k) := B8.cell 3
  have c4 : w8.cell? ⟨p, 4, none⟩ = some (.int .i64 r.x.n) := B8.cell 4
  have c5 : w8.cell? ⟨p, 5, none⟩ = some (.int .i64 r.y.k) := B8.cell 5
  have c6 : w8.cell? ⟨p, 6, none⟩ = some (.int .i64 r.y.n) := B8.cell 6
  have c7 : w8.cell? ⟨p, 7, none⟩ = some (.int .i64 md) := B8.cell 7
  have c8 : w8.cell? ⟨p, 8, none⟩ = some (.int .i64 mr) := B8.cell 8
  have c9 : w8.cell? ⟨p, 9, none⟩ = some (.int .i64 al) := B8.cell 9
  have c10 : w8.cell? ⟨p, 10, none⟩ = some (.int .i64 2) := B8.cell 10
  have c11 : w8.cell? ⟨p, 11, none⟩ = some (pt pd) := B8.cell 11
  have c12 : w8.cell? ⟨p, 12, none⟩ = some (.bool false) := B8.cell 12
  have c13 : w8.cell? ⟨p, 13, none⟩ = some (.int .i64 oc) := B8.cell 13
  have c14 : w8.cell? ⟨p, 14, none⟩ = some (.int .i64 ov.k) := B8.cell 14
  have c15 : w8.cell? ⟨p, 15, none⟩ = some (.int .i64 ov.n) := B8.cell 15
  have c16 : w8.cell? ⟨p, 16, none⟩ = some (.bool oy) := B8.cell 16
  have cl := B8.lt
  have cz : ∀ i, w8.frozen? ⟨p, i, none⟩ = false := fun i => B8.free i
  have d12' : w8.cell? ⟨pd, 12, none⟩ = some (.int .i64 (pcD r ⟨false, false, false, mr⟩)) := d12
  clear d12
  obtain ⟨pcd, hpcd⟩ : ∃ k, pcD r ⟨false, false, false, mr⟩ = k := ⟨_, rfl⟩
  rw [hpcd] at d12'
  have pn : (pcd == 0) = false := by
   rw [← hpcd]
   unfold pcD
   rcases hop with e | e | e <;> rw [e] <;> simp <;> split <;> simp
  go_wp2
  go_ret
  refine ⟨rfl, pd, ⟨T8.mono (by omega), B8, O8⟩, ?_, npd⟩
  first
   | exact D8
   | (rw [hsm, hg1]; exact D8)
 ·have hg1' : 1 ≤ md := by simpa using hg1
  obtain ⟨g2, hg2⟩ : ∃ b, decide (md ≤ 3) = b := ⟨_, rfl⟩
  refine wp_region_held_drew (S := fun w' => w'.cell? ⟨p, 0, none⟩ = some (.int .i64 r.op) ∧ w'.cell? ⟨p, 1, none⟩ = some (.int .i64 r.at_) ∧ w'.cell? ⟨p, 2, none⟩ = some (.int .i64 r.fd) ∧ w'.cell? ⟨p, 3, none⟩ = some (.int .i64 r.x.k) ∧ w'.cell? ⟨p, 4, none⟩ = some (.int .i64 r.x.n) ∧ w'.cell? ⟨p, 5, none⟩ = some (.int .i64 r.y.k) ∧ w'.cell? ⟨p, 6, none⟩ = some (.int .i64 r.y.n) ∧ w'.cell? ⟨p, 7, none⟩ = some (.int .i64 md) ∧ w'.cell? ⟨p, 8, none⟩ = some (.int .i64 mr)) (by kernel_rfl) RD (fun hHeld => ?_)
  refine tkH (i := 0) 55 (pt p) rfl rfl ?_
  simp only [sA1, sA2, sA3]
  refine tkH (i := 1) 56 (pt p) rfl rfl ?_
  simp only [sA1, sA2, sA3]
  refine tkH (i := 2) 57 (pt p) rfl rfl ?_
  simp only [sA1, sA2, sA3]
  refine tkH (i := 3) 58 (.pointer (some ⟨p, 0, none⟩)) rfl rfl ?_
  simp only [sA1, sA2, sA3]
  refine tkH (i := 4) 59 (.pointer (some ⟨p, 1, none⟩)) rfl rfl ?_
  simp only [sA1, sA2, sA3]
  refine tkH (i := 5) 60 (.int .i64 r.at_) rfl rfl ?_
  simp only [sA1, sA2, sA3]
  refine tkH (i := 6) 61 (pt p) rfl rfl ?_
  simp only [sA1, sA2, sA3]
  refine tkH (i := 7) 62 (pt p) rfl rfl ?_
  simp only [sA1, sA2, sA3]
  refine tkH (i := 8) 63 (.pointer (some ⟨p, 0, none⟩)) rfl rfl ?_
  simp only [sA1, sA2, sA3]
  refine tkH (i := 9) 64 (.agg #[.int .i64 r.op, .int .i64 r.at_, .int .i64 r.fd, .int .i64 r.x.k, .int .i64 r.x.n, .int .i64 r.y.k, .int .i64 r.y.n]) rfl rfl ?_
  simp only [sA1, sA2, sA3]
  refine tkH (i := 10) 65 (pt p) rfl rfl ?_
  simp only [sA1, sA2, sA3]
  refine tkH (i := 11) 66 (pt p) rfl rfl ?_
  simp only [sA1, sA2, sA3]
  refine tkH (i := 12) 67 (.pointer (some ⟨p, 7, none⟩)) rfl rfl ?_
  simp only [sA1, sA2, sA3]
  refine tkH (i := 13) 68 (.pointer (some ⟨p, 7, none⟩)) rfl rfl ?_
  simp only [sA1, sA2, sA3]
  refine tkH (i := 14) 69 (.int .i64 md) rfl rfl ?_
  simp only [sA1, sA2, sA3]
  refine tkX (i := 15) 70 (.bool true) rfl rfl ?_ ?_
  ·intro w hSw; (try dsimp only at hSw); go_simp <;> first | assumption | omega | (simp; omega)
  simp only [sA1, sA2, sA3]
  refine tkH (i := 16) 71 (.bool true) rfl rfl ?_
  simp only [sA1, sA2, sA3]
  refine tkH (i := 17) 72 (pt p) rfl rfl ?_
  simp only [sA1, sA2, sA3]
  refine tkH (i := 18) 73 (pt p) rfl rfl ?_
  simp only [sA1, sA2, sA3]
  refine tkH (i := 19) 74 (.pointer (some ⟨p, 7, none⟩)) rfl rfl ?_
  simp only [sA1, sA2, sA3]
  refine tkH (i := 20) 75 (.pointer (some ⟨p, 7, none⟩)) rfl rfl ?_
  simp only [sA1, sA2, sA3]
  refine tkH (i := 21) 76 (.int .i64 md) rfl rfl ?_
  simp only [sA1, sA2, sA3]
  refine tkX (i := 22) 77 (.bool g2) rfl rfl ?_ ?_
  ·intro w hSw; (try dsimp only at hSw); go_simp <;> first | assumption | omega | (simp; omega)
  simp only [sA1, sA2, sA3]
  refine tkH (i := 23) 78 (.bool g2) rfl rfl ?_
  simp only [sA1, sA2, sA3]
  refine tkH (i := 24) 79 (pt p) rfl rfl ?_
  simp only [sA1, sA2, sA3]
  refine tkH (i := 25) 80 (pt p) rfl rfl ?_
  simp only [sA1, sA2, sA3]
  refine tkH (i := 26) 81 (.pointer (some ⟨p, 7, none⟩)) rfl rfl ?_
  simp only [sA1, sA2, sA3]
  refine tkH (i := 27) 82 (.pointer (some ⟨p, 8, none⟩)) rfl rfl ?_
  simp only [sA1, sA2, sA3]
  refine tkH (i := 28) 83 (.int .i64 mr) rfl rfl ?_
  simp only [sA1, sA2, sA3]
  refine tkH (i := 29) 84 (.agg #[.bool g2, .bool false, .bool false, .int .i64 mr]) rfl rfl ?_
  simp only [sA1, sA2, sA3]
  refine rd1 30 rfl fun K hK => ?_
  go_simp
  refine (rNewDirect r.at_ r ⟨g2, false, false, mr⟩ _ ha0 ha1 hq0 (by omega) hop).mono ?_
  rintro e w7 ⟨pd, rfl, M7⟩
  have hb7 := bel_trans ((Below.refl w6.heap.size w6).drew) M7.bel
  have B7 := B6.below hb7
  have sx : w7.cell? ⟨p, 11, none⟩ = some xx := B7.cell 11
  have sz := B7.free 11
  refine hK.out _ _ (keep _ hb7) (fun hHeld => ?_)
  clear hK K
  try simp only [Act.put, sA1, sA2, sA3]
  refine tkH (i := 31) 86 (pt p) rfl rfl ?_
  simp only [sA1, sA2, sA3]
  refine tkH (i := 32) 87 (.pointer (some ⟨p, 11, none⟩)) rfl rfl ?_
  simp only [sA1, sA2, sA3]
  refine rd1 33 rfl fun K hK => ?_
  go_simp
  refine hK.out _ _ ⟨(B7.set 11 (pt pd)).cell 0, (B7.set 11 (pt pd)).cell 1, (B7.set 11 (pt pd)).cell 2, (B7.set 11 (pt pd)).cell 3, (B7.set 11 (pt pd)).cell 4, (B7.set 11 (pt pd)).cell 5, (B7.set 11 (pt pd)).cell 6, (B7.set 11 (pt pd)).cell 7, (B7.set 11 (pt pd)).cell 8⟩ (fun hHeld => ?_)
  clear hK K
  try simp only [Act.put, sA1, sA2, sA3]
  refine wpAnyH_done (by kernel_rfl) ?_ _
  refine NoPanic.normal ?_
  have T7 := T6.below hb7
  have O7 : Oth [p] w w7 := O6.trans (Oth.below hb7)
  have hs6 : w0.heap.size ≤ w6.heap.size := Nat.le_trans B6.old (Nat.le_of_lt B6.lt)
  have D7 := M7.blk' (w0 := w0) (by have := hb7.size; exact hs6) (by decide)
  have npd : w.heap.size ≤ pd := Nat.le_trans O6.size M7.new
  clear c0 c1 c2 c3 c4 c5 c6 c7 c8 c9 c10 c11 c12 c13 c14 c15 c16 cl cz sx sz hHeld keep RD
  have B8 : Blk w0 (w7.setCell ⟨p, 11, none⟩ (pt pd)) p 119 #[.int .i64 r.op, .int .i64 r.at_, .int .i64 r.fd, .int .i64 r.x.k, .int .i64 r.x.n, .int .i64 r.y.k, .int .i64 r.y.n, .int .i64 md, .int .i64 mr, .int .i64 al, .int .i64 2, pt pd, .bool false, .int .i64 oc, .int .i64 ov.k, .int .i64 ov.n, .bool oy] := (B7.set 11 (pt pd))
  have T8 := (T7.set B7 11 (pt pd))
  have O8 : Oth [p] w (w7.setCell ⟨p, 11, none⟩ (pt pd)) := (O7.trans (Oth.set _ _ _ _ (by simp)))
  have D8 := D7.oth (Oth.set (F := [p]) w7 p 11 (pt pd) (by simp)) (by simpa using D7.ne B7 (by decide))
  generalize (w7.setCell ⟨p, 11, none⟩ (pt pd)) = w8 at B8 T8 O8 D8 ⊢
  have d12 := D8.cell 12
  have dl := D8.lt
  have c0 : w8.cell? ⟨p, 0, none⟩ = some (.int .i64 r.op) := B8.cell 0
  have c1 : w8.cell? ⟨p, 1, none⟩ = some (.int .i64 r.at_) := B8.cell 1
  have c2 : w8.cell? ⟨p, 2, none⟩ = some (.int .i64 r.fd) := B8.cell 2
  have c3 : w8.cell? ⟨p, 3, none⟩ = some (.int .i64 r.x.k) := B8.cell 3
  have c4 : w8.cell? ⟨p, 4, none⟩ = some (.int .i64 r.x.n) := B8.cell 4
  have c5 : w8.cell? ⟨p, 5, none⟩ = some (.int .i64 r.y.k) := B8.cell 5
  have c6 : w8.cell? ⟨p, 6, none⟩ = some (.int .i64 r.y.n) := B8.cell 6
  have c7 : w8.cell? ⟨p, 7, none⟩ = some (.int .i64 md) := B8.cell 7
  have c8 : w8.cell? ⟨p, 8, none⟩ = some (.int .i64 mr) := B8.cell 8
  have c9 : w8.cell? ⟨p, 9, none⟩ = some (.int .i64 al) := B8.cell 9
  have c10 : w8.cell? ⟨p, 10, none⟩ = some (.int .i64 2) := B8.cell 10
  have c11 : w8.cell? ⟨p, 11, none⟩ = some (pt pd) := B8.cell 11
  have c12 : w8.cell? ⟨p, 12, none⟩ = some (.bool false) := B8.cell 12
  have c13 : w8.cell? ⟨p, 13, none⟩ = some (.int .i64 oc) := B8.cell 13
  have c14 : w8.cell? ⟨p, 14, none⟩ = some (.int .i64 ov.k) := B8.cell 14
  have c15 : w8.cell? ⟨p, 15, none⟩ = some (.int .i64 ov.n) := B8.cell 15
  have c16 : w8.cell? ⟨p, 16, none⟩ = some (.bool oy) := B8.cell 16
  have cl := B8.lt
  have cz : ∀ i, w8.frozen? ⟨p, i, none⟩ = false := fun i => B8.free i
  have d12' : w8.cell? ⟨pd, 12, none⟩ = some (.int .i64 (pcD r ⟨g2, false, false, mr⟩)) := d12
  clear d12
  obtain ⟨pcd, hpcd⟩ : ∃ k, pcD r ⟨g2, false, false, mr⟩ = k := ⟨_, rfl⟩
  rw [hpcd] at d12'
  have pn : (pcd == 0) = false := by
   rw [← hpcd]
   unfold pcD
   rcases hop with e | e | e <;> rw [e] <;> simp <;> split <;> simp
  go_wp2
  go_ret
  refine ⟨rfl, pd, ⟨T8.mono (by omega), B8, O8⟩, ?_, npd⟩
  first
   | exact D8
   | (rw [hsm, hg1, hg2]; exact D8)
set_option maxHeartbeats 4000000 in
theorem rp2n {w0 w : World} {b y p : Nat} {s1 s2 : St} {N : Nat} {d : RP} (h : Two w0 w b y s1 s2 N) (B : Blk w0 w p 119 d.cells) (hN : N + 5 < 1000000) (hpc : d.pc = 2) {pd : Nat} {F : List Nat} {x : Sx} (hx : d.x = pt pd) (M : RDm w0 w pd F x) (hpF : ∀ k ∈ F, k ≠ p) (hpF' : p ∉ F) (hdn : (x.next s2).done = false) :
  Calls Tryz.prog 59 #[pt p, pt y] w fun e w' => e = .returned (.bool false) ∧ RpTo w0 w w' b y p s1 (x.mem s2) N ⟨d.r, d.e, 2, d.x, (x.next s2).hit, d.o⟩ (p :: pd :: F) ∧ ∃ F', RDm w0 w' pd F' (x.next s2) ∧ ∀ k ∈ F', k ∈ F ∨ w.heap.size ≤ k := by
 obtain ⟨r, ⟨md, mr, al⟩, pc, xx, sh, ⟨oc, ov, oy⟩⟩ := d
 simp only [RP.cells] at B hpc hx ⊢
 subst hpc hx
 obtain ⟨x', hx'⟩ : ∃ x', x.next s2 = x' := ⟨_, rfl⟩
 rw [hx'] at hdn ⊢
 have c0 : w.cell? ⟨p, 0, none⟩ = some (.int .i64 r.op) := B.cell 0
 have c1 : w.cell? ⟨p, 1, none⟩ = some (.int .i64 r.at_) := B.cell 1
 have c2 : w.cell? ⟨p, 2, none⟩ = some (.int .i64 r.fd) := B.cell 2
 have c3 : w.cell? ⟨p, 3, none⟩ = some (.int .i64 r.x.k) := B.cell 3
 have c4 : w.cell? ⟨p, 4, none⟩ = some (.int .i64 r.x.n) := B.cell 4
 have c5 : w.cell? ⟨p, 5, none⟩ = some (.int .i64 r.y.k) := B.cell 5
 have c6 : w.cell? ⟨p, 6, none⟩ = some (.int .i64 r.y.n) := B.cell 6
 have c7 : w.cell? ⟨p, 7, none⟩ = some (.int .i64 md) := B.cell 7
 have c8 : w.cell? ⟨p, 8, none⟩ = some (.int .i64 mr) := B.cell 8
 have c9 : w.cell? ⟨p, 9, none⟩ = some (.int .i64 al) := B.cell 9
 have c10 : w.cell? ⟨p, 10, none⟩ = some (.int .i64 2) := B.cell 10
 have c11 : w.cell? ⟨p, 11, none⟩ = some (pt pd) := B.cell 11
 have c12 : w.cell? ⟨p, 12, none⟩ = some (.bool sh) := B.cell 12
 have c13 : w.cell? ⟨p, 13, none⟩ = some (.int .i64 oc) := B.cell 13
 have c14 : w.cell? ⟨p, 14, none⟩ = some (.int .i64 ov.k) := B.cell 14
 have c15 : w.cell? ⟨p, 15, none⟩ = some (.int .i64 ov.n) := B.cell 15
 have c16 : w.cell? ⟨p, 16, none⟩ = some (.bool oy) := B.cell 16
 have cl := B.lt
 have cz : ∀ i, w.frozen? ⟨p, i, none⟩ = false := fun i => B.free i
 go_enter Tryz.func59, Tryz.ntmps59
 go_upto_region 15 with (fail)
 clear c0 c1 c2 c3 c4 c5 c6 c7 c8 c9 c10 c11 c12 c13 c14 c15 c16 cl cz
 have B1 : Blk w0 (w.setCell ⟨p, 12, none⟩ (.bool false)) p 119 #[.int .i64 r.op, .int .i64 r.at_, .int .i64 r.fd, .int .i64 r.x.k, .int .i64 r.x.n, .int .i64 r.y.k, .int .i64 r.y.n, .int .i64 md, .int .i64 mr, .int .i64 al, .int .i64 2, pt pd, .bool false, .int .i64 oc, .int .i64 ov.k, .int .i64 ov.n, .bool oy] := B.set 12 (.bool false)
 have T1 := h.set B 12 (.bool false)
 have O1 : Oth (p :: pd :: F) w (w.setCell ⟨p, 12, none⟩ (.bool false)) := Oth.set _ _ _ _ (by simp)
 have hne : pd ≠ p := by
  obtain ⟨dd, BB, _⟩ := M
  exact BB.ne B (by decide)
 have M1 := M.oth (Oth.set (F := [p]) w p 12 (.bool false) (by simp)) (by simpa using hne) (by simpa using hpF)
 generalize w.setCell ⟨p, 12, none⟩ (.bool false) = w1 at B1 T1 O1 M1 ⊢
 have c0 : w1.cell? ⟨p, 0, none⟩ = some (.int .i64 r.op) := B1.cell 0
 have c1 : w1.cell? ⟨p, 1, none⟩ = some (.int .i64 r.at_) := B1.cell 1
 have c2 : w1.cell? ⟨p, 2, none⟩ = some (.int .i64 r.fd) := B1.cell 2
 have c3 : w1.cell? ⟨p, 3, none⟩ = some (.int .i64 r.x.k) := B1.cell 3
 have c4 : w1.cell? ⟨p, 4, none⟩ = some (.int .i64 r.x.n) := B1.cell 4
 have c5 : w1.cell? ⟨p, 5, none⟩ = some (.int .i64 r.y.k) := B1.cell 5
 have c6 : w1.cell? ⟨p, 6, none⟩ = some (.int .i64 r.y.n) := B1.cell 6
 have c7 : w1.cell? ⟨p, 7, none⟩ = some (.int .i64 md) := B1.cell 7
 have c8 : w1.cell? ⟨p, 8, none⟩ = some (.int .i64 mr) := B1.cell 8
 have c9 : w1.cell? ⟨p, 9, none⟩ = some (.int .i64 al) := B1.cell 9
 have c10 : w1.cell? ⟨p, 10, none⟩ = some (.int .i64 2) := B1.cell 10
 have c11 : w1.cell? ⟨p, 11, none⟩ = some (pt pd) := B1.cell 11
 have c12 : w1.cell? ⟨p, 12, none⟩ = some (.bool false) := B1.cell 12
 have c13 : w1.cell? ⟨p, 13, none⟩ = some (.int .i64 oc) := B1.cell 13
 have c14 : w1.cell? ⟨p, 14, none⟩ = some (.int .i64 ov.k) := B1.cell 14
 have c15 : w1.cell? ⟨p, 15, none⟩ = some (.int .i64 ov.n) := B1.cell 15
 have c16 : w1.cell? ⟨p, 16, none⟩ = some (.bool oy) := B1.cell 16
 have cl := B1.lt
 have cz : ∀ i, w1.frozen? ⟨p, i, none⟩ = false := fun i => B1.free i
 go_upto_region 16 with (go_at_call 60; refine (rDStep T1 M1 (by omega)).mono ?_; rintro e w2 ⟨rfl, T2, o2, F', M2, fr⟩; rw [hx'] at M2; rw [hx', hdn]; have B2 := B1.oth o2 (by simp only [List.mem_cons, not_or]; exact ⟨Ne.symm hne, hpF'⟩); have O2 : Oth (p :: pd :: F) w w2 := O1.trans (o2.mono (by simp +contextual)))
 clear c0 c1 c2 c3 c4 c5 c6 c7 c8 c9 c10 c11 c12 c13 c14 c15 c16 cl cz
 have hne2 : pd ≠ p := hne
 have hpF2 : ∀ k ∈ F', k ≠ p := fun k hk => by
  rcases fr k hk with h | h
  ·exact hpF k h
  ·have := B1.lt; omega
 have hfr : ∀ k ∈ F', k ∈ F ∨ w.heap.size ≤ k := fun k hk => (fr k hk).imp id fun h => Nat.le_trans O1.size h
 clear fr o2
 have sh2 := M2.shown
 obtain ⟨hh, hhh⟩ : ∃ k, x'.hit = k := ⟨_, rfl⟩
 rw [hhh] at sh2
 have ml := M2.lt
 obtain ⟨pc, oc', k', n', yy', d12, d17, d18, d19, d20, q1, q2, q3⟩ := M2.told
 have c0 : w2.cell? ⟨p, 0, none⟩ = some (.int .i64 r.op) := B2.cell 0
 have c1 : w2.cell? ⟨p, 1, none⟩ = some (.int .i64 r.at_) := B2.cell 1
 have c2 : w2.cell? ⟨p, 2, none⟩ = some (.int .i64 r.fd) := B2.cell 2
 have c3 : w2.cell? ⟨p, 3, none⟩ = some (.int .i64 r.x.k) := B2.cell 3
 have c4 : w2.cell? ⟨p, 4, none⟩ = some (.int .i64 r.x.n) := B2.cell 4
 have c5 : w2.cell? ⟨p, 5, none⟩ = some (.int .i64 r.y.k) := B2.cell 5
 have c6 : w2.cell? ⟨p, 6, none⟩ = some (.int .i64 r.y.n) := B2.cell 6
 have c7 : w2.cell? ⟨p, 7, none⟩ = some (.int .i64 md) := B2.cell 7
 have c8 : w2.cell? ⟨p, 8, none⟩ = some (.int .i64 mr) := B2.cell 8
 have c9 : w2.cell? ⟨p, 9, none⟩ = some (.int .i64 al) := B2.cell 9
 have c10 : w2.cell? ⟨p, 10, none⟩ = some (.int .i64 2) := B2.cell 10
 have c11 : w2.cell? ⟨p, 11, none⟩ = some (pt pd) := B2.cell 11
 have c12 : w2.cell? ⟨p, 12, none⟩ = some (.bool false) := B2.cell 12
 have c13 : w2.cell? ⟨p, 13, none⟩ = some (.int .i64 oc) := B2.cell 13
 have c14 : w2.cell? ⟨p, 14, none⟩ = some (.int .i64 ov.k) := B2.cell 14
 have c15 : w2.cell? ⟨p, 15, none⟩ = some (.int .i64 ov.n) := B2.cell 15
 have c16 : w2.cell? ⟨p, 16, none⟩ = some (.bool oy) := B2.cell 16
 have cl := B2.lt
 have cz : ∀ i, w2.frozen? ⟨p, i, none⟩ = false := fun i => B2.free i
 go_upto_region 17 with (fail)
 clear c0 c1 c2 c3 c4 c5 c6 c7 c8 c9 c10 c11 c12 c13 c14 c15 c16 cl cz
 clear sh2 ml
 have B3 : Blk w0 (w2.setCell ⟨p, 12, none⟩ (.bool hh)) p 119 #[.int .i64 r.op, .int .i64 r.at_, .int .i64 r.fd, .int .i64 r.x.k, .int .i64 r.x.n, .int .i64 r.y.k, .int .i64 r.y.n, .int .i64 md, .int .i64 mr, .int .i64 al, .int .i64 2, pt pd, .bool hh, .int .i64 oc, .int .i64 ov.k, .int .i64 ov.n, .bool oy] := (B2.set 12 (.bool hh))
 have T3 := (T2.set B2 12 (.bool hh))
 have O3 : Oth (p :: pd :: F) w (w2.setCell ⟨p, 12, none⟩ (.bool hh)) := (O2.trans (Oth.set _ _ _ _ (by simp)))
 have M3 := M2.oth (Oth.set (F := [p]) w2 p 12 (.bool hh) (by simp)) (by simpa using hne2) (by simpa using hpF2)
 generalize (w2.setCell ⟨p, 12, none⟩ (.bool hh)) = w3 at B3 T3 O3 M3 ⊢
 clear d12 d17 d18 d19 d20 q1 q2 q3
 have c0 : w3.cell? ⟨p, 0, none⟩ = some (.int .i64 r.op) := B3.cell 0
 have c1 : w3.cell? ⟨p, 1, none⟩ = some (.int .i64 r.at_) := B3.cell 1
 have c2 : w3.cell? ⟨p, 2, none⟩ = some (.int .i64 r.fd) := B3.cell 2
 have c3 : w3.cell? ⟨p, 3, none⟩ = some (.int .i64 r.x.k) := B3.cell 3
 have c4 : w3.cell? ⟨p, 4, none⟩ = some (.int .i64 r.x.n) := B3.cell 4
 have c5 : w3.cell? ⟨p, 5, none⟩ = some (.int .i64 r.y.k) := B3.cell 5
 have c6 : w3.cell? ⟨p, 6, none⟩ = some (.int .i64 r.y.n) := B3.cell 6
 have c7 : w3.cell? ⟨p, 7, none⟩ = some (.int .i64 md) := B3.cell 7
 have c8 : w3.cell? ⟨p, 8, none⟩ = some (.int .i64 mr) := B3.cell 8
 have c9 : w3.cell? ⟨p, 9, none⟩ = some (.int .i64 al) := B3.cell 9
 have c10 : w3.cell? ⟨p, 10, none⟩ = some (.int .i64 2) := B3.cell 10
 have c11 : w3.cell? ⟨p, 11, none⟩ = some (pt pd) := B3.cell 11
 have c12 : w3.cell? ⟨p, 12, none⟩ = some (.bool hh) := B3.cell 12
 have c13 : w3.cell? ⟨p, 13, none⟩ = some (.int .i64 oc) := B3.cell 13
 have c14 : w3.cell? ⟨p, 14, none⟩ = some (.int .i64 ov.k) := B3.cell 14
 have c15 : w3.cell? ⟨p, 15, none⟩ = some (.int .i64 ov.n) := B3.cell 15
 have c16 : w3.cell? ⟨p, 16, none⟩ = some (.bool oy) := B3.cell 16
 have cl := B3.lt
 have cz : ∀ i, w3.frozen? ⟨p, i, none⟩ = false := fun i => B3.free i
 go_wp2
 go_ret
 exact ⟨rfl, ⟨T3.mono (by omega), hhh ▸ B3, O3⟩, F', M3, hfr⟩
set_option maxHeartbeats 4000000 in
theorem rp2d {w0 w : World} {b y p : Nat} {s1 s2 : St} {N : Nat} {d : RP} (h : Two w0 w b y s1 s2 N) (B : Blk w0 w p 119 d.cells) (hN : N + 5 < 1000000) (hpc : d.pc = 2) {pd : Nat} {F : List Nat} {x : Sx} (hx : d.x = pt pd) (M : RDm w0 w pd F x) (hpF : ∀ k ∈ F, k ≠ p) (hpF' : p ∉ F) (hdn : (x.next s2).done = true) :
  Calls Tryz.prog 59 #[pt p, pt y] w fun e w' => e = .returned (.bool true) ∧ RpTo w0 w w' b y p s1 (x.mem s2) N ⟨d.r, d.e, 0, d.x, (x.next s2).hit, (x.next s2).o⟩ (p :: pd :: F) := by
 obtain ⟨r, ⟨md, mr, al⟩, pc, xx, sh, ⟨oc, ov, oy⟩⟩ := d
 simp only [RP.cells] at B hpc hx ⊢
 subst hpc hx
 obtain ⟨x', hx'⟩ : ∃ x', x.next s2 = x' := ⟨_, rfl⟩
 rw [hx'] at hdn ⊢
 have c0 : w.cell? ⟨p, 0, none⟩ = some (.int .i64 r.op) := B.cell 0
 have c1 : w.cell? ⟨p, 1, none⟩ = some (.int .i64 r.at_) := B.cell 1
 have c2 : w.cell? ⟨p, 2, none⟩ = some (.int .i64 r.fd) := B.cell 2
 have c3 : w.cell? ⟨p, 3, none⟩ = some (.int .i64 r.x.k) := B.cell 3
 have c4 : w.cell? ⟨p, 4, none⟩ = some (.int .i64 r.x.n) := B.cell 4
 have c5 : w.cell? ⟨p, 5, none⟩ = some (.int .i64 r.y.k) := B.cell 5
 have c6 : w.cell? ⟨p, 6, none⟩ = some (.int .i64 r.y.n) := B.cell 6
 have c7 : w.cell? ⟨p, 7, none⟩ = some (.int .i64 md) := B.cell 7
 have c8 : w.cell? ⟨p, 8, none⟩ = some (.int .i64 mr) := B.cell 8
 have c9 : w.cell? ⟨p, 9, none⟩ = some (.int .i64 al) := B.cell 9
 have c10 : w.cell? ⟨p, 10, none⟩ = some (.int .i64 2) := B.cell 10
 have c11 : w.cell? ⟨p, 11, none⟩ = some (pt pd) := B.cell 11
 have c12 : w.cell? ⟨p, 12, none⟩ = some (.bool sh) := B.cell 12
 have c13 : w.cell? ⟨p, 13, none⟩ = some (.int .i64 oc) := B.cell 13
 have c14 : w.cell? ⟨p, 14, none⟩ = some (.int .i64 ov.k) := B.cell 14
 have c15 : w.cell? ⟨p, 15, none⟩ = some (.int .i64 ov.n) := B.cell 15
 have c16 : w.cell? ⟨p, 16, none⟩ = some (.bool oy) := B.cell 16
 have cl := B.lt
 have cz : ∀ i, w.frozen? ⟨p, i, none⟩ = false := fun i => B.free i
 go_enter Tryz.func59, Tryz.ntmps59
 go_upto_region 15 with (fail)
 clear c0 c1 c2 c3 c4 c5 c6 c7 c8 c9 c10 c11 c12 c13 c14 c15 c16 cl cz
 have B1 : Blk w0 (w.setCell ⟨p, 12, none⟩ (.bool false)) p 119 #[.int .i64 r.op, .int .i64 r.at_, .int .i64 r.fd, .int .i64 r.x.k, .int .i64 r.x.n, .int .i64 r.y.k, .int .i64 r.y.n, .int .i64 md, .int .i64 mr, .int .i64 al, .int .i64 2, pt pd, .bool false, .int .i64 oc, .int .i64 ov.k, .int .i64 ov.n, .bool oy] := B.set 12 (.bool false)
 have T1 := h.set B 12 (.bool false)
 have O1 : Oth (p :: pd :: F) w (w.setCell ⟨p, 12, none⟩ (.bool false)) := Oth.set _ _ _ _ (by simp)
 have hne : pd ≠ p := by
  obtain ⟨dd, BB, _⟩ := M
  exact BB.ne B (by decide)
 have M1 := M.oth (Oth.set (F := [p]) w p 12 (.bool false) (by simp)) (by simpa using hne) (by simpa using hpF)
 generalize w.setCell ⟨p, 12, none⟩ (.bool false) = w1 at B1 T1 O1 M1 ⊢
 have c0 : w1.cell? ⟨p, 0, none⟩ = some (.int .i64 r.op) := B1.cell 0
 have c1 : w1.cell? ⟨p, 1, none⟩ = some (.int .i64 r.at_) := B1.cell 1
 have c2 : w1.cell? ⟨p, 2, none⟩ = some (.int .i64 r.fd) := B1.cell 2
 have c3 : w1.cell? ⟨p, 3, none⟩ = some (.int .i64 r.x.k) := B1.cell 3
 have c4 : w1.cell? ⟨p, 4, none⟩ = some (.int .i64 r.x.n) := B1.cell 4
 have c5 : w1.cell? ⟨p, 5, none⟩ = some (.int .i64 r.y.k) := B1.cell 5
 have c6 : w1.cell? ⟨p, 6, none⟩ = some (.int .i64 r.y.n) := B1.cell 6
 have c7 : w1.cell? ⟨p, 7, none⟩ = some (.int .i64 md) := B1.cell 7
 have c8 : w1.cell? ⟨p, 8, none⟩ = some (.int .i64 mr) := B1.cell 8
 have c9 : w1.cell? ⟨p, 9, none⟩ = some (.int .i64 al) := B1.cell 9
 have c10 : w1.cell? ⟨p, 10, none⟩ = some (.int .i64 2) := B1.cell 10
 have c11 : w1.cell? ⟨p, 11, none⟩ = some (pt pd) := B1.cell 11
 have c12 : w1.cell? ⟨p, 12, none⟩ = some (.bool false) := B1.cell 12
 have c13 : w1.cell? ⟨p, 13, none⟩ = some (.int .i64 oc) := B1.cell 13
 have c14 : w1.cell? ⟨p, 14, none⟩ = some (.int .i64 ov.k) := B1.cell 14
 have c15 : w1.cell? ⟨p, 15, none⟩ = some (.int .i64 ov.n) := B1.cell 15
 have c16 : w1.cell? ⟨p, 16, none⟩ = some (.bool oy) := B1.cell 16
 have cl := B1.lt
 have cz : ∀ i, w1.frozen? ⟨p, i, none⟩ = false := fun i => B1.free i
 go_upto_region 16 with (go_at_call 60; refine (rDStep T1 M1 (by omega)).mono ?_; rintro e w2 ⟨rfl, T2, o2, F', M2, fr⟩; rw [hx'] at M2; rw [hx', hdn]; have B2 := B1.oth o2 (by simp only [List.mem_cons, not_or]; exact ⟨Ne.symm hne, hpF'⟩); have O2 : Oth (p :: pd :: F) w w2 := O1.trans (o2.mono (by simp +contextual)))
 clear c0 c1 c2 c3 c4 c5 c6 c7 c8 c9 c10 c11 c12 c13 c14 c15 c16 cl cz
 have hne2 : pd ≠ p := hne
 have hpF2 : ∀ k ∈ F', k ≠ p := fun k hk => by
  rcases fr k hk with h | h
  ·exact hpF k h
  ·have := B1.lt; omega
 have hfr : ∀ k ∈ F', k ∈ F ∨ w.heap.size ≤ k := fun k hk => (fr k hk).imp id fun h => Nat.le_trans O1.size h
 clear fr o2
 have sh2 := M2.shown
 obtain ⟨hh, hhh⟩ : ∃ k, x'.hit = k := ⟨_, rfl⟩
 rw [hhh] at sh2
 have ml := M2.lt
 obtain ⟨pc, oc', k', n', yy', d12, d17, d18, d19, d20, q1, q2, q3⟩ := M2.told
 have c0 : w2.cell? ⟨p, 0, none⟩ = some (.int .i64 r.op) := B2.cell 0
 have c1 : w2.cell? ⟨p, 1, none⟩ = some (.int .i64 r.at_) := B2.cell 1
 have c2 : w2.cell? ⟨p, 2, none⟩ = some (.int .i64 r.fd) := B2.cell 2
 have c3 : w2.cell? ⟨p, 3, none⟩ = some (.int .i64 r.x.k) := B2.cell 3
 have c4 : w2.cell? ⟨p, 4, none⟩ = some (.int .i64 r.x.n) := B2.cell 4
 have c5 : w2.cell? ⟨p, 5, none⟩ = some (.int .i64 r.y.k) := B2.cell 5
 have c6 : w2.cell? ⟨p, 6, none⟩ = some (.int .i64 r.y.n) := B2.cell 6
 have c7 : w2.cell? ⟨p, 7, none⟩ = some (.int .i64 md) := B2.cell 7
 have c8 : w2.cell? ⟨p, 8, none⟩ = some (.int .i64 mr) := B2.cell 8
 have c9 : w2.cell? ⟨p, 9, none⟩ = some (.int .i64 al) := B2.cell 9
 have c10 : w2.cell? ⟨p, 10, none⟩ = some (.int .i64 2) := B2.cell 10
 have c11 : w2.cell? ⟨p, 11, none⟩ = some (pt pd) := B2.cell 11
 have c12 : w2.cell? ⟨p, 12, none⟩ = some (.bool false) := B2.cell 12
 have c13 : w2.cell? ⟨p, 13, none⟩ = some (.int .i64 oc) := B2.cell 13
 have c14 : w2.cell? ⟨p, 14, none⟩ = some (.int .i64 ov.k) := B2.cell 14
 have c15 : w2.cell? ⟨p, 15, none⟩ = some (.int .i64 ov.n) := B2.cell 15
 have c16 : w2.cell? ⟨p, 16, none⟩ = some (.bool oy) := B2.cell 16
 have cl := B2.lt
 have cz : ∀ i, w2.frozen? ⟨p, i, none⟩ = false := fun i => B2.free i
 go_upto_region 17 with (fail)
 clear c0 c1 c2 c3 c4 c5 c6 c7 c8 c9 c10 c11 c12 c13 c14 c15 c16 cl cz
 clear sh2 ml
 have B3 : Blk w0 (w2.setCell ⟨p, 12, none⟩ (.bool hh)) p 119 #[.int .i64 r.op, .int .i64 r.at_, .int .i64 r.fd, .int .i64 r.x.k, .int .i64 r.x.n, .int .i64 r.y.k, .int .i64 r.y.n, .int .i64 md, .int .i64 mr, .int .i64 al, .int .i64 2, pt pd, .bool hh, .int .i64 oc, .int .i64 ov.k, .int .i64 ov.n, .bool oy] := (B2.set 12 (.bool hh))
 have T3 := (T2.set B2 12 (.bool hh))
 have O3 : Oth (p :: pd :: F) w (w2.setCell ⟨p, 12, none⟩ (.bool hh)) := (O2.trans (Oth.set _ _ _ _ (by simp)))
 have M3 := M2.oth (Oth.set (F := [p]) w2 p 12 (.bool hh) (by simp)) (by simpa using hne2) (by simpa using hpF2)
 generalize (w2.setCell ⟨p, 12, none⟩ (.bool hh)) = w3 at B3 T3 O3 M3 ⊢
 clear d12 d17 d18 d19 d20 q1 q2 q3
 obtain ⟨pc, oc', k', n', yy', d12, d17, d18, d19, d20, q1, q2, q3⟩ := M3.told
 have q4 := q2 hdn
 clear q1 q2 q3
 have ml := M3.lt
 have c0 : w3.cell? ⟨p, 0, none⟩ = some (.int .i64 r.op) := B3.cell 0
 have c1 : w3.cell? ⟨p, 1, none⟩ = some (.int .i64 r.at_) := B3.cell 1
 have c2 : w3.cell? ⟨p, 2, none⟩ = some (.int .i64 r.fd) := B3.cell 2
 have c3 : w3.cell? ⟨p, 3, none⟩ = some (.int .i64 r.x.k) := B3.cell 3
 have c4 : w3.cell? ⟨p, 4, none⟩ = some (.int .i64 r.x.n) := B3.cell 4
 have c5 : w3.cell? ⟨p, 5, none⟩ = some (.int .i64 r.y.k) := B3.cell 5
 have c6 : w3.cell? ⟨p, 6, none⟩ = some (.int .i64 r.y.n) := B3.cell 6
 have c7 : w3.cell? ⟨p, 7, none⟩ = some (.int .i64 md) := B3.cell 7
 have c8 : w3.cell? ⟨p, 8, none⟩ = some (.int .i64 mr) := B3.cell 8
 have c9 : w3.cell? ⟨p, 9, none⟩ = some (.int .i64 al) := B3.cell 9
 have c10 : w3.cell? ⟨p, 10, none⟩ = some (.int .i64 2) := B3.cell 10
 have c11 : w3.cell? ⟨p, 11, none⟩ = some (pt pd) := B3.cell 11
 have c12 : w3.cell? ⟨p, 12, none⟩ = some (.bool hh) := B3.cell 12
 have c13 : w3.cell? ⟨p, 13, none⟩ = some (.int .i64 oc) := B3.cell 13
 have c14 : w3.cell? ⟨p, 14, none⟩ = some (.int .i64 ov.k) := B3.cell 14
 have c15 : w3.cell? ⟨p, 15, none⟩ = some (.int .i64 ov.n) := B3.cell 15
 have c16 : w3.cell? ⟨p, 16, none⟩ = some (.bool oy) := B3.cell 16
 have cl := B3.lt
 have cz : ∀ i, w3.frozen? ⟨p, i, none⟩ = false := fun i => B3.free i
 go_upto_region 19 with (fail)
 clear c0 c1 c2 c3 c4 c5 c6 c7 c8 c9 c10 c11 c12 c13 c14 c15 c16 cl cz
 have B4 : Blk w0 ((((w3.setCell ⟨p, 13, none⟩ (.int .i64 oc')).setCell ⟨p, 14, none⟩ (.int .i64 k')).setCell ⟨p, 15, none⟩ (.int .i64 n')).setCell ⟨p, 16, none⟩ (.bool yy')) p 119 #[.int .i64 r.op, .int .i64 r.at_, .int .i64 r.fd, .int .i64 r.x.k, .int .i64 r.x.n, .int .i64 r.y.k, .int .i64 r.y.n, .int .i64 md, .int .i64 mr, .int .i64 al, .int .i64 2, pt pd, .bool hh, .int .i64 oc', .int .i64 k', .int .i64 n', .bool yy'] := ((((B3.set 13 (.int .i64 oc')).set 14 (.int .i64 k')).set 15 (.int .i64 n')).set 16 (.bool yy'))
 have T4 := ((((T3.set B3 13 (.int .i64 oc')).set (B3.set 13 (.int .i64 oc')) 14 (.int .i64 k')).set ((B3.set 13 (.int .i64 oc')).set 14 (.int .i64 k')) 15 (.int .i64 n')).set (((B3.set 13 (.int .i64 oc')).set 14 (.int .i64 k')).set 15 (.int .i64 n')) 16 (.bool yy'))
 have O4 : Oth (p :: pd :: F) w ((((w3.setCell ⟨p, 13, none⟩ (.int .i64 oc')).setCell ⟨p, 14, none⟩ (.int .i64 k')).setCell ⟨p, 15, none⟩ (.int .i64 n')).setCell ⟨p, 16, none⟩ (.bool yy')) := ((((O3.trans (Oth.set _ _ _ _ (by simp))).trans (Oth.set _ _ _ _ (by simp))).trans (Oth.set _ _ _ _ (by simp))).trans (Oth.set _ _ _ _ (by simp)))
 generalize ((((w3.setCell ⟨p, 13, none⟩ (.int .i64 oc')).setCell ⟨p, 14, none⟩ (.int .i64 k')).setCell ⟨p, 15, none⟩ (.int .i64 n')).setCell ⟨p, 16, none⟩ (.bool yy')) = w4 at B4 T4 O4  ⊢
 have c0 : w4.cell? ⟨p, 0, none⟩ = some (.int .i64 r.op) := B4.cell 0
 have c1 : w4.cell? ⟨p, 1, none⟩ = some (.int .i64 r.at_) := B4.cell 1
 have c2 : w4.cell? ⟨p, 2, none⟩ = some (.int .i64 r.fd) := B4.cell 2
 have c3 : w4.cell? ⟨p, 3, none⟩ = some (.int .i64 r.x.k) := B4.cell 3
 have c4 : w4.cell? ⟨p, 4, none⟩ = some (.int .i64 r.x.n) := B4.cell 4
 have c5 : w4.cell? ⟨p, 5, none⟩ = some (.int .i64 r.y.k) := B4.cell 5
 have c6 : w4.cell? ⟨p, 6, none⟩ = some (.int .i64 r.y.n) := B4.cell 6
 have c7 : w4.cell? ⟨p, 7, none⟩ = some (.int .i64 md) := B4.cell 7
 have c8 : w4.cell? ⟨p, 8, none⟩ = some (.int .i64 mr) := B4.cell 8
 have c9 : w4.cell? ⟨p, 9, none⟩ = some (.int .i64 al) := B4.cell 9
 have c10 : w4.cell? ⟨p, 10, none⟩ = some (.int .i64 2) := B4.cell 10
 have c11 : w4.cell? ⟨p, 11, none⟩ = some (pt pd) := B4.cell 11
 have c12 : w4.cell? ⟨p, 12, none⟩ = some (.bool hh) := B4.cell 12
 have c13 : w4.cell? ⟨p, 13, none⟩ = some (.int .i64 oc') := B4.cell 13
 have c14 : w4.cell? ⟨p, 14, none⟩ = some (.int .i64 k') := B4.cell 14
 have c15 : w4.cell? ⟨p, 15, none⟩ = some (.int .i64 n') := B4.cell 15
 have c16 : w4.cell? ⟨p, 16, none⟩ = some (.bool yy') := B4.cell 16
 have cl := B4.lt
 have cz : ∀ i, w4.frozen? ⟨p, i, none⟩ = false := fun i => B4.free i
 go_wp2
 go_ret
 refine ⟨rfl, (T4.set B4 10 (.int .i64 0)).mono (by omega), ?_, (O4.trans (Oth.set _ _ _ _ (by simp)))⟩
 rw [hhh, q4]
 exact (B4.set 10 (.int .i64 0))
end Go.Proofs.YtpcoldpphihfmaaGreatDoor
namespace Go.Proofs.YtpcoldpphihfmaaGreatDoor
set_option linter.unusedVariables false
set_option linter.unusedSimpArgs false
set_option maxRecDepth 100000
open Go.ChangeShapes Go.WideShapes Go.RowKit
open H.Plain (hw pS pC pN pM pG pT pL mv)
def SimP (w0 w : World) (d : RP) (F : List Nat) (x : Sx) : Prop :=
 (x.k = none ∧ d.pc = 0 ∧ d.o = x.o ∧ F = []) ∨
 (∃ r e, x.k = some (.plain r e) ∧ d.pc = 1 ∧ d.r = r ∧ d.e = e ∧ d.o = Ou.zero ∧ x.o = Ou.zero ∧ F = [] ∧ (r.op = 1 ∨ r.op = 2 ∨ r.op = 3) ∧ 0 ≤ r.at_ ∧ r.at_ < 4096) ∨
 (x.done = false ∧ d.pc = 2 ∧ ∃ pd F', F = pd :: F' ∧ d.x = pt pd ∧ RDm w0 w pd F' x)
structure RPm (w0 w : World) (p : Nat) (F : List Nat) (x : Sx) : Prop where
 it : ∃ d : RP, Blk w0 w p 119 d.cells ∧ x.hit = d.sh ∧ SimP w0 w d F x ∧ p ∉ F
def RTs : List TypeId := [129, 119, 162]
def FootR (w0 w : World) (F : List Nat) : Prop := ∀ q ∈ F, ∃ T cs, T ∈ RTs ∧ Blk w0 w q T cs
section
variable {w0 w w' : World} {p : Nat} {F G : List Nat} {x : Sx}
theorem RDm.footR (h : RDm w0 w p F x) : FootR w0 w (p :: F) := by
 obtain ⟨d, B, U, hh, S, O⟩ := h
 intro q hq
 simp only [List.mem_cons] at hq
 rcases hq with rfl | hq
 ·exact ⟨_, _, by decide, B⟩
 ·unfold OwnS at O
  split at O
  ·obtain ⟨ps, q', z, rfl, e, B', r⟩ := O
   simp at hq
   subst hq
   exact ⟨_, _, by decide, B'⟩
  ·subst O
   simp at hq
theorem RPm.footR (h : RPm w0 w p F x) : FootR w0 w (p :: F) := by
 obtain ⟨d, B, hh, S, hp⟩ := h
 intro q hq
 simp only [List.mem_cons] at hq
 rcases hq with rfl | hq
 ·exact ⟨_, _, by decide, B⟩
 ·rcases S with ⟨_, _, _, rfl⟩ | ⟨r, e, _, _, _, _, _, _, rfl, _⟩ | ⟨_, _, pd, F', rfl, _, M⟩
  ·simp at hq
  ·simp at hq
  ·exact M.footR q hq
theorem RPm.oth (h : RPm w0 w p F x) (o : Oth G w w') (hp : p ∉ G) (hd : ∀ q ∈ F, q ∉ G) : RPm w0 w' p F x := by
 obtain ⟨d, B, hh, S, hpF⟩ := h
 refine ⟨d, B.oth o hp, hh, ?_, hpF⟩
 rcases S with S | S | ⟨h1, h2, pd, F', rfl, h3, M⟩
 ·exact .inl S
 ·exact .inr (.inl S)
 ·exact .inr (.inr ⟨h1, h2, pd, F', rfl, h3, M.oth o (hd pd (by simp)) (fun q hq => hd q (by simp [hq]))⟩)
theorem RPm.shown (h : RPm w0 w p F x) : w.cell? ⟨p, 12, none⟩ = some (.bool x.hit) := by
 obtain ⟨d, B, hh, S, hpF⟩ := h
 rw [hh]
 exact B.cell 12
theorem RPm.lt (h : RPm w0 w p F x) : p < w.heap.size := by
 obtain ⟨d, B, _⟩ := h
 exact B.lt
theorem RPm.told (h : RPm w0 w p F x) : ∃ pc c k n : Int, ∃ y : Bool, w.cell? ⟨p, 10, none⟩ = some (.int .i64 pc) ∧ w.cell? ⟨p, 13, none⟩ = some (.int .i64 c) ∧ w.cell? ⟨p, 14, none⟩ = some (.int .i64 k) ∧ w.cell? ⟨p, 15, none⟩ = some (.int .i64 n) ∧ w.cell? ⟨p, 16, none⟩ = some (.bool y) ∧
  (pc == 0) = x.done ∧ (x.done = true → x.o = ⟨c, ⟨k, n⟩, y⟩) ∧ (x.done = false → x.o = Ou.zero) := by
 obtain ⟨d, B, hh, S, hpF⟩ := h
 refine ⟨d.pc, d.o.c, d.o.v.k, d.o.v.n, d.o.y, B.cell 10, B.cell 13, B.cell 14, B.cell 15, B.cell 16, ?_⟩
 rcases S with ⟨h1, h2, h3, _⟩ | ⟨r, e, h1, h2, _, _, _, h3, _⟩ | ⟨h1, h2, pd, F', rfl, h3, M⟩
 ·rw [h2]
  simp only [Sx.done, h1]
  exact ⟨rfl, fun _ => h3.symm, fun h => by simp at h⟩
 ·rw [h2]
  simp only [Sx.done, h1]
  exact ⟨rfl, fun h => by simp at h, fun _ => h3⟩
 ·rw [h2, h1]
  obtain ⟨_, _, _, _, _, _, _, _, _, _, _, _, q3⟩ := M.told
  exact ⟨rfl, fun h => by simp at h, fun _ => q3 h1⟩
theorem rdm_new {f : Int} {r : Rq} {h : Hw} (B : Blk w0 w p 129 (RD.new f r h).cells) (hop : r.op = 1 ∨ r.op = 2 ∨ r.op = 3) : RDm w0 w p [] (Sx.new f r h) := by
 refine ⟨_, B, U64.zero, rfl, ?_, ?_⟩
 ·rcases hop with e | e | e
  ·have e1 : Sx.new f r h = ⟨some (.read f h.fx), false, Ou.zero⟩ := by simp [Sx.new, firstK, e]
   rw [e1]
   exact ⟨rfl, by simp [RD.new, pcD, e], rfl, rfl, rfl⟩
  ·rcases hs : h.sh with _ | _
   ·have e1 : Sx.new f r h = ⟨some (.store f r.y), false, Ou.zero⟩ := by simp [Sx.new, firstK, e, hs]
    rw [e1]
    exact ⟨rfl, by simp [RD.new, pcD, e, hs], rfl, rfl, rfl⟩
   ·have e1 : Sx.new f r h = ⟨some (.load f r.y h), false, Ou.zero⟩ := by simp [Sx.new, firstK, e, hs]
    rw [e1]
    exact ⟨rfl, by simp [RD.new, pcD, e, hs], rfl, rfl, rfl, rfl⟩
  ·have e1 : Sx.new f r h = ⟨some (.swap f r h), false, Ou.zero⟩ := by simp [Sx.new, firstK, e]
   rw [e1]
   exact ⟨rfl, by simp [RD.new, pcD, e], rfl, rfl, rfl, rfl⟩
 ·rcases hop with e | e | e
  ·simp [Sx.new, firstK, e, OwnS]
  ·rcases hs : h.sh with _ | _ <;> simp [Sx.new, firstK, e, hs, OwnS]
  ·simp [Sx.new, firstK, e, OwnS]
theorem new_done {f : Int} {r : Rq} {h : Hw} (hop : r.op = 1 ∨ r.op = 2 ∨ r.op = 3) : (Sx.new f r h).done = false := by
 rcases hop with e | e | e <;> simp [Sx.new, firstK, e, Sx.done]
theorem rpm_new {r : Rq} {e : En} (B : Blk w0 w p 119 (RP.new r e).cells) (hop : r.op = 1 ∨ r.op = 2 ∨ r.op = 3) (h0 : 0 ≤ r.at_) (h1 : r.at_ < 4096) : RPm w0 w p [] (Sx.plain r e) := by
 by_cases h : r.at_ = 0
 ·rw [RP.new, if_pos h] at B
  rw [Sx.plain, if_pos h]
  exact ⟨_, B, rfl, .inl ⟨rfl, rfl, rfl, rfl⟩, by simp⟩
 ·rw [RP.new, if_neg h] at B
  rw [Sx.plain, if_neg h]
  exact ⟨_, B, rfl, .inr (.inl ⟨r, e, rfl, rfl, rfl, rfl, rfl, rfl, rfl, hop, h0, h1⟩), by simp⟩
end
theorem rPStep {w0 w : World} {b y p : Nat} {s1 s2 : St} {N : Nat} {F : List Nat} {x : Sx} (h : Two w0 w b y s1 s2 N) (M : RPm w0 w p F x) (hN : N + 5 < 1000000) :
  Calls Tryz.prog 59 #[pt p, pt y] w fun e w' => e = .returned (.bool (x.next s2).done) ∧ Two w0 w' b y s1 (x.mem s2) (N + 1) ∧ Oth (p :: F) w w' ∧ ∃ F', RPm w0 w' p F' (x.next s2) ∧ ∀ k ∈ F', k ∈ F ∨ w.heap.size ≤ k := by
 obtain ⟨d, B, hh, S, hpF⟩ := M
 rcases S with ⟨h1, h2, h3, rfl⟩ | ⟨r, e, h1, h2, rfl, rfl, h3, h4, rfl, h5, h6, h7⟩ | ⟨h1, h2, pd, F', rfl, h3, M⟩
 ·refine (rp0 h B hN h2).mono ?_
  rintro e w' ⟨rfl, rfl⟩
  obtain ⟨k?, hit, o⟩ := x
  simp only at h1
  subst h1
  exact ⟨rfl, h.mono (by omega), Oth.refl _ _, [], ⟨d, B, hh, .inl ⟨rfl, h2, h3, rfl⟩, by simp⟩, fun k hk => by cases hk⟩
 ·obtain ⟨k?, hit, o⟩ := x
  simp only at h1 h4
  subst h1 h4
  by_cases hq : d.r.fd < 0 ∨ pN (s2.got d.r.at_) ≤ d.r.fd
  ·refine (rp1e h B hN h2 hq).mono ?_
   rintro e w' ⟨rfl, t, bl, ot⟩
   have en : (Sx.mk (some (.plain d.r d.e)) hit Ou.zero).next s2 = ⟨none, false, ⟨15, Vl.zero, false⟩⟩ := by simp only [Sx.next, K.next, if_pos hq]
   rw [en]
   rw [h3] at bl
   exact ⟨rfl, t, ot, [], ⟨_, bl, rfl, .inl ⟨rfl, rfl, rfl, rfl⟩, by simp⟩, fun k hk => by cases hk⟩
  ·refine (rp1o h B hN h2 (by omega) (by omega) h5 h6 h7).mono ?_
   rintro e w' ⟨rfl, pd, ⟨t, bl, ot⟩, D, np⟩
   have en : (Sx.mk (some (.plain d.r d.e)) hit Ou.zero).next s2 = Sx.new (d.r.at_ + 1 + d.r.fd) d.r ⟨shadesM d.e.md, false, false, d.e.mr⟩ := by simp only [Sx.next, K.next, if_neg hq]
   rw [en]
   have hd := new_done (f := d.r.at_ + 1 + d.r.fd) (h := ⟨shadesM d.e.md, false, false, d.e.mr⟩) h5
   rw [hd]
   refine ⟨rfl, t, ot, [pd], ⟨_, bl, rfl, .inr (.inr ⟨hd, rfl, pd, [], rfl, rfl, rdm_new D h5⟩), ?_⟩, fun k hk => ?_⟩
   ·simp only [List.mem_singleton]
    have := B.lt
    omega
   ·simp only [List.mem_singleton] at hk
    subst hk
    exact .inr np
 ·have hpF' : p ∉ F' := fun h => hpF (by simp [h])
  have hq : ∀ k ∈ F', k ≠ p := fun k hk e => hpF' (e ▸ hk)
  rcases hd : (x.next s2).done with _ | _
  ·refine (rp2n h B hN h2 h3 M hq hpF' hd).mono ?_
   rintro e w' ⟨rfl, ⟨t, bl, ot⟩, F2, M2, fr⟩
   refine ⟨rfl, t, ot, pd :: F2, ⟨_, bl, rfl, .inr (.inr ⟨hd, rfl, pd, F2, rfl, h3, M2⟩), ?_⟩, fun k hk => ?_⟩
   ·simp only [List.mem_cons, not_or]
    refine ⟨fun e => hpF (by simp [e]), fun h => ?_⟩
    rcases fr p h with h | h
    ·exact hpF' h
    ·have := B.lt
     omega
   ·simp only [List.mem_cons] at hk ⊢
    rcases hk with rfl | hk
    ·exact .inl (.inl rfl)
    ·rcases fr k hk with h | h
     ·exact .inl (.inr h)
     ·exact .inr h
  ·refine (rp2d h B hN h2 h3 M hq hpF' hd).mono ?_
   rintro e w' ⟨rfl, t, bl, ot⟩
   have hk : (x.next s2).k = none := by simpa [Sx.done] using hd
   exact ⟨rfl, t, ot, [], ⟨_, bl, rfl, .inl ⟨hk, rfl, rfl, rfl⟩, by simp⟩, fun k hk => by cases hk⟩
theorem rPResult {w0 w : World} {p : Nat} {F : List Nat} {x : Sx} (M : RPm w0 w p F x) : Calls Tryz.prog 48 #[pt p] w fun e w' => e = .returned x.o.val ∧ Below w.heap.size w w' := by
 obtain ⟨pc, c, k, n, yy, c12, c17, c18, c19, c20, q1, q2, q3⟩ := M.told
 have l := M.lt
 rcases hd : x.done with _ | _
 ·rw [hd] at q1
  have q4 : (pc != 0) = true := by simpa using q1
  rw [q3 hd]
  clear q1 q2 q3
  go_enter Tryz.func48, Tryz.ntmps48
  go_wp2
  exact bodyPost_ret (v := Ou.zero.val) (by simp [results, Tryz.results48, go_sem, Ou.val, Ou.zero, Vl.zero]) rfl ⟨rfl, by go_grown⟩
 ·rw [hd] at q1
  have q4 : (pc != 0) = false := by simpa using q1
  rw [q2 hd]
  clear q1 q2 q3
  go_enter Tryz.func48, Tryz.ntmps48
  go_wp2
  exact bodyPost_ret (v := (Ou.mk c ⟨k, n⟩ yy).val) (by simp [results, Tryz.results48, go_sem, Ou.val]) rfl ⟨rfl, by go_grown⟩
end Go.Proofs.YtpcoldpphihfmaaGreatDoor
