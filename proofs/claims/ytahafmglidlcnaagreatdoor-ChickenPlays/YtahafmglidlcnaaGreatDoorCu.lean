/-
  An access in a law's hand: it is made, steps, and is told.
-/
import Derived.Test.YtahafmglidlcnaaGreatDoorCd
import Derived.WalkMore
import Derived.BigQuiet
namespace Go.Proofs.YtahafmglidlcnaaGreatDoor
set_option linter.unusedVariables false
set_option linter.unusedSimpArgs false
set_option maxRecDepth 100000
open Go.ChangeShapes Go.WideShapes Go.RowKit
open H.Plain (hw pS pC pN pM pG pT pL mv)

section
variable {ow : Bool} {w0 w w' : World} {b y p : Nat} {s1 s2 : St} {N : Nat} {a : Ax} {x : Sx}
theorem tPStepI (h : TwoT ow w0 w b y s1 s2 N) (B : Blk w0 w p 95 a.cells) (hx : a.p = x) (R : RepO w x.k a.vp) (ok : x.Ok) (hN : N < 1000000) :
    Calls Tryz.prog 124 #[.pointer (some ⟨p, 14, none⟩), pt b] w fun e w' => e = .returned (.bool (x.next s1).done) ∧ TwoT ow w0 w' b y (x.mem s1) s2 (N + 1) ∧ Oth [p] w w' ∧ ∃ v', Blk w0 w' p 95 ({ a with p := x.next s1, vp := v' } : Ax).cells ∧ RepO w' (x.next s1).k v' := by
  have ht := h.top1
  have hc' : s1.c < 1000000 := by omega
  have f := h.fit1
  have r := h.rng1
  obtain ⟨L, rfl, A, k⟩ := h.went1 B
  refine (cPStepI A hx R ok f hc' r).mono ?_
  rintro e w' ⟨rfl, v', L', A', g, R'⟩
  have := Sx.cnt (s := s1) ok
  obtain ⟨H1, B1, O1⟩ := k A' g (Sx.fit ok f hc') (Sx.rng ok r) (show _ ≤ ((N + 1 : Nat) : Int) by omega) (by omega)
  exact ⟨rfl, H1, O1, v', B1, R'⟩
set_option maxHeartbeats 2000000 in
theorem cFollowPn (h : TwoT ow w0 w b y s1 s2 N) (B : Blk w0 w p 95 a.cells) (hpc : a.pc = 5) (hx : a.p = x) (R : RepO w x.k a.vp) (ok : x.Ok) (hN : N < 1000000) (hd : (x.next s1).done = false) :
    Calls Tryz.prog 39 #[pt p, .iface 96 (.pointer (some ⟨p, 14, none⟩)), pt b] w fun e w' => e = .returned (.bool false) ∧ TwoT ow w0 w' b y (x.mem s1) s2 (N + 1) ∧ Oth [p] w w' ∧ ∃ v', Blk w0 w' p 95 ({ a with p := x.next s1, vp := v', hit := (x.next s1).hit, o := (x.next s1).o } : Ax).cells ∧ RepO w' (x.next s1).k v' := by
  have m1 : ∀ w, (method 145 96 (.pointer (some ⟨p, 14, none⟩)) "Step").run Tryz.prog w = .ok (124, .pointer (some ⟨p, 14, none⟩)) w := fun _ => by kernel_rfl
  have m2 : ∀ w, (method 145 96 (.pointer (some ⟨p, 14, none⟩)) "Hit").run Tryz.prog w = .ok (122, .pointer (some ⟨p, 14, none⟩)) w := fun _ => by kernel_rfl
  have m3 : ∀ w, (method 145 96 (.pointer (some ⟨p, 14, none⟩)) "Result").run Tryz.prog w = .ok (123, .pointer (some ⟨p, 14, none⟩)) w := fun _ => by kernel_rfl
  have n1 : ∀ w, (nilAhead 145 96 (.pointer (some ⟨p, 14, none⟩)) "Step").run Tryz.prog w = .ok (some false) w := fun _ => by kernel_rfl
  have n2 : ∀ w, (nilAhead 145 96 (.pointer (some ⟨p, 14, none⟩)) "Hit").run Tryz.prog w = .ok (some false) w := fun _ => by kernel_rfl
  have n3 : ∀ w, (nilAhead 145 96 (.pointer (some ⟨p, 14, none⟩)) "Result").run Tryz.prog w = .ok (some false) w := fun _ => by kernel_rfl
  obtain ⟨x', hx'⟩ : ∃ x', x.next s1 = x' := ⟨_, rfl⟩
  rw [hx'] at hd ⊢
  go_enter Tryz.func39, Tryz.ntmps39
  go_upto_region 2 with (go_at_call 124; refine (tPStepI h B hx R ok hN).mono ?_; rintro e w1 ⟨rfl, t1, o1, v', B1, R1⟩; rw [hx'] at B1 R1 ⊢; rw [hd]; have z11 : w1.cell? ⟨p, 11, none⟩ = some (.int .i64 5) := hpc ▸ B1.cell 11; have f11 := B1.free 11)
  go_upto_region 3 with (fail)
  clear f11
  have z11 : w1.cell? ⟨p, 11, none⟩ = some (.int .i64 5) := hpc ▸ B1.cell 11
  have l := B1.lt
  have c1 : w1.cell? ⟨p, 15, none⟩ = some (.bool x'.hit) := B1.cell 15
  have c2 : w1.cell? ⟨p, 16, none⟩ = some (.int .i64 x'.o.c) := B1.cell 16
  have c3 : w1.cell? ⟨p, 17, none⟩ = some (.int .i64 x'.o.v.k) := B1.cell 17
  have c4 : w1.cell? ⟨p, 18, none⟩ = some (.int .i64 x'.o.v.n) := B1.cell 18
  have c5 : w1.cell? ⟨p, 19, none⟩ = some (.bool x'.o.y) := B1.cell 19
  go_wp2_with (first
    | (go_at_call 122; refine (cPHitI c1).mono ?_; rintro e wx ⟨rfl, hwx⟩; rw [hwx]; clear hwx wx)
    | (go_at_call 123; refine (cPResultI l c2 c3 c4 c5).mono ?_; rintro e w5 ⟨rfl, hb5⟩; unfold Ou.val; have B5 := B1.below hb5; have t5 := t1.below hb5; have o5 := o1.trans (Oth.below hb5); have R5 := R1.below hb5; have y11 : w5.cell? ⟨p, 11, none⟩ = some (.int .i64 5) := hpc ▸ B5.cell 11; have y26 : w5.cell? ⟨p, 26, none⟩ = some (.bool a.hit) := B5.cell 26; have yf26 := B5.free 26; have y27 : w5.cell? ⟨p, 27, none⟩ = some (.int .i64 a.o.c) := B5.cell 27; have yf27 := B5.free 27; have y28 : w5.cell? ⟨p, 28, none⟩ = some (.int .i64 a.o.v.k) := B5.cell 28; have yf28 := B5.free 28; have y29 : w5.cell? ⟨p, 29, none⟩ = some (.int .i64 a.o.v.n) := B5.cell 29; have yf29 := B5.free 29; have y30 : w5.cell? ⟨p, 30, none⟩ = some (.bool a.o.y) := B5.cell 30; have yf30 := B5.free 30))
  go_ret
  have B6 := (B5.s_hit x'.hit).s_o x'.o
  have K6 : Kept [p] w5 (((((w5.setCell ⟨p, 26, none⟩ (.bool x'.hit)).setCell ⟨p, 27, none⟩ (.int .i64 x'.o.c)).setCell ⟨p, 28, none⟩ (.int .i64 x'.o.v.k)).setCell ⟨p, 29, none⟩ (.int .i64 x'.o.v.n)).setCell ⟨p, 30, none⟩ (.bool x'.o.y)) := ((((Kept.setCell [p] w5 ⟨p, 26, none⟩ _ (by simp)).trans (Kept.setCell [p] _ ⟨p, 27, none⟩ _ (by simp)) fun _ h => .inl h).trans (Kept.setCell [p] _ ⟨p, 28, none⟩ _ (by simp)) fun _ h => .inl h).trans (Kept.setCell [p] _ ⟨p, 29, none⟩ _ (by simp)) fun _ h => .inl h).trans (Kept.setCell [p] _ ⟨p, 30, none⟩ _ (by simp)) fun _ h => .inl h
  exact ⟨rfl, t5.kept K6 (fun k hk => by simp at hk; subst hk; exact ⟨B5.old, _, _, _, B5.hT, B5.at_⟩), o5.trans (Oth.kept K6), v', B6, R5.oth (F := [p]) (Oth.kept K6) (fun q hq => by simp at hq; subst hq; exact ⟨_, _, _, B5.at_, by decide⟩)⟩
set_option maxHeartbeats 2000000 in
theorem cFollowPd (h : TwoT ow w0 w b y s1 s2 N) (B : Blk w0 w p 95 a.cells) (hpc : a.pc = 5) (hx : a.p = x) (R : RepO w x.k a.vp) (ok : x.Ok) (hN : N < 1000000) (hd : (x.next s1).done = true) :
    Calls Tryz.prog 39 #[pt p, .iface 96 (.pointer (some ⟨p, 14, none⟩)), pt b] w fun e w' => e = .returned (.bool true) ∧ TwoT ow w0 w' b y (x.mem s1) s2 (N + 1) ∧ Oth [p] w w' ∧ ∃ v', Blk w0 w' p 95 ({ a with pc := 0, p := x.next s1, vp := v', hit := (x.next s1).hit, o := (x.next s1).o } : Ax).cells ∧ RepO w' (x.next s1).k v' := by
  have m1 : ∀ w, (method 145 96 (.pointer (some ⟨p, 14, none⟩)) "Step").run Tryz.prog w = .ok (124, .pointer (some ⟨p, 14, none⟩)) w := fun _ => by kernel_rfl
  have m2 : ∀ w, (method 145 96 (.pointer (some ⟨p, 14, none⟩)) "Hit").run Tryz.prog w = .ok (122, .pointer (some ⟨p, 14, none⟩)) w := fun _ => by kernel_rfl
  have m3 : ∀ w, (method 145 96 (.pointer (some ⟨p, 14, none⟩)) "Result").run Tryz.prog w = .ok (123, .pointer (some ⟨p, 14, none⟩)) w := fun _ => by kernel_rfl
  have n1 : ∀ w, (nilAhead 145 96 (.pointer (some ⟨p, 14, none⟩)) "Step").run Tryz.prog w = .ok (some false) w := fun _ => by kernel_rfl
  have n2 : ∀ w, (nilAhead 145 96 (.pointer (some ⟨p, 14, none⟩)) "Hit").run Tryz.prog w = .ok (some false) w := fun _ => by kernel_rfl
  have n3 : ∀ w, (nilAhead 145 96 (.pointer (some ⟨p, 14, none⟩)) "Result").run Tryz.prog w = .ok (some false) w := fun _ => by kernel_rfl
  obtain ⟨x', hx'⟩ : ∃ x', x.next s1 = x' := ⟨_, rfl⟩
  rw [hx'] at hd ⊢
  go_enter Tryz.func39, Tryz.ntmps39
  go_upto_region 2 with (go_at_call 124; refine (tPStepI h B hx R ok hN).mono ?_; rintro e w1 ⟨rfl, t1, o1, v', B1, R1⟩; rw [hx'] at B1 R1 ⊢; rw [hd]; have z11 : w1.cell? ⟨p, 11, none⟩ = some (.int .i64 5) := hpc ▸ B1.cell 11; have f11 := B1.free 11)
  go_upto_region 3 with (fail)
  have B2 := B1.s_pc 0
  have t2 := t1.set B1 11 (.int .i64 0)
  have o2 := o1.trans (Oth.set w1 p 11 (.int .i64 0) (by simp))
  have R2 := R1.oth (F := [p]) (Oth.set w1 p 11 (.int .i64 0) (by simp)) (fun q hq => by simp at hq; subst hq; exact ⟨_, _, _, B1.at_, by decide⟩)
  clear z11 f11 R1 B1
  generalize w1.setCell ⟨p, 11, none⟩ (.int .i64 0) = w2 at B2 t2 o2 R2 ⊢
  have z11 : w2.cell? ⟨p, 11, none⟩ = some (.int .i64 0) := B2.cell 11
  have l := B2.lt
  have c1 : w2.cell? ⟨p, 15, none⟩ = some (.bool x'.hit) := B2.cell 15
  have c2 : w2.cell? ⟨p, 16, none⟩ = some (.int .i64 x'.o.c) := B2.cell 16
  have c3 : w2.cell? ⟨p, 17, none⟩ = some (.int .i64 x'.o.v.k) := B2.cell 17
  have c4 : w2.cell? ⟨p, 18, none⟩ = some (.int .i64 x'.o.v.n) := B2.cell 18
  have c5 : w2.cell? ⟨p, 19, none⟩ = some (.bool x'.o.y) := B2.cell 19
  go_wp2_with (first
    | (go_at_call 122; refine (cPHitI c1).mono ?_; rintro e wx ⟨rfl, hwx⟩; rw [hwx]; clear hwx wx)
    | (go_at_call 123; refine (cPResultI l c2 c3 c4 c5).mono ?_; rintro e w5 ⟨rfl, hb5⟩; unfold Ou.val; have B5 := B2.below hb5; have t5 := t2.below hb5; have o5 := o2.trans (Oth.below hb5); have R5 := R2.below hb5; have y11 : w5.cell? ⟨p, 11, none⟩ = some (.int .i64 0) := B5.cell 11; have y26 : w5.cell? ⟨p, 26, none⟩ = some (.bool a.hit) := B5.cell 26; have yf26 := B5.free 26; have y27 : w5.cell? ⟨p, 27, none⟩ = some (.int .i64 a.o.c) := B5.cell 27; have yf27 := B5.free 27; have y28 : w5.cell? ⟨p, 28, none⟩ = some (.int .i64 a.o.v.k) := B5.cell 28; have yf28 := B5.free 28; have y29 : w5.cell? ⟨p, 29, none⟩ = some (.int .i64 a.o.v.n) := B5.cell 29; have yf29 := B5.free 29; have y30 : w5.cell? ⟨p, 30, none⟩ = some (.bool a.o.y) := B5.cell 30; have yf30 := B5.free 30))
  go_ret
  have B6 := (B5.s_hit x'.hit).s_o x'.o
  have K6 : Kept [p] w5 (((((w5.setCell ⟨p, 26, none⟩ (.bool x'.hit)).setCell ⟨p, 27, none⟩ (.int .i64 x'.o.c)).setCell ⟨p, 28, none⟩ (.int .i64 x'.o.v.k)).setCell ⟨p, 29, none⟩ (.int .i64 x'.o.v.n)).setCell ⟨p, 30, none⟩ (.bool x'.o.y)) := ((((Kept.setCell [p] w5 ⟨p, 26, none⟩ _ (by simp)).trans (Kept.setCell [p] _ ⟨p, 27, none⟩ _ (by simp)) fun _ h => .inl h).trans (Kept.setCell [p] _ ⟨p, 28, none⟩ _ (by simp)) fun _ h => .inl h).trans (Kept.setCell [p] _ ⟨p, 29, none⟩ _ (by simp)) fun _ h => .inl h).trans (Kept.setCell [p] _ ⟨p, 30, none⟩ _ (by simp)) fun _ h => .inl h
  exact ⟨rfl, t5.kept K6 (fun k hk => by simp at hk; subst hk; exact ⟨B5.old, _, _, _, B5.hT, B5.at_⟩), o5.trans (Oth.kept K6), v', B6, R5.oth (F := [p]) (Oth.kept K6) (fun q hq => by simp at hq; subst hq; exact ⟨_, _, _, B5.at_, by decide⟩)⟩
theorem tDStepI (h : TwoT ow w0 w b y s1 s2 N) (B : Blk w0 w p 95 a.cells) (hx : a.d = x) (R : RepO w x.k a.vd) (ok : x.Ok) (hN : N < 1000000) :
    Calls Tryz.prog 128 #[.pointer (some ⟨p, 20, none⟩), pt b] w fun e w' => e = .returned (.bool (x.next s1).done) ∧ TwoT ow w0 w' b y (x.mem s1) s2 (N + 1) ∧ Oth [p] w w' ∧ ∃ v', Blk w0 w' p 95 ({ a with d := x.next s1, vd := v' } : Ax).cells ∧ RepO w' (x.next s1).k v' := by
  have ht := h.top1
  have hc' : s1.c < 1000000 := by omega
  have f := h.fit1
  have r := h.rng1
  obtain ⟨L, rfl, A, k⟩ := h.went1 B
  refine (cDStepI A hx R ok f hc' r).mono ?_
  rintro e w' ⟨rfl, v', L', A', g, R'⟩
  have := Sx.cnt (s := s1) ok
  obtain ⟨H1, B1, O1⟩ := k A' g (Sx.fit ok f hc') (Sx.rng ok r) (show _ ≤ ((N + 1 : Nat) : Int) by omega) (by omega)
  exact ⟨rfl, H1, O1, v', B1, R'⟩
set_option maxHeartbeats 2000000 in
theorem cFollowDn (h : TwoT ow w0 w b y s1 s2 N) (B : Blk w0 w p 95 a.cells) (hpc : a.pc = 6) (hx : a.d = x) (R : RepO w x.k a.vd) (ok : x.Ok) (hN : N < 1000000) (hd : (x.next s1).done = false) :
    Calls Tryz.prog 39 #[pt p, .iface 106 (.pointer (some ⟨p, 20, none⟩)), pt b] w fun e w' => e = .returned (.bool false) ∧ TwoT ow w0 w' b y (x.mem s1) s2 (N + 1) ∧ Oth [p] w w' ∧ ∃ v', Blk w0 w' p 95 ({ a with d := x.next s1, vd := v', hit := (x.next s1).hit, o := (x.next s1).o } : Ax).cells ∧ RepO w' (x.next s1).k v' := by
  have m1 : ∀ w, (method 145 106 (.pointer (some ⟨p, 20, none⟩)) "Step").run Tryz.prog w = .ok (128, .pointer (some ⟨p, 20, none⟩)) w := fun _ => by kernel_rfl
  have m2 : ∀ w, (method 145 106 (.pointer (some ⟨p, 20, none⟩)) "Hit").run Tryz.prog w = .ok (126, .pointer (some ⟨p, 20, none⟩)) w := fun _ => by kernel_rfl
  have m3 : ∀ w, (method 145 106 (.pointer (some ⟨p, 20, none⟩)) "Result").run Tryz.prog w = .ok (127, .pointer (some ⟨p, 20, none⟩)) w := fun _ => by kernel_rfl
  have n1 : ∀ w, (nilAhead 145 106 (.pointer (some ⟨p, 20, none⟩)) "Step").run Tryz.prog w = .ok (some false) w := fun _ => by kernel_rfl
  have n2 : ∀ w, (nilAhead 145 106 (.pointer (some ⟨p, 20, none⟩)) "Hit").run Tryz.prog w = .ok (some false) w := fun _ => by kernel_rfl
  have n3 : ∀ w, (nilAhead 145 106 (.pointer (some ⟨p, 20, none⟩)) "Result").run Tryz.prog w = .ok (some false) w := fun _ => by kernel_rfl
  obtain ⟨x', hx'⟩ : ∃ x', x.next s1 = x' := ⟨_, rfl⟩
  rw [hx'] at hd ⊢
  go_enter Tryz.func39, Tryz.ntmps39
  go_upto_region 2 with (go_at_call 128; refine (tDStepI h B hx R ok hN).mono ?_; rintro e w1 ⟨rfl, t1, o1, v', B1, R1⟩; rw [hx'] at B1 R1 ⊢; rw [hd]; have z11 : w1.cell? ⟨p, 11, none⟩ = some (.int .i64 6) := hpc ▸ B1.cell 11; have f11 := B1.free 11)
  go_upto_region 3 with (fail)
  clear f11
  have z11 : w1.cell? ⟨p, 11, none⟩ = some (.int .i64 6) := hpc ▸ B1.cell 11
  have l := B1.lt
  have c1 : w1.cell? ⟨p, 21, none⟩ = some (.bool x'.hit) := B1.cell 21
  have c2 : w1.cell? ⟨p, 22, none⟩ = some (.int .i64 x'.o.c) := B1.cell 22
  have c3 : w1.cell? ⟨p, 23, none⟩ = some (.int .i64 x'.o.v.k) := B1.cell 23
  have c4 : w1.cell? ⟨p, 24, none⟩ = some (.int .i64 x'.o.v.n) := B1.cell 24
  have c5 : w1.cell? ⟨p, 25, none⟩ = some (.bool x'.o.y) := B1.cell 25
  go_wp2_with (first
    | (go_at_call 126; refine (cDHitI c1).mono ?_; rintro e wx ⟨rfl, hwx⟩; rw [hwx]; clear hwx wx)
    | (go_at_call 127; refine (cDResultI l c2 c3 c4 c5).mono ?_; rintro e w5 ⟨rfl, hb5⟩; unfold Ou.val; have B5 := B1.below hb5; have t5 := t1.below hb5; have o5 := o1.trans (Oth.below hb5); have R5 := R1.below hb5; have y11 : w5.cell? ⟨p, 11, none⟩ = some (.int .i64 6) := hpc ▸ B5.cell 11; have y26 : w5.cell? ⟨p, 26, none⟩ = some (.bool a.hit) := B5.cell 26; have yf26 := B5.free 26; have y27 : w5.cell? ⟨p, 27, none⟩ = some (.int .i64 a.o.c) := B5.cell 27; have yf27 := B5.free 27; have y28 : w5.cell? ⟨p, 28, none⟩ = some (.int .i64 a.o.v.k) := B5.cell 28; have yf28 := B5.free 28; have y29 : w5.cell? ⟨p, 29, none⟩ = some (.int .i64 a.o.v.n) := B5.cell 29; have yf29 := B5.free 29; have y30 : w5.cell? ⟨p, 30, none⟩ = some (.bool a.o.y) := B5.cell 30; have yf30 := B5.free 30))
  go_ret
  have B6 := (B5.s_hit x'.hit).s_o x'.o
  have K6 : Kept [p] w5 (((((w5.setCell ⟨p, 26, none⟩ (.bool x'.hit)).setCell ⟨p, 27, none⟩ (.int .i64 x'.o.c)).setCell ⟨p, 28, none⟩ (.int .i64 x'.o.v.k)).setCell ⟨p, 29, none⟩ (.int .i64 x'.o.v.n)).setCell ⟨p, 30, none⟩ (.bool x'.o.y)) := ((((Kept.setCell [p] w5 ⟨p, 26, none⟩ _ (by simp)).trans (Kept.setCell [p] _ ⟨p, 27, none⟩ _ (by simp)) fun _ h => .inl h).trans (Kept.setCell [p] _ ⟨p, 28, none⟩ _ (by simp)) fun _ h => .inl h).trans (Kept.setCell [p] _ ⟨p, 29, none⟩ _ (by simp)) fun _ h => .inl h).trans (Kept.setCell [p] _ ⟨p, 30, none⟩ _ (by simp)) fun _ h => .inl h
  exact ⟨rfl, t5.kept K6 (fun k hk => by simp at hk; subst hk; exact ⟨B5.old, _, _, _, B5.hT, B5.at_⟩), o5.trans (Oth.kept K6), v', B6, R5.oth (F := [p]) (Oth.kept K6) (fun q hq => by simp at hq; subst hq; exact ⟨_, _, _, B5.at_, by decide⟩)⟩
set_option maxHeartbeats 2000000 in
theorem cFollowDd (h : TwoT ow w0 w b y s1 s2 N) (B : Blk w0 w p 95 a.cells) (hpc : a.pc = 6) (hx : a.d = x) (R : RepO w x.k a.vd) (ok : x.Ok) (hN : N < 1000000) (hd : (x.next s1).done = true) :
    Calls Tryz.prog 39 #[pt p, .iface 106 (.pointer (some ⟨p, 20, none⟩)), pt b] w fun e w' => e = .returned (.bool true) ∧ TwoT ow w0 w' b y (x.mem s1) s2 (N + 1) ∧ Oth [p] w w' ∧ ∃ v', Blk w0 w' p 95 ({ a with pc := 0, d := x.next s1, vd := v', hit := (x.next s1).hit, o := (x.next s1).o } : Ax).cells ∧ RepO w' (x.next s1).k v' := by
  have m1 : ∀ w, (method 145 106 (.pointer (some ⟨p, 20, none⟩)) "Step").run Tryz.prog w = .ok (128, .pointer (some ⟨p, 20, none⟩)) w := fun _ => by kernel_rfl
  have m2 : ∀ w, (method 145 106 (.pointer (some ⟨p, 20, none⟩)) "Hit").run Tryz.prog w = .ok (126, .pointer (some ⟨p, 20, none⟩)) w := fun _ => by kernel_rfl
  have m3 : ∀ w, (method 145 106 (.pointer (some ⟨p, 20, none⟩)) "Result").run Tryz.prog w = .ok (127, .pointer (some ⟨p, 20, none⟩)) w := fun _ => by kernel_rfl
  have n1 : ∀ w, (nilAhead 145 106 (.pointer (some ⟨p, 20, none⟩)) "Step").run Tryz.prog w = .ok (some false) w := fun _ => by kernel_rfl
  have n2 : ∀ w, (nilAhead 145 106 (.pointer (some ⟨p, 20, none⟩)) "Hit").run Tryz.prog w = .ok (some false) w := fun _ => by kernel_rfl
  have n3 : ∀ w, (nilAhead 145 106 (.pointer (some ⟨p, 20, none⟩)) "Result").run Tryz.prog w = .ok (some false) w := fun _ => by kernel_rfl
  obtain ⟨x', hx'⟩ : ∃ x', x.next s1 = x' := ⟨_, rfl⟩
  rw [hx'] at hd ⊢
  go_enter Tryz.func39, Tryz.ntmps39
  go_upto_region 2 with (go_at_call 128; refine (tDStepI h B hx R ok hN).mono ?_; rintro e w1 ⟨rfl, t1, o1, v', B1, R1⟩; rw [hx'] at B1 R1 ⊢; rw [hd]; have z11 : w1.cell? ⟨p, 11, none⟩ = some (.int .i64 6) := hpc ▸ B1.cell 11; have f11 := B1.free 11)
  go_upto_region 3 with (fail)
  have B2 := B1.s_pc 0
  have t2 := t1.set B1 11 (.int .i64 0)
  have o2 := o1.trans (Oth.set w1 p 11 (.int .i64 0) (by simp))
  have R2 := R1.oth (F := [p]) (Oth.set w1 p 11 (.int .i64 0) (by simp)) (fun q hq => by simp at hq; subst hq; exact ⟨_, _, _, B1.at_, by decide⟩)
  clear z11 f11 R1 B1
  generalize w1.setCell ⟨p, 11, none⟩ (.int .i64 0) = w2 at B2 t2 o2 R2 ⊢
  have z11 : w2.cell? ⟨p, 11, none⟩ = some (.int .i64 0) := B2.cell 11
  have l := B2.lt
  have c1 : w2.cell? ⟨p, 21, none⟩ = some (.bool x'.hit) := B2.cell 21
  have c2 : w2.cell? ⟨p, 22, none⟩ = some (.int .i64 x'.o.c) := B2.cell 22
  have c3 : w2.cell? ⟨p, 23, none⟩ = some (.int .i64 x'.o.v.k) := B2.cell 23
  have c4 : w2.cell? ⟨p, 24, none⟩ = some (.int .i64 x'.o.v.n) := B2.cell 24
  have c5 : w2.cell? ⟨p, 25, none⟩ = some (.bool x'.o.y) := B2.cell 25
  go_wp2_with (first
    | (go_at_call 126; refine (cDHitI c1).mono ?_; rintro e wx ⟨rfl, hwx⟩; rw [hwx]; clear hwx wx)
    | (go_at_call 127; refine (cDResultI l c2 c3 c4 c5).mono ?_; rintro e w5 ⟨rfl, hb5⟩; unfold Ou.val; have B5 := B2.below hb5; have t5 := t2.below hb5; have o5 := o2.trans (Oth.below hb5); have R5 := R2.below hb5; have y11 : w5.cell? ⟨p, 11, none⟩ = some (.int .i64 0) := B5.cell 11; have y26 : w5.cell? ⟨p, 26, none⟩ = some (.bool a.hit) := B5.cell 26; have yf26 := B5.free 26; have y27 : w5.cell? ⟨p, 27, none⟩ = some (.int .i64 a.o.c) := B5.cell 27; have yf27 := B5.free 27; have y28 : w5.cell? ⟨p, 28, none⟩ = some (.int .i64 a.o.v.k) := B5.cell 28; have yf28 := B5.free 28; have y29 : w5.cell? ⟨p, 29, none⟩ = some (.int .i64 a.o.v.n) := B5.cell 29; have yf29 := B5.free 29; have y30 : w5.cell? ⟨p, 30, none⟩ = some (.bool a.o.y) := B5.cell 30; have yf30 := B5.free 30))
  go_ret
  have B6 := (B5.s_hit x'.hit).s_o x'.o
  have K6 : Kept [p] w5 (((((w5.setCell ⟨p, 26, none⟩ (.bool x'.hit)).setCell ⟨p, 27, none⟩ (.int .i64 x'.o.c)).setCell ⟨p, 28, none⟩ (.int .i64 x'.o.v.k)).setCell ⟨p, 29, none⟩ (.int .i64 x'.o.v.n)).setCell ⟨p, 30, none⟩ (.bool x'.o.y)) := ((((Kept.setCell [p] w5 ⟨p, 26, none⟩ _ (by simp)).trans (Kept.setCell [p] _ ⟨p, 27, none⟩ _ (by simp)) fun _ h => .inl h).trans (Kept.setCell [p] _ ⟨p, 28, none⟩ _ (by simp)) fun _ h => .inl h).trans (Kept.setCell [p] _ ⟨p, 29, none⟩ _ (by simp)) fun _ h => .inl h).trans (Kept.setCell [p] _ ⟨p, 30, none⟩ _ (by simp)) fun _ h => .inl h
  exact ⟨rfl, t5.kept K6 (fun k hk => by simp at hk; subst hk; exact ⟨B5.old, _, _, _, B5.hT, B5.at_⟩), o5.trans (Oth.kept K6), v', B6, R5.oth (F := [p]) (Oth.kept K6) (fun q hq => by simp at hq; subst hq; exact ⟨_, _, _, B5.at_, by decide⟩)⟩
end
end Go.Proofs.YtahafmglidlcnaaGreatDoor

namespace Go.Proofs.YtahafmglidlcnaaGreatDoor
set_option linter.unusedVariables false
set_option linter.unusedSimpArgs false
set_option maxRecDepth 100000
open Go.ChangeShapes Go.WideShapes Go.RowKit
open H.Plain (hw pS pC pN pM pG pT pL mv)

/-- behind a step -/
structure To (ow : Bool) (w0 w w' : World) (b y p : Nat) (s1 s2 : St) (N : Nat) (a : Ax) : Prop where
  two : TwoT ow w0 w' b y s1 s2 N
  blk : Blk w0 w' p 95 a.cells
  oth : Oth [p] w w'
theorem hd_cells {w0 w : World} {p : Nat} {q0 q1 q2 q3 q4 q5 q6 : Int} (B : Blk w0 w p 40 #[.int .i64 q0, .int .i64 q1, .int .i64 q2, .int .i64 q3, .int .i64 q4, .int .i64 q5, .int .i64 q6]) (v0 v1 v2 v3 v4 v5 v6 : Int) :
    Blk w0 (((((((w.setCell ⟨p, 0, none⟩ (.int .i64 v0)).setCell ⟨p, 1, none⟩ (.int .i64 v1)).setCell ⟨p, 2, none⟩ (.int .i64 v2)).setCell ⟨p, 3, none⟩ (.int .i64 v3)).setCell ⟨p, 4, none⟩ (.int .i64 v4)).setCell ⟨p, 5, none⟩ (.int .i64 v5)).setCell ⟨p, 6, none⟩ (.int .i64 v6)) p 40 #[.int .i64 v0, .int .i64 v1, .int .i64 v2, .int .i64 v3, .int .i64 v4, .int .i64 v5, .int .i64 v6] := by
  have B1 : Blk w0 (w.setCell ⟨p, 0, none⟩ (.int .i64 v0)) p 40 #[.int .i64 v0, .int .i64 q1, .int .i64 q2, .int .i64 q3, .int .i64 q4, .int .i64 q5, .int .i64 q6] := B.set 0 _
  have B2 : Blk w0 ((w.setCell ⟨p, 0, none⟩ (.int .i64 v0)).setCell ⟨p, 1, none⟩ (.int .i64 v1)) p 40 #[.int .i64 v0, .int .i64 v1, .int .i64 q2, .int .i64 q3, .int .i64 q4, .int .i64 q5, .int .i64 q6] := B1.set 1 _
  have B3 : Blk w0 (((w.setCell ⟨p, 0, none⟩ (.int .i64 v0)).setCell ⟨p, 1, none⟩ (.int .i64 v1)).setCell ⟨p, 2, none⟩ (.int .i64 v2)) p 40 #[.int .i64 v0, .int .i64 v1, .int .i64 v2, .int .i64 q3, .int .i64 q4, .int .i64 q5, .int .i64 q6] := B2.set 2 _
  have B4 : Blk w0 ((((w.setCell ⟨p, 0, none⟩ (.int .i64 v0)).setCell ⟨p, 1, none⟩ (.int .i64 v1)).setCell ⟨p, 2, none⟩ (.int .i64 v2)).setCell ⟨p, 3, none⟩ (.int .i64 v3)) p 40 #[.int .i64 v0, .int .i64 v1, .int .i64 v2, .int .i64 v3, .int .i64 q4, .int .i64 q5, .int .i64 q6] := B3.set 3 _
  have B5 : Blk w0 (((((w.setCell ⟨p, 0, none⟩ (.int .i64 v0)).setCell ⟨p, 1, none⟩ (.int .i64 v1)).setCell ⟨p, 2, none⟩ (.int .i64 v2)).setCell ⟨p, 3, none⟩ (.int .i64 v3)).setCell ⟨p, 4, none⟩ (.int .i64 v4)) p 40 #[.int .i64 v0, .int .i64 v1, .int .i64 v2, .int .i64 v3, .int .i64 v4, .int .i64 q5, .int .i64 q6] := B4.set 4 _
  have B6 : Blk w0 ((((((w.setCell ⟨p, 0, none⟩ (.int .i64 v0)).setCell ⟨p, 1, none⟩ (.int .i64 v1)).setCell ⟨p, 2, none⟩ (.int .i64 v2)).setCell ⟨p, 3, none⟩ (.int .i64 v3)).setCell ⟨p, 4, none⟩ (.int .i64 v4)).setCell ⟨p, 5, none⟩ (.int .i64 v5)) p 40 #[.int .i64 v0, .int .i64 v1, .int .i64 v2, .int .i64 v3, .int .i64 v4, .int .i64 v5, .int .i64 q6] := B5.set 5 _
  have B7 : Blk w0 (((((((w.setCell ⟨p, 0, none⟩ (.int .i64 v0)).setCell ⟨p, 1, none⟩ (.int .i64 v1)).setCell ⟨p, 2, none⟩ (.int .i64 v2)).setCell ⟨p, 3, none⟩ (.int .i64 v3)).setCell ⟨p, 4, none⟩ (.int .i64 v4)).setCell ⟨p, 5, none⟩ (.int .i64 v5)).setCell ⟨p, 6, none⟩ (.int .i64 v6)) p 40 #[.int .i64 v0, .int .i64 v1, .int .i64 v2, .int .i64 v3, .int .i64 v4, .int .i64 v5, .int .i64 v6] := B6.set 6 _
  exact B7
theorem hd_kept (w : World) (p : Nat) (v0 v1 v2 v3 v4 v5 v6 : Int) :
    Kept [p] w (((((((w.setCell ⟨p, 0, none⟩ (.int .i64 v0)).setCell ⟨p, 1, none⟩ (.int .i64 v1)).setCell ⟨p, 2, none⟩ (.int .i64 v2)).setCell ⟨p, 3, none⟩ (.int .i64 v3)).setCell ⟨p, 4, none⟩ (.int .i64 v4)).setCell ⟨p, 5, none⟩ (.int .i64 v5)).setCell ⟨p, 6, none⟩ (.int .i64 v6)) :=
  ((((((Kept.setCell [p] w ⟨p, 0, none⟩ _ (by simp)).trans (Kept.setCell [p] _ ⟨p, 1, none⟩ _ (by simp)) fun _ h => .inl h).trans (Kept.setCell [p] _ ⟨p, 2, none⟩ _ (by simp)) fun _ h => .inl h).trans (Kept.setCell [p] _ ⟨p, 3, none⟩ _ (by simp)) fun _ h => .inl h).trans (Kept.setCell [p] _ ⟨p, 4, none⟩ _ (by simp)) fun _ h => .inl h).trans (Kept.setCell [p] _ ⟨p, 5, none⟩ _ (by simp)) fun _ h => .inl h).trans (Kept.setCell [p] _ ⟨p, 6, none⟩ _ (by simp)) fun _ h => .inl h
section
variable {ow : Bool} {w0 w w' : World} {b y p : Nat} {s1 s2 : St} {N : Nat} {a : Ax} {x : Sx}
theorem to_twoB {q : Nat} {T : TypeId} {cs : Array Value} (h : TwoT ow w0 w b y s1 s2 N) (K : Kept [q] w w') (B : Blk w0 w q T cs) : TwoT ow w0 w' b y s1 s2 N := h.kept K fun k hk => by simp at hk; subst hk; exact ⟨B.old, _, _, _, B.hT, B.at_⟩
set_option maxHeartbeats 4000000
theorem cs0 (h : TwoT ow w0 w b y s1 s2 N) (B : Blk w0 w p 95 a.cells) (hN : N + 5 < 1000000) (hpc : a.pc = 0) :
    Calls Tryz.prog 14 #[pt p, pt b] w fun e w' => e = .returned (.bool true) ∧ w' = w := by
  have c11 : w.cell? ⟨p, 11, none⟩ = some (.int .i64 0) := hpc ▸ B.cell 11
  go_enter Tryz.func14, Tryz.ntmps14
  go_wp2
  apply wp_scope_fwd
  go_wp2
  rw [Exit.fwd_ret]
  go_ret
  exact ⟨rfl, rfl⟩
theorem cs1t (h : TwoT ow w0 w b y s1 s2 N) (B : Blk w0 w p 95 a.cells) (hN : N + 5 < 1000000) (hpc : a.pc = 1) (hr : a.r.Ok) (hN1 : a.r.fd < pN (s1.got a.r.at_)) (hT : pT (s1.got a.r.at_) = 1) :
    Calls Tryz.prog 14 #[pt p, pt b] w fun e w' => e = .returned (.bool false) ∧ To ow w0 w w' b y p (s1.load a.r.at_) s2 (N + 1) ({ a with z := s1.got a.r.at_, hit := false, pc := if a.r.op = 1 then 2 else 4 } : Ax) := by
  obtain ⟨z, hz⟩ : ∃ z, s1.got a.r.at_ = z := ⟨_, rfl⟩
  have hU : U64 z := hz ▸ h.rng1.got _
  rw [hz] at hN1 hT ⊢
  obtain ⟨q0, e0⟩ : ∃ q, pS z = q := ⟨_, rfl⟩
  obtain ⟨q1, e1⟩ : ∃ q, pC z = q := ⟨_, rfl⟩
  obtain ⟨q2, e2⟩ : ∃ q, pN z = q := ⟨_, rfl⟩
  obtain ⟨q3, e3⟩ : ∃ q, pM z = q := ⟨_, rfl⟩
  obtain ⟨q4, e4⟩ : ∃ q, pG z = q := ⟨_, rfl⟩
  obtain ⟨q5, e5⟩ : ∃ q, pT z = q := ⟨_, rfl⟩
  obtain ⟨q6, e6⟩ : ∃ q, pL z = q := ⟨_, rfl⟩
  have t0 : decide (a.r.fd < 0) = false := by have := hr.2.2.2.1; simpa using this
  rw [e2] at hN1
  have t1 : decide (q2 ≤ a.r.fd) = false := by simpa using hN1
  clear hN1
  rw [e5] at hT
  have t2 : (q5 == 2) = false := by simp [hT]
  have t3 : (q5 == 1) = true := by simp [hT]
  clear hT
  obtain ⟨pn, hpn⟩ : ∃ q : Int, (if a.r.op = 1 then 2 else 4) = q := ⟨_, rfl⟩
  rw [hpn]
  have c11 : w.cell? ⟨p, 11, none⟩ = some (.int .i64 1) := hpc ▸ B.cell 11
  have c26 : w.cell? ⟨p, 26, none⟩ = some (.bool a.hit) := B.cell 26
  have f26 := B.free 26
  have lp := B.lt
  have hs0 : w0.heap.size ≤ w.heap.size := h.bel.size
  have K1 : Kept [p] w (w.setCell ⟨p, 26, none⟩ (.bool false)) := Kept.setCell [p] _ _ _ (by simp)
  have b1 := B.s_hit false
  have h1 := to_twoB h K1 B
  have a2 := (Below.refl (w.setCell ⟨p, 26, none⟩ (.bool false)).heap.size (w.setCell ⟨p, 26, none⟩ (.bool false))).alloc (Nat.le_refl _) (.cells #[.int .i64 0, .int .i64 0, .int .i64 0, .int .i64 0, .int .i64 0, .int .i64 0, .int .i64 0] 40)
  have b2 := b1.below a2
  have h2 := h1.below a2
  have np : w.heap.size ≠ p := by omega
  have H2 : Blk w0 ((w.setCell ⟨p, 26, none⟩ (.bool false)).alloc (.cells #[.int .i64 0, .int .i64 0, .int .i64 0, .int .i64 0, .int .i64 0, .int .i64 0, .int .i64 0] 40)) w.heap.size 40 #[.int .i64 0, .int .i64 0, .int .i64 0, .int .i64 0, .int .i64 0, .int .i64 0, .int .i64 0] := ⟨newAt (by simp), hs0, by decide⟩
  have o2 : Oth [w.heap.size, p] w ((w.setCell ⟨p, 26, none⟩ (.bool false)).alloc (.cells #[.int .i64 0, .int .i64 0, .int .i64 0, .int .i64 0, .int .i64 0, .int .i64 0, .int .i64 0] 40)) := ((Oth.kept K1).mono (by simp)).trans (Oth.below a2)
  go_enter Tryz.func14, Tryz.ntmps14
  go_wp2
  apply wp_scope_fwd
  go_upto_region 5 with (fail)
  obtain ⟨hb, hhb⟩ : ∃ hb, w.heap.size = hb := ⟨_, rfl⟩
  rw [hhb] at H2 o2 np ⊢
  generalize (w.setCell ⟨p, 26, none⟩ (.bool false)).alloc (.cells #[.int .i64 0, .int .i64 0, .int .i64 0, .int .i64 0, .int .i64 0, .int .i64 0, .int .i64 0] 40) = w2 at b2 h2 H2 o2 ⊢
  clear c11 c26 f26 a2 b1 h1 K1
  have c11 : w2.cell? ⟨p, 11, none⟩ = some (.int .i64 1) := hpc ▸ b2.cell 11
  have c1 : w2.cell? ⟨p, 1, none⟩ = some (.int .i64 a.r.at_) := b2.cell 1
  have c2 : w2.cell? ⟨p, 2, none⟩ = some (.int .i64 a.r.fd) := b2.cell 2
  have c12 : w2.cell? ⟨p, 12, none⟩ = some (.int .u64 a.z) := b2.cell 12
  go_upto_region 9 with (go_at_call 21; refine (tLoad h2 (by omega) a.r.at_).mono ?_; rintro e w3 ⟨rfl, h3, o3⟩; rw [hz]; have b3 := b2.oth o3 (by simp); have H3 := H2.oth o3 (by simp); have o3' := o2.trans (o3.mono (by simp)); have d12 : w3.cell? ⟨p, 12, none⟩ = some (.int .u64 a.z) := b3.cell 12; have df12 := b3.free 12; clear o3)
  have K4 : Kept [p] w3 (w3.setCell ⟨p, 12, none⟩ (.int .u64 z)) := Kept.setCell [p] _ _ _ (by simp)
  have b4 := b3.s_z z
  have h4 := to_twoB h3 K4 b3
  have H4 := H3.oth (Oth.kept K4) (by simpa using np)
  have o4 := o3'.trans ((Oth.kept K4).mono (by simp))
  generalize w3.setCell ⟨p, 12, none⟩ (.int .u64 z) = w4 at b4 h4 H4 o4 ⊢
  clear d12 df12 c11 c1 c2 c12 b3 h3 H3 o3' K4 b2 h2 H2 o2
  have c12 : w4.cell? ⟨p, 12, none⟩ = some (.int .u64 z) := b4.cell 12
  go_upto_region 10 with (go_at_call 34; refine (H.cOf z hU.1 hU.2 _ h4.widw).mono ?_; rintro e w5 ⟨rfl, hw5⟩; rw [e0, e1, e2, e3, e4, e5, e6] at hw5 ⊢; have hb5 : Below w4.heap.size w4 w5 := (by rw [hw5]; go_grown); have b5 := b4.below hb5; have h5 := h4.below hb5; have H5 := H4.below hb5; have o5 := o4.trans (Oth.below hb5); clear hw5 hb5; have g0 : w5.cell? ⟨hb, 0, none⟩ = some (.int .i64 0) := H5.cell 0; have gf0 := H5.free 0; have g1 : w5.cell? ⟨hb, 1, none⟩ = some (.int .i64 0) := H5.cell 1; have gf1 := H5.free 1; have g2 : w5.cell? ⟨hb, 2, none⟩ = some (.int .i64 0) := H5.cell 2; have gf2 := H5.free 2; have g3 : w5.cell? ⟨hb, 3, none⟩ = some (.int .i64 0) := H5.cell 3; have gf3 := H5.free 3; have g4 : w5.cell? ⟨hb, 4, none⟩ = some (.int .i64 0) := H5.cell 4; have gf4 := H5.free 4; have g5 : w5.cell? ⟨hb, 5, none⟩ = some (.int .i64 0) := H5.cell 5; have gf5 := H5.free 5; have g6 : w5.cell? ⟨hb, 6, none⟩ = some (.int .i64 0) := H5.cell 6; have gf6 := H5.free 6)
  have K6 := hd_kept w5 hb q0 q1 q2 q3 q4 q5 q6
  have H6 := hd_cells H5 q0 q1 q2 q3 q4 q5 q6
  have b6 := b5.oth (Oth.kept K6) (by simpa using Ne.symm np)
  have h6 := to_twoB h5 K6 H5
  have o6 := o5.trans ((Oth.kept K6).mono (by simp))
  generalize ((((((w5.setCell ⟨hb, 0, none⟩ (.int .i64 q0)).setCell ⟨hb, 1, none⟩ (.int .i64 q1)).setCell ⟨hb, 2, none⟩ (.int .i64 q2)).setCell ⟨hb, 3, none⟩ (.int .i64 q3)).setCell ⟨hb, 4, none⟩ (.int .i64 q4)).setCell ⟨hb, 5, none⟩ (.int .i64 q5)).setCell ⟨hb, 6, none⟩ (.int .i64 q6) = w6 at H6 b6 h6 o6 ⊢
  clear g0 g1 g2 g3 g4 g5 g6 gf0 gf1 gf2 gf3 gf4 gf5 gf6 K6 H5 b5 h5 o5
  have k2 : w6.cell? ⟨hb, 2, none⟩ = some (.int .i64 q2) := H6.cell 2
  have k5 : w6.cell? ⟨hb, 5, none⟩ = some (.int .i64 q5) := H6.cell 5
  have k6 : w6.cell? ⟨hb, 6, none⟩ = some (.int .i64 q6) := H6.cell 6
  have c0 : w6.cell? ⟨p, 0, none⟩ = some (.int .i64 a.r.op) := b6.cell 0
  have c1 : w6.cell? ⟨p, 1, none⟩ = some (.int .i64 a.r.at_) := b6.cell 1
  have c2 : w6.cell? ⟨p, 2, none⟩ = some (.int .i64 a.r.fd) := b6.cell 2
  have c11 : w6.cell? ⟨p, 11, none⟩ = some (.int .i64 1) := hpc ▸ b6.cell 11
  have f11 := b6.free 11
  have c27 : w6.cell? ⟨p, 27, none⟩ = some (.int .i64 a.o.c) := b6.cell 27
  have f27 := b6.free 27
  have lh := H6.lt
  go_quiet (fail)
  have hq := S.bdr (Below.refl w6.heap.size w6) nq
  have b7 := b6.below hq
  have h7 := h6.below hq
  have H7 := H6.below hq
  have o7 := o6.trans (Oth.below hq)
  generalize w6.drewN nq = w7 at b7 h7 H7 o7 ⊢
  clear hq k2 k5 k6 c0 c1 c2 c11 f11 c27 f27 lh H6 b6 h6 o6
  have k2 : w7.cell? ⟨hb, 2, none⟩ = some (.int .i64 q2) := H7.cell 2
  have k5 : w7.cell? ⟨hb, 5, none⟩ = some (.int .i64 q5) := H7.cell 5
  have k6 : w7.cell? ⟨hb, 6, none⟩ = some (.int .i64 q6) := H7.cell 6
  have c0 : w7.cell? ⟨p, 0, none⟩ = some (.int .i64 a.r.op) := b7.cell 0
  have c1 : w7.cell? ⟨p, 1, none⟩ = some (.int .i64 a.r.at_) := b7.cell 1
  have c2 : w7.cell? ⟨p, 2, none⟩ = some (.int .i64 a.r.fd) := b7.cell 2
  have c11 : w7.cell? ⟨p, 11, none⟩ = some (.int .i64 1) := hpc ▸ b7.cell 11
  have f11 := b7.free 11
  have c27 : w7.cell? ⟨p, 27, none⟩ = some (.int .i64 a.o.c) := b7.cell 27
  have f27 := b7.free 27
  have lh := H7.lt
  go_wp2_with (go_at_call 35; refine (cBehind c0).mono ?_; rintro e wx ⟨rfl, hwx⟩; rw [hwx, hpn]; clear hwx wx)
  rw [Exit.fwd_ret]
  go_ret
  have K7 : Kept [p] w7 (w7.setCell ⟨p, 11, none⟩ (.int .i64 pn)) := Kept.setCell [p] _ _ _ (by simp)
  exact ⟨rfl, to_twoB h7 K7 b7, b7.s_pc _, (o7.trans ((Oth.kept K7).mono (by simp))).drop (by omega)⟩
theorem cs1e (h : TwoT ow w0 w b y s1 s2 N) (B : Blk w0 w p 95 a.cells) (hN : N + 5 < 1000000) (hpc : a.pc = 1) (hr : a.r.Ok) (hN1 : pN (s1.got a.r.at_) ≤ a.r.fd) :
    Calls Tryz.prog 14 #[pt p, pt b] w fun e w' => e = .returned (.bool true) ∧ To ow w0 w w' b y p (s1.load a.r.at_) s2 (N + 1) ({ a with z := s1.got a.r.at_, hit := false, pc := 0, o := ⟨15, a.o.v, a.o.y⟩ } : Ax) := by
  obtain ⟨z, hz⟩ : ∃ z, s1.got a.r.at_ = z := ⟨_, rfl⟩
  have hU : U64 z := hz ▸ h.rng1.got _
  rw [hz] at hN1 ⊢
  obtain ⟨q0, e0⟩ : ∃ q, pS z = q := ⟨_, rfl⟩
  obtain ⟨q1, e1⟩ : ∃ q, pC z = q := ⟨_, rfl⟩
  obtain ⟨q2, e2⟩ : ∃ q, pN z = q := ⟨_, rfl⟩
  obtain ⟨q3, e3⟩ : ∃ q, pM z = q := ⟨_, rfl⟩
  obtain ⟨q4, e4⟩ : ∃ q, pG z = q := ⟨_, rfl⟩
  obtain ⟨q5, e5⟩ : ∃ q, pT z = q := ⟨_, rfl⟩
  obtain ⟨q6, e6⟩ : ∃ q, pL z = q := ⟨_, rfl⟩
  have t0 : decide (a.r.fd < 0) = false := by have := hr.2.2.2.1; simpa using this
  rw [e2] at hN1
  have t1 : decide (q2 ≤ a.r.fd) = true := by simpa using hN1
  clear hN1
  have c11 : w.cell? ⟨p, 11, none⟩ = some (.int .i64 1) := hpc ▸ B.cell 11
  have c26 : w.cell? ⟨p, 26, none⟩ = some (.bool a.hit) := B.cell 26
  have f26 := B.free 26
  have lp := B.lt
  have hs0 : w0.heap.size ≤ w.heap.size := h.bel.size
  have K1 : Kept [p] w (w.setCell ⟨p, 26, none⟩ (.bool false)) := Kept.setCell [p] _ _ _ (by simp)
  have b1 := B.s_hit false
  have h1 := to_twoB h K1 B
  have a2 := (Below.refl (w.setCell ⟨p, 26, none⟩ (.bool false)).heap.size (w.setCell ⟨p, 26, none⟩ (.bool false))).alloc (Nat.le_refl _) (.cells #[.int .i64 0, .int .i64 0, .int .i64 0, .int .i64 0, .int .i64 0, .int .i64 0, .int .i64 0] 40)
  have b2 := b1.below a2
  have h2 := h1.below a2
  have np : w.heap.size ≠ p := by omega
  have H2 : Blk w0 ((w.setCell ⟨p, 26, none⟩ (.bool false)).alloc (.cells #[.int .i64 0, .int .i64 0, .int .i64 0, .int .i64 0, .int .i64 0, .int .i64 0, .int .i64 0] 40)) w.heap.size 40 #[.int .i64 0, .int .i64 0, .int .i64 0, .int .i64 0, .int .i64 0, .int .i64 0, .int .i64 0] := ⟨newAt (by simp), hs0, by decide⟩
  have o2 : Oth [w.heap.size, p] w ((w.setCell ⟨p, 26, none⟩ (.bool false)).alloc (.cells #[.int .i64 0, .int .i64 0, .int .i64 0, .int .i64 0, .int .i64 0, .int .i64 0, .int .i64 0] 40)) := ((Oth.kept K1).mono (by simp)).trans (Oth.below a2)
  go_enter Tryz.func14, Tryz.ntmps14
  go_wp2
  apply wp_scope_fwd
  go_upto_region 5 with (fail)
  obtain ⟨hb, hhb⟩ : ∃ hb, w.heap.size = hb := ⟨_, rfl⟩
  rw [hhb] at H2 o2 np ⊢
  generalize (w.setCell ⟨p, 26, none⟩ (.bool false)).alloc (.cells #[.int .i64 0, .int .i64 0, .int .i64 0, .int .i64 0, .int .i64 0, .int .i64 0, .int .i64 0] 40) = w2 at b2 h2 H2 o2 ⊢
  clear c11 c26 f26 a2 b1 h1 K1
  have c11 : w2.cell? ⟨p, 11, none⟩ = some (.int .i64 1) := hpc ▸ b2.cell 11
  have c1 : w2.cell? ⟨p, 1, none⟩ = some (.int .i64 a.r.at_) := b2.cell 1
  have c2 : w2.cell? ⟨p, 2, none⟩ = some (.int .i64 a.r.fd) := b2.cell 2
  have c12 : w2.cell? ⟨p, 12, none⟩ = some (.int .u64 a.z) := b2.cell 12
  go_upto_region 9 with (go_at_call 21; refine (tLoad h2 (by omega) a.r.at_).mono ?_; rintro e w3 ⟨rfl, h3, o3⟩; rw [hz]; have b3 := b2.oth o3 (by simp); have H3 := H2.oth o3 (by simp); have o3' := o2.trans (o3.mono (by simp)); have d12 : w3.cell? ⟨p, 12, none⟩ = some (.int .u64 a.z) := b3.cell 12; have df12 := b3.free 12; clear o3)
  have K4 : Kept [p] w3 (w3.setCell ⟨p, 12, none⟩ (.int .u64 z)) := Kept.setCell [p] _ _ _ (by simp)
  have b4 := b3.s_z z
  have h4 := to_twoB h3 K4 b3
  have H4 := H3.oth (Oth.kept K4) (by simpa using np)
  have o4 := o3'.trans ((Oth.kept K4).mono (by simp))
  generalize w3.setCell ⟨p, 12, none⟩ (.int .u64 z) = w4 at b4 h4 H4 o4 ⊢
  clear d12 df12 c11 c1 c2 c12 b3 h3 H3 o3' K4 b2 h2 H2 o2
  have c12 : w4.cell? ⟨p, 12, none⟩ = some (.int .u64 z) := b4.cell 12
  go_upto_region 10 with (go_at_call 34; refine (H.cOf z hU.1 hU.2 _ h4.widw).mono ?_; rintro e w5 ⟨rfl, hw5⟩; rw [e0, e1, e2, e3, e4, e5, e6] at hw5 ⊢; have hb5 : Below w4.heap.size w4 w5 := (by rw [hw5]; go_grown); have b5 := b4.below hb5; have h5 := h4.below hb5; have H5 := H4.below hb5; have o5 := o4.trans (Oth.below hb5); clear hw5 hb5; have g0 : w5.cell? ⟨hb, 0, none⟩ = some (.int .i64 0) := H5.cell 0; have gf0 := H5.free 0; have g1 : w5.cell? ⟨hb, 1, none⟩ = some (.int .i64 0) := H5.cell 1; have gf1 := H5.free 1; have g2 : w5.cell? ⟨hb, 2, none⟩ = some (.int .i64 0) := H5.cell 2; have gf2 := H5.free 2; have g3 : w5.cell? ⟨hb, 3, none⟩ = some (.int .i64 0) := H5.cell 3; have gf3 := H5.free 3; have g4 : w5.cell? ⟨hb, 4, none⟩ = some (.int .i64 0) := H5.cell 4; have gf4 := H5.free 4; have g5 : w5.cell? ⟨hb, 5, none⟩ = some (.int .i64 0) := H5.cell 5; have gf5 := H5.free 5; have g6 : w5.cell? ⟨hb, 6, none⟩ = some (.int .i64 0) := H5.cell 6; have gf6 := H5.free 6)
  have K6 := hd_kept w5 hb q0 q1 q2 q3 q4 q5 q6
  have H6 := hd_cells H5 q0 q1 q2 q3 q4 q5 q6
  have b6 := b5.oth (Oth.kept K6) (by simpa using Ne.symm np)
  have h6 := to_twoB h5 K6 H5
  have o6 := o5.trans ((Oth.kept K6).mono (by simp))
  generalize ((((((w5.setCell ⟨hb, 0, none⟩ (.int .i64 q0)).setCell ⟨hb, 1, none⟩ (.int .i64 q1)).setCell ⟨hb, 2, none⟩ (.int .i64 q2)).setCell ⟨hb, 3, none⟩ (.int .i64 q3)).setCell ⟨hb, 4, none⟩ (.int .i64 q4)).setCell ⟨hb, 5, none⟩ (.int .i64 q5)).setCell ⟨hb, 6, none⟩ (.int .i64 q6) = w6 at H6 b6 h6 o6 ⊢
  clear g0 g1 g2 g3 g4 g5 g6 gf0 gf1 gf2 gf3 gf4 gf5 gf6 K6 H5 b5 h5 o5
  have k2 : w6.cell? ⟨hb, 2, none⟩ = some (.int .i64 q2) := H6.cell 2
  have k5 : w6.cell? ⟨hb, 5, none⟩ = some (.int .i64 q5) := H6.cell 5
  have k6 : w6.cell? ⟨hb, 6, none⟩ = some (.int .i64 q6) := H6.cell 6
  have c0 : w6.cell? ⟨p, 0, none⟩ = some (.int .i64 a.r.op) := b6.cell 0
  have c1 : w6.cell? ⟨p, 1, none⟩ = some (.int .i64 a.r.at_) := b6.cell 1
  have c2 : w6.cell? ⟨p, 2, none⟩ = some (.int .i64 a.r.fd) := b6.cell 2
  have c11 : w6.cell? ⟨p, 11, none⟩ = some (.int .i64 1) := hpc ▸ b6.cell 11
  have f11 := b6.free 11
  have c27 : w6.cell? ⟨p, 27, none⟩ = some (.int .i64 a.o.c) := b6.cell 27
  have f27 := b6.free 27
  have lh := H6.lt
  go_quiet (fail)
  have hq := S.bdr (Below.refl w6.heap.size w6) nq
  have b7 := b6.below hq
  have h7 := h6.below hq
  have H7 := H6.below hq
  have o7 := o6.trans (Oth.below hq)
  generalize w6.drewN nq = w7 at b7 h7 H7 o7 ⊢
  clear hq k2 k5 k6 c0 c1 c2 c11 f11 c27 f27 lh H6 b6 h6 o6
  have k2 : w7.cell? ⟨hb, 2, none⟩ = some (.int .i64 q2) := H7.cell 2
  have k5 : w7.cell? ⟨hb, 5, none⟩ = some (.int .i64 q5) := H7.cell 5
  have k6 : w7.cell? ⟨hb, 6, none⟩ = some (.int .i64 q6) := H7.cell 6
  have c0 : w7.cell? ⟨p, 0, none⟩ = some (.int .i64 a.r.op) := b7.cell 0
  have c1 : w7.cell? ⟨p, 1, none⟩ = some (.int .i64 a.r.at_) := b7.cell 1
  have c2 : w7.cell? ⟨p, 2, none⟩ = some (.int .i64 a.r.fd) := b7.cell 2
  have c11 : w7.cell? ⟨p, 11, none⟩ = some (.int .i64 1) := hpc ▸ b7.cell 11
  have f11 := b7.free 11
  have c27 : w7.cell? ⟨p, 27, none⟩ = some (.int .i64 a.o.c) := b7.cell 27
  have f27 := b7.free 27
  have lh := H7.lt
  go_wp2_with (fail)
  go_step3
  change Exit.fwd _ _ _ (Exit.goto _) _ _
  refine ⟨_, rfl, ?_⟩
  go_wp2
  rw [Exit.noGoto_ret]
  go_ret
  have K8 : Kept [p] w7 ((w7.setCell ⟨p, 27, none⟩ (.int .i64 15)).setCell ⟨p, 11, none⟩ (.int .i64 0)) := (Kept.setCell [p] _ _ _ (by simp)).trans (Kept.setCell [p] _ _ _ (by simp)) (fun _ h => .inl h)
  exact ⟨rfl, to_twoB h7 K8 b7, (b7.s_oc 15).s_pc 0, (o7.trans ((Oth.kept K8).mono (by simp))).drop (by omega)⟩
theorem cs1m (h : TwoT ow w0 w b y s1 s2 N) (B : Blk w0 w p 95 a.cells) (hN : N + 5 < 1000000) (hpc : a.pc = 1) (hr : a.r.Ok) (hN1 : a.r.fd < pN (s1.got a.r.at_)) (hT : pT (s1.got a.r.at_) = 2) :
    Calls Tryz.prog 14 #[pt p, pt b] w fun e w' => e = .returned (.bool false) ∧ ∃ vd, To ow w0 w w' b y p (s1.load a.r.at_) s2 (N + 1) ({ a with z := s1.got a.r.at_, hit := false, pc := 6, d := Sx.new (pL (s1.got a.r.at_) + 1 + a.r.fd) a.r a.h, vd := vd } : Ax) ∧ RepO w' (Sx.new (pL (s1.got a.r.at_) + 1 + a.r.fd) a.r a.h).k vd := by
  obtain ⟨z, hz⟩ : ∃ z, s1.got a.r.at_ = z := ⟨_, rfl⟩
  have hU : U64 z := hz ▸ h.rng1.got _
  rw [hz] at hN1 hT ⊢
  obtain ⟨q0, e0⟩ : ∃ q, pS z = q := ⟨_, rfl⟩
  obtain ⟨q1, e1⟩ : ∃ q, pC z = q := ⟨_, rfl⟩
  obtain ⟨q2, e2⟩ : ∃ q, pN z = q := ⟨_, rfl⟩
  obtain ⟨q3, e3⟩ : ∃ q, pM z = q := ⟨_, rfl⟩
  obtain ⟨q4, e4⟩ : ∃ q, pG z = q := ⟨_, rfl⟩
  obtain ⟨q5, e5⟩ : ∃ q, pT z = q := ⟨_, rfl⟩
  obtain ⟨q6, e6⟩ : ∃ q, pL z = q := ⟨_, rfl⟩
  have t0 : decide (a.r.fd < 0) = false := by have := hr.2.2.2.1; simpa using this
  rw [e2] at hN1
  have t1 : decide (q2 ≤ a.r.fd) = false := by simpa using hN1
  clear hN1
  rw [e5] at hT
  have t2 : (q5 == 2) = true := by simp [hT]
  clear hT
  have l0 : 0 ≤ q6 ∧ q6 < 4096 := by rw [← e6]; unfold H.Plain.pL; omega
  rw [e6]
  have c11 : w.cell? ⟨p, 11, none⟩ = some (.int .i64 1) := hpc ▸ B.cell 11
  have c26 : w.cell? ⟨p, 26, none⟩ = some (.bool a.hit) := B.cell 26
  have f26 := B.free 26
  have lp := B.lt
  have hs0 : w0.heap.size ≤ w.heap.size := h.bel.size
  have K1 : Kept [p] w (w.setCell ⟨p, 26, none⟩ (.bool false)) := Kept.setCell [p] _ _ _ (by simp)
  have b1 := B.s_hit false
  have h1 := to_twoB h K1 B
  have a2 := (Below.refl (w.setCell ⟨p, 26, none⟩ (.bool false)).heap.size (w.setCell ⟨p, 26, none⟩ (.bool false))).alloc (Nat.le_refl _) (.cells #[.int .i64 0, .int .i64 0, .int .i64 0, .int .i64 0, .int .i64 0, .int .i64 0, .int .i64 0] 40)
  have b2 := b1.below a2
  have h2 := h1.below a2
  have np : w.heap.size ≠ p := by omega
  have H2 : Blk w0 ((w.setCell ⟨p, 26, none⟩ (.bool false)).alloc (.cells #[.int .i64 0, .int .i64 0, .int .i64 0, .int .i64 0, .int .i64 0, .int .i64 0, .int .i64 0] 40)) w.heap.size 40 #[.int .i64 0, .int .i64 0, .int .i64 0, .int .i64 0, .int .i64 0, .int .i64 0, .int .i64 0] := ⟨newAt (by simp), hs0, by decide⟩
  have o2 : Oth [w.heap.size, p] w ((w.setCell ⟨p, 26, none⟩ (.bool false)).alloc (.cells #[.int .i64 0, .int .i64 0, .int .i64 0, .int .i64 0, .int .i64 0, .int .i64 0, .int .i64 0] 40)) := ((Oth.kept K1).mono (by simp)).trans (Oth.below a2)
  go_enter Tryz.func14, Tryz.ntmps14
  go_wp2
  apply wp_scope_fwd
  go_upto_region 5 with (fail)
  obtain ⟨hb, hhb⟩ : ∃ hb, w.heap.size = hb := ⟨_, rfl⟩
  rw [hhb] at H2 o2 np ⊢
  generalize (w.setCell ⟨p, 26, none⟩ (.bool false)).alloc (.cells #[.int .i64 0, .int .i64 0, .int .i64 0, .int .i64 0, .int .i64 0, .int .i64 0, .int .i64 0] 40) = w2 at b2 h2 H2 o2 ⊢
  clear c11 c26 f26 a2 b1 h1 K1
  have c11 : w2.cell? ⟨p, 11, none⟩ = some (.int .i64 1) := hpc ▸ b2.cell 11
  have c1 : w2.cell? ⟨p, 1, none⟩ = some (.int .i64 a.r.at_) := b2.cell 1
  have c2 : w2.cell? ⟨p, 2, none⟩ = some (.int .i64 a.r.fd) := b2.cell 2
  have c12 : w2.cell? ⟨p, 12, none⟩ = some (.int .u64 a.z) := b2.cell 12
  go_upto_region 9 with (go_at_call 21; refine (tLoad h2 (by omega) a.r.at_).mono ?_; rintro e w3 ⟨rfl, h3, o3⟩; rw [hz]; have b3 := b2.oth o3 (by simp); have H3 := H2.oth o3 (by simp); have o3' := o2.trans (o3.mono (by simp)); have d12 : w3.cell? ⟨p, 12, none⟩ = some (.int .u64 a.z) := b3.cell 12; have df12 := b3.free 12; clear o3)
  have K4 : Kept [p] w3 (w3.setCell ⟨p, 12, none⟩ (.int .u64 z)) := Kept.setCell [p] _ _ _ (by simp)
  have b4 := b3.s_z z
  have h4 := to_twoB h3 K4 b3
  have H4 := H3.oth (Oth.kept K4) (by simpa using np)
  have o4 := o3'.trans ((Oth.kept K4).mono (by simp))
  generalize w3.setCell ⟨p, 12, none⟩ (.int .u64 z) = w4 at b4 h4 H4 o4 ⊢
  clear d12 df12 c11 c1 c2 c12 b3 h3 H3 o3' K4 b2 h2 H2 o2
  have c12 : w4.cell? ⟨p, 12, none⟩ = some (.int .u64 z) := b4.cell 12
  go_upto_region 10 with (go_at_call 34; refine (H.cOf z hU.1 hU.2 _ h4.widw).mono ?_; rintro e w5 ⟨rfl, hw5⟩; rw [e0, e1, e2, e3, e4, e5, e6] at hw5 ⊢; have hb5 : Below w4.heap.size w4 w5 := (by rw [hw5]; go_grown); have b5 := b4.below hb5; have h5 := h4.below hb5; have H5 := H4.below hb5; have o5 := o4.trans (Oth.below hb5); clear hw5 hb5; have g0 : w5.cell? ⟨hb, 0, none⟩ = some (.int .i64 0) := H5.cell 0; have gf0 := H5.free 0; have g1 : w5.cell? ⟨hb, 1, none⟩ = some (.int .i64 0) := H5.cell 1; have gf1 := H5.free 1; have g2 : w5.cell? ⟨hb, 2, none⟩ = some (.int .i64 0) := H5.cell 2; have gf2 := H5.free 2; have g3 : w5.cell? ⟨hb, 3, none⟩ = some (.int .i64 0) := H5.cell 3; have gf3 := H5.free 3; have g4 : w5.cell? ⟨hb, 4, none⟩ = some (.int .i64 0) := H5.cell 4; have gf4 := H5.free 4; have g5 : w5.cell? ⟨hb, 5, none⟩ = some (.int .i64 0) := H5.cell 5; have gf5 := H5.free 5; have g6 : w5.cell? ⟨hb, 6, none⟩ = some (.int .i64 0) := H5.cell 6; have gf6 := H5.free 6)
  have K6 := hd_kept w5 hb q0 q1 q2 q3 q4 q5 q6
  have H6 := hd_cells H5 q0 q1 q2 q3 q4 q5 q6
  have b6 := b5.oth (Oth.kept K6) (by simpa using Ne.symm np)
  have h6 := to_twoB h5 K6 H5
  have o6 := o5.trans ((Oth.kept K6).mono (by simp))
  generalize ((((((w5.setCell ⟨hb, 0, none⟩ (.int .i64 q0)).setCell ⟨hb, 1, none⟩ (.int .i64 q1)).setCell ⟨hb, 2, none⟩ (.int .i64 q2)).setCell ⟨hb, 3, none⟩ (.int .i64 q3)).setCell ⟨hb, 4, none⟩ (.int .i64 q4)).setCell ⟨hb, 5, none⟩ (.int .i64 q5)).setCell ⟨hb, 6, none⟩ (.int .i64 q6) = w6 at H6 b6 h6 o6 ⊢
  clear g0 g1 g2 g3 g4 g5 g6 gf0 gf1 gf2 gf3 gf4 gf5 gf6 K6 H5 b5 h5 o5
  have k2 : w6.cell? ⟨hb, 2, none⟩ = some (.int .i64 q2) := H6.cell 2
  have k5 : w6.cell? ⟨hb, 5, none⟩ = some (.int .i64 q5) := H6.cell 5
  have k6 : w6.cell? ⟨hb, 6, none⟩ = some (.int .i64 q6) := H6.cell 6
  have c0 : w6.cell? ⟨p, 0, none⟩ = some (.int .i64 a.r.op) := b6.cell 0
  have c1 : w6.cell? ⟨p, 1, none⟩ = some (.int .i64 a.r.at_) := b6.cell 1
  have c2 : w6.cell? ⟨p, 2, none⟩ = some (.int .i64 a.r.fd) := b6.cell 2
  have c11 : w6.cell? ⟨p, 11, none⟩ = some (.int .i64 1) := hpc ▸ b6.cell 11
  have f11 := b6.free 11
  have c27 : w6.cell? ⟨p, 27, none⟩ = some (.int .i64 a.o.c) := b6.cell 27
  have f27 := b6.free 27
  have lh := H6.lt
  go_quiet (fail)
  have hq := S.bdr (Below.refl w6.heap.size w6) nq
  have b7 := b6.below hq
  have h7 := h6.below hq
  have H7 := H6.below hq
  have o7 := o6.trans (Oth.below hq)
  generalize w6.drewN nq = w7 at b7 h7 H7 o7 ⊢
  clear hq k2 k5 k6 c0 c1 c2 c11 f11 c27 f27 lh H6 b6 h6 o6
  have k2 : w7.cell? ⟨hb, 2, none⟩ = some (.int .i64 q2) := H7.cell 2
  have k5 : w7.cell? ⟨hb, 5, none⟩ = some (.int .i64 q5) := H7.cell 5
  have k6 : w7.cell? ⟨hb, 6, none⟩ = some (.int .i64 q6) := H7.cell 6
  have c0 : w7.cell? ⟨p, 0, none⟩ = some (.int .i64 a.r.op) := b7.cell 0
  have c1 : w7.cell? ⟨p, 1, none⟩ = some (.int .i64 a.r.at_) := b7.cell 1
  have c2 : w7.cell? ⟨p, 2, none⟩ = some (.int .i64 a.r.fd) := b7.cell 2
  have c11 : w7.cell? ⟨p, 11, none⟩ = some (.int .i64 1) := hpc ▸ b7.cell 11
  have f11 := b7.free 11
  have c27 : w7.cell? ⟨p, 27, none⟩ = some (.int .i64 a.o.c) := b7.cell 27
  have f27 := b7.free 27
  have lh := H7.lt
  go_wp2_with (fail)
  go_step3
  change Exit.fwd _ _ _ (Exit.goto _) _ _
  refine ⟨_, rfl, ?_⟩
  go_wp2_with (go_at_call 40; refine (cEnter b7 hr l0.1 l0.2).mono ?_; rintro e w8 ⟨rfl, K8, vd, b8, R8⟩)
  rw [Exit.noGoto_ret]
  go_ret
  exact ⟨rfl, vd, ⟨to_twoB h7 K8 b7, b8, (o7.trans ((Oth.kept K8).mono (by simp))).drop (by omega)⟩, R8⟩
theorem cs1s (h : TwoT ow w0 w b y s1 s2 N) (B : Blk w0 w p 95 a.cells) (hN : N + 5 < 1000000) (hpc : a.pc = 1) (hr : a.r.Ok) (hN1 : a.r.fd < pN (s1.got a.r.at_)) (hT : pT (s1.got a.r.at_) ≠ 2) (hT2 : pT (s1.got a.r.at_) ≠ 1) :
    Calls Tryz.prog 14 #[pt p, pt b] w fun e w' => e = .returned (.bool false) ∧ ∃ vd, To ow w0 w w' b y p (s1.load a.r.at_) s2 (N + 1) ({ a with z := s1.got a.r.at_, hit := false, pc := 6, d := Sx.new (a.r.at_ + 1 + a.r.fd) a.r a.h, vd := vd } : Ax) ∧ RepO w' (Sx.new (a.r.at_ + 1 + a.r.fd) a.r a.h).k vd := by
  obtain ⟨z, hz⟩ : ∃ z, s1.got a.r.at_ = z := ⟨_, rfl⟩
  have hU : U64 z := hz ▸ h.rng1.got _
  rw [hz] at hN1 hT hT2 ⊢
  obtain ⟨q0, e0⟩ : ∃ q, pS z = q := ⟨_, rfl⟩
  obtain ⟨q1, e1⟩ : ∃ q, pC z = q := ⟨_, rfl⟩
  obtain ⟨q2, e2⟩ : ∃ q, pN z = q := ⟨_, rfl⟩
  obtain ⟨q3, e3⟩ : ∃ q, pM z = q := ⟨_, rfl⟩
  obtain ⟨q4, e4⟩ : ∃ q, pG z = q := ⟨_, rfl⟩
  obtain ⟨q5, e5⟩ : ∃ q, pT z = q := ⟨_, rfl⟩
  obtain ⟨q6, e6⟩ : ∃ q, pL z = q := ⟨_, rfl⟩
  have t0 : decide (a.r.fd < 0) = false := by have := hr.2.2.2.1; simpa using this
  rw [e2] at hN1
  have t1 : decide (q2 ≤ a.r.fd) = false := by simpa using hN1
  clear hN1
  rw [e5] at hT hT2
  have t2 : (q5 == 2) = false := by simpa using hT
  have t3 : (q5 == 1) = false := by simpa using hT2
  clear hT hT2
  have c11 : w.cell? ⟨p, 11, none⟩ = some (.int .i64 1) := hpc ▸ B.cell 11
  have c26 : w.cell? ⟨p, 26, none⟩ = some (.bool a.hit) := B.cell 26
  have f26 := B.free 26
  have lp := B.lt
  have hs0 : w0.heap.size ≤ w.heap.size := h.bel.size
  have K1 : Kept [p] w (w.setCell ⟨p, 26, none⟩ (.bool false)) := Kept.setCell [p] _ _ _ (by simp)
  have b1 := B.s_hit false
  have h1 := to_twoB h K1 B
  have a2 := (Below.refl (w.setCell ⟨p, 26, none⟩ (.bool false)).heap.size (w.setCell ⟨p, 26, none⟩ (.bool false))).alloc (Nat.le_refl _) (.cells #[.int .i64 0, .int .i64 0, .int .i64 0, .int .i64 0, .int .i64 0, .int .i64 0, .int .i64 0] 40)
  have b2 := b1.below a2
  have h2 := h1.below a2
  have np : w.heap.size ≠ p := by omega
  have H2 : Blk w0 ((w.setCell ⟨p, 26, none⟩ (.bool false)).alloc (.cells #[.int .i64 0, .int .i64 0, .int .i64 0, .int .i64 0, .int .i64 0, .int .i64 0, .int .i64 0] 40)) w.heap.size 40 #[.int .i64 0, .int .i64 0, .int .i64 0, .int .i64 0, .int .i64 0, .int .i64 0, .int .i64 0] := ⟨newAt (by simp), hs0, by decide⟩
  have o2 : Oth [w.heap.size, p] w ((w.setCell ⟨p, 26, none⟩ (.bool false)).alloc (.cells #[.int .i64 0, .int .i64 0, .int .i64 0, .int .i64 0, .int .i64 0, .int .i64 0, .int .i64 0] 40)) := ((Oth.kept K1).mono (by simp)).trans (Oth.below a2)
  go_enter Tryz.func14, Tryz.ntmps14
  go_wp2
  apply wp_scope_fwd
  go_upto_region 5 with (fail)
  obtain ⟨hb, hhb⟩ : ∃ hb, w.heap.size = hb := ⟨_, rfl⟩
  rw [hhb] at H2 o2 np ⊢
  generalize (w.setCell ⟨p, 26, none⟩ (.bool false)).alloc (.cells #[.int .i64 0, .int .i64 0, .int .i64 0, .int .i64 0, .int .i64 0, .int .i64 0, .int .i64 0] 40) = w2 at b2 h2 H2 o2 ⊢
  clear c11 c26 f26 a2 b1 h1 K1
  have c11 : w2.cell? ⟨p, 11, none⟩ = some (.int .i64 1) := hpc ▸ b2.cell 11
  have c1 : w2.cell? ⟨p, 1, none⟩ = some (.int .i64 a.r.at_) := b2.cell 1
  have c2 : w2.cell? ⟨p, 2, none⟩ = some (.int .i64 a.r.fd) := b2.cell 2
  have c12 : w2.cell? ⟨p, 12, none⟩ = some (.int .u64 a.z) := b2.cell 12
  go_upto_region 9 with (go_at_call 21; refine (tLoad h2 (by omega) a.r.at_).mono ?_; rintro e w3 ⟨rfl, h3, o3⟩; rw [hz]; have b3 := b2.oth o3 (by simp); have H3 := H2.oth o3 (by simp); have o3' := o2.trans (o3.mono (by simp)); have d12 : w3.cell? ⟨p, 12, none⟩ = some (.int .u64 a.z) := b3.cell 12; have df12 := b3.free 12; clear o3)
  have K4 : Kept [p] w3 (w3.setCell ⟨p, 12, none⟩ (.int .u64 z)) := Kept.setCell [p] _ _ _ (by simp)
  have b4 := b3.s_z z
  have h4 := to_twoB h3 K4 b3
  have H4 := H3.oth (Oth.kept K4) (by simpa using np)
  have o4 := o3'.trans ((Oth.kept K4).mono (by simp))
  generalize w3.setCell ⟨p, 12, none⟩ (.int .u64 z) = w4 at b4 h4 H4 o4 ⊢
  clear d12 df12 c11 c1 c2 c12 b3 h3 H3 o3' K4 b2 h2 H2 o2
  have c12 : w4.cell? ⟨p, 12, none⟩ = some (.int .u64 z) := b4.cell 12
  go_upto_region 10 with (go_at_call 34; refine (H.cOf z hU.1 hU.2 _ h4.widw).mono ?_; rintro e w5 ⟨rfl, hw5⟩; rw [e0, e1, e2, e3, e4, e5, e6] at hw5 ⊢; have hb5 : Below w4.heap.size w4 w5 := (by rw [hw5]; go_grown); have b5 := b4.below hb5; have h5 := h4.below hb5; have H5 := H4.below hb5; have o5 := o4.trans (Oth.below hb5); clear hw5 hb5; have g0 : w5.cell? ⟨hb, 0, none⟩ = some (.int .i64 0) := H5.cell 0; have gf0 := H5.free 0; have g1 : w5.cell? ⟨hb, 1, none⟩ = some (.int .i64 0) := H5.cell 1; have gf1 := H5.free 1; have g2 : w5.cell? ⟨hb, 2, none⟩ = some (.int .i64 0) := H5.cell 2; have gf2 := H5.free 2; have g3 : w5.cell? ⟨hb, 3, none⟩ = some (.int .i64 0) := H5.cell 3; have gf3 := H5.free 3; have g4 : w5.cell? ⟨hb, 4, none⟩ = some (.int .i64 0) := H5.cell 4; have gf4 := H5.free 4; have g5 : w5.cell? ⟨hb, 5, none⟩ = some (.int .i64 0) := H5.cell 5; have gf5 := H5.free 5; have g6 : w5.cell? ⟨hb, 6, none⟩ = some (.int .i64 0) := H5.cell 6; have gf6 := H5.free 6)
  have K6 := hd_kept w5 hb q0 q1 q2 q3 q4 q5 q6
  have H6 := hd_cells H5 q0 q1 q2 q3 q4 q5 q6
  have b6 := b5.oth (Oth.kept K6) (by simpa using Ne.symm np)
  have h6 := to_twoB h5 K6 H5
  have o6 := o5.trans ((Oth.kept K6).mono (by simp))
  generalize ((((((w5.setCell ⟨hb, 0, none⟩ (.int .i64 q0)).setCell ⟨hb, 1, none⟩ (.int .i64 q1)).setCell ⟨hb, 2, none⟩ (.int .i64 q2)).setCell ⟨hb, 3, none⟩ (.int .i64 q3)).setCell ⟨hb, 4, none⟩ (.int .i64 q4)).setCell ⟨hb, 5, none⟩ (.int .i64 q5)).setCell ⟨hb, 6, none⟩ (.int .i64 q6) = w6 at H6 b6 h6 o6 ⊢
  clear g0 g1 g2 g3 g4 g5 g6 gf0 gf1 gf2 gf3 gf4 gf5 gf6 K6 H5 b5 h5 o5
  have k2 : w6.cell? ⟨hb, 2, none⟩ = some (.int .i64 q2) := H6.cell 2
  have k5 : w6.cell? ⟨hb, 5, none⟩ = some (.int .i64 q5) := H6.cell 5
  have k6 : w6.cell? ⟨hb, 6, none⟩ = some (.int .i64 q6) := H6.cell 6
  have c0 : w6.cell? ⟨p, 0, none⟩ = some (.int .i64 a.r.op) := b6.cell 0
  have c1 : w6.cell? ⟨p, 1, none⟩ = some (.int .i64 a.r.at_) := b6.cell 1
  have c2 : w6.cell? ⟨p, 2, none⟩ = some (.int .i64 a.r.fd) := b6.cell 2
  have c11 : w6.cell? ⟨p, 11, none⟩ = some (.int .i64 1) := hpc ▸ b6.cell 11
  have f11 := b6.free 11
  have c27 : w6.cell? ⟨p, 27, none⟩ = some (.int .i64 a.o.c) := b6.cell 27
  have f27 := b6.free 27
  have lh := H6.lt
  go_quiet (fail)
  have hq := S.bdr (Below.refl w6.heap.size w6) nq
  have b7 := b6.below hq
  have h7 := h6.below hq
  have H7 := H6.below hq
  have o7 := o6.trans (Oth.below hq)
  generalize w6.drewN nq = w7 at b7 h7 H7 o7 ⊢
  clear hq k2 k5 k6 c0 c1 c2 c11 f11 c27 f27 lh H6 b6 h6 o6
  have k2 : w7.cell? ⟨hb, 2, none⟩ = some (.int .i64 q2) := H7.cell 2
  have k5 : w7.cell? ⟨hb, 5, none⟩ = some (.int .i64 q5) := H7.cell 5
  have k6 : w7.cell? ⟨hb, 6, none⟩ = some (.int .i64 q6) := H7.cell 6
  have c0 : w7.cell? ⟨p, 0, none⟩ = some (.int .i64 a.r.op) := b7.cell 0
  have c1 : w7.cell? ⟨p, 1, none⟩ = some (.int .i64 a.r.at_) := b7.cell 1
  have c2 : w7.cell? ⟨p, 2, none⟩ = some (.int .i64 a.r.fd) := b7.cell 2
  have c11 : w7.cell? ⟨p, 11, none⟩ = some (.int .i64 1) := hpc ▸ b7.cell 11
  have f11 := b7.free 11
  have c27 : w7.cell? ⟨p, 27, none⟩ = some (.int .i64 a.o.c) := b7.cell 27
  have f27 := b7.free 27
  have lh := H7.lt
  go_wp2_with (fail)
  go_step3
  change Exit.fwd _ _ _ (Exit.goto _) _ _
  refine ⟨_, rfl, ?_⟩
  go_wp2_with (go_at_call 40; refine (cEnter b7 hr hr.2.1 hr.2.2.1).mono ?_; rintro e w8 ⟨rfl, K8, vd, b8, R8⟩)
  rw [Exit.noGoto_ret]
  go_ret
  exact ⟨rfl, vd, ⟨to_twoB h7 K8 b7, b8, (o7.trans ((Oth.kept K8).mono (by simp))).drop (by omega)⟩, R8⟩
theorem cs2 (h : TwoT ow w0 w b y s1 s2 N) (B : Blk w0 w p 95 a.cells) (hN : N + 5 < 1000000) (hpc : a.pc = 2) (hr : a.r.Ok) :
    Calls Tryz.prog 14 #[pt p, pt b] w fun e w' => e = .returned (.bool false) ∧ To ow w0 w w' b y p (s1.load (a.r.at_ + 1 + a.r.fd)) s2 (N + 1) ({ a with g := s1.got (a.r.at_ + 1 + a.r.fd), hit := true, pc := 3 } : Ax) := by
  obtain ⟨f, hf⟩ : ∃ f, a.r.at_ + 1 + a.r.fd = f := ⟨_, rfl⟩
  obtain ⟨g, hg⟩ : ∃ g, s1.got f = g := ⟨_, rfl⟩
  rw [hf, hg]
  obtain ⟨r0, r1, r2, r3, r4⟩ := hr
  have i1 : IntKind.i64.wrap (a.r.at_ + 1) = a.r.at_ + 1 := by rw [IntKind.wrap_i64]; omega
  have i2 : IntKind.i64.wrap (a.r.at_ + 1 + a.r.fd) = f := by rw [IntKind.wrap_i64]; omega
  have i3 : IntKind.i64.wrap f = f := by rw [IntKind.wrap_i64]; omega
  have c11 : w.cell? ⟨p, 11, none⟩ = some (.int .i64 2) := hpc ▸ B.cell 11
  have c26 : w.cell? ⟨p, 26, none⟩ = some (.bool a.hit) := B.cell 26
  have f26 := B.free 26
  have lp := B.lt
  have hs0 : w0.heap.size ≤ w.heap.size := h.bel.size
  have K1 : Kept [p] w (w.setCell ⟨p, 26, none⟩ (.bool false)) := Kept.setCell [p] _ _ _ (by simp)
  have b1 := B.s_hit false
  have h1 := to_twoB h K1 B
  have a2 := (Below.refl (w.setCell ⟨p, 26, none⟩ (.bool false)).heap.size (w.setCell ⟨p, 26, none⟩ (.bool false))).alloc (Nat.le_refl _) (.cells #[.int .i64 0, .int .i64 0, .int .i64 0, .int .i64 0, .int .i64 0, .int .i64 0, .int .i64 0] 40)
  have b2 := b1.below a2
  have h2 := h1.below a2
  have np : w.heap.size ≠ p := by omega
  have H2 : Blk w0 ((w.setCell ⟨p, 26, none⟩ (.bool false)).alloc (.cells #[.int .i64 0, .int .i64 0, .int .i64 0, .int .i64 0, .int .i64 0, .int .i64 0, .int .i64 0] 40)) w.heap.size 40 #[.int .i64 0, .int .i64 0, .int .i64 0, .int .i64 0, .int .i64 0, .int .i64 0, .int .i64 0] := ⟨newAt (by simp), hs0, by decide⟩
  have o2 : Oth [w.heap.size, p] w ((w.setCell ⟨p, 26, none⟩ (.bool false)).alloc (.cells #[.int .i64 0, .int .i64 0, .int .i64 0, .int .i64 0, .int .i64 0, .int .i64 0, .int .i64 0] 40)) := ((Oth.kept K1).mono (by simp)).trans (Oth.below a2)
  go_enter Tryz.func14, Tryz.ntmps14
  go_wp2
  apply wp_scope_fwd
  go_upto_region 5 with (fail)
  obtain ⟨hb, hhb⟩ : ∃ hb, w.heap.size = hb := ⟨_, rfl⟩
  rw [hhb] at H2 o2 np ⊢
  generalize (w.setCell ⟨p, 26, none⟩ (.bool false)).alloc (.cells #[.int .i64 0, .int .i64 0, .int .i64 0, .int .i64 0, .int .i64 0, .int .i64 0, .int .i64 0] 40) = w2 at b2 h2 H2 o2 ⊢
  clear c11 c26 f26 a2 b1 h1 K1
  have c11 : w2.cell? ⟨p, 11, none⟩ = some (.int .i64 2) := hpc ▸ b2.cell 11
  have c1 : w2.cell? ⟨p, 1, none⟩ = some (.int .i64 a.r.at_) := b2.cell 1
  have c2 : w2.cell? ⟨p, 2, none⟩ = some (.int .i64 a.r.fd) := b2.cell 2
  go_upto_region 18 with (fail)
  clear c11 c1 c2
  have hbd : Below w2.heap.size w2 w2.drew := (Below.refl _ _).drew
  have bd := b2.below hbd
  have hd := h2.below hbd
  have od := o2.trans (Oth.below hbd)
  refine wp_region_noPanic ?_
  refine wp_region_held_drew (S := fun w' => w'.cell? ⟨p, 1, none⟩ = some (.int .i64 a.r.at_) ∧ w'.cell? ⟨p, 2, none⟩ = some (.int .i64 a.r.fd)) (by kernel_rfl) ⟨bd.cell 1, bd.cell 2⟩ (fun hHeld => ?_)
  refine tkH (i := 0) 75 (pt p) rfl rfl ?_ ?_
  · intro w hSw; (try dsimp only at hSw); go_simp
  simp only [sA1, sA2, sA3]
  refine tkH (i := 1) 76 (pt b) rfl rfl ?_ ?_
  · intro w hSw; (try dsimp only at hSw); go_simp
  simp only [sA1, sA2, sA3]
  refine tkH (i := 2) 77 (pt p) rfl rfl ?_ ?_
  · intro w hSw; (try dsimp only at hSw); go_simp
  simp only [sA1, sA2, sA3]
  refine tkH (i := 3) 78 (pt p) rfl rfl ?_ ?_
  · intro w hSw; (try dsimp only at hSw); go_simp
  simp only [sA1, sA2, sA3]
  refine tkH (i := 4) 79 (pt p) rfl rfl ?_ ?_
  · intro w hSw; (try dsimp only at hSw); go_simp
  simp only [sA1, sA2, sA3]
  refine tkH (i := 5) 80 (.pointer (some ⟨p, 1, none⟩)) rfl rfl ?_ ?_
  · intro w hSw; (try dsimp only at hSw); go_simp
  simp only [sA1, sA2, sA3]
  refine tkH (i := 6) 81 (.int .i64 a.r.at_) rfl rfl ?_ ?_
  · intro w hSw; (try dsimp only at hSw); go_simp
  simp only [sA1, sA2, sA3]
  refine tkH (i := 7) 82 (.int .i64 (a.r.at_ + 1)) rfl rfl ?_ ?_
  · intro w hSw; (try dsimp only at hSw); go_simp
  simp only [sA1, sA2, sA3]
  refine tkH (i := 8) 83 (pt p) rfl rfl ?_ ?_
  · intro w hSw; (try dsimp only at hSw); go_simp
  simp only [sA1, sA2, sA3]
  refine tkH (i := 9) 84 (pt p) rfl rfl ?_ ?_
  · intro w hSw; (try dsimp only at hSw); go_simp
  simp only [sA1, sA2, sA3]
  refine tkH (i := 10) 85 (pt p) rfl rfl ?_ ?_
  · intro w hSw; (try dsimp only at hSw); go_simp
  simp only [sA1, sA2, sA3]
  refine tkH (i := 11) 86 (.pointer (some ⟨p, 2, none⟩)) rfl rfl ?_ ?_
  · intro w hSw; (try dsimp only at hSw); go_simp
  simp only [sA1, sA2, sA3]
  refine tkH (i := 12) 87 (.int .i64 a.r.fd) rfl rfl ?_ ?_
  · intro w hSw; (try dsimp only at hSw); go_simp
  simp only [sA1, sA2, sA3]
  refine tkH (i := 13) 88 (.int .i64 f) rfl rfl ?_ ?_
  · intro w hSw; (try dsimp only at hSw); go_simp
  simp only [sA1, sA2, sA3]
  refine wpAnyH_ready (rs := [14]) (by kernel_rfl) (by simp) ?_
  refine AllReadyH.cons rfl (fun K hK => ?_) AllReadyH.nil
  go_simp
  refine (tLoad hd (by omega) f).mono ?_
  rintro e w3 ⟨rfl, h3, o3⟩
  rw [hg]
  have b3 := bd.oth o3 (by simp)
  have o3' := od.trans (o3.mono (by simp))
  have z13 : w3.cell? ⟨p, 13, none⟩ = some (.int .u64 a.g) := b3.cell 13
  have zf13 := b3.free 13
  clear o3
  refine hK.out _ _ ⟨b3.cell 1, b3.cell 2⟩ (fun hHeld => ?_)
  clear hK K
  try simp only [Act.put, sA1, sA2, sA3]
  refine tkH (i := 15) 90 (pt p) rfl rfl ?_ ?_
  · intro w hSw; (try dsimp only at hSw); go_simp
  simp only [sA1, sA2, sA3]
  refine tkH (i := 16) 91 (.pointer (some ⟨p, 13, none⟩)) rfl rfl ?_ ?_
  · intro w hSw; (try dsimp only at hSw); go_simp
  simp only [sA1, sA2, sA3]
  have b4 := b3.s_g g
  refine wpAnyH_ready (rs := [17]) (by kernel_rfl) (by simp) ?_
  refine AllReadyH.cons rfl (fun K hK => ?_) AllReadyH.nil
  go_simp
  refine hK.out _ _ ⟨b4.cell 1, b4.cell 2⟩ (fun hHeld => ?_)
  clear hK K
  try simp only [Act.put, sA1, sA2, sA3]
  refine wpAnyH_done (by kernel_rfl) ?_ _
  refine NoPanic.normal ?_
  have K4 : Kept [p] w3 (w3.setCell ⟨p, 13, none⟩ (.int .u64 g)) := Kept.setCell [p] _ _ _ (by simp)
  have h4 := to_twoB h3 K4 b3
  have o4 := o3'.trans ((Oth.kept K4).mono (by simp))
  clear z13 zf13
  generalize w3.setCell ⟨p, 13, none⟩ (.int .u64 g) = w4 at b4 h4 o4 ⊢
  have c11 : w4.cell? ⟨p, 11, none⟩ = some (.int .i64 2) := hpc ▸ b4.cell 11
  have f11 := b4.free 11
  have c26 : w4.cell? ⟨p, 26, none⟩ = some (.bool false) := b4.cell 26
  have f26 := b4.free 26
  go_wp2
  rw [Exit.fwd_ret]
  go_ret
  have K5 : Kept [p] w4 ((w4.setCell ⟨p, 26, none⟩ (.bool true)).setCell ⟨p, 11, none⟩ (.int .i64 3)) := (Kept.setCell [p] _ _ _ (by simp)).trans (Kept.setCell [p] _ _ _ (by simp)) (fun _ h => .inl h)
  exact ⟨rfl, to_twoB h4 K5 b4, (b4.s_hit true).s_pc 3, (o4.trans ((Oth.kept K5).mono (by simp))).drop (by omega)⟩
theorem cs3m (h : TwoT ow w0 w b y s1 s2 N) (B : Blk w0 w p 95 a.cells) (hN : N + 5 < 1000000) (hpc : a.pc = 3) (hr : a.r.Ok) (hT : pT (s1.got a.r.at_) = 2) :
    Calls Tryz.prog 14 #[pt p, pt b] w fun e w' => e = .returned (.bool false) ∧ ∃ vd, To ow w0 w w' b y p (s1.load a.r.at_) s2 (N + 1) ({ a with hit := false, pc := 6, d := Sx.new (pL (s1.got a.r.at_) + 1 + a.r.fd) a.r a.h, vd := vd } : Ax) ∧ RepO w' (Sx.new (pL (s1.got a.r.at_) + 1 + a.r.fd) a.r a.h).k vd := by
  obtain ⟨z, hz⟩ : ∃ z, s1.got a.r.at_ = z := ⟨_, rfl⟩
  have hU : U64 z := hz ▸ h.rng1.got _
  rw [hz] at hT ⊢
  obtain ⟨q0, e0⟩ : ∃ q, pS z = q := ⟨_, rfl⟩
  obtain ⟨q1, e1⟩ : ∃ q, pC z = q := ⟨_, rfl⟩
  obtain ⟨q2, e2⟩ : ∃ q, pN z = q := ⟨_, rfl⟩
  obtain ⟨q3, e3⟩ : ∃ q, pM z = q := ⟨_, rfl⟩
  obtain ⟨q4, e4⟩ : ∃ q, pG z = q := ⟨_, rfl⟩
  obtain ⟨q5, e5⟩ : ∃ q, pT z = q := ⟨_, rfl⟩
  obtain ⟨q6, e6⟩ : ∃ q, pL z = q := ⟨_, rfl⟩
  rw [e5] at hT
  have t2 : (q5 == 2) = true := by simp [hT]
  clear hT
  have l0 : 0 ≤ q6 ∧ q6 < 4096 := by rw [← e6]; unfold H.Plain.pL; omega
  rw [e6]
  have c11 : w.cell? ⟨p, 11, none⟩ = some (.int .i64 3) := hpc ▸ B.cell 11
  have c26 : w.cell? ⟨p, 26, none⟩ = some (.bool a.hit) := B.cell 26
  have f26 := B.free 26
  have lp := B.lt
  have hs0 : w0.heap.size ≤ w.heap.size := h.bel.size
  have K1 : Kept [p] w (w.setCell ⟨p, 26, none⟩ (.bool false)) := Kept.setCell [p] _ _ _ (by simp)
  have b1 := B.s_hit false
  have h1 := to_twoB h K1 B
  have a2 := (Below.refl (w.setCell ⟨p, 26, none⟩ (.bool false)).heap.size (w.setCell ⟨p, 26, none⟩ (.bool false))).alloc (Nat.le_refl _) (.cells #[.int .i64 0, .int .i64 0, .int .i64 0, .int .i64 0, .int .i64 0, .int .i64 0, .int .i64 0] 40)
  have b2 := b1.below a2
  have h2 := h1.below a2
  have np : w.heap.size ≠ p := by omega
  have H2 : Blk w0 ((w.setCell ⟨p, 26, none⟩ (.bool false)).alloc (.cells #[.int .i64 0, .int .i64 0, .int .i64 0, .int .i64 0, .int .i64 0, .int .i64 0, .int .i64 0] 40)) w.heap.size 40 #[.int .i64 0, .int .i64 0, .int .i64 0, .int .i64 0, .int .i64 0, .int .i64 0, .int .i64 0] := ⟨newAt (by simp), hs0, by decide⟩
  have o2 : Oth [w.heap.size, p] w ((w.setCell ⟨p, 26, none⟩ (.bool false)).alloc (.cells #[.int .i64 0, .int .i64 0, .int .i64 0, .int .i64 0, .int .i64 0, .int .i64 0, .int .i64 0] 40)) := ((Oth.kept K1).mono (by simp)).trans (Oth.below a2)
  go_enter Tryz.func14, Tryz.ntmps14
  go_wp2
  apply wp_scope_fwd
  go_upto_region 5 with (fail)
  obtain ⟨hb, hhb⟩ : ∃ hb, w.heap.size = hb := ⟨_, rfl⟩
  rw [hhb] at H2 o2 np ⊢
  generalize (w.setCell ⟨p, 26, none⟩ (.bool false)).alloc (.cells #[.int .i64 0, .int .i64 0, .int .i64 0, .int .i64 0, .int .i64 0, .int .i64 0, .int .i64 0] 40) = w2 at b2 h2 H2 o2 ⊢
  clear c11 c26 f26 a2 b1 h1 K1
  have c11 : w2.cell? ⟨p, 11, none⟩ = some (.int .i64 3) := hpc ▸ b2.cell 11
  have c1 : w2.cell? ⟨p, 1, none⟩ = some (.int .i64 a.r.at_) := b2.cell 1
  have c2 : w2.cell? ⟨p, 2, none⟩ = some (.int .i64 a.r.fd) := b2.cell 2
  go_upto_region 24 with (first
    | (go_at_call 21; refine (tLoad h2 (by omega) a.r.at_).mono ?_; rintro e w3 ⟨rfl, h3, o3⟩; rw [hz]; have b3 := b2.oth o3 (by simp); have H3 := H2.oth o3 (by simp); have o3' := o2.trans (o3.mono (by simp)); clear o3)
    | (go_at_call 34; refine (H.cOf z hU.1 hU.2 _ h3.widw).mono ?_; rintro e w5 ⟨rfl, hw5⟩; rw [e0, e1, e2, e3, e4, e5, e6] at hw5 ⊢; have hb5 : Below w3.heap.size w3 w5 := (by rw [hw5]; go_grown); have b5 := b3.below hb5; have h5 := h3.below hb5; have H5 := H3.below hb5; have o5 := o3'.trans (Oth.below hb5); clear hw5 hb5; have g0 : w5.cell? ⟨hb, 0, none⟩ = some (.int .i64 0) := H5.cell 0; have gf0 := H5.free 0; have g1 : w5.cell? ⟨hb, 1, none⟩ = some (.int .i64 0) := H5.cell 1; have gf1 := H5.free 1; have g2 : w5.cell? ⟨hb, 2, none⟩ = some (.int .i64 0) := H5.cell 2; have gf2 := H5.free 2; have g3 : w5.cell? ⟨hb, 3, none⟩ = some (.int .i64 0) := H5.cell 3; have gf3 := H5.free 3; have g4 : w5.cell? ⟨hb, 4, none⟩ = some (.int .i64 0) := H5.cell 4; have gf4 := H5.free 4; have g5 : w5.cell? ⟨hb, 5, none⟩ = some (.int .i64 0) := H5.cell 5; have gf5 := H5.free 5; have g6 : w5.cell? ⟨hb, 6, none⟩ = some (.int .i64 0) := H5.cell 6; have gf6 := H5.free 6))
  have K6 := hd_kept w5 hb q0 q1 q2 q3 q4 q5 q6
  have H6 := hd_cells H5 q0 q1 q2 q3 q4 q5 q6
  have b6 := b5.oth (Oth.kept K6) (by simpa using Ne.symm np)
  have h6 := to_twoB h5 K6 H5
  have o6 := o5.trans ((Oth.kept K6).mono (by simp))
  generalize ((((((w5.setCell ⟨hb, 0, none⟩ (.int .i64 q0)).setCell ⟨hb, 1, none⟩ (.int .i64 q1)).setCell ⟨hb, 2, none⟩ (.int .i64 q2)).setCell ⟨hb, 3, none⟩ (.int .i64 q3)).setCell ⟨hb, 4, none⟩ (.int .i64 q4)).setCell ⟨hb, 5, none⟩ (.int .i64 q5)).setCell ⟨hb, 6, none⟩ (.int .i64 q6) = w6 at H6 b6 h6 o6 ⊢
  clear b3 h3 H3 o3' c11 c1 c2 g0 g1 g2 g3 g4 g5 g6 gf0 gf1 gf2 gf3 gf4 gf5 gf6 K6 H5 b5 h5 o5
  have k2 : w6.cell? ⟨hb, 2, none⟩ = some (.int .i64 q2) := H6.cell 2
  have k5 : w6.cell? ⟨hb, 5, none⟩ = some (.int .i64 q5) := H6.cell 5
  have k6 : w6.cell? ⟨hb, 6, none⟩ = some (.int .i64 q6) := H6.cell 6
  have c0 : w6.cell? ⟨p, 0, none⟩ = some (.int .i64 a.r.op) := b6.cell 0
  have c1 : w6.cell? ⟨p, 1, none⟩ = some (.int .i64 a.r.at_) := b6.cell 1
  have c2 : w6.cell? ⟨p, 2, none⟩ = some (.int .i64 a.r.fd) := b6.cell 2
  have c11 : w6.cell? ⟨p, 11, none⟩ = some (.int .i64 3) := hpc ▸ b6.cell 11
  have f11 := b6.free 11
  have c27 : w6.cell? ⟨p, 27, none⟩ = some (.int .i64 a.o.c) := b6.cell 27
  have f27 := b6.free 27
  have lh := H6.lt
  go_wp2_with (fail)
  go_step3
  change Exit.fwd _ _ _ (Exit.goto _) _ _
  refine ⟨_, rfl, ?_⟩
  go_wp2_with (go_at_call 40; refine (cEnter b6 hr l0.1 l0.2).mono ?_; rintro e w8 ⟨rfl, K8, vd, b8, R8⟩)
  rw [Exit.noGoto_ret]
  go_ret
  exact ⟨rfl, vd, ⟨to_twoB h6 K8 b6, b8, (o6.trans ((Oth.kept K8).mono (by simp))).drop (by omega)⟩, R8⟩
theorem cs3e (h : TwoT ow w0 w b y s1 s2 N) (B : Blk w0 w p 95 a.cells) (hN : N + 5 < 1000000) (hpc : a.pc = 3) (hr : a.r.Ok) (hT : pT (s1.got a.r.at_) ≠ 2) (hg : U64 a.g) :
    Calls Tryz.prog 14 #[pt p, pt b] w fun e w' => e = .returned (.bool true) ∧ To ow w0 w w' b y p (s1.load a.r.at_) s2 (N + 1) ({ a with hit := false, pc := 0, o := ⟨a.o.c, Vl.of a.g, a.o.y⟩ } : Ax) := by
  obtain ⟨z, hz⟩ : ∃ z, s1.got a.r.at_ = z := ⟨_, rfl⟩
  have hU : U64 z := hz ▸ h.rng1.got _
  rw [hz] at hT
  obtain ⟨q0, e0⟩ : ∃ q, pS z = q := ⟨_, rfl⟩
  obtain ⟨q1, e1⟩ : ∃ q, pC z = q := ⟨_, rfl⟩
  obtain ⟨q2, e2⟩ : ∃ q, pN z = q := ⟨_, rfl⟩
  obtain ⟨q3, e3⟩ : ∃ q, pM z = q := ⟨_, rfl⟩
  obtain ⟨q4, e4⟩ : ∃ q, pG z = q := ⟨_, rfl⟩
  obtain ⟨q5, e5⟩ : ∃ q, pT z = q := ⟨_, rfl⟩
  obtain ⟨q6, e6⟩ : ∃ q, pL z = q := ⟨_, rfl⟩
  rw [e5] at hT
  have t2 : (q5 == 2) = false := by simpa using hT
  clear hT
  obtain ⟨u, hu⟩ : ∃ u, Vl.of a.g = u := ⟨_, rfl⟩
  have hk : F.Plain.kind a.g = u.k := congrArg Vl.k hu
  have hn : F.Plain.num a.g = u.n := congrArg Vl.n hu
  rw [hu]
  have c11 : w.cell? ⟨p, 11, none⟩ = some (.int .i64 3) := hpc ▸ B.cell 11
  have c26 : w.cell? ⟨p, 26, none⟩ = some (.bool a.hit) := B.cell 26
  have f26 := B.free 26
  have lp := B.lt
  have hs0 : w0.heap.size ≤ w.heap.size := h.bel.size
  have K1 : Kept [p] w (w.setCell ⟨p, 26, none⟩ (.bool false)) := Kept.setCell [p] _ _ _ (by simp)
  have b1 := B.s_hit false
  have h1 := to_twoB h K1 B
  have a2 := (Below.refl (w.setCell ⟨p, 26, none⟩ (.bool false)).heap.size (w.setCell ⟨p, 26, none⟩ (.bool false))).alloc (Nat.le_refl _) (.cells #[.int .i64 0, .int .i64 0, .int .i64 0, .int .i64 0, .int .i64 0, .int .i64 0, .int .i64 0] 40)
  have b2 := b1.below a2
  have h2 := h1.below a2
  have np : w.heap.size ≠ p := by omega
  have H2 : Blk w0 ((w.setCell ⟨p, 26, none⟩ (.bool false)).alloc (.cells #[.int .i64 0, .int .i64 0, .int .i64 0, .int .i64 0, .int .i64 0, .int .i64 0, .int .i64 0] 40)) w.heap.size 40 #[.int .i64 0, .int .i64 0, .int .i64 0, .int .i64 0, .int .i64 0, .int .i64 0, .int .i64 0] := ⟨newAt (by simp), hs0, by decide⟩
  have o2 : Oth [w.heap.size, p] w ((w.setCell ⟨p, 26, none⟩ (.bool false)).alloc (.cells #[.int .i64 0, .int .i64 0, .int .i64 0, .int .i64 0, .int .i64 0, .int .i64 0, .int .i64 0] 40)) := ((Oth.kept K1).mono (by simp)).trans (Oth.below a2)
  go_enter Tryz.func14, Tryz.ntmps14
  go_wp2
  apply wp_scope_fwd
  go_upto_region 5 with (fail)
  obtain ⟨hb, hhb⟩ : ∃ hb, w.heap.size = hb := ⟨_, rfl⟩
  rw [hhb] at H2 o2 np ⊢
  generalize (w.setCell ⟨p, 26, none⟩ (.bool false)).alloc (.cells #[.int .i64 0, .int .i64 0, .int .i64 0, .int .i64 0, .int .i64 0, .int .i64 0, .int .i64 0] 40) = w2 at b2 h2 H2 o2 ⊢
  clear c11 c26 f26 a2 b1 h1 K1
  have c11 : w2.cell? ⟨p, 11, none⟩ = some (.int .i64 3) := hpc ▸ b2.cell 11
  have c1 : w2.cell? ⟨p, 1, none⟩ = some (.int .i64 a.r.at_) := b2.cell 1
  have c2 : w2.cell? ⟨p, 2, none⟩ = some (.int .i64 a.r.fd) := b2.cell 2
  go_upto_region 24 with (first
    | (go_at_call 21; refine (tLoad h2 (by omega) a.r.at_).mono ?_; rintro e w3 ⟨rfl, h3, o3⟩; rw [hz]; have b3 := b2.oth o3 (by simp); have H3 := H2.oth o3 (by simp); have o3' := o2.trans (o3.mono (by simp)); clear o3)
    | (go_at_call 34; refine (H.cOf z hU.1 hU.2 _ h3.widw).mono ?_; rintro e w5 ⟨rfl, hw5⟩; rw [e0, e1, e2, e3, e4, e5, e6] at hw5 ⊢; have hb5 : Below w3.heap.size w3 w5 := (by rw [hw5]; go_grown); have b5 := b3.below hb5; have h5 := h3.below hb5; have H5 := H3.below hb5; have o5 := o3'.trans (Oth.below hb5); clear hw5 hb5; have g0 : w5.cell? ⟨hb, 0, none⟩ = some (.int .i64 0) := H5.cell 0; have gf0 := H5.free 0; have g1 : w5.cell? ⟨hb, 1, none⟩ = some (.int .i64 0) := H5.cell 1; have gf1 := H5.free 1; have g2 : w5.cell? ⟨hb, 2, none⟩ = some (.int .i64 0) := H5.cell 2; have gf2 := H5.free 2; have g3 : w5.cell? ⟨hb, 3, none⟩ = some (.int .i64 0) := H5.cell 3; have gf3 := H5.free 3; have g4 : w5.cell? ⟨hb, 4, none⟩ = some (.int .i64 0) := H5.cell 4; have gf4 := H5.free 4; have g5 : w5.cell? ⟨hb, 5, none⟩ = some (.int .i64 0) := H5.cell 5; have gf5 := H5.free 5; have g6 : w5.cell? ⟨hb, 6, none⟩ = some (.int .i64 0) := H5.cell 6; have gf6 := H5.free 6))
  have K6 := hd_kept w5 hb q0 q1 q2 q3 q4 q5 q6
  have H6 := hd_cells H5 q0 q1 q2 q3 q4 q5 q6
  have b6 := b5.oth (Oth.kept K6) (by simpa using Ne.symm np)
  have h6 := to_twoB h5 K6 H5
  have o6 := o5.trans ((Oth.kept K6).mono (by simp))
  generalize ((((((w5.setCell ⟨hb, 0, none⟩ (.int .i64 q0)).setCell ⟨hb, 1, none⟩ (.int .i64 q1)).setCell ⟨hb, 2, none⟩ (.int .i64 q2)).setCell ⟨hb, 3, none⟩ (.int .i64 q3)).setCell ⟨hb, 4, none⟩ (.int .i64 q4)).setCell ⟨hb, 5, none⟩ (.int .i64 q5)).setCell ⟨hb, 6, none⟩ (.int .i64 q6) = w6 at H6 b6 h6 o6 ⊢
  clear b3 h3 H3 o3' c11 c1 c2 g0 g1 g2 g3 g4 g5 g6 gf0 gf1 gf2 gf3 gf4 gf5 gf6 K6 H5 b5 h5 o5
  have k2 : w6.cell? ⟨hb, 2, none⟩ = some (.int .i64 q2) := H6.cell 2
  have k5 : w6.cell? ⟨hb, 5, none⟩ = some (.int .i64 q5) := H6.cell 5
  have k6 : w6.cell? ⟨hb, 6, none⟩ = some (.int .i64 q6) := H6.cell 6
  have c0 : w6.cell? ⟨p, 0, none⟩ = some (.int .i64 a.r.op) := b6.cell 0
  have c1 : w6.cell? ⟨p, 1, none⟩ = some (.int .i64 a.r.at_) := b6.cell 1
  have c2 : w6.cell? ⟨p, 2, none⟩ = some (.int .i64 a.r.fd) := b6.cell 2
  have c11 : w6.cell? ⟨p, 11, none⟩ = some (.int .i64 3) := hpc ▸ b6.cell 11
  have f11 := b6.free 11
  have c27 : w6.cell? ⟨p, 27, none⟩ = some (.int .i64 a.o.c) := b6.cell 27
  have f27 := b6.free 27
  have lh := H6.lt
  have c13 : w6.cell? ⟨p, 13, none⟩ = some (.int .u64 a.g) := b6.cell 13
  go_wp2_with (go_at_call 36; refine (F.cOf a.g hg.1 hg.2 _).mono ?_; rintro e w7 ⟨rfl, hw7⟩; rw [hk, hn] at hw7 ⊢; have hb7 : Below w6.heap.size w6 w7 := (by rw [hw7]; go_grown); have b7 := b6.below hb7; have h7 := h6.below hb7; have o7 := o6.trans (Oth.below hb7); clear hw7 hb7; have z28 : w7.cell? ⟨p, 28, none⟩ = some (.int .i64 a.o.v.k) := b7.cell 28; have zf28 := b7.free 28; have z29 : w7.cell? ⟨p, 29, none⟩ = some (.int .i64 a.o.v.n) := b7.cell 29; have zf29 := b7.free 29; have z11 : w7.cell? ⟨p, 11, none⟩ = some (.int .i64 3) := hpc ▸ b7.cell 11; have zf11 := b7.free 11)
  go_step3
  change Exit.fwd _ _ _ (Exit.goto _) _ _
  refine ⟨_, rfl, ?_⟩
  go_wp2
  rw [Exit.noGoto_ret]
  go_ret
  have K8 : Kept [p] w7 (((w7.setCell ⟨p, 28, none⟩ (.int .i64 u.k)).setCell ⟨p, 29, none⟩ (.int .i64 u.n)).setCell ⟨p, 11, none⟩ (.int .i64 0)) := ((Kept.setCell [p] _ _ _ (by simp)).trans (Kept.setCell [p] _ _ _ (by simp)) (fun _ h => .inl h)).trans (Kept.setCell [p] _ _ _ (by simp)) (fun _ h => .inl h)
  exact ⟨rfl, to_twoB h7 K8 b7, (b7.s_ov u).s_pc 0, (o7.trans ((Oth.kept K8).mono (by simp))).drop (by omega)⟩
theorem cs4y (h : TwoT ow w0 w b y s1 s2 N) (B : Blk w0 w p 95 a.cells) (hN : N + 5 < 1000000) (hpc : a.pc = 4) (hr : a.r.Ok) (hz : U64 a.z) (hok : s1.ok1 a.r.at_ a.z = true) :
    Calls Tryz.prog 14 #[pt p, pt b] w fun e w' => e = .returned (.bool false) ∧ ∃ vd, To ow w0 w w' b y p (s1.cas a.r.at_ a.z (untag a.z)) s2 (N + 1) ({ a with hit := false, pc := 6, d := Sx.new (a.r.at_ + 1 + a.r.fd) a.r a.h, vd := vd } : Ax) ∧ RepO w' (Sx.new (a.r.at_ + 1 + a.r.fd) a.r a.h).k vd := by
  obtain ⟨n, hn⟩ : ∃ n, untag a.z = n := ⟨_, rfl⟩
  rw [hn]
  have c11 : w.cell? ⟨p, 11, none⟩ = some (.int .i64 4) := hpc ▸ B.cell 11
  have c26 : w.cell? ⟨p, 26, none⟩ = some (.bool a.hit) := B.cell 26
  have f26 := B.free 26
  have lp := B.lt
  have hs0 : w0.heap.size ≤ w.heap.size := h.bel.size
  have K1 : Kept [p] w (w.setCell ⟨p, 26, none⟩ (.bool false)) := Kept.setCell [p] _ _ _ (by simp)
  have b1 := B.s_hit false
  have h1 := to_twoB h K1 B
  have a2 := (Below.refl (w.setCell ⟨p, 26, none⟩ (.bool false)).heap.size (w.setCell ⟨p, 26, none⟩ (.bool false))).alloc (Nat.le_refl _) (.cells #[.int .i64 0, .int .i64 0, .int .i64 0, .int .i64 0, .int .i64 0, .int .i64 0, .int .i64 0] 40)
  have b2 := b1.below a2
  have h2 := h1.below a2
  have np : w.heap.size ≠ p := by omega
  have H2 : Blk w0 ((w.setCell ⟨p, 26, none⟩ (.bool false)).alloc (.cells #[.int .i64 0, .int .i64 0, .int .i64 0, .int .i64 0, .int .i64 0, .int .i64 0, .int .i64 0] 40)) w.heap.size 40 #[.int .i64 0, .int .i64 0, .int .i64 0, .int .i64 0, .int .i64 0, .int .i64 0, .int .i64 0] := ⟨newAt (by simp), hs0, by decide⟩
  have o2 : Oth [w.heap.size, p] w ((w.setCell ⟨p, 26, none⟩ (.bool false)).alloc (.cells #[.int .i64 0, .int .i64 0, .int .i64 0, .int .i64 0, .int .i64 0, .int .i64 0, .int .i64 0] 40)) := ((Oth.kept K1).mono (by simp)).trans (Oth.below a2)
  go_enter Tryz.func14, Tryz.ntmps14
  go_wp2
  apply wp_scope_fwd
  go_upto_region 5 with (fail)
  obtain ⟨hb, hhb⟩ : ∃ hb, w.heap.size = hb := ⟨_, rfl⟩
  rw [hhb] at H2 o2 np ⊢
  generalize (w.setCell ⟨p, 26, none⟩ (.bool false)).alloc (.cells #[.int .i64 0, .int .i64 0, .int .i64 0, .int .i64 0, .int .i64 0, .int .i64 0, .int .i64 0] 40) = w2 at b2 h2 H2 o2 ⊢
  clear c11 c26 f26 a2 b1 h1 K1
  have c11 : w2.cell? ⟨p, 11, none⟩ = some (.int .i64 4) := hpc ▸ b2.cell 11
  have c1 : w2.cell? ⟨p, 1, none⟩ = some (.int .i64 a.r.at_) := b2.cell 1
  have c2 : w2.cell? ⟨p, 2, none⟩ = some (.int .i64 a.r.fd) := b2.cell 2
  have c12 : w2.cell? ⟨p, 12, none⟩ = some (.int .u64 a.z) := b2.cell 12
  go_upto_region 27 with (fail)
  clear c11 c1 c2 c12
  have hbd : Below w2.heap.size w2 w2.drew := (Below.refl _ _).drew
  have bd := b2.below hbd
  have hd := h2.below hbd
  have od := o2.trans (Oth.below hbd)
  refine wp_region_noPanic ?_
  refine wp_region_held_drew (S := fun w' => w'.cell? ⟨p, 1, none⟩ = some (.int .i64 a.r.at_) ∧ w'.cell? ⟨p, 12, none⟩ = some (.int .u64 a.z)) (by kernel_rfl) ⟨bd.cell 1, bd.cell 12⟩ (fun hHeld => ?_)
  refine tkH (i := 0) 122 (pt b) rfl rfl ?_ ?_
  · intro w hSw; (try dsimp only at hSw); go_simp
  simp only [sA1, sA2, sA3]
  refine tkH (i := 1) 123 (pt p) rfl rfl ?_ ?_
  · intro w hSw; (try dsimp only at hSw); go_simp
  simp only [sA1, sA2, sA3]
  refine tkH (i := 2) 124 (pt p) rfl rfl ?_ ?_
  · intro w hSw; (try dsimp only at hSw); go_simp
  simp only [sA1, sA2, sA3]
  refine tkH (i := 3) 125 (pt p) rfl rfl ?_ ?_
  · intro w hSw; (try dsimp only at hSw); go_simp
  simp only [sA1, sA2, sA3]
  refine tkH (i := 4) 126 (.pointer (some ⟨p, 1, none⟩)) rfl rfl ?_ ?_
  · intro w hSw; (try dsimp only at hSw); go_simp
  simp only [sA1, sA2, sA3]
  refine tkH (i := 5) 127 (.int .i64 a.r.at_) rfl rfl ?_ ?_
  · intro w hSw; (try dsimp only at hSw); go_simp
  simp only [sA1, sA2, sA3]
  refine tkH (i := 6) 128 (pt p) rfl rfl ?_ ?_
  · intro w hSw; (try dsimp only at hSw); go_simp
  simp only [sA1, sA2, sA3]
  refine tkH (i := 7) 129 (pt p) rfl rfl ?_ ?_
  · intro w hSw; (try dsimp only at hSw); go_simp
  simp only [sA1, sA2, sA3]
  refine tkH (i := 8) 130 (.pointer (some ⟨p, 12, none⟩)) rfl rfl ?_ ?_
  · intro w hSw; (try dsimp only at hSw); go_simp
  simp only [sA1, sA2, sA3]
  refine tkH (i := 9) 131 (.int .u64 a.z) rfl rfl ?_ ?_
  · intro w hSw; (try dsimp only at hSw); go_simp
  simp only [sA1, sA2, sA3]
  refine tkH (i := 10) 132 (pt p) rfl rfl ?_ ?_
  · intro w hSw; (try dsimp only at hSw); go_simp
  simp only [sA1, sA2, sA3]
  refine tkH (i := 11) 133 (pt p) rfl rfl ?_ ?_
  · intro w hSw; (try dsimp only at hSw); go_simp
  simp only [sA1, sA2, sA3]
  refine tkH (i := 12) 134 (.pointer (some ⟨p, 12, none⟩)) rfl rfl ?_ ?_
  · intro w hSw; (try dsimp only at hSw); go_simp
  simp only [sA1, sA2, sA3]
  refine tkH (i := 13) 135 (.int .u64 a.z) rfl rfl ?_ ?_
  · intro w hSw; (try dsimp only at hSw); go_simp
  simp only [sA1, sA2, sA3]
  refine wpAnyH_ready (rs := [14]) (by kernel_rfl) (by simp) ?_
  refine AllReadyH.cons rfl (fun K hK => ?_) AllReadyH.nil
  go_simp
  refine (cUntag a.z hz hd.widw).mono ?_
  rintro e w3 ⟨rfl, hb3⟩
  rw [hn]
  have b3 := bd.below hb3
  have h3 := hd.below hb3
  have o3 := od.trans (Oth.below hb3)
  clear hb3
  refine hK.out _ _ ⟨b3.cell 1, b3.cell 12⟩ (fun hHeld => ?_)
  clear hK K
  try simp only [Act.put, sA1, sA2, sA3]
  refine wpAnyH_ready (rs := [15]) (by kernel_rfl) (by simp) ?_
  refine AllReadyH.cons rfl (fun K hK => ?_) AllReadyH.nil
  go_simp
  refine (tCAS h3 (by omega) a.r.at_ a.z (hn ▸ u64_hw _ _ _ _ _ _ _)).mono ?_
  rintro e w4 ⟨rfl, h4, o4⟩
  rw [hok]
  have b4 := b3.oth o4 (by simp)
  have o4' := o3.trans (o4.mono (by simp))
  clear o4
  refine hK.out _ _ ⟨b4.cell 1, b4.cell 12⟩ (fun hHeld => ?_)
  clear hK K
  try simp only [Act.put, sA1, sA2, sA3]
  refine wpAnyH_done (by kernel_rfl) ?_ _
  refine NoPanic.normal ?_
  have c1 : w4.cell? ⟨p, 1, none⟩ = some (.int .i64 a.r.at_) := b4.cell 1
  have c11 : w4.cell? ⟨p, 11, none⟩ = some (.int .i64 4) := hpc ▸ b4.cell 11
  have f11 := b4.free 11
  go_wp2_with (fail)
  go_step3
  change Exit.fwd _ _ _ (Exit.goto _) _ _
  refine ⟨_, rfl, ?_⟩
  go_wp2_with (go_at_call 40; refine (cEnter b4 hr hr.2.1 hr.2.2.1).mono ?_; rintro e w8 ⟨rfl, K8, vd, b8, R8⟩)
  rw [Exit.noGoto_ret]
  go_ret
  exact ⟨rfl, vd, ⟨to_twoB h4 K8 b4, b8, (o4'.trans ((Oth.kept K8).mono (by simp))).drop (by omega)⟩, R8⟩
theorem cs4n (h : TwoT ow w0 w b y s1 s2 N) (B : Blk w0 w p 95 a.cells) (hN : N + 5 < 1000000) (hpc : a.pc = 4) (hr : a.r.Ok) (hz : U64 a.z) (hok : s1.ok1 a.r.at_ a.z = false) :
    Calls Tryz.prog 14 #[pt p, pt b] w fun e w' => e = .returned (.bool false) ∧ To ow w0 w w' b y p (s1.cas a.r.at_ a.z (untag a.z)) s2 (N + 1) ({ a with hit := false, pc := 1 } : Ax) := by
  obtain ⟨n, hn⟩ : ∃ n, untag a.z = n := ⟨_, rfl⟩
  rw [hn]
  have c11 : w.cell? ⟨p, 11, none⟩ = some (.int .i64 4) := hpc ▸ B.cell 11
  have c26 : w.cell? ⟨p, 26, none⟩ = some (.bool a.hit) := B.cell 26
  have f26 := B.free 26
  have lp := B.lt
  have hs0 : w0.heap.size ≤ w.heap.size := h.bel.size
  have K1 : Kept [p] w (w.setCell ⟨p, 26, none⟩ (.bool false)) := Kept.setCell [p] _ _ _ (by simp)
  have b1 := B.s_hit false
  have h1 := to_twoB h K1 B
  have a2 := (Below.refl (w.setCell ⟨p, 26, none⟩ (.bool false)).heap.size (w.setCell ⟨p, 26, none⟩ (.bool false))).alloc (Nat.le_refl _) (.cells #[.int .i64 0, .int .i64 0, .int .i64 0, .int .i64 0, .int .i64 0, .int .i64 0, .int .i64 0] 40)
  have b2 := b1.below a2
  have h2 := h1.below a2
  have np : w.heap.size ≠ p := by omega
  have H2 : Blk w0 ((w.setCell ⟨p, 26, none⟩ (.bool false)).alloc (.cells #[.int .i64 0, .int .i64 0, .int .i64 0, .int .i64 0, .int .i64 0, .int .i64 0, .int .i64 0] 40)) w.heap.size 40 #[.int .i64 0, .int .i64 0, .int .i64 0, .int .i64 0, .int .i64 0, .int .i64 0, .int .i64 0] := ⟨newAt (by simp), hs0, by decide⟩
  have o2 : Oth [w.heap.size, p] w ((w.setCell ⟨p, 26, none⟩ (.bool false)).alloc (.cells #[.int .i64 0, .int .i64 0, .int .i64 0, .int .i64 0, .int .i64 0, .int .i64 0, .int .i64 0] 40)) := ((Oth.kept K1).mono (by simp)).trans (Oth.below a2)
  go_enter Tryz.func14, Tryz.ntmps14
  go_wp2
  apply wp_scope_fwd
  go_upto_region 5 with (fail)
  obtain ⟨hb, hhb⟩ : ∃ hb, w.heap.size = hb := ⟨_, rfl⟩
  rw [hhb] at H2 o2 np ⊢
  generalize (w.setCell ⟨p, 26, none⟩ (.bool false)).alloc (.cells #[.int .i64 0, .int .i64 0, .int .i64 0, .int .i64 0, .int .i64 0, .int .i64 0, .int .i64 0] 40) = w2 at b2 h2 H2 o2 ⊢
  clear c11 c26 f26 a2 b1 h1 K1
  have c11 : w2.cell? ⟨p, 11, none⟩ = some (.int .i64 4) := hpc ▸ b2.cell 11
  have c1 : w2.cell? ⟨p, 1, none⟩ = some (.int .i64 a.r.at_) := b2.cell 1
  have c2 : w2.cell? ⟨p, 2, none⟩ = some (.int .i64 a.r.fd) := b2.cell 2
  have c12 : w2.cell? ⟨p, 12, none⟩ = some (.int .u64 a.z) := b2.cell 12
  go_upto_region 27 with (fail)
  clear c11 c1 c2 c12
  have hbd : Below w2.heap.size w2 w2.drew := (Below.refl _ _).drew
  have bd := b2.below hbd
  have hd := h2.below hbd
  have od := o2.trans (Oth.below hbd)
  refine wp_region_noPanic ?_
  refine wp_region_held_drew (S := fun w' => w'.cell? ⟨p, 1, none⟩ = some (.int .i64 a.r.at_) ∧ w'.cell? ⟨p, 12, none⟩ = some (.int .u64 a.z)) (by kernel_rfl) ⟨bd.cell 1, bd.cell 12⟩ (fun hHeld => ?_)
  refine tkH (i := 0) 122 (pt b) rfl rfl ?_ ?_
  · intro w hSw; (try dsimp only at hSw); go_simp
  simp only [sA1, sA2, sA3]
  refine tkH (i := 1) 123 (pt p) rfl rfl ?_ ?_
  · intro w hSw; (try dsimp only at hSw); go_simp
  simp only [sA1, sA2, sA3]
  refine tkH (i := 2) 124 (pt p) rfl rfl ?_ ?_
  · intro w hSw; (try dsimp only at hSw); go_simp
  simp only [sA1, sA2, sA3]
  refine tkH (i := 3) 125 (pt p) rfl rfl ?_ ?_
  · intro w hSw; (try dsimp only at hSw); go_simp
  simp only [sA1, sA2, sA3]
  refine tkH (i := 4) 126 (.pointer (some ⟨p, 1, none⟩)) rfl rfl ?_ ?_
  · intro w hSw; (try dsimp only at hSw); go_simp
  simp only [sA1, sA2, sA3]
  refine tkH (i := 5) 127 (.int .i64 a.r.at_) rfl rfl ?_ ?_
  · intro w hSw; (try dsimp only at hSw); go_simp
  simp only [sA1, sA2, sA3]
  refine tkH (i := 6) 128 (pt p) rfl rfl ?_ ?_
  · intro w hSw; (try dsimp only at hSw); go_simp
  simp only [sA1, sA2, sA3]
  refine tkH (i := 7) 129 (pt p) rfl rfl ?_ ?_
  · intro w hSw; (try dsimp only at hSw); go_simp
  simp only [sA1, sA2, sA3]
  refine tkH (i := 8) 130 (.pointer (some ⟨p, 12, none⟩)) rfl rfl ?_ ?_
  · intro w hSw; (try dsimp only at hSw); go_simp
  simp only [sA1, sA2, sA3]
  refine tkH (i := 9) 131 (.int .u64 a.z) rfl rfl ?_ ?_
  · intro w hSw; (try dsimp only at hSw); go_simp
  simp only [sA1, sA2, sA3]
  refine tkH (i := 10) 132 (pt p) rfl rfl ?_ ?_
  · intro w hSw; (try dsimp only at hSw); go_simp
  simp only [sA1, sA2, sA3]
  refine tkH (i := 11) 133 (pt p) rfl rfl ?_ ?_
  · intro w hSw; (try dsimp only at hSw); go_simp
  simp only [sA1, sA2, sA3]
  refine tkH (i := 12) 134 (.pointer (some ⟨p, 12, none⟩)) rfl rfl ?_ ?_
  · intro w hSw; (try dsimp only at hSw); go_simp
  simp only [sA1, sA2, sA3]
  refine tkH (i := 13) 135 (.int .u64 a.z) rfl rfl ?_ ?_
  · intro w hSw; (try dsimp only at hSw); go_simp
  simp only [sA1, sA2, sA3]
  refine wpAnyH_ready (rs := [14]) (by kernel_rfl) (by simp) ?_
  refine AllReadyH.cons rfl (fun K hK => ?_) AllReadyH.nil
  go_simp
  refine (cUntag a.z hz hd.widw).mono ?_
  rintro e w3 ⟨rfl, hb3⟩
  rw [hn]
  have b3 := bd.below hb3
  have h3 := hd.below hb3
  have o3 := od.trans (Oth.below hb3)
  clear hb3
  refine hK.out _ _ ⟨b3.cell 1, b3.cell 12⟩ (fun hHeld => ?_)
  clear hK K
  try simp only [Act.put, sA1, sA2, sA3]
  refine wpAnyH_ready (rs := [15]) (by kernel_rfl) (by simp) ?_
  refine AllReadyH.cons rfl (fun K hK => ?_) AllReadyH.nil
  go_simp
  refine (tCAS h3 (by omega) a.r.at_ a.z (hn ▸ u64_hw _ _ _ _ _ _ _)).mono ?_
  rintro e w4 ⟨rfl, h4, o4⟩
  rw [hok]
  have b4 := b3.oth o4 (by simp)
  have o4' := o3.trans (o4.mono (by simp))
  clear o4
  refine hK.out _ _ ⟨b4.cell 1, b4.cell 12⟩ (fun hHeld => ?_)
  clear hK K
  try simp only [Act.put, sA1, sA2, sA3]
  refine wpAnyH_done (by kernel_rfl) ?_ _
  refine NoPanic.normal ?_
  have c1 : w4.cell? ⟨p, 1, none⟩ = some (.int .i64 a.r.at_) := b4.cell 1
  have c11 : w4.cell? ⟨p, 11, none⟩ = some (.int .i64 4) := hpc ▸ b4.cell 11
  have f11 := b4.free 11
  go_wp2
  rw [Exit.fwd_ret]
  go_ret
  have K5 : Kept [p] w4 (w4.setCell ⟨p, 11, none⟩ (.int .i64 1)) := Kept.setCell [p] _ _ _ (by simp)
  exact ⟨rfl, to_twoB h4 K5 b4, b4.s_pc 1, (o4'.trans ((Oth.kept K5).mono (by simp))).drop (by omega)⟩
theorem cs5n (h : TwoT ow w0 w b y s1 s2 N) (B : Blk w0 w p 95 a.cells) (hN : N + 5 < 1000000) (hpc : a.pc = 5) (hx : a.p = x) (R : RepO w x.k a.vp) (ok : x.Ok) (hd : (x.next s1).done = false) :
    Calls Tryz.prog 14 #[pt p, pt b] w fun e w' => e = .returned (.bool false) ∧ ∃ v', To ow w0 w w' b y p (x.mem s1) s2 (N + 1) ({ a with p := x.next s1, vp := v', hit := (x.next s1).hit, o := (x.next s1).o } : Ax) ∧ RepO w' (x.next s1).k v' := by
  have RR := R.oth (F := [p]) (Oth.kept (Kept.setCell [p] w ⟨p, 26, none⟩ (.bool false) (by simp))) (fun q hq => by simp at hq; subst hq; exact ⟨_, _, _, B.at_, by decide⟩)
  have R2 := RR.below ((Below.refl _ (w.setCell ⟨p, 26, none⟩ (.bool false))).alloc (Nat.le_refl _) (.cells #[.int .i64 0, .int .i64 0, .int .i64 0, .int .i64 0, .int .i64 0, .int .i64 0, .int .i64 0] 40))
  clear RR
  obtain ⟨x', hx'⟩ : ∃ x', x.next s1 = x' := ⟨_, rfl⟩
  have c11 : w.cell? ⟨p, 11, none⟩ = some (.int .i64 5) := hpc ▸ B.cell 11
  have c26 : w.cell? ⟨p, 26, none⟩ = some (.bool a.hit) := B.cell 26
  have f26 := B.free 26
  have lp := B.lt
  have hs0 : w0.heap.size ≤ w.heap.size := h.bel.size
  have K1 : Kept [p] w (w.setCell ⟨p, 26, none⟩ (.bool false)) := Kept.setCell [p] _ _ _ (by simp)
  have b1 := B.s_hit false
  have h1 := to_twoB h K1 B
  have a2 := (Below.refl (w.setCell ⟨p, 26, none⟩ (.bool false)).heap.size (w.setCell ⟨p, 26, none⟩ (.bool false))).alloc (Nat.le_refl _) (.cells #[.int .i64 0, .int .i64 0, .int .i64 0, .int .i64 0, .int .i64 0, .int .i64 0, .int .i64 0] 40)
  have b2 := b1.below a2
  have h2 := h1.below a2
  have np : w.heap.size ≠ p := by omega
  have H2 : Blk w0 ((w.setCell ⟨p, 26, none⟩ (.bool false)).alloc (.cells #[.int .i64 0, .int .i64 0, .int .i64 0, .int .i64 0, .int .i64 0, .int .i64 0, .int .i64 0] 40)) w.heap.size 40 #[.int .i64 0, .int .i64 0, .int .i64 0, .int .i64 0, .int .i64 0, .int .i64 0, .int .i64 0] := ⟨newAt (by simp), hs0, by decide⟩
  have o2 : Oth [w.heap.size, p] w ((w.setCell ⟨p, 26, none⟩ (.bool false)).alloc (.cells #[.int .i64 0, .int .i64 0, .int .i64 0, .int .i64 0, .int .i64 0, .int .i64 0, .int .i64 0] 40)) := ((Oth.kept K1).mono (by simp)).trans (Oth.below a2)
  go_enter Tryz.func14, Tryz.ntmps14
  go_wp2
  apply wp_scope_fwd
  go_upto_region 5 with (fail)
  obtain ⟨hb, hhb⟩ : ∃ hb, w.heap.size = hb := ⟨_, rfl⟩
  rw [hhb] at H2 o2 np ⊢
  generalize (w.setCell ⟨p, 26, none⟩ (.bool false)).alloc (.cells #[.int .i64 0, .int .i64 0, .int .i64 0, .int .i64 0, .int .i64 0, .int .i64 0, .int .i64 0] 40) = w2 at b2 h2 H2 o2 R2 ⊢
  clear c11 c26 f26 a2 b1 h1 K1
  have c11 : w2.cell? ⟨p, 11, none⟩ = some (.int .i64 5) := hpc ▸ b2.cell 11
  have c1 : w2.cell? ⟨p, 1, none⟩ = some (.int .i64 a.r.at_) := b2.cell 1
  have c2 : w2.cell? ⟨p, 2, none⟩ = some (.int .i64 a.r.fd) := b2.cell 2
  go_wp2_with (go_at_call 39; refine (cFollowPn h2 b2 hpc hx R2 ok (by omega) hd).mono ?_; rintro e w3 ⟨rfl, t3, o3, v', b3, R3⟩)
  rw [Exit.fwd_ret]
  go_ret
  exact ⟨rfl, v', ⟨t3, b3, (o2.trans (o3.mono (by simp))).drop (by omega)⟩, R3⟩
theorem cs5d (h : TwoT ow w0 w b y s1 s2 N) (B : Blk w0 w p 95 a.cells) (hN : N + 5 < 1000000) (hpc : a.pc = 5) (hx : a.p = x) (R : RepO w x.k a.vp) (ok : x.Ok) (hd : (x.next s1).done = true) :
    Calls Tryz.prog 14 #[pt p, pt b] w fun e w' => e = .returned (.bool true) ∧ ∃ v', To ow w0 w w' b y p (x.mem s1) s2 (N + 1) ({ a with pc := 0, p := x.next s1, vp := v', hit := (x.next s1).hit, o := (x.next s1).o } : Ax) ∧ RepO w' (x.next s1).k v' := by
  have RR := R.oth (F := [p]) (Oth.kept (Kept.setCell [p] w ⟨p, 26, none⟩ (.bool false) (by simp))) (fun q hq => by simp at hq; subst hq; exact ⟨_, _, _, B.at_, by decide⟩)
  have R2 := RR.below ((Below.refl _ (w.setCell ⟨p, 26, none⟩ (.bool false))).alloc (Nat.le_refl _) (.cells #[.int .i64 0, .int .i64 0, .int .i64 0, .int .i64 0, .int .i64 0, .int .i64 0, .int .i64 0] 40))
  clear RR
  obtain ⟨x', hx'⟩ : ∃ x', x.next s1 = x' := ⟨_, rfl⟩
  have c11 : w.cell? ⟨p, 11, none⟩ = some (.int .i64 5) := hpc ▸ B.cell 11
  have c26 : w.cell? ⟨p, 26, none⟩ = some (.bool a.hit) := B.cell 26
  have f26 := B.free 26
  have lp := B.lt
  have hs0 : w0.heap.size ≤ w.heap.size := h.bel.size
  have K1 : Kept [p] w (w.setCell ⟨p, 26, none⟩ (.bool false)) := Kept.setCell [p] _ _ _ (by simp)
  have b1 := B.s_hit false
  have h1 := to_twoB h K1 B
  have a2 := (Below.refl (w.setCell ⟨p, 26, none⟩ (.bool false)).heap.size (w.setCell ⟨p, 26, none⟩ (.bool false))).alloc (Nat.le_refl _) (.cells #[.int .i64 0, .int .i64 0, .int .i64 0, .int .i64 0, .int .i64 0, .int .i64 0, .int .i64 0] 40)
  have b2 := b1.below a2
  have h2 := h1.below a2
  have np : w.heap.size ≠ p := by omega
  have H2 : Blk w0 ((w.setCell ⟨p, 26, none⟩ (.bool false)).alloc (.cells #[.int .i64 0, .int .i64 0, .int .i64 0, .int .i64 0, .int .i64 0, .int .i64 0, .int .i64 0] 40)) w.heap.size 40 #[.int .i64 0, .int .i64 0, .int .i64 0, .int .i64 0, .int .i64 0, .int .i64 0, .int .i64 0] := ⟨newAt (by simp), hs0, by decide⟩
  have o2 : Oth [w.heap.size, p] w ((w.setCell ⟨p, 26, none⟩ (.bool false)).alloc (.cells #[.int .i64 0, .int .i64 0, .int .i64 0, .int .i64 0, .int .i64 0, .int .i64 0, .int .i64 0] 40)) := ((Oth.kept K1).mono (by simp)).trans (Oth.below a2)
  go_enter Tryz.func14, Tryz.ntmps14
  go_wp2
  apply wp_scope_fwd
  go_upto_region 5 with (fail)
  obtain ⟨hb, hhb⟩ : ∃ hb, w.heap.size = hb := ⟨_, rfl⟩
  rw [hhb] at H2 o2 np ⊢
  generalize (w.setCell ⟨p, 26, none⟩ (.bool false)).alloc (.cells #[.int .i64 0, .int .i64 0, .int .i64 0, .int .i64 0, .int .i64 0, .int .i64 0, .int .i64 0] 40) = w2 at b2 h2 H2 o2 R2 ⊢
  clear c11 c26 f26 a2 b1 h1 K1
  have c11 : w2.cell? ⟨p, 11, none⟩ = some (.int .i64 5) := hpc ▸ b2.cell 11
  have c1 : w2.cell? ⟨p, 1, none⟩ = some (.int .i64 a.r.at_) := b2.cell 1
  have c2 : w2.cell? ⟨p, 2, none⟩ = some (.int .i64 a.r.fd) := b2.cell 2
  go_wp2_with (go_at_call 39; refine (cFollowPd h2 b2 hpc hx R2 ok (by omega) hd).mono ?_; rintro e w3 ⟨rfl, t3, o3, v', b3, R3⟩)
  rw [Exit.fwd_ret]
  go_ret
  exact ⟨rfl, v', ⟨t3, b3, (o2.trans (o3.mono (by simp))).drop (by omega)⟩, R3⟩
theorem cs6n (h : TwoT ow w0 w b y s1 s2 N) (B : Blk w0 w p 95 a.cells) (hN : N + 5 < 1000000) (hpc : a.pc = 6) (hx : a.d = x) (R : RepO w x.k a.vd) (ok : x.Ok) (hd : (x.next s1).done = false) :
    Calls Tryz.prog 14 #[pt p, pt b] w fun e w' => e = .returned (.bool false) ∧ ∃ v', To ow w0 w w' b y p (x.mem s1) s2 (N + 1) ({ a with d := x.next s1, vd := v', hit := (x.next s1).hit, o := (x.next s1).o } : Ax) ∧ RepO w' (x.next s1).k v' := by
  have RR := R.oth (F := [p]) (Oth.kept (Kept.setCell [p] w ⟨p, 26, none⟩ (.bool false) (by simp))) (fun q hq => by simp at hq; subst hq; exact ⟨_, _, _, B.at_, by decide⟩)
  have R2 := RR.below ((Below.refl _ (w.setCell ⟨p, 26, none⟩ (.bool false))).alloc (Nat.le_refl _) (.cells #[.int .i64 0, .int .i64 0, .int .i64 0, .int .i64 0, .int .i64 0, .int .i64 0, .int .i64 0] 40))
  clear RR
  obtain ⟨x', hx'⟩ : ∃ x', x.next s1 = x' := ⟨_, rfl⟩
  have c11 : w.cell? ⟨p, 11, none⟩ = some (.int .i64 6) := hpc ▸ B.cell 11
  have c26 : w.cell? ⟨p, 26, none⟩ = some (.bool a.hit) := B.cell 26
  have f26 := B.free 26
  have lp := B.lt
  have hs0 : w0.heap.size ≤ w.heap.size := h.bel.size
  have K1 : Kept [p] w (w.setCell ⟨p, 26, none⟩ (.bool false)) := Kept.setCell [p] _ _ _ (by simp)
  have b1 := B.s_hit false
  have h1 := to_twoB h K1 B
  have a2 := (Below.refl (w.setCell ⟨p, 26, none⟩ (.bool false)).heap.size (w.setCell ⟨p, 26, none⟩ (.bool false))).alloc (Nat.le_refl _) (.cells #[.int .i64 0, .int .i64 0, .int .i64 0, .int .i64 0, .int .i64 0, .int .i64 0, .int .i64 0] 40)
  have b2 := b1.below a2
  have h2 := h1.below a2
  have np : w.heap.size ≠ p := by omega
  have H2 : Blk w0 ((w.setCell ⟨p, 26, none⟩ (.bool false)).alloc (.cells #[.int .i64 0, .int .i64 0, .int .i64 0, .int .i64 0, .int .i64 0, .int .i64 0, .int .i64 0] 40)) w.heap.size 40 #[.int .i64 0, .int .i64 0, .int .i64 0, .int .i64 0, .int .i64 0, .int .i64 0, .int .i64 0] := ⟨newAt (by simp), hs0, by decide⟩
  have o2 : Oth [w.heap.size, p] w ((w.setCell ⟨p, 26, none⟩ (.bool false)).alloc (.cells #[.int .i64 0, .int .i64 0, .int .i64 0, .int .i64 0, .int .i64 0, .int .i64 0, .int .i64 0] 40)) := ((Oth.kept K1).mono (by simp)).trans (Oth.below a2)
  go_enter Tryz.func14, Tryz.ntmps14
  go_wp2
  apply wp_scope_fwd
  go_upto_region 5 with (fail)
  obtain ⟨hb, hhb⟩ : ∃ hb, w.heap.size = hb := ⟨_, rfl⟩
  rw [hhb] at H2 o2 np ⊢
  generalize (w.setCell ⟨p, 26, none⟩ (.bool false)).alloc (.cells #[.int .i64 0, .int .i64 0, .int .i64 0, .int .i64 0, .int .i64 0, .int .i64 0, .int .i64 0] 40) = w2 at b2 h2 H2 o2 R2 ⊢
  clear c11 c26 f26 a2 b1 h1 K1
  have c11 : w2.cell? ⟨p, 11, none⟩ = some (.int .i64 6) := hpc ▸ b2.cell 11
  have c1 : w2.cell? ⟨p, 1, none⟩ = some (.int .i64 a.r.at_) := b2.cell 1
  have c2 : w2.cell? ⟨p, 2, none⟩ = some (.int .i64 a.r.fd) := b2.cell 2
  go_wp2_with (go_at_call 39; refine (cFollowDn h2 b2 hpc hx R2 ok (by omega) hd).mono ?_; rintro e w3 ⟨rfl, t3, o3, v', b3, R3⟩)
  rw [Exit.fwd_ret]
  go_ret
  exact ⟨rfl, v', ⟨t3, b3, (o2.trans (o3.mono (by simp))).drop (by omega)⟩, R3⟩
theorem cs6d (h : TwoT ow w0 w b y s1 s2 N) (B : Blk w0 w p 95 a.cells) (hN : N + 5 < 1000000) (hpc : a.pc = 6) (hx : a.d = x) (R : RepO w x.k a.vd) (ok : x.Ok) (hd : (x.next s1).done = true) :
    Calls Tryz.prog 14 #[pt p, pt b] w fun e w' => e = .returned (.bool true) ∧ ∃ v', To ow w0 w w' b y p (x.mem s1) s2 (N + 1) ({ a with pc := 0, d := x.next s1, vd := v', hit := (x.next s1).hit, o := (x.next s1).o } : Ax) ∧ RepO w' (x.next s1).k v' := by
  have RR := R.oth (F := [p]) (Oth.kept (Kept.setCell [p] w ⟨p, 26, none⟩ (.bool false) (by simp))) (fun q hq => by simp at hq; subst hq; exact ⟨_, _, _, B.at_, by decide⟩)
  have R2 := RR.below ((Below.refl _ (w.setCell ⟨p, 26, none⟩ (.bool false))).alloc (Nat.le_refl _) (.cells #[.int .i64 0, .int .i64 0, .int .i64 0, .int .i64 0, .int .i64 0, .int .i64 0, .int .i64 0] 40))
  clear RR
  obtain ⟨x', hx'⟩ : ∃ x', x.next s1 = x' := ⟨_, rfl⟩
  have c11 : w.cell? ⟨p, 11, none⟩ = some (.int .i64 6) := hpc ▸ B.cell 11
  have c26 : w.cell? ⟨p, 26, none⟩ = some (.bool a.hit) := B.cell 26
  have f26 := B.free 26
  have lp := B.lt
  have hs0 : w0.heap.size ≤ w.heap.size := h.bel.size
  have K1 : Kept [p] w (w.setCell ⟨p, 26, none⟩ (.bool false)) := Kept.setCell [p] _ _ _ (by simp)
  have b1 := B.s_hit false
  have h1 := to_twoB h K1 B
  have a2 := (Below.refl (w.setCell ⟨p, 26, none⟩ (.bool false)).heap.size (w.setCell ⟨p, 26, none⟩ (.bool false))).alloc (Nat.le_refl _) (.cells #[.int .i64 0, .int .i64 0, .int .i64 0, .int .i64 0, .int .i64 0, .int .i64 0, .int .i64 0] 40)
  have b2 := b1.below a2
  have h2 := h1.below a2
  have np : w.heap.size ≠ p := by omega
  have H2 : Blk w0 ((w.setCell ⟨p, 26, none⟩ (.bool false)).alloc (.cells #[.int .i64 0, .int .i64 0, .int .i64 0, .int .i64 0, .int .i64 0, .int .i64 0, .int .i64 0] 40)) w.heap.size 40 #[.int .i64 0, .int .i64 0, .int .i64 0, .int .i64 0, .int .i64 0, .int .i64 0, .int .i64 0] := ⟨newAt (by simp), hs0, by decide⟩
  have o2 : Oth [w.heap.size, p] w ((w.setCell ⟨p, 26, none⟩ (.bool false)).alloc (.cells #[.int .i64 0, .int .i64 0, .int .i64 0, .int .i64 0, .int .i64 0, .int .i64 0, .int .i64 0] 40)) := ((Oth.kept K1).mono (by simp)).trans (Oth.below a2)
  go_enter Tryz.func14, Tryz.ntmps14
  go_wp2
  apply wp_scope_fwd
  go_upto_region 5 with (fail)
  obtain ⟨hb, hhb⟩ : ∃ hb, w.heap.size = hb := ⟨_, rfl⟩
  rw [hhb] at H2 o2 np ⊢
  generalize (w.setCell ⟨p, 26, none⟩ (.bool false)).alloc (.cells #[.int .i64 0, .int .i64 0, .int .i64 0, .int .i64 0, .int .i64 0, .int .i64 0, .int .i64 0] 40) = w2 at b2 h2 H2 o2 R2 ⊢
  clear c11 c26 f26 a2 b1 h1 K1
  have c11 : w2.cell? ⟨p, 11, none⟩ = some (.int .i64 6) := hpc ▸ b2.cell 11
  have c1 : w2.cell? ⟨p, 1, none⟩ = some (.int .i64 a.r.at_) := b2.cell 1
  have c2 : w2.cell? ⟨p, 2, none⟩ = some (.int .i64 a.r.fd) := b2.cell 2
  go_wp2_with (go_at_call 39; refine (cFollowDd h2 b2 hpc hx R2 ok (by omega) hd).mono ?_; rintro e w3 ⟨rfl, t3, o3, v', b3, R3⟩)
  rw [Exit.fwd_ret]
  go_ret
  exact ⟨rfl, v', ⟨t3, b3, (o2.trans (o3.mono (by simp))).drop (by omega)⟩, R3⟩
end
end Go.Proofs.YtahafmglidlcnaaGreatDoor

namespace Go.Proofs.YtahafmglidlcnaaGreatDoor
set_option linter.unusedVariables false
set_option linter.unusedSimpArgs false
set_option maxRecDepth 100000
open Go.ChangeShapes Go.WideShapes Go.RowKit
open H.Plain (hw pS pC pN pM pG pT pL mv)

structure Cm (w0 w : World) (p : Nat) (x : Cw) : Prop where
  it : ∃ a : Ax, Blk w0 w p 95 a.cells ∧ a.Is w x
  ok : x.Ok
section
variable {ow : Bool} {w0 w w' : World} {b y p q : Nat} {s1 s2 : St} {N : Nat} {x : Cw} {T : TypeId} {cs : Array Value} {F : List Nat}
theorem Cm.oth (h : Cm w0 w p x) (o : Oth F w w') (hp : p ∉ F) (hF : ∀ q ∈ F, ∃ cs T fz, w.heap[q]? = some (.cells cs T fz) ∧ T ∉ BTs) : Cm w0 w' p x := by
  obtain ⟨⟨a, B, I⟩, ok⟩ := h
  exact ⟨⟨a, B.oth o hp, I.oth o hF⟩, ok⟩
theorem Cm.oth0 (h : Cm w0 w p x) (o : Oth [] w w') : Cm w0 w' p x := h.oth o (by simp) (by simp)
theorem Cm.oth1 (h : Cm w0 w p x) (o : Oth [q] w w') (hq : Blk w0 w q T cs) (hT : T ∉ BTs) (hp : p ≠ q) : Cm w0 w' p x := h.oth o (by simpa using hp) fun k hk => by simp at hk; subst hk; exact ⟨_, _, _, hq.at_, hT⟩
theorem Cm.below (h : Cm w0 w p x) (hb : Below w.heap.size w w') : Cm w0 w' p x := h.oth0 (Oth.below hb)
theorem Cm.blk (h : Cm w0 w p x) : ∃ cs, Blk w0 w p 95 cs := by obtain ⟨⟨a, B, I⟩, ok⟩ := h; exact ⟨_, B⟩
theorem Cm.lt (h : Cm w0 w p x) : p < w.heap.size := by obtain ⟨cs, B⟩ := h.blk; exact B.lt
/-- it steps -/
theorem tC (h : TwoT ow w0 w b y s1 s2 N) (m : Cm w0 w p x) (hN : N + 5 < 1000000) :
    Calls Tryz.prog 14 #[pt p, pt b] w fun e w' => e = .returned (.bool (x.next s1).done) ∧ TwoT ow w0 w' b y (x.mem s1) s2 (N + 1) ∧ Cm w0 w' p (x.next s1) ∧ Oth [p] w w' := by
  have hR := h.rng1
  obtain ⟨⟨a, B, I⟩, ok⟩ := m
  have okn := ok.next hR
  cases x with
  | fin c o =>
    refine (cs0 h B hN I.1).mono ?_
    rintro e w' ⟨rfl, rfl⟩
    exact ⟨rfl, h.mono (by omega), ⟨⟨a, B, I⟩, ok⟩, Oth.refl _ _⟩
  | hd r fx =>
    obtain ⟨i1, i2, i3, rfl, i4⟩ := I
    by_cases h1 : pN (s1.got a.r.at_) ≤ a.r.fd
    · have en : (Cw.hd a.r fx).next s1 = .fin false ⟨15, Vl.zero, false⟩ := by simp only [Cw.next]; rw [if_pos (.inr h1)]
      rw [en] at okn ⊢
      refine (cs1e h B hN i1 ok h1).mono ?_
      rintro e w' ⟨rfl, t⟩
      exact ⟨rfl, t.two, ⟨⟨_, t.blk, rfl, rfl, by simp only [i3]; rfl⟩, okn⟩, t.oth⟩
    · have h0 : ¬ (a.r.fd < 0 ∨ pN (s1.got a.r.at_) ≤ a.r.fd) := by have := ok.2.2.2.1; omega
      by_cases h2 : pT (s1.got a.r.at_) = 2
      · have en : (Cw.hd a.r fx).next s1 = Cw.go a.r fx (pL (s1.got a.r.at_)) := by simp only [Cw.next]; rw [if_neg h0, if_pos h2]
        rw [en] at okn ⊢
        refine (cs1m h B hN i1 ok (by omega) h2).mono ?_
        rintro e w' ⟨rfl, v, t, R⟩
        rw [i4] at t R
        exact ⟨rfl, t.two, ⟨⟨_, t.blk, rfl, rfl, i3, rfl, R⟩, okn⟩, t.oth⟩
      · by_cases h3 : pT (s1.got a.r.at_) = 1
        · refine (cs1t h B hN i1 ok (by omega) h3).mono ?_
          rintro e w' ⟨rfl, t⟩
          by_cases h4 : a.r.op = 1
          · have en : (Cw.hd a.r fx).next s1 = .rd a.r fx := by simp only [Cw.next]; rw [if_neg h0, if_neg h2, if_pos h3, if_pos h4]
            rw [en] at okn ⊢
            exact ⟨rfl, t.two, ⟨⟨_, t.blk, if_pos h4, rfl, i3, rfl, i4⟩, okn⟩, t.oth⟩
          · have en : (Cw.hd a.r fx).next s1 = .tk a.r fx (s1.got a.r.at_) := by simp only [Cw.next]; rw [if_neg h0, if_neg h2, if_pos h3, if_neg h4]
            rw [en] at okn ⊢
            exact ⟨rfl, t.two, ⟨⟨_, t.blk, if_neg h4, rfl, i3, rfl, i4, rfl⟩, okn⟩, t.oth⟩
        · have en : (Cw.hd a.r fx).next s1 = Cw.go a.r fx a.r.at_ := by simp only [Cw.next]; rw [if_neg h0, if_neg h2, if_neg h3]
          rw [en] at okn ⊢
          refine (cs1s h B hN i1 ok (by omega) h2 h3).mono ?_
          rintro e w' ⟨rfl, v, t, R⟩
          rw [i4] at t R
          exact ⟨rfl, t.two, ⟨⟨_, t.blk, rfl, rfl, i3, rfl, R⟩, okn⟩, t.oth⟩
  | rd r fx =>
    obtain ⟨i1, i2, i3, rfl, i4⟩ := I
    refine (cs2 h B hN i1 ok).mono ?_
    rintro e w' ⟨rfl, t⟩
    exact ⟨rfl, t.two, ⟨⟨_, t.blk, rfl, rfl, i3, rfl, i4, rfl⟩, okn⟩, t.oth⟩
  | ag r fx g =>
    obtain ⟨i1, i2, i3, rfl, i4, rfl⟩ := I
    by_cases h2 : pT (s1.got a.r.at_) = 2
    · have en : (Cw.ag a.r fx a.g).next s1 = Cw.go a.r fx (pL (s1.got a.r.at_)) := by simp only [Cw.next]; rw [if_pos h2]
      rw [en] at okn ⊢
      refine (cs3m h B hN i1 ok.1 h2).mono ?_
      rintro e w' ⟨rfl, v, t, R⟩
      rw [i4] at t R
      exact ⟨rfl, t.two, ⟨⟨_, t.blk, rfl, rfl, i3, rfl, R⟩, okn⟩, t.oth⟩
    · have en : (Cw.ag a.r fx a.g).next s1 = .fin false ⟨0, Vl.of a.g, false⟩ := by simp only [Cw.next]; rw [if_neg h2]
      rw [en] at okn ⊢
      refine (cs3e h B hN i1 ok.1 h2 ok.2).mono ?_
      rintro e w' ⟨rfl, t⟩
      exact ⟨rfl, t.two, ⟨⟨_, t.blk, rfl, rfl, by simp only [i3]; rfl⟩, okn⟩, t.oth⟩
  | tk r fx z =>
    obtain ⟨i1, i2, i3, rfl, i4, rfl⟩ := I
    rcases h2 : s1.ok1 a.r.at_ a.z with _ | _
    · have en : (Cw.tk a.r fx a.z).next s1 = .hd a.r fx := by simp only [Cw.next, h2]; rfl
      rw [en] at okn ⊢
      refine (cs4n h B hN i1 ok.1 ok.2 h2).mono ?_
      rintro e w' ⟨rfl, t⟩
      exact ⟨rfl, t.two, ⟨⟨_, t.blk, rfl, rfl, i3, rfl, i4⟩, okn⟩, t.oth⟩
    · have en : (Cw.tk a.r fx a.z).next s1 = Cw.go a.r fx a.r.at_ := by simp only [Cw.next, h2]; rfl
      rw [en] at okn ⊢
      refine (cs4y h B hN i1 ok.1 ok.2 h2).mono ?_
      rintro e w' ⟨rfl, v, t, R⟩
      rw [i4] at t R
      exact ⟨rfl, t.two, ⟨⟨_, t.blk, rfl, rfl, i3, rfl, R⟩, okn⟩, t.oth⟩
  | pl x =>
    obtain ⟨i1, i2, i3, i4, R⟩ := I
    rcases hd : (x.next s1).done with _ | _
    · have en : (Cw.pl x).next s1 = .pl (x.next s1) := by simp only [Cw.next, Cw.onP, hd]; rfl
      rw [en] at okn ⊢
      refine (cs5n h B hN i1 i4 R ok.1 hd).mono ?_
      rintro e w' ⟨rfl, v, t, R'⟩
      exact ⟨rfl, t.two, ⟨⟨_, t.blk, i1, rfl, rfl, rfl, R'⟩, okn⟩, t.oth⟩
    · have en : (Cw.pl x).next s1 = .fin (x.next s1).hit (x.next s1).o := by simp only [Cw.next, Cw.onP, hd]; rfl
      rw [en] at okn ⊢
      refine (cs5d h B hN i1 i4 R ok.1 hd).mono ?_
      rintro e w' ⟨rfl, v, t, R'⟩
      exact ⟨rfl, t.two, ⟨⟨_, t.blk, rfl, rfl, rfl⟩, okn⟩, t.oth⟩
  | dr x =>
    obtain ⟨i1, i2, i3, i4, R⟩ := I
    rcases hd : (x.next s1).done with _ | _
    · have en : (Cw.dr x).next s1 = .dr (x.next s1) := by simp only [Cw.next, Cw.onD, hd]; rfl
      rw [en] at okn ⊢
      refine (cs6n h B hN i1 i4 R ok.1 hd).mono ?_
      rintro e w' ⟨rfl, v, t, R'⟩
      exact ⟨rfl, t.two, ⟨⟨_, t.blk, i1, rfl, rfl, rfl, R'⟩, okn⟩, t.oth⟩
    · have en : (Cw.dr x).next s1 = .fin (x.next s1).hit (x.next s1).o := by simp only [Cw.next, Cw.onD, hd]; rfl
      rw [en] at okn ⊢
      refine (cs6d h B hN i1 i4 R ok.1 hd).mono ?_
      rintro e w' ⟨rfl, v, t, R'⟩
      exact ⟨rfl, t.two, ⟨⟨_, t.blk, rfl, rfl, rfl⟩, okn⟩, t.oth⟩
theorem cCHit (m : Cm w0 w p x) : Calls Tryz.prog 16 #[pt p] w fun e w' => e = .returned (.bool x.hit) ∧ w' = w := by
  obtain ⟨⟨a, B, I⟩, ok⟩ := m
  rw [← I.hit]
  have c1 : w.cell? ⟨p, 26, none⟩ = some (.bool a.hit) := B.cell 26
  go_enter Tryz.func16, Tryz.ntmps16
  go_wp2
  go_ret
  exact ⟨rfl, rfl⟩
theorem cCResult (m : Cm w0 w p x) : Calls Tryz.prog 17 #[pt p] w fun e w' => e = .returned x.o.val ∧ Below w.heap.size w w' := by
  obtain ⟨⟨a, B, I⟩, ok⟩ := m
  rw [← I.out]
  have c2 : w.cell? ⟨p, 27, none⟩ = some (.int .i64 a.o.c) := B.cell 27
  have c3 : w.cell? ⟨p, 28, none⟩ = some (.int .i64 a.o.v.k) := B.cell 28
  have c4 : w.cell? ⟨p, 29, none⟩ = some (.int .i64 a.o.v.n) := B.cell 29
  have c5 : w.cell? ⟨p, 30, none⟩ = some (.bool a.o.y) := B.cell 30
  have l := B.lt
  go_enter Tryz.func17, Tryz.ntmps17
  go_wp2
  exact bodyPost_ret (v := a.o.val) (by simp [results, Tryz.results17, go_sem, Ou.val]) rfl ⟨rfl, by go_grown⟩
end
/-- one that was made just now -/
structure MadeC (w w' : World) (p : Nat) (x : Cw) : Prop where
  blk : ∃ a : Ax, w'.heap[p]? = some (.cells a.cells 95 (0, 0)) ∧ a.Is w' x
  bel : Below w.heap.size w w'
  new : w.heap.size ≤ p
theorem MadeC.cm {w0 w w' : World} {p : Nat} {x : Cw} (M : MadeC w w' p x) (hs : w0.heap.size ≤ w.heap.size) (ok : x.Ok) : Cm w0 w' p x := by
  obtain ⟨a, e, I⟩ := M.blk
  exact ⟨⟨a, ⟨e, Nat.le_trans hs M.new, by decide⟩, I⟩, ok⟩
def Ax.zero (r : Rq) (h : Hw) (pc : Int) (p : Sx) (vp : Value) (o : Ou) : Ax := ⟨r, h, pc, 0, 0, p, vp, ⟨none, false, Ou.zero⟩, .nilFunc, false, o⟩
section
set_option maxHeartbeats 2000000
theorem cNewC (r : Rq) (e : En) (w : World) (hr : r.Ok) :
    Calls Tryz.prog 10 #[.agg #[.int .i64 r.op, .int .i64 r.at_, .int .i64 r.fd, .int .i64 r.x.k, .int .i64 r.x.n, .int .i64 r.y.k, .int .i64 r.y.n], .agg #[.int .i64 e.md, .int .i64 e.mr, .int .i64 e.al]] w fun e' w' => ∃ p, e' = .returned (pt p) ∧ MadeC w w' p (Cw.new r e) := by
  unfold Cw.new
  by_cases h : r.at_ = 0
  · rw [if_pos h]
    have q : (r.at_ == 0) = true := by simp [h]
    clear h
    go_enter Tryz.func10, Tryz.ntmps10
    go_wp2
    go_ret
    exact ⟨_, rfl, ⟨Ax.zero ⟨0, 0, 0, ⟨0, 0⟩, ⟨0, 0⟩⟩ ⟨false, false, false, 0⟩ 0 ⟨none, false, Ou.zero⟩ .nilFunc ⟨14, Vl.zero, false⟩, by first | exact newAt (by simp) | exact newAt rfl, rfl, rfl, rfl⟩, by go_grown, by first | omega | (simp; omega) | simp⟩
  · rw [if_neg h]
    have q : (r.at_ == 0) = false := by simpa using h
    by_cases h5 : e.md < 5
    · rw [if_pos h5]
      have q2 : decide (e.md < 5) = true := by simpa using h5
      have hpl : Sx.plain r e = ⟨some (.plain r e), false, Ou.zero⟩ := by unfold Sx.plain; rw [if_neg h]
      clear h5 h
      go_enter Tryz.func10, Tryz.ntmps10
      go_wp2_with (go_at_call 31; refine (cNewPlain r e _).mono ?_; rintro e' w1 ⟨p1, rfl, M⟩; rw [hpl] at M; have hb : Below w.heap.size w w1 := bel_trans (by go_grown) M.bel; obtain ⟨v, eb, R⟩ := M.blk; obtain ⟨nf, cf, hv⟩ := Rep.fn R; rw [hv] at eb R; have x0 : w1.cell? ⟨p1, 0, none⟩ = some (.func (.func nf) #[] cf) := cell_of_row w1 _ _ _ _ _ eb; have x1 : w1.cell? ⟨p1, 1, none⟩ = some (.bool false) := cell_of_row w1 _ _ _ _ _ eb; have x2 : w1.cell? ⟨p1, 2, none⟩ = some (.int .i64 0) := cell_of_row w1 _ _ _ _ _ eb; have x3 : w1.cell? ⟨p1, 3, none⟩ = some (.int .i64 0) := cell_of_row w1 _ _ _ _ _ eb; have x4 : w1.cell? ⟨p1, 4, none⟩ = some (.int .i64 0) := cell_of_row w1 _ _ _ _ _ eb; have x5 : w1.cell? ⟨p1, 5, none⟩ = some (.bool false) := cell_of_row w1 _ _ _ _ _ eb; have hs1 := hb.size; clear M eb hv)
      go_ret
      rw [hpl]
      exact ⟨_, rfl, ⟨Ax.zero ⟨0, 0, 0, ⟨0, 0⟩, ⟨0, 0⟩⟩ ⟨false, false, false, 0⟩ 5 ⟨some (.plain r e), false, Ou.zero⟩ (.func (.func nf) #[] cf) Ou.zero, by first | exact newAt (by simp) | exact newAt rfl, rfl, rfl, rfl, rfl, Rep.below R ((Below.refl _ _).alloc (Nat.le_refl _) _)⟩, hb.alloc hs1 _, by first | exact hs1 | omega | (simp; omega) | simp⟩
    · rw [if_neg h5]
      have q2 : decide (e.md < 5) = false := by simpa using h5
      clear h5 h
      obtain ⟨fx, hfx⟩ : ∃ fx, (e.md == 8) = fx := ⟨_, rfl⟩
      rw [hfx]
      go_enter Tryz.func10, Tryz.ntmps10
      go_wp2
      go_ret
      exact ⟨_, rfl, ⟨Ax.zero r (hwC fx) 1 ⟨none, false, Ou.zero⟩ .nilFunc Ou.zero, by first | exact newAt (by simp) | exact newAt rfl, rfl, rfl, rfl, rfl, rfl⟩, by go_grown, by first | omega | (simp; omega) | simp⟩
end
end Go.Proofs.YtahafmglidlcnaaGreatDoor
