import Derived.Test.YtpcoldpphihfmaaGreatDoorVd
namespace Go.Proofs.YtpcoldpphihfmaaGreatDoor
set_option linter.unusedVariables false
set_option linter.unusedSimpArgs false
set_option maxRecDepth 100000
open Go.ChangeShapes Go.WideShapes Go.RowKit
open H.Plain (hw pS pC pN pM pG pT pL mv)
def Lf (ow : Bool) (w0 w : World) (b y p : Nat) (s' s2 : St) (N : Nat) (x' : Cw) (e : Ending) (w' : World) : Prop := e = .returned (.int .i64 x'.pc) ∧ ∃ a' : Ax, To ow w0 w w' b y p s' s2 N a' ∧ a'.As w' x'
theorem u64_lit2 : U64 2 ∧ U64 1 ∧ U64 3 ∧ U64 0 := ⟨⟨by decide, by decide⟩, ⟨by decide, by decide⟩, ⟨by decide, by decide⟩, ⟨by decide, by decide⟩⟩
theorem not_told_of {q : Wq} {w : Int} {u : Vl} (hu : Vl.of w = u) (h : ¬ (q.r.op = 1 ∨ q.r.op = 3 ∧ u ≠ q.r.x)) : ¬ Cw.told q w := by unfold Cw.told; rw [hu]; exact h
theorem told_of {q : Wq} {w : Int} {u : Vl} (hu : Vl.of w = u) (h : q.r.op = 1 ∨ q.r.op = 3 ∧ u ≠ q.r.x) : Cw.told q w := by unfold Cw.told; rw [hu]; exact h
theorem onot {x : Sx} {s : St} (h : (x.next s).done = false) : (x.next s).o = Ou.zero := by
 obtain ⟨k, hit, o⟩ := x
 cases k with
 | none => cases h
 | some k =>
  change (k.next s).done = false at h
  change (k.next s).o = Ou.zero
  cases k <;> simp only [K.next] at h ⊢ <;> (repeat' split) <;> first | rfl | (exfalso; simp_all [Sx.done])
theorem oth_rep {w0 w w1 : World} {p : Nat} {a : Ax} {k : Option K} {v : Value} (B : Blk w0 w p 114 a.cells) (o : Oth [p] w w1) (R : RepO w k v) : RepO w1 k v := R.oth o fun q hq => by simp at hq; subst hq; exact ⟨_, _, _, B.at_, by decide⟩
section
variable {ow : Bool} {w0 w w' : World} {b y p : Nat} {s1 s2 : St} {N : Nat} {a : Ax} {x : Sx} {r : Rq} {lo fx : Bool}
set_option maxHeartbeats 4000000
theorem mHd (h : TwoT ow w0 w b y s1 s2 N) (B : Blk w0 w p 114 a.cells) (hN : N + 5 < 1000000) (hit : a.hit = false) (I : a.On ⟨r, lo, fx⟩) (ok : r.Ok) :
  Calls Tryz.prog 72 #[pt p, pt b] w fun e w' => Lf ow w0 w b y p ((Cw.hd ⟨r, lo, fx⟩).mem s1) s2 (N + 1) ((Cw.hd ⟨r, lo, fx⟩).next s1) e w' := by
 have i1 : a.r = r := I.r
 subst i1
 have i2 : a.cl = !lo := I.cl
 have i3 : a.h = hwC fx := I.h
 have i4 := I.o
 clear I
 refine viaQ fun Q k => ?_
 have t0 := To.refl h B
 obtain ⟨z, hz⟩ : ∃ z, s1.got a.r.at_ = z := ⟨_, rfl⟩
 obtain ⟨q0, e0⟩ : ∃ q, pS z = q := ⟨_, rfl⟩
 obtain ⟨q1, e1⟩ : ∃ q, pC z = q := ⟨_, rfl⟩
 obtain ⟨q2, e2⟩ : ∃ q, pN z = q := ⟨_, rfl⟩
 obtain ⟨q3, e3⟩ : ∃ q, pM z = q := ⟨_, rfl⟩
 obtain ⟨q4, e4⟩ : ∃ q, pG z = q := ⟨_, rfl⟩
 obtain ⟨q5, e5⟩ : ∃ q, pT z = q := ⟨_, rfl⟩
 obtain ⟨q6, e6⟩ : ∃ q, pL z = q := ⟨_, rfl⟩
 have hU : U64 z := hz ▸ h.rng1.got _
 have tf0 : decide (a.r.fd < 0) = false := by have := ok.2.2.2.1; simpa using this
 have l0 := in12_pL z
 rw [e6] at l0
 have c6 : w.cell? ⟨p, 1, none⟩ = some (.int .i64 a.r.at_) := B.cell 1
 go_enter Tryz.func72, Tryz.ntmps72
 go_upto_region 2 with (first
  | (go_at_call 34; refine (tLoad h (by omega) a.r.at_).mono ?_; rintro e w3 ⟨rfl, h3, o3⟩; rw [hz]; have t3 := t0.oth0 h3 o3; clear o3)
  | (go_at_call 69; refine (H.cOf z hU.1 hU.2 _ h3.widw).mono ?_; rintro e w5 ⟨rfl, hw5⟩; rw [e0, e1, e2, e3, e4, e5, e6] at hw5 ⊢; have hb5 : Below w3.heap.size w3 w5 := (by rw [hw5]; go_grown); have t5 := t3.below hb5; clear hw5 hb5 t3 h3))
 have a6 : Below w5.heap.size w5 (w5.alloc (.cells #[.int .i64 q0, .int .i64 q1, .int .i64 q2, .int .i64 q3, .int .i64 q4, .int .i64 q5, .int .i64 q6] 40)) := (Below.refl _ _).alloc (Nat.le_refl _) _
 have t6 := t5.below a6
 have H6 : Blk w0 (w5.alloc (.cells #[.int .i64 q0, .int .i64 q1, .int .i64 q2, .int .i64 q3, .int .i64 q4, .int .i64 q5, .int .i64 q6] 40)) w5.heap.size 40 #[.int .i64 q0, .int .i64 q1, .int .i64 q2, .int .i64 q3, .int .i64 q4, .int .i64 q5, .int .i64 q6] := Blk.new t5.two.bel.size _ (by decide)
 generalize w5.alloc (.cells #[.int .i64 q0, .int .i64 q1, .int .i64 q2, .int .i64 q3, .int .i64 q4, .int .i64 q5, .int .i64 q6] 40) = w6 at t6 H6 ⊢
 generalize w5.heap.size = hb at H6 ⊢
 clear a6 t5 c6
 have k2 : w6.cell? ⟨hb, 2, none⟩ = some (.int .i64 q2) := H6.cell 2
 have c7 : w6.cell? ⟨p, 2, none⟩ = some (.int .i64 a.r.fd) := t6.blk.cell 2
 have lh := H6.lt
 by_cases hN1 : q2 ≤ a.r.fd
 ·have t1 : decide (q2 ≤ a.r.fd) = true := by simpa using hN1
  go_quiet (fail)
  have hq := S.bdr (Below.refl w6.heap.size w6) nq
  have t7 := t6.below hq
  have H7 := H6.below hq
  generalize w6.drewN nq = w7 at t7 H7 ⊢
  clear hq k2 c7 lh H6 t6
  go_wp2_with (go_at_call 95; refine (cEnd t7.blk ⟨15, Vl.zero, false⟩).mono ?_; rintro e w8 ⟨rfl, K8, b8⟩)
  subst e0 e1 e2 e3 e4 e5 e6
  subst hz
  refine k.out _ _ ?_
  have en : (Cw.hd ⟨a.r, lo, fx⟩).next s1 = .fin false ⟨15, Vl.zero, false⟩ := by simp only [Cw.next]; rw [if_pos (.inr hN1)]
  unfold Lf
  rw [en]
  exact ⟨rfl, _, t7.kept K8 b8, hit, rfl⟩
 ·have t1 : decide (q2 ≤ a.r.fd) = false := by simpa using hN1
  go_quiet (fail)
  have hq := S.bdr (Below.refl w6.heap.size w6) nq
  have t7 := t6.below hq
  have H7 := H6.below hq
  generalize w6.drewN nq = w7 at t7 H7 ⊢
  clear hq k2 c7 lh H6 t6
  have k5 : w7.cell? ⟨hb, 5, none⟩ = some (.int .i64 q5) := H7.cell 5
  have k6 : w7.cell? ⟨hb, 6, none⟩ = some (.int .i64 q6) := H7.cell 6
  have lh := H7.lt
  have c6 : w7.cell? ⟨p, 1, none⟩ = some (.int .i64 a.r.at_) := t7.blk.cell 1
  have c13 : w7.cell? ⟨p, 13, none⟩ = some (.int .i64 a.wd) := t7.blk.cell 13
  have f13 := t7.blk.free 13
  by_cases hT : q5 = 2
  ·have t2 : (q5 == 2) = true := by simp [hT]
   go_wp2_with (go_at_call 81; refine (cEnter t7.blk ok.1 ok.2.2.2.1 ok.2.2.2.2 l0.1 l0.2).mono ?_; rintro e w8 ⟨rfl, K8, vd, b8, R8⟩)
   subst e0 e1 e2 e3 e4 e5 e6
   subst hz
   refine k.out _ _ ?_
   have en : (Cw.hd ⟨a.r, lo, fx⟩).next s1 = Cw.go false ⟨a.r, lo, fx⟩ (pL (s1.got a.r.at_)) := by simp only [Cw.next]; rw [if_neg (show ¬ (a.r.fd < 0 ∨ pN (s1.got a.r.at_) ≤ a.r.fd) by have := ok.2.2.2.1; omega), if_pos hT]
   unfold Lf
   rw [en]
   exact ⟨rfl, _, t7.kept K8 b8, hit, i4, (by rw [i3]; try rfl), (by rw [i3] at R8; exact R8)⟩
  ·have t2 : (q5 == 2) = false := by simpa using hT
   by_cases hT2 : q5 = 3
   ·have t3 : (q5 == 3) = true := by simp [hT2]
    go_wp2
    subst e0 e1 e2 e3 e4 e5 e6
    subst hz
    refine k.out _ _ ?_
    have en : (Cw.hd ⟨a.r, lo, fx⟩).next s1 = .a2 ⟨a.r, lo, fx⟩ (pL (s1.got a.r.at_)) := by simp only [Cw.next]; rw [if_neg (show ¬ (a.r.fd < 0 ∨ pN (s1.got a.r.at_) ≤ a.r.fd) by have := ok.2.2.2.1; omega), if_neg hT, if_pos hT2]
    unfold Lf
    rw [en]
    exact ⟨rfl, _, t7.kept (Kept.one w7 p 13 _) (t7.blk.s_wd _), hit, ⟨rfl, i2, i3, i4⟩, rfl⟩
   ·have t3 : (q5 == 3) = false := by simpa using hT2
    go_wp2_with (go_at_call 81; refine (cEnter t7.blk ok.1 ok.2.2.2.1 ok.2.2.2.2 (by have := ok.2.1; omega) (by have := ok.2.2.1; omega)).mono ?_; rintro e w8 ⟨rfl, K8, vd, b8, R8⟩)
    subst e0 e1 e2 e3 e4 e5 e6
    subst hz
    refine k.out _ _ ?_
    have en : (Cw.hd ⟨a.r, lo, fx⟩).next s1 = Cw.go false ⟨a.r, lo, fx⟩ a.r.at_ := by simp only [Cw.next]; rw [if_neg (show ¬ (a.r.fd < 0 ∨ pN (s1.got a.r.at_) ≤ a.r.fd) by have := ok.2.2.2.1; omega), if_neg hT, if_neg hT2]
    unfold Lf
    rw [en]
    exact ⟨rfl, _, t7.kept K8 b8, hit, i4, (by rw [i3]; try rfl), (by rw [i3] at R8; exact R8)⟩
theorem mRo (h : TwoT ow w0 w b y s1 s2 N) (B : Blk w0 w p 114 a.cells) (hN : N + 5 < 1000000) {wd : Int} (I : a.On ⟨r, lo, fx⟩) (ok : r.Ok) (hw : a.wd = wd) :
  Calls Tryz.prog 75 #[pt p, pt b] w fun e w' => Lf ow w0 w b y p ((Cw.a3 ⟨r, lo, fx⟩ wd).mem s1) s2 (N + 1) ((Cw.a3 ⟨r, lo, fx⟩ wd).next s1) e w' := by
 have i1 : a.r = r := I.r
 subst i1
 have i2 : a.cl = !lo := I.cl
 have i3 : a.h = hwC fx := I.h
 have i4 := I.o
 clear I
 refine viaQ fun Q k => ?_
 have t0 := To.refl h B
 obtain ⟨fa, hfa⟩ : ∃ fa, a.r.at_ + 1 + a.r.fd = fa := ⟨_, rfl⟩
 obtain ⟨g, hg⟩ : ∃ g, s1.got fa = g := ⟨_, rfl⟩
 have hU : U64 g := hg ▸ h.rng1.got _
 obtain ⟨u, hu⟩ : ∃ u, Vl.of g = u := ⟨_, rfl⟩
 have hk : F.Plain.kind g = u.k := congrArg Vl.k hu
 have hnn : F.Plain.num g = u.n := congrArg Vl.n hu
 obtain ⟨fz, hfz⟩ : ∃ t, F.Plain.froz g = t := ⟨_, rfl⟩
 go_enter Tryz.func75, Tryz.ntmps75
 go_upto_region 1 with (fail)
 have hbd : Below w.heap.size w w.drew := (Below.refl _ _).drew
 have t1 := t0.below hbd
 refine wp_region_noPanic ?_
 refine wp_region_held_drew (S := fun w' => True) (by kernel_rfl) trivial (fun hHeld => ?_)
 refine tkH (i := 0) 6 (pt p) rfl rfl ?_
 simp only [sA1, sA2, sA3]
 refine tkH (i := 1) 7 (pt b) rfl rfl ?_
 simp only [sA1, sA2, sA3]
 refine tkH (i := 2) 8 (pt p) rfl rfl ?_
 simp only [sA1, sA2, sA3]
 refine tkH (i := 5) 11 (pt p) rfl rfl ?_
 simp only [sA1, sA2, sA3]
 refine tkH (i := 6) 12 (.pointer (some ⟨p, 15, none⟩)) rfl rfl ?_
 simp only [sA1, sA2, sA3]
 refine rd1 3 rfl fun K hK => ?_
 go_simp
 refine (cField t1.blk ok.2.1 ok.2.2.1 ok.2.2.2.1 ok.2.2.2.2).mono ?_
 rintro e w2 ⟨rfl, hb2⟩
 rw [hfa]
 have t2 := t1.below hb2
 refine hK.out _ _ trivial (fun hHeld => ?_)
 clear hK K
 try simp only [Act.put, sA1, sA2, sA3]
 refine rd1 4 rfl fun K hK => ?_
 go_simp
 refine (tLoad t2.two (by omega) fa).mono ?_
 rintro e w3 ⟨rfl, h3, o3⟩
 rw [hg]
 have t3 := t2.oth0 h3 o3
 have c16 : w3.cell? ⟨p, 16, none⟩ = some (.int .u64 a.z) := t3.blk.cell 16
 have f16 := t3.blk.free 16
 clear h3 o3
 refine hK.out _ _ trivial (fun hHeld => ?_)
 clear hK K
 try simp only [Act.put, sA1, sA2, sA3]
 refine tkH (i := 7) 13 (.pointer (some ⟨p, 16, none⟩)) rfl rfl ?_
 simp only [sA1, sA2, sA3]
 have t4 := t3.kept (Kept.one w3 p 16 (.int .u64 g)) (t3.blk.s_z g)
 refine rd1 8 rfl fun K hK => ?_
 go_simp
 refine hK.out _ _ trivial (fun hHeld => ?_)
 clear hK K
 try simp only [Act.put, sA1, sA2, sA3]
 refine wpAnyH_done (by kernel_rfl) ?_ _
 refine NoPanic.normal ?_
 clear c16 f16
 generalize w3.setCell ⟨p, 16, none⟩ (.int .u64 g) = w4 at t4 hHeld ⊢
 have c29 : w4.cell? ⟨p, 29, none⟩ = some (.bool a.hit) := t4.blk.cell 29
 have f29 := t4.blk.free 29
 go_upto_region 3 with (fail)
 have t5 := t4.kept (Kept.one w4 p 29 (.bool true)) (t4.blk.s_hit true)
 clear c29 f29
 generalize w4.setCell ⟨p, 29, none⟩ (.bool true) = w5 at t5 ⊢
 have c16 : w5.cell? ⟨p, 16, none⟩ = some (.int .u64 g) := t5.blk.cell 16
 go_upto_region 4 with (go_at_call 97; refine (F.cOf g hU.1 hU.2 _).mono ?_; rintro e w6 ⟨rfl, hw6⟩; rw [hk, hnn] at hw6 ⊢; have hb6 : Below w5.heap.size w5 w6 := (by rw [hw6]; go_grown); have t6 := t5.below hb6; clear hw6 hb6)
 have a7 : Below w6.heap.size w6 (w6.alloc (.cells #[.int .i64 u.k, .int .i64 u.n] 38)) := (Below.refl _ _).alloc (Nat.le_refl _) _
 have t7 := t6.below a7
 have V7 : Blk w0 (w6.alloc (.cells #[.int .i64 u.k, .int .i64 u.n] 38)) w6.heap.size 38 #[.int .i64 u.k, .int .i64 u.n] := Blk.new t6.two.bel.size _ (by decide)
 generalize w6.alloc (.cells #[.int .i64 u.k, .int .i64 u.n] 38) = w7 at t7 V7 ⊢
 generalize w6.heap.size = vb at V7 ⊢
 clear a7 t6 c16
 have c16 : w7.cell? ⟨p, 16, none⟩ = some (.int .u64 g) := t7.blk.cell 16
 have c0 : w7.cell? ⟨p, 0, none⟩ = some (.int .i64 a.r.op) := t7.blk.cell 0
 have v0 : w7.cell? ⟨vb, 0, none⟩ = some (.int .i64 u.k) := V7.cell 0
 have v1 : w7.cell? ⟨vb, 1, none⟩ = some (.int .i64 u.n) := V7.cell 1
 have vl := V7.lt
 rcases fz with _ | _
 ·rcases ok.1 with hop | hop | hop
  ·have o1 : (a.r.op == 1) = true := by simp [hop]
   go_wp2_with (first
    | (go_at_call 98; refine (F.cFrozen g hU.1 hU.2 _).mono ?_; rintro e wx ⟨rfl, hwx⟩; rw [hfz, hwx]; clear hwx wx)
    | (go_at_call 95; refine (cEnd t7.blk ⟨0, u, false⟩).mono ?_; rintro e w8 ⟨rfl, K8, b8⟩))
   refine k.out _ _ ?_
   have en : (Cw.a3 ⟨a.r, lo, fx⟩ wd).next s1 = .fin true ⟨0, u, false⟩ := by simp only [Cw.next, Cw.fa, hfa, hg, hfz]; rw [if_neg (by decide), if_pos (told_of hu (.inl hop))]; simp only [Cw.tells, hop, hu]; rfl
   have em : (Cw.a3 ⟨a.r, lo, fx⟩ wd).mem s1 = s1.load fa := by simp only [Cw.mem, Cw.fa, hfa]
   unfold Lf
   rw [en, em]
   exact ⟨rfl, _, t7.kept K8 b8, rfl, rfl⟩
  ·have o1 : (a.r.op == 1) = false := by simp [hop]
   go_wp2_with (first
    | (go_at_call 98; refine (F.cFrozen g hU.1 hU.2 _).mono ?_; rintro e wx ⟨rfl, hwx⟩; rw [hfz, hwx]; clear hwx wx)
    | (go_at_call 99; refine (cWrites2 t7.blk hop u).mono ?_; rintro e w8 ⟨rfl, hb8⟩; have t8 := t7.below hb8))
   refine k.out _ _ ?_
   have en : (Cw.a3 ⟨a.r, lo, fx⟩ wd).next s1 = .a4 ⟨a.r, lo, fx⟩ wd g := by simp only [Cw.next, Cw.fa, hfa, hg, hfz]; rw [if_neg (by decide), if_neg (not_told_of hu (show ¬ (a.r.op = 1 ∨ a.r.op = 3 ∧ u ≠ a.r.x) by rw [hop]; simp))]
   have em : (Cw.a3 ⟨a.r, lo, fx⟩ wd).mem s1 = s1.load fa := by simp only [Cw.mem, Cw.fa, hfa]
   unfold Lf
   rw [en, em]
   exact ⟨rfl, _, t8, rfl, ⟨rfl, i2, i3, i4⟩, hw, rfl⟩
  ·have o1 : (a.r.op == 1) = false := by simp [hop]
   by_cases hx' : u = a.r.x
   ·have hx : Hid (u = a.r.x) := hx'
    clear hx'
    go_wp2_with (first
     | (go_at_call 98; refine (F.cFrozen g hU.1 hU.2 _).mono ?_; rintro e wx ⟨rfl, hwx⟩; rw [hfz, hwx]; clear hwx wx)
     | (go_at_call 99; refine (cWrites3 t7.blk hop u (t := true) (by simpa using hx.out)).mono ?_; rintro e w8 ⟨rfl, hb8⟩; have t8 := t7.below hb8))
    refine k.out _ _ ?_
    have en : (Cw.a3 ⟨a.r, lo, fx⟩ wd).next s1 = .a4 ⟨a.r, lo, fx⟩ wd g := by simp only [Cw.next, Cw.fa, hfa, hg, hfz]; rw [if_neg (by decide), if_neg (not_told_of hu (show ¬ (a.r.op = 1 ∨ a.r.op = 3 ∧ u ≠ a.r.x) by rw [hop]; simp [hx.out]))]
    have em : (Cw.a3 ⟨a.r, lo, fx⟩ wd).mem s1 = s1.load fa := by simp only [Cw.mem, Cw.fa, hfa]
    unfold Lf
    rw [en, em]
    exact ⟨rfl, _, t8, rfl, ⟨rfl, i2, i3, i4⟩, hw, rfl⟩
   ·have hx : Hid (u ≠ a.r.x) := hx'
    clear hx'
    go_wp2_with (first
     | (go_at_call 98; refine (F.cFrozen g hU.1 hU.2 _).mono ?_; rintro e wx ⟨rfl, hwx⟩; rw [hfz, hwx]; clear hwx wx)
     | (go_at_call 99; refine (cWrites3 t7.blk hop u (t := false) (by simpa using hx.out)).mono ?_; rintro e w8 ⟨rfl, hb8⟩; have t8 := t7.below hb8)
     | (go_at_call 95; refine (cEnd t8.blk ⟨0, ⟨0, 0⟩, false⟩).mono ?_; rintro e w9 ⟨rfl, K9, b9⟩))
    refine k.out _ _ ?_
    have en : (Cw.a3 ⟨a.r, lo, fx⟩ wd).next s1 = .fin true Ou.zero := by simp only [Cw.next, Cw.fa, hfa, hg, hfz]; rw [if_neg (by decide), if_pos (told_of hu (.inr ⟨hop, hx.out⟩))]; simp only [Cw.tells]; rw [if_neg (show ¬ a.r.op = 1 by omega)]
    have em : (Cw.a3 ⟨a.r, lo, fx⟩ wd).mem s1 = s1.load fa := by simp only [Cw.mem, Cw.fa, hfa]
    unfold Lf
    rw [en, em]
    exact ⟨rfl, _, t8.kept K9 b9, rfl, rfl⟩
 ·go_wp2_with (go_at_call 98; refine (F.cFrozen g hU.1 hU.2 _).mono ?_; rintro e wx ⟨rfl, hwx⟩; rw [hfz, hwx]; clear hwx wx)
  refine k.out _ _ ?_
  have en : (Cw.a3 ⟨a.r, lo, fx⟩ wd).next s1 = .a5 ⟨a.r, lo, fx⟩ wd g := by simp only [Cw.next, Cw.fa, hfa, hg, hfz]; simp
  have em : (Cw.a3 ⟨a.r, lo, fx⟩ wd).mem s1 = s1.load fa := by simp only [Cw.mem, Cw.fa, hfa]
  unfold Lf
  rw [en, em]
  exact ⟨rfl, _, t7, rfl, ⟨rfl, i2, i3, i4⟩, hw, rfl⟩
theorem mSo (h : TwoT ow w0 w b y s1 s2 N) (B : Blk w0 w p 114 a.cells) (hN : N + 5 < 1000000) {wd z : Int} (hit : a.hit = false) (I : a.On ⟨r, lo, fx⟩) (ok : r.Ok) (hw : a.wd = wd) (hz : a.z = z) (hU : U64 z) :
  Calls Tryz.prog 76 #[pt p, pt b] w fun e w' => Lf ow w0 w b y p ((Cw.a4 ⟨r, lo, fx⟩ wd z).mem s1) s2 (N + 1) ((Cw.a4 ⟨r, lo, fx⟩ wd z).next s1) e w' := by
 have i1 : a.r = r := I.r
 subst i1
 have i2 : a.cl = !lo := I.cl
 have i3 : a.h = hwC fx := I.h
 have i4 := I.o
 clear I
 refine viaQ fun Q k => ?_
 have t0 := To.refl h B
 subst hz
 obtain ⟨fa, hfa⟩ : ∃ fa, a.r.at_ + 1 + a.r.fd = fa := ⟨_, rfl⟩
 obtain ⟨okb, hok⟩ : ∃ t, s1.ok1 fa a.z = t := ⟨_, rfl⟩
 obtain ⟨wd1, hY1⟩ : ∃ t, a.r.y.w = t := ⟨_, rfl⟩
 have hwd : F.Plain.word a.r.y.k a.r.y.n = wd1 := hY1
 have hY : U64 wd1 := hY1 ▸ Vl.u64 _
 obtain ⟨o3, ho3⟩ : ∃ t, (a.r.op == 3) = t := ⟨_, rfl⟩
 have c16 : w.cell? ⟨p, 16, none⟩ = some (.int .u64 a.z) := B.cell 16
 have c7 : w.cell? ⟨p, 7, none⟩ = some (.bool a.cl) := B.cell 7
 rw [i2] at c7
 rcases lo with _ | _
 ·change w.cell? ⟨p, 7, none⟩ = some (.bool true) at c7
  go_enter Tryz.func76, Tryz.ntmps76
  go_wp2_with (first
   | (go_at_call 96; refine (cField B ok.2.1 ok.2.2.1 ok.2.2.2.1 ok.2.2.2.2).mono ?_; rintro e w2 ⟨rfl, hb2⟩; rw [hfa]; have t2 := t0.below hb2)
   | (go_at_call 100; refine (F.cFreeze a.z hU.1 hU.2 _).mono ?_; rintro e wx ⟨rfl, hwx⟩; rw [hwx]; clear hwx wx)
   | (go_at_call 62; refine (tCAS t2.two (by omega) fa a.z (u64_fz hU)).mono ?_; rintro e w4 ⟨rfl, h4, o4⟩; have t4 := t2.oth0 h4 o4; clear h4 o4))
  refine k.out _ _ ?_
  have en : (Cw.a4 ⟨a.r, false, fx⟩ wd a.z).next s1 = .a3 ⟨a.r, false, fx⟩ wd := by simp only [Cw.next, Cw.fa, hfa]; rfl
  have em : (Cw.a4 ⟨a.r, false, fx⟩ wd a.z).mem s1 = s1.cas fa a.z (F.Plain.fz a.z) := by simp only [Cw.mem, Cw.fa, hfa]; rfl
  unfold Lf
  rw [en, em]
  exact ⟨rfl, _, t4, hit, ⟨rfl, i2, i3, i4⟩, hw⟩
 ·change w.cell? ⟨p, 7, none⟩ = some (.bool false) at c7
  go_enter Tryz.func76, Tryz.ntmps76
  go_upto_region 5 with (fail)
  clear c16 c7
  have hbd : Below w.heap.size w w.drew := (Below.refl _ _).drew
  have td := t0.below hbd
  refine wp_region_noPanic ?_
  refine wp_region_held_drew (S := fun w' => w'.cell? ⟨p, 5, none⟩ = some (.int .i64 a.r.y.k) ∧ w'.cell? ⟨p, 6, none⟩ = some (.int .i64 a.r.y.n)) (by kernel_rfl) ⟨td.blk.cell 5, td.blk.cell 6⟩ (fun hHeld => ?_)
  refine tkH (i := 0) 22 (pt b) rfl rfl ?_
  simp only [sA1, sA2, sA3]
  refine tkH (i := 1) 23 (pt p) rfl rfl ?_
  simp only [sA1, sA2, sA3]
  refine tkH (i := 3) 25 (.int .u64 a.z) rfl rfl ?_
  simp only [sA1, sA2, sA3]
  refine tkH (i := 4) 26 (pt p) rfl rfl ?_
  simp only [sA1, sA2, sA3]
  refine tkH (i := 5) 27 (pt p) rfl rfl ?_
  simp only [sA1, sA2, sA3]
  refine tkH (i := 6) 28 (.pointer (some ⟨p, 0, none⟩)) rfl rfl ?_
  simp only [sA1, sA2, sA3]
  refine tkH (i := 7) 29 (.pointer (some ⟨p, 5, none⟩)) rfl rfl ?_
  simp only [sA1, sA2, sA3]
  refine tkH (i := 8) 30 (.agg #[.int .i64 a.r.y.k, .int .i64 a.r.y.n]) rfl rfl ?_
  simp only [sA1, sA2, sA3]
  refine rd1 2 rfl fun K hK => ?_
  go_simp
  refine (cField td.blk ok.2.1 ok.2.2.1 ok.2.2.2.1 ok.2.2.2.2).mono ?_
  rintro e w2 ⟨rfl, hb2⟩
  rw [hfa]
  have t2 := td.below hb2
  refine hK.out _ _ ⟨t2.blk.cell 5, t2.blk.cell 6⟩ (fun hHeld => ?_)
  clear hK K
  try simp only [Act.put, sA1, sA2, sA3]
  refine rd1 9 rfl fun K hK => ?_
  go_simp
  refine (F.cWord a.r.y.k a.r.y.n _).mono ?_
  rintro e w3 ⟨rfl, hw3⟩
  rw [hwd]
  have hb3 : Below w2.heap.size w2 w3 := (by rw [hw3]; exact (Below.refl _ _).alloc (Nat.le_refl _) _)
  have t3 := t2.below hb3
  clear hw3
  refine hK.out _ _ ⟨t3.blk.cell 5, t3.blk.cell 6⟩ (fun hHeld => ?_)
  clear hK K
  try simp only [Act.put, sA1, sA2, sA3]
  refine rd1 10 rfl fun K hK => ?_
  go_simp
  refine (tCAS t3.two (by omega) fa a.z hY).mono ?_
  rintro e w4 ⟨rfl, h4, o4⟩
  rw [hok]
  have t4 := t3.oth0 h4 o4
  clear h4 o4
  refine hK.out _ _ ⟨t4.blk.cell 5, t4.blk.cell 6⟩ (fun hHeld => ?_)
  clear hK K
  try simp only [Act.put, sA1, sA2, sA3]
  refine wpAnyH_done (by kernel_rfl) ?_ _
  refine NoPanic.normal ?_
  rcases okb with _ | _
  ·go_wp2
   refine k.out _ _ ?_
   have en : (Cw.a4 ⟨a.r, true, fx⟩ wd a.z).next s1 = .a3 ⟨a.r, true, fx⟩ wd := by simp only [Cw.next, Cw.fa, hfa, hok]; rfl
   have em : (Cw.a4 ⟨a.r, true, fx⟩ wd a.z).mem s1 = s1.cas fa a.z (wd1) := by simp only [Cw.mem, Cw.fa, hfa, hY1]; rfl
   unfold Lf
   rw [en, em]
   exact ⟨rfl, _, t4, hit, ⟨rfl, i2, i3, i4⟩, hw⟩
  ·go_wp2_with (go_at_call 101; refine (cWrote t4.blk (o3 := o3) (by exact ho3)).mono ?_; rintro e w5 ⟨rfl, K5, b5⟩)
   refine k.out _ _ ?_
   have en : (Cw.a4 ⟨a.r, true, fx⟩ wd a.z).next s1 = Cw.wrote ⟨a.r, true, fx⟩ := by simp only [Cw.next, Cw.fa, hfa, hok]; rfl
   have em : (Cw.a4 ⟨a.r, true, fx⟩ wd a.z).mem s1 = s1.cas fa a.z (wd1) := by simp only [Cw.mem, Cw.fa, hfa, hY1]; rfl
   unfold Lf
   rw [en, em]
   exact ⟨rfl, _, t4.kept K5 b5, rfl, (by unfold Cw.wrote; simp only [ho3])⟩
theorem mRp (h : TwoT ow w0 w b y s1 s2 N) (B : Blk w0 w p 114 a.cells) (hN : N + 5 < 1000000) {wd st nx : Int} (I : a.On ⟨r, lo, fx⟩) (ok : r.Ok) (hw : a.wd = wd) (hz0 : a.z0 = st) (hwd : In12 wd) (hst : st = 1 ∧ nx = 9 ∨ st = 2 ∧ nx = 12) :
  Calls Tryz.prog 78 #[pt p, pt b, .int .i64 nx] w fun e w' => Lf ow w0 w b y p ((Cw.a6 ⟨r, lo, fx⟩ wd st).mem s1) s2 (N + 1) ((Cw.a6 ⟨r, lo, fx⟩ wd st).next s1) e w' := by
 have i1 : a.r = r := I.r
 subst i1
 have i2 : a.cl = !lo := I.cl
 have i3 : a.h = hwC fx := I.h
 have i4 := I.o
 clear I
 refine viaQ fun Q k => ?_
 have t0 := To.refl h B
 subst hw
 obtain ⟨pp, hpp⟩ : ∃ q, pairP a.wd a.r.fd = q := ⟨_, rfl⟩
 have hpr : 0 ≤ pp ∧ pp < 16384 := by rw [← hpp]; unfold pairP; obtain ⟨_, _, _, f0, f1⟩ := ok; obtain ⟨w0', w1'⟩ := hwd; omega
 obtain ⟨p1, hp1⟩ : ∃ q, pp + 1 = q := ⟨_, rfl⟩
 have iw : IntKind.i64.wrap (pp + 1) = p1 := by rw [IntKind.wrap_i64]; omega
 have iw2 : IntKind.i64.wrap p1 = p1 := by rw [IntKind.wrap_i64]; omega
 obtain ⟨g, hg⟩ : ∃ g, s1.got p1 = g := ⟨_, rfl⟩
 have hU : U64 g := hg ▸ h.rng1.got _
 obtain ⟨u, hu⟩ : ∃ u, Vl.of g = u := ⟨_, rfl⟩
 have hk : F.Plain.kind g = u.k := congrArg Vl.k hu
 have hnn : F.Plain.num g = u.n := congrArg Vl.n hu
 obtain ⟨t, ht⟩ : ∃ t, decide (a.r.op = 1 ∨ a.r.op = 3 ∧ u ≠ a.r.x) = !t := ⟨!decide (a.r.op = 1 ∨ a.r.op = 3 ∧ u ≠ a.r.x), by simp⟩
 have hT : Hid (decide (a.r.op = 1 ∨ a.r.op = 3 ∧ u ≠ a.r.x) = !t) := ht
 clear ht
 go_enter Tryz.func78, Tryz.ntmps78
 go_upto_region 1 with (fail)
 have hbd : Below w.heap.size w w.drew := (Below.refl _ _).drew
 have t1 := t0.below hbd
 refine wp_region_noPanic ?_
 refine wp_region_held_drew (S := fun w' => True) (by kernel_rfl) trivial (fun hHeld => ?_)
 refine tkH (i := 0) 7 (pt p) rfl rfl ?_
 simp only [sA1, sA2, sA3]
 refine tkH (i := 1) 8 (pt b) rfl rfl ?_
 simp only [sA1, sA2, sA3]
 refine tkH (i := 2) 9 (pt p) rfl rfl ?_
 simp only [sA1, sA2, sA3]
 refine tkH (i := 6) 13 (pt p) rfl rfl ?_
 simp only [sA1, sA2, sA3]
 refine tkH (i := 7) 14 (.pointer (some ⟨p, 15, none⟩)) rfl rfl ?_
 simp only [sA1, sA2, sA3]
 refine rd1 3 rfl fun K hK => ?_
 go_simp
 refine (cPairAt t1.blk hwd.1 hwd.2 ok.2.2.2.1 ok.2.2.2.2 hpp).mono ?_
 rintro e w2 ⟨rfl, hb2⟩
 have t2 := t1.below hb2
 refine hK.out _ _ trivial (fun hHeld => ?_)
 clear hK K
 try simp only [Act.put, sA1, sA2, sA3]
 refine tkH (i := 4) 11 (.int .i64 p1) rfl rfl ?_
 simp only [sA1, sA2, sA3]
 refine rd1 5 rfl fun K hK => ?_
 go_simp
 refine (tLoad t2.two (by omega) p1).mono ?_
 rintro e w3 ⟨rfl, h3, o3⟩
 rw [hg]
 have t3 := t2.oth0 h3 o3
 have c16 : w3.cell? ⟨p, 16, none⟩ = some (.int .u64 a.z) := t3.blk.cell 16
 have f16 := t3.blk.free 16
 clear h3 o3
 refine hK.out _ _ trivial (fun hHeld => ?_)
 clear hK K
 try simp only [Act.put, sA1, sA2, sA3]
 refine tkH (i := 8) 15 (.pointer (some ⟨p, 16, none⟩)) rfl rfl ?_
 simp only [sA1, sA2, sA3]
 have t4 := t3.kept (Kept.one w3 p 16 (.int .u64 g)) (t3.blk.s_z g)
 refine rd1 9 rfl fun K hK => ?_
 go_simp
 refine hK.out _ _ trivial (fun hHeld => ?_)
 clear hK K
 try simp only [Act.put, sA1, sA2, sA3]
 refine wpAnyH_done (by kernel_rfl) ?_ _
 refine NoPanic.normal ?_
 clear c16 f16
 generalize w3.setCell ⟨p, 16, none⟩ (.int .u64 g) = w4 at t4 hHeld ⊢
 have c29 : w4.cell? ⟨p, 29, none⟩ = some (.bool a.hit) := t4.blk.cell 29
 have f29 := t4.blk.free 29
 go_upto_region 3 with (fail)
 have t5 := t4.kept (Kept.one w4 p 29 (.bool true)) (t4.blk.s_hit true)
 clear c29 f29
 generalize w4.setCell ⟨p, 29, none⟩ (.bool true) = w5 at t5 ⊢
 have c16 : w5.cell? ⟨p, 16, none⟩ = some (.int .u64 g) := t5.blk.cell 16
 rcases t with _ | _
 ·skip
  go_wp2_with (first
   | (go_at_call 97; refine (F.cOf g hU.1 hU.2 _).mono ?_; rintro e w6 ⟨rfl, hw6⟩; rw [hk, hnn] at hw6 ⊢; have hb6 : Below w5.heap.size w5 w6 := (by rw [hw6]; go_grown); have t6 := t5.below hb6; clear hw6 hb6)
   | (go_at_call 99; refine (cWrites t6.blk ok.1 u (t := false) (by exact hT.out)).mono ?_; rintro e w7 ⟨rfl, hb7⟩; have t7 := t6.below hb7; clear hb7))
  refine k.out _ _ ?_
  have en : (Cw.a6 ⟨a.r, lo, fx⟩ a.wd st).next s1 = .a7 ⟨a.r, lo, fx⟩ a.wd st g := by simp only [Cw.next, Cw.pa, hpp, hp1, hg]; rw [if_pos (told_of hu (by simpa using hT.out))]
  have em : (Cw.a6 ⟨a.r, lo, fx⟩ a.wd st).mem s1 = s1.load p1 := by simp only [Cw.mem, Cw.pa, hpp, hp1]
  unfold Lf
  rw [en, em]
  exact ⟨by rfl, _, t7, rfl, ⟨rfl, i2, i3, i4⟩, rfl, hz0, rfl⟩
 ·skip
  go_wp2_with (first
   | (go_at_call 97; refine (F.cOf g hU.1 hU.2 _).mono ?_; rintro e w6 ⟨rfl, hw6⟩; rw [hk, hnn] at hw6 ⊢; have hb6 : Below w5.heap.size w5 w6 := (by rw [hw6]; go_grown); have t6 := t5.below hb6; clear hw6 hb6)
   | (go_at_call 99; refine (cWrites t6.blk ok.1 u (t := true) (by exact hT.out)).mono ?_; rintro e w7 ⟨rfl, hb7⟩; have t7 := t6.below hb7; clear hb7))
  rcases hst with ⟨rfl, rfl⟩ | ⟨rfl, rfl⟩
  ·refine k.out _ _ ?_
   have en : (Cw.a6 ⟨a.r, lo, fx⟩ a.wd 1).next s1 = .a9 ⟨a.r, lo, fx⟩ a.wd g := by simp only [Cw.next, Cw.pa, hpp, hp1, hg]; rw [if_neg (not_told_of hu (by simpa using hT.out))]; rfl
   have em : (Cw.a6 ⟨a.r, lo, fx⟩ a.wd 1).mem s1 = s1.load p1 := by simp only [Cw.mem, Cw.pa, hpp, hp1]
   unfold Lf
   rw [en, em]
   exact ⟨by rfl, _, t7, rfl, ⟨rfl, i2, i3, i4⟩, rfl, hz0, rfl⟩
  ·refine k.out _ _ ?_
   have en : (Cw.a6 ⟨a.r, lo, fx⟩ a.wd 2).next s1 = .a12 ⟨a.r, lo, fx⟩ a.wd g := by simp only [Cw.next, Cw.pa, hpp, hp1, hg]; rw [if_neg (not_told_of hu (by simpa using hT.out))]; rfl
   have em : (Cw.a6 ⟨a.r, lo, fx⟩ a.wd 2).mem s1 = s1.load p1 := by simp only [Cw.mem, Cw.pa, hpp, hp1]
   unfold Lf
   rw [en, em]
   exact ⟨by rfl, _, t7, rfl, ⟨rfl, i2, i3, i4⟩, rfl, hz0, rfl⟩
theorem mRa (h : TwoT ow w0 w b y s1 s2 N) (B : Blk w0 w p 114 a.cells) (hN : N + 5 < 1000000) {wd st z : Int} (Bw : Bh w0) (hit : a.hit = false) (I : a.On ⟨r, lo, fx⟩) (ok : r.Ok) (hw : a.wd = wd) (hz0 : a.z0 = st) (hz : a.z = z) (hwd : In12 wd) (hU : U64 z) (h2 : r.op ≠ 2) :
  Calls Tryz.prog 79 #[pt p, pt b] w fun e w' => Lf ow w0 w b y p ((Cw.a7 ⟨r, lo, fx⟩ wd st z).mem s1) s2 (N + 1) ((Cw.a7 ⟨r, lo, fx⟩ wd st z).next s1) e w' := by
 have i1 : a.r = r := I.r
 subst i1
 have i2 : a.cl = !lo := I.cl
 have i3 : a.h = hwC fx := I.h
 have i4 := I.o
 clear I
 refine viaQ fun Q k => ?_
 have t0 := To.refl h B
 subst hw hz0 hz
 obtain ⟨pp, hpp⟩ : ∃ q, pairP a.wd a.r.fd = q := ⟨_, rfl⟩
 have hpr : 0 ≤ pp ∧ pp < 16384 := by rw [← hpp]; unfold pairP; obtain ⟨_, _, _, f0, f1⟩ := ok; obtain ⟨w0', w1'⟩ := hwd; omega
 obtain ⟨g, hg⟩ : ∃ g, s1.got pp = g := ⟨_, rfl⟩
 have hG : U64 g := hg ▸ h.rng1.got _
 obtain ⟨u, hu⟩ : ∃ u, Vl.of a.z = u := ⟨_, rfl⟩
 have hk : F.Plain.kind a.z = u.k := congrArg Vl.k hu
 have hnn : F.Plain.num a.z = u.n := congrArg Vl.n hu
 by_cases hS : g = a.z0
 ·have e1 : (g != a.z0) = false := by simp [hS]
  have hS' : Hid (g = a.z0) := hS
  clear hS
  rcases ok.1 with hop | hop | hop
  ·have o1 : (a.r.op == 1) = true := by simp [hop]
   go_enter Tryz.func79, Tryz.ntmps79
   go_wp2_with (first
    | (go_at_call 74; refine (cPairAt B hwd.1 hwd.2 ok.2.2.2.1 ok.2.2.2.2 hpp).mono ?_; rintro e w2 ⟨rfl, hb2⟩; have t2 := t0.below hb2)
    | (go_at_call 34; refine (tLoad t2.two (by omega) pp).mono ?_; rintro e w3 ⟨rfl, h3, o3⟩; rw [hg]; have t3 := t2.oth0 h3 o3; clear h3 o3; have c15 : w3.cell? ⟨p, 15, none⟩ = some (.int .u64 a.z0) := t3.blk.cell 15; have c16 : w3.cell? ⟨p, 16, none⟩ = some (.int .u64 a.z) := t3.blk.cell 16; have c0 : w3.cell? ⟨p, 0, none⟩ = some (.int .i64 a.r.op) := t3.blk.cell 0)
    | (go_at_call 97; refine (F.cOf a.z hU.1 hU.2 _).mono ?_; rintro e w6 ⟨rfl, hw6⟩; rw [hk, hnn] at hw6 ⊢; have hb6 : Below w3.heap.size w3 w6 := (by rw [hw6]; go_grown); have t6 := t3.below hb6; clear hw6 hb6)
    | (go_at_call 95; refine (cEnd t6.blk ⟨0, u, false⟩).mono ?_; rintro e w7 ⟨rfl, K7, b7⟩))
   refine k.out _ _ ?_
   have en : (Cw.a7 ⟨a.r, lo, fx⟩ a.wd a.z0 a.z).next s1 = .fin false ⟨0, u, false⟩ := by simp only [Cw.next, Cw.pa, hpp, hg]; rw [if_pos hS'.out]; simp only [Cw.tells, hop, hu]; rfl
   have em : (Cw.a7 ⟨a.r, lo, fx⟩ a.wd a.z0 a.z).mem s1 = s1.load pp := by simp only [Cw.mem, Cw.pa, hpp]
   unfold Lf
   rw [en, em]
   exact ⟨rfl, _, t6.kept K7 b7, hit, rfl⟩
  ·exact absurd hop h2
  ·have o1 : (a.r.op == 1) = false := by simp [hop]
   go_enter Tryz.func79, Tryz.ntmps79
   go_wp2_with (first
    | (go_at_call 74; refine (cPairAt B hwd.1 hwd.2 ok.2.2.2.1 ok.2.2.2.2 hpp).mono ?_; rintro e w2 ⟨rfl, hb2⟩; have t2 := t0.below hb2)
    | (go_at_call 34; refine (tLoad t2.two (by omega) pp).mono ?_; rintro e w3 ⟨rfl, h3, o3⟩; rw [hg]; have t3 := t2.oth0 h3 o3; clear h3 o3; have c15 : w3.cell? ⟨p, 15, none⟩ = some (.int .u64 a.z0) := t3.blk.cell 15; have c16 : w3.cell? ⟨p, 16, none⟩ = some (.int .u64 a.z) := t3.blk.cell 16; have c0 : w3.cell? ⟨p, 0, none⟩ = some (.int .i64 a.r.op) := t3.blk.cell 0)
    | (go_at_call 95; refine (cEnd t3.blk ⟨0, ⟨0, 0⟩, false⟩).mono ?_; rintro e w7 ⟨rfl, K7, b7⟩))
   refine k.out _ _ ?_
   have en : (Cw.a7 ⟨a.r, lo, fx⟩ a.wd a.z0 a.z).next s1 = .fin false Ou.zero := by simp only [Cw.next, Cw.pa, hpp, hg]; rw [if_pos hS'.out]; simp only [Cw.tells]; rw [if_neg (show ¬ a.r.op = 1 by omega)]
   have em : (Cw.a7 ⟨a.r, lo, fx⟩ a.wd a.z0 a.z).mem s1 = s1.load pp := by simp only [Cw.mem, Cw.pa, hpp]
   unfold Lf
   rw [en, em]
   exact ⟨rfl, _, t3.kept K7 b7, hit, rfl⟩
 ·have e1 : (g != a.z0) = true := by simpa using hS
  go_enter Tryz.func79, Tryz.ntmps79
  go_wp2_with (first
   | (go_at_call 74; refine (cPairAt B hwd.1 hwd.2 ok.2.2.2.1 ok.2.2.2.2 hpp).mono ?_; rintro e w2 ⟨rfl, hb2⟩; have t2 := t0.below hb2)
   | (go_at_call 34; refine (tLoad t2.two (by omega) pp).mono ?_; rintro e w3 ⟨rfl, h3, o3⟩; rw [hg]; have t3 := t2.oth0 h3 o3; clear h3 o3; have c15 : w3.cell? ⟨p, 15, none⟩ = some (.int .u64 a.z0) := t3.blk.cell 15; have c16 : w3.cell? ⟨p, 16, none⟩ = some (.int .u64 a.z) := t3.blk.cell 16; have c0 : w3.cell? ⟨p, 0, none⟩ = some (.int .i64 a.r.op) := t3.blk.cell 0)
   | (go_at_call 73; refine (cGoBy t3.two t3.blk Bw hG (by_pc ⟨a.r, lo, fx⟩ a.wd g).symm).mono ?_; rintro e w4 ⟨rfl, t4⟩; have t5 := t3.tr t4))
  refine k.out _ _ ?_
  have en : (Cw.a7 ⟨a.r, lo, fx⟩ a.wd a.z0 a.z).next s1 = Cw.by_ ⟨a.r, lo, fx⟩ a.wd g := by simp only [Cw.next, Cw.pa, hpp, hg]; rw [if_neg hS]
  have em : (Cw.a7 ⟨a.r, lo, fx⟩ a.wd a.z0 a.z).mem s1 = s1.load pp := by simp only [Cw.mem, Cw.pa, hpp]
  unfold Lf
  rw [en, em]
  exact ⟨rfl, _, t5, as_by ⟨rfl, i2, i3, i4⟩ rfl rfl hit⟩
theorem mSp (h : TwoT ow w0 w b y s1 s2 N) (B : Blk w0 w p 114 a.cells) (hN : N + 5 < 1000000) {wd z : Int} (hit : a.hit = false) (I : a.On ⟨r, lo, fx⟩) (ok : r.Ok) (hw : a.wd = wd) (hz0 : a.z0 = 1) (hz : a.z = z) (hwd : In12 wd) (hU : U64 z) :
  Calls Tryz.prog 80 #[pt p, pt b] w fun e w' => Lf ow w0 w b y p ((Cw.a9 ⟨r, lo, fx⟩ wd z).mem s1) s2 (N + 1) ((Cw.a9 ⟨r, lo, fx⟩ wd z).next s1) e w' := by
 have i1 : a.r = r := I.r
 subst i1
 have i2 : a.cl = !lo := I.cl
 have i3 : a.h = hwC fx := I.h
 have i4 := I.o
 clear I
 refine viaQ fun Q k => ?_
 have t0 := To.refl h B
 subst hw hz
 obtain ⟨pp, hpp⟩ : ∃ q, pairP a.wd a.r.fd = q := ⟨_, rfl⟩
 have hpr : 0 ≤ pp ∧ pp < 16384 := by rw [← hpp]; unfold pairP; obtain ⟨_, _, _, f0, f1⟩ := ok; obtain ⟨w0', w1'⟩ := hwd; omega
 obtain ⟨okb, hok⟩ : ∃ t, s1.ok2 pp 1 a.z = t := ⟨_, rfl⟩
 obtain ⟨wd1, hY1⟩ : ∃ t, a.r.y.w = t := ⟨_, rfl⟩
 have hwd1 : F.Plain.word a.r.y.k a.r.y.n = wd1 := hY1
 have hY : U64 wd1 := hY1 ▸ Vl.u64 _
 obtain ⟨o3, ho3⟩ : ∃ t, (a.r.op == 3) = t := ⟨_, rfl⟩
 have c16 : w.cell? ⟨p, 16, none⟩ = some (.int .u64 a.z) := B.cell 16
 have c5 : w.cell? ⟨p, 5, none⟩ = some (.int .i64 a.r.y.k) := B.cell 5
 have c6 : w.cell? ⟨p, 6, none⟩ = some (.int .i64 a.r.y.n) := B.cell 6
 have c7 : w.cell? ⟨p, 7, none⟩ = some (.bool a.cl) := B.cell 7
 rw [i2] at c7
 rcases lo with _ | _
 ·change w.cell? ⟨p, 7, none⟩ = some (.bool true) at c7
  go_enter Tryz.func80, Tryz.ntmps80
  go_wp2_with (go_at_call 84; refine (cSwapPair t0.two t0.blk (by omega) hwd.1 hwd.2 ok.2.2.2.1 ok.2.2.2.2 (n0 := 2) (n1 := a.z) (ok := okb) u64_lit2.1 hU hpp hz0 rfl hok).mono ?_; rintro e w4 ⟨rfl, u4⟩; have t4 := t0.tr u4)
  refine k.out _ _ ?_
  have en : (Cw.a9 ⟨a.r, false, fx⟩ a.wd a.z).next s1 = .a2 ⟨a.r, false, fx⟩ a.wd := by simp only [Cw.next, Cw.pa, hpp]; rfl
  have em : (Cw.a9 ⟨a.r, false, fx⟩ a.wd a.z).mem s1 = s1.cas2 pp 1 a.z 2 a.z := by simp only [Cw.mem, Cw.pa, hpp]; rfl
  unfold Lf
  rw [en, em]
  exact ⟨rfl, _, t4, hit, ⟨rfl, i2, i3, i4⟩, rfl⟩
 ·change w.cell? ⟨p, 7, none⟩ = some (.bool false) at c7
  rcases okb with _ | _
  ·go_enter Tryz.func80, Tryz.ntmps80
   go_wp2_with (first
    | (go_at_call 83; refine (F.cWord a.r.y.k a.r.y.n _).mono ?_; rintro e w3 ⟨rfl, hw3⟩; rw [hwd1]; have hb3 : Below w.heap.size w w3 := (by rw [hw3]; exact (Below.refl _ _).alloc (Nat.le_refl _) _); have t3 := t0.below hb3; clear hw3)
    | (go_at_call 84; refine (cSwapPair t3.two t3.blk (by omega) hwd.1 hwd.2 ok.2.2.2.1 ok.2.2.2.2 (n0 := 1) (n1 := wd1) (ok := false) u64_lit2.2.1 hY hpp hz0 rfl hok).mono ?_; rintro e w4 ⟨rfl, u4⟩; have t4 := t3.tr u4))
   refine k.out _ _ ?_
   have en : (Cw.a9 ⟨a.r, true, fx⟩ a.wd a.z).next s1 = .a2 ⟨a.r, true, fx⟩ a.wd := by simp only [Cw.next, Cw.pa, hpp, hok]; rfl
   have em : (Cw.a9 ⟨a.r, true, fx⟩ a.wd a.z).mem s1 = s1.cas2 pp 1 a.z 1 wd1 := by simp only [Cw.mem, Cw.pa, hpp, hY1]; rfl
   unfold Lf
   rw [en, em]
   exact ⟨rfl, _, t4, hit, ⟨rfl, i2, i3, i4⟩, rfl⟩
  ·go_enter Tryz.func80, Tryz.ntmps80
   go_wp2_with (first
    | (go_at_call 83; refine (F.cWord a.r.y.k a.r.y.n _).mono ?_; rintro e w3 ⟨rfl, hw3⟩; rw [hwd1]; have hb3 : Below w.heap.size w w3 := (by rw [hw3]; exact (Below.refl _ _).alloc (Nat.le_refl _) _); have t3 := t0.below hb3; clear hw3)
    | (go_at_call 84; refine (cSwapPair t3.two t3.blk (by omega) hwd.1 hwd.2 ok.2.2.2.1 ok.2.2.2.2 (n0 := 1) (n1 := wd1) (ok := true) u64_lit2.2.1 hY hpp hz0 rfl hok).mono ?_; rintro e w4 ⟨rfl, u4⟩; have t4 := t3.tr u4)
    | (go_at_call 101; refine (cWrote t4.blk (o3 := o3) (by exact ho3)).mono ?_; rintro e w5 ⟨rfl, K5, b5⟩))
   refine k.out _ _ ?_
   have en : (Cw.a9 ⟨a.r, true, fx⟩ a.wd a.z).next s1 = Cw.wrote ⟨a.r, true, fx⟩ := by simp only [Cw.next, Cw.pa, hpp, hok]; rfl
   have em : (Cw.a9 ⟨a.r, true, fx⟩ a.wd a.z).mem s1 = s1.cas2 pp 1 a.z 1 wd1 := by simp only [Cw.mem, Cw.pa, hpp, hY1]; rfl
   unfold Lf
   rw [en, em]
   exact ⟨rfl, _, t4.kept K5 b5, rfl, (by unfold Cw.wrote; simp only [ho3])⟩
theorem tPStepI (h : TwoT ow w0 w b y s1 s2 N) (B : Blk w0 w p 114 a.cells) (hx : a.p = x) (R : RepO w x.k a.vp) (ok : x.Ok) (hN : N < 1000000) :
  Calls Tryz.prog 159 #[.pointer (some ⟨p, 17, none⟩), pt b] w fun e w' => e = .returned (.bool (x.next s1).done) ∧ ∃ v', To ow w0 w w' b y p (x.mem s1) s2 (N + 1) ({ a with p := x.next s1, vp := v' } : Ax) ∧ RepO w' (x.next s1).k v' := by
 have ht := h.top1
 have hc' : s1.c < 1000000 := by omega
 have f := h.fit1
 have r := h.rng1
 obtain ⟨L, rfl, A, k⟩ := h.went1 B
 refine (cPStepI A hx R ok f hc' r).mono ?_
 rintro e w' ⟨rfl, v', L', A', g, R'⟩
 have := Sx.cnt (s := s1) ok
 obtain ⟨H1, B1, O1⟩ := k A' g (Sx.fit ok f hc') (Sx.rng ok r) (show _ ≤ ((N + 1 : Nat) : Int) by omega) (by omega)
 exact ⟨rfl, v', ⟨H1, B1, O1⟩, R'⟩
theorem cFollowP (h : TwoT ow w0 w b y s1 s2 N) (B : Blk w0 w p 114 a.cells) (hN : N + 5 < 1000000) (hpc : a.pc = 15) (hx : a.p = x) (R : RepO w x.k a.vp) (ok : x.Ok) {x' : Sx} (hx' : x.next s1 = x') {dn : Bool} (hd : x'.done = dn) {n : Int} (hn : (if dn = true then 0 else 15) = n) :
  Calls Tryz.prog 85 #[pt p, .iface 115 (.pointer (some ⟨p, 17, none⟩)), pt b] w fun e w' => e = .returned (.int .i64 n) ∧ ∃ v', To ow w0 w w' b y p (x.mem s1) s2 (N + 1) ({ a with p := x', vp := v', hit := x'.hit, o := x'.o } : Ax) ∧ RepO w' x'.k v' := by
 have m1 : ∀ w, (method 202 115 (.pointer (some ⟨p, 17, none⟩)) "Step").run Tryz.prog w = .ok (159, .pointer (some ⟨p, 17, none⟩)) w := fun _ => by kernel_rfl
 have n1 : ∀ w, (nilAhead 202 115 (.pointer (some ⟨p, 17, none⟩)) "Step").run Tryz.prog w = .ok (some false) w := fun _ => by kernel_rfl
 have m2 : ∀ w, (method 202 115 (.pointer (some ⟨p, 17, none⟩)) "Hit").run Tryz.prog w = .ok (157, .pointer (some ⟨p, 17, none⟩)) w := fun _ => by kernel_rfl
 have n2 : ∀ w, (nilAhead 202 115 (.pointer (some ⟨p, 17, none⟩)) "Hit").run Tryz.prog w = .ok (some false) w := fun _ => by kernel_rfl
 have m3 : ∀ w, (method 202 115 (.pointer (some ⟨p, 17, none⟩)) "Result").run Tryz.prog w = .ok (158, .pointer (some ⟨p, 17, none⟩)) w := fun _ => by kernel_rfl
 have n3 : ∀ w, (nilAhead 202 115 (.pointer (some ⟨p, 17, none⟩)) "Result").run Tryz.prog w = .ok (some false) w := fun _ => by kernel_rfl
 have c12 : w.cell? ⟨p, 12, none⟩ = some (.int .i64 15) := hpc ▸ B.cell 12
 refine viaQ fun Q k => ?_
 rcases dn with _ | _
 ·obtain rfl : 15 = n := by simpa using hn
  go_enter Tryz.func85, Tryz.ntmps85
  go_wp2_with (first
   | (go_at_call 159; refine (tPStepI h B hx R ok (by omega)).mono ?_; rintro e w1 ⟨rfl, v', t1, R1⟩; rw [hx'] at t1 R1 ⊢; rw [hd]; have c1 : w1.cell? ⟨p, 18, none⟩ = some (.bool x'.hit) := t1.blk.cell 18; have c2 : w1.cell? ⟨p, 19, none⟩ = some (.int .i64 x'.o.c) := t1.blk.cell 19; have c3 : w1.cell? ⟨p, 20, none⟩ = some (.int .i64 x'.o.v.k) := t1.blk.cell 20; have c4 : w1.cell? ⟨p, 21, none⟩ = some (.int .i64 x'.o.v.n) := t1.blk.cell 21; have c5 : w1.cell? ⟨p, 22, none⟩ = some (.bool x'.o.y) := t1.blk.cell 22; have l1 := t1.blk.lt)
   | (go_at_call 157; refine (cPHitI c1).mono ?_; rintro e wx ⟨rfl, hwx⟩; rw [hwx]; clear hwx wx)
   | (go_at_call 158; refine (cPResultI l1 c2 c3 c4 c5).mono ?_; rintro e w2 ⟨rfl, hb2⟩; unfold Ou.val; have t2 := t1.below hb2; have R2 := R1.below hb2; have y29 : w2.cell? ⟨p, 29, none⟩ = some (.bool a.hit) := t2.blk.cell 29; have yf29 := t2.blk.free 29; have y30 : w2.cell? ⟨p, 30, none⟩ = some (.int .i64 a.o.c) := t2.blk.cell 30; have yf30 := t2.blk.free 30; have y31 : w2.cell? ⟨p, 31, none⟩ = some (.int .i64 a.o.v.k) := t2.blk.cell 31; have yf31 := t2.blk.free 31; have y32 : w2.cell? ⟨p, 32, none⟩ = some (.int .i64 a.o.v.n) := t2.blk.cell 32; have yf32 := t2.blk.free 32; have y33 : w2.cell? ⟨p, 33, none⟩ = some (.bool a.o.y) := t2.blk.cell 33; have yf33 := t2.blk.free 33))
  have K3 : Kept [p] w2 _ := (Kept.one w2 p 29 (.bool x'.hit)).tr (kept4o (w2.setCell ⟨p, 29, none⟩ (.bool x'.hit)) p x'.o)
  have B3 := (t2.blk.s_hit x'.hit).s_o x'.o
  exact k.out _ _ ⟨rfl, v', t2.kept K3 B3, oth_rep t2.blk (Oth.kept K3) R2⟩
 ·obtain rfl : 0 = n := by simpa using hn
  go_enter Tryz.func85, Tryz.ntmps85
  go_wp2_with (first
   | (go_at_call 159; refine (tPStepI h B hx R ok (by omega)).mono ?_; rintro e w1 ⟨rfl, v', t1, R1⟩; rw [hx'] at t1 R1 ⊢; rw [hd]; have c1 : w1.cell? ⟨p, 18, none⟩ = some (.bool x'.hit) := t1.blk.cell 18; have c2 : w1.cell? ⟨p, 19, none⟩ = some (.int .i64 x'.o.c) := t1.blk.cell 19; have c3 : w1.cell? ⟨p, 20, none⟩ = some (.int .i64 x'.o.v.k) := t1.blk.cell 20; have c4 : w1.cell? ⟨p, 21, none⟩ = some (.int .i64 x'.o.v.n) := t1.blk.cell 21; have c5 : w1.cell? ⟨p, 22, none⟩ = some (.bool x'.o.y) := t1.blk.cell 22; have l1 := t1.blk.lt)
   | (go_at_call 157; refine (cPHitI c1).mono ?_; rintro e wx ⟨rfl, hwx⟩; rw [hwx]; clear hwx wx)
   | (go_at_call 158; refine (cPResultI l1 c2 c3 c4 c5).mono ?_; rintro e w2 ⟨rfl, hb2⟩; unfold Ou.val; have t2 := t1.below hb2; have R2 := R1.below hb2; have y29 : w2.cell? ⟨p, 29, none⟩ = some (.bool a.hit) := t2.blk.cell 29; have yf29 := t2.blk.free 29; have y30 : w2.cell? ⟨p, 30, none⟩ = some (.int .i64 a.o.c) := t2.blk.cell 30; have yf30 := t2.blk.free 30; have y31 : w2.cell? ⟨p, 31, none⟩ = some (.int .i64 a.o.v.k) := t2.blk.cell 31; have yf31 := t2.blk.free 31; have y32 : w2.cell? ⟨p, 32, none⟩ = some (.int .i64 a.o.v.n) := t2.blk.cell 32; have yf32 := t2.blk.free 32; have y33 : w2.cell? ⟨p, 33, none⟩ = some (.bool a.o.y) := t2.blk.cell 33; have yf33 := t2.blk.free 33))
  have K3 : Kept [p] w2 _ := (Kept.one w2 p 29 (.bool x'.hit)).tr (kept4o (w2.setCell ⟨p, 29, none⟩ (.bool x'.hit)) p x'.o)
  have B3 := (t2.blk.s_hit x'.hit).s_o x'.o
  exact k.out _ _ ⟨rfl, v', t2.kept K3 B3, oth_rep t2.blk (Oth.kept K3) R2⟩
theorem tDStepI (h : TwoT ow w0 w b y s1 s2 N) (B : Blk w0 w p 114 a.cells) (hx : a.d = x) (R : RepO w x.k a.vd) (ok : x.Ok) (hN : N < 1000000) :
  Calls Tryz.prog 163 #[.pointer (some ⟨p, 23, none⟩), pt b] w fun e w' => e = .returned (.bool (x.next s1).done) ∧ ∃ v', To ow w0 w w' b y p (x.mem s1) s2 (N + 1) ({ a with d := x.next s1, vd := v' } : Ax) ∧ RepO w' (x.next s1).k v' := by
 have ht := h.top1
 have hc' : s1.c < 1000000 := by omega
 have f := h.fit1
 have r := h.rng1
 obtain ⟨L, rfl, A, k⟩ := h.went1 B
 refine (cDStepI A hx R ok f hc' r).mono ?_
 rintro e w' ⟨rfl, v', L', A', g, R'⟩
 have := Sx.cnt (s := s1) ok
 obtain ⟨H1, B1, O1⟩ := k A' g (Sx.fit ok f hc') (Sx.rng ok r) (show _ ≤ ((N + 1 : Nat) : Int) by omega) (by omega)
 exact ⟨rfl, v', ⟨H1, B1, O1⟩, R'⟩
theorem cFollowD (h : TwoT ow w0 w b y s1 s2 N) (B : Blk w0 w p 114 a.cells) (hN : N + 5 < 1000000) (hpc : a.pc = 16) (hx : a.d = x) (R : RepO w x.k a.vd) (ok : x.Ok) {x' : Sx} (hx' : x.next s1 = x') {dn : Bool} (hd : x'.done = dn) {n : Int} (hn : (if dn = true then 0 else 16) = n) :
  Calls Tryz.prog 85 #[pt p, .iface 138 (.pointer (some ⟨p, 23, none⟩)), pt b] w fun e w' => e = .returned (.int .i64 n) ∧ ∃ v', To ow w0 w w' b y p (x.mem s1) s2 (N + 1) ({ a with d := x', vd := v', hit := x'.hit, o := x'.o } : Ax) ∧ RepO w' x'.k v' := by
 have m1 : ∀ w, (method 202 138 (.pointer (some ⟨p, 23, none⟩)) "Step").run Tryz.prog w = .ok (163, .pointer (some ⟨p, 23, none⟩)) w := fun _ => by kernel_rfl
 have n1 : ∀ w, (nilAhead 202 138 (.pointer (some ⟨p, 23, none⟩)) "Step").run Tryz.prog w = .ok (some false) w := fun _ => by kernel_rfl
 have m2 : ∀ w, (method 202 138 (.pointer (some ⟨p, 23, none⟩)) "Hit").run Tryz.prog w = .ok (161, .pointer (some ⟨p, 23, none⟩)) w := fun _ => by kernel_rfl
 have n2 : ∀ w, (nilAhead 202 138 (.pointer (some ⟨p, 23, none⟩)) "Hit").run Tryz.prog w = .ok (some false) w := fun _ => by kernel_rfl
 have m3 : ∀ w, (method 202 138 (.pointer (some ⟨p, 23, none⟩)) "Result").run Tryz.prog w = .ok (162, .pointer (some ⟨p, 23, none⟩)) w := fun _ => by kernel_rfl
 have n3 : ∀ w, (nilAhead 202 138 (.pointer (some ⟨p, 23, none⟩)) "Result").run Tryz.prog w = .ok (some false) w := fun _ => by kernel_rfl
 have c12 : w.cell? ⟨p, 12, none⟩ = some (.int .i64 16) := hpc ▸ B.cell 12
 refine viaQ fun Q k => ?_
 rcases dn with _ | _
 ·obtain rfl : 16 = n := by simpa using hn
  go_enter Tryz.func85, Tryz.ntmps85
  go_wp2_with (first
   | (go_at_call 163; refine (tDStepI h B hx R ok (by omega)).mono ?_; rintro e w1 ⟨rfl, v', t1, R1⟩; rw [hx'] at t1 R1 ⊢; rw [hd]; have c1 : w1.cell? ⟨p, 24, none⟩ = some (.bool x'.hit) := t1.blk.cell 24; have c2 : w1.cell? ⟨p, 25, none⟩ = some (.int .i64 x'.o.c) := t1.blk.cell 25; have c3 : w1.cell? ⟨p, 26, none⟩ = some (.int .i64 x'.o.v.k) := t1.blk.cell 26; have c4 : w1.cell? ⟨p, 27, none⟩ = some (.int .i64 x'.o.v.n) := t1.blk.cell 27; have c5 : w1.cell? ⟨p, 28, none⟩ = some (.bool x'.o.y) := t1.blk.cell 28; have l1 := t1.blk.lt)
   | (go_at_call 161; refine (cDHitI c1).mono ?_; rintro e wx ⟨rfl, hwx⟩; rw [hwx]; clear hwx wx)
   | (go_at_call 162; refine (cDResultI l1 c2 c3 c4 c5).mono ?_; rintro e w2 ⟨rfl, hb2⟩; unfold Ou.val; have t2 := t1.below hb2; have R2 := R1.below hb2; have y29 : w2.cell? ⟨p, 29, none⟩ = some (.bool a.hit) := t2.blk.cell 29; have yf29 := t2.blk.free 29; have y30 : w2.cell? ⟨p, 30, none⟩ = some (.int .i64 a.o.c) := t2.blk.cell 30; have yf30 := t2.blk.free 30; have y31 : w2.cell? ⟨p, 31, none⟩ = some (.int .i64 a.o.v.k) := t2.blk.cell 31; have yf31 := t2.blk.free 31; have y32 : w2.cell? ⟨p, 32, none⟩ = some (.int .i64 a.o.v.n) := t2.blk.cell 32; have yf32 := t2.blk.free 32; have y33 : w2.cell? ⟨p, 33, none⟩ = some (.bool a.o.y) := t2.blk.cell 33; have yf33 := t2.blk.free 33))
  have K3 : Kept [p] w2 _ := (Kept.one w2 p 29 (.bool x'.hit)).tr (kept4o (w2.setCell ⟨p, 29, none⟩ (.bool x'.hit)) p x'.o)
  have B3 := (t2.blk.s_hit x'.hit).s_o x'.o
  exact k.out _ _ ⟨rfl, v', t2.kept K3 B3, oth_rep t2.blk (Oth.kept K3) R2⟩
 ·obtain rfl : 0 = n := by simpa using hn
  go_enter Tryz.func85, Tryz.ntmps85
  go_wp2_with (first
   | (go_at_call 163; refine (tDStepI h B hx R ok (by omega)).mono ?_; rintro e w1 ⟨rfl, v', t1, R1⟩; rw [hx'] at t1 R1 ⊢; rw [hd]; have c1 : w1.cell? ⟨p, 24, none⟩ = some (.bool x'.hit) := t1.blk.cell 24; have c2 : w1.cell? ⟨p, 25, none⟩ = some (.int .i64 x'.o.c) := t1.blk.cell 25; have c3 : w1.cell? ⟨p, 26, none⟩ = some (.int .i64 x'.o.v.k) := t1.blk.cell 26; have c4 : w1.cell? ⟨p, 27, none⟩ = some (.int .i64 x'.o.v.n) := t1.blk.cell 27; have c5 : w1.cell? ⟨p, 28, none⟩ = some (.bool x'.o.y) := t1.blk.cell 28; have l1 := t1.blk.lt)
   | (go_at_call 161; refine (cDHitI c1).mono ?_; rintro e wx ⟨rfl, hwx⟩; rw [hwx]; clear hwx wx)
   | (go_at_call 162; refine (cDResultI l1 c2 c3 c4 c5).mono ?_; rintro e w2 ⟨rfl, hb2⟩; unfold Ou.val; have t2 := t1.below hb2; have R2 := R1.below hb2; have y29 : w2.cell? ⟨p, 29, none⟩ = some (.bool a.hit) := t2.blk.cell 29; have yf29 := t2.blk.free 29; have y30 : w2.cell? ⟨p, 30, none⟩ = some (.int .i64 a.o.c) := t2.blk.cell 30; have yf30 := t2.blk.free 30; have y31 : w2.cell? ⟨p, 31, none⟩ = some (.int .i64 a.o.v.k) := t2.blk.cell 31; have yf31 := t2.blk.free 31; have y32 : w2.cell? ⟨p, 32, none⟩ = some (.int .i64 a.o.v.n) := t2.blk.cell 32; have yf32 := t2.blk.free 32; have y33 : w2.cell? ⟨p, 33, none⟩ = some (.bool a.o.y) := t2.blk.cell 33; have yf33 := t2.blk.free 33))
  have K3 : Kept [p] w2 _ := (Kept.one w2 p 29 (.bool x'.hit)).tr (kept4o (w2.setCell ⟨p, 29, none⟩ (.bool x'.hit)) p x'.o)
  have B3 := (t2.blk.s_hit x'.hit).s_o x'.o
  exact k.out _ _ ⟨rfl, v', t2.kept K3 B3, oth_rep t2.blk (Oth.kept K3) R2⟩
end
end Go.Proofs.YtpcoldpphihfmaaGreatDoor
namespace Go.Proofs.YtpcoldpphihfmaaGreatDoor
set_option linter.unusedVariables false
set_option linter.unusedSimpArgs false
set_option maxRecDepth 100000
open Go.ChangeShapes Go.WideShapes Go.RowKit
open H.Plain (hw pS pC pN pM pG pT pL mv)
section
variable {ow : Bool} {w0 w w' : World} {b y p : Nat} {s1 s2 : St} {N : Nat} {a : Ax} {x : Sx} {r : Rq} {lo fx : Bool}
set_option maxHeartbeats 4000000
theorem d1 (h : TwoT ow w0 w b y s1 s2 N) (B : Blk w0 w p 114 a.cells) (hN : N + 5 < 1000000) (hpc : a.pc = 1) (hit : a.hit = false) (I : a.On ⟨r, lo, fx⟩) (ok : r.Ok) :
  Calls Tryz.prog 49 #[pt p, pt b] w fun e w' => Lf ow w0 w b y p ((Cw.hd ⟨r, lo, fx⟩).mem s1) s2 (N + 1) ((Cw.hd ⟨r, lo, fx⟩).next s1) e w' := by
 have c12 : w.cell? ⟨p, 12, none⟩ = some (.int .i64 1) := hpc ▸ B.cell 12
 refine viaQ fun Q k => ?_
 go_enter Tryz.func49, Tryz.ntmps49
 go_wp2_with (go_at_call 72; refine (mHd h B hN hit I ok).mono ?_; rintro e w2 ⟨rfl, a', t', I'⟩)
 exact k.out _ _ ⟨rfl, a', t', I'⟩
theorem d2 (h : TwoT ow w0 w b y s1 s2 N) (B : Blk w0 w p 114 a.cells) (hN : N + 5 < 1000000) (hpc : a.pc = 2) {wd : Int} (Bw : Bh w0) (hit : a.hit = false) (I : a.On ⟨r, lo, fx⟩) (ok : r.Ok) (hw : a.wd = wd) (hwd : In12 wd) :
  Calls Tryz.prog 49 #[pt p, pt b] w fun e w' => Lf ow w0 w b y p ((Cw.a2 ⟨r, lo, fx⟩ wd).mem s1) s2 (N + 1) ((Cw.a2 ⟨r, lo, fx⟩ wd).next s1) e w' := by
 have i1 : a.r = r := I.r
 subst i1
 have i2 : a.cl = !lo := I.cl
 have i3 : a.h = hwC fx := I.h
 have i4 := I.o
 clear I
 refine viaQ fun Q k => ?_
 have t0 := To.refl h B
 have c12 : w.cell? ⟨p, 12, none⟩ = some (.int .i64 2) := hpc ▸ B.cell 12
 subst hw
 obtain ⟨pp, hpp⟩ : ∃ q, pairP a.wd a.r.fd = q := ⟨_, rfl⟩
 have hpr : 0 ≤ pp ∧ pp < 16384 := by rw [← hpp]; unfold pairP; obtain ⟨_, _, _, f0, f1⟩ := ok; obtain ⟨w0', w1'⟩ := hwd; omega
 obtain ⟨g, hg⟩ : ∃ g, s1.got pp = g := ⟨_, rfl⟩
 have hG : U64 g := hg ▸ h.rng1.got _
 go_enter Tryz.func49, Tryz.ntmps49
 go_wp2_with (first
  | (go_at_call 74; refine (cPairAt B hwd.1 hwd.2 ok.2.2.2.1 ok.2.2.2.2 hpp).mono ?_; rintro e w2 ⟨rfl, hb2⟩; have t2 := t0.below hb2)
  | (go_at_call 34; refine (tLoad t2.two (by omega) pp).mono ?_; rintro e w3 ⟨rfl, h3, o3⟩; rw [hg]; have t3 := t2.oth0 h3 o3; clear h3 o3)
  | (go_at_call 73; refine (cGoBy t3.two t3.blk Bw hG (by_pc ⟨a.r, lo, fx⟩ a.wd g).symm).mono ?_; rintro e w4 ⟨rfl, t4⟩; have t5 := t3.tr t4))
 refine k.out _ _ ?_
 have en : (Cw.a2 ⟨a.r, lo, fx⟩ a.wd).next s1 = Cw.by_ ⟨a.r, lo, fx⟩ a.wd g := by simp only [Cw.next, Cw.pa, hpp, hg]
 have em : (Cw.a2 ⟨a.r, lo, fx⟩ a.wd).mem s1 = s1.load pp := by simp only [Cw.mem, Cw.pa, Cw.fa, hpp]
 unfold Lf
 rw [en, em]
 exact ⟨rfl, _, t5, as_by ⟨rfl, i2, i3, i4⟩ rfl rfl hit⟩
theorem d3 (h : TwoT ow w0 w b y s1 s2 N) (B : Blk w0 w p 114 a.cells) (hN : N + 5 < 1000000) (hpc : a.pc = 3) {wd : Int} (I : a.On ⟨r, lo, fx⟩) (ok : r.Ok) (hw : a.wd = wd) :
  Calls Tryz.prog 49 #[pt p, pt b] w fun e w' => Lf ow w0 w b y p ((Cw.a3 ⟨r, lo, fx⟩ wd).mem s1) s2 (N + 1) ((Cw.a3 ⟨r, lo, fx⟩ wd).next s1) e w' := by
 have c12 : w.cell? ⟨p, 12, none⟩ = some (.int .i64 3) := hpc ▸ B.cell 12
 refine viaQ fun Q k => ?_
 go_enter Tryz.func49, Tryz.ntmps49
 go_wp2_with (go_at_call 75; refine (mRo h B hN I ok hw).mono ?_; rintro e w2 ⟨rfl, a', t', I'⟩)
 exact k.out _ _ ⟨rfl, a', t', I'⟩
theorem d4 (h : TwoT ow w0 w b y s1 s2 N) (B : Blk w0 w p 114 a.cells) (hN : N + 5 < 1000000) (hpc : a.pc = 4) {wd z : Int} (hit : a.hit = false) (I : a.On ⟨r, lo, fx⟩) (ok : r.Ok) (hw : a.wd = wd) (hz : a.z = z) (hU : U64 z) :
  Calls Tryz.prog 49 #[pt p, pt b] w fun e w' => Lf ow w0 w b y p ((Cw.a4 ⟨r, lo, fx⟩ wd z).mem s1) s2 (N + 1) ((Cw.a4 ⟨r, lo, fx⟩ wd z).next s1) e w' := by
 have c12 : w.cell? ⟨p, 12, none⟩ = some (.int .i64 4) := hpc ▸ B.cell 12
 refine viaQ fun Q k => ?_
 go_enter Tryz.func49, Tryz.ntmps49
 go_wp2_with (go_at_call 76; refine (mSo h B hN hit I ok hw hz hU).mono ?_; rintro e w2 ⟨rfl, a', t', I'⟩)
 exact k.out _ _ ⟨rfl, a', t', I'⟩
theorem d5 (h : TwoT ow w0 w b y s1 s2 N) (B : Blk w0 w p 114 a.cells) (hN : N + 5 < 1000000) (hpc : a.pc = 5) {wd z : Int} (hit : a.hit = false) (I : a.On ⟨r, lo, fx⟩) (ok : r.Ok) (hw : a.wd = wd) (hz : a.z = z) (hwd : In12 wd) (hU : U64 z) :
  Calls Tryz.prog 49 #[pt p, pt b] w fun e w' => Lf ow w0 w b y p ((Cw.a5 ⟨r, lo, fx⟩ wd z).mem s1) s2 (N + 1) ((Cw.a5 ⟨r, lo, fx⟩ wd z).next s1) e w' := by
 have i1 : a.r = r := I.r
 subst i1
 have i2 : a.cl = !lo := I.cl
 have i3 : a.h = hwC fx := I.h
 have i4 := I.o
 clear I
 refine viaQ fun Q k => ?_
 have t0 := To.refl h B
 have c12 : w.cell? ⟨p, 12, none⟩ = some (.int .i64 5) := hpc ▸ B.cell 12
 subst hw hz
 obtain ⟨pp, hpp⟩ : ∃ q, pairP a.wd a.r.fd = q := ⟨_, rfl⟩
 have hpr : 0 ≤ pp ∧ pp < 16384 := by rw [← hpp]; unfold pairP; obtain ⟨_, _, _, f0, f1⟩ := ok; obtain ⟨w0', w1'⟩ := hwd; omega
 go_enter Tryz.func49, Tryz.ntmps49
 go_upto_region 12 with (fail)
 clear c12
 have hbd : Below w.heap.size w w.drew := (Below.refl _ _).drew
 have t1 := t0.below hbd
 refine wp_region_noPanic ?_
 refine wp_region_held_drew (S := fun w' => w'.cell? ⟨p, 16, none⟩ = some (.int .u64 a.z)) (by kernel_rfl) (t1.blk.cell 16) (fun hHeld => ?_)
 refine tkH (i := 0) 41 (pt b) rfl rfl ?_
 simp only [sA1, sA2, sA3]
 refine tkH (i := 1) 42 (pt p) rfl rfl ?_
 simp only [sA1, sA2, sA3]
 refine tkH (i := 3) 44 (pt p) rfl rfl ?_
 simp only [sA1, sA2, sA3]
 refine tkH (i := 4) 45 (pt p) rfl rfl ?_
 simp only [sA1, sA2, sA3]
 refine tkH (i := 5) 46 (.pointer (some ⟨p, 15, none⟩)) rfl rfl ?_
 simp only [sA1, sA2, sA3]
 refine tkH (i := 6) 47 (.pointer (some ⟨p, 16, none⟩)) rfl rfl ?_
 simp only [sA1, sA2, sA3]
 refine tkH (i := 7) 48 (.int .u64 a.z) rfl rfl ?_
 simp only [sA1, sA2, sA3]
 refine rd1 2 rfl fun K hK => ?_
 go_simp
 refine (cPairAt t1.blk hwd.1 hwd.2 ok.2.2.2.1 ok.2.2.2.2 hpp).mono ?_
 rintro e w2 ⟨rfl, hb2⟩
 have t2 := t1.below hb2
 refine hK.out _ _ (t2.blk.cell 16) (fun hHeld => ?_)
 clear hK K
 try simp only [Act.put, sA1, sA2, sA3]
 refine rd1 8 rfl fun K hK => ?_
 go_simp
 refine (F.cThaw a.z hU.1 hU.2 _).mono ?_
 rintro e wx ⟨rfl, hwx⟩
 rw [hwx]
 clear hwx wx
 refine hK.out _ _ (t2.blk.cell 16) (fun hHeld => ?_)
 clear hK K
 try simp only [Act.put, sA1, sA2, sA3]
 refine rd1 9 rfl fun K hK => ?_
 go_simp
 refine (tCAS2 t2.two (by omega) pp 0 0 u64_lit2.2.1 (u64_th hU)).mono ?_
 rintro e w4 ⟨rfl, h4, o4⟩
 have t4 := t2.oth0 h4 o4
 clear h4 o4
 refine hK.out _ _ (t4.blk.cell 16) (fun hHeld => ?_)
 clear hK K
 try simp only [Act.put, sA1, sA2, sA3]
 refine wpAnyH_done (by kernel_rfl) ?_ _
 refine NoPanic.normal ?_
 go_wp2
 refine k.out _ _ ?_
 have en : (Cw.a5 ⟨a.r, lo, fx⟩ a.wd a.z).next s1 = .a2 ⟨a.r, lo, fx⟩ a.wd := rfl
 have em : (Cw.a5 ⟨a.r, lo, fx⟩ a.wd a.z).mem s1 = s1.cas2 pp 0 0 1 (F.Plain.th a.z) := by simp only [Cw.mem, Cw.pa, Cw.fa, hpp]
 unfold Lf
 rw [en, em]
 exact ⟨rfl, _, t4, hit, ⟨rfl, i2, i3, i4⟩, rfl⟩
theorem d6 (h : TwoT ow w0 w b y s1 s2 N) (B : Blk w0 w p 114 a.cells) (hN : N + 5 < 1000000) (hpc : a.pc = 6) {wd st : Int} (I : a.On ⟨r, lo, fx⟩) (ok : r.Ok) (hw : a.wd = wd) (hz0 : a.z0 = st) (hwd : In12 wd) (hst : st = 1) :
  Calls Tryz.prog 49 #[pt p, pt b] w fun e w' => Lf ow w0 w b y p ((Cw.a6 ⟨r, lo, fx⟩ wd st).mem s1) s2 (N + 1) ((Cw.a6 ⟨r, lo, fx⟩ wd st).next s1) e w' := by
 have c12 : w.cell? ⟨p, 12, none⟩ = some (.int .i64 6) := hpc ▸ B.cell 12
 subst hst
 refine viaQ fun Q k => ?_
 go_enter Tryz.func49, Tryz.ntmps49
 go_wp2_with (go_at_call 78; refine (mRp h B hN I ok hw hz0 hwd (.inl ⟨rfl, rfl⟩)).mono ?_; rintro e w2 ⟨rfl, a', t', I'⟩)
 exact k.out _ _ ⟨rfl, a', t', I'⟩
theorem d8 (h : TwoT ow w0 w b y s1 s2 N) (B : Blk w0 w p 114 a.cells) (hN : N + 5 < 1000000) (hpc : a.pc = 8) {wd st : Int} (I : a.On ⟨r, lo, fx⟩) (ok : r.Ok) (hw : a.wd = wd) (hz0 : a.z0 = st) (hwd : In12 wd) (hst : st = 2) :
  Calls Tryz.prog 49 #[pt p, pt b] w fun e w' => Lf ow w0 w b y p ((Cw.a6 ⟨r, lo, fx⟩ wd st).mem s1) s2 (N + 1) ((Cw.a6 ⟨r, lo, fx⟩ wd st).next s1) e w' := by
 have c12 : w.cell? ⟨p, 12, none⟩ = some (.int .i64 8) := hpc ▸ B.cell 12
 subst hst
 refine viaQ fun Q k => ?_
 go_enter Tryz.func49, Tryz.ntmps49
 go_wp2_with (go_at_call 78; refine (mRp h B hN I ok hw hz0 hwd (.inr ⟨rfl, rfl⟩)).mono ?_; rintro e w2 ⟨rfl, a', t', I'⟩)
 exact k.out _ _ ⟨rfl, a', t', I'⟩
theorem d7 (h : TwoT ow w0 w b y s1 s2 N) (B : Blk w0 w p 114 a.cells) (hN : N + 5 < 1000000) (hpc : a.pc = 7) {wd st z : Int} (Bw : Bh w0) (hit : a.hit = false) (I : a.On ⟨r, lo, fx⟩) (ok : r.Ok) (hw : a.wd = wd) (hz0 : a.z0 = st) (hz : a.z = z) (hwd : In12 wd) (hU : U64 z) (h2 : r.op ≠ 2) :
  Calls Tryz.prog 49 #[pt p, pt b] w fun e w' => Lf ow w0 w b y p ((Cw.a7 ⟨r, lo, fx⟩ wd st z).mem s1) s2 (N + 1) ((Cw.a7 ⟨r, lo, fx⟩ wd st z).next s1) e w' := by
 have c12 : w.cell? ⟨p, 12, none⟩ = some (.int .i64 7) := hpc ▸ B.cell 12
 refine viaQ fun Q k => ?_
 go_enter Tryz.func49, Tryz.ntmps49
 go_wp2_with (go_at_call 79; refine (mRa h B hN Bw hit I ok hw hz0 hz hwd hU h2).mono ?_; rintro e w2 ⟨rfl, a', t', I'⟩)
 exact k.out _ _ ⟨rfl, a', t', I'⟩
theorem d9 (h : TwoT ow w0 w b y s1 s2 N) (B : Blk w0 w p 114 a.cells) (hN : N + 5 < 1000000) (hpc : a.pc = 9) {wd z : Int} (hit : a.hit = false) (I : a.On ⟨r, lo, fx⟩) (ok : r.Ok) (hw : a.wd = wd) (hz0 : a.z0 = 1) (hz : a.z = z) (hwd : In12 wd) (hU : U64 z) :
  Calls Tryz.prog 49 #[pt p, pt b] w fun e w' => Lf ow w0 w b y p ((Cw.a9 ⟨r, lo, fx⟩ wd z).mem s1) s2 (N + 1) ((Cw.a9 ⟨r, lo, fx⟩ wd z).next s1) e w' := by
 have c12 : w.cell? ⟨p, 12, none⟩ = some (.int .i64 9) := hpc ▸ B.cell 12
 refine viaQ fun Q k => ?_
 go_enter Tryz.func49, Tryz.ntmps49
 go_wp2_with (go_at_call 80; refine (mSp h B hN hit I ok hw hz0 hz hwd hU).mono ?_; rintro e w2 ⟨rfl, a', t', I'⟩)
 exact k.out _ _ ⟨rfl, a', t', I'⟩
theorem d11 (h : TwoT ow w0 w b y s1 s2 N) (B : Blk w0 w p 114 a.cells) (hN : N + 5 < 1000000) (hpc : a.pc = 11) {wd : Int} (hit : a.hit = false) (I : a.On ⟨r, lo, fx⟩) (ok : r.Ok) (hw : a.wd = wd) :
  Calls Tryz.prog 49 #[pt p, pt b] w fun e w' => Lf ow w0 w b y p ((Cw.a11 ⟨r, lo, fx⟩ wd).mem s1) s2 (N + 1) ((Cw.a11 ⟨r, lo, fx⟩ wd).next s1) e w' := by
 have i1 : a.r = r := I.r
 subst i1
 have i2 : a.cl = !lo := I.cl
 have i3 : a.h = hwC fx := I.h
 have i4 := I.o
 clear I
 refine viaQ fun Q k => ?_
 have t0 := To.refl h B
 have c12 : w.cell? ⟨p, 12, none⟩ = some (.int .i64 11) := hpc ▸ B.cell 12
 subst hw
 obtain ⟨g, hg⟩ : ∃ g, pL (s1.got a.wd) = g := ⟨_, rfl⟩
 have l0 : In12 g := hg ▸ in12_pL _
 go_enter Tryz.func49, Tryz.ntmps49
 go_wp2_with (first
  | (go_at_call 82; refine (cReadLink h B (by omega) (wd := a.wd) rfl hg).mono ?_; rintro e w2 ⟨rfl, t2⟩)
  | (go_at_call 81; refine (cEnter t2.blk ok.1 ok.2.2.2.1 ok.2.2.2.2 l0.1 l0.2).mono ?_; rintro e w8 ⟨rfl, K8, vd, b8, R8⟩))
 refine k.out _ _ ?_
 have en : (Cw.a11 ⟨a.r, lo, fx⟩ a.wd).next s1 = Cw.go false ⟨a.r, lo, fx⟩ g := by simp only [Cw.next, hg]
 unfold Lf
 rw [en]
 exact ⟨rfl, _, t2.kept K8 b8, hit, i4, (by rw [i3]; try rfl), (by rw [i3] at R8; exact R8)⟩
theorem d12 (h : TwoT ow w0 w b y s1 s2 N) (B : Blk w0 w p 114 a.cells) (hN : N + 5 < 1000000) (hpc : a.pc = 12) {wd z : Int} (hit : a.hit = false) (I : a.On ⟨r, lo, fx⟩) (ok : r.Ok) (hw : a.wd = wd) (hz0 : a.z0 = 2) (hz : a.z = z) :
  Calls Tryz.prog 49 #[pt p, pt b] w fun e w' => Lf ow w0 w b y p ((Cw.a12 ⟨r, lo, fx⟩ wd z).mem s1) s2 (N + 1) ((Cw.a12 ⟨r, lo, fx⟩ wd z).next s1) e w' := by
 have i1 : a.r = r := I.r
 subst i1
 have i2 : a.cl = !lo := I.cl
 have i3 : a.h = hwC fx := I.h
 have i4 := I.o
 clear I
 refine viaQ fun Q k => ?_
 have t0 := To.refl h B
 have c12 : w.cell? ⟨p, 12, none⟩ = some (.int .i64 12) := hpc ▸ B.cell 12
 subst hw hz
 obtain ⟨g, hg⟩ : ∃ g, pL (s1.got a.wd) = g := ⟨_, rfl⟩
 go_enter Tryz.func49, Tryz.ntmps49
 go_wp2_with (go_at_call 82; refine (cReadLink h B (by omega) (wd := a.wd) rfl hg).mono ?_; rintro e w2 ⟨rfl, t2⟩; have c14 : w2.cell? ⟨p, 14, none⟩ = some (.int .i64 a.l) := t2.blk.cell 14; have f14 := t2.blk.free 14)
 refine k.out _ _ ?_
 have en : (Cw.a12 ⟨a.r, lo, fx⟩ a.wd a.z).next s1 = .a13 ⟨a.r, lo, fx⟩ a.wd a.z g := by simp only [Cw.next, hg]
 unfold Lf
 rw [en]
 exact ⟨rfl, _, t2.kept (Kept.one w2 p 14 _) (t2.blk.s_l g), hit, ⟨rfl, i2, i3, i4⟩, rfl, hz0, rfl, rfl⟩
theorem d13 (h : TwoT ow w0 w b y s1 s2 N) (B : Blk w0 w p 114 a.cells) (hN : N + 5 < 1000000) (hpc : a.pc = 13) {wd z l : Int} (hit : a.hit = false) (I : a.On ⟨r, lo, fx⟩) (ok : r.Ok) (hw : a.wd = wd) (hz0 : a.z0 = 2) (hz : a.z = z) (hl : a.l = l) (hli : In12 l) (hU : U64 z) :
  Calls Tryz.prog 49 #[pt p, pt b] w fun e w' => Lf ow w0 w b y p ((Cw.a13 ⟨r, lo, fx⟩ wd z l).mem s1) s2 (N + 1) ((Cw.a13 ⟨r, lo, fx⟩ wd z l).next s1) e w' := by
 have i1 : a.r = r := I.r
 subst i1
 have i2 : a.cl = !lo := I.cl
 have i3 : a.h = hwC fx := I.h
 have i4 := I.o
 clear I
 refine viaQ fun Q k => ?_
 have t0 := To.refl h B
 have c12 : w.cell? ⟨p, 12, none⟩ = some (.int .i64 13) := hpc ▸ B.cell 12
 subst hw hz hl
 obtain ⟨l2, hl2⟩ : ∃ q, a.l + 1 + a.r.fd = q := ⟨_, rfl⟩
 have i5 : IntKind.i64.wrap (a.l + 1) = a.l + 1 := by rw [IntKind.wrap_i64]; have := hli.1; have := hli.2; omega
 have i7 : IntKind.i64.wrap l2 = l2 := by rw [IntKind.wrap_i64]; have := hli.1; have := hli.2; have := ok.2.2.2.1; have := ok.2.2.2.2; omega
 have i6 : IntKind.i64.wrap (a.l + 1 + a.r.fd) = l2 := by rw [IntKind.wrap_i64]; have := hli.1; have := hli.2; have := ok.2.2.2.1; have := ok.2.2.2.2; omega
 go_enter Tryz.func49, Tryz.ntmps49
 go_upto_region 28 with (fail)
 clear c12
 have hbd : Below w.heap.size w w.drew := (Below.refl _ _).drew
 have t1 := t0.below hbd
 refine wp_region_noPanic ?_
 refine wp_region_held_drew (S := fun w' => w'.cell? ⟨p, 14, none⟩ = some (.int .i64 a.l) ∧ w'.cell? ⟨p, 2, none⟩ = some (.int .i64 a.r.fd) ∧ w'.cell? ⟨p, 16, none⟩ = some (.int .u64 a.z)) (by kernel_rfl) ⟨t1.blk.cell 14, t1.blk.cell 2, t1.blk.cell 16⟩ (fun hHeld => ?_)
 refine tkH (i := 0) 88 (pt b) rfl rfl ?_
 simp only [sA1, sA2, sA3]
 refine tkH (i := 1) 89 (pt p) rfl rfl ?_
 simp only [sA1, sA2, sA3]
 refine tkH (i := 2) 90 (pt p) rfl rfl ?_
 simp only [sA1, sA2, sA3]
 refine tkH (i := 3) 91 (.pointer (some ⟨p, 14, none⟩)) rfl rfl ?_
 simp only [sA1, sA2, sA3]
 refine tkH (i := 4) 92 (.int .i64 a.l) rfl rfl ?_
 simp only [sA1, sA2, sA3]
 refine tkH (i := 5) 93 (.int .i64 (a.l + 1)) rfl rfl ?_
 simp only [sA1, sA2, sA3]
 refine tkH (i := 6) 94 (pt p) rfl rfl ?_
 simp only [sA1, sA2, sA3]
 refine tkH (i := 7) 95 (pt p) rfl rfl ?_
 simp only [sA1, sA2, sA3]
 refine tkH (i := 8) 96 (.pointer (some ⟨p, 0, none⟩)) rfl rfl ?_
 simp only [sA1, sA2, sA3]
 refine tkH (i := 9) 97 (.pointer (some ⟨p, 2, none⟩)) rfl rfl ?_
 simp only [sA1, sA2, sA3]
 refine tkH (i := 10) 98 (.int .i64 a.r.fd) rfl rfl ?_
 simp only [sA1, sA2, sA3]
 refine tkH (i := 11) 99 (.int .i64 l2) rfl rfl ?_
 simp only [sA1, sA2, sA3]
 refine tkH (i := 12) 100 (.agg #[.int .i64 2, .int .i64 0]) rfl rfl ?_
 simp only [sA1, sA2, sA3]
 refine tkH (i := 14) 102 (pt p) rfl rfl ?_
 simp only [sA1, sA2, sA3]
 refine tkH (i := 15) 103 (pt p) rfl rfl ?_
 simp only [sA1, sA2, sA3]
 refine tkH (i := 16) 104 (.pointer (some ⟨p, 15, none⟩)) rfl rfl ?_
 simp only [sA1, sA2, sA3]
 refine tkH (i := 17) 105 (.pointer (some ⟨p, 16, none⟩)) rfl rfl ?_
 simp only [sA1, sA2, sA3]
 refine tkH (i := 18) 106 (.int .u64 a.z) rfl rfl ?_
 simp only [sA1, sA2, sA3]
 refine rd1 13 rfl fun K hK => ?_
 go_simp
 refine (F.cWord 2 0 _).mono ?_
 rintro e w3 ⟨rfl, hw3⟩
 rw [show F.Plain.word 2 0 = 2 by decide]
 have hb3 : Below w.drew.heap.size w.drew w3 := (by rw [hw3]; exact (Below.refl _ _).alloc (Nat.le_refl _) _)
 have t3 := t1.below hb3
 clear hw3
 refine hK.out _ _ ⟨t3.blk.cell 14, t3.blk.cell 2, t3.blk.cell 16⟩ (fun hHeld => ?_)
 clear hK K
 try simp only [Act.put, sA1, sA2, sA3]
 refine rd1 19 rfl fun K hK => ?_
 go_simp
 refine (tCAS t3.two (by omega) l2 2 hU).mono ?_
 rintro e w4 ⟨rfl, h4, o4⟩
 have t4 := t3.oth0 h4 o4
 clear h4 o4
 refine hK.out _ _ ⟨t4.blk.cell 14, t4.blk.cell 2, t4.blk.cell 16⟩ (fun hHeld => ?_)
 clear hK K
 try simp only [Act.put, sA1, sA2, sA3]
 refine wpAnyH_done (by kernel_rfl) ?_ _
 refine NoPanic.normal ?_
 go_wp2
 refine k.out _ _ ?_
 have em : (Cw.a13 ⟨a.r, lo, fx⟩ a.wd a.z a.l).mem s1 = s1.cas l2 2 a.z := by simp only [Cw.mem, hl2, empW]
 unfold Lf
 rw [em]
 exact ⟨rfl, _, t4, hit, ⟨rfl, i2, i3, i4⟩, rfl, hz0, rfl⟩
theorem d14 (h : TwoT ow w0 w b y s1 s2 N) (B : Blk w0 w p 114 a.cells) (hN : N + 5 < 1000000) (hpc : a.pc = 14) {wd z : Int} (hit : a.hit = false) (I : a.On ⟨r, lo, fx⟩) (ok : r.Ok) (hw : a.wd = wd) (hz0 : a.z0 = 2) (hz : a.z = z) (hwd : In12 wd) (hU : U64 z) :
  Calls Tryz.prog 49 #[pt p, pt b] w fun e w' => Lf ow w0 w b y p ((Cw.a14 ⟨r, lo, fx⟩ wd z).mem s1) s2 (N + 1) ((Cw.a14 ⟨r, lo, fx⟩ wd z).next s1) e w' := by
 have i1 : a.r = r := I.r
 subst i1
 have i2 : a.cl = !lo := I.cl
 have i3 : a.h = hwC fx := I.h
 have i4 := I.o
 clear I
 refine viaQ fun Q k => ?_
 have t0 := To.refl h B
 have c12 : w.cell? ⟨p, 12, none⟩ = some (.int .i64 14) := hpc ▸ B.cell 12
 subst hw hz
 obtain ⟨pp, hpp⟩ : ∃ q, pairP a.wd a.r.fd = q := ⟨_, rfl⟩
 have hpr : 0 ≤ pp ∧ pp < 16384 := by rw [← hpp]; unfold pairP; obtain ⟨_, _, _, f0, f1⟩ := ok; obtain ⟨w0', w1'⟩ := hwd; omega
 have c16 : w.cell? ⟨p, 16, none⟩ = some (.int .u64 a.z) := B.cell 16
 obtain ⟨okb, hok⟩ : ∃ t, s1.ok2 pp 2 a.z = t := ⟨_, rfl⟩
 go_enter Tryz.func49, Tryz.ntmps49
 go_wp2_with (go_at_call 84; refine (cSwapPair h B (by omega) hwd.1 hwd.2 ok.2.2.2.1 ok.2.2.2.2 (n0 := 3) (n1 := a.z) (ok := okb) u64_lit2.2.2.1 hU hpp hz0 rfl hok).mono ?_; rintro e w4 ⟨rfl, t4⟩)
 refine k.out _ _ ?_
 have en : (Cw.a14 ⟨a.r, lo, fx⟩ a.wd a.z).next s1 = .a2 ⟨a.r, lo, fx⟩ a.wd := rfl
 have em : (Cw.a14 ⟨a.r, lo, fx⟩ a.wd a.z).mem s1 = s1.cas2 pp 2 a.z 3 a.z := by simp only [Cw.mem, Cw.pa, Cw.fa, hpp]
 unfold Lf
 rw [en, em]
 exact ⟨rfl, _, t4, hit, ⟨rfl, i2, i3, i4⟩, rfl⟩
theorem d15 {c : Bool} (h : TwoT ow w0 w b y s1 s2 N) (B : Blk w0 w p 114 a.cells) (hN : N + 5 < 1000000) (hpc : a.pc = 15) (hx : a.p = x) (R : RepO w x.k a.vp) (ok : x.Ok) :
  Calls Tryz.prog 49 #[pt p, pt b] w fun e w' => Lf ow w0 w b y p ((Cw.pl x).mem s1) s2 (N + 1) ((Cw.pl x).next s1) e w' := by
 have c12 : w.cell? ⟨p, 12, none⟩ = some (.int .i64 15) := hpc ▸ B.cell 12
 have en0 : (Cw.pl x).next s1 = Cw.onP (x.next s1) := rfl
 rw [en0]
 obtain ⟨x', hx'⟩ : ∃ x', x.next s1 = x' := ⟨_, rfl⟩
 obtain ⟨dn, hd⟩ : ∃ d, x'.done = d := ⟨_, rfl⟩
 rw [hx']
 have hz : x'.done = false → x'.o = Ou.zero := fun e => by
  have q := onot (s := s1) (x := x) (by rw [hx']; exact e)
  rw [hx'] at q
  exact q
 refine viaQ fun Q k => ?_
 rcases dn with _ | _
 ·go_enter Tryz.func49, Tryz.ntmps49
  go_wp2_with (go_at_call 85; refine (cFollowP h B hN hpc hx R ok hx' hd rfl).mono ?_; rintro e w2 ⟨rfl, v', t', R'⟩)
  refine k.out _ _ ?_
  unfold Lf Cw.onP
  rw [hd]
  exact ⟨rfl, _, t', rfl, hz hd, rfl, R'⟩
 ·go_enter Tryz.func49, Tryz.ntmps49
  go_wp2_with (go_at_call 85; refine (cFollowP h B hN hpc hx R ok hx' hd rfl).mono ?_; rintro e w2 ⟨rfl, v', t', R'⟩)
  refine k.out _ _ ?_
  unfold Lf Cw.onP
  rw [hd]
  exact ⟨rfl, _, t', rfl, rfl⟩
theorem d16 {c : Bool} (h : TwoT ow w0 w b y s1 s2 N) (B : Blk w0 w p 114 a.cells) (hN : N + 5 < 1000000) (hpc : a.pc = 16) (hx : a.d = x) (R : RepO w x.k a.vd) (ok : x.Ok) :
  Calls Tryz.prog 49 #[pt p, pt b] w fun e w' => Lf ow w0 w b y p ((Cw.dr c x).mem s1) s2 (N + 1) ((Cw.dr c x).next s1) e w' := by
 have c12 : w.cell? ⟨p, 12, none⟩ = some (.int .i64 16) := hpc ▸ B.cell 12
 have en0 : (Cw.dr c x).next s1 = Cw.onD (x.next s1) := rfl
 rw [en0]
 obtain ⟨x', hx'⟩ : ∃ x', x.next s1 = x' := ⟨_, rfl⟩
 obtain ⟨dn, hd⟩ : ∃ d, x'.done = d := ⟨_, rfl⟩
 rw [hx']
 have hz : x'.done = false → x'.o = Ou.zero := fun e => by
  have q := onot (s := s1) (x := x) (by rw [hx']; exact e)
  rw [hx'] at q
  exact q
 refine viaQ fun Q k => ?_
 rcases dn with _ | _
 ·go_enter Tryz.func49, Tryz.ntmps49
  go_wp2_with (go_at_call 85; refine (cFollowD h B hN hpc hx R ok hx' hd rfl).mono ?_; rintro e w2 ⟨rfl, v', t', R'⟩)
  refine k.out _ _ ?_
  unfold Lf Cw.onD
  rw [hd]
  exact ⟨rfl, _, t', rfl, hz hd, rfl, R'⟩
 ·go_enter Tryz.func49, Tryz.ntmps49
  go_wp2_with (go_at_call 85; refine (cFollowD h B hN hpc hx R ok hx' hd rfl).mono ?_; rintro e w2 ⟨rfl, v', t', R'⟩)
  refine k.out _ _ ?_
  unfold Lf Cw.onD
  rw [hd]
  exact ⟨rfl, _, t', rfl, rfl⟩
end
end Go.Proofs.YtpcoldpphihfmaaGreatDoor
namespace Go.Proofs.YtpcoldpphihfmaaGreatDoor
set_option linter.unusedVariables false
set_option linter.unusedSimpArgs false
set_option maxRecDepth 100000
open Go.ChangeShapes Go.WideShapes Go.RowKit
open H.Plain (hw pS pC pN pM pG pT pL mv)
theorem Ax.On.put {a : Ax} {q : Wq} (h : a.On q) (n : Int) : ({ a with pc := n } : Ax).On q := ⟨h.r, h.cl, h.h, h.o⟩
theorem Ax.As.put {w : World} {a : Ax} {x : Cw} (h : a.As w x) (n : Int) : ({ a with pc := n } : Ax).As w x := by
 cases x with
 | fin b o => exact h
 | pl x => exact h
 | dr b x => exact h
 | hd q => exact ⟨h.1, h.2.put n⟩
 | _ => exact ⟨h.1, h.2.1.put n, h.2.2⟩
theorem Ax.On.off {a : Ax} {q : Wq} (h : a.On q) : ({ a with hit := false } : Ax).On q := ⟨h.r, h.cl, h.h, h.o⟩
section
variable {ow : Bool} {w0 w w' : World} {b y p : Nat} {s1 s2 s' : St} {N : Nat} {a : Ax} {x' : Cw}
set_option maxHeartbeats 1000000
theorem sStep0 (B : Blk w0 w p 114 a.cells) (hpc : a.pc = 0) : Calls Tryz.prog 19 #[pt p, pt b] w fun e w' => e = .returned (.bool true) ∧ w' = w := by
 have c12 : w.cell? ⟨p, 12, none⟩ = some (.int .i64 0) := hpc ▸ B.cell 12
 go_enter Tryz.func19, Tryz.ntmps19
 go_wp2
 go_ret
 exact ⟨rfl, rfl⟩
theorem sStep (h : TwoT ow w0 w b y s1 s2 N) (B : Blk w0 w p 114 a.cells) (hpc : (a.pc != 0) = true)
  (hdo : ∀ w1, To ow w0 w w1 b y p s1 s2 N ({ a with hit := false } : Ax) → Calls Tryz.prog 49 #[pt p, pt b] w1 fun e w' => Lf ow w0 w1 b y p s' s2 (N + 1) x' e w') :
  Calls Tryz.prog 19 #[pt p, pt b] w fun e w' => e = .returned (.bool x'.done) ∧ ∃ a' : Ax, To ow w0 w w' b y p s' s2 (N + 1) a' ∧ a'.Is w' x' := by
 have c12 : w.cell? ⟨p, 12, none⟩ = some (.int .i64 a.pc) := B.cell 12
 have c29 : w.cell? ⟨p, 29, none⟩ = some (.bool a.hit) := B.cell 29
 have f29 := B.free 29
 have t1 : To ow w0 w (w.setCell ⟨p, 29, none⟩ (.bool false)) b y p s1 s2 N ({ a with hit := false } : Ax) := (To.refl h B).kept (Kept.one ..) (B.s_hit false)
 rw [← Cw.pc_done]
 obtain ⟨n, hn⟩ : ∃ n, x'.pc = n := ⟨_, rfl⟩
 rw [hn]
 refine viaQ fun Q k => ?_
 go_enter Tryz.func19, Tryz.ntmps19
 go_upto_region 3 with (fail)
 generalize w.setCell ⟨p, 29, none⟩ (.bool false) = w1 at t1 ⊢
 clear c12 c29 f29
 go_wp2_with (go_at_call 49; refine (hdo w1 t1).mono ?_; rintro e w2 ⟨rfl, a', t2, I2⟩; rw [hn]; have c12 : w2.cell? ⟨p, 12, none⟩ = some (.int .i64 a'.pc) := t2.blk.cell 12; have f12 := t2.blk.free 12)
 exact k.out _ _ ⟨rfl, _, (t1.tr t2).kept (Kept.one ..) (t2.blk.s_pc n), hn.symm, (I2.put n).oth (F := [p]) (Oth.kept (Kept.one ..)) fun q hq => by simp at hq; subst hq; exact ⟨_, _, _, t2.blk.at_, by decide⟩⟩
end
structure Cm (w0 w : World) (p : Nat) (x : Cw) : Prop where
 it : ∃ a : Ax, Blk w0 w p 114 a.cells ∧ a.Is w x
 ok : x.Ok
 bh : Bh w0
section
variable {ow : Bool} {w0 w w' : World} {b y p q : Nat} {s1 s2 : St} {N : Nat} {x : Cw} {T : TypeId} {cs : Array Value} {F : List Nat}
theorem Cm.oth (h : Cm w0 w p x) (o : Oth F w w') (hp : p ∉ F) (hF : ∀ q ∈ F, ∃ cs T fz, w.heap[q]? = some (.cells cs T fz) ∧ T ∉ BTs) : Cm w0 w' p x := by
 obtain ⟨⟨a, B, I⟩, ok, bh⟩ := h
 exact ⟨⟨a, B.oth o hp, I.1, I.2.oth o hF⟩, ok, bh⟩
theorem Cm.oth0 (h : Cm w0 w p x) (o : Oth [] w w') : Cm w0 w' p x := h.oth o (by simp) (by simp)
theorem Cm.oth1 (h : Cm w0 w p x) (o : Oth [q] w w') (hq : Blk w0 w q T cs) (hT : T ∉ BTs) (hp : p ≠ q) : Cm w0 w' p x := h.oth o (by simpa using hp) fun k hk => by simp at hk; subst hk; exact ⟨_, _, _, hq.at_, hT⟩
theorem Cm.below (h : Cm w0 w p x) (hb : Below w.heap.size w w') : Cm w0 w' p x := h.oth0 (Oth.below hb)
theorem Cm.blk (h : Cm w0 w p x) : ∃ cs, Blk w0 w p 114 cs := by obtain ⟨⟨a, B, I⟩, ok, bh⟩ := h; exact ⟨_, B⟩
theorem Cm.lt (h : Cm w0 w p x) : p < w.heap.size := by obtain ⟨cs, B⟩ := h.blk; exact B.lt
theorem tC (h : TwoT ow w0 w b y s1 s2 N) (m : Cm w0 w p x) (hN : N + 5 < 1000000) :
  Calls Tryz.prog 19 #[pt p, pt b] w fun e w' => e = .returned (.bool (x.next s1).done) ∧ TwoT ow w0 w' b y (x.mem s1) s2 (N + 1) ∧ Cm w0 w' p (x.next s1) ∧ Oth [p] w w' := by
 have hR := h.rng1
 obtain ⟨⟨a, B, I⟩, ok, bh⟩ := m
 have okn := ok.next hR
 have fin : ∀ {e : Ending} {w' : World}, (e = .returned (.bool (x.next s1).done) ∧ ∃ a' : Ax, To ow w0 w w' b y p (x.mem s1) s2 (N + 1) a' ∧ a'.Is w' (x.next s1)) → e = .returned (.bool (x.next s1).done) ∧ TwoT ow w0 w' b y (x.mem s1) s2 (N + 1) ∧ Cm w0 w' p (x.next s1) ∧ Oth [p] w w' := by
  rintro e w' ⟨rfl, a', t, I'⟩
  exact ⟨rfl, t.two, ⟨⟨a', t.blk, I'⟩, okn, bh⟩, t.oth⟩
 have ne : ∀ {n : Int}, a.pc = n → n ≠ 0 → (a.pc != 0) = true := fun h1 h2 => by rw [h1]; simpa using h2
 obtain ⟨I1, I2⟩ := I
 cases x with
 | fin c o =>
  refine (sStep0 B I1).mono ?_
  rintro e w' ⟨rfl, rfl⟩
  exact ⟨rfl, h.mono (by omega), ⟨⟨a, B, I1, I2⟩, ok, bh⟩, Oth.refl _ _⟩
 | hd q => exact (sStep h B (ne (n := 1) I1 (by decide)) fun w1 t1 => d1 t1.two t1.blk hN I1 rfl I2.2.off ok).mono fun _ _ => fin
 | a2 q wd => exact (sStep h B (ne (n := 2) I1 (by decide)) fun w1 t1 => d2 t1.two t1.blk hN I1 bh rfl I2.2.1.off ok.1 I2.2.2 ok.2).mono fun _ _ => fin
 | a3 q wd => exact (sStep h B (ne (n := 3) I1 (by decide)) fun w1 t1 => d3 t1.two t1.blk hN I1 I2.2.1.off ok.1 I2.2.2).mono fun _ _ => fin
 | a4 q wd z => exact (sStep h B (ne (n := 4) I1 (by decide)) fun w1 t1 => d4 t1.two t1.blk hN I1 rfl I2.2.1.off ok.1 I2.2.2.1 I2.2.2.2 ok.2.2.1).mono fun _ _ => fin
 | a5 q wd z => exact (sStep h B (ne (n := 5) I1 (by decide)) fun w1 t1 => d5 t1.two t1.blk hN I1 rfl I2.2.1.off ok.1 I2.2.2.1 I2.2.2.2 ok.2.1 ok.2.2).mono fun _ _ => fin
 | a6 q wd st =>
  obtain ⟨ok1, ok2, ok3⟩ := ok
  rcases ok3 with rfl | rfl
  ·exact (sStep h B (ne (show a.pc = 6 from I1) (by decide)) fun w1 t1 => d6 t1.two t1.blk hN (show a.pc = 6 from I1) I2.2.1.off ok1 I2.2.2.1 I2.2.2.2 ok2 rfl).mono fun _ _ => fin
  ·exact (sStep h B (ne (show a.pc = 8 from I1) (by decide)) fun w1 t1 => d8 t1.two t1.blk hN (show a.pc = 8 from I1) I2.2.1.off ok1 I2.2.2.1 I2.2.2.2 ok2 rfl).mono fun _ _ => fin
 | a7 q wd st z => exact (sStep h B (ne (n := 7) I1 (by decide)) fun w1 t1 => d7 t1.two t1.blk hN I1 bh rfl I2.2.1.off ok.1 I2.2.2.1 I2.2.2.2.1 I2.2.2.2.2 ok.2.1 ok.2.2.2.1 ok.2.2.2.2).mono fun _ _ => fin
 | a9 q wd z => exact (sStep h B (ne (n := 9) I1 (by decide)) fun w1 t1 => d9 t1.two t1.blk hN I1 rfl I2.2.1.off ok.1 I2.2.2.1 I2.2.2.2.1 I2.2.2.2.2 ok.2.1 ok.2.2.1).mono fun _ _ => fin
 | a11 q wd => exact (sStep h B (ne (n := 11) I1 (by decide)) fun w1 t1 => d11 t1.two t1.blk hN I1 rfl I2.2.1.off ok.1 I2.2.2).mono fun _ _ => fin
 | a12 q wd z => exact (sStep h B (ne (n := 12) I1 (by decide)) fun w1 t1 => d12 t1.two t1.blk hN I1 rfl I2.2.1.off ok.1 I2.2.2.1 I2.2.2.2.1 I2.2.2.2.2).mono fun _ _ => fin
 | a13 q wd z l => exact (sStep h B (ne (n := 13) I1 (by decide)) fun w1 t1 => d13 t1.two t1.blk hN I1 rfl I2.2.1.off ok.1 I2.2.2.1 I2.2.2.2.1 I2.2.2.2.2.1 I2.2.2.2.2.2 ok.2.2.2.1 ok.2.2.1).mono fun _ _ => fin
 | a14 q wd z => exact (sStep h B (ne (n := 14) I1 (by decide)) fun w1 t1 => d14 t1.two t1.blk hN I1 rfl I2.2.1.off ok.1 I2.2.2.1 I2.2.2.2.1 I2.2.2.2.2 ok.2.1 ok.2.2.1).mono fun _ _ => fin
 | pl x => exact (sStep h B (ne (n := 15) I1 (by decide)) fun w1 t1 => d15 (c := false) t1.two t1.blk hN I1 I2.2.2.1 (oth_rep B t1.oth I2.2.2.2) ok.1).mono fun _ _ => fin
 | dr c x => exact (sStep h B (ne (n := 16) I1 (by decide)) fun w1 t1 => d16 (c := c) t1.two t1.blk hN I1 I2.2.2.1 (oth_rep B t1.oth I2.2.2.2) ok.1).mono fun _ _ => fin
theorem cCHit (m : Cm w0 w p x) : Calls Tryz.prog 21 #[pt p] w fun e w' => e = .returned (.bool x.hit) ∧ w' = w := by
 obtain ⟨⟨a, B, I⟩, ok, bh⟩ := m
 rw [← I.2.1]
 have c1 : w.cell? ⟨p, 29, none⟩ = some (.bool a.hit) := B.cell 29
 go_enter Tryz.func21, Tryz.ntmps21
 go_wp2
 go_ret
 exact ⟨rfl, rfl⟩
theorem cCResult (m : Cm w0 w p x) : Calls Tryz.prog 22 #[pt p] w fun e w' => e = .returned x.o.val ∧ Below w.heap.size w w' := by
 obtain ⟨⟨a, B, I⟩, ok, bh⟩ := m
 rw [← I.2.out]
 have c2 : w.cell? ⟨p, 30, none⟩ = some (.int .i64 a.o.c) := B.cell 30
 have c3 : w.cell? ⟨p, 31, none⟩ = some (.int .i64 a.o.v.k) := B.cell 31
 have c4 : w.cell? ⟨p, 32, none⟩ = some (.int .i64 a.o.v.n) := B.cell 32
 have c5 : w.cell? ⟨p, 33, none⟩ = some (.bool a.o.y) := B.cell 33
 have l := B.lt
 go_enter Tryz.func22, Tryz.ntmps22
 go_wp2
 exact bodyPost_ret (v := a.o.val) (by simp [results, Tryz.results22, go_sem, Ou.val]) rfl ⟨rfl, by go_grown⟩
end
structure MadeC (w w' : World) (p : Nat) (x : Cw) : Prop where
 blk : ∃ a : Ax, w'.heap[p]? = some (.cells a.cells 114 (0, 0)) ∧ a.Is w' x
 bel : Below w.heap.size w w'
 new : w.heap.size ≤ p
theorem MadeC.cm {w0 w w' : World} {p : Nat} {x : Cw} (M : MadeC w w' p x) (hs : w0.heap.size ≤ w.heap.size) (ok : x.Ok) (bh : Bh w0) : Cm w0 w' p x := by
 obtain ⟨a, e, I⟩ := M.blk
 exact ⟨⟨a, ⟨e, Nat.le_trans hs M.new, by decide⟩, I⟩, ok, bh⟩
def Ax.zero (r : Rq) (cl : Bool) (h : Hw) (pc : Int) (p : Sx) (vp : Value) (o : Ou) : Ax := ⟨r, cl, h, pc, 0, 0, 0, 0, p, vp, ⟨none, false, Ou.zero⟩, .nilFunc, false, o⟩
section
set_option maxHeartbeats 2000000
theorem cNewC (r : Rq) (e : En) (w : World) :
  Calls Tryz.prog 15 #[.agg #[.int .i64 r.op, .int .i64 r.at_, .int .i64 r.fd, .int .i64 r.x.k, .int .i64 r.x.n, .int .i64 r.y.k, .int .i64 r.y.n], .agg #[.int .i64 e.md, .int .i64 e.mr, .int .i64 e.al]] w fun e' w' => ∃ p, e' = .returned (pt p) ∧ MadeC w w' p (Cw.new r e) := by
 unfold Cw.new
 by_cases h : r.at_ = 0
 ·rw [if_pos h]
  have q : (r.at_ == 0) = true := by simp [h]
  clear h
  go_enter Tryz.func15, Tryz.ntmps15
  go_wp2
  go_ret
  exact ⟨_, rfl, ⟨Ax.zero ⟨0, 0, 0, ⟨0, 0⟩, ⟨0, 0⟩⟩ false ⟨false, false, false, 0⟩ 0 ⟨none, false, Ou.zero⟩ .nilFunc ⟨14, Vl.zero, false⟩, by first | exact newAt (by simp) | exact newAt rfl, rfl, rfl, rfl⟩, by go_grown, by first | omega | (simp; omega) | simp⟩
 ·rw [if_neg h]
  have q : (r.at_ == 0) = false := by simpa using h
  by_cases h5 : e.md < 5
  ·rw [if_pos h5]
   have q2 : decide (e.md < 5) = true := by simpa using h5
   have hpl : Sx.plain r e = ⟨some (.plain r e), false, Ou.zero⟩ := by unfold Sx.plain; rw [if_neg h]
   clear h5 h
   go_enter Tryz.func15, Tryz.ntmps15
   go_wp2_with (go_at_call 46; refine (cNewPlain r e _).mono ?_; rintro e' w1 ⟨p1, rfl, M⟩; rw [hpl] at M; have hb : Below w.heap.size w w1 := bel_trans (by go_grown) M.bel; obtain ⟨v, eb, R⟩ := M.blk; obtain ⟨nf, cf, hv⟩ := Rep.fn R; rw [hv] at eb R; have x0 : w1.cell? ⟨p1, 0, none⟩ = some (.func (.func nf) #[] cf) := cell_of_row w1 _ _ _ _ _ eb; have x1 : w1.cell? ⟨p1, 1, none⟩ = some (.bool false) := cell_of_row w1 _ _ _ _ _ eb; have x2 : w1.cell? ⟨p1, 2, none⟩ = some (.int .i64 0) := cell_of_row w1 _ _ _ _ _ eb; have x3 : w1.cell? ⟨p1, 3, none⟩ = some (.int .i64 0) := cell_of_row w1 _ _ _ _ _ eb; have x4 : w1.cell? ⟨p1, 4, none⟩ = some (.int .i64 0) := cell_of_row w1 _ _ _ _ _ eb; have x5 : w1.cell? ⟨p1, 5, none⟩ = some (.bool false) := cell_of_row w1 _ _ _ _ _ eb; have hs1 := hb.size; clear M eb hv)
   go_ret
   rw [hpl]
   exact ⟨_, rfl, ⟨Ax.zero ⟨0, 0, 0, ⟨0, 0⟩, ⟨0, 0⟩⟩ false ⟨false, false, false, 0⟩ 15 ⟨some (.plain r e), false, Ou.zero⟩ (.func (.func nf) #[] cf) Ou.zero, by first | exact newAt (by simp) | exact newAt rfl, rfl, rfl, rfl, rfl, Rep.below R ((Below.refl _ _).alloc (Nat.le_refl _) _)⟩, hb.alloc hs1 _, by first | exact hs1 | omega | (simp; omega) | simp⟩
  ·rw [if_neg h5]
   have q2 : decide (e.md < 5) = false := by simpa using h5
   clear h5 h
   obtain ⟨fx, hfx⟩ : ∃ fx, (e.md == 8) = fx := ⟨_, rfl⟩
   obtain ⟨sh, hsh⟩ : ∃ sh, decide (7 ≤ e.md) = sh := ⟨_, rfl⟩
   have hlo : decide (e.md < 7) = !sh := by rw [← hsh]; by_cases hm : e.md < 7 <;> simp [hm] <;> omega
   rw [hfx, hlo]
   clear hlo
   go_enter Tryz.func15, Tryz.ntmps15
   go_wp2
   go_ret
   exact ⟨_, rfl, ⟨Ax.zero r sh (hwC fx) 1 ⟨none, false, Ou.zero⟩ .nilFunc Ou.zero, by first | exact newAt (by simp) | exact newAt rfl, rfl, rfl, rfl, by simp [Ax.zero], rfl, rfl⟩, by go_grown, by first | omega | (simp; omega) | simp⟩
end
end Go.Proofs.YtpcoldpphihfmaaGreatDoor
