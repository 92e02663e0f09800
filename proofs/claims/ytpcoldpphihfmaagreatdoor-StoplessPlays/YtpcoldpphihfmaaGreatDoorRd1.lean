import Derived.Test.YtpcoldpphihfmaaGreatDoorRe
namespace Go.Proofs.YtpcoldpphihfmaaGreatDoor
set_option linter.unusedVariables false
set_option linter.unusedSimpArgs false
set_option maxRecDepth 100000
open Go.ChangeShapes Go.WideShapes Go.RowKit
open H.Plain (hw pS pC pN pM pG pT pL mv)
set_option maxHeartbeats 4000000 in
theorem rd0 {w0 w : World} {b y p : Nat} {s1 s2 : St} {N : Nat} {d : RD} (h : Two w0 w b y s1 s2 N) (B : Blk w0 w p 129 d.cells) (hN : N + 5 < 1000000) (hpc : d.pc = 0) :
  Calls Tryz.prog 60 #[pt p, pt y] w fun e w' => e = .returned (.bool true) ∧ w' = w := by
 obtain ⟨f, r, ⟨hsh, hca, hfx, hmr⟩, pc, ww, a, xx, sh, ⟨oc, ov, oy⟩⟩ := d
 simp only [RD.cells] at B hpc ⊢
 subst hpc
 have c0 : w.cell? ⟨p, 0, none⟩ = some (.int .i64 f) := B.cell 0
 have c1 : w.cell? ⟨p, 1, none⟩ = some (.int .i64 r.op) := B.cell 1
 have c2 : w.cell? ⟨p, 2, none⟩ = some (.int .i64 r.at_) := B.cell 2
 have c3 : w.cell? ⟨p, 3, none⟩ = some (.int .i64 r.fd) := B.cell 3
 have c4 : w.cell? ⟨p, 4, none⟩ = some (.int .i64 r.x.k) := B.cell 4
 have c5 : w.cell? ⟨p, 5, none⟩ = some (.int .i64 r.x.n) := B.cell 5
 have c6 : w.cell? ⟨p, 6, none⟩ = some (.int .i64 r.y.k) := B.cell 6
 have c7 : w.cell? ⟨p, 7, none⟩ = some (.int .i64 r.y.n) := B.cell 7
 have c8 : w.cell? ⟨p, 8, none⟩ = some (.bool hsh) := B.cell 8
 have c9 : w.cell? ⟨p, 9, none⟩ = some (.bool hca) := B.cell 9
 have c10 : w.cell? ⟨p, 10, none⟩ = some (.bool hfx) := B.cell 10
 have c11 : w.cell? ⟨p, 11, none⟩ = some (.int .i64 hmr) := B.cell 11
 have c12 : w.cell? ⟨p, 12, none⟩ = some (.int .i64 0) := B.cell 12
 have c13 : w.cell? ⟨p, 13, none⟩ = some (.int .u64 ww) := B.cell 13
 have c14 : w.cell? ⟨p, 14, none⟩ = some (.int .i64 a) := B.cell 14
 have c15 : w.cell? ⟨p, 15, none⟩ = some (xx) := B.cell 15
 have c16 : w.cell? ⟨p, 16, none⟩ = some (.bool sh) := B.cell 16
 have c17 : w.cell? ⟨p, 17, none⟩ = some (.int .i64 oc) := B.cell 17
 have c18 : w.cell? ⟨p, 18, none⟩ = some (.int .i64 ov.k) := B.cell 18
 have c19 : w.cell? ⟨p, 19, none⟩ = some (.int .i64 ov.n) := B.cell 19
 have c20 : w.cell? ⟨p, 20, none⟩ = some (.bool oy) := B.cell 20
 have cl := B.lt
 have cz : ∀ i, w.frozen? ⟨p, i, none⟩ = false := fun i => B.free i
 go_enter Tryz.func60, Tryz.ntmps60
 go_wp2
 go_ret
 exact ⟨rfl, rfl⟩
set_option maxHeartbeats 4000000 in
theorem rd10 {w0 w : World} {b y p : Nat} {s1 s2 : St} {N : Nat} {d : RD} (h : Two w0 w b y s1 s2 N) (B : Blk w0 w p 129 d.cells) (hN : N + 5 < 1000000) (hpc : d.pc = 10) :
  Calls Tryz.prog 60 #[pt p, pt y] w fun e w' => e = .returned (.bool !(d.h.fx && (Vl.of (s2.got d.f)).far)) ∧ RdTo w0 w w' b y p s1 (s2.load d.f) N ⟨d.f, d.r, d.h, (if (d.h.fx && (Vl.of (s2.got d.f)).far) = true then 11 else 0), d.w, d.a, d.x, true, ⟨d.o.c, Vl.of (s2.got d.f), d.o.y⟩⟩ [p] := by
 obtain ⟨f, r, ⟨hsh, hca, hfx, hmr⟩, pc, ww, a, xx, sh, ⟨oc, ov, oy⟩⟩ := d
 simp only [RD.cells] at B hpc ⊢
 subst hpc
 obtain ⟨v, hv⟩ : ∃ v, s2.got f = v := ⟨_, rfl⟩
 have hU : U64 v := hv ▸ h.rng2.got f
 obtain ⟨u, hu⟩ : ∃ u, Vl.of v = u := ⟨_, rfl⟩
 have hk : F.Plain.kind v = u.k := congrArg Vl.k hu
 have hn : F.Plain.num v = u.n := congrArg Vl.n hu
 rw [hv, hu]
 obtain ⟨fr, hfr⟩ : ∃ fr, u.far = fr := ⟨_, rfl⟩
 rw [hfr]
 have c0 : w.cell? ⟨p, 0, none⟩ = some (.int .i64 f) := B.cell 0
 have c1 : w.cell? ⟨p, 1, none⟩ = some (.int .i64 r.op) := B.cell 1
 have c2 : w.cell? ⟨p, 2, none⟩ = some (.int .i64 r.at_) := B.cell 2
 have c3 : w.cell? ⟨p, 3, none⟩ = some (.int .i64 r.fd) := B.cell 3
 have c4 : w.cell? ⟨p, 4, none⟩ = some (.int .i64 r.x.k) := B.cell 4
 have c5 : w.cell? ⟨p, 5, none⟩ = some (.int .i64 r.x.n) := B.cell 5
 have c6 : w.cell? ⟨p, 6, none⟩ = some (.int .i64 r.y.k) := B.cell 6
 have c7 : w.cell? ⟨p, 7, none⟩ = some (.int .i64 r.y.n) := B.cell 7
 have c8 : w.cell? ⟨p, 8, none⟩ = some (.bool hsh) := B.cell 8
 have c9 : w.cell? ⟨p, 9, none⟩ = some (.bool hca) := B.cell 9
 have c10 : w.cell? ⟨p, 10, none⟩ = some (.bool hfx) := B.cell 10
 have c11 : w.cell? ⟨p, 11, none⟩ = some (.int .i64 hmr) := B.cell 11
 have c12 : w.cell? ⟨p, 12, none⟩ = some (.int .i64 10) := B.cell 12
 have c13 : w.cell? ⟨p, 13, none⟩ = some (.int .u64 ww) := B.cell 13
 have c14 : w.cell? ⟨p, 14, none⟩ = some (.int .i64 a) := B.cell 14
 have c15 : w.cell? ⟨p, 15, none⟩ = some (xx) := B.cell 15
 have c16 : w.cell? ⟨p, 16, none⟩ = some (.bool sh) := B.cell 16
 have c17 : w.cell? ⟨p, 17, none⟩ = some (.int .i64 oc) := B.cell 17
 have c18 : w.cell? ⟨p, 18, none⟩ = some (.int .i64 ov.k) := B.cell 18
 have c19 : w.cell? ⟨p, 19, none⟩ = some (.int .i64 ov.n) := B.cell 19
 have c20 : w.cell? ⟨p, 20, none⟩ = some (.bool oy) := B.cell 20
 have cl := B.lt
 have cz : ∀ i, w.frozen? ⟨p, i, none⟩ = false := fun i => B.free i
 go_enter Tryz.func60, Tryz.ntmps60
 go_upto_region 6 with (fail)
 clear c0 c1 c2 c3 c4 c5 c6 c7 c8 c9 c10 c11 c12 c13 c14 c15 c16 c17 c18 c19 c20 cl cz
 have B1 : Blk w0 (w.setCell ⟨p, 16, none⟩ (.bool false)) p 129 #[.int .i64 f, .int .i64 r.op, .int .i64 r.at_, .int .i64 r.fd, .int .i64 r.x.k, .int .i64 r.x.n, .int .i64 r.y.k, .int .i64 r.y.n, .bool hsh, .bool hca, .bool hfx, .int .i64 hmr, .int .i64 10, .int .u64 ww, .int .i64 a, xx, .bool false, .int .i64 oc, .int .i64 ov.k, .int .i64 ov.n, .bool oy] := B.set 16 (.bool false)
 have T1 := h.set B 16 (.bool false)
 have O1 : Oth [p] w (w.setCell ⟨p, 16, none⟩ (.bool false)) := Oth.set _ _ _ _ (by simp)
 generalize w.setCell ⟨p, 16, none⟩ (.bool false) = w1 at B1 T1 O1 ⊢
 have c0 : w1.cell? ⟨p, 0, none⟩ = some (.int .i64 f) := B1.cell 0
 have c1 : w1.cell? ⟨p, 1, none⟩ = some (.int .i64 r.op) := B1.cell 1
 have c2 : w1.cell? ⟨p, 2, none⟩ = some (.int .i64 r.at_) := B1.cell 2
 have c3 : w1.cell? ⟨p, 3, none⟩ = some (.int .i64 r.fd) := B1.cell 3
 have c4 : w1.cell? ⟨p, 4, none⟩ = some (.int .i64 r.x.k) := B1.cell 4
 have c5 : w1.cell? ⟨p, 5, none⟩ = some (.int .i64 r.x.n) := B1.cell 5
 have c6 : w1.cell? ⟨p, 6, none⟩ = some (.int .i64 r.y.k) := B1.cell 6
 have c7 : w1.cell? ⟨p, 7, none⟩ = some (.int .i64 r.y.n) := B1.cell 7
 have c8 : w1.cell? ⟨p, 8, none⟩ = some (.bool hsh) := B1.cell 8
 have c9 : w1.cell? ⟨p, 9, none⟩ = some (.bool hca) := B1.cell 9
 have c10 : w1.cell? ⟨p, 10, none⟩ = some (.bool hfx) := B1.cell 10
 have c11 : w1.cell? ⟨p, 11, none⟩ = some (.int .i64 hmr) := B1.cell 11
 have c12 : w1.cell? ⟨p, 12, none⟩ = some (.int .i64 10) := B1.cell 12
 have c13 : w1.cell? ⟨p, 13, none⟩ = some (.int .u64 ww) := B1.cell 13
 have c14 : w1.cell? ⟨p, 14, none⟩ = some (.int .i64 a) := B1.cell 14
 have c15 : w1.cell? ⟨p, 15, none⟩ = some (xx) := B1.cell 15
 have c16 : w1.cell? ⟨p, 16, none⟩ = some (.bool false) := B1.cell 16
 have c17 : w1.cell? ⟨p, 17, none⟩ = some (.int .i64 oc) := B1.cell 17
 have c18 : w1.cell? ⟨p, 18, none⟩ = some (.int .i64 ov.k) := B1.cell 18
 have c19 : w1.cell? ⟨p, 19, none⟩ = some (.int .i64 ov.n) := B1.cell 19
 have c20 : w1.cell? ⟨p, 20, none⟩ = some (.bool oy) := B1.cell 20
 have cl := B1.lt
 have cz : ∀ i, w1.frozen? ⟨p, i, none⟩ = false := fun i => B1.free i
 go_upto_region 7 with (first
  | (go_at_call 51; refine (yLoad T1 (by omega) f).mono ?_; rintro e w2 ⟨rfl, T2, o2⟩; rw [hv]; have B2 := B1.oth o2 (by simp); have O2 : Oth [p] w w2 := O1.trans (o2.mono (by simp)); clear o2)
  | (go_at_call 30; refine (F.rOf v hU.1 hU.2 _).mono ?_; rintro e w3 ⟨rfl, hw3⟩; rw [hk, hn] at hw3 ⊢; have hb3 : Below w2.heap.size w2 w3 := (by rw [hw3]; go_grown); have B3 := B2.below hb3; have T3 := T2.below hb3; have O3 : Oth [p] w w3 := O2.trans (Oth.below hb3); clear c18 c19 cz; have c18 : w3.cell? ⟨p, 18, none⟩ = some (.int .i64 ov.k) := B3.cell 18; have c19 : w3.cell? ⟨p, 19, none⟩ = some (.int .i64 ov.n) := B3.cell 19; have cz : ∀ i, w3.frozen? ⟨p, i, none⟩ = false := fun i => B3.free i; clear hw3 hb3))
 clear c0 c1 c2 c3 c4 c5 c6 c7 c8 c9 c10 c11 c12 c13 c14 c15 c16 c17 c18 c19 c20 cl cz
 have B4 : Blk w0 ((w3.setCell ⟨p, 18, none⟩ (.int .i64 u.k)).setCell ⟨p, 19, none⟩ (.int .i64 u.n)) p 129 #[.int .i64 f, .int .i64 r.op, .int .i64 r.at_, .int .i64 r.fd, .int .i64 r.x.k, .int .i64 r.x.n, .int .i64 r.y.k, .int .i64 r.y.n, .bool hsh, .bool hca, .bool hfx, .int .i64 hmr, .int .i64 10, .int .u64 ww, .int .i64 a, xx, .bool false, .int .i64 oc, .int .i64 u.k, .int .i64 u.n, .bool oy] := ((B3.set 18 (.int .i64 u.k)).set 19 (.int .i64 u.n))
 have T4 := ((T3.set B3 18 (.int .i64 u.k)).set (B3.set 18 (.int .i64 u.k)) 19 (.int .i64 u.n))
 have O4 : Oth [p] w ((w3.setCell ⟨p, 18, none⟩ (.int .i64 u.k)).setCell ⟨p, 19, none⟩ (.int .i64 u.n)) := ((O3.trans (Oth.set _ _ _ _ (by simp))).trans (Oth.set _ _ _ _ (by simp)))
 generalize ((w3.setCell ⟨p, 18, none⟩ (.int .i64 u.k)).setCell ⟨p, 19, none⟩ (.int .i64 u.n)) = w4 at B4 T4 O4 ⊢
 have c0 : w4.cell? ⟨p, 0, none⟩ = some (.int .i64 f) := B4.cell 0
 have c1 : w4.cell? ⟨p, 1, none⟩ = some (.int .i64 r.op) := B4.cell 1
 have c2 : w4.cell? ⟨p, 2, none⟩ = some (.int .i64 r.at_) := B4.cell 2
 have c3 : w4.cell? ⟨p, 3, none⟩ = some (.int .i64 r.fd) := B4.cell 3
 have c4 : w4.cell? ⟨p, 4, none⟩ = some (.int .i64 r.x.k) := B4.cell 4
 have c5 : w4.cell? ⟨p, 5, none⟩ = some (.int .i64 r.x.n) := B4.cell 5
 have c6 : w4.cell? ⟨p, 6, none⟩ = some (.int .i64 r.y.k) := B4.cell 6
 have c7 : w4.cell? ⟨p, 7, none⟩ = some (.int .i64 r.y.n) := B4.cell 7
 have c8 : w4.cell? ⟨p, 8, none⟩ = some (.bool hsh) := B4.cell 8
 have c9 : w4.cell? ⟨p, 9, none⟩ = some (.bool hca) := B4.cell 9
 have c10 : w4.cell? ⟨p, 10, none⟩ = some (.bool hfx) := B4.cell 10
 have c11 : w4.cell? ⟨p, 11, none⟩ = some (.int .i64 hmr) := B4.cell 11
 have c12 : w4.cell? ⟨p, 12, none⟩ = some (.int .i64 10) := B4.cell 12
 have c13 : w4.cell? ⟨p, 13, none⟩ = some (.int .u64 ww) := B4.cell 13
 have c14 : w4.cell? ⟨p, 14, none⟩ = some (.int .i64 a) := B4.cell 14
 have c15 : w4.cell? ⟨p, 15, none⟩ = some (xx) := B4.cell 15
 have c16 : w4.cell? ⟨p, 16, none⟩ = some (.bool false) := B4.cell 16
 have c17 : w4.cell? ⟨p, 17, none⟩ = some (.int .i64 oc) := B4.cell 17
 have c18 : w4.cell? ⟨p, 18, none⟩ = some (.int .i64 u.k) := B4.cell 18
 have c19 : w4.cell? ⟨p, 19, none⟩ = some (.int .i64 u.n) := B4.cell 19
 have c20 : w4.cell? ⟨p, 20, none⟩ = some (.bool oy) := B4.cell 20
 have cl := B4.lt
 have cz : ∀ i, w4.frozen? ⟨p, i, none⟩ = false := fun i => B4.free i
 go_upto_region 9 with (fail)
 clear c0 c1 c2 c3 c4 c5 c6 c7 c8 c9 c10 c11 c12 c13 c14 c15 c16 c17 c18 c19 c20 cl cz
 have B5 : Blk w0 ((w4.setCell ⟨p, 16, none⟩ (.bool true)).setCell ⟨p, 12, none⟩ (.int .i64 0)) p 129 #[.int .i64 f, .int .i64 r.op, .int .i64 r.at_, .int .i64 r.fd, .int .i64 r.x.k, .int .i64 r.x.n, .int .i64 r.y.k, .int .i64 r.y.n, .bool hsh, .bool hca, .bool hfx, .int .i64 hmr, .int .i64 0, .int .u64 ww, .int .i64 a, xx, .bool true, .int .i64 oc, .int .i64 u.k, .int .i64 u.n, .bool oy] := ((B4.set 16 (.bool true)).set 12 (.int .i64 0))
 have T5 := ((T4.set B4 16 (.bool true)).set (B4.set 16 (.bool true)) 12 (.int .i64 0))
 have O5 : Oth [p] w ((w4.setCell ⟨p, 16, none⟩ (.bool true)).setCell ⟨p, 12, none⟩ (.int .i64 0)) := ((O4.trans (Oth.set _ _ _ _ (by simp))).trans (Oth.set _ _ _ _ (by simp)))
 generalize ((w4.setCell ⟨p, 16, none⟩ (.bool true)).setCell ⟨p, 12, none⟩ (.int .i64 0)) = w5 at B5 T5 O5 ⊢
 have c0 : w5.cell? ⟨p, 0, none⟩ = some (.int .i64 f) := B5.cell 0
 have c1 : w5.cell? ⟨p, 1, none⟩ = some (.int .i64 r.op) := B5.cell 1
 have c2 : w5.cell? ⟨p, 2, none⟩ = some (.int .i64 r.at_) := B5.cell 2
 have c3 : w5.cell? ⟨p, 3, none⟩ = some (.int .i64 r.fd) := B5.cell 3
 have c4 : w5.cell? ⟨p, 4, none⟩ = some (.int .i64 r.x.k) := B5.cell 4
 have c5 : w5.cell? ⟨p, 5, none⟩ = some (.int .i64 r.x.n) := B5.cell 5
 have c6 : w5.cell? ⟨p, 6, none⟩ = some (.int .i64 r.y.k) := B5.cell 6
 have c7 : w5.cell? ⟨p, 7, none⟩ = some (.int .i64 r.y.n) := B5.cell 7
 have c8 : w5.cell? ⟨p, 8, none⟩ = some (.bool hsh) := B5.cell 8
 have c9 : w5.cell? ⟨p, 9, none⟩ = some (.bool hca) := B5.cell 9
 have c10 : w5.cell? ⟨p, 10, none⟩ = some (.bool hfx) := B5.cell 10
 have c11 : w5.cell? ⟨p, 11, none⟩ = some (.int .i64 hmr) := B5.cell 11
 have c12 : w5.cell? ⟨p, 12, none⟩ = some (.int .i64 0) := B5.cell 12
 have c13 : w5.cell? ⟨p, 13, none⟩ = some (.int .u64 ww) := B5.cell 13
 have c14 : w5.cell? ⟨p, 14, none⟩ = some (.int .i64 a) := B5.cell 14
 have c15 : w5.cell? ⟨p, 15, none⟩ = some (xx) := B5.cell 15
 have c16 : w5.cell? ⟨p, 16, none⟩ = some (.bool true) := B5.cell 16
 have c17 : w5.cell? ⟨p, 17, none⟩ = some (.int .i64 oc) := B5.cell 17
 have c18 : w5.cell? ⟨p, 18, none⟩ = some (.int .i64 u.k) := B5.cell 18
 have c19 : w5.cell? ⟨p, 19, none⟩ = some (.int .i64 u.n) := B5.cell 19
 have c20 : w5.cell? ⟨p, 20, none⟩ = some (.bool oy) := B5.cell 20
 have cl := B5.lt
 have cz : ∀ i, w5.frozen? ⟨p, i, none⟩ = false := fun i => B5.free i
 go_upto_region 10 with (go_at_call 88; refine (rFar u _).mono ?_; rintro e w6 ⟨rfl, hb6⟩; have B6 := B5.below hb6; have T6 := T5.below hb6; have O6 : Oth [p] w w6 := O5.trans (Oth.below hb6); rw [hfr]; clear hb6)
 clear c0 c1 c2 c3 c4 c5 c6 c7 c8 c9 c10 c11 c12 c13 c14 c15 c16 c17 c18 c19 c20 cl cz
 cases fr with
 | false =>
  cases hfx with
  | false =>
   have c0 : w6.cell? ⟨p, 0, none⟩ = some (.int .i64 f) := B6.cell 0
   have c1 : w6.cell? ⟨p, 1, none⟩ = some (.int .i64 r.op) := B6.cell 1
   have c2 : w6.cell? ⟨p, 2, none⟩ = some (.int .i64 r.at_) := B6.cell 2
   have c3 : w6.cell? ⟨p, 3, none⟩ = some (.int .i64 r.fd) := B6.cell 3
   have c4 : w6.cell? ⟨p, 4, none⟩ = some (.int .i64 r.x.k) := B6.cell 4
   have c5 : w6.cell? ⟨p, 5, none⟩ = some (.int .i64 r.x.n) := B6.cell 5
   have c6 : w6.cell? ⟨p, 6, none⟩ = some (.int .i64 r.y.k) := B6.cell 6
   have c7 : w6.cell? ⟨p, 7, none⟩ = some (.int .i64 r.y.n) := B6.cell 7
   have c8 : w6.cell? ⟨p, 8, none⟩ = some (.bool hsh) := B6.cell 8
   have c9 : w6.cell? ⟨p, 9, none⟩ = some (.bool hca) := B6.cell 9
   have c10 : w6.cell? ⟨p, 10, none⟩ = some (.bool false) := B6.cell 10
   have c11 : w6.cell? ⟨p, 11, none⟩ = some (.int .i64 hmr) := B6.cell 11
   have c12 : w6.cell? ⟨p, 12, none⟩ = some (.int .i64 0) := B6.cell 12
   have c13 : w6.cell? ⟨p, 13, none⟩ = some (.int .u64 ww) := B6.cell 13
   have c14 : w6.cell? ⟨p, 14, none⟩ = some (.int .i64 a) := B6.cell 14
   have c15 : w6.cell? ⟨p, 15, none⟩ = some (xx) := B6.cell 15
   have c16 : w6.cell? ⟨p, 16, none⟩ = some (.bool true) := B6.cell 16
   have c17 : w6.cell? ⟨p, 17, none⟩ = some (.int .i64 oc) := B6.cell 17
   have c18 : w6.cell? ⟨p, 18, none⟩ = some (.int .i64 u.k) := B6.cell 18
   have c19 : w6.cell? ⟨p, 19, none⟩ = some (.int .i64 u.n) := B6.cell 19
   have c20 : w6.cell? ⟨p, 20, none⟩ = some (.bool oy) := B6.cell 20
   have cl := B6.lt
   have cz : ∀ i, w6.frozen? ⟨p, i, none⟩ = false := fun i => B6.free i
   go_wp2
   go_ret
   exact ⟨rfl, ⟨T6.mono (by omega), B6, O6⟩⟩
  | true =>
   have c0 : w6.cell? ⟨p, 0, none⟩ = some (.int .i64 f) := B6.cell 0
   have c1 : w6.cell? ⟨p, 1, none⟩ = some (.int .i64 r.op) := B6.cell 1
   have c2 : w6.cell? ⟨p, 2, none⟩ = some (.int .i64 r.at_) := B6.cell 2
   have c3 : w6.cell? ⟨p, 3, none⟩ = some (.int .i64 r.fd) := B6.cell 3
   have c4 : w6.cell? ⟨p, 4, none⟩ = some (.int .i64 r.x.k) := B6.cell 4
   have c5 : w6.cell? ⟨p, 5, none⟩ = some (.int .i64 r.x.n) := B6.cell 5
   have c6 : w6.cell? ⟨p, 6, none⟩ = some (.int .i64 r.y.k) := B6.cell 6
   have c7 : w6.cell? ⟨p, 7, none⟩ = some (.int .i64 r.y.n) := B6.cell 7
   have c8 : w6.cell? ⟨p, 8, none⟩ = some (.bool hsh) := B6.cell 8
   have c9 : w6.cell? ⟨p, 9, none⟩ = some (.bool hca) := B6.cell 9
   have c10 : w6.cell? ⟨p, 10, none⟩ = some (.bool true) := B6.cell 10
   have c11 : w6.cell? ⟨p, 11, none⟩ = some (.int .i64 hmr) := B6.cell 11
   have c12 : w6.cell? ⟨p, 12, none⟩ = some (.int .i64 0) := B6.cell 12
   have c13 : w6.cell? ⟨p, 13, none⟩ = some (.int .u64 ww) := B6.cell 13
   have c14 : w6.cell? ⟨p, 14, none⟩ = some (.int .i64 a) := B6.cell 14
   have c15 : w6.cell? ⟨p, 15, none⟩ = some (xx) := B6.cell 15
   have c16 : w6.cell? ⟨p, 16, none⟩ = some (.bool true) := B6.cell 16
   have c17 : w6.cell? ⟨p, 17, none⟩ = some (.int .i64 oc) := B6.cell 17
   have c18 : w6.cell? ⟨p, 18, none⟩ = some (.int .i64 u.k) := B6.cell 18
   have c19 : w6.cell? ⟨p, 19, none⟩ = some (.int .i64 u.n) := B6.cell 19
   have c20 : w6.cell? ⟨p, 20, none⟩ = some (.bool oy) := B6.cell 20
   have cl := B6.lt
   have cz : ∀ i, w6.frozen? ⟨p, i, none⟩ = false := fun i => B6.free i
   go_wp2
   go_ret
   exact ⟨rfl, ⟨T6.mono (by omega), B6, O6⟩⟩
 | true =>
  cases hfx with
  | false =>
   have c0 : w6.cell? ⟨p, 0, none⟩ = some (.int .i64 f) := B6.cell 0
   have c1 : w6.cell? ⟨p, 1, none⟩ = some (.int .i64 r.op) := B6.cell 1
   have c2 : w6.cell? ⟨p, 2, none⟩ = some (.int .i64 r.at_) := B6.cell 2
   have c3 : w6.cell? ⟨p, 3, none⟩ = some (.int .i64 r.fd) := B6.cell 3
   have c4 : w6.cell? ⟨p, 4, none⟩ = some (.int .i64 r.x.k) := B6.cell 4
   have c5 : w6.cell? ⟨p, 5, none⟩ = some (.int .i64 r.x.n) := B6.cell 5
   have c6 : w6.cell? ⟨p, 6, none⟩ = some (.int .i64 r.y.k) := B6.cell 6
   have c7 : w6.cell? ⟨p, 7, none⟩ = some (.int .i64 r.y.n) := B6.cell 7
   have c8 : w6.cell? ⟨p, 8, none⟩ = some (.bool hsh) := B6.cell 8
   have c9 : w6.cell? ⟨p, 9, none⟩ = some (.bool hca) := B6.cell 9
   have c10 : w6.cell? ⟨p, 10, none⟩ = some (.bool false) := B6.cell 10
   have c11 : w6.cell? ⟨p, 11, none⟩ = some (.int .i64 hmr) := B6.cell 11
   have c12 : w6.cell? ⟨p, 12, none⟩ = some (.int .i64 0) := B6.cell 12
   have c13 : w6.cell? ⟨p, 13, none⟩ = some (.int .u64 ww) := B6.cell 13
   have c14 : w6.cell? ⟨p, 14, none⟩ = some (.int .i64 a) := B6.cell 14
   have c15 : w6.cell? ⟨p, 15, none⟩ = some (xx) := B6.cell 15
   have c16 : w6.cell? ⟨p, 16, none⟩ = some (.bool true) := B6.cell 16
   have c17 : w6.cell? ⟨p, 17, none⟩ = some (.int .i64 oc) := B6.cell 17
   have c18 : w6.cell? ⟨p, 18, none⟩ = some (.int .i64 u.k) := B6.cell 18
   have c19 : w6.cell? ⟨p, 19, none⟩ = some (.int .i64 u.n) := B6.cell 19
   have c20 : w6.cell? ⟨p, 20, none⟩ = some (.bool oy) := B6.cell 20
   have cl := B6.lt
   have cz : ∀ i, w6.frozen? ⟨p, i, none⟩ = false := fun i => B6.free i
   go_wp2
   go_ret
   exact ⟨rfl, ⟨T6.mono (by omega), B6, O6⟩⟩
  | true =>
   have c0 : w6.cell? ⟨p, 0, none⟩ = some (.int .i64 f) := B6.cell 0
   have c1 : w6.cell? ⟨p, 1, none⟩ = some (.int .i64 r.op) := B6.cell 1
   have c2 : w6.cell? ⟨p, 2, none⟩ = some (.int .i64 r.at_) := B6.cell 2
   have c3 : w6.cell? ⟨p, 3, none⟩ = some (.int .i64 r.fd) := B6.cell 3
   have c4 : w6.cell? ⟨p, 4, none⟩ = some (.int .i64 r.x.k) := B6.cell 4
   have c5 : w6.cell? ⟨p, 5, none⟩ = some (.int .i64 r.x.n) := B6.cell 5
   have c6 : w6.cell? ⟨p, 6, none⟩ = some (.int .i64 r.y.k) := B6.cell 6
   have c7 : w6.cell? ⟨p, 7, none⟩ = some (.int .i64 r.y.n) := B6.cell 7
   have c8 : w6.cell? ⟨p, 8, none⟩ = some (.bool hsh) := B6.cell 8
   have c9 : w6.cell? ⟨p, 9, none⟩ = some (.bool hca) := B6.cell 9
   have c10 : w6.cell? ⟨p, 10, none⟩ = some (.bool true) := B6.cell 10
   have c11 : w6.cell? ⟨p, 11, none⟩ = some (.int .i64 hmr) := B6.cell 11
   have c12 : w6.cell? ⟨p, 12, none⟩ = some (.int .i64 0) := B6.cell 12
   have c13 : w6.cell? ⟨p, 13, none⟩ = some (.int .u64 ww) := B6.cell 13
   have c14 : w6.cell? ⟨p, 14, none⟩ = some (.int .i64 a) := B6.cell 14
   have c15 : w6.cell? ⟨p, 15, none⟩ = some (xx) := B6.cell 15
   have c16 : w6.cell? ⟨p, 16, none⟩ = some (.bool true) := B6.cell 16
   have c17 : w6.cell? ⟨p, 17, none⟩ = some (.int .i64 oc) := B6.cell 17
   have c18 : w6.cell? ⟨p, 18, none⟩ = some (.int .i64 u.k) := B6.cell 18
   have c19 : w6.cell? ⟨p, 19, none⟩ = some (.int .i64 u.n) := B6.cell 19
   have c20 : w6.cell? ⟨p, 20, none⟩ = some (.bool oy) := B6.cell 20
   have cl := B6.lt
   have cz : ∀ i, w6.frozen? ⟨p, i, none⟩ = false := fun i => B6.free i
   go_wp2
   go_ret
   exact ⟨rfl, ⟨(T6.set B6 12 (.int .i64 11)).mono (by omega), (B6.set 12 (.int .i64 11)), (O6.trans (Oth.set _ _ _ _ (by simp)))⟩⟩
set_option maxHeartbeats 4000000 in
theorem rd11 {w0 w : World} {b y p : Nat} {s1 s2 : St} {N : Nat} {d : RD} (h : Two w0 w b y s1 s2 N) (B : Blk w0 w p 129 d.cells) (hN : N + 5 < 1000000) (hpc : d.pc = 11) :
  Calls Tryz.prog 60 #[pt p, pt y] w fun e w' => e = .returned (.bool true) ∧ RdTo w0 w w' b y p s1 (s2.load d.o.v.n) N ⟨d.f, d.r, d.h, 0, d.w, d.a, d.x, false, ⟨d.o.c, ⟨d.o.v.k, mv (s2.got d.o.v.n) d.o.v.n⟩, d.o.y⟩⟩ [p] := by
 obtain ⟨f, r, ⟨hsh, hca, hfx, hmr⟩, pc, ww, a, xx, sh, ⟨oc, ov, oy⟩⟩ := d
 simp only [RD.cells] at B hpc ⊢
 subst hpc
 obtain ⟨vk, vn⟩ := ov
 simp only at B ⊢
 obtain ⟨v, hv⟩ : ∃ v, s2.got vn = v := ⟨_, rfl⟩
 have hU : U64 v := hv ▸ h.rng2.got vn
 rw [hv]
 obtain ⟨mm, hmm⟩ : ∃ m, mv v vn = m := ⟨_, rfl⟩
 rw [hmm]
 have c0 : w.cell? ⟨p, 0, none⟩ = some (.int .i64 f) := B.cell 0
 have c1 : w.cell? ⟨p, 1, none⟩ = some (.int .i64 r.op) := B.cell 1
 have c2 : w.cell? ⟨p, 2, none⟩ = some (.int .i64 r.at_) := B.cell 2
 have c3 : w.cell? ⟨p, 3, none⟩ = some (.int .i64 r.fd) := B.cell 3
 have c4 : w.cell? ⟨p, 4, none⟩ = some (.int .i64 r.x.k) := B.cell 4
 have c5 : w.cell? ⟨p, 5, none⟩ = some (.int .i64 r.x.n) := B.cell 5
 have c6 : w.cell? ⟨p, 6, none⟩ = some (.int .i64 r.y.k) := B.cell 6
 have c7 : w.cell? ⟨p, 7, none⟩ = some (.int .i64 r.y.n) := B.cell 7
 have c8 : w.cell? ⟨p, 8, none⟩ = some (.bool hsh) := B.cell 8
 have c9 : w.cell? ⟨p, 9, none⟩ = some (.bool hca) := B.cell 9
 have c10 : w.cell? ⟨p, 10, none⟩ = some (.bool hfx) := B.cell 10
 have c11 : w.cell? ⟨p, 11, none⟩ = some (.int .i64 hmr) := B.cell 11
 have c12 : w.cell? ⟨p, 12, none⟩ = some (.int .i64 11) := B.cell 12
 have c13 : w.cell? ⟨p, 13, none⟩ = some (.int .u64 ww) := B.cell 13
 have c14 : w.cell? ⟨p, 14, none⟩ = some (.int .i64 a) := B.cell 14
 have c15 : w.cell? ⟨p, 15, none⟩ = some (xx) := B.cell 15
 have c16 : w.cell? ⟨p, 16, none⟩ = some (.bool sh) := B.cell 16
 have c17 : w.cell? ⟨p, 17, none⟩ = some (.int .i64 oc) := B.cell 17
 have c18 : w.cell? ⟨p, 18, none⟩ = some (.int .i64 vk) := B.cell 18
 have c19 : w.cell? ⟨p, 19, none⟩ = some (.int .i64 vn) := B.cell 19
 have c20 : w.cell? ⟨p, 20, none⟩ = some (.bool oy) := B.cell 20
 have cl := B.lt
 have cz : ∀ i, w.frozen? ⟨p, i, none⟩ = false := fun i => B.free i
 go_enter Tryz.func60, Tryz.ntmps60
 go_upto_region 13 with (fail)
 clear c0 c1 c2 c3 c4 c5 c6 c7 c8 c9 c10 c11 c12 c13 c14 c15 c16 c17 c18 c19 c20 cl cz
 have B1 : Blk w0 (w.setCell ⟨p, 16, none⟩ (.bool false)) p 129 #[.int .i64 f, .int .i64 r.op, .int .i64 r.at_, .int .i64 r.fd, .int .i64 r.x.k, .int .i64 r.x.n, .int .i64 r.y.k, .int .i64 r.y.n, .bool hsh, .bool hca, .bool hfx, .int .i64 hmr, .int .i64 11, .int .u64 ww, .int .i64 a, xx, .bool false, .int .i64 oc, .int .i64 vk, .int .i64 vn, .bool oy] := B.set 16 (.bool false)
 have T1 := h.set B 16 (.bool false)
 have O1 : Oth [p] w (w.setCell ⟨p, 16, none⟩ (.bool false)) := Oth.set _ _ _ _ (by simp)
 generalize w.setCell ⟨p, 16, none⟩ (.bool false) = w1 at B1 T1 O1 ⊢
 have g19 : w1.drew.cell? ⟨p, 19, none⟩ = some (.int .i64 vn) := (B1.below (Below.refl _ w1).drew).cell 19
 refine wp_region_noPanic ?_
 refine wp_region_held_drew (S := fun w' => True) (by kernel_rfl) trivial (fun hHeld => ?_)
 refine tkH (i := 0) 66 (pt p) rfl rfl ?_
 simp only [sA1, sA2, sA3]
 refine tkH (i := 1) 67 (pt y) rfl rfl ?_
 simp only [sA1, sA2, sA3]
 refine tkH (i := 2) 68 (pt p) rfl rfl ?_
 simp only [sA1, sA2, sA3]
 refine tkH (i := 3) 69 (pt p) rfl rfl ?_
 simp only [sA1, sA2, sA3]
 refine tkH (i := 4) 70 (.pointer (some ⟨p, 17, none⟩)) rfl rfl ?_
 simp only [sA1, sA2, sA3]
 refine tkH (i := 5) 71 (.pointer (some ⟨p, 18, none⟩)) rfl rfl ?_
 simp only [sA1, sA2, sA3]
 refine tkH (i := 6) 72 (.pointer (some ⟨p, 19, none⟩)) rfl rfl ?_
 simp only [sA1, sA2, sA3]
 refine tkH (i := 9) 75 (pt p) rfl rfl ?_
 simp only [sA1, sA2, sA3]
 refine tkH (i := 10) 76 (pt p) rfl rfl ?_
 simp only [sA1, sA2, sA3]
 refine tkH (i := 11) 77 (.pointer (some ⟨p, 17, none⟩)) rfl rfl ?_
 simp only [sA1, sA2, sA3]
 refine tkH (i := 12) 78 (.pointer (some ⟨p, 18, none⟩)) rfl rfl ?_
 simp only [sA1, sA2, sA3]
 refine tkH (i := 13) 79 (.pointer (some ⟨p, 19, none⟩)) rfl rfl ?_
 simp only [sA1, sA2, sA3]
 refine rd2 7 14 rfl rfl (fun K hK => ?_) (fun K hK => ?_)
 ·go_simp
  refine hK.out _ _ trivial (fun hHeld => ?_)
  clear hK K
  try simp only [Act.put, sA1, sA2, sA3]
  refine rd2 8 14 rfl rfl (fun K hK => ?_) (fun K hK => ?_)
  ·go_simp
   refine (yLoad T1.drew (by omega) vn).mono ?_
   rintro e w3 ⟨rfl, T3, o3⟩
   rw [hv]
   have B3 := (B1.below (Below.refl _ w1).drew).oth o3 (by simp)
   have O3 : Oth [p] w w3 := (O1.trans (Oth.drew _ _)).trans (o3.mono (by simp))
   have e19 : w3.cell? ⟨p, 19, none⟩ = some (.int .i64 vn) := B3.cell 19
   refine hK.out _ _ trivial (fun hHeld => ?_)
   clear hK K
   try simp only [Act.put, sA1, sA2, sA3]
   refine rd1 14 rfl fun K hK => ?_
   go_simp
   refine hK.out _ _ trivial (fun hHeld => ?_)
   clear hK K
   try simp only [Act.put, sA1, sA2, sA3]
   refine rd1 15 rfl fun K hK => ?_
   go_simp
   refine (H.rMoved v vn hU.1 hU.2 _).mono ?_
   rintro e w4 ⟨rfl, hw4⟩
   rw [hmm]
   have hb4 : Below w3.heap.size w3 w4 := (by rw [hw4]; go_grown)
   clear hw4
   have B4 := B3.below hb4
   have T4 := T3.below hb4
   have O4 : Oth [p] w w4 := O3.trans (Oth.below hb4)
   have f19 : w4.cell? ⟨p, 19, none⟩ = some (.int .i64 vn) := B4.cell 19
   have fz := B4.free 19
   refine hK.out _ _ trivial (fun hHeld => ?_)
   clear hK K
   try simp only [Act.put, sA1, sA2, sA3]
   refine tkH (i := 16) 82 (pt p) rfl rfl ?_
   simp only [sA1, sA2, sA3]
   refine tkH (i := 17) 83 (.pointer (some ⟨p, 17, none⟩)) rfl rfl ?_
   simp only [sA1, sA2, sA3]
   refine tkH (i := 18) 84 (.pointer (some ⟨p, 18, none⟩)) rfl rfl ?_
   simp only [sA1, sA2, sA3]
   refine tkH (i := 19) 85 (.pointer (some ⟨p, 19, none⟩)) rfl rfl ?_
   simp only [sA1, sA2, sA3]
   refine rd1 20 rfl fun K hK => ?_
   go_simp
   refine hK.out _ _ trivial (fun hHeld => ?_)
   clear hK K
   try simp only [Act.put, sA1, sA2, sA3]
   refine wpAnyH_done (by kernel_rfl) ?_ _
   refine NoPanic.normal ?_
   have B5 : Blk w0 (w4.setCell ⟨p, 19, none⟩ (.int .i64 mm)) p 129 #[.int .i64 f, .int .i64 r.op, .int .i64 r.at_, .int .i64 r.fd, .int .i64 r.x.k, .int .i64 r.x.n, .int .i64 r.y.k, .int .i64 r.y.n, .bool hsh, .bool hca, .bool hfx, .int .i64 hmr, .int .i64 11, .int .u64 ww, .int .i64 a, xx, .bool false, .int .i64 oc, .int .i64 vk, .int .i64 mm, .bool oy] := B4.set 19 _
   have T5 := T4.set B4 19 (.int .i64 mm)
   have O5 : Oth [p] w (w4.setCell ⟨p, 19, none⟩ (.int .i64 mm)) := O4.trans (Oth.set _ _ _ _ (by simp))
   generalize (w4.setCell ⟨p, 19, none⟩ (.int .i64 mm)) = w5 at B5 T5 O5 ⊢
   clear g19 f19 e19 fz
   have c0 : w5.cell? ⟨p, 0, none⟩ = some (.int .i64 f) := B5.cell 0
   have c1 : w5.cell? ⟨p, 1, none⟩ = some (.int .i64 r.op) := B5.cell 1
   have c2 : w5.cell? ⟨p, 2, none⟩ = some (.int .i64 r.at_) := B5.cell 2
   have c3 : w5.cell? ⟨p, 3, none⟩ = some (.int .i64 r.fd) := B5.cell 3
   have c4 : w5.cell? ⟨p, 4, none⟩ = some (.int .i64 r.x.k) := B5.cell 4
   have c5 : w5.cell? ⟨p, 5, none⟩ = some (.int .i64 r.x.n) := B5.cell 5
   have c6 : w5.cell? ⟨p, 6, none⟩ = some (.int .i64 r.y.k) := B5.cell 6
   have c7 : w5.cell? ⟨p, 7, none⟩ = some (.int .i64 r.y.n) := B5.cell 7
   have c8 : w5.cell? ⟨p, 8, none⟩ = some (.bool hsh) := B5.cell 8
   have c9 : w5.cell? ⟨p, 9, none⟩ = some (.bool hca) := B5.cell 9
   have c10 : w5.cell? ⟨p, 10, none⟩ = some (.bool hfx) := B5.cell 10
   have c11 : w5.cell? ⟨p, 11, none⟩ = some (.int .i64 hmr) := B5.cell 11
   have c12 : w5.cell? ⟨p, 12, none⟩ = some (.int .i64 11) := B5.cell 12
   have c13 : w5.cell? ⟨p, 13, none⟩ = some (.int .u64 ww) := B5.cell 13
   have c14 : w5.cell? ⟨p, 14, none⟩ = some (.int .i64 a) := B5.cell 14
   have c15 : w5.cell? ⟨p, 15, none⟩ = some (xx) := B5.cell 15
   have c16 : w5.cell? ⟨p, 16, none⟩ = some (.bool false) := B5.cell 16
   have c17 : w5.cell? ⟨p, 17, none⟩ = some (.int .i64 oc) := B5.cell 17
   have c18 : w5.cell? ⟨p, 18, none⟩ = some (.int .i64 vk) := B5.cell 18
   have c19 : w5.cell? ⟨p, 19, none⟩ = some (.int .i64 mm) := B5.cell 19
   have c20 : w5.cell? ⟨p, 20, none⟩ = some (.bool oy) := B5.cell 20
   have cl := B5.lt
   have cz : ∀ i, w5.frozen? ⟨p, i, none⟩ = false := fun i => B5.free i
   go_wp2
   go_ret
   exact ⟨rfl, ⟨(T5.set B5 12 (.int .i64 0)).mono (by omega), (B5.set 12 (.int .i64 0)), (O5.trans (Oth.set _ _ _ _ (by simp)))⟩⟩
  ·go_simp
   refine hK.out _ _ trivial (fun hHeld => ?_)
   clear hK K
   try simp only [Act.put, sA1, sA2, sA3]
   refine rd1 8 rfl fun K hK => ?_
   go_simp
   refine (yLoad T1.drew (by omega) vn).mono ?_
   rintro e w3 ⟨rfl, T3, o3⟩
   rw [hv]
   have B3 := (B1.below (Below.refl _ w1).drew).oth o3 (by simp)
   have O3 : Oth [p] w w3 := (O1.trans (Oth.drew _ _)).trans (o3.mono (by simp))
   have e19 : w3.cell? ⟨p, 19, none⟩ = some (.int .i64 vn) := B3.cell 19
   refine hK.out _ _ trivial (fun hHeld => ?_)
   clear hK K
   try simp only [Act.put, sA1, sA2, sA3]
   refine rd1 15 rfl fun K hK => ?_
   go_simp
   refine (H.rMoved v vn hU.1 hU.2 _).mono ?_
   rintro e w4 ⟨rfl, hw4⟩
   rw [hmm]
   have hb4 : Below w3.heap.size w3 w4 := (by rw [hw4]; go_grown)
   clear hw4
   have B4 := B3.below hb4
   have T4 := T3.below hb4
   have O4 : Oth [p] w w4 := O3.trans (Oth.below hb4)
   have f19 : w4.cell? ⟨p, 19, none⟩ = some (.int .i64 vn) := B4.cell 19
   have fz := B4.free 19
   refine hK.out _ _ trivial (fun hHeld => ?_)
   clear hK K
   try simp only [Act.put, sA1, sA2, sA3]
   refine tkH (i := 16) 82 (pt p) rfl rfl ?_
   simp only [sA1, sA2, sA3]
   refine tkH (i := 17) 83 (.pointer (some ⟨p, 17, none⟩)) rfl rfl ?_
   simp only [sA1, sA2, sA3]
   refine tkH (i := 18) 84 (.pointer (some ⟨p, 18, none⟩)) rfl rfl ?_
   simp only [sA1, sA2, sA3]
   refine tkH (i := 19) 85 (.pointer (some ⟨p, 19, none⟩)) rfl rfl ?_
   simp only [sA1, sA2, sA3]
   refine rd1 20 rfl fun K hK => ?_
   go_simp
   refine hK.out _ _ trivial (fun hHeld => ?_)
   clear hK K
   try simp only [Act.put, sA1, sA2, sA3]
   refine wpAnyH_done (by kernel_rfl) ?_ _
   refine NoPanic.normal ?_
   have B5 : Blk w0 (w4.setCell ⟨p, 19, none⟩ (.int .i64 mm)) p 129 #[.int .i64 f, .int .i64 r.op, .int .i64 r.at_, .int .i64 r.fd, .int .i64 r.x.k, .int .i64 r.x.n, .int .i64 r.y.k, .int .i64 r.y.n, .bool hsh, .bool hca, .bool hfx, .int .i64 hmr, .int .i64 11, .int .u64 ww, .int .i64 a, xx, .bool false, .int .i64 oc, .int .i64 vk, .int .i64 mm, .bool oy] := B4.set 19 _
   have T5 := T4.set B4 19 (.int .i64 mm)
   have O5 : Oth [p] w (w4.setCell ⟨p, 19, none⟩ (.int .i64 mm)) := O4.trans (Oth.set _ _ _ _ (by simp))
   generalize (w4.setCell ⟨p, 19, none⟩ (.int .i64 mm)) = w5 at B5 T5 O5 ⊢
   clear g19 f19 e19 fz
   have c0 : w5.cell? ⟨p, 0, none⟩ = some (.int .i64 f) := B5.cell 0
   have c1 : w5.cell? ⟨p, 1, none⟩ = some (.int .i64 r.op) := B5.cell 1
   have c2 : w5.cell? ⟨p, 2, none⟩ = some (.int .i64 r.at_) := B5.cell 2
   have c3 : w5.cell? ⟨p, 3, none⟩ = some (.int .i64 r.fd) := B5.cell 3
   have c4 : w5.cell? ⟨p, 4, none⟩ = some (.int .i64 r.x.k) := B5.cell 4
   have c5 : w5.cell? ⟨p, 5, none⟩ = some (.int .i64 r.x.n) := B5.cell 5
   have c6 : w5.cell? ⟨p, 6, none⟩ = some (.int .i64 r.y.k) := B5.cell 6
   have c7 : w5.cell? ⟨p, 7, none⟩ = some (.int .i64 r.y.n) := B5.cell 7
   have c8 : w5.cell? ⟨p, 8, none⟩ = some (.bool hsh) := B5.cell 8
   have c9 : w5.cell? ⟨p, 9, none⟩ = some (.bool hca) := B5.cell 9
   have c10 : w5.cell? ⟨p, 10, none⟩ = some (.bool hfx) := B5.cell 10
   have c11 : w5.cell? ⟨p, 11, none⟩ = some (.int .i64 hmr) := B5.cell 11
   have c12 : w5.cell? ⟨p, 12, none⟩ = some (.int .i64 11) := B5.cell 12
   have c13 : w5.cell? ⟨p, 13, none⟩ = some (.int .u64 ww) := B5.cell 13
   have c14 : w5.cell? ⟨p, 14, none⟩ = some (.int .i64 a) := B5.cell 14
   have c15 : w5.cell? ⟨p, 15, none⟩ = some (xx) := B5.cell 15
   have c16 : w5.cell? ⟨p, 16, none⟩ = some (.bool false) := B5.cell 16
   have c17 : w5.cell? ⟨p, 17, none⟩ = some (.int .i64 oc) := B5.cell 17
   have c18 : w5.cell? ⟨p, 18, none⟩ = some (.int .i64 vk) := B5.cell 18
   have c19 : w5.cell? ⟨p, 19, none⟩ = some (.int .i64 mm) := B5.cell 19
   have c20 : w5.cell? ⟨p, 20, none⟩ = some (.bool oy) := B5.cell 20
   have cl := B5.lt
   have cz : ∀ i, w5.frozen? ⟨p, i, none⟩ = false := fun i => B5.free i
   go_wp2
   go_ret
   exact ⟨rfl, ⟨(T5.set B5 12 (.int .i64 0)).mono (by omega), (B5.set 12 (.int .i64 0)), (O5.trans (Oth.set _ _ _ _ (by simp)))⟩⟩
 ·go_simp
  refine hK.out _ _ trivial (fun hHeld => ?_)
  clear hK K
  try simp only [Act.put, sA1, sA2, sA3]
  refine rd1 7 rfl fun K hK => ?_
  go_simp
  refine hK.out _ _ trivial (fun hHeld => ?_)
  clear hK K
  try simp only [Act.put, sA1, sA2, sA3]
  refine rd1 8 rfl fun K hK => ?_
  go_simp
  refine (yLoad T1.drew (by omega) vn).mono ?_
  rintro e w3 ⟨rfl, T3, o3⟩
  rw [hv]
  have B3 := (B1.below (Below.refl _ w1).drew).oth o3 (by simp)
  have O3 : Oth [p] w w3 := (O1.trans (Oth.drew _ _)).trans (o3.mono (by simp))
  have e19 : w3.cell? ⟨p, 19, none⟩ = some (.int .i64 vn) := B3.cell 19
  refine hK.out _ _ trivial (fun hHeld => ?_)
  clear hK K
  try simp only [Act.put, sA1, sA2, sA3]
  refine rd1 15 rfl fun K hK => ?_
  go_simp
  refine (H.rMoved v vn hU.1 hU.2 _).mono ?_
  rintro e w4 ⟨rfl, hw4⟩
  rw [hmm]
  have hb4 : Below w3.heap.size w3 w4 := (by rw [hw4]; go_grown)
  clear hw4
  have B4 := B3.below hb4
  have T4 := T3.below hb4
  have O4 : Oth [p] w w4 := O3.trans (Oth.below hb4)
  have f19 : w4.cell? ⟨p, 19, none⟩ = some (.int .i64 vn) := B4.cell 19
  have fz := B4.free 19
  refine hK.out _ _ trivial (fun hHeld => ?_)
  clear hK K
  try simp only [Act.put, sA1, sA2, sA3]
  refine tkH (i := 16) 82 (pt p) rfl rfl ?_
  simp only [sA1, sA2, sA3]
  refine tkH (i := 17) 83 (.pointer (some ⟨p, 17, none⟩)) rfl rfl ?_
  simp only [sA1, sA2, sA3]
  refine tkH (i := 18) 84 (.pointer (some ⟨p, 18, none⟩)) rfl rfl ?_
  simp only [sA1, sA2, sA3]
  refine tkH (i := 19) 85 (.pointer (some ⟨p, 19, none⟩)) rfl rfl ?_
  simp only [sA1, sA2, sA3]
  refine rd1 20 rfl fun K hK => ?_
  go_simp
  refine hK.out _ _ trivial (fun hHeld => ?_)
  clear hK K
  try simp only [Act.put, sA1, sA2, sA3]
  refine wpAnyH_done (by kernel_rfl) ?_ _
  refine NoPanic.normal ?_
  have B5 : Blk w0 (w4.setCell ⟨p, 19, none⟩ (.int .i64 mm)) p 129 #[.int .i64 f, .int .i64 r.op, .int .i64 r.at_, .int .i64 r.fd, .int .i64 r.x.k, .int .i64 r.x.n, .int .i64 r.y.k, .int .i64 r.y.n, .bool hsh, .bool hca, .bool hfx, .int .i64 hmr, .int .i64 11, .int .u64 ww, .int .i64 a, xx, .bool false, .int .i64 oc, .int .i64 vk, .int .i64 mm, .bool oy] := B4.set 19 _
  have T5 := T4.set B4 19 (.int .i64 mm)
  have O5 : Oth [p] w (w4.setCell ⟨p, 19, none⟩ (.int .i64 mm)) := O4.trans (Oth.set _ _ _ _ (by simp))
  generalize (w4.setCell ⟨p, 19, none⟩ (.int .i64 mm)) = w5 at B5 T5 O5 ⊢
  clear g19 f19 e19 fz
  have c0 : w5.cell? ⟨p, 0, none⟩ = some (.int .i64 f) := B5.cell 0
  have c1 : w5.cell? ⟨p, 1, none⟩ = some (.int .i64 r.op) := B5.cell 1
  have c2 : w5.cell? ⟨p, 2, none⟩ = some (.int .i64 r.at_) := B5.cell 2
  have c3 : w5.cell? ⟨p, 3, none⟩ = some (.int .i64 r.fd) := B5.cell 3
  have c4 : w5.cell? ⟨p, 4, none⟩ = some (.int .i64 r.x.k) := B5.cell 4
  have c5 : w5.cell? ⟨p, 5, none⟩ = some (.int .i64 r.x.n) := B5.cell 5
  have c6 : w5.cell? ⟨p, 6, none⟩ = some (.int .i64 r.y.k) := B5.cell 6
  have c7 : w5.cell? ⟨p, 7, none⟩ = some (.int .i64 r.y.n) := B5.cell 7
  have c8 : w5.cell? ⟨p, 8, none⟩ = some (.bool hsh) := B5.cell 8
  have c9 : w5.cell? ⟨p, 9, none⟩ = some (.bool hca) := B5.cell 9
  have c10 : w5.cell? ⟨p, 10, none⟩ = some (.bool hfx) := B5.cell 10
  have c11 : w5.cell? ⟨p, 11, none⟩ = some (.int .i64 hmr) := B5.cell 11
  have c12 : w5.cell? ⟨p, 12, none⟩ = some (.int .i64 11) := B5.cell 12
  have c13 : w5.cell? ⟨p, 13, none⟩ = some (.int .u64 ww) := B5.cell 13
  have c14 : w5.cell? ⟨p, 14, none⟩ = some (.int .i64 a) := B5.cell 14
  have c15 : w5.cell? ⟨p, 15, none⟩ = some (xx) := B5.cell 15
  have c16 : w5.cell? ⟨p, 16, none⟩ = some (.bool false) := B5.cell 16
  have c17 : w5.cell? ⟨p, 17, none⟩ = some (.int .i64 oc) := B5.cell 17
  have c18 : w5.cell? ⟨p, 18, none⟩ = some (.int .i64 vk) := B5.cell 18
  have c19 : w5.cell? ⟨p, 19, none⟩ = some (.int .i64 mm) := B5.cell 19
  have c20 : w5.cell? ⟨p, 20, none⟩ = some (.bool oy) := B5.cell 20
  have cl := B5.lt
  have cz : ∀ i, w5.frozen? ⟨p, i, none⟩ = false := fun i => B5.free i
  go_wp2
  go_ret
  exact ⟨rfl, ⟨(T5.set B5 12 (.int .i64 0)).mono (by omega), (B5.set 12 (.int .i64 0)), (O5.trans (Oth.set _ _ _ _ (by simp)))⟩⟩
set_option maxHeartbeats 4000000 in
theorem rd20 {w0 w : World} {b y p : Nat} {s1 s2 : St} {N : Nat} {d : RD} (h : Two w0 w b y s1 s2 N) (B : Blk w0 w p 129 d.cells) (hN : N + 5 < 1000000) (hpc : d.pc = 20) :
  Calls Tryz.prog 60 #[pt p, pt y] w fun e w' => e = .returned (.bool false) ∧ ∃ vx, RdTo w0 w w' b y p s1 (s2.load d.f) N ⟨d.f, d.r, d.h, pcA ⟨d.f, d.r, d.h, 20, s2.got d.f, d.a, d.x, false, d.o⟩ true 23, s2.got d.f, d.a, vx, false, d.o⟩ [p] ∧ (pcA ⟨d.f, d.r, d.h, 20, s2.got d.f, d.a, d.x, false, d.o⟩ true 23 ≠ 23 → ∃ ps, vx = pt ps ∧ Blk w0 w' ps 162 ((shA ⟨d.f, d.r, d.h, 20, s2.got d.f, d.a, d.x, false, d.o⟩ true).rcells Hd.zero 0) ∧ w.heap.size ≤ ps) := by
 obtain ⟨f, r, ⟨hsh, hca, hfx, hmr⟩, pc, ww, a, xx, sh, ⟨oc, ov, oy⟩⟩ := d
 simp only [RD.cells] at B hpc ⊢
 subst hpc
 obtain ⟨v, hv⟩ : ∃ v, s2.got f = v := ⟨_, rfl⟩
 have hU : U64 v := hv ▸ h.rng2.got f
 obtain ⟨u, hu⟩ : ∃ u, Vl.of v = u := ⟨_, rfl⟩
 have hk : F.Plain.kind v = u.k := congrArg Vl.k hu
 have hn : F.Plain.num v = u.n := congrArg Vl.n hu
 rw [hv]
 obtain ⟨pcn, hpn⟩ : ∃ k, pcA ⟨f, r, ⟨hsh, hca, hfx, hmr⟩, 20, v, a, xx, false, ⟨oc, ov, oy⟩⟩ true 23 = k := ⟨_, rfl⟩
 have pn0 : (pcn == 0) = false := by
  rw [← hpn]; unfold pcA; split
  ·rfl
  ·split <;> rfl
 rw [hpn]
 have c0 : w.cell? ⟨p, 0, none⟩ = some (.int .i64 f) := B.cell 0
 have c1 : w.cell? ⟨p, 1, none⟩ = some (.int .i64 r.op) := B.cell 1
 have c2 : w.cell? ⟨p, 2, none⟩ = some (.int .i64 r.at_) := B.cell 2
 have c3 : w.cell? ⟨p, 3, none⟩ = some (.int .i64 r.fd) := B.cell 3
 have c4 : w.cell? ⟨p, 4, none⟩ = some (.int .i64 r.x.k) := B.cell 4
 have c5 : w.cell? ⟨p, 5, none⟩ = some (.int .i64 r.x.n) := B.cell 5
 have c6 : w.cell? ⟨p, 6, none⟩ = some (.int .i64 r.y.k) := B.cell 6
 have c7 : w.cell? ⟨p, 7, none⟩ = some (.int .i64 r.y.n) := B.cell 7
 have c8 : w.cell? ⟨p, 8, none⟩ = some (.bool hsh) := B.cell 8
 have c9 : w.cell? ⟨p, 9, none⟩ = some (.bool hca) := B.cell 9
 have c10 : w.cell? ⟨p, 10, none⟩ = some (.bool hfx) := B.cell 10
 have c11 : w.cell? ⟨p, 11, none⟩ = some (.int .i64 hmr) := B.cell 11
 have c12 : w.cell? ⟨p, 12, none⟩ = some (.int .i64 20) := B.cell 12
 have c13 : w.cell? ⟨p, 13, none⟩ = some (.int .u64 ww) := B.cell 13
 have c14 : w.cell? ⟨p, 14, none⟩ = some (.int .i64 a) := B.cell 14
 have c15 : w.cell? ⟨p, 15, none⟩ = some (xx) := B.cell 15
 have c16 : w.cell? ⟨p, 16, none⟩ = some (.bool sh) := B.cell 16
 have c17 : w.cell? ⟨p, 17, none⟩ = some (.int .i64 oc) := B.cell 17
 have c18 : w.cell? ⟨p, 18, none⟩ = some (.int .i64 ov.k) := B.cell 18
 have c19 : w.cell? ⟨p, 19, none⟩ = some (.int .i64 ov.n) := B.cell 19
 have c20 : w.cell? ⟨p, 20, none⟩ = some (.bool oy) := B.cell 20
 have cl := B.lt
 have cz : ∀ i, w.frozen? ⟨p, i, none⟩ = false := fun i => B.free i
 go_enter Tryz.func60, Tryz.ntmps60
 go_upto_region 16 with (fail)
 clear c0 c1 c2 c3 c4 c5 c6 c7 c8 c9 c10 c11 c12 c13 c14 c15 c16 c17 c18 c19 c20 cl cz
 have B1 : Blk w0 (w.setCell ⟨p, 16, none⟩ (.bool false)) p 129 #[.int .i64 f, .int .i64 r.op, .int .i64 r.at_, .int .i64 r.fd, .int .i64 r.x.k, .int .i64 r.x.n, .int .i64 r.y.k, .int .i64 r.y.n, .bool hsh, .bool hca, .bool hfx, .int .i64 hmr, .int .i64 20, .int .u64 ww, .int .i64 a, xx, .bool false, .int .i64 oc, .int .i64 ov.k, .int .i64 ov.n, .bool oy] := B.set 16 (.bool false)
 have T1 := h.set B 16 (.bool false)
 have O1 : Oth [p] w (w.setCell ⟨p, 16, none⟩ (.bool false)) := Oth.set _ _ _ _ (by simp)
 generalize w.setCell ⟨p, 16, none⟩ (.bool false) = w1 at B1 T1 O1 ⊢
 have c0 : w1.cell? ⟨p, 0, none⟩ = some (.int .i64 f) := B1.cell 0
 have c1 : w1.cell? ⟨p, 1, none⟩ = some (.int .i64 r.op) := B1.cell 1
 have c2 : w1.cell? ⟨p, 2, none⟩ = some (.int .i64 r.at_) := B1.cell 2
 have c3 : w1.cell? ⟨p, 3, none⟩ = some (.int .i64 r.fd) := B1.cell 3
 have c4 : w1.cell? ⟨p, 4, none⟩ = some (.int .i64 r.x.k) := B1.cell 4
 have c5 : w1.cell? ⟨p, 5, none⟩ = some (.int .i64 r.x.n) := B1.cell 5
 have c6 : w1.cell? ⟨p, 6, none⟩ = some (.int .i64 r.y.k) := B1.cell 6
 have c7 : w1.cell? ⟨p, 7, none⟩ = some (.int .i64 r.y.n) := B1.cell 7
 have c8 : w1.cell? ⟨p, 8, none⟩ = some (.bool hsh) := B1.cell 8
 have c9 : w1.cell? ⟨p, 9, none⟩ = some (.bool hca) := B1.cell 9
 have c10 : w1.cell? ⟨p, 10, none⟩ = some (.bool hfx) := B1.cell 10
 have c11 : w1.cell? ⟨p, 11, none⟩ = some (.int .i64 hmr) := B1.cell 11
 have c12 : w1.cell? ⟨p, 12, none⟩ = some (.int .i64 20) := B1.cell 12
 have c13 : w1.cell? ⟨p, 13, none⟩ = some (.int .u64 ww) := B1.cell 13
 have c14 : w1.cell? ⟨p, 14, none⟩ = some (.int .i64 a) := B1.cell 14
 have c15 : w1.cell? ⟨p, 15, none⟩ = some (xx) := B1.cell 15
 have c16 : w1.cell? ⟨p, 16, none⟩ = some (.bool false) := B1.cell 16
 have c17 : w1.cell? ⟨p, 17, none⟩ = some (.int .i64 oc) := B1.cell 17
 have c18 : w1.cell? ⟨p, 18, none⟩ = some (.int .i64 ov.k) := B1.cell 18
 have c19 : w1.cell? ⟨p, 19, none⟩ = some (.int .i64 ov.n) := B1.cell 19
 have c20 : w1.cell? ⟨p, 20, none⟩ = some (.bool oy) := B1.cell 20
 have cl := B1.lt
 have cz : ∀ i, w1.frozen? ⟨p, i, none⟩ = false := fun i => B1.free i
 go_upto_region 17 with (go_at_call 51; refine (yLoad T1 (by omega) f).mono ?_; rintro e w2 ⟨rfl, T2, o2⟩; rw [hv]; have B2 := B1.oth o2 (by simp); have O2 : Oth [p] w w2 := O1.trans (o2.mono (by simp)); clear o2 c13 cz; have c13 : w2.cell? ⟨p, 13, none⟩ = some (.int .u64 ww) := B2.cell 13; have cz : ∀ i, w2.frozen? ⟨p, i, none⟩ = false := fun i => B2.free i)
 clear c0 c1 c2 c3 c4 c5 c6 c7 c8 c9 c10 c11 c12 c13 c14 c15 c16 c17 c18 c19 c20 cl cz
 have B3 : Blk w0 (w2.setCell ⟨p, 13, none⟩ (.int .u64 v)) p 129 #[.int .i64 f, .int .i64 r.op, .int .i64 r.at_, .int .i64 r.fd, .int .i64 r.x.k, .int .i64 r.x.n, .int .i64 r.y.k, .int .i64 r.y.n, .bool hsh, .bool hca, .bool hfx, .int .i64 hmr, .int .i64 20, .int .u64 v, .int .i64 a, xx, .bool false, .int .i64 oc, .int .i64 ov.k, .int .i64 ov.n, .bool oy] := (B2.set 13 (.int .u64 v))
 have T3 := (T2.set B2 13 (.int .u64 v))
 have O3 : Oth [p] w (w2.setCell ⟨p, 13, none⟩ (.int .u64 v)) := (O2.trans (Oth.set _ _ _ _ (by simp)))
 generalize (w2.setCell ⟨p, 13, none⟩ (.int .u64 v)) = w3 at B3 T3 O3 ⊢
 have c0 : w3.cell? ⟨p, 0, none⟩ = some (.int .i64 f) := B3.cell 0
 have c1 : w3.cell? ⟨p, 1, none⟩ = some (.int .i64 r.op) := B3.cell 1
 have c2 : w3.cell? ⟨p, 2, none⟩ = some (.int .i64 r.at_) := B3.cell 2
 have c3 : w3.cell? ⟨p, 3, none⟩ = some (.int .i64 r.fd) := B3.cell 3
 have c4 : w3.cell? ⟨p, 4, none⟩ = some (.int .i64 r.x.k) := B3.cell 4
 have c5 : w3.cell? ⟨p, 5, none⟩ = some (.int .i64 r.x.n) := B3.cell 5
 have c6 : w3.cell? ⟨p, 6, none⟩ = some (.int .i64 r.y.k) := B3.cell 6
 have c7 : w3.cell? ⟨p, 7, none⟩ = some (.int .i64 r.y.n) := B3.cell 7
 have c8 : w3.cell? ⟨p, 8, none⟩ = some (.bool hsh) := B3.cell 8
 have c9 : w3.cell? ⟨p, 9, none⟩ = some (.bool hca) := B3.cell 9
 have c10 : w3.cell? ⟨p, 10, none⟩ = some (.bool hfx) := B3.cell 10
 have c11 : w3.cell? ⟨p, 11, none⟩ = some (.int .i64 hmr) := B3.cell 11
 have c12 : w3.cell? ⟨p, 12, none⟩ = some (.int .i64 20) := B3.cell 12
 have c13 : w3.cell? ⟨p, 13, none⟩ = some (.int .u64 v) := B3.cell 13
 have c14 : w3.cell? ⟨p, 14, none⟩ = some (.int .i64 a) := B3.cell 14
 have c15 : w3.cell? ⟨p, 15, none⟩ = some (xx) := B3.cell 15
 have c16 : w3.cell? ⟨p, 16, none⟩ = some (.bool false) := B3.cell 16
 have c17 : w3.cell? ⟨p, 17, none⟩ = some (.int .i64 oc) := B3.cell 17
 have c18 : w3.cell? ⟨p, 18, none⟩ = some (.int .i64 ov.k) := B3.cell 18
 have c19 : w3.cell? ⟨p, 19, none⟩ = some (.int .i64 ov.n) := B3.cell 19
 have c20 : w3.cell? ⟨p, 20, none⟩ = some (.bool oy) := B3.cell 20
 have cl := B3.lt
 have cz : ∀ i, w3.frozen? ⟨p, i, none⟩ = false := fun i => B3.free i
 go_upto_region 65 with (go_at_call 90; refine (rShades (d := ⟨f, r, ⟨hsh, hca, hfx, hmr⟩, 20, v, a, xx, false, ⟨oc, ov, oy⟩⟩) B3 hU true 23 (by decide) (by decide)).mono ?_; rintro e w4 ⟨rfl, k4, vx, B4, q4⟩; rw [hpn] at q4 ⊢; simp only [RD.withX, RD.cells] at B4; have T4 := T3.kept k4 (fun k hk => by simp at hk; subst hk; exact ⟨B3.old, _, _, _, B3.hT, B3.at_⟩); have O4 : Oth [p] w w4 := O3.trans ((Oth.kept k4).mono (by simp)); clear c12 cz; have c12 : w4.cell? ⟨p, 12, none⟩ = some (.int .i64 20) := B4.cell 12; have cz : ∀ i, w4.frozen? ⟨p, i, none⟩ = false := fun i => B4.free i)
 clear c0 c1 c2 c3 c4 c5 c6 c7 c8 c9 c10 c11 c12 c13 c14 c15 c16 c17 c18 c19 c20 cl cz
 have Q5 : pcn ≠ 23 → ∃ ps', vx = pt ps' ∧ Blk w0 (w4.setCell ⟨p, 12, none⟩ (.int .i64 pcn)) ps' 162 ((shA ⟨f, r, ⟨hsh, hca, hfx, hmr⟩, 20, v, a, xx, false, ⟨oc, ov, oy⟩⟩ true).rcells Hd.zero 0) ∧ w.heap.size ≤ ps' := fun hne => by
  obtain ⟨ps', e1, e2, e3⟩ := q4 hne
  exact ⟨ps', e1, e2.oth (Oth.set (F := [p]) _ _ _ _ (by simp)) (by simp only [List.mem_singleton]; have := B3.lt; omega), Nat.le_trans O3.size e3⟩
 have B5 : Blk w0 (w4.setCell ⟨p, 12, none⟩ (.int .i64 pcn)) p 129 #[.int .i64 f, .int .i64 r.op, .int .i64 r.at_, .int .i64 r.fd, .int .i64 r.x.k, .int .i64 r.x.n, .int .i64 r.y.k, .int .i64 r.y.n, .bool hsh, .bool hca, .bool hfx, .int .i64 hmr, .int .i64 pcn, .int .u64 v, .int .i64 a, vx, .bool false, .int .i64 oc, .int .i64 ov.k, .int .i64 ov.n, .bool oy] := (B4.set 12 (.int .i64 pcn))
 have T5 := (T4.set B4 12 (.int .i64 pcn))
 have O5 : Oth [p] w (w4.setCell ⟨p, 12, none⟩ (.int .i64 pcn)) := (O4.trans (Oth.set _ _ _ _ (by simp)))
 generalize (w4.setCell ⟨p, 12, none⟩ (.int .i64 pcn)) = w5 at B5 T5 O5 Q5 ⊢
 have c0 : w5.cell? ⟨p, 0, none⟩ = some (.int .i64 f) := B5.cell 0
 have c1 : w5.cell? ⟨p, 1, none⟩ = some (.int .i64 r.op) := B5.cell 1
 have c2 : w5.cell? ⟨p, 2, none⟩ = some (.int .i64 r.at_) := B5.cell 2
 have c3 : w5.cell? ⟨p, 3, none⟩ = some (.int .i64 r.fd) := B5.cell 3
 have c4 : w5.cell? ⟨p, 4, none⟩ = some (.int .i64 r.x.k) := B5.cell 4
 have c5 : w5.cell? ⟨p, 5, none⟩ = some (.int .i64 r.x.n) := B5.cell 5
 have c6 : w5.cell? ⟨p, 6, none⟩ = some (.int .i64 r.y.k) := B5.cell 6
 have c7 : w5.cell? ⟨p, 7, none⟩ = some (.int .i64 r.y.n) := B5.cell 7
 have c8 : w5.cell? ⟨p, 8, none⟩ = some (.bool hsh) := B5.cell 8
 have c9 : w5.cell? ⟨p, 9, none⟩ = some (.bool hca) := B5.cell 9
 have c10 : w5.cell? ⟨p, 10, none⟩ = some (.bool hfx) := B5.cell 10
 have c11 : w5.cell? ⟨p, 11, none⟩ = some (.int .i64 hmr) := B5.cell 11
 have c12 : w5.cell? ⟨p, 12, none⟩ = some (.int .i64 pcn) := B5.cell 12
 have c13 : w5.cell? ⟨p, 13, none⟩ = some (.int .u64 v) := B5.cell 13
 have c14 : w5.cell? ⟨p, 14, none⟩ = some (.int .i64 a) := B5.cell 14
 have c15 : w5.cell? ⟨p, 15, none⟩ = some (vx) := B5.cell 15
 have c16 : w5.cell? ⟨p, 16, none⟩ = some (.bool false) := B5.cell 16
 have c17 : w5.cell? ⟨p, 17, none⟩ = some (.int .i64 oc) := B5.cell 17
 have c18 : w5.cell? ⟨p, 18, none⟩ = some (.int .i64 ov.k) := B5.cell 18
 have c19 : w5.cell? ⟨p, 19, none⟩ = some (.int .i64 ov.n) := B5.cell 19
 have c20 : w5.cell? ⟨p, 20, none⟩ = some (.bool oy) := B5.cell 20
 have cl := B5.lt
 have cz : ∀ i, w5.frozen? ⟨p, i, none⟩ = false := fun i => B5.free i
 go_wp2
 go_ret
 exact ⟨rfl, vx, ⟨T5.mono (by omega), B5, O5⟩, Q5⟩
end Go.Proofs.YtpcoldpphihfmaaGreatDoor
namespace Go.Proofs.YtpcoldpphihfmaaGreatDoor
set_option linter.unusedVariables false
set_option linter.unusedSimpArgs false
set_option maxRecDepth 100000
open Go.ChangeShapes Go.WideShapes Go.RowKit
open H.Plain (hw pS pC pN pM pG pT pL mv)
set_option maxHeartbeats 4000000 in
theorem rd21n {w0 w : World} {b y p : Nat} {s1 s2 : St} {N : Nat} {d : RD} (h : Two w0 w b y s1 s2 N) (B : Blk w0 w p 129 d.cells) (hN : N + 5 < 1000000) (hpc : d.pc = 21) {x : ShadeS} {q : Hd} {z : Int} {ps : Nat} (S : Blk w0 w ps 162 (x.rcells q z)) (rf : x.Rf q z) (ok : x.Ok) (hx : d.x = pt ps) (hdn : ((x.next s2).pc == 0) = false) :
  Calls Tryz.prog 60 #[pt p, pt y] w fun e w' => e = .returned (.bool false) ∧ RdTo w0 w w' b y p s1 (x.mem s2) N ⟨d.f, d.r, d.h, 21, d.w, d.a, d.x, false, d.o⟩ [p, ps] ∧ ∃ q' z', Blk w0 w' ps 162 ((x.next s2).rcells q' z') ∧ (x.next s2).Rf q' z' := by
 obtain ⟨f, r, ⟨hsh, hca, hfx, hmr⟩, pc, ww, a, xx, sh, ⟨oc, ov, oy⟩⟩ := d
 simp only [RD.cells] at B hpc hx ⊢
 subst hpc hx
 have c0 : w.cell? ⟨p, 0, none⟩ = some (.int .i64 f) := B.cell 0
 have c1 : w.cell? ⟨p, 1, none⟩ = some (.int .i64 r.op) := B.cell 1
 have c2 : w.cell? ⟨p, 2, none⟩ = some (.int .i64 r.at_) := B.cell 2
 have c3 : w.cell? ⟨p, 3, none⟩ = some (.int .i64 r.fd) := B.cell 3
 have c4 : w.cell? ⟨p, 4, none⟩ = some (.int .i64 r.x.k) := B.cell 4
 have c5 : w.cell? ⟨p, 5, none⟩ = some (.int .i64 r.x.n) := B.cell 5
 have c6 : w.cell? ⟨p, 6, none⟩ = some (.int .i64 r.y.k) := B.cell 6
 have c7 : w.cell? ⟨p, 7, none⟩ = some (.int .i64 r.y.n) := B.cell 7
 have c8 : w.cell? ⟨p, 8, none⟩ = some (.bool hsh) := B.cell 8
 have c9 : w.cell? ⟨p, 9, none⟩ = some (.bool hca) := B.cell 9
 have c10 : w.cell? ⟨p, 10, none⟩ = some (.bool hfx) := B.cell 10
 have c11 : w.cell? ⟨p, 11, none⟩ = some (.int .i64 hmr) := B.cell 11
 have c12 : w.cell? ⟨p, 12, none⟩ = some (.int .i64 21) := B.cell 12
 have c13 : w.cell? ⟨p, 13, none⟩ = some (.int .u64 ww) := B.cell 13
 have c14 : w.cell? ⟨p, 14, none⟩ = some (.int .i64 a) := B.cell 14
 have c15 : w.cell? ⟨p, 15, none⟩ = some (pt ps) := B.cell 15
 have c16 : w.cell? ⟨p, 16, none⟩ = some (.bool sh) := B.cell 16
 have c17 : w.cell? ⟨p, 17, none⟩ = some (.int .i64 oc) := B.cell 17
 have c18 : w.cell? ⟨p, 18, none⟩ = some (.int .i64 ov.k) := B.cell 18
 have c19 : w.cell? ⟨p, 19, none⟩ = some (.int .i64 ov.n) := B.cell 19
 have c20 : w.cell? ⟨p, 20, none⟩ = some (.bool oy) := B.cell 20
 have cl := B.lt
 have cz : ∀ i, w.frozen? ⟨p, i, none⟩ = false := fun i => B.free i
 go_enter Tryz.func60, Tryz.ntmps60
 go_upto_region 19 with (fail)
 clear c0 c1 c2 c3 c4 c5 c6 c7 c8 c9 c10 c11 c12 c13 c14 c15 c16 c17 c18 c19 c20 cl cz
 have B1 : Blk w0 (w.setCell ⟨p, 16, none⟩ (.bool false)) p 129 #[.int .i64 f, .int .i64 r.op, .int .i64 r.at_, .int .i64 r.fd, .int .i64 r.x.k, .int .i64 r.x.n, .int .i64 r.y.k, .int .i64 r.y.n, .bool hsh, .bool hca, .bool hfx, .int .i64 hmr, .int .i64 21, .int .u64 ww, .int .i64 a, pt ps, .bool false, .int .i64 oc, .int .i64 ov.k, .int .i64 ov.n, .bool oy] := B.set 16 (.bool false)
 have T1 := h.set B 16 (.bool false)
 have O1 : Oth [p, ps] w (w.setCell ⟨p, 16, none⟩ (.bool false)) := Oth.set _ _ _ _ (by simp)
 have S1 := S.oth (Oth.set (F := [p]) w p 16 (.bool false) (by simp)) (by simpa using S.ne B (by decide))
 generalize w.setCell ⟨p, 16, none⟩ (.bool false) = w1 at B1 T1 O1 S1 ⊢
 have c0 : w1.cell? ⟨p, 0, none⟩ = some (.int .i64 f) := B1.cell 0
 have c1 : w1.cell? ⟨p, 1, none⟩ = some (.int .i64 r.op) := B1.cell 1
 have c2 : w1.cell? ⟨p, 2, none⟩ = some (.int .i64 r.at_) := B1.cell 2
 have c3 : w1.cell? ⟨p, 3, none⟩ = some (.int .i64 r.fd) := B1.cell 3
 have c4 : w1.cell? ⟨p, 4, none⟩ = some (.int .i64 r.x.k) := B1.cell 4
 have c5 : w1.cell? ⟨p, 5, none⟩ = some (.int .i64 r.x.n) := B1.cell 5
 have c6 : w1.cell? ⟨p, 6, none⟩ = some (.int .i64 r.y.k) := B1.cell 6
 have c7 : w1.cell? ⟨p, 7, none⟩ = some (.int .i64 r.y.n) := B1.cell 7
 have c8 : w1.cell? ⟨p, 8, none⟩ = some (.bool hsh) := B1.cell 8
 have c9 : w1.cell? ⟨p, 9, none⟩ = some (.bool hca) := B1.cell 9
 have c10 : w1.cell? ⟨p, 10, none⟩ = some (.bool hfx) := B1.cell 10
 have c11 : w1.cell? ⟨p, 11, none⟩ = some (.int .i64 hmr) := B1.cell 11
 have c12 : w1.cell? ⟨p, 12, none⟩ = some (.int .i64 21) := B1.cell 12
 have c13 : w1.cell? ⟨p, 13, none⟩ = some (.int .u64 ww) := B1.cell 13
 have c14 : w1.cell? ⟨p, 14, none⟩ = some (.int .i64 a) := B1.cell 14
 have c15 : w1.cell? ⟨p, 15, none⟩ = some (pt ps) := B1.cell 15
 have c16 : w1.cell? ⟨p, 16, none⟩ = some (.bool false) := B1.cell 16
 have c17 : w1.cell? ⟨p, 17, none⟩ = some (.int .i64 oc) := B1.cell 17
 have c18 : w1.cell? ⟨p, 18, none⟩ = some (.int .i64 ov.k) := B1.cell 18
 have c19 : w1.cell? ⟨p, 19, none⟩ = some (.int .i64 ov.n) := B1.cell 19
 have c20 : w1.cell? ⟨p, 20, none⟩ = some (.bool oy) := B1.cell 20
 have cl := B1.lt
 have cz : ∀ i, w1.frozen? ⟨p, i, none⟩ = false := fun i => B1.free i
 go_upto_region 20 with (go_at_call 91; refine (yShade T1 S1 rf ok (by omega)).mono ?_; rintro e w2 ⟨rfl, T2, ⟨q', z', S2, rf'⟩, o2⟩; rw [hdn]; have B2 := B1.oth o2 (by simpa using B1.ne S1 (by decide)); have O2 : Oth [p, ps] w w2 := O1.trans (o2.mono (by simp)))
 clear c0 c1 c2 c3 c4 c5 c6 c7 c8 c9 c10 c11 c12 c13 c14 c15 c16 c17 c18 c19 c20 cl cz
 have c0 : w2.cell? ⟨p, 0, none⟩ = some (.int .i64 f) := B2.cell 0
 have c1 : w2.cell? ⟨p, 1, none⟩ = some (.int .i64 r.op) := B2.cell 1
 have c2 : w2.cell? ⟨p, 2, none⟩ = some (.int .i64 r.at_) := B2.cell 2
 have c3 : w2.cell? ⟨p, 3, none⟩ = some (.int .i64 r.fd) := B2.cell 3
 have c4 : w2.cell? ⟨p, 4, none⟩ = some (.int .i64 r.x.k) := B2.cell 4
 have c5 : w2.cell? ⟨p, 5, none⟩ = some (.int .i64 r.x.n) := B2.cell 5
 have c6 : w2.cell? ⟨p, 6, none⟩ = some (.int .i64 r.y.k) := B2.cell 6
 have c7 : w2.cell? ⟨p, 7, none⟩ = some (.int .i64 r.y.n) := B2.cell 7
 have c8 : w2.cell? ⟨p, 8, none⟩ = some (.bool hsh) := B2.cell 8
 have c9 : w2.cell? ⟨p, 9, none⟩ = some (.bool hca) := B2.cell 9
 have c10 : w2.cell? ⟨p, 10, none⟩ = some (.bool hfx) := B2.cell 10
 have c11 : w2.cell? ⟨p, 11, none⟩ = some (.int .i64 hmr) := B2.cell 11
 have c12 : w2.cell? ⟨p, 12, none⟩ = some (.int .i64 21) := B2.cell 12
 have c13 : w2.cell? ⟨p, 13, none⟩ = some (.int .u64 ww) := B2.cell 13
 have c14 : w2.cell? ⟨p, 14, none⟩ = some (.int .i64 a) := B2.cell 14
 have c15 : w2.cell? ⟨p, 15, none⟩ = some (pt ps) := B2.cell 15
 have c16 : w2.cell? ⟨p, 16, none⟩ = some (.bool false) := B2.cell 16
 have c17 : w2.cell? ⟨p, 17, none⟩ = some (.int .i64 oc) := B2.cell 17
 have c18 : w2.cell? ⟨p, 18, none⟩ = some (.int .i64 ov.k) := B2.cell 18
 have c19 : w2.cell? ⟨p, 19, none⟩ = some (.int .i64 ov.n) := B2.cell 19
 have c20 : w2.cell? ⟨p, 20, none⟩ = some (.bool oy) := B2.cell 20
 have cl := B2.lt
 have cz : ∀ i, w2.frozen? ⟨p, i, none⟩ = false := fun i => B2.free i
 go_wp2
 go_ret
 exact ⟨rfl, ⟨T2, B2, O2⟩, q', z', S2, rf'⟩
set_option maxHeartbeats 4000000 in
theorem rd21d {w0 w : World} {b y p : Nat} {s1 s2 : St} {N : Nat} {d : RD} (h : Two w0 w b y s1 s2 N) (B : Blk w0 w p 129 d.cells) (hN : N + 5 < 1000000) (hpc : d.pc = 21) (hw : U64 d.w) {x : ShadeS} {q : Hd} {z : Int} {ps : Nat} (S : Blk w0 w ps 162 (x.rcells q z)) (rf : x.Rf q z) (ok : x.Ok) (hx : d.x = pt ps) (hdn : ((x.next s2).pc == 0) = true) :
  Calls Tryz.prog 60 #[pt p, pt y] w fun e w' => e = .returned (.bool false) ∧ ∃ vx, RdTo w0 w w' b y p s1 (x.mem s2) N ⟨d.f, d.r, d.h, pcA ⟨d.f, d.r, d.h, 21, d.w, d.a, d.x, false, d.o⟩ false 23, d.w, d.a, vx, false, d.o⟩ [p, ps] ∧ (pcA ⟨d.f, d.r, d.h, 21, d.w, d.a, d.x, false, d.o⟩ false 23 ≠ 23 → ∃ ps, vx = pt ps ∧ Blk w0 w' ps 162 ((shA ⟨d.f, d.r, d.h, 21, d.w, d.a, d.x, false, d.o⟩ false).rcells Hd.zero 0) ∧ w.heap.size ≤ ps) := by
 have hww := hw
 obtain ⟨f, r, ⟨hsh, hca, hfx, hmr⟩, pc, ww, a, xx, sh, ⟨oc, ov, oy⟩⟩ := d
 simp only [RD.cells] at B hpc hx hww ⊢
 subst hpc hx
 have c0 : w.cell? ⟨p, 0, none⟩ = some (.int .i64 f) := B.cell 0
 have c1 : w.cell? ⟨p, 1, none⟩ = some (.int .i64 r.op) := B.cell 1
 have c2 : w.cell? ⟨p, 2, none⟩ = some (.int .i64 r.at_) := B.cell 2
 have c3 : w.cell? ⟨p, 3, none⟩ = some (.int .i64 r.fd) := B.cell 3
 have c4 : w.cell? ⟨p, 4, none⟩ = some (.int .i64 r.x.k) := B.cell 4
 have c5 : w.cell? ⟨p, 5, none⟩ = some (.int .i64 r.x.n) := B.cell 5
 have c6 : w.cell? ⟨p, 6, none⟩ = some (.int .i64 r.y.k) := B.cell 6
 have c7 : w.cell? ⟨p, 7, none⟩ = some (.int .i64 r.y.n) := B.cell 7
 have c8 : w.cell? ⟨p, 8, none⟩ = some (.bool hsh) := B.cell 8
 have c9 : w.cell? ⟨p, 9, none⟩ = some (.bool hca) := B.cell 9
 have c10 : w.cell? ⟨p, 10, none⟩ = some (.bool hfx) := B.cell 10
 have c11 : w.cell? ⟨p, 11, none⟩ = some (.int .i64 hmr) := B.cell 11
 have c12 : w.cell? ⟨p, 12, none⟩ = some (.int .i64 21) := B.cell 12
 have c13 : w.cell? ⟨p, 13, none⟩ = some (.int .u64 ww) := B.cell 13
 have c14 : w.cell? ⟨p, 14, none⟩ = some (.int .i64 a) := B.cell 14
 have c15 : w.cell? ⟨p, 15, none⟩ = some (pt ps) := B.cell 15
 have c16 : w.cell? ⟨p, 16, none⟩ = some (.bool sh) := B.cell 16
 have c17 : w.cell? ⟨p, 17, none⟩ = some (.int .i64 oc) := B.cell 17
 have c18 : w.cell? ⟨p, 18, none⟩ = some (.int .i64 ov.k) := B.cell 18
 have c19 : w.cell? ⟨p, 19, none⟩ = some (.int .i64 ov.n) := B.cell 19
 have c20 : w.cell? ⟨p, 20, none⟩ = some (.bool oy) := B.cell 20
 have cl := B.lt
 have cz : ∀ i, w.frozen? ⟨p, i, none⟩ = false := fun i => B.free i
 obtain ⟨pcn, hpn⟩ : ∃ k, pcA ⟨f, r, ⟨hsh, hca, hfx, hmr⟩, 21, ww, a, pt ps, false, ⟨oc, ov, oy⟩⟩ false 23 = k := ⟨_, rfl⟩
 have pn0 : (pcn == 0) = false := by
  rw [← hpn]; unfold pcA; split
  ·rfl
  ·split <;> rfl
 rw [hpn]
 go_enter Tryz.func60, Tryz.ntmps60
 go_upto_region 19 with (fail)
 clear c0 c1 c2 c3 c4 c5 c6 c7 c8 c9 c10 c11 c12 c13 c14 c15 c16 c17 c18 c19 c20 cl cz
 have B1 : Blk w0 (w.setCell ⟨p, 16, none⟩ (.bool false)) p 129 #[.int .i64 f, .int .i64 r.op, .int .i64 r.at_, .int .i64 r.fd, .int .i64 r.x.k, .int .i64 r.x.n, .int .i64 r.y.k, .int .i64 r.y.n, .bool hsh, .bool hca, .bool hfx, .int .i64 hmr, .int .i64 21, .int .u64 ww, .int .i64 a, pt ps, .bool false, .int .i64 oc, .int .i64 ov.k, .int .i64 ov.n, .bool oy] := B.set 16 (.bool false)
 have T1 := h.set B 16 (.bool false)
 have O1 : Oth [p, ps] w (w.setCell ⟨p, 16, none⟩ (.bool false)) := Oth.set _ _ _ _ (by simp)
 have S1 := S.oth (Oth.set (F := [p]) w p 16 (.bool false) (by simp)) (by simpa using S.ne B (by decide))
 generalize w.setCell ⟨p, 16, none⟩ (.bool false) = w1 at B1 T1 O1 S1 ⊢
 have c0 : w1.cell? ⟨p, 0, none⟩ = some (.int .i64 f) := B1.cell 0
 have c1 : w1.cell? ⟨p, 1, none⟩ = some (.int .i64 r.op) := B1.cell 1
 have c2 : w1.cell? ⟨p, 2, none⟩ = some (.int .i64 r.at_) := B1.cell 2
 have c3 : w1.cell? ⟨p, 3, none⟩ = some (.int .i64 r.fd) := B1.cell 3
 have c4 : w1.cell? ⟨p, 4, none⟩ = some (.int .i64 r.x.k) := B1.cell 4
 have c5 : w1.cell? ⟨p, 5, none⟩ = some (.int .i64 r.x.n) := B1.cell 5
 have c6 : w1.cell? ⟨p, 6, none⟩ = some (.int .i64 r.y.k) := B1.cell 6
 have c7 : w1.cell? ⟨p, 7, none⟩ = some (.int .i64 r.y.n) := B1.cell 7
 have c8 : w1.cell? ⟨p, 8, none⟩ = some (.bool hsh) := B1.cell 8
 have c9 : w1.cell? ⟨p, 9, none⟩ = some (.bool hca) := B1.cell 9
 have c10 : w1.cell? ⟨p, 10, none⟩ = some (.bool hfx) := B1.cell 10
 have c11 : w1.cell? ⟨p, 11, none⟩ = some (.int .i64 hmr) := B1.cell 11
 have c12 : w1.cell? ⟨p, 12, none⟩ = some (.int .i64 21) := B1.cell 12
 have c13 : w1.cell? ⟨p, 13, none⟩ = some (.int .u64 ww) := B1.cell 13
 have c14 : w1.cell? ⟨p, 14, none⟩ = some (.int .i64 a) := B1.cell 14
 have c15 : w1.cell? ⟨p, 15, none⟩ = some (pt ps) := B1.cell 15
 have c16 : w1.cell? ⟨p, 16, none⟩ = some (.bool false) := B1.cell 16
 have c17 : w1.cell? ⟨p, 17, none⟩ = some (.int .i64 oc) := B1.cell 17
 have c18 : w1.cell? ⟨p, 18, none⟩ = some (.int .i64 ov.k) := B1.cell 18
 have c19 : w1.cell? ⟨p, 19, none⟩ = some (.int .i64 ov.n) := B1.cell 19
 have c20 : w1.cell? ⟨p, 20, none⟩ = some (.bool oy) := B1.cell 20
 have cl := B1.lt
 have cz : ∀ i, w1.frozen? ⟨p, i, none⟩ = false := fun i => B1.free i
 go_upto_region 20 with (go_at_call 91; refine (yShade T1 S1 rf ok (by omega)).mono ?_; rintro e w2 ⟨rfl, T2, ⟨q', z', S2, rf'⟩, o2⟩; rw [hdn]; have B2 := B1.oth o2 (by simpa using B1.ne S1 (by decide)); have O2 : Oth [p, ps] w w2 := O1.trans (o2.mono (by simp)))
 clear c0 c1 c2 c3 c4 c5 c6 c7 c8 c9 c10 c11 c12 c13 c14 c15 c16 c17 c18 c19 c20 cl cz
 have c0 : w2.cell? ⟨p, 0, none⟩ = some (.int .i64 f) := B2.cell 0
 have c1 : w2.cell? ⟨p, 1, none⟩ = some (.int .i64 r.op) := B2.cell 1
 have c2 : w2.cell? ⟨p, 2, none⟩ = some (.int .i64 r.at_) := B2.cell 2
 have c3 : w2.cell? ⟨p, 3, none⟩ = some (.int .i64 r.fd) := B2.cell 3
 have c4 : w2.cell? ⟨p, 4, none⟩ = some (.int .i64 r.x.k) := B2.cell 4
 have c5 : w2.cell? ⟨p, 5, none⟩ = some (.int .i64 r.x.n) := B2.cell 5
 have c6 : w2.cell? ⟨p, 6, none⟩ = some (.int .i64 r.y.k) := B2.cell 6
 have c7 : w2.cell? ⟨p, 7, none⟩ = some (.int .i64 r.y.n) := B2.cell 7
 have c8 : w2.cell? ⟨p, 8, none⟩ = some (.bool hsh) := B2.cell 8
 have c9 : w2.cell? ⟨p, 9, none⟩ = some (.bool hca) := B2.cell 9
 have c10 : w2.cell? ⟨p, 10, none⟩ = some (.bool hfx) := B2.cell 10
 have c11 : w2.cell? ⟨p, 11, none⟩ = some (.int .i64 hmr) := B2.cell 11
 have c12 : w2.cell? ⟨p, 12, none⟩ = some (.int .i64 21) := B2.cell 12
 have c13 : w2.cell? ⟨p, 13, none⟩ = some (.int .u64 ww) := B2.cell 13
 have c14 : w2.cell? ⟨p, 14, none⟩ = some (.int .i64 a) := B2.cell 14
 have c15 : w2.cell? ⟨p, 15, none⟩ = some (pt ps) := B2.cell 15
 have c16 : w2.cell? ⟨p, 16, none⟩ = some (.bool false) := B2.cell 16
 have c17 : w2.cell? ⟨p, 17, none⟩ = some (.int .i64 oc) := B2.cell 17
 have c18 : w2.cell? ⟨p, 18, none⟩ = some (.int .i64 ov.k) := B2.cell 18
 have c19 : w2.cell? ⟨p, 19, none⟩ = some (.int .i64 ov.n) := B2.cell 19
 have c20 : w2.cell? ⟨p, 20, none⟩ = some (.bool oy) := B2.cell 20
 have cl := B2.lt
 have cz : ∀ i, w2.frozen? ⟨p, i, none⟩ = false := fun i => B2.free i
 go_upto_region 65 with (go_at_call 90; refine (rShades (d := ⟨f, r, ⟨hsh, hca, hfx, hmr⟩, 21, ww, a, pt ps, false, ⟨oc, ov, oy⟩⟩) B2 hww false 23 (by decide) (by decide)).mono ?_; rintro e w3 ⟨rfl, k3, vx, B3, q3⟩; rw [hpn] at q3 ⊢; simp only [RD.withX, RD.cells] at B3; have T3 := T2.kept k3 (fun k hk => by simp at hk; subst hk; exact ⟨B2.old, _, _, _, B2.hT, B2.at_⟩); have O3 : Oth [p, ps] w w3 := O2.trans ((Oth.kept k3).mono (by simp)); clear c12 cz; have c12 : w3.cell? ⟨p, 12, none⟩ = some (.int .i64 21) := B3.cell 12; have cz : ∀ i, w3.frozen? ⟨p, i, none⟩ = false := fun i => B3.free i)
 clear c0 c1 c2 c3 c4 c5 c6 c7 c8 c9 c10 c11 c12 c13 c14 c15 c16 c17 c18 c19 c20 cl cz
 have Q4 : pcn ≠ 23 → ∃ ps', vx = pt ps' ∧ Blk w0 (w3.setCell ⟨p, 12, none⟩ (.int .i64 pcn)) ps' 162 ((shA ⟨f, r, ⟨hsh, hca, hfx, hmr⟩, 21, ww, a, pt ps, false, ⟨oc, ov, oy⟩⟩ false).rcells Hd.zero 0) ∧ w.heap.size ≤ ps' := fun hne => by
  obtain ⟨ps', e1, e2, e3⟩ := q3 hne
  exact ⟨ps', e1, e2.oth (Oth.set (F := [p]) _ _ _ _ (by simp)) (by simp only [List.mem_singleton]; have := B2.lt; omega), Nat.le_trans O2.size e3⟩
 have B4 : Blk w0 (w3.setCell ⟨p, 12, none⟩ (.int .i64 pcn)) p 129 #[.int .i64 f, .int .i64 r.op, .int .i64 r.at_, .int .i64 r.fd, .int .i64 r.x.k, .int .i64 r.x.n, .int .i64 r.y.k, .int .i64 r.y.n, .bool hsh, .bool hca, .bool hfx, .int .i64 hmr, .int .i64 pcn, .int .u64 ww, .int .i64 a, vx, .bool false, .int .i64 oc, .int .i64 ov.k, .int .i64 ov.n, .bool oy] := (B3.set 12 (.int .i64 pcn))
 have T4 := (T3.set B3 12 (.int .i64 pcn))
 have O4 : Oth [p, ps] w (w3.setCell ⟨p, 12, none⟩ (.int .i64 pcn)) := (O3.trans (Oth.set _ _ _ _ (by simp)))
 generalize (w3.setCell ⟨p, 12, none⟩ (.int .i64 pcn)) = w4 at B4 T4 O4 Q4 ⊢
 have c0 : w4.cell? ⟨p, 0, none⟩ = some (.int .i64 f) := B4.cell 0
 have c1 : w4.cell? ⟨p, 1, none⟩ = some (.int .i64 r.op) := B4.cell 1
 have c2 : w4.cell? ⟨p, 2, none⟩ = some (.int .i64 r.at_) := B4.cell 2
 have c3 : w4.cell? ⟨p, 3, none⟩ = some (.int .i64 r.fd) := B4.cell 3
 have c4 : w4.cell? ⟨p, 4, none⟩ = some (.int .i64 r.x.k) := B4.cell 4
 have c5 : w4.cell? ⟨p, 5, none⟩ = some (.int .i64 r.x.n) := B4.cell 5
 have c6 : w4.cell? ⟨p, 6, none⟩ = some (.int .i64 r.y.k) := B4.cell 6
 have c7 : w4.cell? ⟨p, 7, none⟩ = some (.int .i64 r.y.n) := B4.cell 7
 have c8 : w4.cell? ⟨p, 8, none⟩ = some (.bool hsh) := B4.cell 8
 have c9 : w4.cell? ⟨p, 9, none⟩ = some (.bool hca) := B4.cell 9
 have c10 : w4.cell? ⟨p, 10, none⟩ = some (.bool hfx) := B4.cell 10
 have c11 : w4.cell? ⟨p, 11, none⟩ = some (.int .i64 hmr) := B4.cell 11
 have c12 : w4.cell? ⟨p, 12, none⟩ = some (.int .i64 pcn) := B4.cell 12
 have c13 : w4.cell? ⟨p, 13, none⟩ = some (.int .u64 ww) := B4.cell 13
 have c14 : w4.cell? ⟨p, 14, none⟩ = some (.int .i64 a) := B4.cell 14
 have c15 : w4.cell? ⟨p, 15, none⟩ = some (vx) := B4.cell 15
 have c16 : w4.cell? ⟨p, 16, none⟩ = some (.bool false) := B4.cell 16
 have c17 : w4.cell? ⟨p, 17, none⟩ = some (.int .i64 oc) := B4.cell 17
 have c18 : w4.cell? ⟨p, 18, none⟩ = some (.int .i64 ov.k) := B4.cell 18
 have c19 : w4.cell? ⟨p, 19, none⟩ = some (.int .i64 ov.n) := B4.cell 19
 have c20 : w4.cell? ⟨p, 20, none⟩ = some (.bool oy) := B4.cell 20
 have cl := B4.lt
 have cz : ∀ i, w4.frozen? ⟨p, i, none⟩ = false := fun i => B4.free i
 go_wp2
 go_ret
 exact ⟨rfl, vx, ⟨T4.mono (by omega), B4, O4⟩, Q4⟩
set_option maxHeartbeats 4000000 in
theorem rd33n {w0 w : World} {b y p : Nat} {s1 s2 : St} {N : Nat} {d : RD} (h : Two w0 w b y s1 s2 N) (B : Blk w0 w p 129 d.cells) (hN : N + 5 < 1000000) (hpc : d.pc = 33) {x : ShadeS} {q : Hd} {z : Int} {ps : Nat} (S : Blk w0 w ps 162 (x.rcells q z)) (rf : x.Rf q z) (ok : x.Ok) (hx : d.x = pt ps) (hdn : ((x.next s2).pc == 0) = false) :
  Calls Tryz.prog 60 #[pt p, pt y] w fun e w' => e = .returned (.bool false) ∧ RdTo w0 w w' b y p s1 (x.mem s2) N ⟨d.f, d.r, d.h, 33, d.w, d.a, d.x, false, d.o⟩ [p, ps] ∧ ∃ q' z', Blk w0 w' ps 162 ((x.next s2).rcells q' z') ∧ (x.next s2).Rf q' z' := by
 obtain ⟨f, r, ⟨hsh, hca, hfx, hmr⟩, pc, ww, a, xx, sh, ⟨oc, ov, oy⟩⟩ := d
 simp only [RD.cells] at B hpc hx ⊢
 subst hpc hx
 have c0 : w.cell? ⟨p, 0, none⟩ = some (.int .i64 f) := B.cell 0
 have c1 : w.cell? ⟨p, 1, none⟩ = some (.int .i64 r.op) := B.cell 1
 have c2 : w.cell? ⟨p, 2, none⟩ = some (.int .i64 r.at_) := B.cell 2
 have c3 : w.cell? ⟨p, 3, none⟩ = some (.int .i64 r.fd) := B.cell 3
 have c4 : w.cell? ⟨p, 4, none⟩ = some (.int .i64 r.x.k) := B.cell 4
 have c5 : w.cell? ⟨p, 5, none⟩ = some (.int .i64 r.x.n) := B.cell 5
 have c6 : w.cell? ⟨p, 6, none⟩ = some (.int .i64 r.y.k) := B.cell 6
 have c7 : w.cell? ⟨p, 7, none⟩ = some (.int .i64 r.y.n) := B.cell 7
 have c8 : w.cell? ⟨p, 8, none⟩ = some (.bool hsh) := B.cell 8
 have c9 : w.cell? ⟨p, 9, none⟩ = some (.bool hca) := B.cell 9
 have c10 : w.cell? ⟨p, 10, none⟩ = some (.bool hfx) := B.cell 10
 have c11 : w.cell? ⟨p, 11, none⟩ = some (.int .i64 hmr) := B.cell 11
 have c12 : w.cell? ⟨p, 12, none⟩ = some (.int .i64 33) := B.cell 12
 have c13 : w.cell? ⟨p, 13, none⟩ = some (.int .u64 ww) := B.cell 13
 have c14 : w.cell? ⟨p, 14, none⟩ = some (.int .i64 a) := B.cell 14
 have c15 : w.cell? ⟨p, 15, none⟩ = some (pt ps) := B.cell 15
 have c16 : w.cell? ⟨p, 16, none⟩ = some (.bool sh) := B.cell 16
 have c17 : w.cell? ⟨p, 17, none⟩ = some (.int .i64 oc) := B.cell 17
 have c18 : w.cell? ⟨p, 18, none⟩ = some (.int .i64 ov.k) := B.cell 18
 have c19 : w.cell? ⟨p, 19, none⟩ = some (.int .i64 ov.n) := B.cell 19
 have c20 : w.cell? ⟨p, 20, none⟩ = some (.bool oy) := B.cell 20
 have cl := B.lt
 have cz : ∀ i, w.frozen? ⟨p, i, none⟩ = false := fun i => B.free i
 go_enter Tryz.func60, Tryz.ntmps60
 go_upto_region 51 with (fail)
 clear c0 c1 c2 c3 c4 c5 c6 c7 c8 c9 c10 c11 c12 c13 c14 c15 c16 c17 c18 c19 c20 cl cz
 have B1 : Blk w0 (w.setCell ⟨p, 16, none⟩ (.bool false)) p 129 #[.int .i64 f, .int .i64 r.op, .int .i64 r.at_, .int .i64 r.fd, .int .i64 r.x.k, .int .i64 r.x.n, .int .i64 r.y.k, .int .i64 r.y.n, .bool hsh, .bool hca, .bool hfx, .int .i64 hmr, .int .i64 33, .int .u64 ww, .int .i64 a, pt ps, .bool false, .int .i64 oc, .int .i64 ov.k, .int .i64 ov.n, .bool oy] := B.set 16 (.bool false)
 have T1 := h.set B 16 (.bool false)
 have O1 : Oth [p, ps] w (w.setCell ⟨p, 16, none⟩ (.bool false)) := Oth.set _ _ _ _ (by simp)
 have S1 := S.oth (Oth.set (F := [p]) w p 16 (.bool false) (by simp)) (by simpa using S.ne B (by decide))
 generalize w.setCell ⟨p, 16, none⟩ (.bool false) = w1 at B1 T1 O1 S1 ⊢
 have c0 : w1.cell? ⟨p, 0, none⟩ = some (.int .i64 f) := B1.cell 0
 have c1 : w1.cell? ⟨p, 1, none⟩ = some (.int .i64 r.op) := B1.cell 1
 have c2 : w1.cell? ⟨p, 2, none⟩ = some (.int .i64 r.at_) := B1.cell 2
 have c3 : w1.cell? ⟨p, 3, none⟩ = some (.int .i64 r.fd) := B1.cell 3
 have c4 : w1.cell? ⟨p, 4, none⟩ = some (.int .i64 r.x.k) := B1.cell 4
 have c5 : w1.cell? ⟨p, 5, none⟩ = some (.int .i64 r.x.n) := B1.cell 5
 have c6 : w1.cell? ⟨p, 6, none⟩ = some (.int .i64 r.y.k) := B1.cell 6
 have c7 : w1.cell? ⟨p, 7, none⟩ = some (.int .i64 r.y.n) := B1.cell 7
 have c8 : w1.cell? ⟨p, 8, none⟩ = some (.bool hsh) := B1.cell 8
 have c9 : w1.cell? ⟨p, 9, none⟩ = some (.bool hca) := B1.cell 9
 have c10 : w1.cell? ⟨p, 10, none⟩ = some (.bool hfx) := B1.cell 10
 have c11 : w1.cell? ⟨p, 11, none⟩ = some (.int .i64 hmr) := B1.cell 11
 have c12 : w1.cell? ⟨p, 12, none⟩ = some (.int .i64 33) := B1.cell 12
 have c13 : w1.cell? ⟨p, 13, none⟩ = some (.int .u64 ww) := B1.cell 13
 have c14 : w1.cell? ⟨p, 14, none⟩ = some (.int .i64 a) := B1.cell 14
 have c15 : w1.cell? ⟨p, 15, none⟩ = some (pt ps) := B1.cell 15
 have c16 : w1.cell? ⟨p, 16, none⟩ = some (.bool false) := B1.cell 16
 have c17 : w1.cell? ⟨p, 17, none⟩ = some (.int .i64 oc) := B1.cell 17
 have c18 : w1.cell? ⟨p, 18, none⟩ = some (.int .i64 ov.k) := B1.cell 18
 have c19 : w1.cell? ⟨p, 19, none⟩ = some (.int .i64 ov.n) := B1.cell 19
 have c20 : w1.cell? ⟨p, 20, none⟩ = some (.bool oy) := B1.cell 20
 have cl := B1.lt
 have cz : ∀ i, w1.frozen? ⟨p, i, none⟩ = false := fun i => B1.free i
 go_upto_region 52 with (go_at_call 91; refine (yShade T1 S1 rf ok (by omega)).mono ?_; rintro e w2 ⟨rfl, T2, ⟨q', z', S2, rf'⟩, o2⟩; rw [hdn]; have B2 := B1.oth o2 (by simpa using B1.ne S1 (by decide)); have O2 : Oth [p, ps] w w2 := O1.trans (o2.mono (by simp)))
 clear c0 c1 c2 c3 c4 c5 c6 c7 c8 c9 c10 c11 c12 c13 c14 c15 c16 c17 c18 c19 c20 cl cz
 have c0 : w2.cell? ⟨p, 0, none⟩ = some (.int .i64 f) := B2.cell 0
 have c1 : w2.cell? ⟨p, 1, none⟩ = some (.int .i64 r.op) := B2.cell 1
 have c2 : w2.cell? ⟨p, 2, none⟩ = some (.int .i64 r.at_) := B2.cell 2
 have c3 : w2.cell? ⟨p, 3, none⟩ = some (.int .i64 r.fd) := B2.cell 3
 have c4 : w2.cell? ⟨p, 4, none⟩ = some (.int .i64 r.x.k) := B2.cell 4
 have c5 : w2.cell? ⟨p, 5, none⟩ = some (.int .i64 r.x.n) := B2.cell 5
 have c6 : w2.cell? ⟨p, 6, none⟩ = some (.int .i64 r.y.k) := B2.cell 6
 have c7 : w2.cell? ⟨p, 7, none⟩ = some (.int .i64 r.y.n) := B2.cell 7
 have c8 : w2.cell? ⟨p, 8, none⟩ = some (.bool hsh) := B2.cell 8
 have c9 : w2.cell? ⟨p, 9, none⟩ = some (.bool hca) := B2.cell 9
 have c10 : w2.cell? ⟨p, 10, none⟩ = some (.bool hfx) := B2.cell 10
 have c11 : w2.cell? ⟨p, 11, none⟩ = some (.int .i64 hmr) := B2.cell 11
 have c12 : w2.cell? ⟨p, 12, none⟩ = some (.int .i64 33) := B2.cell 12
 have c13 : w2.cell? ⟨p, 13, none⟩ = some (.int .u64 ww) := B2.cell 13
 have c14 : w2.cell? ⟨p, 14, none⟩ = some (.int .i64 a) := B2.cell 14
 have c15 : w2.cell? ⟨p, 15, none⟩ = some (pt ps) := B2.cell 15
 have c16 : w2.cell? ⟨p, 16, none⟩ = some (.bool false) := B2.cell 16
 have c17 : w2.cell? ⟨p, 17, none⟩ = some (.int .i64 oc) := B2.cell 17
 have c18 : w2.cell? ⟨p, 18, none⟩ = some (.int .i64 ov.k) := B2.cell 18
 have c19 : w2.cell? ⟨p, 19, none⟩ = some (.int .i64 ov.n) := B2.cell 19
 have c20 : w2.cell? ⟨p, 20, none⟩ = some (.bool oy) := B2.cell 20
 have cl := B2.lt
 have cz : ∀ i, w2.frozen? ⟨p, i, none⟩ = false := fun i => B2.free i
 go_wp2
 go_ret
 exact ⟨rfl, ⟨T2, B2, O2⟩, q', z', S2, rf'⟩
set_option maxHeartbeats 4000000 in
theorem rd33d {w0 w : World} {b y p : Nat} {s1 s2 : St} {N : Nat} {d : RD} (h : Two w0 w b y s1 s2 N) (B : Blk w0 w p 129 d.cells) (hN : N + 5 < 1000000) (hpc : d.pc = 33) (hw : U64 d.w) {x : ShadeS} {q : Hd} {z : Int} {ps : Nat} (S : Blk w0 w ps 162 (x.rcells q z)) (rf : x.Rf q z) (ok : x.Ok) (hx : d.x = pt ps) (hdn : ((x.next s2).pc == 0) = true) :
  Calls Tryz.prog 60 #[pt p, pt y] w fun e w' => e = .returned (.bool false) ∧ ∃ vx, RdTo w0 w w' b y p s1 (x.mem s2) N ⟨d.f, d.r, d.h, pcA ⟨d.f, d.r, d.h, 33, d.w, d.a, d.x, false, d.o⟩ false 35, d.w, d.a, vx, false, d.o⟩ [p, ps] ∧ (pcA ⟨d.f, d.r, d.h, 33, d.w, d.a, d.x, false, d.o⟩ false 35 ≠ 35 → ∃ ps, vx = pt ps ∧ Blk w0 w' ps 162 ((shA ⟨d.f, d.r, d.h, 33, d.w, d.a, d.x, false, d.o⟩ false).rcells Hd.zero 0) ∧ w.heap.size ≤ ps) := by
 have hww := hw
 obtain ⟨f, r, ⟨hsh, hca, hfx, hmr⟩, pc, ww, a, xx, sh, ⟨oc, ov, oy⟩⟩ := d
 simp only [RD.cells] at B hpc hx hww ⊢
 subst hpc hx
 have c0 : w.cell? ⟨p, 0, none⟩ = some (.int .i64 f) := B.cell 0
 have c1 : w.cell? ⟨p, 1, none⟩ = some (.int .i64 r.op) := B.cell 1
 have c2 : w.cell? ⟨p, 2, none⟩ = some (.int .i64 r.at_) := B.cell 2
 have c3 : w.cell? ⟨p, 3, none⟩ = some (.int .i64 r.fd) := B.cell 3
 have c4 : w.cell? ⟨p, 4, none⟩ = some (.int .i64 r.x.k) := B.cell 4
 have c5 : w.cell? ⟨p, 5, none⟩ = some (.int .i64 r.x.n) := B.cell 5
 have c6 : w.cell? ⟨p, 6, none⟩ = some (.int .i64 r.y.k) := B.cell 6
 have c7 : w.cell? ⟨p, 7, none⟩ = some (.int .i64 r.y.n) := B.cell 7
 have c8 : w.cell? ⟨p, 8, none⟩ = some (.bool hsh) := B.cell 8
 have c9 : w.cell? ⟨p, 9, none⟩ = some (.bool hca) := B.cell 9
 have c10 : w.cell? ⟨p, 10, none⟩ = some (.bool hfx) := B.cell 10
 have c11 : w.cell? ⟨p, 11, none⟩ = some (.int .i64 hmr) := B.cell 11
 have c12 : w.cell? ⟨p, 12, none⟩ = some (.int .i64 33) := B.cell 12
 have c13 : w.cell? ⟨p, 13, none⟩ = some (.int .u64 ww) := B.cell 13
 have c14 : w.cell? ⟨p, 14, none⟩ = some (.int .i64 a) := B.cell 14
 have c15 : w.cell? ⟨p, 15, none⟩ = some (pt ps) := B.cell 15
 have c16 : w.cell? ⟨p, 16, none⟩ = some (.bool sh) := B.cell 16
 have c17 : w.cell? ⟨p, 17, none⟩ = some (.int .i64 oc) := B.cell 17
 have c18 : w.cell? ⟨p, 18, none⟩ = some (.int .i64 ov.k) := B.cell 18
 have c19 : w.cell? ⟨p, 19, none⟩ = some (.int .i64 ov.n) := B.cell 19
 have c20 : w.cell? ⟨p, 20, none⟩ = some (.bool oy) := B.cell 20
 have cl := B.lt
 have cz : ∀ i, w.frozen? ⟨p, i, none⟩ = false := fun i => B.free i
 obtain ⟨pcn, hpn⟩ : ∃ k, pcA ⟨f, r, ⟨hsh, hca, hfx, hmr⟩, 33, ww, a, pt ps, false, ⟨oc, ov, oy⟩⟩ false 35 = k := ⟨_, rfl⟩
 have pn0 : (pcn == 0) = false := by
  rw [← hpn]; unfold pcA; split
  ·rfl
  ·split <;> rfl
 rw [hpn]
 go_enter Tryz.func60, Tryz.ntmps60
 go_upto_region 51 with (fail)
 clear c0 c1 c2 c3 c4 c5 c6 c7 c8 c9 c10 c11 c12 c13 c14 c15 c16 c17 c18 c19 c20 cl cz
 have B1 : Blk w0 (w.setCell ⟨p, 16, none⟩ (.bool false)) p 129 #[.int .i64 f, .int .i64 r.op, .int .i64 r.at_, .int .i64 r.fd, .int .i64 r.x.k, .int .i64 r.x.n, .int .i64 r.y.k, .int .i64 r.y.n, .bool hsh, .bool hca, .bool hfx, .int .i64 hmr, .int .i64 33, .int .u64 ww, .int .i64 a, pt ps, .bool false, .int .i64 oc, .int .i64 ov.k, .int .i64 ov.n, .bool oy] := B.set 16 (.bool false)
 have T1 := h.set B 16 (.bool false)
 have O1 : Oth [p, ps] w (w.setCell ⟨p, 16, none⟩ (.bool false)) := Oth.set _ _ _ _ (by simp)
 have S1 := S.oth (Oth.set (F := [p]) w p 16 (.bool false) (by simp)) (by simpa using S.ne B (by decide))
 generalize w.setCell ⟨p, 16, none⟩ (.bool false) = w1 at B1 T1 O1 S1 ⊢
 have c0 : w1.cell? ⟨p, 0, none⟩ = some (.int .i64 f) := B1.cell 0
 have c1 : w1.cell? ⟨p, 1, none⟩ = some (.int .i64 r.op) := B1.cell 1
 have c2 : w1.cell? ⟨p, 2, none⟩ = some (.int .i64 r.at_) := B1.cell 2
 have c3 : w1.cell? ⟨p, 3, none⟩ = some (.int .i64 r.fd) := B1.cell 3
 have c4 : w1.cell? ⟨p, 4, none⟩ = some (.int .i64 r.x.k) := B1.cell 4
 have c5 : w1.cell? ⟨p, 5, none⟩ = some (.int .i64 r.x.n) := B1.cell 5
 have c6 : w1.cell? ⟨p, 6, none⟩ = some (.int .i64 r.y.k) := B1.cell 6
 have c7 : w1.cell? ⟨p, 7, none⟩ = some (.int .i64 r.y.n) := B1.cell 7
 have c8 : w1.cell? ⟨p, 8, none⟩ = some (.bool hsh) := B1.cell 8
 have c9 : w1.cell? ⟨p, 9, none⟩ = some (.bool hca) := B1.cell 9
 have c10 : w1.cell? ⟨p, 10, none⟩ = some (.bool hfx) := B1.cell 10
 have c11 : w1.cell? ⟨p, 11, none⟩ = some (.int .i64 hmr) := B1.cell 11
 have c12 : w1.cell? ⟨p, 12, none⟩ = some (.int .i64 33) := B1.cell 12
 have c13 : w1.cell? ⟨p, 13, none⟩ = some (.int .u64 ww) := B1.cell 13
 have c14 : w1.cell? ⟨p, 14, none⟩ = some (.int .i64 a) := B1.cell 14
 have c15 : w1.cell? ⟨p, 15, none⟩ = some (pt ps) := B1.cell 15
 have c16 : w1.cell? ⟨p, 16, none⟩ = some (.bool false) := B1.cell 16
 have c17 : w1.cell? ⟨p, 17, none⟩ = some (.int .i64 oc) := B1.cell 17
 have c18 : w1.cell? ⟨p, 18, none⟩ = some (.int .i64 ov.k) := B1.cell 18
 have c19 : w1.cell? ⟨p, 19, none⟩ = some (.int .i64 ov.n) := B1.cell 19
 have c20 : w1.cell? ⟨p, 20, none⟩ = some (.bool oy) := B1.cell 20
 have cl := B1.lt
 have cz : ∀ i, w1.frozen? ⟨p, i, none⟩ = false := fun i => B1.free i
 go_upto_region 52 with (go_at_call 91; refine (yShade T1 S1 rf ok (by omega)).mono ?_; rintro e w2 ⟨rfl, T2, ⟨q', z', S2, rf'⟩, o2⟩; rw [hdn]; have B2 := B1.oth o2 (by simpa using B1.ne S1 (by decide)); have O2 : Oth [p, ps] w w2 := O1.trans (o2.mono (by simp)))
 clear c0 c1 c2 c3 c4 c5 c6 c7 c8 c9 c10 c11 c12 c13 c14 c15 c16 c17 c18 c19 c20 cl cz
 have c0 : w2.cell? ⟨p, 0, none⟩ = some (.int .i64 f) := B2.cell 0
 have c1 : w2.cell? ⟨p, 1, none⟩ = some (.int .i64 r.op) := B2.cell 1
 have c2 : w2.cell? ⟨p, 2, none⟩ = some (.int .i64 r.at_) := B2.cell 2
 have c3 : w2.cell? ⟨p, 3, none⟩ = some (.int .i64 r.fd) := B2.cell 3
 have c4 : w2.cell? ⟨p, 4, none⟩ = some (.int .i64 r.x.k) := B2.cell 4
 have c5 : w2.cell? ⟨p, 5, none⟩ = some (.int .i64 r.x.n) := B2.cell 5
 have c6 : w2.cell? ⟨p, 6, none⟩ = some (.int .i64 r.y.k) := B2.cell 6
 have c7 : w2.cell? ⟨p, 7, none⟩ = some (.int .i64 r.y.n) := B2.cell 7
 have c8 : w2.cell? ⟨p, 8, none⟩ = some (.bool hsh) := B2.cell 8
 have c9 : w2.cell? ⟨p, 9, none⟩ = some (.bool hca) := B2.cell 9
 have c10 : w2.cell? ⟨p, 10, none⟩ = some (.bool hfx) := B2.cell 10
 have c11 : w2.cell? ⟨p, 11, none⟩ = some (.int .i64 hmr) := B2.cell 11
 have c12 : w2.cell? ⟨p, 12, none⟩ = some (.int .i64 33) := B2.cell 12
 have c13 : w2.cell? ⟨p, 13, none⟩ = some (.int .u64 ww) := B2.cell 13
 have c14 : w2.cell? ⟨p, 14, none⟩ = some (.int .i64 a) := B2.cell 14
 have c15 : w2.cell? ⟨p, 15, none⟩ = some (pt ps) := B2.cell 15
 have c16 : w2.cell? ⟨p, 16, none⟩ = some (.bool false) := B2.cell 16
 have c17 : w2.cell? ⟨p, 17, none⟩ = some (.int .i64 oc) := B2.cell 17
 have c18 : w2.cell? ⟨p, 18, none⟩ = some (.int .i64 ov.k) := B2.cell 18
 have c19 : w2.cell? ⟨p, 19, none⟩ = some (.int .i64 ov.n) := B2.cell 19
 have c20 : w2.cell? ⟨p, 20, none⟩ = some (.bool oy) := B2.cell 20
 have cl := B2.lt
 have cz : ∀ i, w2.frozen? ⟨p, i, none⟩ = false := fun i => B2.free i
 go_upto_region 65 with (go_at_call 90; refine (rShades (d := ⟨f, r, ⟨hsh, hca, hfx, hmr⟩, 33, ww, a, pt ps, false, ⟨oc, ov, oy⟩⟩) B2 hww false 35 (by decide) (by decide)).mono ?_; rintro e w3 ⟨rfl, k3, vx, B3, q3⟩; rw [hpn] at q3 ⊢; simp only [RD.withX, RD.cells] at B3; have T3 := T2.kept k3 (fun k hk => by simp at hk; subst hk; exact ⟨B2.old, _, _, _, B2.hT, B2.at_⟩); have O3 : Oth [p, ps] w w3 := O2.trans ((Oth.kept k3).mono (by simp)); clear c12 cz; have c12 : w3.cell? ⟨p, 12, none⟩ = some (.int .i64 33) := B3.cell 12; have cz : ∀ i, w3.frozen? ⟨p, i, none⟩ = false := fun i => B3.free i)
 clear c0 c1 c2 c3 c4 c5 c6 c7 c8 c9 c10 c11 c12 c13 c14 c15 c16 c17 c18 c19 c20 cl cz
 have Q4 : pcn ≠ 35 → ∃ ps', vx = pt ps' ∧ Blk w0 (w3.setCell ⟨p, 12, none⟩ (.int .i64 pcn)) ps' 162 ((shA ⟨f, r, ⟨hsh, hca, hfx, hmr⟩, 33, ww, a, pt ps, false, ⟨oc, ov, oy⟩⟩ false).rcells Hd.zero 0) ∧ w.heap.size ≤ ps' := fun hne => by
  obtain ⟨ps', e1, e2, e3⟩ := q3 hne
  exact ⟨ps', e1, e2.oth (Oth.set (F := [p]) _ _ _ _ (by simp)) (by simp only [List.mem_singleton]; have := B2.lt; omega), Nat.le_trans O2.size e3⟩
 have B4 : Blk w0 (w3.setCell ⟨p, 12, none⟩ (.int .i64 pcn)) p 129 #[.int .i64 f, .int .i64 r.op, .int .i64 r.at_, .int .i64 r.fd, .int .i64 r.x.k, .int .i64 r.x.n, .int .i64 r.y.k, .int .i64 r.y.n, .bool hsh, .bool hca, .bool hfx, .int .i64 hmr, .int .i64 pcn, .int .u64 ww, .int .i64 a, vx, .bool false, .int .i64 oc, .int .i64 ov.k, .int .i64 ov.n, .bool oy] := (B3.set 12 (.int .i64 pcn))
 have T4 := (T3.set B3 12 (.int .i64 pcn))
 have O4 : Oth [p, ps] w (w3.setCell ⟨p, 12, none⟩ (.int .i64 pcn)) := (O3.trans (Oth.set _ _ _ _ (by simp)))
 generalize (w3.setCell ⟨p, 12, none⟩ (.int .i64 pcn)) = w4 at B4 T4 O4 Q4 ⊢
 have c0 : w4.cell? ⟨p, 0, none⟩ = some (.int .i64 f) := B4.cell 0
 have c1 : w4.cell? ⟨p, 1, none⟩ = some (.int .i64 r.op) := B4.cell 1
 have c2 : w4.cell? ⟨p, 2, none⟩ = some (.int .i64 r.at_) := B4.cell 2
 have c3 : w4.cell? ⟨p, 3, none⟩ = some (.int .i64 r.fd) := B4.cell 3
 have c4 : w4.cell? ⟨p, 4, none⟩ = some (.int .i64 r.x.k) := B4.cell 4
 have c5 : w4.cell? ⟨p, 5, none⟩ = some (.int .i64 r.x.n) := B4.cell 5
 have c6 : w4.cell? ⟨p, 6, none⟩ = some (.int .i64 r.y.k) := B4.cell 6
 have c7 : w4.cell? ⟨p, 7, none⟩ = some (.int .i64 r.y.n) := B4.cell 7
 have c8 : w4.cell? ⟨p, 8, none⟩ = some (.bool hsh) := B4.cell 8
 have c9 : w4.cell? ⟨p, 9, none⟩ = some (.bool hca) := B4.cell 9
 have c10 : w4.cell? ⟨p, 10, none⟩ = some (.bool hfx) := B4.cell 10
 have c11 : w4.cell? ⟨p, 11, none⟩ = some (.int .i64 hmr) := B4.cell 11
 have c12 : w4.cell? ⟨p, 12, none⟩ = some (.int .i64 pcn) := B4.cell 12
 have c13 : w4.cell? ⟨p, 13, none⟩ = some (.int .u64 ww) := B4.cell 13
 have c14 : w4.cell? ⟨p, 14, none⟩ = some (.int .i64 a) := B4.cell 14
 have c15 : w4.cell? ⟨p, 15, none⟩ = some (vx) := B4.cell 15
 have c16 : w4.cell? ⟨p, 16, none⟩ = some (.bool false) := B4.cell 16
 have c17 : w4.cell? ⟨p, 17, none⟩ = some (.int .i64 oc) := B4.cell 17
 have c18 : w4.cell? ⟨p, 18, none⟩ = some (.int .i64 ov.k) := B4.cell 18
 have c19 : w4.cell? ⟨p, 19, none⟩ = some (.int .i64 ov.n) := B4.cell 19
 have c20 : w4.cell? ⟨p, 20, none⟩ = some (.bool oy) := B4.cell 20
 have cl := B4.lt
 have cz : ∀ i, w4.frozen? ⟨p, i, none⟩ = false := fun i => B4.free i
 go_wp2
 go_ret
 exact ⟨rfl, vx, ⟨T4.mono (by omega), B4, O4⟩, Q4⟩
set_option maxHeartbeats 4000000 in
theorem rd22n {w0 w : World} {b y p : Nat} {s1 s2 : St} {N : Nat} {d : RD} (h : Two w0 w b y s1 s2 N) (B : Blk w0 w p 129 d.cells) (hN : N + 5 < 1000000) (hpc : d.pc = 22) {x : ShadeS} {q : Hd} {z : Int} {ps : Nat} (S : Blk w0 w ps 162 (x.rcells q z)) (rf : x.Rf q z) (ok : x.Ok) (hx : d.x = pt ps) (hdn : ((x.next s2).pc == 0) = false) :
  Calls Tryz.prog 60 #[pt p, pt y] w fun e w' => e = .returned (.bool false) ∧ RdTo w0 w w' b y p s1 (x.mem s2) N ⟨d.f, d.r, d.h, 22, d.w, d.a, d.x, false, d.o⟩ [p, ps] ∧ ∃ q' z', Blk w0 w' ps 162 ((x.next s2).rcells q' z') ∧ (x.next s2).Rf q' z' := by
 obtain ⟨f, r, ⟨hsh, hca, hfx, hmr⟩, pc, ww, a, xx, sh, ⟨oc, ov, oy⟩⟩ := d
 simp only [RD.cells] at B hpc hx ⊢
 subst hpc hx
 have c0 : w.cell? ⟨p, 0, none⟩ = some (.int .i64 f) := B.cell 0
 have c1 : w.cell? ⟨p, 1, none⟩ = some (.int .i64 r.op) := B.cell 1
 have c2 : w.cell? ⟨p, 2, none⟩ = some (.int .i64 r.at_) := B.cell 2
 have c3 : w.cell? ⟨p, 3, none⟩ = some (.int .i64 r.fd) := B.cell 3
 have c4 : w.cell? ⟨p, 4, none⟩ = some (.int .i64 r.x.k) := B.cell 4
 have c5 : w.cell? ⟨p, 5, none⟩ = some (.int .i64 r.x.n) := B.cell 5
 have c6 : w.cell? ⟨p, 6, none⟩ = some (.int .i64 r.y.k) := B.cell 6
 have c7 : w.cell? ⟨p, 7, none⟩ = some (.int .i64 r.y.n) := B.cell 7
 have c8 : w.cell? ⟨p, 8, none⟩ = some (.bool hsh) := B.cell 8
 have c9 : w.cell? ⟨p, 9, none⟩ = some (.bool hca) := B.cell 9
 have c10 : w.cell? ⟨p, 10, none⟩ = some (.bool hfx) := B.cell 10
 have c11 : w.cell? ⟨p, 11, none⟩ = some (.int .i64 hmr) := B.cell 11
 have c12 : w.cell? ⟨p, 12, none⟩ = some (.int .i64 22) := B.cell 12
 have c13 : w.cell? ⟨p, 13, none⟩ = some (.int .u64 ww) := B.cell 13
 have c14 : w.cell? ⟨p, 14, none⟩ = some (.int .i64 a) := B.cell 14
 have c15 : w.cell? ⟨p, 15, none⟩ = some (pt ps) := B.cell 15
 have c16 : w.cell? ⟨p, 16, none⟩ = some (.bool sh) := B.cell 16
 have c17 : w.cell? ⟨p, 17, none⟩ = some (.int .i64 oc) := B.cell 17
 have c18 : w.cell? ⟨p, 18, none⟩ = some (.int .i64 ov.k) := B.cell 18
 have c19 : w.cell? ⟨p, 19, none⟩ = some (.int .i64 ov.n) := B.cell 19
 have c20 : w.cell? ⟨p, 20, none⟩ = some (.bool oy) := B.cell 20
 have cl := B.lt
 have cz : ∀ i, w.frozen? ⟨p, i, none⟩ = false := fun i => B.free i
 go_enter Tryz.func60, Tryz.ntmps60
 go_upto_region 23 with (fail)
 clear c0 c1 c2 c3 c4 c5 c6 c7 c8 c9 c10 c11 c12 c13 c14 c15 c16 c17 c18 c19 c20 cl cz
 have B1 : Blk w0 (w.setCell ⟨p, 16, none⟩ (.bool false)) p 129 #[.int .i64 f, .int .i64 r.op, .int .i64 r.at_, .int .i64 r.fd, .int .i64 r.x.k, .int .i64 r.x.n, .int .i64 r.y.k, .int .i64 r.y.n, .bool hsh, .bool hca, .bool hfx, .int .i64 hmr, .int .i64 22, .int .u64 ww, .int .i64 a, pt ps, .bool false, .int .i64 oc, .int .i64 ov.k, .int .i64 ov.n, .bool oy] := B.set 16 (.bool false)
 have T1 := h.set B 16 (.bool false)
 have O1 : Oth [p, ps] w (w.setCell ⟨p, 16, none⟩ (.bool false)) := Oth.set _ _ _ _ (by simp)
 have S1 := S.oth (Oth.set (F := [p]) w p 16 (.bool false) (by simp)) (by simpa using S.ne B (by decide))
 generalize w.setCell ⟨p, 16, none⟩ (.bool false) = w1 at B1 T1 O1 S1 ⊢
 have c0 : w1.cell? ⟨p, 0, none⟩ = some (.int .i64 f) := B1.cell 0
 have c1 : w1.cell? ⟨p, 1, none⟩ = some (.int .i64 r.op) := B1.cell 1
 have c2 : w1.cell? ⟨p, 2, none⟩ = some (.int .i64 r.at_) := B1.cell 2
 have c3 : w1.cell? ⟨p, 3, none⟩ = some (.int .i64 r.fd) := B1.cell 3
 have c4 : w1.cell? ⟨p, 4, none⟩ = some (.int .i64 r.x.k) := B1.cell 4
 have c5 : w1.cell? ⟨p, 5, none⟩ = some (.int .i64 r.x.n) := B1.cell 5
 have c6 : w1.cell? ⟨p, 6, none⟩ = some (.int .i64 r.y.k) := B1.cell 6
 have c7 : w1.cell? ⟨p, 7, none⟩ = some (.int .i64 r.y.n) := B1.cell 7
 have c8 : w1.cell? ⟨p, 8, none⟩ = some (.bool hsh) := B1.cell 8
 have c9 : w1.cell? ⟨p, 9, none⟩ = some (.bool hca) := B1.cell 9
 have c10 : w1.cell? ⟨p, 10, none⟩ = some (.bool hfx) := B1.cell 10
 have c11 : w1.cell? ⟨p, 11, none⟩ = some (.int .i64 hmr) := B1.cell 11
 have c12 : w1.cell? ⟨p, 12, none⟩ = some (.int .i64 22) := B1.cell 12
 have c13 : w1.cell? ⟨p, 13, none⟩ = some (.int .u64 ww) := B1.cell 13
 have c14 : w1.cell? ⟨p, 14, none⟩ = some (.int .i64 a) := B1.cell 14
 have c15 : w1.cell? ⟨p, 15, none⟩ = some (pt ps) := B1.cell 15
 have c16 : w1.cell? ⟨p, 16, none⟩ = some (.bool false) := B1.cell 16
 have c17 : w1.cell? ⟨p, 17, none⟩ = some (.int .i64 oc) := B1.cell 17
 have c18 : w1.cell? ⟨p, 18, none⟩ = some (.int .i64 ov.k) := B1.cell 18
 have c19 : w1.cell? ⟨p, 19, none⟩ = some (.int .i64 ov.n) := B1.cell 19
 have c20 : w1.cell? ⟨p, 20, none⟩ = some (.bool oy) := B1.cell 20
 have cl := B1.lt
 have cz : ∀ i, w1.frozen? ⟨p, i, none⟩ = false := fun i => B1.free i
 go_upto_region 24 with (go_at_call 91; refine (yShade T1 S1 rf ok (by omega)).mono ?_; rintro e w2 ⟨rfl, T2, ⟨q', z', S2, rf'⟩, o2⟩; rw [hdn]; have B2 := B1.oth o2 (by simpa using B1.ne S1 (by decide)); have O2 : Oth [p, ps] w w2 := O1.trans (o2.mono (by simp)))
 clear c0 c1 c2 c3 c4 c5 c6 c7 c8 c9 c10 c11 c12 c13 c14 c15 c16 c17 c18 c19 c20 cl cz
 have c0 : w2.cell? ⟨p, 0, none⟩ = some (.int .i64 f) := B2.cell 0
 have c1 : w2.cell? ⟨p, 1, none⟩ = some (.int .i64 r.op) := B2.cell 1
 have c2 : w2.cell? ⟨p, 2, none⟩ = some (.int .i64 r.at_) := B2.cell 2
 have c3 : w2.cell? ⟨p, 3, none⟩ = some (.int .i64 r.fd) := B2.cell 3
 have c4 : w2.cell? ⟨p, 4, none⟩ = some (.int .i64 r.x.k) := B2.cell 4
 have c5 : w2.cell? ⟨p, 5, none⟩ = some (.int .i64 r.x.n) := B2.cell 5
 have c6 : w2.cell? ⟨p, 6, none⟩ = some (.int .i64 r.y.k) := B2.cell 6
 have c7 : w2.cell? ⟨p, 7, none⟩ = some (.int .i64 r.y.n) := B2.cell 7
 have c8 : w2.cell? ⟨p, 8, none⟩ = some (.bool hsh) := B2.cell 8
 have c9 : w2.cell? ⟨p, 9, none⟩ = some (.bool hca) := B2.cell 9
 have c10 : w2.cell? ⟨p, 10, none⟩ = some (.bool hfx) := B2.cell 10
 have c11 : w2.cell? ⟨p, 11, none⟩ = some (.int .i64 hmr) := B2.cell 11
 have c12 : w2.cell? ⟨p, 12, none⟩ = some (.int .i64 22) := B2.cell 12
 have c13 : w2.cell? ⟨p, 13, none⟩ = some (.int .u64 ww) := B2.cell 13
 have c14 : w2.cell? ⟨p, 14, none⟩ = some (.int .i64 a) := B2.cell 14
 have c15 : w2.cell? ⟨p, 15, none⟩ = some (pt ps) := B2.cell 15
 have c16 : w2.cell? ⟨p, 16, none⟩ = some (.bool false) := B2.cell 16
 have c17 : w2.cell? ⟨p, 17, none⟩ = some (.int .i64 oc) := B2.cell 17
 have c18 : w2.cell? ⟨p, 18, none⟩ = some (.int .i64 ov.k) := B2.cell 18
 have c19 : w2.cell? ⟨p, 19, none⟩ = some (.int .i64 ov.n) := B2.cell 19
 have c20 : w2.cell? ⟨p, 20, none⟩ = some (.bool oy) := B2.cell 20
 have cl := B2.lt
 have cz : ∀ i, w2.frozen? ⟨p, i, none⟩ = false := fun i => B2.free i
 go_wp2
 go_ret
 exact ⟨rfl, ⟨T2, B2, O2⟩, q', z', S2, rf'⟩
set_option maxHeartbeats 4000000 in
theorem rd22d {w0 w : World} {b y p : Nat} {s1 s2 : St} {N : Nat} {d : RD} (h : Two w0 w b y s1 s2 N) (B : Blk w0 w p 129 d.cells) (hN : N + 5 < 1000000) (hpc : d.pc = 22) {x : ShadeS} {q : Hd} {z : Int} {ps : Nat} (S : Blk w0 w ps 162 (x.rcells q z)) (rf : x.Rf q z) (ok : x.Ok) (hx : d.x = pt ps) (hdn : ((x.next s2).pc == 0) = true) :
  Calls Tryz.prog 60 #[pt p, pt y] w fun e w' => e = .returned (.bool false) ∧ RdTo w0 w w' b y p s1 (x.mem s2) N ⟨d.f, d.r, d.h, 23, d.w, d.a, d.x, false, d.o⟩ [p, ps] := by
 obtain ⟨f, r, ⟨hsh, hca, hfx, hmr⟩, pc, ww, a, xx, sh, ⟨oc, ov, oy⟩⟩ := d
 simp only [RD.cells] at B hpc hx ⊢
 subst hpc hx
 have c0 : w.cell? ⟨p, 0, none⟩ = some (.int .i64 f) := B.cell 0
 have c1 : w.cell? ⟨p, 1, none⟩ = some (.int .i64 r.op) := B.cell 1
 have c2 : w.cell? ⟨p, 2, none⟩ = some (.int .i64 r.at_) := B.cell 2
 have c3 : w.cell? ⟨p, 3, none⟩ = some (.int .i64 r.fd) := B.cell 3
 have c4 : w.cell? ⟨p, 4, none⟩ = some (.int .i64 r.x.k) := B.cell 4
 have c5 : w.cell? ⟨p, 5, none⟩ = some (.int .i64 r.x.n) := B.cell 5
 have c6 : w.cell? ⟨p, 6, none⟩ = some (.int .i64 r.y.k) := B.cell 6
 have c7 : w.cell? ⟨p, 7, none⟩ = some (.int .i64 r.y.n) := B.cell 7
 have c8 : w.cell? ⟨p, 8, none⟩ = some (.bool hsh) := B.cell 8
 have c9 : w.cell? ⟨p, 9, none⟩ = some (.bool hca) := B.cell 9
 have c10 : w.cell? ⟨p, 10, none⟩ = some (.bool hfx) := B.cell 10
 have c11 : w.cell? ⟨p, 11, none⟩ = some (.int .i64 hmr) := B.cell 11
 have c12 : w.cell? ⟨p, 12, none⟩ = some (.int .i64 22) := B.cell 12
 have c13 : w.cell? ⟨p, 13, none⟩ = some (.int .u64 ww) := B.cell 13
 have c14 : w.cell? ⟨p, 14, none⟩ = some (.int .i64 a) := B.cell 14
 have c15 : w.cell? ⟨p, 15, none⟩ = some (pt ps) := B.cell 15
 have c16 : w.cell? ⟨p, 16, none⟩ = some (.bool sh) := B.cell 16
 have c17 : w.cell? ⟨p, 17, none⟩ = some (.int .i64 oc) := B.cell 17
 have c18 : w.cell? ⟨p, 18, none⟩ = some (.int .i64 ov.k) := B.cell 18
 have c19 : w.cell? ⟨p, 19, none⟩ = some (.int .i64 ov.n) := B.cell 19
 have c20 : w.cell? ⟨p, 20, none⟩ = some (.bool oy) := B.cell 20
 have cl := B.lt
 have cz : ∀ i, w.frozen? ⟨p, i, none⟩ = false := fun i => B.free i
 go_enter Tryz.func60, Tryz.ntmps60
 go_upto_region 23 with (fail)
 clear c0 c1 c2 c3 c4 c5 c6 c7 c8 c9 c10 c11 c12 c13 c14 c15 c16 c17 c18 c19 c20 cl cz
 have B1 : Blk w0 (w.setCell ⟨p, 16, none⟩ (.bool false)) p 129 #[.int .i64 f, .int .i64 r.op, .int .i64 r.at_, .int .i64 r.fd, .int .i64 r.x.k, .int .i64 r.x.n, .int .i64 r.y.k, .int .i64 r.y.n, .bool hsh, .bool hca, .bool hfx, .int .i64 hmr, .int .i64 22, .int .u64 ww, .int .i64 a, pt ps, .bool false, .int .i64 oc, .int .i64 ov.k, .int .i64 ov.n, .bool oy] := B.set 16 (.bool false)
 have T1 := h.set B 16 (.bool false)
 have O1 : Oth [p, ps] w (w.setCell ⟨p, 16, none⟩ (.bool false)) := Oth.set _ _ _ _ (by simp)
 have S1 := S.oth (Oth.set (F := [p]) w p 16 (.bool false) (by simp)) (by simpa using S.ne B (by decide))
 generalize w.setCell ⟨p, 16, none⟩ (.bool false) = w1 at B1 T1 O1 S1 ⊢
 have c0 : w1.cell? ⟨p, 0, none⟩ = some (.int .i64 f) := B1.cell 0
 have c1 : w1.cell? ⟨p, 1, none⟩ = some (.int .i64 r.op) := B1.cell 1
 have c2 : w1.cell? ⟨p, 2, none⟩ = some (.int .i64 r.at_) := B1.cell 2
 have c3 : w1.cell? ⟨p, 3, none⟩ = some (.int .i64 r.fd) := B1.cell 3
 have c4 : w1.cell? ⟨p, 4, none⟩ = some (.int .i64 r.x.k) := B1.cell 4
 have c5 : w1.cell? ⟨p, 5, none⟩ = some (.int .i64 r.x.n) := B1.cell 5
 have c6 : w1.cell? ⟨p, 6, none⟩ = some (.int .i64 r.y.k) := B1.cell 6
 have c7 : w1.cell? ⟨p, 7, none⟩ = some (.int .i64 r.y.n) := B1.cell 7
 have c8 : w1.cell? ⟨p, 8, none⟩ = some (.bool hsh) := B1.cell 8
 have c9 : w1.cell? ⟨p, 9, none⟩ = some (.bool hca) := B1.cell 9
 have c10 : w1.cell? ⟨p, 10, none⟩ = some (.bool hfx) := B1.cell 10
 have c11 : w1.cell? ⟨p, 11, none⟩ = some (.int .i64 hmr) := B1.cell 11
 have c12 : w1.cell? ⟨p, 12, none⟩ = some (.int .i64 22) := B1.cell 12
 have c13 : w1.cell? ⟨p, 13, none⟩ = some (.int .u64 ww) := B1.cell 13
 have c14 : w1.cell? ⟨p, 14, none⟩ = some (.int .i64 a) := B1.cell 14
 have c15 : w1.cell? ⟨p, 15, none⟩ = some (pt ps) := B1.cell 15
 have c16 : w1.cell? ⟨p, 16, none⟩ = some (.bool false) := B1.cell 16
 have c17 : w1.cell? ⟨p, 17, none⟩ = some (.int .i64 oc) := B1.cell 17
 have c18 : w1.cell? ⟨p, 18, none⟩ = some (.int .i64 ov.k) := B1.cell 18
 have c19 : w1.cell? ⟨p, 19, none⟩ = some (.int .i64 ov.n) := B1.cell 19
 have c20 : w1.cell? ⟨p, 20, none⟩ = some (.bool oy) := B1.cell 20
 have cl := B1.lt
 have cz : ∀ i, w1.frozen? ⟨p, i, none⟩ = false := fun i => B1.free i
 go_upto_region 24 with (go_at_call 91; refine (yShade T1 S1 rf ok (by omega)).mono ?_; rintro e w2 ⟨rfl, T2, ⟨q', z', S2, rf'⟩, o2⟩; rw [hdn]; have B2 := B1.oth o2 (by simpa using B1.ne S1 (by decide)); have O2 : Oth [p, ps] w w2 := O1.trans (o2.mono (by simp)))
 clear c0 c1 c2 c3 c4 c5 c6 c7 c8 c9 c10 c11 c12 c13 c14 c15 c16 c17 c18 c19 c20 cl cz
 have c0 : w2.cell? ⟨p, 0, none⟩ = some (.int .i64 f) := B2.cell 0
 have c1 : w2.cell? ⟨p, 1, none⟩ = some (.int .i64 r.op) := B2.cell 1
 have c2 : w2.cell? ⟨p, 2, none⟩ = some (.int .i64 r.at_) := B2.cell 2
 have c3 : w2.cell? ⟨p, 3, none⟩ = some (.int .i64 r.fd) := B2.cell 3
 have c4 : w2.cell? ⟨p, 4, none⟩ = some (.int .i64 r.x.k) := B2.cell 4
 have c5 : w2.cell? ⟨p, 5, none⟩ = some (.int .i64 r.x.n) := B2.cell 5
 have c6 : w2.cell? ⟨p, 6, none⟩ = some (.int .i64 r.y.k) := B2.cell 6
 have c7 : w2.cell? ⟨p, 7, none⟩ = some (.int .i64 r.y.n) := B2.cell 7
 have c8 : w2.cell? ⟨p, 8, none⟩ = some (.bool hsh) := B2.cell 8
 have c9 : w2.cell? ⟨p, 9, none⟩ = some (.bool hca) := B2.cell 9
 have c10 : w2.cell? ⟨p, 10, none⟩ = some (.bool hfx) := B2.cell 10
 have c11 : w2.cell? ⟨p, 11, none⟩ = some (.int .i64 hmr) := B2.cell 11
 have c12 : w2.cell? ⟨p, 12, none⟩ = some (.int .i64 22) := B2.cell 12
 have c13 : w2.cell? ⟨p, 13, none⟩ = some (.int .u64 ww) := B2.cell 13
 have c14 : w2.cell? ⟨p, 14, none⟩ = some (.int .i64 a) := B2.cell 14
 have c15 : w2.cell? ⟨p, 15, none⟩ = some (pt ps) := B2.cell 15
 have c16 : w2.cell? ⟨p, 16, none⟩ = some (.bool false) := B2.cell 16
 have c17 : w2.cell? ⟨p, 17, none⟩ = some (.int .i64 oc) := B2.cell 17
 have c18 : w2.cell? ⟨p, 18, none⟩ = some (.int .i64 ov.k) := B2.cell 18
 have c19 : w2.cell? ⟨p, 19, none⟩ = some (.int .i64 ov.n) := B2.cell 19
 have c20 : w2.cell? ⟨p, 20, none⟩ = some (.bool oy) := B2.cell 20
 have cl := B2.lt
 have cz : ∀ i, w2.frozen? ⟨p, i, none⟩ = false := fun i => B2.free i
 go_wp2
 go_ret
 exact ⟨rfl, ⟨(T2.set B2 12 (.int .i64 23)).mono (by omega), (B2.set 12 (.int .i64 23)), (O2.trans (Oth.set _ _ _ _ (by simp)))⟩⟩
set_option maxHeartbeats 4000000 in
theorem rd34n {w0 w : World} {b y p : Nat} {s1 s2 : St} {N : Nat} {d : RD} (h : Two w0 w b y s1 s2 N) (B : Blk w0 w p 129 d.cells) (hN : N + 5 < 1000000) (hpc : d.pc = 34) {x : ShadeS} {q : Hd} {z : Int} {ps : Nat} (S : Blk w0 w ps 162 (x.rcells q z)) (rf : x.Rf q z) (ok : x.Ok) (hx : d.x = pt ps) (hdn : ((x.next s2).pc == 0) = false) :
  Calls Tryz.prog 60 #[pt p, pt y] w fun e w' => e = .returned (.bool false) ∧ RdTo w0 w w' b y p s1 (x.mem s2) N ⟨d.f, d.r, d.h, 34, d.w, d.a, d.x, false, d.o⟩ [p, ps] ∧ ∃ q' z', Blk w0 w' ps 162 ((x.next s2).rcells q' z') ∧ (x.next s2).Rf q' z' := by
 obtain ⟨f, r, ⟨hsh, hca, hfx, hmr⟩, pc, ww, a, xx, sh, ⟨oc, ov, oy⟩⟩ := d
 simp only [RD.cells] at B hpc hx ⊢
 subst hpc hx
 have c0 : w.cell? ⟨p, 0, none⟩ = some (.int .i64 f) := B.cell 0
 have c1 : w.cell? ⟨p, 1, none⟩ = some (.int .i64 r.op) := B.cell 1
 have c2 : w.cell? ⟨p, 2, none⟩ = some (.int .i64 r.at_) := B.cell 2
 have c3 : w.cell? ⟨p, 3, none⟩ = some (.int .i64 r.fd) := B.cell 3
 have c4 : w.cell? ⟨p, 4, none⟩ = some (.int .i64 r.x.k) := B.cell 4
 have c5 : w.cell? ⟨p, 5, none⟩ = some (.int .i64 r.x.n) := B.cell 5
 have c6 : w.cell? ⟨p, 6, none⟩ = some (.int .i64 r.y.k) := B.cell 6
 have c7 : w.cell? ⟨p, 7, none⟩ = some (.int .i64 r.y.n) := B.cell 7
 have c8 : w.cell? ⟨p, 8, none⟩ = some (.bool hsh) := B.cell 8
 have c9 : w.cell? ⟨p, 9, none⟩ = some (.bool hca) := B.cell 9
 have c10 : w.cell? ⟨p, 10, none⟩ = some (.bool hfx) := B.cell 10
 have c11 : w.cell? ⟨p, 11, none⟩ = some (.int .i64 hmr) := B.cell 11
 have c12 : w.cell? ⟨p, 12, none⟩ = some (.int .i64 34) := B.cell 12
 have c13 : w.cell? ⟨p, 13, none⟩ = some (.int .u64 ww) := B.cell 13
 have c14 : w.cell? ⟨p, 14, none⟩ = some (.int .i64 a) := B.cell 14
 have c15 : w.cell? ⟨p, 15, none⟩ = some (pt ps) := B.cell 15
 have c16 : w.cell? ⟨p, 16, none⟩ = some (.bool sh) := B.cell 16
 have c17 : w.cell? ⟨p, 17, none⟩ = some (.int .i64 oc) := B.cell 17
 have c18 : w.cell? ⟨p, 18, none⟩ = some (.int .i64 ov.k) := B.cell 18
 have c19 : w.cell? ⟨p, 19, none⟩ = some (.int .i64 ov.n) := B.cell 19
 have c20 : w.cell? ⟨p, 20, none⟩ = some (.bool oy) := B.cell 20
 have cl := B.lt
 have cz : ∀ i, w.frozen? ⟨p, i, none⟩ = false := fun i => B.free i
 go_enter Tryz.func60, Tryz.ntmps60
 go_upto_region 55 with (fail)
 clear c0 c1 c2 c3 c4 c5 c6 c7 c8 c9 c10 c11 c12 c13 c14 c15 c16 c17 c18 c19 c20 cl cz
 have B1 : Blk w0 (w.setCell ⟨p, 16, none⟩ (.bool false)) p 129 #[.int .i64 f, .int .i64 r.op, .int .i64 r.at_, .int .i64 r.fd, .int .i64 r.x.k, .int .i64 r.x.n, .int .i64 r.y.k, .int .i64 r.y.n, .bool hsh, .bool hca, .bool hfx, .int .i64 hmr, .int .i64 34, .int .u64 ww, .int .i64 a, pt ps, .bool false, .int .i64 oc, .int .i64 ov.k, .int .i64 ov.n, .bool oy] := B.set 16 (.bool false)
 have T1 := h.set B 16 (.bool false)
 have O1 : Oth [p, ps] w (w.setCell ⟨p, 16, none⟩ (.bool false)) := Oth.set _ _ _ _ (by simp)
 have S1 := S.oth (Oth.set (F := [p]) w p 16 (.bool false) (by simp)) (by simpa using S.ne B (by decide))
 generalize w.setCell ⟨p, 16, none⟩ (.bool false) = w1 at B1 T1 O1 S1 ⊢
 have c0 : w1.cell? ⟨p, 0, none⟩ = some (.int .i64 f) := B1.cell 0
 have c1 : w1.cell? ⟨p, 1, none⟩ = some (.int .i64 r.op) := B1.cell 1
 have c2 : w1.cell? ⟨p, 2, none⟩ = some (.int .i64 r.at_) := B1.cell 2
 have c3 : w1.cell? ⟨p, 3, none⟩ = some (.int .i64 r.fd) := B1.cell 3
 have c4 : w1.cell? ⟨p, 4, none⟩ = some (.int .i64 r.x.k) := B1.cell 4
 have c5 : w1.cell? ⟨p, 5, none⟩ = some (.int .i64 r.x.n) := B1.cell 5
 have c6 : w1.cell? ⟨p, 6, none⟩ = some (.int .i64 r.y.k) := B1.cell 6
 have c7 : w1.cell? ⟨p, 7, none⟩ = some (.int .i64 r.y.n) := B1.cell 7
 have c8 : w1.cell? ⟨p, 8, none⟩ = some (.bool hsh) := B1.cell 8
 have c9 : w1.cell? ⟨p, 9, none⟩ = some (.bool hca) := B1.cell 9
 have c10 : w1.cell? ⟨p, 10, none⟩ = some (.bool hfx) := B1.cell 10
 have c11 : w1.cell? ⟨p, 11, none⟩ = some (.int .i64 hmr) := B1.cell 11
 have c12 : w1.cell? ⟨p, 12, none⟩ = some (.int .i64 34) := B1.cell 12
 have c13 : w1.cell? ⟨p, 13, none⟩ = some (.int .u64 ww) := B1.cell 13
 have c14 : w1.cell? ⟨p, 14, none⟩ = some (.int .i64 a) := B1.cell 14
 have c15 : w1.cell? ⟨p, 15, none⟩ = some (pt ps) := B1.cell 15
 have c16 : w1.cell? ⟨p, 16, none⟩ = some (.bool false) := B1.cell 16
 have c17 : w1.cell? ⟨p, 17, none⟩ = some (.int .i64 oc) := B1.cell 17
 have c18 : w1.cell? ⟨p, 18, none⟩ = some (.int .i64 ov.k) := B1.cell 18
 have c19 : w1.cell? ⟨p, 19, none⟩ = some (.int .i64 ov.n) := B1.cell 19
 have c20 : w1.cell? ⟨p, 20, none⟩ = some (.bool oy) := B1.cell 20
 have cl := B1.lt
 have cz : ∀ i, w1.frozen? ⟨p, i, none⟩ = false := fun i => B1.free i
 go_upto_region 56 with (go_at_call 91; refine (yShade T1 S1 rf ok (by omega)).mono ?_; rintro e w2 ⟨rfl, T2, ⟨q', z', S2, rf'⟩, o2⟩; rw [hdn]; have B2 := B1.oth o2 (by simpa using B1.ne S1 (by decide)); have O2 : Oth [p, ps] w w2 := O1.trans (o2.mono (by simp)))
 clear c0 c1 c2 c3 c4 c5 c6 c7 c8 c9 c10 c11 c12 c13 c14 c15 c16 c17 c18 c19 c20 cl cz
 have c0 : w2.cell? ⟨p, 0, none⟩ = some (.int .i64 f) := B2.cell 0
 have c1 : w2.cell? ⟨p, 1, none⟩ = some (.int .i64 r.op) := B2.cell 1
 have c2 : w2.cell? ⟨p, 2, none⟩ = some (.int .i64 r.at_) := B2.cell 2
 have c3 : w2.cell? ⟨p, 3, none⟩ = some (.int .i64 r.fd) := B2.cell 3
 have c4 : w2.cell? ⟨p, 4, none⟩ = some (.int .i64 r.x.k) := B2.cell 4
 have c5 : w2.cell? ⟨p, 5, none⟩ = some (.int .i64 r.x.n) := B2.cell 5
 have c6 : w2.cell? ⟨p, 6, none⟩ = some (.int .i64 r.y.k) := B2.cell 6
 have c7 : w2.cell? ⟨p, 7, none⟩ = some (.int .i64 r.y.n) := B2.cell 7
 have c8 : w2.cell? ⟨p, 8, none⟩ = some (.bool hsh) := B2.cell 8
 have c9 : w2.cell? ⟨p, 9, none⟩ = some (.bool hca) := B2.cell 9
 have c10 : w2.cell? ⟨p, 10, none⟩ = some (.bool hfx) := B2.cell 10
 have c11 : w2.cell? ⟨p, 11, none⟩ = some (.int .i64 hmr) := B2.cell 11
 have c12 : w2.cell? ⟨p, 12, none⟩ = some (.int .i64 34) := B2.cell 12
 have c13 : w2.cell? ⟨p, 13, none⟩ = some (.int .u64 ww) := B2.cell 13
 have c14 : w2.cell? ⟨p, 14, none⟩ = some (.int .i64 a) := B2.cell 14
 have c15 : w2.cell? ⟨p, 15, none⟩ = some (pt ps) := B2.cell 15
 have c16 : w2.cell? ⟨p, 16, none⟩ = some (.bool false) := B2.cell 16
 have c17 : w2.cell? ⟨p, 17, none⟩ = some (.int .i64 oc) := B2.cell 17
 have c18 : w2.cell? ⟨p, 18, none⟩ = some (.int .i64 ov.k) := B2.cell 18
 have c19 : w2.cell? ⟨p, 19, none⟩ = some (.int .i64 ov.n) := B2.cell 19
 have c20 : w2.cell? ⟨p, 20, none⟩ = some (.bool oy) := B2.cell 20
 have cl := B2.lt
 have cz : ∀ i, w2.frozen? ⟨p, i, none⟩ = false := fun i => B2.free i
 go_wp2
 go_ret
 exact ⟨rfl, ⟨T2, B2, O2⟩, q', z', S2, rf'⟩
set_option maxHeartbeats 4000000 in
theorem rd34d {w0 w : World} {b y p : Nat} {s1 s2 : St} {N : Nat} {d : RD} (h : Two w0 w b y s1 s2 N) (B : Blk w0 w p 129 d.cells) (hN : N + 5 < 1000000) (hpc : d.pc = 34) {x : ShadeS} {q : Hd} {z : Int} {ps : Nat} (S : Blk w0 w ps 162 (x.rcells q z)) (rf : x.Rf q z) (ok : x.Ok) (hx : d.x = pt ps) (hdn : ((x.next s2).pc == 0) = true) :
  Calls Tryz.prog 60 #[pt p, pt y] w fun e w' => e = .returned (.bool false) ∧ RdTo w0 w w' b y p s1 (x.mem s2) N ⟨d.f, d.r, d.h, 35, d.w, d.a, d.x, false, d.o⟩ [p, ps] := by
 obtain ⟨f, r, ⟨hsh, hca, hfx, hmr⟩, pc, ww, a, xx, sh, ⟨oc, ov, oy⟩⟩ := d
 simp only [RD.cells] at B hpc hx ⊢
 subst hpc hx
 have c0 : w.cell? ⟨p, 0, none⟩ = some (.int .i64 f) := B.cell 0
 have c1 : w.cell? ⟨p, 1, none⟩ = some (.int .i64 r.op) := B.cell 1
 have c2 : w.cell? ⟨p, 2, none⟩ = some (.int .i64 r.at_) := B.cell 2
 have c3 : w.cell? ⟨p, 3, none⟩ = some (.int .i64 r.fd) := B.cell 3
 have c4 : w.cell? ⟨p, 4, none⟩ = some (.int .i64 r.x.k) := B.cell 4
 have c5 : w.cell? ⟨p, 5, none⟩ = some (.int .i64 r.x.n) := B.cell 5
 have c6 : w.cell? ⟨p, 6, none⟩ = some (.int .i64 r.y.k) := B.cell 6
 have c7 : w.cell? ⟨p, 7, none⟩ = some (.int .i64 r.y.n) := B.cell 7
 have c8 : w.cell? ⟨p, 8, none⟩ = some (.bool hsh) := B.cell 8
 have c9 : w.cell? ⟨p, 9, none⟩ = some (.bool hca) := B.cell 9
 have c10 : w.cell? ⟨p, 10, none⟩ = some (.bool hfx) := B.cell 10
 have c11 : w.cell? ⟨p, 11, none⟩ = some (.int .i64 hmr) := B.cell 11
 have c12 : w.cell? ⟨p, 12, none⟩ = some (.int .i64 34) := B.cell 12
 have c13 : w.cell? ⟨p, 13, none⟩ = some (.int .u64 ww) := B.cell 13
 have c14 : w.cell? ⟨p, 14, none⟩ = some (.int .i64 a) := B.cell 14
 have c15 : w.cell? ⟨p, 15, none⟩ = some (pt ps) := B.cell 15
 have c16 : w.cell? ⟨p, 16, none⟩ = some (.bool sh) := B.cell 16
 have c17 : w.cell? ⟨p, 17, none⟩ = some (.int .i64 oc) := B.cell 17
 have c18 : w.cell? ⟨p, 18, none⟩ = some (.int .i64 ov.k) := B.cell 18
 have c19 : w.cell? ⟨p, 19, none⟩ = some (.int .i64 ov.n) := B.cell 19
 have c20 : w.cell? ⟨p, 20, none⟩ = some (.bool oy) := B.cell 20
 have cl := B.lt
 have cz : ∀ i, w.frozen? ⟨p, i, none⟩ = false := fun i => B.free i
 go_enter Tryz.func60, Tryz.ntmps60
 go_upto_region 55 with (fail)
 clear c0 c1 c2 c3 c4 c5 c6 c7 c8 c9 c10 c11 c12 c13 c14 c15 c16 c17 c18 c19 c20 cl cz
 have B1 : Blk w0 (w.setCell ⟨p, 16, none⟩ (.bool false)) p 129 #[.int .i64 f, .int .i64 r.op, .int .i64 r.at_, .int .i64 r.fd, .int .i64 r.x.k, .int .i64 r.x.n, .int .i64 r.y.k, .int .i64 r.y.n, .bool hsh, .bool hca, .bool hfx, .int .i64 hmr, .int .i64 34, .int .u64 ww, .int .i64 a, pt ps, .bool false, .int .i64 oc, .int .i64 ov.k, .int .i64 ov.n, .bool oy] := B.set 16 (.bool false)
 have T1 := h.set B 16 (.bool false)
 have O1 : Oth [p, ps] w (w.setCell ⟨p, 16, none⟩ (.bool false)) := Oth.set _ _ _ _ (by simp)
 have S1 := S.oth (Oth.set (F := [p]) w p 16 (.bool false) (by simp)) (by simpa using S.ne B (by decide))
 generalize w.setCell ⟨p, 16, none⟩ (.bool false) = w1 at B1 T1 O1 S1 ⊢
 have c0 : w1.cell? ⟨p, 0, none⟩ = some (.int .i64 f) := B1.cell 0
 have c1 : w1.cell? ⟨p, 1, none⟩ = some (.int .i64 r.op) := B1.cell 1
 have c2 : w1.cell? ⟨p, 2, none⟩ = some (.int .i64 r.at_) := B1.cell 2
 have c3 : w1.cell? ⟨p, 3, none⟩ = some (.int .i64 r.fd) := B1.cell 3
 have c4 : w1.cell? ⟨p, 4, none⟩ = some (.int .i64 r.x.k) := B1.cell 4
 have c5 : w1.cell? ⟨p, 5, none⟩ = some (.int .i64 r.x.n) := B1.cell 5
 have c6 : w1.cell? ⟨p, 6, none⟩ = some (.int .i64 r.y.k) := B1.cell 6
 have c7 : w1.cell? ⟨p, 7, none⟩ = some (.int .i64 r.y.n) := B1.cell 7
 have c8 : w1.cell? ⟨p, 8, none⟩ = some (.bool hsh) := B1.cell 8
 have c9 : w1.cell? ⟨p, 9, none⟩ = some (.bool hca) := B1.cell 9
 have c10 : w1.cell? ⟨p, 10, none⟩ = some (.bool hfx) := B1.cell 10
 have c11 : w1.cell? ⟨p, 11, none⟩ = some (.int .i64 hmr) := B1.cell 11
 have c12 : w1.cell? ⟨p, 12, none⟩ = some (.int .i64 34) := B1.cell 12
 have c13 : w1.cell? ⟨p, 13, none⟩ = some (.int .u64 ww) := B1.cell 13
 have c14 : w1.cell? ⟨p, 14, none⟩ = some (.int .i64 a) := B1.cell 14
 have c15 : w1.cell? ⟨p, 15, none⟩ = some (pt ps) := B1.cell 15
 have c16 : w1.cell? ⟨p, 16, none⟩ = some (.bool false) := B1.cell 16
 have c17 : w1.cell? ⟨p, 17, none⟩ = some (.int .i64 oc) := B1.cell 17
 have c18 : w1.cell? ⟨p, 18, none⟩ = some (.int .i64 ov.k) := B1.cell 18
 have c19 : w1.cell? ⟨p, 19, none⟩ = some (.int .i64 ov.n) := B1.cell 19
 have c20 : w1.cell? ⟨p, 20, none⟩ = some (.bool oy) := B1.cell 20
 have cl := B1.lt
 have cz : ∀ i, w1.frozen? ⟨p, i, none⟩ = false := fun i => B1.free i
 go_upto_region 56 with (go_at_call 91; refine (yShade T1 S1 rf ok (by omega)).mono ?_; rintro e w2 ⟨rfl, T2, ⟨q', z', S2, rf'⟩, o2⟩; rw [hdn]; have B2 := B1.oth o2 (by simpa using B1.ne S1 (by decide)); have O2 : Oth [p, ps] w w2 := O1.trans (o2.mono (by simp)))
 clear c0 c1 c2 c3 c4 c5 c6 c7 c8 c9 c10 c11 c12 c13 c14 c15 c16 c17 c18 c19 c20 cl cz
 have c0 : w2.cell? ⟨p, 0, none⟩ = some (.int .i64 f) := B2.cell 0
 have c1 : w2.cell? ⟨p, 1, none⟩ = some (.int .i64 r.op) := B2.cell 1
 have c2 : w2.cell? ⟨p, 2, none⟩ = some (.int .i64 r.at_) := B2.cell 2
 have c3 : w2.cell? ⟨p, 3, none⟩ = some (.int .i64 r.fd) := B2.cell 3
 have c4 : w2.cell? ⟨p, 4, none⟩ = some (.int .i64 r.x.k) := B2.cell 4
 have c5 : w2.cell? ⟨p, 5, none⟩ = some (.int .i64 r.x.n) := B2.cell 5
 have c6 : w2.cell? ⟨p, 6, none⟩ = some (.int .i64 r.y.k) := B2.cell 6
 have c7 : w2.cell? ⟨p, 7, none⟩ = some (.int .i64 r.y.n) := B2.cell 7
 have c8 : w2.cell? ⟨p, 8, none⟩ = some (.bool hsh) := B2.cell 8
 have c9 : w2.cell? ⟨p, 9, none⟩ = some (.bool hca) := B2.cell 9
 have c10 : w2.cell? ⟨p, 10, none⟩ = some (.bool hfx) := B2.cell 10
 have c11 : w2.cell? ⟨p, 11, none⟩ = some (.int .i64 hmr) := B2.cell 11
 have c12 : w2.cell? ⟨p, 12, none⟩ = some (.int .i64 34) := B2.cell 12
 have c13 : w2.cell? ⟨p, 13, none⟩ = some (.int .u64 ww) := B2.cell 13
 have c14 : w2.cell? ⟨p, 14, none⟩ = some (.int .i64 a) := B2.cell 14
 have c15 : w2.cell? ⟨p, 15, none⟩ = some (pt ps) := B2.cell 15
 have c16 : w2.cell? ⟨p, 16, none⟩ = some (.bool false) := B2.cell 16
 have c17 : w2.cell? ⟨p, 17, none⟩ = some (.int .i64 oc) := B2.cell 17
 have c18 : w2.cell? ⟨p, 18, none⟩ = some (.int .i64 ov.k) := B2.cell 18
 have c19 : w2.cell? ⟨p, 19, none⟩ = some (.int .i64 ov.n) := B2.cell 19
 have c20 : w2.cell? ⟨p, 20, none⟩ = some (.bool oy) := B2.cell 20
 have cl := B2.lt
 have cz : ∀ i, w2.frozen? ⟨p, i, none⟩ = false := fun i => B2.free i
 go_wp2
 go_ret
 exact ⟨rfl, ⟨(T2.set B2 12 (.int .i64 35)).mono (by omega), (B2.set 12 (.int .i64 35)), (O2.trans (Oth.set _ _ _ _ (by simp)))⟩⟩
end Go.Proofs.YtpcoldpphihfmaaGreatDoor
