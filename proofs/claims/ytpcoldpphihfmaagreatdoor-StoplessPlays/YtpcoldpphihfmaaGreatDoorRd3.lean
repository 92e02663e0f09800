import Derived.Test.YtpcoldpphihfmaaGreatDoorRe
namespace Go.Proofs.YtpcoldpphihfmaaGreatDoor
set_option linter.unusedVariables false
set_option linter.unusedSimpArgs false
set_option maxRecDepth 100000
open Go.ChangeShapes Go.WideShapes Go.RowKit
open H.Plain (hw pS pC pN pM pG pT pL mv)
set_option maxHeartbeats 4000000 in
theorem rd23 {w0 w : World} {b y p : Nat} {s1 s2 : St} {N : Nat} {d : RD} (h : Two w0 w b y s1 s2 N) (B : Blk w0 w p 129 d.cells) (hN : N + 5 < 1000000) (hpc : d.pc = 23) :
  Calls Tryz.prog 60 #[pt p, pt y] w fun e w' => e = .returned (.bool true) ∧ RdTo w0 w w' b y p s1 (s2.store d.f d.r.y.w) N ⟨d.f, d.r, d.h, 0, d.w, d.a, d.x, true, d.o⟩ [p] := by
 obtain ⟨f, r, ⟨hsh, hca, hfx, hmr⟩, pc, ww, a, xx, sh, ⟨oc, ov, oy⟩⟩ := d
 simp only [RD.cells] at B hpc ⊢
 subst hpc
 have hyU := r.y.u64
 obtain ⟨yw, hyw⟩ : ∃ v, r.y.w = v := ⟨_, rfl⟩
 have hyw' : F.Plain.word r.y.k r.y.n = yw := hyw
 rw [hyw] at hyU ⊢
 have c0 : w.cell? ⟨p, 0, none⟩ = some (.int .i64 f) := B.cell 0
 have c1 : w.cell? ⟨p, 1, none⟩ = some (.int .i64 r.op) := B.cell 1
 have c2 : w.cell? ⟨p, 2, none⟩ = some (.int .i64 r.at_) := B.cell 2
 have c3 : w.cell? ⟨p, 3, none⟩ = some (.int .i64 r.fd) := B.cell 3
 have c4 : w.cell? ⟨p, 4, none⟩ = some (.int .i64 r.x.k) := B.cell 4
 have c5 : w.cell? ⟨p, 5, none⟩ = some (.int .i64 r.x.n) := B.cell 5
 have c6 : w.cell? ⟨p, 6, none⟩ = some (.int .i64 r.y.k) := B.cell 6
 have c7 : w.cell? ⟨p, 7, none⟩ = some (.int .i64 r.y.n) := B.cell 7
 have c8 : w.cell? ⟨p, 8, none⟩ = some (.bool hsh) := B.cell 8
 have c9 : w.cell? ⟨p, 9, none⟩ = some (.bool hca) := B.cell 9
 have c10 : w.cell? ⟨p, 10, none⟩ = some (.bool hfx) := B.cell 10
 have c11 : w.cell? ⟨p, 11, none⟩ = some (.int .i64 hmr) := B.cell 11
 have c12 : w.cell? ⟨p, 12, none⟩ = some (.int .i64 23) := B.cell 12
 have c13 : w.cell? ⟨p, 13, none⟩ = some (.int .u64 ww) := B.cell 13
 have c14 : w.cell? ⟨p, 14, none⟩ = some (.int .i64 a) := B.cell 14
 have c15 : w.cell? ⟨p, 15, none⟩ = some (xx) := B.cell 15
 have c16 : w.cell? ⟨p, 16, none⟩ = some (.bool sh) := B.cell 16
 have c17 : w.cell? ⟨p, 17, none⟩ = some (.int .i64 oc) := B.cell 17
 have c18 : w.cell? ⟨p, 18, none⟩ = some (.int .i64 ov.k) := B.cell 18
 have c19 : w.cell? ⟨p, 19, none⟩ = some (.int .i64 ov.n) := B.cell 19
 have c20 : w.cell? ⟨p, 20, none⟩ = some (.bool oy) := B.cell 20
 have cl := B.lt
 have cz : ∀ i, w.frozen? ⟨p, i, none⟩ = false := fun i => B.free i
 go_enter Tryz.func60, Tryz.ntmps60
 go_upto_region 27 with (fail)
 clear c0 c1 c2 c3 c4 c5 c6 c7 c8 c9 c10 c11 c12 c13 c14 c15 c16 c17 c18 c19 c20 cl cz
 have B1 : Blk w0 (w.setCell ⟨p, 16, none⟩ (.bool false)) p 129 #[.int .i64 f, .int .i64 r.op, .int .i64 r.at_, .int .i64 r.fd, .int .i64 r.x.k, .int .i64 r.x.n, .int .i64 r.y.k, .int .i64 r.y.n, .bool hsh, .bool hca, .bool hfx, .int .i64 hmr, .int .i64 23, .int .u64 ww, .int .i64 a, xx, .bool false, .int .i64 oc, .int .i64 ov.k, .int .i64 ov.n, .bool oy] := B.set 16 (.bool false)
 have T1 := h.set B 16 (.bool false)
 have O1 : Oth [p] w (w.setCell ⟨p, 16, none⟩ (.bool false)) := Oth.set _ _ _ _ (by simp)
 generalize w.setCell ⟨p, 16, none⟩ (.bool false) = w1 at B1 T1 O1 ⊢
 have c0 : w1.cell? ⟨p, 0, none⟩ = some (.int .i64 f) := B1.cell 0
 have c1 : w1.cell? ⟨p, 1, none⟩ = some (.int .i64 r.op) := B1.cell 1
 have c2 : w1.cell? ⟨p, 2, none⟩ = some (.int .i64 r.at_) := B1.cell 2
 have c3 : w1.cell? ⟨p, 3, none⟩ = some (.int .i64 r.fd) := B1.cell 3
 have c4 : w1.cell? ⟨p, 4, none⟩ = some (.int .i64 r.x.k) := B1.cell 4
 have c5 : w1.cell? ⟨p, 5, none⟩ = some (.int .i64 r.x.n) := B1.cell 5
 have c6 : w1.cell? ⟨p, 6, none⟩ = some (.int .i64 r.y.k) := B1.cell 6
 have c7 : w1.cell? ⟨p, 7, none⟩ = some (.int .i64 r.y.n) := B1.cell 7
 have c8 : w1.cell? ⟨p, 8, none⟩ = some (.bool hsh) := B1.cell 8
 have c9 : w1.cell? ⟨p, 9, none⟩ = some (.bool hca) := B1.cell 9
 have c10 : w1.cell? ⟨p, 10, none⟩ = some (.bool hfx) := B1.cell 10
 have c11 : w1.cell? ⟨p, 11, none⟩ = some (.int .i64 hmr) := B1.cell 11
 have c12 : w1.cell? ⟨p, 12, none⟩ = some (.int .i64 23) := B1.cell 12
 have c13 : w1.cell? ⟨p, 13, none⟩ = some (.int .u64 ww) := B1.cell 13
 have c14 : w1.cell? ⟨p, 14, none⟩ = some (.int .i64 a) := B1.cell 14
 have c15 : w1.cell? ⟨p, 15, none⟩ = some (xx) := B1.cell 15
 have c16 : w1.cell? ⟨p, 16, none⟩ = some (.bool false) := B1.cell 16
 have c17 : w1.cell? ⟨p, 17, none⟩ = some (.int .i64 oc) := B1.cell 17
 have c18 : w1.cell? ⟨p, 18, none⟩ = some (.int .i64 ov.k) := B1.cell 18
 have c19 : w1.cell? ⟨p, 19, none⟩ = some (.int .i64 ov.n) := B1.cell 19
 have c20 : w1.cell? ⟨p, 20, none⟩ = some (.bool oy) := B1.cell 20
 have cl := B1.lt
 have cz : ∀ i, w1.frozen? ⟨p, i, none⟩ = false := fun i => B1.free i
 have keep : ∀ w', Below w1.heap.size w1 w' → w'.cell? ⟨p, 0, none⟩ = some (.int .i64 f) ∧ w'.cell? ⟨p, 6, none⟩ = some (.int .i64 r.y.k) ∧ w'.cell? ⟨p, 7, none⟩ = some (.int .i64 r.y.n) := fun w' hb => ⟨bcell hb cl c0, bcell hb cl c6, bcell hb cl c7⟩
 have hbd : Below w1.heap.size w1 w1.drew := (Below.refl _ _).drew
 have RD := keep _ hbd
 go_region_held3 (fun w' => w'.cell? ⟨p, 0, none⟩ = some (.int .i64 f) ∧ w'.cell? ⟨p, 6, none⟩ = some (.int .i64 r.y.k) ∧ w'.cell? ⟨p, 7, none⟩ = some (.int .i64 r.y.n)) (first | assumption | exact RD | exact keep _ (by assumption))
  (first
   | (go_at_call 36; refine (F.rWord r.y.k r.y.n _).mono ?_; rintro e w2 ⟨rfl, m2, hw2⟩; rw [hyw']; have hb2 : Below w1.heap.size w1 w2 := (by rw [hw2]; exact F.bdr (F.bal hbd _) _); clear hw2; have B2 := B1.below hb2; have T2 := T1.below hb2; have O2 : Oth [p] w w2 := O1.trans (Oth.below hb2))
   | (go_at_call 14; refine (yStore T2 (by omega) f hyU).mono ?_; rintro e w3 ⟨rfl, T3, o3⟩; have B3 := B2.oth o3 (by simp); have O3 : Oth [p] w w3 := O2.trans (o3.mono (by simp)); have S3 : w3.cell? ⟨p, 0, none⟩ = some (.int .i64 f) ∧ w3.cell? ⟨p, 6, none⟩ = some (.int .i64 r.y.k) ∧ w3.cell? ⟨p, 7, none⟩ = some (.int .i64 r.y.n) := ⟨B3.cell 0, B3.cell 6, B3.cell 7⟩))
 clear keep RD
 clear c0 c1 c2 c3 c4 c5 c6 c7 c8 c9 c10 c11 c12 c13 c14 c15 c16 c17 c18 c19 c20 cl cz
 have c0 : w3.cell? ⟨p, 0, none⟩ = some (.int .i64 f) := B3.cell 0
 have c1 : w3.cell? ⟨p, 1, none⟩ = some (.int .i64 r.op) := B3.cell 1
 have c2 : w3.cell? ⟨p, 2, none⟩ = some (.int .i64 r.at_) := B3.cell 2
 have c3 : w3.cell? ⟨p, 3, none⟩ = some (.int .i64 r.fd) := B3.cell 3
 have c4 : w3.cell? ⟨p, 4, none⟩ = some (.int .i64 r.x.k) := B3.cell 4
 have c5 : w3.cell? ⟨p, 5, none⟩ = some (.int .i64 r.x.n) := B3.cell 5
 have c6 : w3.cell? ⟨p, 6, none⟩ = some (.int .i64 r.y.k) := B3.cell 6
 have c7 : w3.cell? ⟨p, 7, none⟩ = some (.int .i64 r.y.n) := B3.cell 7
 have c8 : w3.cell? ⟨p, 8, none⟩ = some (.bool hsh) := B3.cell 8
 have c9 : w3.cell? ⟨p, 9, none⟩ = some (.bool hca) := B3.cell 9
 have c10 : w3.cell? ⟨p, 10, none⟩ = some (.bool hfx) := B3.cell 10
 have c11 : w3.cell? ⟨p, 11, none⟩ = some (.int .i64 hmr) := B3.cell 11
 have c12 : w3.cell? ⟨p, 12, none⟩ = some (.int .i64 23) := B3.cell 12
 have c13 : w3.cell? ⟨p, 13, none⟩ = some (.int .u64 ww) := B3.cell 13
 have c14 : w3.cell? ⟨p, 14, none⟩ = some (.int .i64 a) := B3.cell 14
 have c15 : w3.cell? ⟨p, 15, none⟩ = some (xx) := B3.cell 15
 have c16 : w3.cell? ⟨p, 16, none⟩ = some (.bool false) := B3.cell 16
 have c17 : w3.cell? ⟨p, 17, none⟩ = some (.int .i64 oc) := B3.cell 17
 have c18 : w3.cell? ⟨p, 18, none⟩ = some (.int .i64 ov.k) := B3.cell 18
 have c19 : w3.cell? ⟨p, 19, none⟩ = some (.int .i64 ov.n) := B3.cell 19
 have c20 : w3.cell? ⟨p, 20, none⟩ = some (.bool oy) := B3.cell 20
 have cl := B3.lt
 have cz : ∀ i, w3.frozen? ⟨p, i, none⟩ = false := fun i => B3.free i
 go_wp2
 go_ret
 exact ⟨rfl, ⟨((T3.set B3 16 (.bool true)).set (B3.set 16 (.bool true)) 12 (.int .i64 0)).mono (by omega), ((B3.set 16 (.bool true)).set 12 (.int .i64 0)), ((O3.trans (Oth.set _ _ _ _ (by simp))).trans (Oth.set _ _ _ _ (by simp)))⟩⟩
set_option maxHeartbeats 4000000 in
theorem rd31 {w0 w : World} {b y p : Nat} {s1 s2 : St} {N : Nat} {d : RD} (h : Two w0 w b y s1 s2 N) (B : Blk w0 w p 129 d.cells) (hN : N + 5 < 1000000) (hpc : d.pc = 31) (hw : U64 d.w) :
  Calls Tryz.prog 60 #[pt p, pt y] w fun e w' => e = .returned (.bool false) ∧ RdTo w0 w w' b y p s1 (s2.load (Vl.of d.w).n) N ⟨d.f, d.r, d.h, 32, d.w, mv (s2.got (Vl.of d.w).n) (Vl.of d.w).n, d.x, false, d.o⟩ [p] := by
 obtain ⟨f, r, ⟨hsh, hca, hfx, hmr⟩, pc, ww, a, xx, sh, ⟨oc, ov, oy⟩⟩ := d
 simp only [RD.cells] at B hpc hw ⊢
 subst hpc
 obtain ⟨u, hu⟩ : ∃ u, Vl.of ww = u := ⟨_, rfl⟩
 have hk : F.Plain.kind ww = u.k := congrArg Vl.k hu
 have hn : F.Plain.num ww = u.n := congrArg Vl.n hu
 rw [hu]
 obtain ⟨v, hv⟩ : ∃ v, s2.got u.n = v := ⟨_, rfl⟩
 have hU : U64 v := hv ▸ h.rng2.got u.n
 rw [hv]
 obtain ⟨mm, hmm⟩ : ∃ m, mv v u.n = m := ⟨_, rfl⟩
 rw [hmm]
 have c0 : w.cell? ⟨p, 0, none⟩ = some (.int .i64 f) := B.cell 0
 have c1 : w.cell? ⟨p, 1, none⟩ = some (.int .i64 r.op) := B.cell 1
 have c2 : w.cell? ⟨p, 2, none⟩ = some (.int .i64 r.at_) := B.cell 2
 have c3 : w.cell? ⟨p, 3, none⟩ = some (.int .i64 r.fd) := B.cell 3
 have c4 : w.cell? ⟨p, 4, none⟩ = some (.int .i64 r.x.k) := B.cell 4
 have c5 : w.cell? ⟨p, 5, none⟩ = some (.int .i64 r.x.n) := B.cell 5
 have c6 : w.cell? ⟨p, 6, none⟩ = some (.int .i64 r.y.k) := B.cell 6
 have c7 : w.cell? ⟨p, 7, none⟩ = some (.int .i64 r.y.n) := B.cell 7
 have c8 : w.cell? ⟨p, 8, none⟩ = some (.bool hsh) := B.cell 8
 have c9 : w.cell? ⟨p, 9, none⟩ = some (.bool hca) := B.cell 9
 have c10 : w.cell? ⟨p, 10, none⟩ = some (.bool hfx) := B.cell 10
 have c11 : w.cell? ⟨p, 11, none⟩ = some (.int .i64 hmr) := B.cell 11
 have c12 : w.cell? ⟨p, 12, none⟩ = some (.int .i64 31) := B.cell 12
 have c13 : w.cell? ⟨p, 13, none⟩ = some (.int .u64 ww) := B.cell 13
 have c14 : w.cell? ⟨p, 14, none⟩ = some (.int .i64 a) := B.cell 14
 have c15 : w.cell? ⟨p, 15, none⟩ = some (xx) := B.cell 15
 have c16 : w.cell? ⟨p, 16, none⟩ = some (.bool sh) := B.cell 16
 have c17 : w.cell? ⟨p, 17, none⟩ = some (.int .i64 oc) := B.cell 17
 have c18 : w.cell? ⟨p, 18, none⟩ = some (.int .i64 ov.k) := B.cell 18
 have c19 : w.cell? ⟨p, 19, none⟩ = some (.int .i64 ov.n) := B.cell 19
 have c20 : w.cell? ⟨p, 20, none⟩ = some (.bool oy) := B.cell 20
 have cl := B.lt
 have cz : ∀ i, w.frozen? ⟨p, i, none⟩ = false := fun i => B.free i
 go_enter Tryz.func60, Tryz.ntmps60
 go_upto_region 42 with (fail)
 clear c0 c1 c2 c3 c4 c5 c6 c7 c8 c9 c10 c11 c12 c13 c14 c15 c16 c17 c18 c19 c20 cl cz
 have B1 : Blk w0 (w.setCell ⟨p, 16, none⟩ (.bool false)) p 129 #[.int .i64 f, .int .i64 r.op, .int .i64 r.at_, .int .i64 r.fd, .int .i64 r.x.k, .int .i64 r.x.n, .int .i64 r.y.k, .int .i64 r.y.n, .bool hsh, .bool hca, .bool hfx, .int .i64 hmr, .int .i64 31, .int .u64 ww, .int .i64 a, xx, .bool false, .int .i64 oc, .int .i64 ov.k, .int .i64 ov.n, .bool oy] := B.set 16 (.bool false)
 have T1 := h.set B 16 (.bool false)
 have O1 : Oth [p] w (w.setCell ⟨p, 16, none⟩ (.bool false)) := Oth.set _ _ _ _ (by simp)
 generalize w.setCell ⟨p, 16, none⟩ (.bool false) = w1 at B1 T1 O1 ⊢
 have c0 : w1.cell? ⟨p, 0, none⟩ = some (.int .i64 f) := B1.cell 0
 have c1 : w1.cell? ⟨p, 1, none⟩ = some (.int .i64 r.op) := B1.cell 1
 have c2 : w1.cell? ⟨p, 2, none⟩ = some (.int .i64 r.at_) := B1.cell 2
 have c3 : w1.cell? ⟨p, 3, none⟩ = some (.int .i64 r.fd) := B1.cell 3
 have c4 : w1.cell? ⟨p, 4, none⟩ = some (.int .i64 r.x.k) := B1.cell 4
 have c5 : w1.cell? ⟨p, 5, none⟩ = some (.int .i64 r.x.n) := B1.cell 5
 have c6 : w1.cell? ⟨p, 6, none⟩ = some (.int .i64 r.y.k) := B1.cell 6
 have c7 : w1.cell? ⟨p, 7, none⟩ = some (.int .i64 r.y.n) := B1.cell 7
 have c8 : w1.cell? ⟨p, 8, none⟩ = some (.bool hsh) := B1.cell 8
 have c9 : w1.cell? ⟨p, 9, none⟩ = some (.bool hca) := B1.cell 9
 have c10 : w1.cell? ⟨p, 10, none⟩ = some (.bool hfx) := B1.cell 10
 have c11 : w1.cell? ⟨p, 11, none⟩ = some (.int .i64 hmr) := B1.cell 11
 have c12 : w1.cell? ⟨p, 12, none⟩ = some (.int .i64 31) := B1.cell 12
 have c13 : w1.cell? ⟨p, 13, none⟩ = some (.int .u64 ww) := B1.cell 13
 have c14 : w1.cell? ⟨p, 14, none⟩ = some (.int .i64 a) := B1.cell 14
 have c15 : w1.cell? ⟨p, 15, none⟩ = some (xx) := B1.cell 15
 have c16 : w1.cell? ⟨p, 16, none⟩ = some (.bool false) := B1.cell 16
 have c17 : w1.cell? ⟨p, 17, none⟩ = some (.int .i64 oc) := B1.cell 17
 have c18 : w1.cell? ⟨p, 18, none⟩ = some (.int .i64 ov.k) := B1.cell 18
 have c19 : w1.cell? ⟨p, 19, none⟩ = some (.int .i64 ov.n) := B1.cell 19
 have c20 : w1.cell? ⟨p, 20, none⟩ = some (.bool oy) := B1.cell 20
 have cl := B1.lt
 have cz : ∀ i, w1.frozen? ⟨p, i, none⟩ = false := fun i => B1.free i
 go_upto_region 43 with (go_at_call 30; refine (F.rOf ww hw.1 hw.2 _).mono ?_; rintro e w2 ⟨rfl, hw2⟩; rw [hk, hn] at hw2 ⊢; have hb2 : Below w1.heap.size w1 w2 := (by rw [hw2]; go_grown); have B2 := B1.below hb2; have T2 := T1.below hb2; have O2 : Oth [p] w w2 := O1.trans (Oth.below hb2); clear hw2 hb2)
 clear c0 c1 c2 c3 c4 c5 c6 c7 c8 c9 c10 c11 c12 c13 c14 c15 c16 c17 c18 c19 c20 cl cz
 have hbx : Below w2.heap.size w2 (w2.alloc (.cells #[.int .i64 u.k, .int .i64 u.n] 38)) := (Below.refl _ _).alloc (Nat.le_refl _) _
 have hs0 : w0.heap.size ≤ w2.heap.size := Nat.le_trans B2.old (Nat.le_of_lt B2.lt)
 have V3 : Blk w0 (w2.alloc (.cells #[.int .i64 u.k, .int .i64 u.n] 38)) w2.heap.size 38 #[.int .i64 u.k, .int .i64 u.n] := Blk.new hs0 _ (by decide)
 have B3 := B2.below hbx
 have T3 := T2.below hbx
 have O3 : Oth [p] w (w2.alloc (.cells #[.int .i64 u.k, .int .i64 u.n] 38)) := O2.trans (Oth.below hbx)
 clear hbx
 generalize w2.alloc (.cells #[.int .i64 u.k, .int .i64 u.n] 38) = w3 at V3 B3 T3 O3 ⊢
 generalize w2.heap.size = vb at V3 ⊢
 have v1 : w3.cell? ⟨vb, 1, none⟩ = some (.int .i64 u.n) := V3.cell 1
 have vl := V3.lt
 have npv : p ≠ vb := B3.ne V3 (by decide)
 refine wp_region_noPanic ?_
 have hbd : Below w3.heap.size w3 w3.drew := (Below.refl _ _).drew
 have RD : w3.drew.cell? ⟨vb, 1, none⟩ = some (.int .i64 u.n) := v1
 refine wp_region_held_drew (S := fun w' => w'.cell? ⟨vb, 1, none⟩ = some (.int .i64 u.n)) (by kernel_rfl) RD (fun hHeld => ?_)
 refine tkH (i := 0) 214 (pt p) rfl rfl ?_
 simp only [sA1, sA2, sA3]
 refine tkH (i := 1) 215 (pt y) rfl rfl ?_
 simp only [sA1, sA2, sA3]
 refine tkH (i := 2) 216 (.pointer (some ⟨vb, 1, none⟩)) rfl rfl ?_
 simp only [sA1, sA2, sA3]
 refine tkH (i := 3) 217 (.int .i64 u.n) rfl rfl ?_
 simp only [sA1, sA2, sA3]
 refine tkH (i := 5) 219 (.pointer (some ⟨vb, 1, none⟩)) rfl rfl ?_
 simp only [sA1, sA2, sA3]
 refine tkH (i := 6) 220 (.int .i64 u.n) rfl rfl ?_
 simp only [sA1, sA2, sA3]
 refine rd1 4 rfl fun K hK => ?_
 go_simp
 refine (yLoad T3.drew (by omega) u.n).mono ?_
 rintro e w4 ⟨rfl, T4, o4⟩
 rw [hv]
 have B4 := (B3.below hbd).oth o4 (by simp)
 have V4 := (V3.below hbd).oth o4 (by simp)
 have O4 : Oth [p] w w4 := (O3.trans (Oth.drew _ _)).trans (o4.mono (by simp))
 refine hK.out _ _ (V4.cell 1) (fun hHeld => ?_)
 clear hK K
 try simp only [Act.put, sA1, sA2, sA3]
 refine rd1 7 rfl fun K hK => ?_
 go_simp
 refine (H.rMoved v u.n hU.1 hU.2 _).mono ?_
 rintro e w5 ⟨rfl, hw5⟩
 rw [hmm]
 have hb5 : Below w4.heap.size w4 w5 := (by rw [hw5]; go_grown)
 clear hw5
 have B5 := B4.below hb5
 have V5 := V4.below hb5
 have T5 := T4.below hb5
 have O5 : Oth [p] w w5 := O4.trans (Oth.below hb5)
 have f14 : w5.cell? ⟨p, 14, none⟩ = some (.int .i64 a) := B5.cell 14
 have fz := B5.free 14
 refine hK.out _ _ (V5.cell 1) (fun hHeld => ?_)
 clear hK K
 try simp only [Act.put, sA1, sA2, sA3]
 refine tkH (i := 8) 222 (pt p) rfl rfl ?_
 simp only [sA1, sA2, sA3]
 refine tkH (i := 9) 223 (.pointer (some ⟨p, 14, none⟩)) rfl rfl ?_
 simp only [sA1, sA2, sA3]
 refine rd1 10 rfl fun K hK => ?_
 go_simp
 refine hK.out _ _ ((V5.oth (Oth.set (F := [p]) _ _ _ _ (by simp)) (by simpa using Ne.symm npv)).cell 1) (fun hHeld => ?_)
 clear hK K
 try simp only [Act.put, sA1, sA2, sA3]
 refine wpAnyH_done (by kernel_rfl) ?_ _
 refine NoPanic.normal ?_
 clear v1 vl RD f14 fz hHeld
 have B6 : Blk w0 (w5.setCell ⟨p, 14, none⟩ (.int .i64 mm)) p 129 #[.int .i64 f, .int .i64 r.op, .int .i64 r.at_, .int .i64 r.fd, .int .i64 r.x.k, .int .i64 r.x.n, .int .i64 r.y.k, .int .i64 r.y.n, .bool hsh, .bool hca, .bool hfx, .int .i64 hmr, .int .i64 31, .int .u64 ww, .int .i64 mm, xx, .bool false, .int .i64 oc, .int .i64 ov.k, .int .i64 ov.n, .bool oy] := (B5.set 14 (.int .i64 mm))
 have T6 := (T5.set B5 14 (.int .i64 mm))
 have O6 : Oth [p] w (w5.setCell ⟨p, 14, none⟩ (.int .i64 mm)) := (O5.trans (Oth.set _ _ _ _ (by simp)))
 generalize (w5.setCell ⟨p, 14, none⟩ (.int .i64 mm)) = w6 at B6 T6 O6 ⊢
 have c0 : w6.cell? ⟨p, 0, none⟩ = some (.int .i64 f) := B6.cell 0
 have c1 : w6.cell? ⟨p, 1, none⟩ = some (.int .i64 r.op) := B6.cell 1
 have c2 : w6.cell? ⟨p, 2, none⟩ = some (.int .i64 r.at_) := B6.cell 2
 have c3 : w6.cell? ⟨p, 3, none⟩ = some (.int .i64 r.fd) := B6.cell 3
 have c4 : w6.cell? ⟨p, 4, none⟩ = some (.int .i64 r.x.k) := B6.cell 4
 have c5 : w6.cell? ⟨p, 5, none⟩ = some (.int .i64 r.x.n) := B6.cell 5
 have c6 : w6.cell? ⟨p, 6, none⟩ = some (.int .i64 r.y.k) := B6.cell 6
 have c7 : w6.cell? ⟨p, 7, none⟩ = some (.int .i64 r.y.n) := B6.cell 7
 have c8 : w6.cell? ⟨p, 8, none⟩ = some (.bool hsh) := B6.cell 8
 have c9 : w6.cell? ⟨p, 9, none⟩ = some (.bool hca) := B6.cell 9
 have c10 : w6.cell? ⟨p, 10, none⟩ = some (.bool hfx) := B6.cell 10
 have c11 : w6.cell? ⟨p, 11, none⟩ = some (.int .i64 hmr) := B6.cell 11
 have c12 : w6.cell? ⟨p, 12, none⟩ = some (.int .i64 31) := B6.cell 12
 have c13 : w6.cell? ⟨p, 13, none⟩ = some (.int .u64 ww) := B6.cell 13
 have c14 : w6.cell? ⟨p, 14, none⟩ = some (.int .i64 mm) := B6.cell 14
 have c15 : w6.cell? ⟨p, 15, none⟩ = some (xx) := B6.cell 15
 have c16 : w6.cell? ⟨p, 16, none⟩ = some (.bool false) := B6.cell 16
 have c17 : w6.cell? ⟨p, 17, none⟩ = some (.int .i64 oc) := B6.cell 17
 have c18 : w6.cell? ⟨p, 18, none⟩ = some (.int .i64 ov.k) := B6.cell 18
 have c19 : w6.cell? ⟨p, 19, none⟩ = some (.int .i64 ov.n) := B6.cell 19
 have c20 : w6.cell? ⟨p, 20, none⟩ = some (.bool oy) := B6.cell 20
 have cl := B6.lt
 have cz : ∀ i, w6.frozen? ⟨p, i, none⟩ = false := fun i => B6.free i
 go_wp2
 go_ret
 exact ⟨rfl, ⟨(T6.set B6 12 (.int .i64 32)).mono (by omega), (B6.set 12 (.int .i64 32)), (O6.trans (Oth.set _ _ _ _ (by simp)))⟩⟩
set_option maxHeartbeats 4000000 in
theorem rd32n {w0 w : World} {b y p : Nat} {s1 s2 : St} {N : Nat} {d : RD} (h : Two w0 w b y s1 s2 N) (B : Blk w0 w p 129 d.cells) (hN : N + 5 < 1000000) (hpc : d.pc = 32) (hw : U64 d.w) (hq : (d.a == mv (s2.got d.r.x.n) d.r.x.n) = false) :
  Calls Tryz.prog 60 #[pt p, pt y] w fun e w' => e = .returned (.bool true) ∧ RdTo w0 w w' b y p s1 (s2.load d.r.x.n) N ⟨d.f, d.r, d.h, 0, d.w, d.a, d.x, false, d.o⟩ [p] := by
 obtain ⟨f, r, ⟨hsh, hca, hfx, hmr⟩, pc, ww, a, xx, sh, ⟨oc, ov, oy⟩⟩ := d
 simp only [RD.cells] at B hpc hw hq ⊢
 subst hpc
 obtain ⟨v, hv⟩ : ∃ v, s2.got r.x.n = v := ⟨_, rfl⟩
 have hU : U64 v := hv ▸ h.rng2.got r.x.n
 rw [hv] at hq
 obtain ⟨mm, hmm⟩ : ∃ m, mv v r.x.n = m := ⟨_, rfl⟩
 rw [hmm] at hq
 have c0 : w.cell? ⟨p, 0, none⟩ = some (.int .i64 f) := B.cell 0
 have c1 : w.cell? ⟨p, 1, none⟩ = some (.int .i64 r.op) := B.cell 1
 have c2 : w.cell? ⟨p, 2, none⟩ = some (.int .i64 r.at_) := B.cell 2
 have c3 : w.cell? ⟨p, 3, none⟩ = some (.int .i64 r.fd) := B.cell 3
 have c4 : w.cell? ⟨p, 4, none⟩ = some (.int .i64 r.x.k) := B.cell 4
 have c5 : w.cell? ⟨p, 5, none⟩ = some (.int .i64 r.x.n) := B.cell 5
 have c6 : w.cell? ⟨p, 6, none⟩ = some (.int .i64 r.y.k) := B.cell 6
 have c7 : w.cell? ⟨p, 7, none⟩ = some (.int .i64 r.y.n) := B.cell 7
 have c8 : w.cell? ⟨p, 8, none⟩ = some (.bool hsh) := B.cell 8
 have c9 : w.cell? ⟨p, 9, none⟩ = some (.bool hca) := B.cell 9
 have c10 : w.cell? ⟨p, 10, none⟩ = some (.bool hfx) := B.cell 10
 have c11 : w.cell? ⟨p, 11, none⟩ = some (.int .i64 hmr) := B.cell 11
 have c12 : w.cell? ⟨p, 12, none⟩ = some (.int .i64 32) := B.cell 12
 have c13 : w.cell? ⟨p, 13, none⟩ = some (.int .u64 ww) := B.cell 13
 have c14 : w.cell? ⟨p, 14, none⟩ = some (.int .i64 a) := B.cell 14
 have c15 : w.cell? ⟨p, 15, none⟩ = some (xx) := B.cell 15
 have c16 : w.cell? ⟨p, 16, none⟩ = some (.bool sh) := B.cell 16
 have c17 : w.cell? ⟨p, 17, none⟩ = some (.int .i64 oc) := B.cell 17
 have c18 : w.cell? ⟨p, 18, none⟩ = some (.int .i64 ov.k) := B.cell 18
 have c19 : w.cell? ⟨p, 19, none⟩ = some (.int .i64 ov.n) := B.cell 19
 have c20 : w.cell? ⟨p, 20, none⟩ = some (.bool oy) := B.cell 20
 have cl := B.lt
 have cz : ∀ i, w.frozen? ⟨p, i, none⟩ = false := fun i => B.free i
 go_enter Tryz.func60, Tryz.ntmps60
 go_upto_region 46 with (fail)
 clear c0 c1 c2 c3 c4 c5 c6 c7 c8 c9 c10 c11 c12 c13 c14 c15 c16 c17 c18 c19 c20 cl cz
 have B1 : Blk w0 (w.setCell ⟨p, 16, none⟩ (.bool false)) p 129 #[.int .i64 f, .int .i64 r.op, .int .i64 r.at_, .int .i64 r.fd, .int .i64 r.x.k, .int .i64 r.x.n, .int .i64 r.y.k, .int .i64 r.y.n, .bool hsh, .bool hca, .bool hfx, .int .i64 hmr, .int .i64 32, .int .u64 ww, .int .i64 a, xx, .bool false, .int .i64 oc, .int .i64 ov.k, .int .i64 ov.n, .bool oy] := B.set 16 (.bool false)
 have T1 := h.set B 16 (.bool false)
 have O1 : Oth [p] w (w.setCell ⟨p, 16, none⟩ (.bool false)) := Oth.set _ _ _ _ (by simp)
 generalize w.setCell ⟨p, 16, none⟩ (.bool false) = w1 at B1 T1 O1 ⊢
 have c0 : w1.cell? ⟨p, 0, none⟩ = some (.int .i64 f) := B1.cell 0
 have c1 : w1.cell? ⟨p, 1, none⟩ = some (.int .i64 r.op) := B1.cell 1
 have c2 : w1.cell? ⟨p, 2, none⟩ = some (.int .i64 r.at_) := B1.cell 2
 have c3 : w1.cell? ⟨p, 3, none⟩ = some (.int .i64 r.fd) := B1.cell 3
 have c4 : w1.cell? ⟨p, 4, none⟩ = some (.int .i64 r.x.k) := B1.cell 4
 have c5 : w1.cell? ⟨p, 5, none⟩ = some (.int .i64 r.x.n) := B1.cell 5
 have c6 : w1.cell? ⟨p, 6, none⟩ = some (.int .i64 r.y.k) := B1.cell 6
 have c7 : w1.cell? ⟨p, 7, none⟩ = some (.int .i64 r.y.n) := B1.cell 7
 have c8 : w1.cell? ⟨p, 8, none⟩ = some (.bool hsh) := B1.cell 8
 have c9 : w1.cell? ⟨p, 9, none⟩ = some (.bool hca) := B1.cell 9
 have c10 : w1.cell? ⟨p, 10, none⟩ = some (.bool hfx) := B1.cell 10
 have c11 : w1.cell? ⟨p, 11, none⟩ = some (.int .i64 hmr) := B1.cell 11
 have c12 : w1.cell? ⟨p, 12, none⟩ = some (.int .i64 32) := B1.cell 12
 have c13 : w1.cell? ⟨p, 13, none⟩ = some (.int .u64 ww) := B1.cell 13
 have c14 : w1.cell? ⟨p, 14, none⟩ = some (.int .i64 a) := B1.cell 14
 have c15 : w1.cell? ⟨p, 15, none⟩ = some (xx) := B1.cell 15
 have c16 : w1.cell? ⟨p, 16, none⟩ = some (.bool false) := B1.cell 16
 have c17 : w1.cell? ⟨p, 17, none⟩ = some (.int .i64 oc) := B1.cell 17
 have c18 : w1.cell? ⟨p, 18, none⟩ = some (.int .i64 ov.k) := B1.cell 18
 have c19 : w1.cell? ⟨p, 19, none⟩ = some (.int .i64 ov.n) := B1.cell 19
 have c20 : w1.cell? ⟨p, 20, none⟩ = some (.bool oy) := B1.cell 20
 have cl := B1.lt
 have cz : ∀ i, w1.frozen? ⟨p, i, none⟩ = false := fun i => B1.free i
 have keep : ∀ w', Below w1.heap.size w1 w' → w'.cell? ⟨p, 5, none⟩ = some (.int .i64 r.x.n) := fun w' hb => bcell hb cl c5
 have hbd : Below w1.heap.size w1 w1.drew := (Below.refl _ _).drew
 have RD := keep _ hbd
 go_region_held3 (fun w' => w'.cell? ⟨p, 5, none⟩ = some (.int .i64 r.x.n)) (first | assumption | exact RD | exact keep _ (by assumption))
  (first
   | (go_at_call 51; refine (yLoad T1.drew (by omega) r.x.n).mono ?_; rintro e w2 ⟨rfl, T2, o2⟩; rw [hv]; have B2 := (B1.below hbd).oth o2 (by simp); have O2 : Oth [p] w w2 := (O1.trans (Oth.drew _ _)).trans (o2.mono (by simp)); have S2 : w2.cell? ⟨p, 5, none⟩ = some (.int .i64 r.x.n) := B2.cell 5)
   | (go_at_call 89; refine (H.rMoved v r.x.n hU.1 hU.2 _).mono ?_; rintro e w3 ⟨rfl, hw3⟩; rw [hmm]; have hb3 : Below w2.heap.size w2 w3 := (by rw [hw3]; go_grown); clear hw3; have B3 := B2.below hb3; have T3 := T2.below hb3; have O3 : Oth [p] w w3 := O2.trans (Oth.below hb3); have S3 : w3.cell? ⟨p, 5, none⟩ = some (.int .i64 r.x.n) := B3.cell 5))
 clear keep RD
 clear c0 c1 c2 c3 c4 c5 c6 c7 c8 c9 c10 c11 c12 c13 c14 c15 c16 c17 c18 c19 c20 cl cz
 have c0 : w3.cell? ⟨p, 0, none⟩ = some (.int .i64 f) := B3.cell 0
 have c1 : w3.cell? ⟨p, 1, none⟩ = some (.int .i64 r.op) := B3.cell 1
 have c2 : w3.cell? ⟨p, 2, none⟩ = some (.int .i64 r.at_) := B3.cell 2
 have c3 : w3.cell? ⟨p, 3, none⟩ = some (.int .i64 r.fd) := B3.cell 3
 have c4 : w3.cell? ⟨p, 4, none⟩ = some (.int .i64 r.x.k) := B3.cell 4
 have c5 : w3.cell? ⟨p, 5, none⟩ = some (.int .i64 r.x.n) := B3.cell 5
 have c6 : w3.cell? ⟨p, 6, none⟩ = some (.int .i64 r.y.k) := B3.cell 6
 have c7 : w3.cell? ⟨p, 7, none⟩ = some (.int .i64 r.y.n) := B3.cell 7
 have c8 : w3.cell? ⟨p, 8, none⟩ = some (.bool hsh) := B3.cell 8
 have c9 : w3.cell? ⟨p, 9, none⟩ = some (.bool hca) := B3.cell 9
 have c10 : w3.cell? ⟨p, 10, none⟩ = some (.bool hfx) := B3.cell 10
 have c11 : w3.cell? ⟨p, 11, none⟩ = some (.int .i64 hmr) := B3.cell 11
 have c12 : w3.cell? ⟨p, 12, none⟩ = some (.int .i64 32) := B3.cell 12
 have c13 : w3.cell? ⟨p, 13, none⟩ = some (.int .u64 ww) := B3.cell 13
 have c14 : w3.cell? ⟨p, 14, none⟩ = some (.int .i64 a) := B3.cell 14
 have c15 : w3.cell? ⟨p, 15, none⟩ = some (xx) := B3.cell 15
 have c16 : w3.cell? ⟨p, 16, none⟩ = some (.bool false) := B3.cell 16
 have c17 : w3.cell? ⟨p, 17, none⟩ = some (.int .i64 oc) := B3.cell 17
 have c18 : w3.cell? ⟨p, 18, none⟩ = some (.int .i64 ov.k) := B3.cell 18
 have c19 : w3.cell? ⟨p, 19, none⟩ = some (.int .i64 ov.n) := B3.cell 19
 have c20 : w3.cell? ⟨p, 20, none⟩ = some (.bool oy) := B3.cell 20
 have cl := B3.lt
 have cz : ∀ i, w3.frozen? ⟨p, i, none⟩ = false := fun i => B3.free i
 go_upto_region 48 with (fail)
 clear c0 c1 c2 c3 c4 c5 c6 c7 c8 c9 c10 c11 c12 c13 c14 c15 c16 c17 c18 c19 c20 cl cz
 have B4 : Blk w0 (w3.setCell ⟨p, 12, none⟩ (.int .i64 0)) p 129 #[.int .i64 f, .int .i64 r.op, .int .i64 r.at_, .int .i64 r.fd, .int .i64 r.x.k, .int .i64 r.x.n, .int .i64 r.y.k, .int .i64 r.y.n, .bool hsh, .bool hca, .bool hfx, .int .i64 hmr, .int .i64 0, .int .u64 ww, .int .i64 a, xx, .bool false, .int .i64 oc, .int .i64 ov.k, .int .i64 ov.n, .bool oy] := (B3.set 12 (.int .i64 0))
 have T4 := (T3.set B3 12 (.int .i64 0))
 have O4 : Oth [p] w (w3.setCell ⟨p, 12, none⟩ (.int .i64 0)) := (O3.trans (Oth.set _ _ _ _ (by simp)))
 generalize (w3.setCell ⟨p, 12, none⟩ (.int .i64 0)) = w4 at B4 T4 O4 ⊢
 have c0 : w4.cell? ⟨p, 0, none⟩ = some (.int .i64 f) := B4.cell 0
 have c1 : w4.cell? ⟨p, 1, none⟩ = some (.int .i64 r.op) := B4.cell 1
 have c2 : w4.cell? ⟨p, 2, none⟩ = some (.int .i64 r.at_) := B4.cell 2
 have c3 : w4.cell? ⟨p, 3, none⟩ = some (.int .i64 r.fd) := B4.cell 3
 have c4 : w4.cell? ⟨p, 4, none⟩ = some (.int .i64 r.x.k) := B4.cell 4
 have c5 : w4.cell? ⟨p, 5, none⟩ = some (.int .i64 r.x.n) := B4.cell 5
 have c6 : w4.cell? ⟨p, 6, none⟩ = some (.int .i64 r.y.k) := B4.cell 6
 have c7 : w4.cell? ⟨p, 7, none⟩ = some (.int .i64 r.y.n) := B4.cell 7
 have c8 : w4.cell? ⟨p, 8, none⟩ = some (.bool hsh) := B4.cell 8
 have c9 : w4.cell? ⟨p, 9, none⟩ = some (.bool hca) := B4.cell 9
 have c10 : w4.cell? ⟨p, 10, none⟩ = some (.bool hfx) := B4.cell 10
 have c11 : w4.cell? ⟨p, 11, none⟩ = some (.int .i64 hmr) := B4.cell 11
 have c12 : w4.cell? ⟨p, 12, none⟩ = some (.int .i64 0) := B4.cell 12
 have c13 : w4.cell? ⟨p, 13, none⟩ = some (.int .u64 ww) := B4.cell 13
 have c14 : w4.cell? ⟨p, 14, none⟩ = some (.int .i64 a) := B4.cell 14
 have c15 : w4.cell? ⟨p, 15, none⟩ = some (xx) := B4.cell 15
 have c16 : w4.cell? ⟨p, 16, none⟩ = some (.bool false) := B4.cell 16
 have c17 : w4.cell? ⟨p, 17, none⟩ = some (.int .i64 oc) := B4.cell 17
 have c18 : w4.cell? ⟨p, 18, none⟩ = some (.int .i64 ov.k) := B4.cell 18
 have c19 : w4.cell? ⟨p, 19, none⟩ = some (.int .i64 ov.n) := B4.cell 19
 have c20 : w4.cell? ⟨p, 20, none⟩ = some (.bool oy) := B4.cell 20
 have cl := B4.lt
 have cz : ∀ i, w4.frozen? ⟨p, i, none⟩ = false := fun i => B4.free i
 go_wp2
 go_ret
 exact ⟨rfl, ⟨T4.mono (by omega), B4, O4⟩⟩
set_option maxHeartbeats 4000000 in
theorem rd32y {w0 w : World} {b y p : Nat} {s1 s2 : St} {N : Nat} {d : RD} (h : Two w0 w b y s1 s2 N) (B : Blk w0 w p 129 d.cells) (hN : N + 5 < 1000000) (hpc : d.pc = 32) (hw : U64 d.w) (hq : (d.a == mv (s2.got d.r.x.n) d.r.x.n) = true) :
  Calls Tryz.prog 60 #[pt p, pt y] w fun e w' => e = .returned (.bool false) ∧ ∃ vx, RdTo w0 w w' b y p s1 (s2.load d.r.x.n) N ⟨d.f, d.r, d.h, pcA ⟨d.f, d.r, d.h, 0, d.w, d.a, d.x, false, d.o⟩ true 35, d.w, d.a, vx, false, d.o⟩ [p] ∧ (pcA ⟨d.f, d.r, d.h, 0, d.w, d.a, d.x, false, d.o⟩ true 35 ≠ 35 → ∃ ps, vx = pt ps ∧ Blk w0 w' ps 162 ((shA ⟨d.f, d.r, d.h, 0, d.w, d.a, d.x, false, d.o⟩ true).rcells Hd.zero 0) ∧ w.heap.size ≤ ps) := by
 obtain ⟨f, r, ⟨hsh, hca, hfx, hmr⟩, pc, ww, a, xx, sh, ⟨oc, ov, oy⟩⟩ := d
 simp only [RD.cells] at B hpc hw hq ⊢
 subst hpc
 obtain ⟨v, hv⟩ : ∃ v, s2.got r.x.n = v := ⟨_, rfl⟩
 have hU : U64 v := hv ▸ h.rng2.got r.x.n
 rw [hv] at hq
 obtain ⟨mm, hmm⟩ : ∃ m, mv v r.x.n = m := ⟨_, rfl⟩
 rw [hmm] at hq
 obtain ⟨pcn, hpn⟩ : ∃ k, pcA ⟨f, r, ⟨hsh, hca, hfx, hmr⟩, 0, ww, a, xx, false, ⟨oc, ov, oy⟩⟩ true 35 = k := ⟨_, rfl⟩
 have pn0 : (pcn == 0) = false := by
  rw [← hpn]; unfold pcA; split
  ·rfl
  ·split <;> rfl
 rw [hpn]
 have c0 : w.cell? ⟨p, 0, none⟩ = some (.int .i64 f) := B.cell 0
 have c1 : w.cell? ⟨p, 1, none⟩ = some (.int .i64 r.op) := B.cell 1
 have c2 : w.cell? ⟨p, 2, none⟩ = some (.int .i64 r.at_) := B.cell 2
 have c3 : w.cell? ⟨p, 3, none⟩ = some (.int .i64 r.fd) := B.cell 3
 have c4 : w.cell? ⟨p, 4, none⟩ = some (.int .i64 r.x.k) := B.cell 4
 have c5 : w.cell? ⟨p, 5, none⟩ = some (.int .i64 r.x.n) := B.cell 5
 have c6 : w.cell? ⟨p, 6, none⟩ = some (.int .i64 r.y.k) := B.cell 6
 have c7 : w.cell? ⟨p, 7, none⟩ = some (.int .i64 r.y.n) := B.cell 7
 have c8 : w.cell? ⟨p, 8, none⟩ = some (.bool hsh) := B.cell 8
 have c9 : w.cell? ⟨p, 9, none⟩ = some (.bool hca) := B.cell 9
 have c10 : w.cell? ⟨p, 10, none⟩ = some (.bool hfx) := B.cell 10
 have c11 : w.cell? ⟨p, 11, none⟩ = some (.int .i64 hmr) := B.cell 11
 have c12 : w.cell? ⟨p, 12, none⟩ = some (.int .i64 32) := B.cell 12
 have c13 : w.cell? ⟨p, 13, none⟩ = some (.int .u64 ww) := B.cell 13
 have c14 : w.cell? ⟨p, 14, none⟩ = some (.int .i64 a) := B.cell 14
 have c15 : w.cell? ⟨p, 15, none⟩ = some (xx) := B.cell 15
 have c16 : w.cell? ⟨p, 16, none⟩ = some (.bool sh) := B.cell 16
 have c17 : w.cell? ⟨p, 17, none⟩ = some (.int .i64 oc) := B.cell 17
 have c18 : w.cell? ⟨p, 18, none⟩ = some (.int .i64 ov.k) := B.cell 18
 have c19 : w.cell? ⟨p, 19, none⟩ = some (.int .i64 ov.n) := B.cell 19
 have c20 : w.cell? ⟨p, 20, none⟩ = some (.bool oy) := B.cell 20
 have cl := B.lt
 have cz : ∀ i, w.frozen? ⟨p, i, none⟩ = false := fun i => B.free i
 go_enter Tryz.func60, Tryz.ntmps60
 go_upto_region 46 with (fail)
 clear c0 c1 c2 c3 c4 c5 c6 c7 c8 c9 c10 c11 c12 c13 c14 c15 c16 c17 c18 c19 c20 cl cz
 have B1 : Blk w0 (w.setCell ⟨p, 16, none⟩ (.bool false)) p 129 #[.int .i64 f, .int .i64 r.op, .int .i64 r.at_, .int .i64 r.fd, .int .i64 r.x.k, .int .i64 r.x.n, .int .i64 r.y.k, .int .i64 r.y.n, .bool hsh, .bool hca, .bool hfx, .int .i64 hmr, .int .i64 32, .int .u64 ww, .int .i64 a, xx, .bool false, .int .i64 oc, .int .i64 ov.k, .int .i64 ov.n, .bool oy] := B.set 16 (.bool false)
 have T1 := h.set B 16 (.bool false)
 have O1 : Oth [p] w (w.setCell ⟨p, 16, none⟩ (.bool false)) := Oth.set _ _ _ _ (by simp)
 generalize w.setCell ⟨p, 16, none⟩ (.bool false) = w1 at B1 T1 O1 ⊢
 have c0 : w1.cell? ⟨p, 0, none⟩ = some (.int .i64 f) := B1.cell 0
 have c1 : w1.cell? ⟨p, 1, none⟩ = some (.int .i64 r.op) := B1.cell 1
 have c2 : w1.cell? ⟨p, 2, none⟩ = some (.int .i64 r.at_) := B1.cell 2
 have c3 : w1.cell? ⟨p, 3, none⟩ = some (.int .i64 r.fd) := B1.cell 3
 have c4 : w1.cell? ⟨p, 4, none⟩ = some (.int .i64 r.x.k) := B1.cell 4
 have c5 : w1.cell? ⟨p, 5, none⟩ = some (.int .i64 r.x.n) := B1.cell 5
 have c6 : w1.cell? ⟨p, 6, none⟩ = some (.int .i64 r.y.k) := B1.cell 6
 have c7 : w1.cell? ⟨p, 7, none⟩ = some (.int .i64 r.y.n) := B1.cell 7
 have c8 : w1.cell? ⟨p, 8, none⟩ = some (.bool hsh) := B1.cell 8
 have c9 : w1.cell? ⟨p, 9, none⟩ = some (.bool hca) := B1.cell 9
 have c10 : w1.cell? ⟨p, 10, none⟩ = some (.bool hfx) := B1.cell 10
 have c11 : w1.cell? ⟨p, 11, none⟩ = some (.int .i64 hmr) := B1.cell 11
 have c12 : w1.cell? ⟨p, 12, none⟩ = some (.int .i64 32) := B1.cell 12
 have c13 : w1.cell? ⟨p, 13, none⟩ = some (.int .u64 ww) := B1.cell 13
 have c14 : w1.cell? ⟨p, 14, none⟩ = some (.int .i64 a) := B1.cell 14
 have c15 : w1.cell? ⟨p, 15, none⟩ = some (xx) := B1.cell 15
 have c16 : w1.cell? ⟨p, 16, none⟩ = some (.bool false) := B1.cell 16
 have c17 : w1.cell? ⟨p, 17, none⟩ = some (.int .i64 oc) := B1.cell 17
 have c18 : w1.cell? ⟨p, 18, none⟩ = some (.int .i64 ov.k) := B1.cell 18
 have c19 : w1.cell? ⟨p, 19, none⟩ = some (.int .i64 ov.n) := B1.cell 19
 have c20 : w1.cell? ⟨p, 20, none⟩ = some (.bool oy) := B1.cell 20
 have cl := B1.lt
 have cz : ∀ i, w1.frozen? ⟨p, i, none⟩ = false := fun i => B1.free i
 have keep : ∀ w', Below w1.heap.size w1 w' → w'.cell? ⟨p, 5, none⟩ = some (.int .i64 r.x.n) := fun w' hb => bcell hb cl c5
 have hbd : Below w1.heap.size w1 w1.drew := (Below.refl _ _).drew
 have RD := keep _ hbd
 go_region_held3 (fun w' => w'.cell? ⟨p, 5, none⟩ = some (.int .i64 r.x.n)) (first | assumption | exact RD | exact keep _ (by assumption))
  (first
   | (go_at_call 51; refine (yLoad T1.drew (by omega) r.x.n).mono ?_; rintro e w2 ⟨rfl, T2, o2⟩; rw [hv]; have B2 := (B1.below hbd).oth o2 (by simp); have O2 : Oth [p] w w2 := (O1.trans (Oth.drew _ _)).trans (o2.mono (by simp)); have S2 : w2.cell? ⟨p, 5, none⟩ = some (.int .i64 r.x.n) := B2.cell 5)
   | (go_at_call 89; refine (H.rMoved v r.x.n hU.1 hU.2 _).mono ?_; rintro e w3 ⟨rfl, hw3⟩; rw [hmm]; have hb3 : Below w2.heap.size w2 w3 := (by rw [hw3]; go_grown); clear hw3; have B3 := B2.below hb3; have T3 := T2.below hb3; have O3 : Oth [p] w w3 := O2.trans (Oth.below hb3); have S3 : w3.cell? ⟨p, 5, none⟩ = some (.int .i64 r.x.n) := B3.cell 5))
 clear keep RD
 clear c0 c1 c2 c3 c4 c5 c6 c7 c8 c9 c10 c11 c12 c13 c14 c15 c16 c17 c18 c19 c20 cl cz
 have c0 : w3.cell? ⟨p, 0, none⟩ = some (.int .i64 f) := B3.cell 0
 have c1 : w3.cell? ⟨p, 1, none⟩ = some (.int .i64 r.op) := B3.cell 1
 have c2 : w3.cell? ⟨p, 2, none⟩ = some (.int .i64 r.at_) := B3.cell 2
 have c3 : w3.cell? ⟨p, 3, none⟩ = some (.int .i64 r.fd) := B3.cell 3
 have c4 : w3.cell? ⟨p, 4, none⟩ = some (.int .i64 r.x.k) := B3.cell 4
 have c5 : w3.cell? ⟨p, 5, none⟩ = some (.int .i64 r.x.n) := B3.cell 5
 have c6 : w3.cell? ⟨p, 6, none⟩ = some (.int .i64 r.y.k) := B3.cell 6
 have c7 : w3.cell? ⟨p, 7, none⟩ = some (.int .i64 r.y.n) := B3.cell 7
 have c8 : w3.cell? ⟨p, 8, none⟩ = some (.bool hsh) := B3.cell 8
 have c9 : w3.cell? ⟨p, 9, none⟩ = some (.bool hca) := B3.cell 9
 have c10 : w3.cell? ⟨p, 10, none⟩ = some (.bool hfx) := B3.cell 10
 have c11 : w3.cell? ⟨p, 11, none⟩ = some (.int .i64 hmr) := B3.cell 11
 have c12 : w3.cell? ⟨p, 12, none⟩ = some (.int .i64 32) := B3.cell 12
 have c13 : w3.cell? ⟨p, 13, none⟩ = some (.int .u64 ww) := B3.cell 13
 have c14 : w3.cell? ⟨p, 14, none⟩ = some (.int .i64 a) := B3.cell 14
 have c15 : w3.cell? ⟨p, 15, none⟩ = some (xx) := B3.cell 15
 have c16 : w3.cell? ⟨p, 16, none⟩ = some (.bool false) := B3.cell 16
 have c17 : w3.cell? ⟨p, 17, none⟩ = some (.int .i64 oc) := B3.cell 17
 have c18 : w3.cell? ⟨p, 18, none⟩ = some (.int .i64 ov.k) := B3.cell 18
 have c19 : w3.cell? ⟨p, 19, none⟩ = some (.int .i64 ov.n) := B3.cell 19
 have c20 : w3.cell? ⟨p, 20, none⟩ = some (.bool oy) := B3.cell 20
 have cl := B3.lt
 have cz : ∀ i, w3.frozen? ⟨p, i, none⟩ = false := fun i => B3.free i
 go_upto_region 48 with (fail)
 clear c0 c1 c2 c3 c4 c5 c6 c7 c8 c9 c10 c11 c12 c13 c14 c15 c16 c17 c18 c19 c20 cl cz
 have B4 : Blk w0 (w3.setCell ⟨p, 12, none⟩ (.int .i64 0)) p 129 #[.int .i64 f, .int .i64 r.op, .int .i64 r.at_, .int .i64 r.fd, .int .i64 r.x.k, .int .i64 r.x.n, .int .i64 r.y.k, .int .i64 r.y.n, .bool hsh, .bool hca, .bool hfx, .int .i64 hmr, .int .i64 0, .int .u64 ww, .int .i64 a, xx, .bool false, .int .i64 oc, .int .i64 ov.k, .int .i64 ov.n, .bool oy] := (B3.set 12 (.int .i64 0))
 have T4 := (T3.set B3 12 (.int .i64 0))
 have O4 : Oth [p] w (w3.setCell ⟨p, 12, none⟩ (.int .i64 0)) := (O3.trans (Oth.set _ _ _ _ (by simp)))
 generalize (w3.setCell ⟨p, 12, none⟩ (.int .i64 0)) = w4 at B4 T4 O4 ⊢
 have c0 : w4.cell? ⟨p, 0, none⟩ = some (.int .i64 f) := B4.cell 0
 have c1 : w4.cell? ⟨p, 1, none⟩ = some (.int .i64 r.op) := B4.cell 1
 have c2 : w4.cell? ⟨p, 2, none⟩ = some (.int .i64 r.at_) := B4.cell 2
 have c3 : w4.cell? ⟨p, 3, none⟩ = some (.int .i64 r.fd) := B4.cell 3
 have c4 : w4.cell? ⟨p, 4, none⟩ = some (.int .i64 r.x.k) := B4.cell 4
 have c5 : w4.cell? ⟨p, 5, none⟩ = some (.int .i64 r.x.n) := B4.cell 5
 have c6 : w4.cell? ⟨p, 6, none⟩ = some (.int .i64 r.y.k) := B4.cell 6
 have c7 : w4.cell? ⟨p, 7, none⟩ = some (.int .i64 r.y.n) := B4.cell 7
 have c8 : w4.cell? ⟨p, 8, none⟩ = some (.bool hsh) := B4.cell 8
 have c9 : w4.cell? ⟨p, 9, none⟩ = some (.bool hca) := B4.cell 9
 have c10 : w4.cell? ⟨p, 10, none⟩ = some (.bool hfx) := B4.cell 10
 have c11 : w4.cell? ⟨p, 11, none⟩ = some (.int .i64 hmr) := B4.cell 11
 have c12 : w4.cell? ⟨p, 12, none⟩ = some (.int .i64 0) := B4.cell 12
 have c13 : w4.cell? ⟨p, 13, none⟩ = some (.int .u64 ww) := B4.cell 13
 have c14 : w4.cell? ⟨p, 14, none⟩ = some (.int .i64 a) := B4.cell 14
 have c15 : w4.cell? ⟨p, 15, none⟩ = some (xx) := B4.cell 15
 have c16 : w4.cell? ⟨p, 16, none⟩ = some (.bool false) := B4.cell 16
 have c17 : w4.cell? ⟨p, 17, none⟩ = some (.int .i64 oc) := B4.cell 17
 have c18 : w4.cell? ⟨p, 18, none⟩ = some (.int .i64 ov.k) := B4.cell 18
 have c19 : w4.cell? ⟨p, 19, none⟩ = some (.int .i64 ov.n) := B4.cell 19
 have c20 : w4.cell? ⟨p, 20, none⟩ = some (.bool oy) := B4.cell 20
 have cl := B4.lt
 have cz : ∀ i, w4.frozen? ⟨p, i, none⟩ = false := fun i => B4.free i
 go_upto_region 65 with (go_at_call 90; refine (rShades (d := ⟨f, r, ⟨hsh, hca, hfx, hmr⟩, 0, ww, a, xx, false, ⟨oc, ov, oy⟩⟩) B4 hw true 35 (by decide) (by decide)).mono ?_; rintro e w5 ⟨rfl, k5, vx, B5, q5⟩; rw [hpn] at q5 ⊢; simp only [RD.withX, RD.cells] at B5; have T5 := T4.kept k5 (fun k hk => by simp at hk; subst hk; exact ⟨B4.old, _, _, _, B4.hT, B4.at_⟩); have O5 : Oth [p] w w5 := O4.trans ((Oth.kept k5).mono (by simp)); clear c12 cz; have c12 : w5.cell? ⟨p, 12, none⟩ = some (.int .i64 0) := B5.cell 12; have cz : ∀ i, w5.frozen? ⟨p, i, none⟩ = false := fun i => B5.free i)
 clear c0 c1 c2 c3 c4 c5 c6 c7 c8 c9 c10 c11 c12 c13 c14 c15 c16 c17 c18 c19 c20 cl cz
 have Q6 : pcn ≠ 35 → ∃ ps', vx = pt ps' ∧ Blk w0 (w5.setCell ⟨p, 12, none⟩ (.int .i64 pcn)) ps' 162 ((shA ⟨f, r, ⟨hsh, hca, hfx, hmr⟩, 0, ww, a, xx, false, ⟨oc, ov, oy⟩⟩ true).rcells Hd.zero 0) ∧ w.heap.size ≤ ps' := fun hne => by
  obtain ⟨ps', e1, e2, e3⟩ := q5 hne
  exact ⟨ps', e1, e2.oth (Oth.set (F := [p]) _ _ _ _ (by simp)) (by simp only [List.mem_singleton]; have := B4.lt; omega), Nat.le_trans O4.size e3⟩
 have B6 : Blk w0 (w5.setCell ⟨p, 12, none⟩ (.int .i64 pcn)) p 129 #[.int .i64 f, .int .i64 r.op, .int .i64 r.at_, .int .i64 r.fd, .int .i64 r.x.k, .int .i64 r.x.n, .int .i64 r.y.k, .int .i64 r.y.n, .bool hsh, .bool hca, .bool hfx, .int .i64 hmr, .int .i64 pcn, .int .u64 ww, .int .i64 a, vx, .bool false, .int .i64 oc, .int .i64 ov.k, .int .i64 ov.n, .bool oy] := (B5.set 12 (.int .i64 pcn))
 have T6 := (T5.set B5 12 (.int .i64 pcn))
 have O6 : Oth [p] w (w5.setCell ⟨p, 12, none⟩ (.int .i64 pcn)) := (O5.trans (Oth.set _ _ _ _ (by simp)))
 generalize (w5.setCell ⟨p, 12, none⟩ (.int .i64 pcn)) = w6 at B6 T6 O6 Q6 ⊢
 have c0 : w6.cell? ⟨p, 0, none⟩ = some (.int .i64 f) := B6.cell 0
 have c1 : w6.cell? ⟨p, 1, none⟩ = some (.int .i64 r.op) := B6.cell 1
 have c2 : w6.cell? ⟨p, 2, none⟩ = some (.int .i64 r.at_) := B6.cell 2
 have c3 : w6.cell? ⟨p, 3, none⟩ = some (.int .i64 r.fd) := B6.cell 3
 have c4 : w6.cell? ⟨p, 4, none⟩ = some (.int .i64 r.x.k) := B6.cell 4
 have c5 : w6.cell? ⟨p, 5, none⟩ = some (.int .i64 r.x.n) := B6.cell 5
 have c6 : w6.cell? ⟨p, 6, none⟩ = some (.int .i64 r.y.k) := B6.cell 6
 have c7 : w6.cell? ⟨p, 7, none⟩ = some (.int .i64 r.y.n) := B6.cell 7
 have c8 : w6.cell? ⟨p, 8, none⟩ = some (.bool hsh) := B6.cell 8
 have c9 : w6.cell? ⟨p, 9, none⟩ = some (.bool hca) := B6.cell 9
 have c10 : w6.cell? ⟨p, 10, none⟩ = some (.bool hfx) := B6.cell 10
 have c11 : w6.cell? ⟨p, 11, none⟩ = some (.int .i64 hmr) := B6.cell 11
 have c12 : w6.cell? ⟨p, 12, none⟩ = some (.int .i64 pcn) := B6.cell 12
 have c13 : w6.cell? ⟨p, 13, none⟩ = some (.int .u64 ww) := B6.cell 13
 have c14 : w6.cell? ⟨p, 14, none⟩ = some (.int .i64 a) := B6.cell 14
 have c15 : w6.cell? ⟨p, 15, none⟩ = some (vx) := B6.cell 15
 have c16 : w6.cell? ⟨p, 16, none⟩ = some (.bool false) := B6.cell 16
 have c17 : w6.cell? ⟨p, 17, none⟩ = some (.int .i64 oc) := B6.cell 17
 have c18 : w6.cell? ⟨p, 18, none⟩ = some (.int .i64 ov.k) := B6.cell 18
 have c19 : w6.cell? ⟨p, 19, none⟩ = some (.int .i64 ov.n) := B6.cell 19
 have c20 : w6.cell? ⟨p, 20, none⟩ = some (.bool oy) := B6.cell 20
 have cl := B6.lt
 have cz : ∀ i, w6.frozen? ⟨p, i, none⟩ = false := fun i => B6.free i
 go_wp2
 go_ret
 exact ⟨rfl, vx, ⟨T6.mono (by omega), B6, O6⟩, Q6⟩
set_option maxHeartbeats 4000000 in
theorem rd35n {w0 w : World} {b y p : Nat} {s1 s2 : St} {N : Nat} {d : RD} (h : Two w0 w b y s1 s2 N) (B : Blk w0 w p 129 d.cells) (hN : N + 5 < 1000000) (hpc : d.pc = 35) (hok : s2.ok1 d.f d.w = false) :
  Calls Tryz.prog 60 #[pt p, pt y] w fun e w' => e = .returned (.bool false) ∧ RdTo w0 w w' b y p s1 (s2.cas d.f d.w d.r.y.w) N ⟨d.f, d.r, d.h, 30, d.w, d.a, d.x, false, d.o⟩ [p] := by
 obtain ⟨f, r, ⟨hsh, hca, hfx, hmr⟩, pc, ww, a, xx, sh, ⟨oc, ov, oy⟩⟩ := d
 simp only [RD.cells] at B hpc hok ⊢
 subst hpc
 have hyU := r.y.u64
 obtain ⟨yw, hyw⟩ : ∃ v, r.y.w = v := ⟨_, rfl⟩
 have hyw' : F.Plain.word r.y.k r.y.n = yw := hyw
 rw [hyw] at hyU ⊢
 have c0 : w.cell? ⟨p, 0, none⟩ = some (.int .i64 f) := B.cell 0
 have c1 : w.cell? ⟨p, 1, none⟩ = some (.int .i64 r.op) := B.cell 1
 have c2 : w.cell? ⟨p, 2, none⟩ = some (.int .i64 r.at_) := B.cell 2
 have c3 : w.cell? ⟨p, 3, none⟩ = some (.int .i64 r.fd) := B.cell 3
 have c4 : w.cell? ⟨p, 4, none⟩ = some (.int .i64 r.x.k) := B.cell 4
 have c5 : w.cell? ⟨p, 5, none⟩ = some (.int .i64 r.x.n) := B.cell 5
 have c6 : w.cell? ⟨p, 6, none⟩ = some (.int .i64 r.y.k) := B.cell 6
 have c7 : w.cell? ⟨p, 7, none⟩ = some (.int .i64 r.y.n) := B.cell 7
 have c8 : w.cell? ⟨p, 8, none⟩ = some (.bool hsh) := B.cell 8
 have c9 : w.cell? ⟨p, 9, none⟩ = some (.bool hca) := B.cell 9
 have c10 : w.cell? ⟨p, 10, none⟩ = some (.bool hfx) := B.cell 10
 have c11 : w.cell? ⟨p, 11, none⟩ = some (.int .i64 hmr) := B.cell 11
 have c12 : w.cell? ⟨p, 12, none⟩ = some (.int .i64 35) := B.cell 12
 have c13 : w.cell? ⟨p, 13, none⟩ = some (.int .u64 ww) := B.cell 13
 have c14 : w.cell? ⟨p, 14, none⟩ = some (.int .i64 a) := B.cell 14
 have c15 : w.cell? ⟨p, 15, none⟩ = some (xx) := B.cell 15
 have c16 : w.cell? ⟨p, 16, none⟩ = some (.bool sh) := B.cell 16
 have c17 : w.cell? ⟨p, 17, none⟩ = some (.int .i64 oc) := B.cell 17
 have c18 : w.cell? ⟨p, 18, none⟩ = some (.int .i64 ov.k) := B.cell 18
 have c19 : w.cell? ⟨p, 19, none⟩ = some (.int .i64 ov.n) := B.cell 19
 have c20 : w.cell? ⟨p, 20, none⟩ = some (.bool oy) := B.cell 20
 have cl := B.lt
 have cz : ∀ i, w.frozen? ⟨p, i, none⟩ = false := fun i => B.free i
 go_enter Tryz.func60, Tryz.ntmps60
 go_upto_region 59 with (fail)
 clear c0 c1 c2 c3 c4 c5 c6 c7 c8 c9 c10 c11 c12 c13 c14 c15 c16 c17 c18 c19 c20 cl cz
 have B1 : Blk w0 (w.setCell ⟨p, 16, none⟩ (.bool false)) p 129 #[.int .i64 f, .int .i64 r.op, .int .i64 r.at_, .int .i64 r.fd, .int .i64 r.x.k, .int .i64 r.x.n, .int .i64 r.y.k, .int .i64 r.y.n, .bool hsh, .bool hca, .bool hfx, .int .i64 hmr, .int .i64 35, .int .u64 ww, .int .i64 a, xx, .bool false, .int .i64 oc, .int .i64 ov.k, .int .i64 ov.n, .bool oy] := B.set 16 (.bool false)
 have T1 := h.set B 16 (.bool false)
 have O1 : Oth [p] w (w.setCell ⟨p, 16, none⟩ (.bool false)) := Oth.set _ _ _ _ (by simp)
 generalize w.setCell ⟨p, 16, none⟩ (.bool false) = w1 at B1 T1 O1 ⊢
 have c0 : w1.cell? ⟨p, 0, none⟩ = some (.int .i64 f) := B1.cell 0
 have c1 : w1.cell? ⟨p, 1, none⟩ = some (.int .i64 r.op) := B1.cell 1
 have c2 : w1.cell? ⟨p, 2, none⟩ = some (.int .i64 r.at_) := B1.cell 2
 have c3 : w1.cell? ⟨p, 3, none⟩ = some (.int .i64 r.fd) := B1.cell 3
 have c4 : w1.cell? ⟨p, 4, none⟩ = some (.int .i64 r.x.k) := B1.cell 4
 have c5 : w1.cell? ⟨p, 5, none⟩ = some (.int .i64 r.x.n) := B1.cell 5
 have c6 : w1.cell? ⟨p, 6, none⟩ = some (.int .i64 r.y.k) := B1.cell 6
 have c7 : w1.cell? ⟨p, 7, none⟩ = some (.int .i64 r.y.n) := B1.cell 7
 have c8 : w1.cell? ⟨p, 8, none⟩ = some (.bool hsh) := B1.cell 8
 have c9 : w1.cell? ⟨p, 9, none⟩ = some (.bool hca) := B1.cell 9
 have c10 : w1.cell? ⟨p, 10, none⟩ = some (.bool hfx) := B1.cell 10
 have c11 : w1.cell? ⟨p, 11, none⟩ = some (.int .i64 hmr) := B1.cell 11
 have c12 : w1.cell? ⟨p, 12, none⟩ = some (.int .i64 35) := B1.cell 12
 have c13 : w1.cell? ⟨p, 13, none⟩ = some (.int .u64 ww) := B1.cell 13
 have c14 : w1.cell? ⟨p, 14, none⟩ = some (.int .i64 a) := B1.cell 14
 have c15 : w1.cell? ⟨p, 15, none⟩ = some (xx) := B1.cell 15
 have c16 : w1.cell? ⟨p, 16, none⟩ = some (.bool false) := B1.cell 16
 have c17 : w1.cell? ⟨p, 17, none⟩ = some (.int .i64 oc) := B1.cell 17
 have c18 : w1.cell? ⟨p, 18, none⟩ = some (.int .i64 ov.k) := B1.cell 18
 have c19 : w1.cell? ⟨p, 19, none⟩ = some (.int .i64 ov.n) := B1.cell 19
 have c20 : w1.cell? ⟨p, 20, none⟩ = some (.bool oy) := B1.cell 20
 have cl := B1.lt
 have cz : ∀ i, w1.frozen? ⟨p, i, none⟩ = false := fun i => B1.free i
 have keep : ∀ w', Below w1.heap.size w1 w' → w'.cell? ⟨p, 0, none⟩ = some (.int .i64 f) ∧ w'.cell? ⟨p, 6, none⟩ = some (.int .i64 r.y.k) ∧ w'.cell? ⟨p, 7, none⟩ = some (.int .i64 r.y.n) ∧ w'.cell? ⟨p, 13, none⟩ = some (.int .u64 ww) := fun w' hb => ⟨bcell hb cl c0, bcell hb cl c6, bcell hb cl c7, bcell hb cl c13⟩
 have hbd : Below w1.heap.size w1 w1.drew := (Below.refl _ _).drew
 have RD := keep _ hbd
 go_region_held3 (fun w' => w'.cell? ⟨p, 0, none⟩ = some (.int .i64 f) ∧ w'.cell? ⟨p, 6, none⟩ = some (.int .i64 r.y.k) ∧ w'.cell? ⟨p, 7, none⟩ = some (.int .i64 r.y.n) ∧ w'.cell? ⟨p, 13, none⟩ = some (.int .u64 ww)) (first | assumption | exact RD | exact keep _ (by assumption))
  (first
   | (go_at_call 36; refine (F.rWord r.y.k r.y.n _).mono ?_; rintro e w2 ⟨rfl, m2, hw2⟩; rw [hyw']; have hb2 : Below w1.heap.size w1 w2 := (by rw [hw2]; exact F.bdr (F.bal hbd _) _); clear hw2; have B2 := B1.below hb2; have T2 := T1.below hb2; have O2 : Oth [p] w w2 := O1.trans (Oth.below hb2))
   | (go_at_call 55; refine (yCAS T2 (by omega) f ww hyU).mono ?_; rintro e w3 ⟨rfl, T3, o3⟩; rw [hok]; have B3 := B2.oth o3 (by simp); have O3 : Oth [p] w w3 := O2.trans (o3.mono (by simp)); have S3 : w3.cell? ⟨p, 0, none⟩ = some (.int .i64 f) ∧ w3.cell? ⟨p, 6, none⟩ = some (.int .i64 r.y.k) ∧ w3.cell? ⟨p, 7, none⟩ = some (.int .i64 r.y.n) ∧ w3.cell? ⟨p, 13, none⟩ = some (.int .u64 ww) := ⟨B3.cell 0, B3.cell 6, B3.cell 7, B3.cell 13⟩))
 clear keep RD
 clear c0 c1 c2 c3 c4 c5 c6 c7 c8 c9 c10 c11 c12 c13 c14 c15 c16 c17 c18 c19 c20 cl cz
 have c0 : w3.cell? ⟨p, 0, none⟩ = some (.int .i64 f) := B3.cell 0
 have c1 : w3.cell? ⟨p, 1, none⟩ = some (.int .i64 r.op) := B3.cell 1
 have c2 : w3.cell? ⟨p, 2, none⟩ = some (.int .i64 r.at_) := B3.cell 2
 have c3 : w3.cell? ⟨p, 3, none⟩ = some (.int .i64 r.fd) := B3.cell 3
 have c4 : w3.cell? ⟨p, 4, none⟩ = some (.int .i64 r.x.k) := B3.cell 4
 have c5 : w3.cell? ⟨p, 5, none⟩ = some (.int .i64 r.x.n) := B3.cell 5
 have c6 : w3.cell? ⟨p, 6, none⟩ = some (.int .i64 r.y.k) := B3.cell 6
 have c7 : w3.cell? ⟨p, 7, none⟩ = some (.int .i64 r.y.n) := B3.cell 7
 have c8 : w3.cell? ⟨p, 8, none⟩ = some (.bool hsh) := B3.cell 8
 have c9 : w3.cell? ⟨p, 9, none⟩ = some (.bool hca) := B3.cell 9
 have c10 : w3.cell? ⟨p, 10, none⟩ = some (.bool hfx) := B3.cell 10
 have c11 : w3.cell? ⟨p, 11, none⟩ = some (.int .i64 hmr) := B3.cell 11
 have c12 : w3.cell? ⟨p, 12, none⟩ = some (.int .i64 35) := B3.cell 12
 have c13 : w3.cell? ⟨p, 13, none⟩ = some (.int .u64 ww) := B3.cell 13
 have c14 : w3.cell? ⟨p, 14, none⟩ = some (.int .i64 a) := B3.cell 14
 have c15 : w3.cell? ⟨p, 15, none⟩ = some (xx) := B3.cell 15
 have c16 : w3.cell? ⟨p, 16, none⟩ = some (.bool false) := B3.cell 16
 have c17 : w3.cell? ⟨p, 17, none⟩ = some (.int .i64 oc) := B3.cell 17
 have c18 : w3.cell? ⟨p, 18, none⟩ = some (.int .i64 ov.k) := B3.cell 18
 have c19 : w3.cell? ⟨p, 19, none⟩ = some (.int .i64 ov.n) := B3.cell 19
 have c20 : w3.cell? ⟨p, 20, none⟩ = some (.bool oy) := B3.cell 20
 have cl := B3.lt
 have cz : ∀ i, w3.frozen? ⟨p, i, none⟩ = false := fun i => B3.free i
 go_wp2
 go_ret
 exact ⟨rfl, ⟨(T3.set B3 12 (.int .i64 30)).mono (by omega), (B3.set 12 (.int .i64 30)), (O3.trans (Oth.set _ _ _ _ (by simp)))⟩⟩
set_option maxHeartbeats 4000000 in
theorem rd35y {w0 w : World} {b y p : Nat} {s1 s2 : St} {N : Nat} {d : RD} (h : Two w0 w b y s1 s2 N) (B : Blk w0 w p 129 d.cells) (hN : N + 5 < 1000000) (hpc : d.pc = 35) (hok : s2.ok1 d.f d.w = true) :
  Calls Tryz.prog 60 #[pt p, pt y] w fun e w' => e = .returned (.bool true) ∧ RdTo w0 w w' b y p s1 (s2.cas d.f d.w d.r.y.w) N ⟨d.f, d.r, d.h, 0, d.w, d.a, d.x, true, ⟨d.o.c, d.o.v, true⟩⟩ [p] := by
 obtain ⟨f, r, ⟨hsh, hca, hfx, hmr⟩, pc, ww, a, xx, sh, ⟨oc, ov, oy⟩⟩ := d
 simp only [RD.cells] at B hpc hok ⊢
 subst hpc
 have hyU := r.y.u64
 obtain ⟨yw, hyw⟩ : ∃ v, r.y.w = v := ⟨_, rfl⟩
 have hyw' : F.Plain.word r.y.k r.y.n = yw := hyw
 rw [hyw] at hyU ⊢
 have c0 : w.cell? ⟨p, 0, none⟩ = some (.int .i64 f) := B.cell 0
 have c1 : w.cell? ⟨p, 1, none⟩ = some (.int .i64 r.op) := B.cell 1
 have c2 : w.cell? ⟨p, 2, none⟩ = some (.int .i64 r.at_) := B.cell 2
 have c3 : w.cell? ⟨p, 3, none⟩ = some (.int .i64 r.fd) := B.cell 3
 have c4 : w.cell? ⟨p, 4, none⟩ = some (.int .i64 r.x.k) := B.cell 4
 have c5 : w.cell? ⟨p, 5, none⟩ = some (.int .i64 r.x.n) := B.cell 5
 have c6 : w.cell? ⟨p, 6, none⟩ = some (.int .i64 r.y.k) := B.cell 6
 have c7 : w.cell? ⟨p, 7, none⟩ = some (.int .i64 r.y.n) := B.cell 7
 have c8 : w.cell? ⟨p, 8, none⟩ = some (.bool hsh) := B.cell 8
 have c9 : w.cell? ⟨p, 9, none⟩ = some (.bool hca) := B.cell 9
 have c10 : w.cell? ⟨p, 10, none⟩ = some (.bool hfx) := B.cell 10
 have c11 : w.cell? ⟨p, 11, none⟩ = some (.int .i64 hmr) := B.cell 11
 have c12 : w.cell? ⟨p, 12, none⟩ = some (.int .i64 35) := B.cell 12
 have c13 : w.cell? ⟨p, 13, none⟩ = some (.int .u64 ww) := B.cell 13
 have c14 : w.cell? ⟨p, 14, none⟩ = some (.int .i64 a) := B.cell 14
 have c15 : w.cell? ⟨p, 15, none⟩ = some (xx) := B.cell 15
 have c16 : w.cell? ⟨p, 16, none⟩ = some (.bool sh) := B.cell 16
 have c17 : w.cell? ⟨p, 17, none⟩ = some (.int .i64 oc) := B.cell 17
 have c18 : w.cell? ⟨p, 18, none⟩ = some (.int .i64 ov.k) := B.cell 18
 have c19 : w.cell? ⟨p, 19, none⟩ = some (.int .i64 ov.n) := B.cell 19
 have c20 : w.cell? ⟨p, 20, none⟩ = some (.bool oy) := B.cell 20
 have cl := B.lt
 have cz : ∀ i, w.frozen? ⟨p, i, none⟩ = false := fun i => B.free i
 go_enter Tryz.func60, Tryz.ntmps60
 go_upto_region 59 with (fail)
 clear c0 c1 c2 c3 c4 c5 c6 c7 c8 c9 c10 c11 c12 c13 c14 c15 c16 c17 c18 c19 c20 cl cz
 have B1 : Blk w0 (w.setCell ⟨p, 16, none⟩ (.bool false)) p 129 #[.int .i64 f, .int .i64 r.op, .int .i64 r.at_, .int .i64 r.fd, .int .i64 r.x.k, .int .i64 r.x.n, .int .i64 r.y.k, .int .i64 r.y.n, .bool hsh, .bool hca, .bool hfx, .int .i64 hmr, .int .i64 35, .int .u64 ww, .int .i64 a, xx, .bool false, .int .i64 oc, .int .i64 ov.k, .int .i64 ov.n, .bool oy] := B.set 16 (.bool false)
 have T1 := h.set B 16 (.bool false)
 have O1 : Oth [p] w (w.setCell ⟨p, 16, none⟩ (.bool false)) := Oth.set _ _ _ _ (by simp)
 generalize w.setCell ⟨p, 16, none⟩ (.bool false) = w1 at B1 T1 O1 ⊢
 have c0 : w1.cell? ⟨p, 0, none⟩ = some (.int .i64 f) := B1.cell 0
 have c1 : w1.cell? ⟨p, 1, none⟩ = some (.int .i64 r.op) := B1.cell 1
 have c2 : w1.cell? ⟨p, 2, none⟩ = some (.int .i64 r.at_) := B1.cell 2
 have c3 : w1.cell? ⟨p, 3, none⟩ = some (.int .i64 r.fd) := B1.cell 3
 have c4 : w1.cell? ⟨p, 4, none⟩ = some (.int .i64 r.x.k) := B1.cell 4
 have c5 : w1.cell? ⟨p, 5, none⟩ = some (.int .i64 r.x.n) := B1.cell 5
 have c6 : w1.cell? ⟨p, 6, none⟩ = some (.int .i64 r.y.k) := B1.cell 6
 have c7 : w1.cell? ⟨p, 7, none⟩ = some (.int .i64 r.y.n) := B1.cell 7
 have c8 : w1.cell? ⟨p, 8, none⟩ = some (.bool hsh) := B1.cell 8
 have c9 : w1.cell? ⟨p, 9, none⟩ = some (.bool hca) := B1.cell 9
 have c10 : w1.cell? ⟨p, 10, none⟩ = some (.bool hfx) := B1.cell 10
 have c11 : w1.cell? ⟨p, 11, none⟩ = some (.int .i64 hmr) := B1.cell 11
 have c12 : w1.cell? ⟨p, 12, none⟩ = some (.int .i64 35) := B1.cell 12
 have c13 : w1.cell? ⟨p, 13, none⟩ = some (.int .u64 ww) := B1.cell 13
 have c14 : w1.cell? ⟨p, 14, none⟩ = some (.int .i64 a) := B1.cell 14
 have c15 : w1.cell? ⟨p, 15, none⟩ = some (xx) := B1.cell 15
 have c16 : w1.cell? ⟨p, 16, none⟩ = some (.bool false) := B1.cell 16
 have c17 : w1.cell? ⟨p, 17, none⟩ = some (.int .i64 oc) := B1.cell 17
 have c18 : w1.cell? ⟨p, 18, none⟩ = some (.int .i64 ov.k) := B1.cell 18
 have c19 : w1.cell? ⟨p, 19, none⟩ = some (.int .i64 ov.n) := B1.cell 19
 have c20 : w1.cell? ⟨p, 20, none⟩ = some (.bool oy) := B1.cell 20
 have cl := B1.lt
 have cz : ∀ i, w1.frozen? ⟨p, i, none⟩ = false := fun i => B1.free i
 have keep : ∀ w', Below w1.heap.size w1 w' → w'.cell? ⟨p, 0, none⟩ = some (.int .i64 f) ∧ w'.cell? ⟨p, 6, none⟩ = some (.int .i64 r.y.k) ∧ w'.cell? ⟨p, 7, none⟩ = some (.int .i64 r.y.n) ∧ w'.cell? ⟨p, 13, none⟩ = some (.int .u64 ww) := fun w' hb => ⟨bcell hb cl c0, bcell hb cl c6, bcell hb cl c7, bcell hb cl c13⟩
 have hbd : Below w1.heap.size w1 w1.drew := (Below.refl _ _).drew
 have RD := keep _ hbd
 go_region_held3 (fun w' => w'.cell? ⟨p, 0, none⟩ = some (.int .i64 f) ∧ w'.cell? ⟨p, 6, none⟩ = some (.int .i64 r.y.k) ∧ w'.cell? ⟨p, 7, none⟩ = some (.int .i64 r.y.n) ∧ w'.cell? ⟨p, 13, none⟩ = some (.int .u64 ww)) (first | assumption | exact RD | exact keep _ (by assumption))
  (first
   | (go_at_call 36; refine (F.rWord r.y.k r.y.n _).mono ?_; rintro e w2 ⟨rfl, m2, hw2⟩; rw [hyw']; have hb2 : Below w1.heap.size w1 w2 := (by rw [hw2]; exact F.bdr (F.bal hbd _) _); clear hw2; have B2 := B1.below hb2; have T2 := T1.below hb2; have O2 : Oth [p] w w2 := O1.trans (Oth.below hb2))
   | (go_at_call 55; refine (yCAS T2 (by omega) f ww hyU).mono ?_; rintro e w3 ⟨rfl, T3, o3⟩; rw [hok]; have B3 := B2.oth o3 (by simp); have O3 : Oth [p] w w3 := O2.trans (o3.mono (by simp)); have S3 : w3.cell? ⟨p, 0, none⟩ = some (.int .i64 f) ∧ w3.cell? ⟨p, 6, none⟩ = some (.int .i64 r.y.k) ∧ w3.cell? ⟨p, 7, none⟩ = some (.int .i64 r.y.n) ∧ w3.cell? ⟨p, 13, none⟩ = some (.int .u64 ww) := ⟨B3.cell 0, B3.cell 6, B3.cell 7, B3.cell 13⟩))
 clear keep RD
 clear c0 c1 c2 c3 c4 c5 c6 c7 c8 c9 c10 c11 c12 c13 c14 c15 c16 c17 c18 c19 c20 cl cz
 have c0 : w3.cell? ⟨p, 0, none⟩ = some (.int .i64 f) := B3.cell 0
 have c1 : w3.cell? ⟨p, 1, none⟩ = some (.int .i64 r.op) := B3.cell 1
 have c2 : w3.cell? ⟨p, 2, none⟩ = some (.int .i64 r.at_) := B3.cell 2
 have c3 : w3.cell? ⟨p, 3, none⟩ = some (.int .i64 r.fd) := B3.cell 3
 have c4 : w3.cell? ⟨p, 4, none⟩ = some (.int .i64 r.x.k) := B3.cell 4
 have c5 : w3.cell? ⟨p, 5, none⟩ = some (.int .i64 r.x.n) := B3.cell 5
 have c6 : w3.cell? ⟨p, 6, none⟩ = some (.int .i64 r.y.k) := B3.cell 6
 have c7 : w3.cell? ⟨p, 7, none⟩ = some (.int .i64 r.y.n) := B3.cell 7
 have c8 : w3.cell? ⟨p, 8, none⟩ = some (.bool hsh) := B3.cell 8
 have c9 : w3.cell? ⟨p, 9, none⟩ = some (.bool hca) := B3.cell 9
 have c10 : w3.cell? ⟨p, 10, none⟩ = some (.bool hfx) := B3.cell 10
 have c11 : w3.cell? ⟨p, 11, none⟩ = some (.int .i64 hmr) := B3.cell 11
 have c12 : w3.cell? ⟨p, 12, none⟩ = some (.int .i64 35) := B3.cell 12
 have c13 : w3.cell? ⟨p, 13, none⟩ = some (.int .u64 ww) := B3.cell 13
 have c14 : w3.cell? ⟨p, 14, none⟩ = some (.int .i64 a) := B3.cell 14
 have c15 : w3.cell? ⟨p, 15, none⟩ = some (xx) := B3.cell 15
 have c16 : w3.cell? ⟨p, 16, none⟩ = some (.bool false) := B3.cell 16
 have c17 : w3.cell? ⟨p, 17, none⟩ = some (.int .i64 oc) := B3.cell 17
 have c18 : w3.cell? ⟨p, 18, none⟩ = some (.int .i64 ov.k) := B3.cell 18
 have c19 : w3.cell? ⟨p, 19, none⟩ = some (.int .i64 ov.n) := B3.cell 19
 have c20 : w3.cell? ⟨p, 20, none⟩ = some (.bool oy) := B3.cell 20
 have cl := B3.lt
 have cz : ∀ i, w3.frozen? ⟨p, i, none⟩ = false := fun i => B3.free i
 go_wp2
 go_ret
 exact ⟨rfl, ⟨((((T3.set B3 12 (.int .i64 30)).set (B3.set 12 (.int .i64 30)) 16 (.bool true)).set ((B3.set 12 (.int .i64 30)).set 16 (.bool true)) 20 (.bool true)).set (((B3.set 12 (.int .i64 30)).set 16 (.bool true)).set 20 (.bool true)) 12 (.int .i64 0)).mono (by omega), ((((B3.set 12 (.int .i64 30)).set 16 (.bool true)).set 20 (.bool true)).set 12 (.int .i64 0)), ((((O3.trans (Oth.set _ _ _ _ (by simp))).trans (Oth.set _ _ _ _ (by simp))).trans (Oth.set _ _ _ _ (by simp))).trans (Oth.set _ _ _ _ (by simp)))⟩⟩
end Go.Proofs.YtpcoldpphihfmaaGreatDoor
namespace Go.Proofs.YtpcoldpphihfmaaGreatDoor
set_option linter.unusedVariables false
set_option linter.unusedSimpArgs false
set_option maxRecDepth 100000
open Go.ChangeShapes Go.WideShapes Go.RowKit
open H.Plain (hw pS pC pN pM pG pT pL mv)
theorem bel_drewN (w : World) (n : Nat) : Below w.heap.size w (w.drewN n) := S.bdr (Below.refl _ _) n
set_option maxHeartbeats 8000000 in
theorem rd30y {w0 w : World} {b y p : Nat} {s1 s2 : St} {N : Nat} {d : RD} (h : Two w0 w b y s1 s2 N) (B : Blk w0 w p 129 d.cells) (hN : N + 5 < 1000000) (hpc : d.pc = 30) (hq : Vl.of (s2.got d.f) = d.r.x) :
  Calls Tryz.prog 60 #[pt p, pt y] w fun e w' => e = .returned (.bool false) ∧ ∃ vx, RdTo w0 w w' b y p s1 (s2.load d.f) N ⟨d.f, d.r, d.h, pcA ⟨d.f, d.r, d.h, 30, s2.got d.f, d.a, d.x, true, d.o⟩ true 35, s2.got d.f, d.a, vx, true, d.o⟩ [p] ∧ (pcA ⟨d.f, d.r, d.h, 30, s2.got d.f, d.a, d.x, true, d.o⟩ true 35 ≠ 35 → ∃ ps, vx = pt ps ∧ Blk w0 w' ps 162 ((shA ⟨d.f, d.r, d.h, 30, s2.got d.f, d.a, d.x, true, d.o⟩ true).rcells Hd.zero 0) ∧ w.heap.size ≤ ps) := by
 obtain ⟨f, r, ⟨hsh, hca, hfx, hmr⟩, pc, ww, a, xx, sh, ⟨oc, ov, oy⟩⟩ := d
 simp only [RD.cells] at B hpc hq ⊢
 subst hpc
 obtain ⟨v, hv⟩ : ∃ v, s2.got f = v := ⟨_, rfl⟩
 have hU : U64 v := hv ▸ h.rng2.got f
 obtain ⟨u, hu⟩ : ∃ u, Vl.of v = u := ⟨_, rfl⟩
 have hk : F.Plain.kind v = u.k := congrArg Vl.k hu
 have hn : F.Plain.num v = u.n := congrArg Vl.n hu
 rw [hv, hu] at hq
 rw [hv]
 have vq : ∀ w, (binOp .eql 38 (.agg #[.int .i64 u.k, .int .i64 u.n]) (.agg #[.int .i64 r.x.k, .int .i64 r.x.n])).run Tryz.prog w = .ok (.bool true) w := eqVal_t (a := u) (b := r.x) hq
 clear hq
 obtain ⟨f1, hf1⟩ : ∃ k, u.far = k := ⟨_, rfl⟩
 obtain ⟨f2, hf2⟩ : ∃ k, r.x.far = k := ⟨_, rfl⟩
 obtain ⟨pcn, hpn⟩ : ∃ k, pcA ⟨f, r, ⟨hsh, hca, hfx, hmr⟩, 30, v, a, xx, true, ⟨oc, ov, oy⟩⟩ true 35 = k := ⟨_, rfl⟩
 have pn0 : (pcn == 0) = false := by
  rw [← hpn]; unfold pcA; split
  ·rfl
  ·split <;> rfl
 rw [hpn]
 have hpn' : ∀ k, pcA ⟨f, r, ⟨hsh, hca, hfx, hmr⟩, k, v, a, xx, true, ⟨oc, ov, oy⟩⟩ true 35 = pcn := fun _ => hpn
 have c0 : w.cell? ⟨p, 0, none⟩ = some (.int .i64 f) := B.cell 0
 have c1 : w.cell? ⟨p, 1, none⟩ = some (.int .i64 r.op) := B.cell 1
 have c2 : w.cell? ⟨p, 2, none⟩ = some (.int .i64 r.at_) := B.cell 2
 have c3 : w.cell? ⟨p, 3, none⟩ = some (.int .i64 r.fd) := B.cell 3
 have c4 : w.cell? ⟨p, 4, none⟩ = some (.int .i64 r.x.k) := B.cell 4
 have c5 : w.cell? ⟨p, 5, none⟩ = some (.int .i64 r.x.n) := B.cell 5
 have c6 : w.cell? ⟨p, 6, none⟩ = some (.int .i64 r.y.k) := B.cell 6
 have c7 : w.cell? ⟨p, 7, none⟩ = some (.int .i64 r.y.n) := B.cell 7
 have c8 : w.cell? ⟨p, 8, none⟩ = some (.bool hsh) := B.cell 8
 have c9 : w.cell? ⟨p, 9, none⟩ = some (.bool hca) := B.cell 9
 have c10 : w.cell? ⟨p, 10, none⟩ = some (.bool hfx) := B.cell 10
 have c11 : w.cell? ⟨p, 11, none⟩ = some (.int .i64 hmr) := B.cell 11
 have c12 : w.cell? ⟨p, 12, none⟩ = some (.int .i64 30) := B.cell 12
 have c13 : w.cell? ⟨p, 13, none⟩ = some (.int .u64 ww) := B.cell 13
 have c14 : w.cell? ⟨p, 14, none⟩ = some (.int .i64 a) := B.cell 14
 have c15 : w.cell? ⟨p, 15, none⟩ = some (xx) := B.cell 15
 have c16 : w.cell? ⟨p, 16, none⟩ = some (.bool sh) := B.cell 16
 have c17 : w.cell? ⟨p, 17, none⟩ = some (.int .i64 oc) := B.cell 17
 have c18 : w.cell? ⟨p, 18, none⟩ = some (.int .i64 ov.k) := B.cell 18
 have c19 : w.cell? ⟨p, 19, none⟩ = some (.int .i64 ov.n) := B.cell 19
 have c20 : w.cell? ⟨p, 20, none⟩ = some (.bool oy) := B.cell 20
 have cl := B.lt
 have cz : ∀ i, w.frozen? ⟨p, i, none⟩ = false := fun i => B.free i
 go_enter Tryz.func60, Tryz.ntmps60
 go_upto_region 31 with (fail)
 clear c0 c1 c2 c3 c4 c5 c6 c7 c8 c9 c10 c11 c12 c13 c14 c15 c16 c17 c18 c19 c20 cl cz
 have B1 : Blk w0 (w.setCell ⟨p, 16, none⟩ (.bool false)) p 129 #[.int .i64 f, .int .i64 r.op, .int .i64 r.at_, .int .i64 r.fd, .int .i64 r.x.k, .int .i64 r.x.n, .int .i64 r.y.k, .int .i64 r.y.n, .bool hsh, .bool hca, .bool hfx, .int .i64 hmr, .int .i64 30, .int .u64 ww, .int .i64 a, xx, .bool false, .int .i64 oc, .int .i64 ov.k, .int .i64 ov.n, .bool oy] := B.set 16 (.bool false)
 have T1 := h.set B 16 (.bool false)
 have O1 : Oth [p] w (w.setCell ⟨p, 16, none⟩ (.bool false)) := Oth.set _ _ _ _ (by simp)
 generalize w.setCell ⟨p, 16, none⟩ (.bool false) = w1 at B1 T1 O1 ⊢
 have c0 : w1.cell? ⟨p, 0, none⟩ = some (.int .i64 f) := B1.cell 0
 have c1 : w1.cell? ⟨p, 1, none⟩ = some (.int .i64 r.op) := B1.cell 1
 have c2 : w1.cell? ⟨p, 2, none⟩ = some (.int .i64 r.at_) := B1.cell 2
 have c3 : w1.cell? ⟨p, 3, none⟩ = some (.int .i64 r.fd) := B1.cell 3
 have c4 : w1.cell? ⟨p, 4, none⟩ = some (.int .i64 r.x.k) := B1.cell 4
 have c5 : w1.cell? ⟨p, 5, none⟩ = some (.int .i64 r.x.n) := B1.cell 5
 have c6 : w1.cell? ⟨p, 6, none⟩ = some (.int .i64 r.y.k) := B1.cell 6
 have c7 : w1.cell? ⟨p, 7, none⟩ = some (.int .i64 r.y.n) := B1.cell 7
 have c8 : w1.cell? ⟨p, 8, none⟩ = some (.bool hsh) := B1.cell 8
 have c9 : w1.cell? ⟨p, 9, none⟩ = some (.bool hca) := B1.cell 9
 have c10 : w1.cell? ⟨p, 10, none⟩ = some (.bool hfx) := B1.cell 10
 have c11 : w1.cell? ⟨p, 11, none⟩ = some (.int .i64 hmr) := B1.cell 11
 have c12 : w1.cell? ⟨p, 12, none⟩ = some (.int .i64 30) := B1.cell 12
 have c13 : w1.cell? ⟨p, 13, none⟩ = some (.int .u64 ww) := B1.cell 13
 have c14 : w1.cell? ⟨p, 14, none⟩ = some (.int .i64 a) := B1.cell 14
 have c15 : w1.cell? ⟨p, 15, none⟩ = some (xx) := B1.cell 15
 have c16 : w1.cell? ⟨p, 16, none⟩ = some (.bool false) := B1.cell 16
 have c17 : w1.cell? ⟨p, 17, none⟩ = some (.int .i64 oc) := B1.cell 17
 have c18 : w1.cell? ⟨p, 18, none⟩ = some (.int .i64 ov.k) := B1.cell 18
 have c19 : w1.cell? ⟨p, 19, none⟩ = some (.int .i64 ov.n) := B1.cell 19
 have c20 : w1.cell? ⟨p, 20, none⟩ = some (.bool oy) := B1.cell 20
 have cl := B1.lt
 have cz : ∀ i, w1.frozen? ⟨p, i, none⟩ = false := fun i => B1.free i
 go_upto_region 32 with (go_at_call 51; refine (yLoad T1 (by omega) f).mono ?_; rintro e w2 ⟨rfl, T2, o2⟩; rw [hv]; have B2 := B1.oth o2 (by simp); have O2 : Oth [p] w w2 := O1.trans (o2.mono (by simp)); clear o2 c13 cz; have c13 : w2.cell? ⟨p, 13, none⟩ = some (.int .u64 ww) := B2.cell 13; have cz : ∀ i, w2.frozen? ⟨p, i, none⟩ = false := fun i => B2.free i)
 clear c0 c1 c2 c3 c4 c5 c6 c7 c8 c9 c10 c11 c12 c13 c14 c15 c16 c17 c18 c19 c20 cl cz
 have B3 : Blk w0 (w2.setCell ⟨p, 13, none⟩ (.int .u64 v)) p 129 #[.int .i64 f, .int .i64 r.op, .int .i64 r.at_, .int .i64 r.fd, .int .i64 r.x.k, .int .i64 r.x.n, .int .i64 r.y.k, .int .i64 r.y.n, .bool hsh, .bool hca, .bool hfx, .int .i64 hmr, .int .i64 30, .int .u64 v, .int .i64 a, xx, .bool false, .int .i64 oc, .int .i64 ov.k, .int .i64 ov.n, .bool oy] := (B2.set 13 (.int .u64 v))
 have T3 := (T2.set B2 13 (.int .u64 v))
 have O3 : Oth [p] w (w2.setCell ⟨p, 13, none⟩ (.int .u64 v)) := (O2.trans (Oth.set _ _ _ _ (by simp)))
 generalize (w2.setCell ⟨p, 13, none⟩ (.int .u64 v)) = w3 at B3 T3 O3 ⊢
 have c0 : w3.cell? ⟨p, 0, none⟩ = some (.int .i64 f) := B3.cell 0
 have c1 : w3.cell? ⟨p, 1, none⟩ = some (.int .i64 r.op) := B3.cell 1
 have c2 : w3.cell? ⟨p, 2, none⟩ = some (.int .i64 r.at_) := B3.cell 2
 have c3 : w3.cell? ⟨p, 3, none⟩ = some (.int .i64 r.fd) := B3.cell 3
 have c4 : w3.cell? ⟨p, 4, none⟩ = some (.int .i64 r.x.k) := B3.cell 4
 have c5 : w3.cell? ⟨p, 5, none⟩ = some (.int .i64 r.x.n) := B3.cell 5
 have c6 : w3.cell? ⟨p, 6, none⟩ = some (.int .i64 r.y.k) := B3.cell 6
 have c7 : w3.cell? ⟨p, 7, none⟩ = some (.int .i64 r.y.n) := B3.cell 7
 have c8 : w3.cell? ⟨p, 8, none⟩ = some (.bool hsh) := B3.cell 8
 have c9 : w3.cell? ⟨p, 9, none⟩ = some (.bool hca) := B3.cell 9
 have c10 : w3.cell? ⟨p, 10, none⟩ = some (.bool hfx) := B3.cell 10
 have c11 : w3.cell? ⟨p, 11, none⟩ = some (.int .i64 hmr) := B3.cell 11
 have c12 : w3.cell? ⟨p, 12, none⟩ = some (.int .i64 30) := B3.cell 12
 have c13 : w3.cell? ⟨p, 13, none⟩ = some (.int .u64 v) := B3.cell 13
 have c14 : w3.cell? ⟨p, 14, none⟩ = some (.int .i64 a) := B3.cell 14
 have c15 : w3.cell? ⟨p, 15, none⟩ = some (xx) := B3.cell 15
 have c16 : w3.cell? ⟨p, 16, none⟩ = some (.bool false) := B3.cell 16
 have c17 : w3.cell? ⟨p, 17, none⟩ = some (.int .i64 oc) := B3.cell 17
 have c18 : w3.cell? ⟨p, 18, none⟩ = some (.int .i64 ov.k) := B3.cell 18
 have c19 : w3.cell? ⟨p, 19, none⟩ = some (.int .i64 ov.n) := B3.cell 19
 have c20 : w3.cell? ⟨p, 20, none⟩ = some (.bool oy) := B3.cell 20
 have cl := B3.lt
 have cz : ∀ i, w3.frozen? ⟨p, i, none⟩ = false := fun i => B3.free i
 go_upto_region 33 with (fail)
 clear c0 c1 c2 c3 c4 c5 c6 c7 c8 c9 c10 c11 c12 c13 c14 c15 c16 c17 c18 c19 c20 cl cz
 have B4 : Blk w0 (w3.setCell ⟨p, 16, none⟩ (.bool true)) p 129 #[.int .i64 f, .int .i64 r.op, .int .i64 r.at_, .int .i64 r.fd, .int .i64 r.x.k, .int .i64 r.x.n, .int .i64 r.y.k, .int .i64 r.y.n, .bool hsh, .bool hca, .bool hfx, .int .i64 hmr, .int .i64 30, .int .u64 v, .int .i64 a, xx, .bool true, .int .i64 oc, .int .i64 ov.k, .int .i64 ov.n, .bool oy] := (B3.set 16 (.bool true))
 have T4 := (T3.set B3 16 (.bool true))
 have O4 : Oth [p] w (w3.setCell ⟨p, 16, none⟩ (.bool true)) := (O3.trans (Oth.set _ _ _ _ (by simp)))
 generalize (w3.setCell ⟨p, 16, none⟩ (.bool true)) = w4 at B4 T4 O4 ⊢
 have c0 : w4.cell? ⟨p, 0, none⟩ = some (.int .i64 f) := B4.cell 0
 have c1 : w4.cell? ⟨p, 1, none⟩ = some (.int .i64 r.op) := B4.cell 1
 have c2 : w4.cell? ⟨p, 2, none⟩ = some (.int .i64 r.at_) := B4.cell 2
 have c3 : w4.cell? ⟨p, 3, none⟩ = some (.int .i64 r.fd) := B4.cell 3
 have c4 : w4.cell? ⟨p, 4, none⟩ = some (.int .i64 r.x.k) := B4.cell 4
 have c5 : w4.cell? ⟨p, 5, none⟩ = some (.int .i64 r.x.n) := B4.cell 5
 have c6 : w4.cell? ⟨p, 6, none⟩ = some (.int .i64 r.y.k) := B4.cell 6
 have c7 : w4.cell? ⟨p, 7, none⟩ = some (.int .i64 r.y.n) := B4.cell 7
 have c8 : w4.cell? ⟨p, 8, none⟩ = some (.bool hsh) := B4.cell 8
 have c9 : w4.cell? ⟨p, 9, none⟩ = some (.bool hca) := B4.cell 9
 have c10 : w4.cell? ⟨p, 10, none⟩ = some (.bool hfx) := B4.cell 10
 have c11 : w4.cell? ⟨p, 11, none⟩ = some (.int .i64 hmr) := B4.cell 11
 have c12 : w4.cell? ⟨p, 12, none⟩ = some (.int .i64 30) := B4.cell 12
 have c13 : w4.cell? ⟨p, 13, none⟩ = some (.int .u64 v) := B4.cell 13
 have c14 : w4.cell? ⟨p, 14, none⟩ = some (.int .i64 a) := B4.cell 14
 have c15 : w4.cell? ⟨p, 15, none⟩ = some (xx) := B4.cell 15
 have c16 : w4.cell? ⟨p, 16, none⟩ = some (.bool true) := B4.cell 16
 have c17 : w4.cell? ⟨p, 17, none⟩ = some (.int .i64 oc) := B4.cell 17
 have c18 : w4.cell? ⟨p, 18, none⟩ = some (.int .i64 ov.k) := B4.cell 18
 have c19 : w4.cell? ⟨p, 19, none⟩ = some (.int .i64 ov.n) := B4.cell 19
 have c20 : w4.cell? ⟨p, 20, none⟩ = some (.bool oy) := B4.cell 20
 have cl := B4.lt
 have cz : ∀ i, w4.frozen? ⟨p, i, none⟩ = false := fun i => B4.free i
 go_upto_region 34 with (go_at_call 30; refine (F.rOf v hU.1 hU.2 _).mono ?_; rintro e w5 ⟨rfl, hw5⟩; rw [hk, hn] at hw5 ⊢; have hb5 : Below w4.heap.size w4 w5 := (by rw [hw5]; go_grown); have B5 := B4.below hb5; have T5 := T4.below hb5; have O5 : Oth [p] w w5 := O4.trans (Oth.below hb5); clear hw5 hb5)
 clear c0 c1 c2 c3 c4 c5 c6 c7 c8 c9 c10 c11 c12 c13 c14 c15 c16 c17 c18 c19 c20 cl cz
 have hbx : Below w5.heap.size w5 (w5.alloc (.cells #[.int .i64 u.k, .int .i64 u.n] 38)) := (Below.refl _ _).alloc (Nat.le_refl _) _
 have hs0 : w0.heap.size ≤ w5.heap.size := Nat.le_trans B5.old (Nat.le_of_lt B5.lt)
 have V6 : Blk w0 (w5.alloc (.cells #[.int .i64 u.k, .int .i64 u.n] 38)) w5.heap.size 38 #[.int .i64 u.k, .int .i64 u.n] := Blk.new hs0 _ (by decide)
 have B6 := B5.below hbx
 have T6 := T5.below hbx
 have O6 : Oth [p] w (w5.alloc (.cells #[.int .i64 u.k, .int .i64 u.n] 38)) := O5.trans (Oth.below hbx)
 clear hbx
 generalize w5.alloc (.cells #[.int .i64 u.k, .int .i64 u.n] 38) = w6 at V6 B6 T6 O6 ⊢
 generalize w5.heap.size = vb at V6 ⊢
 have v0 : w6.cell? ⟨vb, 0, none⟩ = some (.int .i64 u.k) := V6.cell 0
 have v1 : w6.cell? ⟨vb, 1, none⟩ = some (.int .i64 u.n) := V6.cell 1
 have vl := V6.lt
 have c0 : w6.cell? ⟨p, 0, none⟩ = some (.int .i64 f) := B6.cell 0
 have c1 : w6.cell? ⟨p, 1, none⟩ = some (.int .i64 r.op) := B6.cell 1
 have c2 : w6.cell? ⟨p, 2, none⟩ = some (.int .i64 r.at_) := B6.cell 2
 have c3 : w6.cell? ⟨p, 3, none⟩ = some (.int .i64 r.fd) := B6.cell 3
 have c4 : w6.cell? ⟨p, 4, none⟩ = some (.int .i64 r.x.k) := B6.cell 4
 have c5 : w6.cell? ⟨p, 5, none⟩ = some (.int .i64 r.x.n) := B6.cell 5
 have c6 : w6.cell? ⟨p, 6, none⟩ = some (.int .i64 r.y.k) := B6.cell 6
 have c7 : w6.cell? ⟨p, 7, none⟩ = some (.int .i64 r.y.n) := B6.cell 7
 have c8 : w6.cell? ⟨p, 8, none⟩ = some (.bool hsh) := B6.cell 8
 have c9 : w6.cell? ⟨p, 9, none⟩ = some (.bool hca) := B6.cell 9
 have c10 : w6.cell? ⟨p, 10, none⟩ = some (.bool hfx) := B6.cell 10
 have c11 : w6.cell? ⟨p, 11, none⟩ = some (.int .i64 hmr) := B6.cell 11
 have c12 : w6.cell? ⟨p, 12, none⟩ = some (.int .i64 30) := B6.cell 12
 have c13 : w6.cell? ⟨p, 13, none⟩ = some (.int .u64 v) := B6.cell 13
 have c14 : w6.cell? ⟨p, 14, none⟩ = some (.int .i64 a) := B6.cell 14
 have c15 : w6.cell? ⟨p, 15, none⟩ = some (xx) := B6.cell 15
 have c16 : w6.cell? ⟨p, 16, none⟩ = some (.bool true) := B6.cell 16
 have c17 : w6.cell? ⟨p, 17, none⟩ = some (.int .i64 oc) := B6.cell 17
 have c18 : w6.cell? ⟨p, 18, none⟩ = some (.int .i64 ov.k) := B6.cell 18
 have c19 : w6.cell? ⟨p, 19, none⟩ = some (.int .i64 ov.n) := B6.cell 19
 have c20 : w6.cell? ⟨p, 20, none⟩ = some (.bool oy) := B6.cell 20
 have cl := B6.lt
 have cz : ∀ i, w6.frozen? ⟨p, i, none⟩ = false := fun i => B6.free i
 go_upto_region 35 with (go_at_call 88; refine (rFar u _).mono ?_; rintro e w7 ⟨rfl, hb7⟩; have B7 := B6.below hb7; have T7 := T6.below hb7; have O7 : Oth [p] w w7 := O6.trans (Oth.below hb7); rw [hf1]; have V7 := V6.below hb7; clear hb7)
 clear c0 c1 c2 c3 c4 c5 c6 c7 c8 c9 c10 c11 c12 c13 c14 c15 c16 c17 c18 c19 c20 cl cz
 clear v0 v1 vl
 have c0 : w7.cell? ⟨p, 0, none⟩ = some (.int .i64 f) := B7.cell 0
 have c1 : w7.cell? ⟨p, 1, none⟩ = some (.int .i64 r.op) := B7.cell 1
 have c2 : w7.cell? ⟨p, 2, none⟩ = some (.int .i64 r.at_) := B7.cell 2
 have c3 : w7.cell? ⟨p, 3, none⟩ = some (.int .i64 r.fd) := B7.cell 3
 have c4 : w7.cell? ⟨p, 4, none⟩ = some (.int .i64 r.x.k) := B7.cell 4
 have c5 : w7.cell? ⟨p, 5, none⟩ = some (.int .i64 r.x.n) := B7.cell 5
 have c6 : w7.cell? ⟨p, 6, none⟩ = some (.int .i64 r.y.k) := B7.cell 6
 have c7 : w7.cell? ⟨p, 7, none⟩ = some (.int .i64 r.y.n) := B7.cell 7
 have c8 : w7.cell? ⟨p, 8, none⟩ = some (.bool hsh) := B7.cell 8
 have c9 : w7.cell? ⟨p, 9, none⟩ = some (.bool hca) := B7.cell 9
 have c10 : w7.cell? ⟨p, 10, none⟩ = some (.bool hfx) := B7.cell 10
 have c11 : w7.cell? ⟨p, 11, none⟩ = some (.int .i64 hmr) := B7.cell 11
 have c12 : w7.cell? ⟨p, 12, none⟩ = some (.int .i64 30) := B7.cell 12
 have c13 : w7.cell? ⟨p, 13, none⟩ = some (.int .u64 v) := B7.cell 13
 have c14 : w7.cell? ⟨p, 14, none⟩ = some (.int .i64 a) := B7.cell 14
 have c15 : w7.cell? ⟨p, 15, none⟩ = some (xx) := B7.cell 15
 have c16 : w7.cell? ⟨p, 16, none⟩ = some (.bool true) := B7.cell 16
 have c17 : w7.cell? ⟨p, 17, none⟩ = some (.int .i64 oc) := B7.cell 17
 have c18 : w7.cell? ⟨p, 18, none⟩ = some (.int .i64 ov.k) := B7.cell 18
 have c19 : w7.cell? ⟨p, 19, none⟩ = some (.int .i64 ov.n) := B7.cell 19
 have c20 : w7.cell? ⟨p, 20, none⟩ = some (.bool oy) := B7.cell 20
 have cl := B7.lt
 have cz : ∀ i, w7.frozen? ⟨p, i, none⟩ = false := fun i => B7.free i
 go_upto_region 36 with (go_at_call 88; refine (rFar r.x _).mono ?_; rintro e w8 ⟨rfl, hb8⟩; have B8 := B7.below hb8; have T8 := T7.below hb8; have O8 : Oth [p] w w8 := O7.trans (Oth.below hb8); rw [hf2]; have V8 := V7.below hb8; clear hb8)
 clear c0 c1 c2 c3 c4 c5 c6 c7 c8 c9 c10 c11 c12 c13 c14 c15 c16 c17 c18 c19 c20 cl cz
 have c0 : w8.cell? ⟨p, 0, none⟩ = some (.int .i64 f) := B8.cell 0
 have c1 : w8.cell? ⟨p, 1, none⟩ = some (.int .i64 r.op) := B8.cell 1
 have c2 : w8.cell? ⟨p, 2, none⟩ = some (.int .i64 r.at_) := B8.cell 2
 have c3 : w8.cell? ⟨p, 3, none⟩ = some (.int .i64 r.fd) := B8.cell 3
 have c4 : w8.cell? ⟨p, 4, none⟩ = some (.int .i64 r.x.k) := B8.cell 4
 have c5 : w8.cell? ⟨p, 5, none⟩ = some (.int .i64 r.x.n) := B8.cell 5
 have c6 : w8.cell? ⟨p, 6, none⟩ = some (.int .i64 r.y.k) := B8.cell 6
 have c7 : w8.cell? ⟨p, 7, none⟩ = some (.int .i64 r.y.n) := B8.cell 7
 have c8 : w8.cell? ⟨p, 8, none⟩ = some (.bool hsh) := B8.cell 8
 have c9 : w8.cell? ⟨p, 9, none⟩ = some (.bool hca) := B8.cell 9
 have c10 : w8.cell? ⟨p, 10, none⟩ = some (.bool hfx) := B8.cell 10
 have c11 : w8.cell? ⟨p, 11, none⟩ = some (.int .i64 hmr) := B8.cell 11
 have c12 : w8.cell? ⟨p, 12, none⟩ = some (.int .i64 30) := B8.cell 12
 have c13 : w8.cell? ⟨p, 13, none⟩ = some (.int .u64 v) := B8.cell 13
 have c14 : w8.cell? ⟨p, 14, none⟩ = some (.int .i64 a) := B8.cell 14
 have c15 : w8.cell? ⟨p, 15, none⟩ = some (xx) := B8.cell 15
 have c16 : w8.cell? ⟨p, 16, none⟩ = some (.bool true) := B8.cell 16
 have c17 : w8.cell? ⟨p, 17, none⟩ = some (.int .i64 oc) := B8.cell 17
 have c18 : w8.cell? ⟨p, 18, none⟩ = some (.int .i64 ov.k) := B8.cell 18
 have c19 : w8.cell? ⟨p, 19, none⟩ = some (.int .i64 ov.n) := B8.cell 19
 have c20 : w8.cell? ⟨p, 20, none⟩ = some (.bool oy) := B8.cell 20
 have cl := B8.lt
 have cz : ∀ i, w8.frozen? ⟨p, i, none⟩ = false := fun i => B8.free i
 go_upto_region 37 with (fail)
 clear c0 c1 c2 c3 c4 c5 c6 c7 c8 c9 c10 c11 c12 c13 c14 c15 c16 c17 c18 c19 c20 cl cz
 have V9 := V8.oth (Oth.set (F := [p]) w8 p 12 (.int .i64 0) (by simp)) (by simpa using V8.ne B8 (by decide))
 have B9 : Blk w0 (w8.setCell ⟨p, 12, none⟩ (.int .i64 0)) p 129 #[.int .i64 f, .int .i64 r.op, .int .i64 r.at_, .int .i64 r.fd, .int .i64 r.x.k, .int .i64 r.x.n, .int .i64 r.y.k, .int .i64 r.y.n, .bool hsh, .bool hca, .bool hfx, .int .i64 hmr, .int .i64 0, .int .u64 v, .int .i64 a, xx, .bool true, .int .i64 oc, .int .i64 ov.k, .int .i64 ov.n, .bool oy] := (B8.set 12 (.int .i64 0))
 have T9 := (T8.set B8 12 (.int .i64 0))
 have O9 : Oth [p] w (w8.setCell ⟨p, 12, none⟩ (.int .i64 0)) := (O8.trans (Oth.set _ _ _ _ (by simp)))
 generalize (w8.setCell ⟨p, 12, none⟩ (.int .i64 0)) = w9 at B9 T9 O9 V9 ⊢
 cases hca with
 | false =>
  have c0 : w9.cell? ⟨p, 0, none⟩ = some (.int .i64 f) := B9.cell 0
  have c1 : w9.cell? ⟨p, 1, none⟩ = some (.int .i64 r.op) := B9.cell 1
  have c2 : w9.cell? ⟨p, 2, none⟩ = some (.int .i64 r.at_) := B9.cell 2
  have c3 : w9.cell? ⟨p, 3, none⟩ = some (.int .i64 r.fd) := B9.cell 3
  have c4 : w9.cell? ⟨p, 4, none⟩ = some (.int .i64 r.x.k) := B9.cell 4
  have c5 : w9.cell? ⟨p, 5, none⟩ = some (.int .i64 r.x.n) := B9.cell 5
  have c6 : w9.cell? ⟨p, 6, none⟩ = some (.int .i64 r.y.k) := B9.cell 6
  have c7 : w9.cell? ⟨p, 7, none⟩ = some (.int .i64 r.y.n) := B9.cell 7
  have c8 : w9.cell? ⟨p, 8, none⟩ = some (.bool hsh) := B9.cell 8
  have c9 : w9.cell? ⟨p, 9, none⟩ = some (.bool false) := B9.cell 9
  have c10 : w9.cell? ⟨p, 10, none⟩ = some (.bool hfx) := B9.cell 10
  have c11 : w9.cell? ⟨p, 11, none⟩ = some (.int .i64 hmr) := B9.cell 11
  have c12 : w9.cell? ⟨p, 12, none⟩ = some (.int .i64 0) := B9.cell 12
  have c13 : w9.cell? ⟨p, 13, none⟩ = some (.int .u64 v) := B9.cell 13
  have c14 : w9.cell? ⟨p, 14, none⟩ = some (.int .i64 a) := B9.cell 14
  have c15 : w9.cell? ⟨p, 15, none⟩ = some (xx) := B9.cell 15
  have c16 : w9.cell? ⟨p, 16, none⟩ = some (.bool true) := B9.cell 16
  have c17 : w9.cell? ⟨p, 17, none⟩ = some (.int .i64 oc) := B9.cell 17
  have c18 : w9.cell? ⟨p, 18, none⟩ = some (.int .i64 ov.k) := B9.cell 18
  have c19 : w9.cell? ⟨p, 19, none⟩ = some (.int .i64 ov.n) := B9.cell 19
  have c20 : w9.cell? ⟨p, 20, none⟩ = some (.bool oy) := B9.cell 20
  have cl := B9.lt
  have cz : ∀ i, w9.frozen? ⟨p, i, none⟩ = false := fun i => B9.free i
  have v0 : w9.cell? ⟨vb, 0, none⟩ = some (.int .i64 u.k) := V9.cell 0
  have v1 : w9.cell? ⟨vb, 1, none⟩ = some (.int .i64 u.n) := V9.cell 1
  have vl := V9.lt
  go_upto_region 39 with (fail)
  go_quiet (fail)
  clear c0 c1 c2 c3 c4 c5 c6 c7 c8 c9 c10 c11 c12 c13 c14 c15 c16 c17 c18 c19 c20 cl cz
  clear v0 v1 vl vq
  have hbd := bel_drewN w9 nq
  have B10 := B9.below hbd
  have T10 := T9.below hbd
  have O10 : Oth [p] w (w9.drewN nq) := O9.trans (Oth.below hbd)
  clear hbd
  generalize w9.drewN nq = w10 at B10 T10 O10 ⊢
  have c0 : w10.cell? ⟨p, 0, none⟩ = some (.int .i64 f) := B10.cell 0
  have c1 : w10.cell? ⟨p, 1, none⟩ = some (.int .i64 r.op) := B10.cell 1
  have c2 : w10.cell? ⟨p, 2, none⟩ = some (.int .i64 r.at_) := B10.cell 2
  have c3 : w10.cell? ⟨p, 3, none⟩ = some (.int .i64 r.fd) := B10.cell 3
  have c4 : w10.cell? ⟨p, 4, none⟩ = some (.int .i64 r.x.k) := B10.cell 4
  have c5 : w10.cell? ⟨p, 5, none⟩ = some (.int .i64 r.x.n) := B10.cell 5
  have c6 : w10.cell? ⟨p, 6, none⟩ = some (.int .i64 r.y.k) := B10.cell 6
  have c7 : w10.cell? ⟨p, 7, none⟩ = some (.int .i64 r.y.n) := B10.cell 7
  have c8 : w10.cell? ⟨p, 8, none⟩ = some (.bool hsh) := B10.cell 8
  have c9 : w10.cell? ⟨p, 9, none⟩ = some (.bool false) := B10.cell 9
  have c10 : w10.cell? ⟨p, 10, none⟩ = some (.bool hfx) := B10.cell 10
  have c11 : w10.cell? ⟨p, 11, none⟩ = some (.int .i64 hmr) := B10.cell 11
  have c12 : w10.cell? ⟨p, 12, none⟩ = some (.int .i64 0) := B10.cell 12
  have c13 : w10.cell? ⟨p, 13, none⟩ = some (.int .u64 v) := B10.cell 13
  have c14 : w10.cell? ⟨p, 14, none⟩ = some (.int .i64 a) := B10.cell 14
  have c15 : w10.cell? ⟨p, 15, none⟩ = some (xx) := B10.cell 15
  have c16 : w10.cell? ⟨p, 16, none⟩ = some (.bool true) := B10.cell 16
  have c17 : w10.cell? ⟨p, 17, none⟩ = some (.int .i64 oc) := B10.cell 17
  have c18 : w10.cell? ⟨p, 18, none⟩ = some (.int .i64 ov.k) := B10.cell 18
  have c19 : w10.cell? ⟨p, 19, none⟩ = some (.int .i64 ov.n) := B10.cell 19
  have c20 : w10.cell? ⟨p, 20, none⟩ = some (.bool oy) := B10.cell 20
  have cl := B10.lt
  have cz : ∀ i, w10.frozen? ⟨p, i, none⟩ = false := fun i => B10.free i
  go_upto_region 65 with (go_at_call 90; refine (rShades (d := ⟨f, r, ⟨hsh, false, hfx, hmr⟩, 0, v, a, xx, true, ⟨oc, ov, oy⟩⟩) B10 hU true 35 (by decide) (by decide)).mono ?_; rintro e w11 ⟨rfl, k11, vx, B11, q11⟩; rw [show pcA ⟨f, r, ⟨hsh, false, hfx, hmr⟩, 0, v, a, xx, true, ⟨oc, ov, oy⟩⟩ true 35 = pcn from hpn' _] at q11 ⊢; simp only [RD.withX, RD.cells] at B11; have T11 := T10.kept k11 (fun k hk => by simp at hk; subst hk; exact ⟨B10.old, _, _, _, B10.hT, B10.at_⟩); have O11 : Oth [p] w w11 := O10.trans ((Oth.kept k11).mono (by simp)); clear c12 cz; have c12 : w11.cell? ⟨p, 12, none⟩ = some (.int .i64 0) := B11.cell 12; have cz : ∀ i, w11.frozen? ⟨p, i, none⟩ = false := fun i => B11.free i)
  clear c0 c1 c2 c3 c4 c5 c6 c7 c8 c9 c10 c11 c12 c13 c14 c15 c16 c17 c18 c19 c20 cl cz
  have Q12 : pcn ≠ 35 → ∃ ps', vx = pt ps' ∧ Blk w0 (w11.setCell ⟨p, 12, none⟩ (.int .i64 pcn)) ps' 162 ((shA ⟨f, r, ⟨hsh, false, hfx, hmr⟩, 0, v, a, xx, true, ⟨oc, ov, oy⟩⟩ true).rcells Hd.zero 0) ∧ w.heap.size ≤ ps' := fun hne => by
   obtain ⟨ps', e1, e2, e3⟩ := q11 hne
   exact ⟨ps', e1, e2.oth (Oth.set (F := [p]) _ _ _ _ (by simp)) (by simp only [List.mem_singleton]; have := B10.lt; omega), Nat.le_trans O10.size e3⟩
  have B12 : Blk w0 (w11.setCell ⟨p, 12, none⟩ (.int .i64 pcn)) p 129 #[.int .i64 f, .int .i64 r.op, .int .i64 r.at_, .int .i64 r.fd, .int .i64 r.x.k, .int .i64 r.x.n, .int .i64 r.y.k, .int .i64 r.y.n, .bool hsh, .bool false, .bool hfx, .int .i64 hmr, .int .i64 pcn, .int .u64 v, .int .i64 a, vx, .bool true, .int .i64 oc, .int .i64 ov.k, .int .i64 ov.n, .bool oy] := (B11.set 12 (.int .i64 pcn))
  have T12 := (T11.set B11 12 (.int .i64 pcn))
  have O12 : Oth [p] w (w11.setCell ⟨p, 12, none⟩ (.int .i64 pcn)) := (O11.trans (Oth.set _ _ _ _ (by simp)))
  generalize (w11.setCell ⟨p, 12, none⟩ (.int .i64 pcn)) = w12 at B12 T12 O12 Q12 ⊢
  have c0 : w12.cell? ⟨p, 0, none⟩ = some (.int .i64 f) := B12.cell 0
  have c1 : w12.cell? ⟨p, 1, none⟩ = some (.int .i64 r.op) := B12.cell 1
  have c2 : w12.cell? ⟨p, 2, none⟩ = some (.int .i64 r.at_) := B12.cell 2
  have c3 : w12.cell? ⟨p, 3, none⟩ = some (.int .i64 r.fd) := B12.cell 3
  have c4 : w12.cell? ⟨p, 4, none⟩ = some (.int .i64 r.x.k) := B12.cell 4
  have c5 : w12.cell? ⟨p, 5, none⟩ = some (.int .i64 r.x.n) := B12.cell 5
  have c6 : w12.cell? ⟨p, 6, none⟩ = some (.int .i64 r.y.k) := B12.cell 6
  have c7 : w12.cell? ⟨p, 7, none⟩ = some (.int .i64 r.y.n) := B12.cell 7
  have c8 : w12.cell? ⟨p, 8, none⟩ = some (.bool hsh) := B12.cell 8
  have c9 : w12.cell? ⟨p, 9, none⟩ = some (.bool false) := B12.cell 9
  have c10 : w12.cell? ⟨p, 10, none⟩ = some (.bool hfx) := B12.cell 10
  have c11 : w12.cell? ⟨p, 11, none⟩ = some (.int .i64 hmr) := B12.cell 11
  have c12 : w12.cell? ⟨p, 12, none⟩ = some (.int .i64 pcn) := B12.cell 12
  have c13 : w12.cell? ⟨p, 13, none⟩ = some (.int .u64 v) := B12.cell 13
  have c14 : w12.cell? ⟨p, 14, none⟩ = some (.int .i64 a) := B12.cell 14
  have c15 : w12.cell? ⟨p, 15, none⟩ = some (vx) := B12.cell 15
  have c16 : w12.cell? ⟨p, 16, none⟩ = some (.bool true) := B12.cell 16
  have c17 : w12.cell? ⟨p, 17, none⟩ = some (.int .i64 oc) := B12.cell 17
  have c18 : w12.cell? ⟨p, 18, none⟩ = some (.int .i64 ov.k) := B12.cell 18
  have c19 : w12.cell? ⟨p, 19, none⟩ = some (.int .i64 ov.n) := B12.cell 19
  have c20 : w12.cell? ⟨p, 20, none⟩ = some (.bool oy) := B12.cell 20
  have cl := B12.lt
  have cz : ∀ i, w12.frozen? ⟨p, i, none⟩ = false := fun i => B12.free i
  go_wp2
  go_ret
  exact ⟨rfl, vx, ⟨T12.mono (by omega), B12, O12⟩, Q12⟩
 | true =>
  cases f1 with
  | false =>
   have c0 : w9.cell? ⟨p, 0, none⟩ = some (.int .i64 f) := B9.cell 0
   have c1 : w9.cell? ⟨p, 1, none⟩ = some (.int .i64 r.op) := B9.cell 1
   have c2 : w9.cell? ⟨p, 2, none⟩ = some (.int .i64 r.at_) := B9.cell 2
   have c3 : w9.cell? ⟨p, 3, none⟩ = some (.int .i64 r.fd) := B9.cell 3
   have c4 : w9.cell? ⟨p, 4, none⟩ = some (.int .i64 r.x.k) := B9.cell 4
   have c5 : w9.cell? ⟨p, 5, none⟩ = some (.int .i64 r.x.n) := B9.cell 5
   have c6 : w9.cell? ⟨p, 6, none⟩ = some (.int .i64 r.y.k) := B9.cell 6
   have c7 : w9.cell? ⟨p, 7, none⟩ = some (.int .i64 r.y.n) := B9.cell 7
   have c8 : w9.cell? ⟨p, 8, none⟩ = some (.bool hsh) := B9.cell 8
   have c9 : w9.cell? ⟨p, 9, none⟩ = some (.bool true) := B9.cell 9
   have c10 : w9.cell? ⟨p, 10, none⟩ = some (.bool hfx) := B9.cell 10
   have c11 : w9.cell? ⟨p, 11, none⟩ = some (.int .i64 hmr) := B9.cell 11
   have c12 : w9.cell? ⟨p, 12, none⟩ = some (.int .i64 0) := B9.cell 12
   have c13 : w9.cell? ⟨p, 13, none⟩ = some (.int .u64 v) := B9.cell 13
   have c14 : w9.cell? ⟨p, 14, none⟩ = some (.int .i64 a) := B9.cell 14
   have c15 : w9.cell? ⟨p, 15, none⟩ = some (xx) := B9.cell 15
   have c16 : w9.cell? ⟨p, 16, none⟩ = some (.bool true) := B9.cell 16
   have c17 : w9.cell? ⟨p, 17, none⟩ = some (.int .i64 oc) := B9.cell 17
   have c18 : w9.cell? ⟨p, 18, none⟩ = some (.int .i64 ov.k) := B9.cell 18
   have c19 : w9.cell? ⟨p, 19, none⟩ = some (.int .i64 ov.n) := B9.cell 19
   have c20 : w9.cell? ⟨p, 20, none⟩ = some (.bool oy) := B9.cell 20
   have cl := B9.lt
   have cz : ∀ i, w9.frozen? ⟨p, i, none⟩ = false := fun i => B9.free i
   have v0 : w9.cell? ⟨vb, 0, none⟩ = some (.int .i64 u.k) := V9.cell 0
   have v1 : w9.cell? ⟨vb, 1, none⟩ = some (.int .i64 u.n) := V9.cell 1
   have vl := V9.lt
   go_upto_region 39 with (fail)
   go_quiet (fail)
   clear c0 c1 c2 c3 c4 c5 c6 c7 c8 c9 c10 c11 c12 c13 c14 c15 c16 c17 c18 c19 c20 cl cz
   clear v0 v1 vl vq
   have hbd := bel_drewN w9 nq
   have B10 := B9.below hbd
   have T10 := T9.below hbd
   have O10 : Oth [p] w (w9.drewN nq) := O9.trans (Oth.below hbd)
   clear hbd
   generalize w9.drewN nq = w10 at B10 T10 O10 ⊢
   have c0 : w10.cell? ⟨p, 0, none⟩ = some (.int .i64 f) := B10.cell 0
   have c1 : w10.cell? ⟨p, 1, none⟩ = some (.int .i64 r.op) := B10.cell 1
   have c2 : w10.cell? ⟨p, 2, none⟩ = some (.int .i64 r.at_) := B10.cell 2
   have c3 : w10.cell? ⟨p, 3, none⟩ = some (.int .i64 r.fd) := B10.cell 3
   have c4 : w10.cell? ⟨p, 4, none⟩ = some (.int .i64 r.x.k) := B10.cell 4
   have c5 : w10.cell? ⟨p, 5, none⟩ = some (.int .i64 r.x.n) := B10.cell 5
   have c6 : w10.cell? ⟨p, 6, none⟩ = some (.int .i64 r.y.k) := B10.cell 6
   have c7 : w10.cell? ⟨p, 7, none⟩ = some (.int .i64 r.y.n) := B10.cell 7
   have c8 : w10.cell? ⟨p, 8, none⟩ = some (.bool hsh) := B10.cell 8
   have c9 : w10.cell? ⟨p, 9, none⟩ = some (.bool true) := B10.cell 9
   have c10 : w10.cell? ⟨p, 10, none⟩ = some (.bool hfx) := B10.cell 10
   have c11 : w10.cell? ⟨p, 11, none⟩ = some (.int .i64 hmr) := B10.cell 11
   have c12 : w10.cell? ⟨p, 12, none⟩ = some (.int .i64 0) := B10.cell 12
   have c13 : w10.cell? ⟨p, 13, none⟩ = some (.int .u64 v) := B10.cell 13
   have c14 : w10.cell? ⟨p, 14, none⟩ = some (.int .i64 a) := B10.cell 14
   have c15 : w10.cell? ⟨p, 15, none⟩ = some (xx) := B10.cell 15
   have c16 : w10.cell? ⟨p, 16, none⟩ = some (.bool true) := B10.cell 16
   have c17 : w10.cell? ⟨p, 17, none⟩ = some (.int .i64 oc) := B10.cell 17
   have c18 : w10.cell? ⟨p, 18, none⟩ = some (.int .i64 ov.k) := B10.cell 18
   have c19 : w10.cell? ⟨p, 19, none⟩ = some (.int .i64 ov.n) := B10.cell 19
   have c20 : w10.cell? ⟨p, 20, none⟩ = some (.bool oy) := B10.cell 20
   have cl := B10.lt
   have cz : ∀ i, w10.frozen? ⟨p, i, none⟩ = false := fun i => B10.free i
   go_upto_region 65 with (go_at_call 90; refine (rShades (d := ⟨f, r, ⟨hsh, true, hfx, hmr⟩, 0, v, a, xx, true, ⟨oc, ov, oy⟩⟩) B10 hU true 35 (by decide) (by decide)).mono ?_; rintro e w11 ⟨rfl, k11, vx, B11, q11⟩; rw [show pcA ⟨f, r, ⟨hsh, true, hfx, hmr⟩, 0, v, a, xx, true, ⟨oc, ov, oy⟩⟩ true 35 = pcn from hpn' _] at q11 ⊢; simp only [RD.withX, RD.cells] at B11; have T11 := T10.kept k11 (fun k hk => by simp at hk; subst hk; exact ⟨B10.old, _, _, _, B10.hT, B10.at_⟩); have O11 : Oth [p] w w11 := O10.trans ((Oth.kept k11).mono (by simp)); clear c12 cz; have c12 : w11.cell? ⟨p, 12, none⟩ = some (.int .i64 0) := B11.cell 12; have cz : ∀ i, w11.frozen? ⟨p, i, none⟩ = false := fun i => B11.free i)
   clear c0 c1 c2 c3 c4 c5 c6 c7 c8 c9 c10 c11 c12 c13 c14 c15 c16 c17 c18 c19 c20 cl cz
   have Q12 : pcn ≠ 35 → ∃ ps', vx = pt ps' ∧ Blk w0 (w11.setCell ⟨p, 12, none⟩ (.int .i64 pcn)) ps' 162 ((shA ⟨f, r, ⟨hsh, true, hfx, hmr⟩, 0, v, a, xx, true, ⟨oc, ov, oy⟩⟩ true).rcells Hd.zero 0) ∧ w.heap.size ≤ ps' := fun hne => by
    obtain ⟨ps', e1, e2, e3⟩ := q11 hne
    exact ⟨ps', e1, e2.oth (Oth.set (F := [p]) _ _ _ _ (by simp)) (by simp only [List.mem_singleton]; have := B10.lt; omega), Nat.le_trans O10.size e3⟩
   have B12 : Blk w0 (w11.setCell ⟨p, 12, none⟩ (.int .i64 pcn)) p 129 #[.int .i64 f, .int .i64 r.op, .int .i64 r.at_, .int .i64 r.fd, .int .i64 r.x.k, .int .i64 r.x.n, .int .i64 r.y.k, .int .i64 r.y.n, .bool hsh, .bool true, .bool hfx, .int .i64 hmr, .int .i64 pcn, .int .u64 v, .int .i64 a, vx, .bool true, .int .i64 oc, .int .i64 ov.k, .int .i64 ov.n, .bool oy] := (B11.set 12 (.int .i64 pcn))
   have T12 := (T11.set B11 12 (.int .i64 pcn))
   have O12 : Oth [p] w (w11.setCell ⟨p, 12, none⟩ (.int .i64 pcn)) := (O11.trans (Oth.set _ _ _ _ (by simp)))
   generalize (w11.setCell ⟨p, 12, none⟩ (.int .i64 pcn)) = w12 at B12 T12 O12 Q12 ⊢
   have c0 : w12.cell? ⟨p, 0, none⟩ = some (.int .i64 f) := B12.cell 0
   have c1 : w12.cell? ⟨p, 1, none⟩ = some (.int .i64 r.op) := B12.cell 1
   have c2 : w12.cell? ⟨p, 2, none⟩ = some (.int .i64 r.at_) := B12.cell 2
   have c3 : w12.cell? ⟨p, 3, none⟩ = some (.int .i64 r.fd) := B12.cell 3
   have c4 : w12.cell? ⟨p, 4, none⟩ = some (.int .i64 r.x.k) := B12.cell 4
   have c5 : w12.cell? ⟨p, 5, none⟩ = some (.int .i64 r.x.n) := B12.cell 5
   have c6 : w12.cell? ⟨p, 6, none⟩ = some (.int .i64 r.y.k) := B12.cell 6
   have c7 : w12.cell? ⟨p, 7, none⟩ = some (.int .i64 r.y.n) := B12.cell 7
   have c8 : w12.cell? ⟨p, 8, none⟩ = some (.bool hsh) := B12.cell 8
   have c9 : w12.cell? ⟨p, 9, none⟩ = some (.bool true) := B12.cell 9
   have c10 : w12.cell? ⟨p, 10, none⟩ = some (.bool hfx) := B12.cell 10
   have c11 : w12.cell? ⟨p, 11, none⟩ = some (.int .i64 hmr) := B12.cell 11
   have c12 : w12.cell? ⟨p, 12, none⟩ = some (.int .i64 pcn) := B12.cell 12
   have c13 : w12.cell? ⟨p, 13, none⟩ = some (.int .u64 v) := B12.cell 13
   have c14 : w12.cell? ⟨p, 14, none⟩ = some (.int .i64 a) := B12.cell 14
   have c15 : w12.cell? ⟨p, 15, none⟩ = some (vx) := B12.cell 15
   have c16 : w12.cell? ⟨p, 16, none⟩ = some (.bool true) := B12.cell 16
   have c17 : w12.cell? ⟨p, 17, none⟩ = some (.int .i64 oc) := B12.cell 17
   have c18 : w12.cell? ⟨p, 18, none⟩ = some (.int .i64 ov.k) := B12.cell 18
   have c19 : w12.cell? ⟨p, 19, none⟩ = some (.int .i64 ov.n) := B12.cell 19
   have c20 : w12.cell? ⟨p, 20, none⟩ = some (.bool oy) := B12.cell 20
   have cl := B12.lt
   have cz : ∀ i, w12.frozen? ⟨p, i, none⟩ = false := fun i => B12.free i
   go_wp2
   go_ret
   exact ⟨rfl, vx, ⟨T12.mono (by omega), B12, O12⟩, Q12⟩
  | true =>
   cases f2 with
   | false =>
    have c0 : w9.cell? ⟨p, 0, none⟩ = some (.int .i64 f) := B9.cell 0
    have c1 : w9.cell? ⟨p, 1, none⟩ = some (.int .i64 r.op) := B9.cell 1
    have c2 : w9.cell? ⟨p, 2, none⟩ = some (.int .i64 r.at_) := B9.cell 2
    have c3 : w9.cell? ⟨p, 3, none⟩ = some (.int .i64 r.fd) := B9.cell 3
    have c4 : w9.cell? ⟨p, 4, none⟩ = some (.int .i64 r.x.k) := B9.cell 4
    have c5 : w9.cell? ⟨p, 5, none⟩ = some (.int .i64 r.x.n) := B9.cell 5
    have c6 : w9.cell? ⟨p, 6, none⟩ = some (.int .i64 r.y.k) := B9.cell 6
    have c7 : w9.cell? ⟨p, 7, none⟩ = some (.int .i64 r.y.n) := B9.cell 7
    have c8 : w9.cell? ⟨p, 8, none⟩ = some (.bool hsh) := B9.cell 8
    have c9 : w9.cell? ⟨p, 9, none⟩ = some (.bool true) := B9.cell 9
    have c10 : w9.cell? ⟨p, 10, none⟩ = some (.bool hfx) := B9.cell 10
    have c11 : w9.cell? ⟨p, 11, none⟩ = some (.int .i64 hmr) := B9.cell 11
    have c12 : w9.cell? ⟨p, 12, none⟩ = some (.int .i64 0) := B9.cell 12
    have c13 : w9.cell? ⟨p, 13, none⟩ = some (.int .u64 v) := B9.cell 13
    have c14 : w9.cell? ⟨p, 14, none⟩ = some (.int .i64 a) := B9.cell 14
    have c15 : w9.cell? ⟨p, 15, none⟩ = some (xx) := B9.cell 15
    have c16 : w9.cell? ⟨p, 16, none⟩ = some (.bool true) := B9.cell 16
    have c17 : w9.cell? ⟨p, 17, none⟩ = some (.int .i64 oc) := B9.cell 17
    have c18 : w9.cell? ⟨p, 18, none⟩ = some (.int .i64 ov.k) := B9.cell 18
    have c19 : w9.cell? ⟨p, 19, none⟩ = some (.int .i64 ov.n) := B9.cell 19
    have c20 : w9.cell? ⟨p, 20, none⟩ = some (.bool oy) := B9.cell 20
    have cl := B9.lt
    have cz : ∀ i, w9.frozen? ⟨p, i, none⟩ = false := fun i => B9.free i
    have v0 : w9.cell? ⟨vb, 0, none⟩ = some (.int .i64 u.k) := V9.cell 0
    have v1 : w9.cell? ⟨vb, 1, none⟩ = some (.int .i64 u.n) := V9.cell 1
    have vl := V9.lt
    go_upto_region 39 with (fail)
    go_quiet (fail)
    clear c0 c1 c2 c3 c4 c5 c6 c7 c8 c9 c10 c11 c12 c13 c14 c15 c16 c17 c18 c19 c20 cl cz
    clear v0 v1 vl vq
    have hbd := bel_drewN w9 nq
    have B10 := B9.below hbd
    have T10 := T9.below hbd
    have O10 : Oth [p] w (w9.drewN nq) := O9.trans (Oth.below hbd)
    clear hbd
    generalize w9.drewN nq = w10 at B10 T10 O10 ⊢
    have c0 : w10.cell? ⟨p, 0, none⟩ = some (.int .i64 f) := B10.cell 0
    have c1 : w10.cell? ⟨p, 1, none⟩ = some (.int .i64 r.op) := B10.cell 1
    have c2 : w10.cell? ⟨p, 2, none⟩ = some (.int .i64 r.at_) := B10.cell 2
    have c3 : w10.cell? ⟨p, 3, none⟩ = some (.int .i64 r.fd) := B10.cell 3
    have c4 : w10.cell? ⟨p, 4, none⟩ = some (.int .i64 r.x.k) := B10.cell 4
    have c5 : w10.cell? ⟨p, 5, none⟩ = some (.int .i64 r.x.n) := B10.cell 5
    have c6 : w10.cell? ⟨p, 6, none⟩ = some (.int .i64 r.y.k) := B10.cell 6
    have c7 : w10.cell? ⟨p, 7, none⟩ = some (.int .i64 r.y.n) := B10.cell 7
    have c8 : w10.cell? ⟨p, 8, none⟩ = some (.bool hsh) := B10.cell 8
    have c9 : w10.cell? ⟨p, 9, none⟩ = some (.bool true) := B10.cell 9
    have c10 : w10.cell? ⟨p, 10, none⟩ = some (.bool hfx) := B10.cell 10
    have c11 : w10.cell? ⟨p, 11, none⟩ = some (.int .i64 hmr) := B10.cell 11
    have c12 : w10.cell? ⟨p, 12, none⟩ = some (.int .i64 0) := B10.cell 12
    have c13 : w10.cell? ⟨p, 13, none⟩ = some (.int .u64 v) := B10.cell 13
    have c14 : w10.cell? ⟨p, 14, none⟩ = some (.int .i64 a) := B10.cell 14
    have c15 : w10.cell? ⟨p, 15, none⟩ = some (xx) := B10.cell 15
    have c16 : w10.cell? ⟨p, 16, none⟩ = some (.bool true) := B10.cell 16
    have c17 : w10.cell? ⟨p, 17, none⟩ = some (.int .i64 oc) := B10.cell 17
    have c18 : w10.cell? ⟨p, 18, none⟩ = some (.int .i64 ov.k) := B10.cell 18
    have c19 : w10.cell? ⟨p, 19, none⟩ = some (.int .i64 ov.n) := B10.cell 19
    have c20 : w10.cell? ⟨p, 20, none⟩ = some (.bool oy) := B10.cell 20
    have cl := B10.lt
    have cz : ∀ i, w10.frozen? ⟨p, i, none⟩ = false := fun i => B10.free i
    go_upto_region 65 with (go_at_call 90; refine (rShades (d := ⟨f, r, ⟨hsh, true, hfx, hmr⟩, 0, v, a, xx, true, ⟨oc, ov, oy⟩⟩) B10 hU true 35 (by decide) (by decide)).mono ?_; rintro e w11 ⟨rfl, k11, vx, B11, q11⟩; rw [show pcA ⟨f, r, ⟨hsh, true, hfx, hmr⟩, 0, v, a, xx, true, ⟨oc, ov, oy⟩⟩ true 35 = pcn from hpn' _] at q11 ⊢; simp only [RD.withX, RD.cells] at B11; have T11 := T10.kept k11 (fun k hk => by simp at hk; subst hk; exact ⟨B10.old, _, _, _, B10.hT, B10.at_⟩); have O11 : Oth [p] w w11 := O10.trans ((Oth.kept k11).mono (by simp)); clear c12 cz; have c12 : w11.cell? ⟨p, 12, none⟩ = some (.int .i64 0) := B11.cell 12; have cz : ∀ i, w11.frozen? ⟨p, i, none⟩ = false := fun i => B11.free i)
    clear c0 c1 c2 c3 c4 c5 c6 c7 c8 c9 c10 c11 c12 c13 c14 c15 c16 c17 c18 c19 c20 cl cz
    have Q12 : pcn ≠ 35 → ∃ ps', vx = pt ps' ∧ Blk w0 (w11.setCell ⟨p, 12, none⟩ (.int .i64 pcn)) ps' 162 ((shA ⟨f, r, ⟨hsh, true, hfx, hmr⟩, 0, v, a, xx, true, ⟨oc, ov, oy⟩⟩ true).rcells Hd.zero 0) ∧ w.heap.size ≤ ps' := fun hne => by
     obtain ⟨ps', e1, e2, e3⟩ := q11 hne
     exact ⟨ps', e1, e2.oth (Oth.set (F := [p]) _ _ _ _ (by simp)) (by simp only [List.mem_singleton]; have := B10.lt; omega), Nat.le_trans O10.size e3⟩
    have B12 : Blk w0 (w11.setCell ⟨p, 12, none⟩ (.int .i64 pcn)) p 129 #[.int .i64 f, .int .i64 r.op, .int .i64 r.at_, .int .i64 r.fd, .int .i64 r.x.k, .int .i64 r.x.n, .int .i64 r.y.k, .int .i64 r.y.n, .bool hsh, .bool true, .bool hfx, .int .i64 hmr, .int .i64 pcn, .int .u64 v, .int .i64 a, vx, .bool true, .int .i64 oc, .int .i64 ov.k, .int .i64 ov.n, .bool oy] := (B11.set 12 (.int .i64 pcn))
    have T12 := (T11.set B11 12 (.int .i64 pcn))
    have O12 : Oth [p] w (w11.setCell ⟨p, 12, none⟩ (.int .i64 pcn)) := (O11.trans (Oth.set _ _ _ _ (by simp)))
    generalize (w11.setCell ⟨p, 12, none⟩ (.int .i64 pcn)) = w12 at B12 T12 O12 Q12 ⊢
    have c0 : w12.cell? ⟨p, 0, none⟩ = some (.int .i64 f) := B12.cell 0
    have c1 : w12.cell? ⟨p, 1, none⟩ = some (.int .i64 r.op) := B12.cell 1
    have c2 : w12.cell? ⟨p, 2, none⟩ = some (.int .i64 r.at_) := B12.cell 2
    have c3 : w12.cell? ⟨p, 3, none⟩ = some (.int .i64 r.fd) := B12.cell 3
    have c4 : w12.cell? ⟨p, 4, none⟩ = some (.int .i64 r.x.k) := B12.cell 4
    have c5 : w12.cell? ⟨p, 5, none⟩ = some (.int .i64 r.x.n) := B12.cell 5
    have c6 : w12.cell? ⟨p, 6, none⟩ = some (.int .i64 r.y.k) := B12.cell 6
    have c7 : w12.cell? ⟨p, 7, none⟩ = some (.int .i64 r.y.n) := B12.cell 7
    have c8 : w12.cell? ⟨p, 8, none⟩ = some (.bool hsh) := B12.cell 8
    have c9 : w12.cell? ⟨p, 9, none⟩ = some (.bool true) := B12.cell 9
    have c10 : w12.cell? ⟨p, 10, none⟩ = some (.bool hfx) := B12.cell 10
    have c11 : w12.cell? ⟨p, 11, none⟩ = some (.int .i64 hmr) := B12.cell 11
    have c12 : w12.cell? ⟨p, 12, none⟩ = some (.int .i64 pcn) := B12.cell 12
    have c13 : w12.cell? ⟨p, 13, none⟩ = some (.int .u64 v) := B12.cell 13
    have c14 : w12.cell? ⟨p, 14, none⟩ = some (.int .i64 a) := B12.cell 14
    have c15 : w12.cell? ⟨p, 15, none⟩ = some (vx) := B12.cell 15
    have c16 : w12.cell? ⟨p, 16, none⟩ = some (.bool true) := B12.cell 16
    have c17 : w12.cell? ⟨p, 17, none⟩ = some (.int .i64 oc) := B12.cell 17
    have c18 : w12.cell? ⟨p, 18, none⟩ = some (.int .i64 ov.k) := B12.cell 18
    have c19 : w12.cell? ⟨p, 19, none⟩ = some (.int .i64 ov.n) := B12.cell 19
    have c20 : w12.cell? ⟨p, 20, none⟩ = some (.bool oy) := B12.cell 20
    have cl := B12.lt
    have cz : ∀ i, w12.frozen? ⟨p, i, none⟩ = false := fun i => B12.free i
    go_wp2
    go_ret
    exact ⟨rfl, vx, ⟨T12.mono (by omega), B12, O12⟩, Q12⟩
   | true =>
    have c0 : w9.cell? ⟨p, 0, none⟩ = some (.int .i64 f) := B9.cell 0
    have c1 : w9.cell? ⟨p, 1, none⟩ = some (.int .i64 r.op) := B9.cell 1
    have c2 : w9.cell? ⟨p, 2, none⟩ = some (.int .i64 r.at_) := B9.cell 2
    have c3 : w9.cell? ⟨p, 3, none⟩ = some (.int .i64 r.fd) := B9.cell 3
    have c4 : w9.cell? ⟨p, 4, none⟩ = some (.int .i64 r.x.k) := B9.cell 4
    have c5 : w9.cell? ⟨p, 5, none⟩ = some (.int .i64 r.x.n) := B9.cell 5
    have c6 : w9.cell? ⟨p, 6, none⟩ = some (.int .i64 r.y.k) := B9.cell 6
    have c7 : w9.cell? ⟨p, 7, none⟩ = some (.int .i64 r.y.n) := B9.cell 7
    have c8 : w9.cell? ⟨p, 8, none⟩ = some (.bool hsh) := B9.cell 8
    have c9 : w9.cell? ⟨p, 9, none⟩ = some (.bool true) := B9.cell 9
    have c10 : w9.cell? ⟨p, 10, none⟩ = some (.bool hfx) := B9.cell 10
    have c11 : w9.cell? ⟨p, 11, none⟩ = some (.int .i64 hmr) := B9.cell 11
    have c12 : w9.cell? ⟨p, 12, none⟩ = some (.int .i64 0) := B9.cell 12
    have c13 : w9.cell? ⟨p, 13, none⟩ = some (.int .u64 v) := B9.cell 13
    have c14 : w9.cell? ⟨p, 14, none⟩ = some (.int .i64 a) := B9.cell 14
    have c15 : w9.cell? ⟨p, 15, none⟩ = some (xx) := B9.cell 15
    have c16 : w9.cell? ⟨p, 16, none⟩ = some (.bool true) := B9.cell 16
    have c17 : w9.cell? ⟨p, 17, none⟩ = some (.int .i64 oc) := B9.cell 17
    have c18 : w9.cell? ⟨p, 18, none⟩ = some (.int .i64 ov.k) := B9.cell 18
    have c19 : w9.cell? ⟨p, 19, none⟩ = some (.int .i64 ov.n) := B9.cell 19
    have c20 : w9.cell? ⟨p, 20, none⟩ = some (.bool oy) := B9.cell 20
    have cl := B9.lt
    have cz : ∀ i, w9.frozen? ⟨p, i, none⟩ = false := fun i => B9.free i
    have v0 : w9.cell? ⟨vb, 0, none⟩ = some (.int .i64 u.k) := V9.cell 0
    have v1 : w9.cell? ⟨vb, 1, none⟩ = some (.int .i64 u.n) := V9.cell 1
    have vl := V9.lt
    go_upto_region 39 with (fail)
    clear c0 c1 c2 c3 c4 c5 c6 c7 c8 c9 c10 c11 c12 c13 c14 c15 c16 c17 c18 c19 c20 cl cz
    clear v0 v1 vl
    have V10 := V9.oth (Oth.set (F := [p]) w9 p 12 (.int .i64 31) (by simp)) (by simpa using V9.ne B9 (by decide))
    have B10 : Blk w0 (w9.setCell ⟨p, 12, none⟩ (.int .i64 31)) p 129 #[.int .i64 f, .int .i64 r.op, .int .i64 r.at_, .int .i64 r.fd, .int .i64 r.x.k, .int .i64 r.x.n, .int .i64 r.y.k, .int .i64 r.y.n, .bool hsh, .bool true, .bool hfx, .int .i64 hmr, .int .i64 31, .int .u64 v, .int .i64 a, xx, .bool true, .int .i64 oc, .int .i64 ov.k, .int .i64 ov.n, .bool oy] := (B9.set 12 (.int .i64 31))
    have T10 := (T9.set B9 12 (.int .i64 31))
    have O10 : Oth [p] w (w9.setCell ⟨p, 12, none⟩ (.int .i64 31)) := (O9.trans (Oth.set _ _ _ _ (by simp)))
    generalize (w9.setCell ⟨p, 12, none⟩ (.int .i64 31)) = w10 at B10 T10 O10 V10 ⊢
    have c0 : w10.cell? ⟨p, 0, none⟩ = some (.int .i64 f) := B10.cell 0
    have c1 : w10.cell? ⟨p, 1, none⟩ = some (.int .i64 r.op) := B10.cell 1
    have c2 : w10.cell? ⟨p, 2, none⟩ = some (.int .i64 r.at_) := B10.cell 2
    have c3 : w10.cell? ⟨p, 3, none⟩ = some (.int .i64 r.fd) := B10.cell 3
    have c4 : w10.cell? ⟨p, 4, none⟩ = some (.int .i64 r.x.k) := B10.cell 4
    have c5 : w10.cell? ⟨p, 5, none⟩ = some (.int .i64 r.x.n) := B10.cell 5
    have c6 : w10.cell? ⟨p, 6, none⟩ = some (.int .i64 r.y.k) := B10.cell 6
    have c7 : w10.cell? ⟨p, 7, none⟩ = some (.int .i64 r.y.n) := B10.cell 7
    have c8 : w10.cell? ⟨p, 8, none⟩ = some (.bool hsh) := B10.cell 8
    have c9 : w10.cell? ⟨p, 9, none⟩ = some (.bool true) := B10.cell 9
    have c10 : w10.cell? ⟨p, 10, none⟩ = some (.bool hfx) := B10.cell 10
    have c11 : w10.cell? ⟨p, 11, none⟩ = some (.int .i64 hmr) := B10.cell 11
    have c12 : w10.cell? ⟨p, 12, none⟩ = some (.int .i64 31) := B10.cell 12
    have c13 : w10.cell? ⟨p, 13, none⟩ = some (.int .u64 v) := B10.cell 13
    have c14 : w10.cell? ⟨p, 14, none⟩ = some (.int .i64 a) := B10.cell 14
    have c15 : w10.cell? ⟨p, 15, none⟩ = some (xx) := B10.cell 15
    have c16 : w10.cell? ⟨p, 16, none⟩ = some (.bool true) := B10.cell 16
    have c17 : w10.cell? ⟨p, 17, none⟩ = some (.int .i64 oc) := B10.cell 17
    have c18 : w10.cell? ⟨p, 18, none⟩ = some (.int .i64 ov.k) := B10.cell 18
    have c19 : w10.cell? ⟨p, 19, none⟩ = some (.int .i64 ov.n) := B10.cell 19
    have c20 : w10.cell? ⟨p, 20, none⟩ = some (.bool oy) := B10.cell 20
    have cl := B10.lt
    have cz : ∀ i, w10.frozen? ⟨p, i, none⟩ = false := fun i => B10.free i
    have v0 : w10.cell? ⟨vb, 0, none⟩ = some (.int .i64 u.k) := V10.cell 0
    have v1 : w10.cell? ⟨vb, 1, none⟩ = some (.int .i64 u.n) := V10.cell 1
    have vl := V10.lt
    go_quiet (fail)
    clear c0 c1 c2 c3 c4 c5 c6 c7 c8 c9 c10 c11 c12 c13 c14 c15 c16 c17 c18 c19 c20 cl cz
    clear v0 v1 vl vq
    have hbd := bel_drewN w10 nq
    have B11 := B10.below hbd
    have T11 := T10.below hbd
    have O11 : Oth [p] w (w10.drewN nq) := O10.trans (Oth.below hbd)
    clear hbd
    generalize w10.drewN nq = w11 at B11 T11 O11 ⊢
    have c0 : w11.cell? ⟨p, 0, none⟩ = some (.int .i64 f) := B11.cell 0
    have c1 : w11.cell? ⟨p, 1, none⟩ = some (.int .i64 r.op) := B11.cell 1
    have c2 : w11.cell? ⟨p, 2, none⟩ = some (.int .i64 r.at_) := B11.cell 2
    have c3 : w11.cell? ⟨p, 3, none⟩ = some (.int .i64 r.fd) := B11.cell 3
    have c4 : w11.cell? ⟨p, 4, none⟩ = some (.int .i64 r.x.k) := B11.cell 4
    have c5 : w11.cell? ⟨p, 5, none⟩ = some (.int .i64 r.x.n) := B11.cell 5
    have c6 : w11.cell? ⟨p, 6, none⟩ = some (.int .i64 r.y.k) := B11.cell 6
    have c7 : w11.cell? ⟨p, 7, none⟩ = some (.int .i64 r.y.n) := B11.cell 7
    have c8 : w11.cell? ⟨p, 8, none⟩ = some (.bool hsh) := B11.cell 8
    have c9 : w11.cell? ⟨p, 9, none⟩ = some (.bool true) := B11.cell 9
    have c10 : w11.cell? ⟨p, 10, none⟩ = some (.bool hfx) := B11.cell 10
    have c11 : w11.cell? ⟨p, 11, none⟩ = some (.int .i64 hmr) := B11.cell 11
    have c12 : w11.cell? ⟨p, 12, none⟩ = some (.int .i64 31) := B11.cell 12
    have c13 : w11.cell? ⟨p, 13, none⟩ = some (.int .u64 v) := B11.cell 13
    have c14 : w11.cell? ⟨p, 14, none⟩ = some (.int .i64 a) := B11.cell 14
    have c15 : w11.cell? ⟨p, 15, none⟩ = some (xx) := B11.cell 15
    have c16 : w11.cell? ⟨p, 16, none⟩ = some (.bool true) := B11.cell 16
    have c17 : w11.cell? ⟨p, 17, none⟩ = some (.int .i64 oc) := B11.cell 17
    have c18 : w11.cell? ⟨p, 18, none⟩ = some (.int .i64 ov.k) := B11.cell 18
    have c19 : w11.cell? ⟨p, 19, none⟩ = some (.int .i64 ov.n) := B11.cell 19
    have c20 : w11.cell? ⟨p, 20, none⟩ = some (.bool oy) := B11.cell 20
    have cl := B11.lt
    have cz : ∀ i, w11.frozen? ⟨p, i, none⟩ = false := fun i => B11.free i
    go_upto_region 65 with (go_at_call 90; refine (rShades (d := ⟨f, r, ⟨hsh, true, hfx, hmr⟩, 31, v, a, xx, true, ⟨oc, ov, oy⟩⟩) B11 hU true 35 (by decide) (by decide)).mono ?_; rintro e w12 ⟨rfl, k12, vx, B12, q12⟩; rw [show pcA ⟨f, r, ⟨hsh, true, hfx, hmr⟩, 31, v, a, xx, true, ⟨oc, ov, oy⟩⟩ true 35 = pcn from hpn' _] at q12 ⊢; simp only [RD.withX, RD.cells] at B12; have T12 := T11.kept k12 (fun k hk => by simp at hk; subst hk; exact ⟨B11.old, _, _, _, B11.hT, B11.at_⟩); have O12 : Oth [p] w w12 := O11.trans ((Oth.kept k12).mono (by simp)); clear c12 cz; have c12 : w12.cell? ⟨p, 12, none⟩ = some (.int .i64 31) := B12.cell 12; have cz : ∀ i, w12.frozen? ⟨p, i, none⟩ = false := fun i => B12.free i)
    clear c0 c1 c2 c3 c4 c5 c6 c7 c8 c9 c10 c11 c12 c13 c14 c15 c16 c17 c18 c19 c20 cl cz
    have Q13 : pcn ≠ 35 → ∃ ps', vx = pt ps' ∧ Blk w0 (w12.setCell ⟨p, 12, none⟩ (.int .i64 pcn)) ps' 162 ((shA ⟨f, r, ⟨hsh, true, hfx, hmr⟩, 31, v, a, xx, true, ⟨oc, ov, oy⟩⟩ true).rcells Hd.zero 0) ∧ w.heap.size ≤ ps' := fun hne => by
     obtain ⟨ps', e1, e2, e3⟩ := q12 hne
     exact ⟨ps', e1, e2.oth (Oth.set (F := [p]) _ _ _ _ (by simp)) (by simp only [List.mem_singleton]; have := B11.lt; omega), Nat.le_trans O11.size e3⟩
    have B13 : Blk w0 (w12.setCell ⟨p, 12, none⟩ (.int .i64 pcn)) p 129 #[.int .i64 f, .int .i64 r.op, .int .i64 r.at_, .int .i64 r.fd, .int .i64 r.x.k, .int .i64 r.x.n, .int .i64 r.y.k, .int .i64 r.y.n, .bool hsh, .bool true, .bool hfx, .int .i64 hmr, .int .i64 pcn, .int .u64 v, .int .i64 a, vx, .bool true, .int .i64 oc, .int .i64 ov.k, .int .i64 ov.n, .bool oy] := (B12.set 12 (.int .i64 pcn))
    have T13 := (T12.set B12 12 (.int .i64 pcn))
    have O13 : Oth [p] w (w12.setCell ⟨p, 12, none⟩ (.int .i64 pcn)) := (O12.trans (Oth.set _ _ _ _ (by simp)))
    generalize (w12.setCell ⟨p, 12, none⟩ (.int .i64 pcn)) = w13 at B13 T13 O13 Q13 ⊢
    have c0 : w13.cell? ⟨p, 0, none⟩ = some (.int .i64 f) := B13.cell 0
    have c1 : w13.cell? ⟨p, 1, none⟩ = some (.int .i64 r.op) := B13.cell 1
    have c2 : w13.cell? ⟨p, 2, none⟩ = some (.int .i64 r.at_) := B13.cell 2
    have c3 : w13.cell? ⟨p, 3, none⟩ = some (.int .i64 r.fd) := B13.cell 3
    have c4 : w13.cell? ⟨p, 4, none⟩ = some (.int .i64 r.x.k) := B13.cell 4
    have c5 : w13.cell? ⟨p, 5, none⟩ = some (.int .i64 r.x.n) := B13.cell 5
    have c6 : w13.cell? ⟨p, 6, none⟩ = some (.int .i64 r.y.k) := B13.cell 6
    have c7 : w13.cell? ⟨p, 7, none⟩ = some (.int .i64 r.y.n) := B13.cell 7
    have c8 : w13.cell? ⟨p, 8, none⟩ = some (.bool hsh) := B13.cell 8
    have c9 : w13.cell? ⟨p, 9, none⟩ = some (.bool true) := B13.cell 9
    have c10 : w13.cell? ⟨p, 10, none⟩ = some (.bool hfx) := B13.cell 10
    have c11 : w13.cell? ⟨p, 11, none⟩ = some (.int .i64 hmr) := B13.cell 11
    have c12 : w13.cell? ⟨p, 12, none⟩ = some (.int .i64 pcn) := B13.cell 12
    have c13 : w13.cell? ⟨p, 13, none⟩ = some (.int .u64 v) := B13.cell 13
    have c14 : w13.cell? ⟨p, 14, none⟩ = some (.int .i64 a) := B13.cell 14
    have c15 : w13.cell? ⟨p, 15, none⟩ = some (vx) := B13.cell 15
    have c16 : w13.cell? ⟨p, 16, none⟩ = some (.bool true) := B13.cell 16
    have c17 : w13.cell? ⟨p, 17, none⟩ = some (.int .i64 oc) := B13.cell 17
    have c18 : w13.cell? ⟨p, 18, none⟩ = some (.int .i64 ov.k) := B13.cell 18
    have c19 : w13.cell? ⟨p, 19, none⟩ = some (.int .i64 ov.n) := B13.cell 19
    have c20 : w13.cell? ⟨p, 20, none⟩ = some (.bool oy) := B13.cell 20
    have cl := B13.lt
    have cz : ∀ i, w13.frozen? ⟨p, i, none⟩ = false := fun i => B13.free i
    go_wp2
    go_ret
    exact ⟨rfl, vx, ⟨T13.mono (by omega), B13, O13⟩, Q13⟩
set_option maxHeartbeats 8000000 in
theorem rd30n {w0 w : World} {b y p : Nat} {s1 s2 : St} {N : Nat} {d : RD} (h : Two w0 w b y s1 s2 N) (B : Blk w0 w p 129 d.cells) (hN : N + 5 < 1000000) (hpc : d.pc = 30) (hq : Vl.of (s2.got d.f) ≠ d.r.x) :
  Calls Tryz.prog 60 #[pt p, pt y] w fun e w' => e = .returned (.bool !(d.h.ca && (Vl.of (s2.got d.f)).far && d.r.x.far)) ∧ RdTo w0 w w' b y p s1 (s2.load d.f) N ⟨d.f, d.r, d.h, (if (d.h.ca && (Vl.of (s2.got d.f)).far && d.r.x.far) = true then 31 else 0), s2.got d.f, d.a, d.x, true, d.o⟩ [p] := by
 obtain ⟨f, r, ⟨hsh, hca, hfx, hmr⟩, pc, ww, a, xx, sh, ⟨oc, ov, oy⟩⟩ := d
 simp only [RD.cells] at B hpc hq ⊢
 subst hpc
 obtain ⟨v, hv⟩ : ∃ v, s2.got f = v := ⟨_, rfl⟩
 have hU : U64 v := hv ▸ h.rng2.got f
 obtain ⟨u, hu⟩ : ∃ u, Vl.of v = u := ⟨_, rfl⟩
 have hk : F.Plain.kind v = u.k := congrArg Vl.k hu
 have hn : F.Plain.num v = u.n := congrArg Vl.n hu
 rw [hv, hu] at hq
 rw [hv]
 have vq : ∀ w, (binOp .eql 38 (.agg #[.int .i64 u.k, .int .i64 u.n]) (.agg #[.int .i64 r.x.k, .int .i64 r.x.n])).run Tryz.prog w = .ok (.bool false) w := eqVal_f (a := u) (b := r.x) hq
 clear hq
 rw [hu]
 obtain ⟨f1, hf1⟩ : ∃ k, u.far = k := ⟨_, rfl⟩
 obtain ⟨f2, hf2⟩ : ∃ k, r.x.far = k := ⟨_, rfl⟩
 rw [hf1, hf2]
 have c0 : w.cell? ⟨p, 0, none⟩ = some (.int .i64 f) := B.cell 0
 have c1 : w.cell? ⟨p, 1, none⟩ = some (.int .i64 r.op) := B.cell 1
 have c2 : w.cell? ⟨p, 2, none⟩ = some (.int .i64 r.at_) := B.cell 2
 have c3 : w.cell? ⟨p, 3, none⟩ = some (.int .i64 r.fd) := B.cell 3
 have c4 : w.cell? ⟨p, 4, none⟩ = some (.int .i64 r.x.k) := B.cell 4
 have c5 : w.cell? ⟨p, 5, none⟩ = some (.int .i64 r.x.n) := B.cell 5
 have c6 : w.cell? ⟨p, 6, none⟩ = some (.int .i64 r.y.k) := B.cell 6
 have c7 : w.cell? ⟨p, 7, none⟩ = some (.int .i64 r.y.n) := B.cell 7
 have c8 : w.cell? ⟨p, 8, none⟩ = some (.bool hsh) := B.cell 8
 have c9 : w.cell? ⟨p, 9, none⟩ = some (.bool hca) := B.cell 9
 have c10 : w.cell? ⟨p, 10, none⟩ = some (.bool hfx) := B.cell 10
 have c11 : w.cell? ⟨p, 11, none⟩ = some (.int .i64 hmr) := B.cell 11
 have c12 : w.cell? ⟨p, 12, none⟩ = some (.int .i64 30) := B.cell 12
 have c13 : w.cell? ⟨p, 13, none⟩ = some (.int .u64 ww) := B.cell 13
 have c14 : w.cell? ⟨p, 14, none⟩ = some (.int .i64 a) := B.cell 14
 have c15 : w.cell? ⟨p, 15, none⟩ = some (xx) := B.cell 15
 have c16 : w.cell? ⟨p, 16, none⟩ = some (.bool sh) := B.cell 16
 have c17 : w.cell? ⟨p, 17, none⟩ = some (.int .i64 oc) := B.cell 17
 have c18 : w.cell? ⟨p, 18, none⟩ = some (.int .i64 ov.k) := B.cell 18
 have c19 : w.cell? ⟨p, 19, none⟩ = some (.int .i64 ov.n) := B.cell 19
 have c20 : w.cell? ⟨p, 20, none⟩ = some (.bool oy) := B.cell 20
 have cl := B.lt
 have cz : ∀ i, w.frozen? ⟨p, i, none⟩ = false := fun i => B.free i
 go_enter Tryz.func60, Tryz.ntmps60
 go_upto_region 31 with (fail)
 clear c0 c1 c2 c3 c4 c5 c6 c7 c8 c9 c10 c11 c12 c13 c14 c15 c16 c17 c18 c19 c20 cl cz
 have B1 : Blk w0 (w.setCell ⟨p, 16, none⟩ (.bool false)) p 129 #[.int .i64 f, .int .i64 r.op, .int .i64 r.at_, .int .i64 r.fd, .int .i64 r.x.k, .int .i64 r.x.n, .int .i64 r.y.k, .int .i64 r.y.n, .bool hsh, .bool hca, .bool hfx, .int .i64 hmr, .int .i64 30, .int .u64 ww, .int .i64 a, xx, .bool false, .int .i64 oc, .int .i64 ov.k, .int .i64 ov.n, .bool oy] := B.set 16 (.bool false)
 have T1 := h.set B 16 (.bool false)
 have O1 : Oth [p] w (w.setCell ⟨p, 16, none⟩ (.bool false)) := Oth.set _ _ _ _ (by simp)
 generalize w.setCell ⟨p, 16, none⟩ (.bool false) = w1 at B1 T1 O1 ⊢
 have c0 : w1.cell? ⟨p, 0, none⟩ = some (.int .i64 f) := B1.cell 0
 have c1 : w1.cell? ⟨p, 1, none⟩ = some (.int .i64 r.op) := B1.cell 1
 have c2 : w1.cell? ⟨p, 2, none⟩ = some (.int .i64 r.at_) := B1.cell 2
 have c3 : w1.cell? ⟨p, 3, none⟩ = some (.int .i64 r.fd) := B1.cell 3
 have c4 : w1.cell? ⟨p, 4, none⟩ = some (.int .i64 r.x.k) := B1.cell 4
 have c5 : w1.cell? ⟨p, 5, none⟩ = some (.int .i64 r.x.n) := B1.cell 5
 have c6 : w1.cell? ⟨p, 6, none⟩ = some (.int .i64 r.y.k) := B1.cell 6
 have c7 : w1.cell? ⟨p, 7, none⟩ = some (.int .i64 r.y.n) := B1.cell 7
 have c8 : w1.cell? ⟨p, 8, none⟩ = some (.bool hsh) := B1.cell 8
 have c9 : w1.cell? ⟨p, 9, none⟩ = some (.bool hca) := B1.cell 9
 have c10 : w1.cell? ⟨p, 10, none⟩ = some (.bool hfx) := B1.cell 10
 have c11 : w1.cell? ⟨p, 11, none⟩ = some (.int .i64 hmr) := B1.cell 11
 have c12 : w1.cell? ⟨p, 12, none⟩ = some (.int .i64 30) := B1.cell 12
 have c13 : w1.cell? ⟨p, 13, none⟩ = some (.int .u64 ww) := B1.cell 13
 have c14 : w1.cell? ⟨p, 14, none⟩ = some (.int .i64 a) := B1.cell 14
 have c15 : w1.cell? ⟨p, 15, none⟩ = some (xx) := B1.cell 15
 have c16 : w1.cell? ⟨p, 16, none⟩ = some (.bool false) := B1.cell 16
 have c17 : w1.cell? ⟨p, 17, none⟩ = some (.int .i64 oc) := B1.cell 17
 have c18 : w1.cell? ⟨p, 18, none⟩ = some (.int .i64 ov.k) := B1.cell 18
 have c19 : w1.cell? ⟨p, 19, none⟩ = some (.int .i64 ov.n) := B1.cell 19
 have c20 : w1.cell? ⟨p, 20, none⟩ = some (.bool oy) := B1.cell 20
 have cl := B1.lt
 have cz : ∀ i, w1.frozen? ⟨p, i, none⟩ = false := fun i => B1.free i
 go_upto_region 32 with (go_at_call 51; refine (yLoad T1 (by omega) f).mono ?_; rintro e w2 ⟨rfl, T2, o2⟩; rw [hv]; have B2 := B1.oth o2 (by simp); have O2 : Oth [p] w w2 := O1.trans (o2.mono (by simp)); clear o2 c13 cz; have c13 : w2.cell? ⟨p, 13, none⟩ = some (.int .u64 ww) := B2.cell 13; have cz : ∀ i, w2.frozen? ⟨p, i, none⟩ = false := fun i => B2.free i)
 clear c0 c1 c2 c3 c4 c5 c6 c7 c8 c9 c10 c11 c12 c13 c14 c15 c16 c17 c18 c19 c20 cl cz
 have B3 : Blk w0 (w2.setCell ⟨p, 13, none⟩ (.int .u64 v)) p 129 #[.int .i64 f, .int .i64 r.op, .int .i64 r.at_, .int .i64 r.fd, .int .i64 r.x.k, .int .i64 r.x.n, .int .i64 r.y.k, .int .i64 r.y.n, .bool hsh, .bool hca, .bool hfx, .int .i64 hmr, .int .i64 30, .int .u64 v, .int .i64 a, xx, .bool false, .int .i64 oc, .int .i64 ov.k, .int .i64 ov.n, .bool oy] := (B2.set 13 (.int .u64 v))
 have T3 := (T2.set B2 13 (.int .u64 v))
 have O3 : Oth [p] w (w2.setCell ⟨p, 13, none⟩ (.int .u64 v)) := (O2.trans (Oth.set _ _ _ _ (by simp)))
 generalize (w2.setCell ⟨p, 13, none⟩ (.int .u64 v)) = w3 at B3 T3 O3 ⊢
 have c0 : w3.cell? ⟨p, 0, none⟩ = some (.int .i64 f) := B3.cell 0
 have c1 : w3.cell? ⟨p, 1, none⟩ = some (.int .i64 r.op) := B3.cell 1
 have c2 : w3.cell? ⟨p, 2, none⟩ = some (.int .i64 r.at_) := B3.cell 2
 have c3 : w3.cell? ⟨p, 3, none⟩ = some (.int .i64 r.fd) := B3.cell 3
 have c4 : w3.cell? ⟨p, 4, none⟩ = some (.int .i64 r.x.k) := B3.cell 4
 have c5 : w3.cell? ⟨p, 5, none⟩ = some (.int .i64 r.x.n) := B3.cell 5
 have c6 : w3.cell? ⟨p, 6, none⟩ = some (.int .i64 r.y.k) := B3.cell 6
 have c7 : w3.cell? ⟨p, 7, none⟩ = some (.int .i64 r.y.n) := B3.cell 7
 have c8 : w3.cell? ⟨p, 8, none⟩ = some (.bool hsh) := B3.cell 8
 have c9 : w3.cell? ⟨p, 9, none⟩ = some (.bool hca) := B3.cell 9
 have c10 : w3.cell? ⟨p, 10, none⟩ = some (.bool hfx) := B3.cell 10
 have c11 : w3.cell? ⟨p, 11, none⟩ = some (.int .i64 hmr) := B3.cell 11
 have c12 : w3.cell? ⟨p, 12, none⟩ = some (.int .i64 30) := B3.cell 12
 have c13 : w3.cell? ⟨p, 13, none⟩ = some (.int .u64 v) := B3.cell 13
 have c14 : w3.cell? ⟨p, 14, none⟩ = some (.int .i64 a) := B3.cell 14
 have c15 : w3.cell? ⟨p, 15, none⟩ = some (xx) := B3.cell 15
 have c16 : w3.cell? ⟨p, 16, none⟩ = some (.bool false) := B3.cell 16
 have c17 : w3.cell? ⟨p, 17, none⟩ = some (.int .i64 oc) := B3.cell 17
 have c18 : w3.cell? ⟨p, 18, none⟩ = some (.int .i64 ov.k) := B3.cell 18
 have c19 : w3.cell? ⟨p, 19, none⟩ = some (.int .i64 ov.n) := B3.cell 19
 have c20 : w3.cell? ⟨p, 20, none⟩ = some (.bool oy) := B3.cell 20
 have cl := B3.lt
 have cz : ∀ i, w3.frozen? ⟨p, i, none⟩ = false := fun i => B3.free i
 go_upto_region 33 with (fail)
 clear c0 c1 c2 c3 c4 c5 c6 c7 c8 c9 c10 c11 c12 c13 c14 c15 c16 c17 c18 c19 c20 cl cz
 have B4 : Blk w0 (w3.setCell ⟨p, 16, none⟩ (.bool true)) p 129 #[.int .i64 f, .int .i64 r.op, .int .i64 r.at_, .int .i64 r.fd, .int .i64 r.x.k, .int .i64 r.x.n, .int .i64 r.y.k, .int .i64 r.y.n, .bool hsh, .bool hca, .bool hfx, .int .i64 hmr, .int .i64 30, .int .u64 v, .int .i64 a, xx, .bool true, .int .i64 oc, .int .i64 ov.k, .int .i64 ov.n, .bool oy] := (B3.set 16 (.bool true))
 have T4 := (T3.set B3 16 (.bool true))
 have O4 : Oth [p] w (w3.setCell ⟨p, 16, none⟩ (.bool true)) := (O3.trans (Oth.set _ _ _ _ (by simp)))
 generalize (w3.setCell ⟨p, 16, none⟩ (.bool true)) = w4 at B4 T4 O4 ⊢
 have c0 : w4.cell? ⟨p, 0, none⟩ = some (.int .i64 f) := B4.cell 0
 have c1 : w4.cell? ⟨p, 1, none⟩ = some (.int .i64 r.op) := B4.cell 1
 have c2 : w4.cell? ⟨p, 2, none⟩ = some (.int .i64 r.at_) := B4.cell 2
 have c3 : w4.cell? ⟨p, 3, none⟩ = some (.int .i64 r.fd) := B4.cell 3
 have c4 : w4.cell? ⟨p, 4, none⟩ = some (.int .i64 r.x.k) := B4.cell 4
 have c5 : w4.cell? ⟨p, 5, none⟩ = some (.int .i64 r.x.n) := B4.cell 5
 have c6 : w4.cell? ⟨p, 6, none⟩ = some (.int .i64 r.y.k) := B4.cell 6
 have c7 : w4.cell? ⟨p, 7, none⟩ = some (.int .i64 r.y.n) := B4.cell 7
 have c8 : w4.cell? ⟨p, 8, none⟩ = some (.bool hsh) := B4.cell 8
 have c9 : w4.cell? ⟨p, 9, none⟩ = some (.bool hca) := B4.cell 9
 have c10 : w4.cell? ⟨p, 10, none⟩ = some (.bool hfx) := B4.cell 10
 have c11 : w4.cell? ⟨p, 11, none⟩ = some (.int .i64 hmr) := B4.cell 11
 have c12 : w4.cell? ⟨p, 12, none⟩ = some (.int .i64 30) := B4.cell 12
 have c13 : w4.cell? ⟨p, 13, none⟩ = some (.int .u64 v) := B4.cell 13
 have c14 : w4.cell? ⟨p, 14, none⟩ = some (.int .i64 a) := B4.cell 14
 have c15 : w4.cell? ⟨p, 15, none⟩ = some (xx) := B4.cell 15
 have c16 : w4.cell? ⟨p, 16, none⟩ = some (.bool true) := B4.cell 16
 have c17 : w4.cell? ⟨p, 17, none⟩ = some (.int .i64 oc) := B4.cell 17
 have c18 : w4.cell? ⟨p, 18, none⟩ = some (.int .i64 ov.k) := B4.cell 18
 have c19 : w4.cell? ⟨p, 19, none⟩ = some (.int .i64 ov.n) := B4.cell 19
 have c20 : w4.cell? ⟨p, 20, none⟩ = some (.bool oy) := B4.cell 20
 have cl := B4.lt
 have cz : ∀ i, w4.frozen? ⟨p, i, none⟩ = false := fun i => B4.free i
 go_upto_region 34 with (go_at_call 30; refine (F.rOf v hU.1 hU.2 _).mono ?_; rintro e w5 ⟨rfl, hw5⟩; rw [hk, hn] at hw5 ⊢; have hb5 : Below w4.heap.size w4 w5 := (by rw [hw5]; go_grown); have B5 := B4.below hb5; have T5 := T4.below hb5; have O5 : Oth [p] w w5 := O4.trans (Oth.below hb5); clear hw5 hb5)
 clear c0 c1 c2 c3 c4 c5 c6 c7 c8 c9 c10 c11 c12 c13 c14 c15 c16 c17 c18 c19 c20 cl cz
 have hbx : Below w5.heap.size w5 (w5.alloc (.cells #[.int .i64 u.k, .int .i64 u.n] 38)) := (Below.refl _ _).alloc (Nat.le_refl _) _
 have hs0 : w0.heap.size ≤ w5.heap.size := Nat.le_trans B5.old (Nat.le_of_lt B5.lt)
 have V6 : Blk w0 (w5.alloc (.cells #[.int .i64 u.k, .int .i64 u.n] 38)) w5.heap.size 38 #[.int .i64 u.k, .int .i64 u.n] := Blk.new hs0 _ (by decide)
 have B6 := B5.below hbx
 have T6 := T5.below hbx
 have O6 : Oth [p] w (w5.alloc (.cells #[.int .i64 u.k, .int .i64 u.n] 38)) := O5.trans (Oth.below hbx)
 clear hbx
 generalize w5.alloc (.cells #[.int .i64 u.k, .int .i64 u.n] 38) = w6 at V6 B6 T6 O6 ⊢
 generalize w5.heap.size = vb at V6 ⊢
 have v0 : w6.cell? ⟨vb, 0, none⟩ = some (.int .i64 u.k) := V6.cell 0
 have v1 : w6.cell? ⟨vb, 1, none⟩ = some (.int .i64 u.n) := V6.cell 1
 have vl := V6.lt
 have c0 : w6.cell? ⟨p, 0, none⟩ = some (.int .i64 f) := B6.cell 0
 have c1 : w6.cell? ⟨p, 1, none⟩ = some (.int .i64 r.op) := B6.cell 1
 have c2 : w6.cell? ⟨p, 2, none⟩ = some (.int .i64 r.at_) := B6.cell 2
 have c3 : w6.cell? ⟨p, 3, none⟩ = some (.int .i64 r.fd) := B6.cell 3
 have c4 : w6.cell? ⟨p, 4, none⟩ = some (.int .i64 r.x.k) := B6.cell 4
 have c5 : w6.cell? ⟨p, 5, none⟩ = some (.int .i64 r.x.n) := B6.cell 5
 have c6 : w6.cell? ⟨p, 6, none⟩ = some (.int .i64 r.y.k) := B6.cell 6
 have c7 : w6.cell? ⟨p, 7, none⟩ = some (.int .i64 r.y.n) := B6.cell 7
 have c8 : w6.cell? ⟨p, 8, none⟩ = some (.bool hsh) := B6.cell 8
 have c9 : w6.cell? ⟨p, 9, none⟩ = some (.bool hca) := B6.cell 9
 have c10 : w6.cell? ⟨p, 10, none⟩ = some (.bool hfx) := B6.cell 10
 have c11 : w6.cell? ⟨p, 11, none⟩ = some (.int .i64 hmr) := B6.cell 11
 have c12 : w6.cell? ⟨p, 12, none⟩ = some (.int .i64 30) := B6.cell 12
 have c13 : w6.cell? ⟨p, 13, none⟩ = some (.int .u64 v) := B6.cell 13
 have c14 : w6.cell? ⟨p, 14, none⟩ = some (.int .i64 a) := B6.cell 14
 have c15 : w6.cell? ⟨p, 15, none⟩ = some (xx) := B6.cell 15
 have c16 : w6.cell? ⟨p, 16, none⟩ = some (.bool true) := B6.cell 16
 have c17 : w6.cell? ⟨p, 17, none⟩ = some (.int .i64 oc) := B6.cell 17
 have c18 : w6.cell? ⟨p, 18, none⟩ = some (.int .i64 ov.k) := B6.cell 18
 have c19 : w6.cell? ⟨p, 19, none⟩ = some (.int .i64 ov.n) := B6.cell 19
 have c20 : w6.cell? ⟨p, 20, none⟩ = some (.bool oy) := B6.cell 20
 have cl := B6.lt
 have cz : ∀ i, w6.frozen? ⟨p, i, none⟩ = false := fun i => B6.free i
 go_upto_region 35 with (go_at_call 88; refine (rFar u _).mono ?_; rintro e w7 ⟨rfl, hb7⟩; have B7 := B6.below hb7; have T7 := T6.below hb7; have O7 : Oth [p] w w7 := O6.trans (Oth.below hb7); rw [hf1]; have V7 := V6.below hb7; clear hb7)
 clear c0 c1 c2 c3 c4 c5 c6 c7 c8 c9 c10 c11 c12 c13 c14 c15 c16 c17 c18 c19 c20 cl cz
 clear v0 v1 vl
 have c0 : w7.cell? ⟨p, 0, none⟩ = some (.int .i64 f) := B7.cell 0
 have c1 : w7.cell? ⟨p, 1, none⟩ = some (.int .i64 r.op) := B7.cell 1
 have c2 : w7.cell? ⟨p, 2, none⟩ = some (.int .i64 r.at_) := B7.cell 2
 have c3 : w7.cell? ⟨p, 3, none⟩ = some (.int .i64 r.fd) := B7.cell 3
 have c4 : w7.cell? ⟨p, 4, none⟩ = some (.int .i64 r.x.k) := B7.cell 4
 have c5 : w7.cell? ⟨p, 5, none⟩ = some (.int .i64 r.x.n) := B7.cell 5
 have c6 : w7.cell? ⟨p, 6, none⟩ = some (.int .i64 r.y.k) := B7.cell 6
 have c7 : w7.cell? ⟨p, 7, none⟩ = some (.int .i64 r.y.n) := B7.cell 7
 have c8 : w7.cell? ⟨p, 8, none⟩ = some (.bool hsh) := B7.cell 8
 have c9 : w7.cell? ⟨p, 9, none⟩ = some (.bool hca) := B7.cell 9
 have c10 : w7.cell? ⟨p, 10, none⟩ = some (.bool hfx) := B7.cell 10
 have c11 : w7.cell? ⟨p, 11, none⟩ = some (.int .i64 hmr) := B7.cell 11
 have c12 : w7.cell? ⟨p, 12, none⟩ = some (.int .i64 30) := B7.cell 12
 have c13 : w7.cell? ⟨p, 13, none⟩ = some (.int .u64 v) := B7.cell 13
 have c14 : w7.cell? ⟨p, 14, none⟩ = some (.int .i64 a) := B7.cell 14
 have c15 : w7.cell? ⟨p, 15, none⟩ = some (xx) := B7.cell 15
 have c16 : w7.cell? ⟨p, 16, none⟩ = some (.bool true) := B7.cell 16
 have c17 : w7.cell? ⟨p, 17, none⟩ = some (.int .i64 oc) := B7.cell 17
 have c18 : w7.cell? ⟨p, 18, none⟩ = some (.int .i64 ov.k) := B7.cell 18
 have c19 : w7.cell? ⟨p, 19, none⟩ = some (.int .i64 ov.n) := B7.cell 19
 have c20 : w7.cell? ⟨p, 20, none⟩ = some (.bool oy) := B7.cell 20
 have cl := B7.lt
 have cz : ∀ i, w7.frozen? ⟨p, i, none⟩ = false := fun i => B7.free i
 go_upto_region 36 with (go_at_call 88; refine (rFar r.x _).mono ?_; rintro e w8 ⟨rfl, hb8⟩; have B8 := B7.below hb8; have T8 := T7.below hb8; have O8 : Oth [p] w w8 := O7.trans (Oth.below hb8); rw [hf2]; have V8 := V7.below hb8; clear hb8)
 clear c0 c1 c2 c3 c4 c5 c6 c7 c8 c9 c10 c11 c12 c13 c14 c15 c16 c17 c18 c19 c20 cl cz
 have c0 : w8.cell? ⟨p, 0, none⟩ = some (.int .i64 f) := B8.cell 0
 have c1 : w8.cell? ⟨p, 1, none⟩ = some (.int .i64 r.op) := B8.cell 1
 have c2 : w8.cell? ⟨p, 2, none⟩ = some (.int .i64 r.at_) := B8.cell 2
 have c3 : w8.cell? ⟨p, 3, none⟩ = some (.int .i64 r.fd) := B8.cell 3
 have c4 : w8.cell? ⟨p, 4, none⟩ = some (.int .i64 r.x.k) := B8.cell 4
 have c5 : w8.cell? ⟨p, 5, none⟩ = some (.int .i64 r.x.n) := B8.cell 5
 have c6 : w8.cell? ⟨p, 6, none⟩ = some (.int .i64 r.y.k) := B8.cell 6
 have c7 : w8.cell? ⟨p, 7, none⟩ = some (.int .i64 r.y.n) := B8.cell 7
 have c8 : w8.cell? ⟨p, 8, none⟩ = some (.bool hsh) := B8.cell 8
 have c9 : w8.cell? ⟨p, 9, none⟩ = some (.bool hca) := B8.cell 9
 have c10 : w8.cell? ⟨p, 10, none⟩ = some (.bool hfx) := B8.cell 10
 have c11 : w8.cell? ⟨p, 11, none⟩ = some (.int .i64 hmr) := B8.cell 11
 have c12 : w8.cell? ⟨p, 12, none⟩ = some (.int .i64 30) := B8.cell 12
 have c13 : w8.cell? ⟨p, 13, none⟩ = some (.int .u64 v) := B8.cell 13
 have c14 : w8.cell? ⟨p, 14, none⟩ = some (.int .i64 a) := B8.cell 14
 have c15 : w8.cell? ⟨p, 15, none⟩ = some (xx) := B8.cell 15
 have c16 : w8.cell? ⟨p, 16, none⟩ = some (.bool true) := B8.cell 16
 have c17 : w8.cell? ⟨p, 17, none⟩ = some (.int .i64 oc) := B8.cell 17
 have c18 : w8.cell? ⟨p, 18, none⟩ = some (.int .i64 ov.k) := B8.cell 18
 have c19 : w8.cell? ⟨p, 19, none⟩ = some (.int .i64 ov.n) := B8.cell 19
 have c20 : w8.cell? ⟨p, 20, none⟩ = some (.bool oy) := B8.cell 20
 have cl := B8.lt
 have cz : ∀ i, w8.frozen? ⟨p, i, none⟩ = false := fun i => B8.free i
 go_upto_region 37 with (fail)
 clear c0 c1 c2 c3 c4 c5 c6 c7 c8 c9 c10 c11 c12 c13 c14 c15 c16 c17 c18 c19 c20 cl cz
 have V9 := V8.oth (Oth.set (F := [p]) w8 p 12 (.int .i64 0) (by simp)) (by simpa using V8.ne B8 (by decide))
 have B9 : Blk w0 (w8.setCell ⟨p, 12, none⟩ (.int .i64 0)) p 129 #[.int .i64 f, .int .i64 r.op, .int .i64 r.at_, .int .i64 r.fd, .int .i64 r.x.k, .int .i64 r.x.n, .int .i64 r.y.k, .int .i64 r.y.n, .bool hsh, .bool hca, .bool hfx, .int .i64 hmr, .int .i64 0, .int .u64 v, .int .i64 a, xx, .bool true, .int .i64 oc, .int .i64 ov.k, .int .i64 ov.n, .bool oy] := (B8.set 12 (.int .i64 0))
 have T9 := (T8.set B8 12 (.int .i64 0))
 have O9 : Oth [p] w (w8.setCell ⟨p, 12, none⟩ (.int .i64 0)) := (O8.trans (Oth.set _ _ _ _ (by simp)))
 generalize (w8.setCell ⟨p, 12, none⟩ (.int .i64 0)) = w9 at B9 T9 O9 V9 ⊢
 cases hca with
 | false =>
  have c0 : w9.cell? ⟨p, 0, none⟩ = some (.int .i64 f) := B9.cell 0
  have c1 : w9.cell? ⟨p, 1, none⟩ = some (.int .i64 r.op) := B9.cell 1
  have c2 : w9.cell? ⟨p, 2, none⟩ = some (.int .i64 r.at_) := B9.cell 2
  have c3 : w9.cell? ⟨p, 3, none⟩ = some (.int .i64 r.fd) := B9.cell 3
  have c4 : w9.cell? ⟨p, 4, none⟩ = some (.int .i64 r.x.k) := B9.cell 4
  have c5 : w9.cell? ⟨p, 5, none⟩ = some (.int .i64 r.x.n) := B9.cell 5
  have c6 : w9.cell? ⟨p, 6, none⟩ = some (.int .i64 r.y.k) := B9.cell 6
  have c7 : w9.cell? ⟨p, 7, none⟩ = some (.int .i64 r.y.n) := B9.cell 7
  have c8 : w9.cell? ⟨p, 8, none⟩ = some (.bool hsh) := B9.cell 8
  have c9 : w9.cell? ⟨p, 9, none⟩ = some (.bool false) := B9.cell 9
  have c10 : w9.cell? ⟨p, 10, none⟩ = some (.bool hfx) := B9.cell 10
  have c11 : w9.cell? ⟨p, 11, none⟩ = some (.int .i64 hmr) := B9.cell 11
  have c12 : w9.cell? ⟨p, 12, none⟩ = some (.int .i64 0) := B9.cell 12
  have c13 : w9.cell? ⟨p, 13, none⟩ = some (.int .u64 v) := B9.cell 13
  have c14 : w9.cell? ⟨p, 14, none⟩ = some (.int .i64 a) := B9.cell 14
  have c15 : w9.cell? ⟨p, 15, none⟩ = some (xx) := B9.cell 15
  have c16 : w9.cell? ⟨p, 16, none⟩ = some (.bool true) := B9.cell 16
  have c17 : w9.cell? ⟨p, 17, none⟩ = some (.int .i64 oc) := B9.cell 17
  have c18 : w9.cell? ⟨p, 18, none⟩ = some (.int .i64 ov.k) := B9.cell 18
  have c19 : w9.cell? ⟨p, 19, none⟩ = some (.int .i64 ov.n) := B9.cell 19
  have c20 : w9.cell? ⟨p, 20, none⟩ = some (.bool oy) := B9.cell 20
  have cl := B9.lt
  have cz : ∀ i, w9.frozen? ⟨p, i, none⟩ = false := fun i => B9.free i
  have v0 : w9.cell? ⟨vb, 0, none⟩ = some (.int .i64 u.k) := V9.cell 0
  have v1 : w9.cell? ⟨vb, 1, none⟩ = some (.int .i64 u.n) := V9.cell 1
  have vl := V9.lt
  go_upto_region 39 with (fail)
  go_quiet (fail)
  clear c0 c1 c2 c3 c4 c5 c6 c7 c8 c9 c10 c11 c12 c13 c14 c15 c16 c17 c18 c19 c20 cl cz
  clear v0 v1 vl vq
  have hbd := bel_drewN w9 nq
  have B10 := B9.below hbd
  have T10 := T9.below hbd
  have O10 : Oth [p] w (w9.drewN nq) := O9.trans (Oth.below hbd)
  clear hbd
  generalize w9.drewN nq = w10 at B10 T10 O10 ⊢
  have c0 : w10.cell? ⟨p, 0, none⟩ = some (.int .i64 f) := B10.cell 0
  have c1 : w10.cell? ⟨p, 1, none⟩ = some (.int .i64 r.op) := B10.cell 1
  have c2 : w10.cell? ⟨p, 2, none⟩ = some (.int .i64 r.at_) := B10.cell 2
  have c3 : w10.cell? ⟨p, 3, none⟩ = some (.int .i64 r.fd) := B10.cell 3
  have c4 : w10.cell? ⟨p, 4, none⟩ = some (.int .i64 r.x.k) := B10.cell 4
  have c5 : w10.cell? ⟨p, 5, none⟩ = some (.int .i64 r.x.n) := B10.cell 5
  have c6 : w10.cell? ⟨p, 6, none⟩ = some (.int .i64 r.y.k) := B10.cell 6
  have c7 : w10.cell? ⟨p, 7, none⟩ = some (.int .i64 r.y.n) := B10.cell 7
  have c8 : w10.cell? ⟨p, 8, none⟩ = some (.bool hsh) := B10.cell 8
  have c9 : w10.cell? ⟨p, 9, none⟩ = some (.bool false) := B10.cell 9
  have c10 : w10.cell? ⟨p, 10, none⟩ = some (.bool hfx) := B10.cell 10
  have c11 : w10.cell? ⟨p, 11, none⟩ = some (.int .i64 hmr) := B10.cell 11
  have c12 : w10.cell? ⟨p, 12, none⟩ = some (.int .i64 0) := B10.cell 12
  have c13 : w10.cell? ⟨p, 13, none⟩ = some (.int .u64 v) := B10.cell 13
  have c14 : w10.cell? ⟨p, 14, none⟩ = some (.int .i64 a) := B10.cell 14
  have c15 : w10.cell? ⟨p, 15, none⟩ = some (xx) := B10.cell 15
  have c16 : w10.cell? ⟨p, 16, none⟩ = some (.bool true) := B10.cell 16
  have c17 : w10.cell? ⟨p, 17, none⟩ = some (.int .i64 oc) := B10.cell 17
  have c18 : w10.cell? ⟨p, 18, none⟩ = some (.int .i64 ov.k) := B10.cell 18
  have c19 : w10.cell? ⟨p, 19, none⟩ = some (.int .i64 ov.n) := B10.cell 19
  have c20 : w10.cell? ⟨p, 20, none⟩ = some (.bool oy) := B10.cell 20
  have cl := B10.lt
  have cz : ∀ i, w10.frozen? ⟨p, i, none⟩ = false := fun i => B10.free i
  go_wp2
  go_ret
  exact ⟨rfl, ⟨T10.mono (by omega), B10, O10⟩⟩
 | true =>
  cases f1 with
  | false =>
   have c0 : w9.cell? ⟨p, 0, none⟩ = some (.int .i64 f) := B9.cell 0
   have c1 : w9.cell? ⟨p, 1, none⟩ = some (.int .i64 r.op) := B9.cell 1
   have c2 : w9.cell? ⟨p, 2, none⟩ = some (.int .i64 r.at_) := B9.cell 2
   have c3 : w9.cell? ⟨p, 3, none⟩ = some (.int .i64 r.fd) := B9.cell 3
   have c4 : w9.cell? ⟨p, 4, none⟩ = some (.int .i64 r.x.k) := B9.cell 4
   have c5 : w9.cell? ⟨p, 5, none⟩ = some (.int .i64 r.x.n) := B9.cell 5
   have c6 : w9.cell? ⟨p, 6, none⟩ = some (.int .i64 r.y.k) := B9.cell 6
   have c7 : w9.cell? ⟨p, 7, none⟩ = some (.int .i64 r.y.n) := B9.cell 7
   have c8 : w9.cell? ⟨p, 8, none⟩ = some (.bool hsh) := B9.cell 8
   have c9 : w9.cell? ⟨p, 9, none⟩ = some (.bool true) := B9.cell 9
   have c10 : w9.cell? ⟨p, 10, none⟩ = some (.bool hfx) := B9.cell 10
   have c11 : w9.cell? ⟨p, 11, none⟩ = some (.int .i64 hmr) := B9.cell 11
   have c12 : w9.cell? ⟨p, 12, none⟩ = some (.int .i64 0) := B9.cell 12
   have c13 : w9.cell? ⟨p, 13, none⟩ = some (.int .u64 v) := B9.cell 13
   have c14 : w9.cell? ⟨p, 14, none⟩ = some (.int .i64 a) := B9.cell 14
   have c15 : w9.cell? ⟨p, 15, none⟩ = some (xx) := B9.cell 15
   have c16 : w9.cell? ⟨p, 16, none⟩ = some (.bool true) := B9.cell 16
   have c17 : w9.cell? ⟨p, 17, none⟩ = some (.int .i64 oc) := B9.cell 17
   have c18 : w9.cell? ⟨p, 18, none⟩ = some (.int .i64 ov.k) := B9.cell 18
   have c19 : w9.cell? ⟨p, 19, none⟩ = some (.int .i64 ov.n) := B9.cell 19
   have c20 : w9.cell? ⟨p, 20, none⟩ = some (.bool oy) := B9.cell 20
   have cl := B9.lt
   have cz : ∀ i, w9.frozen? ⟨p, i, none⟩ = false := fun i => B9.free i
   have v0 : w9.cell? ⟨vb, 0, none⟩ = some (.int .i64 u.k) := V9.cell 0
   have v1 : w9.cell? ⟨vb, 1, none⟩ = some (.int .i64 u.n) := V9.cell 1
   have vl := V9.lt
   go_upto_region 39 with (fail)
   go_quiet (fail)
   clear c0 c1 c2 c3 c4 c5 c6 c7 c8 c9 c10 c11 c12 c13 c14 c15 c16 c17 c18 c19 c20 cl cz
   clear v0 v1 vl vq
   have hbd := bel_drewN w9 nq
   have B10 := B9.below hbd
   have T10 := T9.below hbd
   have O10 : Oth [p] w (w9.drewN nq) := O9.trans (Oth.below hbd)
   clear hbd
   generalize w9.drewN nq = w10 at B10 T10 O10 ⊢
   have c0 : w10.cell? ⟨p, 0, none⟩ = some (.int .i64 f) := B10.cell 0
   have c1 : w10.cell? ⟨p, 1, none⟩ = some (.int .i64 r.op) := B10.cell 1
   have c2 : w10.cell? ⟨p, 2, none⟩ = some (.int .i64 r.at_) := B10.cell 2
   have c3 : w10.cell? ⟨p, 3, none⟩ = some (.int .i64 r.fd) := B10.cell 3
   have c4 : w10.cell? ⟨p, 4, none⟩ = some (.int .i64 r.x.k) := B10.cell 4
   have c5 : w10.cell? ⟨p, 5, none⟩ = some (.int .i64 r.x.n) := B10.cell 5
   have c6 : w10.cell? ⟨p, 6, none⟩ = some (.int .i64 r.y.k) := B10.cell 6
   have c7 : w10.cell? ⟨p, 7, none⟩ = some (.int .i64 r.y.n) := B10.cell 7
   have c8 : w10.cell? ⟨p, 8, none⟩ = some (.bool hsh) := B10.cell 8
   have c9 : w10.cell? ⟨p, 9, none⟩ = some (.bool true) := B10.cell 9
   have c10 : w10.cell? ⟨p, 10, none⟩ = some (.bool hfx) := B10.cell 10
   have c11 : w10.cell? ⟨p, 11, none⟩ = some (.int .i64 hmr) := B10.cell 11
   have c12 : w10.cell? ⟨p, 12, none⟩ = some (.int .i64 0) := B10.cell 12
   have c13 : w10.cell? ⟨p, 13, none⟩ = some (.int .u64 v) := B10.cell 13
   have c14 : w10.cell? ⟨p, 14, none⟩ = some (.int .i64 a) := B10.cell 14
   have c15 : w10.cell? ⟨p, 15, none⟩ = some (xx) := B10.cell 15
   have c16 : w10.cell? ⟨p, 16, none⟩ = some (.bool true) := B10.cell 16
   have c17 : w10.cell? ⟨p, 17, none⟩ = some (.int .i64 oc) := B10.cell 17
   have c18 : w10.cell? ⟨p, 18, none⟩ = some (.int .i64 ov.k) := B10.cell 18
   have c19 : w10.cell? ⟨p, 19, none⟩ = some (.int .i64 ov.n) := B10.cell 19
   have c20 : w10.cell? ⟨p, 20, none⟩ = some (.bool oy) := B10.cell 20
   have cl := B10.lt
   have cz : ∀ i, w10.frozen? ⟨p, i, none⟩ = false := fun i => B10.free i
   go_wp2
   go_ret
   exact ⟨rfl, ⟨T10.mono (by omega), B10, O10⟩⟩
  | true =>
   cases f2 with
   | false =>
    have c0 : w9.cell? ⟨p, 0, none⟩ = some (.int .i64 f) := B9.cell 0
    have c1 : w9.cell? ⟨p, 1, none⟩ = some (.int .i64 r.op) := B9.cell 1
    have c2 : w9.cell? ⟨p, 2, none⟩ = some (.int .i64 r.at_) := B9.cell 2
    have c3 : w9.cell? ⟨p, 3, none⟩ = some (.int .i64 r.fd) := B9.cell 3
    have c4 : w9.cell? ⟨p, 4, none⟩ = some (.int .i64 r.x.k) := B9.cell 4
    have c5 : w9.cell? ⟨p, 5, none⟩ = some (.int .i64 r.x.n) := B9.cell 5
    have c6 : w9.cell? ⟨p, 6, none⟩ = some (.int .i64 r.y.k) := B9.cell 6
    have c7 : w9.cell? ⟨p, 7, none⟩ = some (.int .i64 r.y.n) := B9.cell 7
    have c8 : w9.cell? ⟨p, 8, none⟩ = some (.bool hsh) := B9.cell 8
    have c9 : w9.cell? ⟨p, 9, none⟩ = some (.bool true) := B9.cell 9
    have c10 : w9.cell? ⟨p, 10, none⟩ = some (.bool hfx) := B9.cell 10
    have c11 : w9.cell? ⟨p, 11, none⟩ = some (.int .i64 hmr) := B9.cell 11
    have c12 : w9.cell? ⟨p, 12, none⟩ = some (.int .i64 0) := B9.cell 12
    have c13 : w9.cell? ⟨p, 13, none⟩ = some (.int .u64 v) := B9.cell 13
    have c14 : w9.cell? ⟨p, 14, none⟩ = some (.int .i64 a) := B9.cell 14
    have c15 : w9.cell? ⟨p, 15, none⟩ = some (xx) := B9.cell 15
    have c16 : w9.cell? ⟨p, 16, none⟩ = some (.bool true) := B9.cell 16
    have c17 : w9.cell? ⟨p, 17, none⟩ = some (.int .i64 oc) := B9.cell 17
    have c18 : w9.cell? ⟨p, 18, none⟩ = some (.int .i64 ov.k) := B9.cell 18
    have c19 : w9.cell? ⟨p, 19, none⟩ = some (.int .i64 ov.n) := B9.cell 19
    have c20 : w9.cell? ⟨p, 20, none⟩ = some (.bool oy) := B9.cell 20
    have cl := B9.lt
    have cz : ∀ i, w9.frozen? ⟨p, i, none⟩ = false := fun i => B9.free i
    have v0 : w9.cell? ⟨vb, 0, none⟩ = some (.int .i64 u.k) := V9.cell 0
    have v1 : w9.cell? ⟨vb, 1, none⟩ = some (.int .i64 u.n) := V9.cell 1
    have vl := V9.lt
    go_upto_region 39 with (fail)
    go_quiet (fail)
    clear c0 c1 c2 c3 c4 c5 c6 c7 c8 c9 c10 c11 c12 c13 c14 c15 c16 c17 c18 c19 c20 cl cz
    clear v0 v1 vl vq
    have hbd := bel_drewN w9 nq
    have B10 := B9.below hbd
    have T10 := T9.below hbd
    have O10 : Oth [p] w (w9.drewN nq) := O9.trans (Oth.below hbd)
    clear hbd
    generalize w9.drewN nq = w10 at B10 T10 O10 ⊢
    have c0 : w10.cell? ⟨p, 0, none⟩ = some (.int .i64 f) := B10.cell 0
    have c1 : w10.cell? ⟨p, 1, none⟩ = some (.int .i64 r.op) := B10.cell 1
    have c2 : w10.cell? ⟨p, 2, none⟩ = some (.int .i64 r.at_) := B10.cell 2
    have c3 : w10.cell? ⟨p, 3, none⟩ = some (.int .i64 r.fd) := B10.cell 3
    have c4 : w10.cell? ⟨p, 4, none⟩ = some (.int .i64 r.x.k) := B10.cell 4
    have c5 : w10.cell? ⟨p, 5, none⟩ = some (.int .i64 r.x.n) := B10.cell 5
    have c6 : w10.cell? ⟨p, 6, none⟩ = some (.int .i64 r.y.k) := B10.cell 6
    have c7 : w10.cell? ⟨p, 7, none⟩ = some (.int .i64 r.y.n) := B10.cell 7
    have c8 : w10.cell? ⟨p, 8, none⟩ = some (.bool hsh) := B10.cell 8
    have c9 : w10.cell? ⟨p, 9, none⟩ = some (.bool true) := B10.cell 9
    have c10 : w10.cell? ⟨p, 10, none⟩ = some (.bool hfx) := B10.cell 10
    have c11 : w10.cell? ⟨p, 11, none⟩ = some (.int .i64 hmr) := B10.cell 11
    have c12 : w10.cell? ⟨p, 12, none⟩ = some (.int .i64 0) := B10.cell 12
    have c13 : w10.cell? ⟨p, 13, none⟩ = some (.int .u64 v) := B10.cell 13
    have c14 : w10.cell? ⟨p, 14, none⟩ = some (.int .i64 a) := B10.cell 14
    have c15 : w10.cell? ⟨p, 15, none⟩ = some (xx) := B10.cell 15
    have c16 : w10.cell? ⟨p, 16, none⟩ = some (.bool true) := B10.cell 16
    have c17 : w10.cell? ⟨p, 17, none⟩ = some (.int .i64 oc) := B10.cell 17
    have c18 : w10.cell? ⟨p, 18, none⟩ = some (.int .i64 ov.k) := B10.cell 18
    have c19 : w10.cell? ⟨p, 19, none⟩ = some (.int .i64 ov.n) := B10.cell 19
    have c20 : w10.cell? ⟨p, 20, none⟩ = some (.bool oy) := B10.cell 20
    have cl := B10.lt
    have cz : ∀ i, w10.frozen? ⟨p, i, none⟩ = false := fun i => B10.free i
    go_wp2
    go_ret
    exact ⟨rfl, ⟨T10.mono (by omega), B10, O10⟩⟩
   | true =>
    have c0 : w9.cell? ⟨p, 0, none⟩ = some (.int .i64 f) := B9.cell 0
    have c1 : w9.cell? ⟨p, 1, none⟩ = some (.int .i64 r.op) := B9.cell 1
    have c2 : w9.cell? ⟨p, 2, none⟩ = some (.int .i64 r.at_) := B9.cell 2
    have c3 : w9.cell? ⟨p, 3, none⟩ = some (.int .i64 r.fd) := B9.cell 3
    have c4 : w9.cell? ⟨p, 4, none⟩ = some (.int .i64 r.x.k) := B9.cell 4
    have c5 : w9.cell? ⟨p, 5, none⟩ = some (.int .i64 r.x.n) := B9.cell 5
    have c6 : w9.cell? ⟨p, 6, none⟩ = some (.int .i64 r.y.k) := B9.cell 6
    have c7 : w9.cell? ⟨p, 7, none⟩ = some (.int .i64 r.y.n) := B9.cell 7
    have c8 : w9.cell? ⟨p, 8, none⟩ = some (.bool hsh) := B9.cell 8
    have c9 : w9.cell? ⟨p, 9, none⟩ = some (.bool true) := B9.cell 9
    have c10 : w9.cell? ⟨p, 10, none⟩ = some (.bool hfx) := B9.cell 10
    have c11 : w9.cell? ⟨p, 11, none⟩ = some (.int .i64 hmr) := B9.cell 11
    have c12 : w9.cell? ⟨p, 12, none⟩ = some (.int .i64 0) := B9.cell 12
    have c13 : w9.cell? ⟨p, 13, none⟩ = some (.int .u64 v) := B9.cell 13
    have c14 : w9.cell? ⟨p, 14, none⟩ = some (.int .i64 a) := B9.cell 14
    have c15 : w9.cell? ⟨p, 15, none⟩ = some (xx) := B9.cell 15
    have c16 : w9.cell? ⟨p, 16, none⟩ = some (.bool true) := B9.cell 16
    have c17 : w9.cell? ⟨p, 17, none⟩ = some (.int .i64 oc) := B9.cell 17
    have c18 : w9.cell? ⟨p, 18, none⟩ = some (.int .i64 ov.k) := B9.cell 18
    have c19 : w9.cell? ⟨p, 19, none⟩ = some (.int .i64 ov.n) := B9.cell 19
    have c20 : w9.cell? ⟨p, 20, none⟩ = some (.bool oy) := B9.cell 20
    have cl := B9.lt
    have cz : ∀ i, w9.frozen? ⟨p, i, none⟩ = false := fun i => B9.free i
    have v0 : w9.cell? ⟨vb, 0, none⟩ = some (.int .i64 u.k) := V9.cell 0
    have v1 : w9.cell? ⟨vb, 1, none⟩ = some (.int .i64 u.n) := V9.cell 1
    have vl := V9.lt
    go_upto_region 39 with (fail)
    clear c0 c1 c2 c3 c4 c5 c6 c7 c8 c9 c10 c11 c12 c13 c14 c15 c16 c17 c18 c19 c20 cl cz
    clear v0 v1 vl
    have V10 := V9.oth (Oth.set (F := [p]) w9 p 12 (.int .i64 31) (by simp)) (by simpa using V9.ne B9 (by decide))
    have B10 : Blk w0 (w9.setCell ⟨p, 12, none⟩ (.int .i64 31)) p 129 #[.int .i64 f, .int .i64 r.op, .int .i64 r.at_, .int .i64 r.fd, .int .i64 r.x.k, .int .i64 r.x.n, .int .i64 r.y.k, .int .i64 r.y.n, .bool hsh, .bool true, .bool hfx, .int .i64 hmr, .int .i64 31, .int .u64 v, .int .i64 a, xx, .bool true, .int .i64 oc, .int .i64 ov.k, .int .i64 ov.n, .bool oy] := (B9.set 12 (.int .i64 31))
    have T10 := (T9.set B9 12 (.int .i64 31))
    have O10 : Oth [p] w (w9.setCell ⟨p, 12, none⟩ (.int .i64 31)) := (O9.trans (Oth.set _ _ _ _ (by simp)))
    generalize (w9.setCell ⟨p, 12, none⟩ (.int .i64 31)) = w10 at B10 T10 O10 V10 ⊢
    have c0 : w10.cell? ⟨p, 0, none⟩ = some (.int .i64 f) := B10.cell 0
    have c1 : w10.cell? ⟨p, 1, none⟩ = some (.int .i64 r.op) := B10.cell 1
    have c2 : w10.cell? ⟨p, 2, none⟩ = some (.int .i64 r.at_) := B10.cell 2
    have c3 : w10.cell? ⟨p, 3, none⟩ = some (.int .i64 r.fd) := B10.cell 3
    have c4 : w10.cell? ⟨p, 4, none⟩ = some (.int .i64 r.x.k) := B10.cell 4
    have c5 : w10.cell? ⟨p, 5, none⟩ = some (.int .i64 r.x.n) := B10.cell 5
    have c6 : w10.cell? ⟨p, 6, none⟩ = some (.int .i64 r.y.k) := B10.cell 6
    have c7 : w10.cell? ⟨p, 7, none⟩ = some (.int .i64 r.y.n) := B10.cell 7
    have c8 : w10.cell? ⟨p, 8, none⟩ = some (.bool hsh) := B10.cell 8
    have c9 : w10.cell? ⟨p, 9, none⟩ = some (.bool true) := B10.cell 9
    have c10 : w10.cell? ⟨p, 10, none⟩ = some (.bool hfx) := B10.cell 10
    have c11 : w10.cell? ⟨p, 11, none⟩ = some (.int .i64 hmr) := B10.cell 11
    have c12 : w10.cell? ⟨p, 12, none⟩ = some (.int .i64 31) := B10.cell 12
    have c13 : w10.cell? ⟨p, 13, none⟩ = some (.int .u64 v) := B10.cell 13
    have c14 : w10.cell? ⟨p, 14, none⟩ = some (.int .i64 a) := B10.cell 14
    have c15 : w10.cell? ⟨p, 15, none⟩ = some (xx) := B10.cell 15
    have c16 : w10.cell? ⟨p, 16, none⟩ = some (.bool true) := B10.cell 16
    have c17 : w10.cell? ⟨p, 17, none⟩ = some (.int .i64 oc) := B10.cell 17
    have c18 : w10.cell? ⟨p, 18, none⟩ = some (.int .i64 ov.k) := B10.cell 18
    have c19 : w10.cell? ⟨p, 19, none⟩ = some (.int .i64 ov.n) := B10.cell 19
    have c20 : w10.cell? ⟨p, 20, none⟩ = some (.bool oy) := B10.cell 20
    have cl := B10.lt
    have cz : ∀ i, w10.frozen? ⟨p, i, none⟩ = false := fun i => B10.free i
    have v0 : w10.cell? ⟨vb, 0, none⟩ = some (.int .i64 u.k) := V10.cell 0
    have v1 : w10.cell? ⟨vb, 1, none⟩ = some (.int .i64 u.n) := V10.cell 1
    have vl := V10.lt
    go_quiet (fail)
    clear c0 c1 c2 c3 c4 c5 c6 c7 c8 c9 c10 c11 c12 c13 c14 c15 c16 c17 c18 c19 c20 cl cz
    clear v0 v1 vl vq
    have hbd := bel_drewN w10 nq
    have B11 := B10.below hbd
    have T11 := T10.below hbd
    have O11 : Oth [p] w (w10.drewN nq) := O10.trans (Oth.below hbd)
    clear hbd
    generalize w10.drewN nq = w11 at B11 T11 O11 ⊢
    have c0 : w11.cell? ⟨p, 0, none⟩ = some (.int .i64 f) := B11.cell 0
    have c1 : w11.cell? ⟨p, 1, none⟩ = some (.int .i64 r.op) := B11.cell 1
    have c2 : w11.cell? ⟨p, 2, none⟩ = some (.int .i64 r.at_) := B11.cell 2
    have c3 : w11.cell? ⟨p, 3, none⟩ = some (.int .i64 r.fd) := B11.cell 3
    have c4 : w11.cell? ⟨p, 4, none⟩ = some (.int .i64 r.x.k) := B11.cell 4
    have c5 : w11.cell? ⟨p, 5, none⟩ = some (.int .i64 r.x.n) := B11.cell 5
    have c6 : w11.cell? ⟨p, 6, none⟩ = some (.int .i64 r.y.k) := B11.cell 6
    have c7 : w11.cell? ⟨p, 7, none⟩ = some (.int .i64 r.y.n) := B11.cell 7
    have c8 : w11.cell? ⟨p, 8, none⟩ = some (.bool hsh) := B11.cell 8
    have c9 : w11.cell? ⟨p, 9, none⟩ = some (.bool true) := B11.cell 9
    have c10 : w11.cell? ⟨p, 10, none⟩ = some (.bool hfx) := B11.cell 10
    have c11 : w11.cell? ⟨p, 11, none⟩ = some (.int .i64 hmr) := B11.cell 11
    have c12 : w11.cell? ⟨p, 12, none⟩ = some (.int .i64 31) := B11.cell 12
    have c13 : w11.cell? ⟨p, 13, none⟩ = some (.int .u64 v) := B11.cell 13
    have c14 : w11.cell? ⟨p, 14, none⟩ = some (.int .i64 a) := B11.cell 14
    have c15 : w11.cell? ⟨p, 15, none⟩ = some (xx) := B11.cell 15
    have c16 : w11.cell? ⟨p, 16, none⟩ = some (.bool true) := B11.cell 16
    have c17 : w11.cell? ⟨p, 17, none⟩ = some (.int .i64 oc) := B11.cell 17
    have c18 : w11.cell? ⟨p, 18, none⟩ = some (.int .i64 ov.k) := B11.cell 18
    have c19 : w11.cell? ⟨p, 19, none⟩ = some (.int .i64 ov.n) := B11.cell 19
    have c20 : w11.cell? ⟨p, 20, none⟩ = some (.bool oy) := B11.cell 20
    have cl := B11.lt
    have cz : ∀ i, w11.frozen? ⟨p, i, none⟩ = false := fun i => B11.free i
    go_wp2
    go_ret
    exact ⟨rfl, ⟨T11.mono (by omega), B11, O11⟩⟩
end Go.Proofs.YtpcoldpphihfmaaGreatDoor
