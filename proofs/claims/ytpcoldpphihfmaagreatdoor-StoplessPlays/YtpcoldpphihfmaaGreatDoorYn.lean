import Derived.Test.YtpcoldpphihfmaaGreatDoorYr
import Derived.Test.YtpcoldpphihfmaaGreatDoorYd
namespace Go.Proofs.YtpcoldpphihfmaaGreatDoor
set_option linter.unusedVariables false
set_option linter.unusedSimpArgs false
set_option maxRecDepth 100000
open Go.ChangeShapes Go.WideShapes Go.RowKit
open H.Plain (hw pS pC pN pM pG pT pL mv)
structure RCm (w0 w : World) (p : Nat) (F : List Nat) (x : Cw) : Prop where
 it : ∃ d : RC, Blk w0 w p 62 d.cells ∧ SimC w0 w d F x ∧ p ∉ F
section
variable {w0 w w' : World} {b y p : Nat} {s1 s2 s' : St} {N : Nat} {F G : List Nat} {x x' : Cw} {e : Ending}
theorem SimC.foot {d : RC} (S : SimC w0 w d F x) : FootR w0 w F := by
 cases x with
 | fin t o => obtain ⟨_, _, _, rfl⟩ := S; intro q hq; simp at hq
 | pl x => obtain ⟨h1, h2, px, F', rfl, h3, M⟩ := S; exact M.footR
 | dr t x => obtain ⟨h1, h2, px, F', rfl, h3, M⟩ := S; exact M.footR
 | hd q => obtain ⟨_, _, rfl, _⟩ := S; intro q hq; simp at hq
 | _ => obtain ⟨_, _, rfl, _⟩ := S; intro q hq; simp at hq
theorem SimC.oth {d : RC} (S : SimC w0 w d F x) (o : Oth G w w') (hd : ∀ q ∈ F, q ∉ G) : SimC w0 w' d F x := by
 cases x with
 | pl x =>
  obtain ⟨h1, h2, px, F', rfl, h3, M⟩ := S
  exact ⟨h1, h2, px, F', rfl, h3, M.oth o (hd px (by simp)) (fun q hq => hd q (by simp [hq]))⟩
 | dr t x =>
  obtain ⟨h1, h2, px, F', rfl, h3, M⟩ := S
  exact ⟨h1, h2, px, F', rfl, h3, M.oth o (hd px (by simp)) (fun q hq => hd q (by simp [hq]))⟩
 | _ => exact S
theorem RCm.oth (h : RCm w0 w p F x) (o : Oth G w w') (hp : p ∉ G) (hd : ∀ q ∈ F, q ∉ G) : RCm w0 w' p F x := by
 obtain ⟨d, B, S, hpF⟩ := h
 exact ⟨d, B.oth o hp, S.oth o hd, hpF⟩
theorem RCm.below (h : RCm w0 w p F x) (hb : Below w.heap.size w w') : RCm w0 w' p F x := h.oth (G := []) (Oth.below hb) (by simp) (by simp)
theorem RCm.lt (h : RCm w0 w p F x) : p < w.heap.size := by
 obtain ⟨d, B, _⟩ := h
 exact B.lt
theorem RCm.foot (h : RCm w0 w p F x) : Foot w0 w (p :: F) := by
 obtain ⟨d, B, S, hpF⟩ := h
 intro q hq
 simp only [List.mem_cons] at hq
 rcases hq with rfl | hq
 ·exact ⟨_, _, by decide, B⟩
 ·obtain ⟨T, cs, hT, B'⟩ := S.foot q hq
  exact ⟨T, cs, (show ∀ T ∈ RTs, T ∈ FTs by decide) T hT, B'⟩
theorem RCm.shown (h : RCm w0 w p F x) : w.cell? ⟨p, 19, none⟩ = some (.bool x.hit) := by
 obtain ⟨d, B, S, hpF⟩ := h
 have e : d.sh = x.hit := by
  cases x with
  | fin t o => exact S.2.1
  | _ => exact S.2.1
 rw [← e]
 exact B.cell 19
theorem Yo.out (Y : Yo w0 w b y p s1 s' N x' e w') (hlp : p < w.heap.size) : e = .returned (.bool x'.done) ∧ Two w0 w' b y s1 s' (N + 1) ∧ Oth [p] w w' ∧ ∃ F', RCm w0 w' p F' x' ∧ ∀ k ∈ F', k ∈ ([] : List Nat) ∨ w.heap.size ≤ k := by
 obtain ⟨he, d', T, F', S, hF⟩ := Y
 exact ⟨he, T.two, T.oth, F', ⟨d', T.blk, S, fun hp => absurd (hF p hp) (by omega)⟩, fun k hk => .inr (hF k hk)⟩
theorem xC (h : Two w0 w b y s1 s2 N) (M : RCm w0 w p F x) (ok : x.Ok) (hN : N + 5 < 1000000) :
  Calls Tryz.prog 20 #[pt p, pt y] w fun e w' => e = .returned (.bool (x.next s2).done) ∧ Two w0 w' b y s1 (x.mem s2) (N + 1) ∧ Oth (p :: F) w w' ∧ ∃ F', RCm w0 w' p F' (x.next s2) ∧ ∀ k ∈ F', k ∈ F ∨ w.heap.size ≤ k := by
 obtain ⟨d, B, S, hpF⟩ := M
 have hlp := B.lt
 cases x with
 | fin t o =>
  obtain ⟨h1, h2, h3, rfl⟩ := S
  refine (ys0 h B h1).mono ?_
  rintro e w' ⟨rfl, rfl⟩
  exact ⟨rfl, h.mono (by omega), Oth.refl _ _, [], ⟨d, B, ⟨h1, h2, h3, rfl⟩, by simp⟩, by simp⟩
 | hd q => obtain ⟨h1, h2, rfl, I⟩ := S; exact (ys1 h B hN h1 I ok).mono fun e w' Y => Y.out hlp
 | a2 q wd => obtain ⟨h1, h2, rfl, I⟩ := S; exact (ys2 h B hN h1 I ok).mono fun e w' Y => Y.out hlp
 | a3 q wd => obtain ⟨h1, h2, rfl, I⟩ := S; exact (ys3 h B hN h1 I ok).mono fun e w' Y => Y.out hlp
 | a4 q wd w => obtain ⟨h1, h2, rfl, I, h4⟩ := S; exact (ys4 h B hN h1 I ⟨ok.1, ok.2.1⟩ h4 ok.2.2.1).mono fun e w' Y => Y.out hlp
 | a5 q wd w => obtain ⟨h1, h2, rfl, I, h4⟩ := S; exact (ys5 h B hN h1 I ⟨ok.1, ok.2.1⟩ h4 ok.2.2).mono fun e w' Y => Y.out hlp
 | a6 q wd st =>
  obtain ⟨h1, h2, rfl, I, h4⟩ := S
  rcases ok.2.2 with rfl | rfl
  ·exact (ys6a h B hN (h1.trans (if_pos rfl)) I ⟨ok.1, ok.2.1⟩ h4).mono fun e w' Y => Y.out hlp
  ·exact (ys6b h B hN (h1.trans (if_neg (by decide))) I ⟨ok.1, ok.2.1⟩ h4).mono fun e w' Y => Y.out hlp
 | a7 q wd st w => obtain ⟨h1, h2, rfl, I, h4, h5⟩ := S; exact (ys7 h B hN h1 I ⟨ok.1, ok.2.1⟩ h4 h5 ok.2.2.2.1).mono fun e w' Y => Y.out hlp
 | a9 q wd w => obtain ⟨h1, h2, rfl, I, h4⟩ := S; exact (ys9 h B hN h1 I ⟨ok.1, ok.2.1⟩ h4 ok.2.2.1).mono fun e w' Y => Y.out hlp
 | a11 q wd => obtain ⟨h1, h2, rfl, I⟩ := S; exact (ys11 h B hN h1 I ok).mono fun e w' Y => Y.out hlp
 | a12 q wd w => obtain ⟨h1, h2, rfl, I, h4⟩ := S; exact (ys12 h B hN h1 I ⟨ok.1, ok.2.1⟩ h4 ok.2.2.1).mono fun e w' Y => Y.out hlp
 | a13 q wd w l => obtain ⟨h1, h2, rfl, I, h4, h5⟩ := S; exact (ys13 h B hN h1 I ⟨ok.1, ok.2.1⟩ h4 ok.2.2.1 h5 ok.2.2.2.1).mono fun e w' Y => Y.out hlp
 | a14 q wd w => obtain ⟨h1, h2, rfl, I, h4⟩ := S; exact (ys14 h B hN h1 I ⟨ok.1, ok.2.1⟩ h4 ok.2.2.1).mono fun e w' Y => Y.out hlp
 | pl x =>
  obtain ⟨h1, h2, px, F', rfl, h3, M⟩ := S
  have hn : ∀ q ∈ px :: F', q ≠ p := fun q hq e => hpF (e ▸ hq)
  refine ys20 h B hN h1 h3 M hpF hn rfl rfl ?_ ?_
  ·intro hd w' t bl ot F2 M2 fr
   have en : (Cw.pl x).next s2 = .pl (x.next s2) := by simp only [Cw.next, Cw.onP, hd]; rfl
   rw [en]
   refine ⟨rfl, t, ot, px :: F2, ⟨_, bl, ⟨h1, rfl, px, F2, rfl, h3, M2⟩, ?_⟩, fun k hk => ?_⟩
   ·simp only [List.mem_cons, not_or]
    refine ⟨fun e => hpF (by simp [e]), fun h => ?_⟩
    rcases fr p h with h | h
    ·exact hpF (by simp [h])
    ·omega
   ·simp only [List.mem_cons] at hk ⊢
    rcases hk with rfl | hk
    ·exact .inl (.inl rfl)
    ·exact (fr k hk).imp .inr id
  ·intro hd w' t bl ot
   have en : (Cw.pl x).next s2 = .fin (x.next s2).hit (x.next s2).o := by simp only [Cw.next, Cw.onP, hd]; rfl
   rw [en]
   exact ⟨rfl, t, ot, [], ⟨_, bl, ⟨rfl, rfl, rfl, rfl⟩, by simp⟩, by simp⟩
 | dr t x =>
  obtain ⟨h1, h2, px, F', rfl, h3, M⟩ := S
  have hn : ∀ q ∈ px :: F', q ≠ p := fun q hq e => hpF (e ▸ hq)
  refine ys21 h B hN h1 h3 M hpF hn rfl rfl ?_ ?_
  ·intro hd w' tw bl ot F2 M2 fr
   have en : (Cw.dr t x).next s2 = .dr (x.next s2).hit (x.next s2) := by simp only [Cw.next, Cw.onD, hd]; rfl
   rw [en]
   refine ⟨rfl, tw, ot, px :: F2, ⟨_, bl, ⟨h1, rfl, px, F2, rfl, h3, M2⟩, ?_⟩, fun k hk => ?_⟩
   ·simp only [List.mem_cons, not_or]
    refine ⟨fun e => hpF (by simp [e]), fun h => ?_⟩
    rcases fr p h with h | h
    ·exact hpF (by simp [h])
    ·omega
   ·simp only [List.mem_cons] at hk ⊢
    rcases hk with rfl | hk
    ·exact .inl (.inl rfl)
    ·exact (fr k hk).imp .inr id
  ·intro hd w' tw bl ot
   have en : (Cw.dr t x).next s2 = .fin (x.next s2).hit (x.next s2).o := by simp only [Cw.next, Cw.onD, hd]; rfl
   rw [en]
   exact ⟨rfl, tw, ot, [], ⟨_, bl, ⟨rfl, rfl, rfl, rfl⟩, by simp⟩, by simp⟩
end
end Go.Proofs.YtpcoldpphihfmaaGreatDoor
namespace Go.Proofs.YtpcoldpphihfmaaGreatDoor
set_option linter.unusedVariables false
set_option linter.unusedSimpArgs false
set_option maxRecDepth 100000
open Go.ChangeShapes Go.WideShapes Go.RowKit
section
variable {w0 w w' : World} {p : Nat} {F : List Nat} {x : Cw}
theorem rc_res0 {d : RC} (B : Blk w0 w p 62 d.cells) (h : d.pc = 0) : Calls Tryz.prog 23 #[pt p] w fun e w' => e = .returned d.o.val ∧ Below w.heap.size w w' := by
 have c10 : w.cell? ⟨p, 10, none⟩ = some (.int .i64 0) := h ▸ B.cell 10
 have c2 : w.cell? ⟨p, 20, none⟩ = some (.int .i64 d.o.c) := B.cell 20
 have c3 : w.cell? ⟨p, 21, none⟩ = some (.int .i64 d.o.v.k) := B.cell 21
 have c4 : w.cell? ⟨p, 22, none⟩ = some (.int .i64 d.o.v.n) := B.cell 22
 have c5 : w.cell? ⟨p, 23, none⟩ = some (.bool d.o.y) := B.cell 23
 have l := B.lt
 go_enter Tryz.func23, Tryz.ntmps23
 go_wp2
 exact bodyPost_ret (v := d.o.val) (by simp [results, Tryz.results23, go_sem, Ou.val]) rfl ⟨rfl, by go_grown⟩
theorem rc_res1 {d : RC} (B : Blk w0 w p 62 d.cells) (h : d.pc ≠ 0) : Calls Tryz.prog 23 #[pt p] w fun e w' => e = .returned Ou.zero.val ∧ Below w.heap.size w w' := by
 obtain ⟨pc, hpc⟩ : ∃ q, d.pc = q := ⟨_, rfl⟩
 have c10 : w.cell? ⟨p, 10, none⟩ = some (.int .i64 pc) := hpc ▸ B.cell 10
 have q : (pc != 0) = true := by rw [← hpc]; simpa using h
 have l := B.lt
 clear h hpc B
 go_enter Tryz.func23, Tryz.ntmps23
 go_wp2
 exact bodyPost_ret (v := Ou.zero.val) (by simp [results, Tryz.results23, go_sem, Ou.val, Ou.zero, Vl.zero]) rfl ⟨rfl, by go_grown⟩
theorem rCResult (M : RCm w0 w p F x) (ok : x.Ok) : Calls Tryz.prog 23 #[pt p] w fun e w' => e = .returned x.o.val ∧ Below w.heap.size w w' := by
 obtain ⟨d, B, S, hpF⟩ := M
 cases x with
 | fin t o => obtain ⟨h1, h2, rfl, h4⟩ := S; exact rc_res0 B h1
 | a6 q wd st => exact rc_res1 B (by rw [S.1]; split <;> decide)
 | _ => exact rc_res1 B (by rw [S.1]; decide)
end
section
set_option maxHeartbeats 3000000
theorem rNewC {w0 : World} (r : Rq) (e : En) (w : World) (hs : w0.heap.size ≤ w.heap.size) (hr : r.Ok) :
  Calls Tryz.prog 18 #[.agg #[.int .i64 r.op, .int .i64 r.at_, .int .i64 r.fd, .int .i64 r.x.k, .int .i64 r.x.n, .int .i64 r.y.k, .int .i64 r.y.n], .agg #[.int .i64 e.md, .int .i64 e.mr, .int .i64 e.al]] w fun e' w' => ∃ p F, e' = .returned (pt p) ∧ Below w.heap.size w w' ∧ w.heap.size ≤ p ∧ (∀ k ∈ F, w.heap.size ≤ k) ∧ RCm w0 w' p F (Cw.new r e) := by
 unfold Cw.new
 by_cases h5 : e.md < 5
 ·have q2 : decide (e.md < 5) = true := by simpa using h5
  have hop := hr.1
  rw [show (if r.at_ = 0 then Cw.fin false ⟨14, Vl.zero, false⟩ else if e.md < 5 then .pl (Sx.plain r e) else .hd ⟨r, decide (e.md < 7), e.md == 8⟩) = (if r.at_ = 0 then Cw.fin false ⟨14, Vl.zero, false⟩ else Cw.pl (Sx.plain r e)) by rw [if_pos h5]]
  clear h5
  obtain ⟨X, hX⟩ : ∃ X : Cw, (if r.at_ = 0 then Cw.fin false ⟨14, Vl.zero, false⟩ else Cw.pl (Sx.plain r e)) = X := ⟨_, rfl⟩
  rw [hX]
  have B0' : Blk w0 (((w.alloc (.cells #[.int .i64 r.op, .int .i64 r.at_, .int .i64 r.fd, .int .i64 r.x.k, .int .i64 r.x.n, .int .i64 r.y.k, .int .i64 r.y.n] 48)).alloc (.cells #[.int .i64 e.md, .int .i64 e.mr, .int .i64 e.al] 51)).alloc (.cells (RC.mk r e 1 0 0 0 0 0 0 (.pointer none) (.pointer none) false Ou.zero).cells 62)) (w.heap.size + 1 + 1) 62 (RC.mk r e 1 0 0 0 0 0 0 (.pointer none) (.pointer none) false Ou.zero).cells := ⟨newAt (by simp), by omega, by decide⟩
  have H0' : Below w.heap.size w (((w.alloc (.cells #[.int .i64 r.op, .int .i64 r.at_, .int .i64 r.fd, .int .i64 r.x.k, .int .i64 r.x.n, .int .i64 r.y.k, .int .i64 r.y.n] 48)).alloc (.cells #[.int .i64 e.md, .int .i64 e.mr, .int .i64 e.al] 51)).alloc (.cells (RC.mk r e 1 0 0 0 0 0 0 (.pointer none) (.pointer none) false Ou.zero).cells 62)) := by go_grown
  go_enter Tryz.func18, Tryz.ntmps18
  go_upto_region 3 with (fail)
  have R1 : Blk w0 (((w.alloc (.cells #[.int .i64 r.op, .int .i64 r.at_, .int .i64 r.fd, .int .i64 r.x.k, .int .i64 r.x.n, .int .i64 r.y.k, .int .i64 r.y.n] 48)).alloc (.cells #[.int .i64 e.md, .int .i64 e.mr, .int .i64 e.al] 51)).alloc (.cells (RC.mk r e 1 0 0 0 0 0 0 (.pointer none) (.pointer none) false Ou.zero).cells 62)) (w.heap.size) 48 #[.int .i64 r.op, .int .i64 r.at_, .int .i64 r.fd, .int .i64 r.x.k, .int .i64 r.x.n, .int .i64 r.y.k, .int .i64 r.y.n] := ⟨oldAt (oldAt (newAt (by simp))), by omega, by decide⟩
  have E1 : Blk w0 (((w.alloc (.cells #[.int .i64 r.op, .int .i64 r.at_, .int .i64 r.fd, .int .i64 r.x.k, .int .i64 r.x.n, .int .i64 r.y.k, .int .i64 r.y.n] 48)).alloc (.cells #[.int .i64 e.md, .int .i64 e.mr, .int .i64 e.al] 51)).alloc (.cells (RC.mk r e 1 0 0 0 0 0 0 (.pointer none) (.pointer none) false Ou.zero).cells 62)) (w.heap.size + 1) 51 #[.int .i64 e.md, .int .i64 e.mr, .int .i64 e.al] := ⟨oldAt (newAt (by simp)), by omega, by decide⟩
  unfold RC.cells at B0' H0' R1 E1
  simp only [Vl.zero, Ou.zero] at B0' H0' R1 E1
  generalize ((w.alloc _).alloc _).alloc _ = w1 at B0' H0' R1 E1 ⊢
  have hp1 : w.heap.size ≤ w.heap.size + 1 + 1 := by omega
  generalize w.heap.size + 1 + 1 = p at B0' hp1 ⊢
  generalize w.heap.size + 1 = eb at E1 ⊢
  have B1 : Blk w0 w1 p 62 (RC.mk r e 1 0 0 0 0 0 0 (.pointer none) (.pointer none) false Ou.zero).cells := B0'
  clear B0'
  have r0 : w1.cell? ⟨w.heap.size, 0, none⟩ = some (.int .i64 r.op) := R1.cell 0
  have r1 : w1.cell? ⟨w.heap.size, 1, none⟩ = some (.int .i64 r.at_) := R1.cell 1
  have r2 : w1.cell? ⟨w.heap.size, 2, none⟩ = some (.int .i64 r.fd) := R1.cell 2
  have r3 : w1.cell? ⟨w.heap.size, 3, none⟩ = some (.int .i64 r.x.k) := R1.cell 3
  have r4 : w1.cell? ⟨w.heap.size, 4, none⟩ = some (.int .i64 r.x.n) := R1.cell 4
  have r5 : w1.cell? ⟨w.heap.size, 5, none⟩ = some (.int .i64 r.y.k) := R1.cell 5
  have r6 : w1.cell? ⟨w.heap.size, 6, none⟩ = some (.int .i64 r.y.n) := R1.cell 6
  have v0 : w1.cell? ⟨eb, 0, none⟩ = some (.int .i64 e.md) := E1.cell 0
  have v1 : w1.cell? ⟨eb, 1, none⟩ = some (.int .i64 e.mr) := E1.cell 1
  have v2 : w1.cell? ⟨eb, 2, none⟩ = some (.int .i64 e.al) := E1.cell 2
  have l1 := R1.lt
  have l2 := E1.lt
  go_upto_region 4 with (go_at_call 47; refine (rNewPlain r e _).mono ?_; rintro e' w2 ⟨px, rfl, M⟩; have P2 := M.blk' (w0 := w0) (Nat.le_trans hs H0'.size) (by decide); have B2 := B1.below M.bel; have H2 := bel_trans H0' M.bel; have npx : px ≠ p := (by have := M.new; have := B1.lt; omega); have hpx : w.heap.size ≤ px := (by have := M.new; have := H0'.size; omega); have c14 : w2.cell? ⟨p, 17, none⟩ = some (.pointer none) := B2.cell 17; have f14 := B2.free 17; clear M)
  have K3 : Kept [p] w2 (w2.setCell ⟨p, 17, none⟩ (pt px)) := Kept.setCell [p] _ _ _ (by simp)
  have B3 := B2.r_x (pt px)
  have P3 := P2.oth (Oth.kept K3) (by simpa using npx)
  have H3 := H2.trans (K3.below (fun j hj => by simp at hj; subst hj; exact hp1) H2.size)
  clear c14 f14 r0 r1 r2 r3 r4 r5 r6 v0 v1 v2 l1 l2 K3
  generalize w2.setCell ⟨p, 17, none⟩ (pt px) = w3 at B3 P3 H3 ⊢
  have c10 : w3.cell? ⟨p, 10, none⟩ = some (.int .i64 1) := B3.cell 10
  have f10 := B3.free 10
  go_upto_region 5 with (fail)
  have K4 : Kept [p] w3 (w3.setCell ⟨p, 10, none⟩ (.int .i64 20)) := Kept.setCell [p] _ _ _ (by simp)
  have B4 := B3.r_pc 20
  have P4 := P3.oth (Oth.kept K4) (by simpa using npx)
  have H4 := H3.trans (K4.below (fun j hj => by simp at hj; subst hj; exact hp1) H3.size)
  clear c10 f10 K4
  generalize w3.setCell ⟨p, 10, none⟩ (.int .i64 20) = w4 at B4 P4 H4 ⊢
  have M4 : RPm w0 w4 px [] (Sx.plain r e) := rpm_new P4 hop hr.2.1 (by have := hr.2.2.1; omega)
  have c14 : w4.cell? ⟨p, 17, none⟩ = some (pt px) := B4.cell 17
  obtain ⟨oo, hoo⟩ : ∃ o, (Sx.plain r e).o = o := ⟨_, rfl⟩
  go_upto_region 6 with (go_at_call 48; refine (rPResult M4).mono ?_; rintro e' w5 ⟨rfl, hb5⟩; rw [hoo]; unfold Ou.val; have B5 := B4.below hb5; have P5 := P4.below hb5; have H5 := bel_trans H4 hb5; have z17 : w5.cell? ⟨p, 20, none⟩ = some (.int .i64 0) := B5.cell 20; have z18 : w5.cell? ⟨p, 21, none⟩ = some (.int .i64 0) := B5.cell 21; have z19 : w5.cell? ⟨p, 22, none⟩ = some (.int .i64 0) := B5.cell 22; have z20 : w5.cell? ⟨p, 23, none⟩ = some (.bool false) := B5.cell 23; have f17 := B5.free 20; have f18 := B5.free 21; have f19 := B5.free 22; have f20 := B5.free 23)
  have K6 := kept4 w5 p 20 21 22 23 (.int .i64 oo.c) (.int .i64 oo.v.k) (.int .i64 oo.v.n) (.bool oo.y)
  have B6 := B5.r_o oo
  have P6 := P5.oth (Oth.kept K6) (by simpa using npx)
  have H6 := H5.trans (K6.below (fun j hj => by simp at hj; subst hj; exact hp1) H5.size)
  clear c14 z17 z18 z19 z20 f17 f18 f19 f20 K6
  generalize (((w5.setCell ⟨p, 20, none⟩ (.int .i64 oo.c)).setCell ⟨p, 21, none⟩ (.int .i64 oo.v.k)).setCell ⟨p, 22, none⟩ (.int .i64 oo.v.n)).setCell ⟨p, 23, none⟩ (.bool oo.y) = w6 at B6 P6 H6 ⊢
  have c14 : w6.cell? ⟨p, 17, none⟩ = some (pt px) := B6.cell 17
  have c10 : w6.cell? ⟨p, 10, none⟩ = some (.int .i64 20) := B6.cell 10
  have f10 := B6.free 10
  have M6' : RPm w0 w6 px [] (Sx.plain r e) := rpm_new P6 hop hr.2.1 (by have := hr.2.2.1; omega)
  by_cases h : r.at_ = 0
  ·have hd : (RP.new r e).pc = 0 := by unfold RP.new; rw [if_pos h]
   have x10 : w6.cell? ⟨px, 10, none⟩ = some (.int .i64 0) := hd ▸ P6.cell 10
   rw [if_pos h] at hX
   subst hX
   have hpl : Hid (oo = (⟨14, Vl.zero, false⟩ : Ou)) := show oo = _ by rw [← hoo]; unfold Sx.plain; rw [if_pos h]
   clear h hd hoo
   go_wp2
   go_ret
   have K7 : Kept [p] w6 (w6.setCell ⟨p, 10, none⟩ (.int .i64 0)) := Kept.setCell [p] _ _ _ (by simp)
   have fin : RCm w0 (w6.setCell ⟨p, 10, none⟩ (.int .i64 0)) p [] (.fin false ⟨14, Vl.zero, false⟩) := ⟨_, B6.r_pc 0, ⟨rfl, rfl, hpl, rfl⟩, by simp⟩
   have bel := H6.trans (K7.below (fun j hj => by simp at hj; subst hj; exact hp1) H6.size)
   first
    | exact ⟨p, [], rfl, bel, hp1, by simp, fin⟩
    | exact ⟨p, rfl, bel, hp1, [], by simp, fin⟩
  ·have hd : (RP.new r e).pc = 1 := by unfold RP.new; rw [if_neg h]
   have x10 : w6.cell? ⟨px, 10, none⟩ = some (.int .i64 1) := hd ▸ P6.cell 10
   have hh : (Sx.plain r e).hit = false := by unfold Sx.plain; rw [if_neg h]
   rw [if_neg h] at hX
   subst hX
   clear h hd
   go_wp2
   go_ret
   have fin : RCm w0 w6 p [px] (.pl (Sx.plain r e)) := ⟨_, B6, ⟨rfl, hh.symm, px, [], rfl, rfl, M6'⟩, by simpa using Ne.symm npx⟩
   first
    | exact ⟨p, [px], rfl, H6, hp1, by simpa using hpx, fin⟩
    | exact ⟨p, rfl, H6, hp1, [px], by simpa using hpx, fin⟩
 ·have q2 : decide (e.md < 5) = false := by simpa using h5
  by_cases h : r.at_ = 0
  ·rw [if_pos h]
   have q : (r.at_ == 0) = true := by simp [h]
   clear h h5
   go_enter Tryz.func18, Tryz.ntmps18
   go_wp2
   go_ret
   refine ⟨_, [], rfl, by go_grown, by first | omega | (simp; omega) | simp, by simp, ⟨RC.mk r e 0 0 0 0 0 0 0 (.pointer none) (.pointer none) false ⟨14, Vl.zero, false⟩, ⟨by first | exact newAt (by simp) | exact newAt rfl, by first | omega | (simp; omega), by decide⟩, ⟨rfl, rfl, rfl, rfl⟩, by simp⟩⟩
  ·rw [if_neg h, if_neg h5]
   have q : (r.at_ == 0) = false := by simpa using h
   clear h h5
   go_enter Tryz.func18, Tryz.ntmps18
   go_wp2
   go_ret
   exact ⟨_, [], rfl, by go_grown, by first | omega | (simp; omega) | simp, by simp, ⟨RC.mk r e 1 0 0 0 0 0 0 (.pointer none) (.pointer none) false Ou.zero, ⟨by first | exact newAt (by simp) | exact newAt rfl, by first | omega | (simp; omega), by decide⟩, ⟨rfl, rfl, rfl, ⟨rfl, rfl, rfl, rfl⟩⟩, by simp⟩⟩
end
end Go.Proofs.YtpcoldpphihfmaaGreatDoor
