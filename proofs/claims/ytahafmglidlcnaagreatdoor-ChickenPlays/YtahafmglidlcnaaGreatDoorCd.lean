/-
  The small functions of layer 13; a machine beneath is begun, and followed.
-/
import Derived.Test.YtahafmglidlcnaaGreatDoorDeq
import Derived.Laws.StructEq
import Derived.Test.YtahafmglidlcnaaGreatDoorCe
import Derived.Test.YtahafmglidlcnaaGreatDoorD2
import Derived.Test.YtahafmglidlcnaaGreatDoorDs3
import Derived.Test.YtahafmglidlcnaaGreatDoorHand
import Derived.Deep.Cut
namespace Go.Proofs.YtahafmglidlcnaaGreatDoor
set_option linter.unusedVariables false
set_option maxRecDepth 100000
open Go.ChangeShapes Go.WideShapes Go.ChangeAt Go.RowKit

theorem fOut1 (a b c : Int) (d : Bool) (w : World) : (Instr.field 60 (.agg #[.int .i64 a, .int .i64 b, .int .i64 c, .bool d]) 1).run Tryz.prog w = .ok (.agg #[.int .i64 b, .int .i64 c]) w := by kernel_rfl
theorem fVal1 (a b : Int) (w : World) : (Instr.field 38 (.agg #[.int .i64 a, .int .i64 b]) 1).run Tryz.prog w = .ok (.int .i64 b) w := by kernel_rfl
end Go.Proofs.YtahafmglidlcnaaGreatDoor

namespace Go.Proofs.YtahafmglidlcnaaGreatDoor
set_option linter.unusedVariables false
set_option linter.unusedSimpArgs false
set_option maxRecDepth 100000
open Go.ChangeShapes Go.WideShapes Go.RowKit
open H.Plain (hw pS pC pN pM pG pT pL mv)

section
variable {ow : Bool} {w0 w w' : World} {b y p : Nat} {s1 s2 : St} {N : Nat} {a : Ax}
theorem tLoad (h : TwoT ow w0 w b y s1 s2 N) (hN : N < 1000000) (a : Int) :
    Calls Tryz.prog 21 #[pt b, .int .i64 a] w fun e w' => e = .returned (.int .u64 (s1.got a)) ∧ TwoT ow w0 w' b y (s1.load a) s2 (N + 1) ∧ Oth [] w w' := by
  have ht := h.top1
  have hc : s1.c < 1000000 := by omega
  have f := h.fit1
  have r := h.rng1
  obtain ⟨L, rfl, A, k⟩ := h.step1
  refine (cLoad A f hc a).mono ?_
  rintro e w' ⟨rfl, L', A', g⟩
  exact ⟨rfl, k A' g (f.load hc a) (r.load a) (by rw [St.c_load]; omega) (by omega)⟩
theorem tCAS (h : TwoT ow w0 w b y s1 s2 N) (hN : N < 1000000) (a o : Int) {x : Int} (hx : U64 x) :
    Calls Tryz.prog 37 #[pt b, .int .i64 a, .int .u64 o, .int .u64 x] w fun e w' => e = .returned (.bool (s1.ok1 a o)) ∧ TwoT ow w0 w' b y (s1.cas a o x) s2 (N + 1) ∧ Oth [] w w' := by
  have ht := h.top1
  have hc : s1.c < 1000000 := by omega
  have f := h.fit1
  have r := h.rng1
  obtain ⟨L, rfl, A, k⟩ := h.step1
  refine (cCAS A f hc a o x).mono ?_
  rintro e w' ⟨rfl, L', A', g⟩
  exact ⟨rfl, k A' g (f.cas hc a o x) (r.cas a o hx) (by rw [St.c_cas]; omega) (by omega)⟩
theorem Oth.drop {F : List Nat} {n : Nat} (o : Oth (n :: F) w w') (h : w.heap.size ≤ n) : Oth F w w' :=
  ⟨o.size, fun k cs T fz hF hT hk => o.blk k cs T fz (by simp only [List.mem_cons, not_or]; exact ⟨fun e => by have := lt_of_block hk; omega, hF⟩) hT hk⟩
theorem Blk.s_pc (B : Blk w0 w p 95 a.cells) (v : Int) : Blk w0 (w.setCell ⟨p, 11, none⟩ (.int .i64 v)) p 95 ({ a with pc := v } : Ax).cells := B.set 11 _
theorem Blk.s_z (B : Blk w0 w p 95 a.cells) (v : Int) : Blk w0 (w.setCell ⟨p, 12, none⟩ (.int .u64 v)) p 95 ({ a with z := v } : Ax).cells := B.set 12 _
theorem Blk.s_g (B : Blk w0 w p 95 a.cells) (v : Int) : Blk w0 (w.setCell ⟨p, 13, none⟩ (.int .u64 v)) p 95 ({ a with g := v } : Ax).cells := B.set 13 _
theorem Blk.s_hit (B : Blk w0 w p 95 a.cells) (v : Bool) : Blk w0 (w.setCell ⟨p, 26, none⟩ (.bool v)) p 95 ({ a with hit := v } : Ax).cells := B.set 26 _
theorem Blk.s_oc (B : Blk w0 w p 95 a.cells) (v : Int) : Blk w0 (w.setCell ⟨p, 27, none⟩ (.int .i64 v)) p 95 ({ a with o := ⟨v, a.o.v, a.o.y⟩ } : Ax).cells := B.set 27 _
theorem Blk.s_ov (B : Blk w0 w p 95 a.cells) (v : Vl) : Blk w0 ((w.setCell ⟨p, 28, none⟩ (.int .i64 v.k)).setCell ⟨p, 29, none⟩ (.int .i64 v.n)) p 95 ({ a with o := ⟨a.o.c, v, a.o.y⟩ } : Ax).cells := (B.set 28 _).set 29 _
theorem Blk.s_o (B : Blk w0 w p 95 a.cells) (v : Ou) : Blk w0 ((((w.setCell ⟨p, 27, none⟩ (.int .i64 v.c)).setCell ⟨p, 28, none⟩ (.int .i64 v.v.k)).setCell ⟨p, 29, none⟩ (.int .i64 v.v.n)).setCell ⟨p, 30, none⟩ (.bool v.y)) p 95 ({ a with o := v } : Ax).cells := (((B.set 27 _).set 28 _).set 29 _).set 30 _
theorem cBehind (c : w.cell? ⟨p, 0, none⟩ = some (.int .i64 a.r.op)) : Calls Tryz.prog 35 #[pt p] w fun e w' => e = .returned (.int .i64 (if a.r.op = 1 then 2 else 4)) ∧ w' = w := by
  by_cases h : a.r.op = 1
  · rw [if_pos h]
    rw [h] at c
    go_enter Tryz.func35, Tryz.ntmps35
    go_wp2
    go_ret
    exact ⟨rfl, rfl⟩
  · rw [if_neg h]
    have q : (a.r.op == 1) = false := by simpa using h
    clear h
    go_enter Tryz.func35, Tryz.ntmps35
    go_wp2
    go_ret
    exact ⟨rfl, rfl⟩
theorem cUntag (z : Int) (hz : U64 z) (W : H.Wid w) : Calls Tryz.prog 38 #[.int .u64 z] w fun e w' => e = .returned (.int .u64 (untag z)) ∧ Below w.heap.size w w' := by
  unfold untag
  obtain ⟨q0, e0⟩ : ∃ q, pS z = q := ⟨_, rfl⟩
  obtain ⟨q1, e1⟩ : ∃ q, pC z = q := ⟨_, rfl⟩
  obtain ⟨q2, e2⟩ : ∃ q, pN z = q := ⟨_, rfl⟩
  obtain ⟨q3, e3⟩ : ∃ q, pM z = q := ⟨_, rfl⟩
  obtain ⟨q4, e4⟩ : ∃ q, pG z = q := ⟨_, rfl⟩
  obtain ⟨q5, e5⟩ : ∃ q, pT z = q := ⟨_, rfl⟩
  obtain ⟨q6, e6⟩ : ∃ q, pL z = q := ⟨_, rfl⟩
  rw [e0, e1, e2, e3, e4]
  go_enter Tryz.func38, Tryz.ntmps38
  go_wp2_with (first
    | (go_at_call 34; refine (H.cOf z hz.1 hz.2 _ (W.on (by go_grown))).mono ?_; rintro e w1 ⟨rfl, hw1⟩; rw [e0, e1, e2, e3, e4, e5, e6] at hw1 ⊢; have hb1 : Below w.heap.size w w1 := (by rw [hw1]; go_grown); have hs1 := hb1.size; clear hw1)
    | (go_at_call 57; refine (H.cWord q0 q1 q2 q3 q4 0 0 _ (W.on (by go_grown))).mono ?_; rintro e w2 ⟨rfl, x2, hw2⟩; have hb2 : Below w.heap.size w w2 := (by rw [hw2]; go_grown); clear hw2))
  go_ret
  exact ⟨rfl, hb2⟩
end
theorem rq_cells {w0 w : World} {p : Nat} {a : Ax} (B : Blk w0 w p 95 a.cells) : w.cell? ⟨p, 0, none⟩ = some (.int .i64 a.r.op) ∧ w.cell? ⟨p, 1, none⟩ = some (.int .i64 a.r.at_) ∧ w.cell? ⟨p, 2, none⟩ = some (.int .i64 a.r.fd) ∧ w.cell? ⟨p, 3, none⟩ = some (.int .i64 a.r.x.k) ∧ w.cell? ⟨p, 4, none⟩ = some (.int .i64 a.r.x.n) ∧ w.cell? ⟨p, 5, none⟩ = some (.int .i64 a.r.y.k) ∧ w.cell? ⟨p, 6, none⟩ = some (.int .i64 a.r.y.n) ∧ w.cell? ⟨p, 7, none⟩ = some (.bool a.h.sh) ∧ w.cell? ⟨p, 8, none⟩ = some (.bool a.h.ca) ∧ w.cell? ⟨p, 9, none⟩ = some (.bool a.h.fx) ∧ w.cell? ⟨p, 10, none⟩ = some (.int .i64 a.h.mr) := ⟨B.cell 0, B.cell 1, B.cell 2, B.cell 3, B.cell 4, B.cell 5, B.cell 6, B.cell 7, B.cell 8, B.cell 9, B.cell 10⟩
theorem Blk.put6D {w0 w : World} {p : Nat} {a : Ax} (B : Blk w0 w p 95 a.cells) (x : Sx) (v : Value) : Blk w0 (put6W w p 20 v (.bool x.hit) (.int .i64 x.o.c) (.int .i64 x.o.v.k) (.int .i64 x.o.v.n) (.bool x.o.y)) p 95 ({ a with d := x, vd := v } : Ax).cells :=
  cellsD a x v ▸ (((((B.set 20 _).set 21 _).set 22 _).set 23 _).set 24 _).set 25 _
section
set_option maxHeartbeats 2000000
theorem cEnter {w0 w : World} {p : Nat} {a : Ax} {base : Int} (B : Blk w0 w p 95 a.cells) (hr : a.r.Ok) (h0 : 0 ≤ base) (h1 : base < 4096) :
    Calls Tryz.prog 40 #[pt p, .int .i64 base] w fun e w' => e = .returned (.bool false) ∧ Kept [p] w w' ∧ ∃ v, Blk w0 w' p 95 ({ a with pc := 6, d := (Sx.new (base + 1 + a.r.fd) a.r a.h), vd := v } : Ax).cells ∧ RepO w' (Sx.new (base + 1 + a.r.fd) a.r a.h).k v := by
  obtain ⟨⟨op, at_, fd, ⟨xk, xn⟩, ⟨yk, yn⟩⟩, ⟨sh, ca, fx, mr⟩, pc, z, g, ap, vp, ad, vd, hit, ao⟩ := a
  obtain ⟨hop, h2, h3, h4, h5⟩ := hr
  simp only at hop h2 h3 h4 h5
  obtain ⟨f, hf⟩ : ∃ f, base + 1 + fd = f := ⟨_, rfl⟩
  simp only [hf]
  have c0 : w.cell? ⟨p, 0, none⟩ = some (.int .i64 op) := B.cell 0
  have c11 : w.cell? ⟨p, 11, none⟩ = some (.int .i64 pc) := B.cell 11
  have f11 := B.free 11
  have B1 := B.s_pc 0
  have K1 : Kept [p] w (w.setCell ⟨p, 11, none⟩ (.int .i64 0)) := Kept.setCell [p] _ _ _ (by simp)
  rcases hop with rfl | rfl | rfl
  · go_enter Tryz.func40, Tryz.ntmps40
    go_upto_region 2 with (fail)
    generalize w.setCell ⟨p, 11, none⟩ (.int .i64 0) = w1 at B1 K1 ⊢
    clear c0 c11 f11
    have c0 : w1.cell? ⟨p, 0, none⟩ = some (.int .i64 1) := B1.cell 0
    go_upto_region 6 with (fail)
    clear c0
    have hbd : Below w1.heap.size w1 w1.drew := (Below.refl _ _).drew
    have Bd := B1.below hbd
    have Kd := K1.trans (Kept.of_below (F := [p]) hbd) (fun _ h => .inl h)
    refine wp_region_noPanic ?_
    refine wp_region_held_drew (S := fun w' => w'.cell? ⟨p, 0, none⟩ = some (.int .i64 1) ∧ w'.cell? ⟨p, 1, none⟩ = some (.int .i64 at_) ∧ w'.cell? ⟨p, 2, none⟩ = some (.int .i64 fd) ∧ w'.cell? ⟨p, 3, none⟩ = some (.int .i64 xk) ∧ w'.cell? ⟨p, 4, none⟩ = some (.int .i64 xn) ∧ w'.cell? ⟨p, 5, none⟩ = some (.int .i64 yk) ∧ w'.cell? ⟨p, 6, none⟩ = some (.int .i64 yn) ∧ w'.cell? ⟨p, 7, none⟩ = some (.bool sh) ∧ w'.cell? ⟨p, 8, none⟩ = some (.bool ca) ∧ w'.cell? ⟨p, 9, none⟩ = some (.bool fx) ∧ w'.cell? ⟨p, 10, none⟩ = some (.int .i64 mr)) (by kernel_rfl) (rq_cells Bd) (fun hHeld => ?_)
    refine tkH (i := 0) 17 (pt p) rfl rfl ?_ ?_
    · intro w hSw; (try dsimp only at hSw); go_simp
    simp only [sA1, sA2, sA3]
    refine tkH (i := 1) 18 (.int .i64 base) rfl rfl ?_ ?_
    · intro w hSw; (try dsimp only at hSw); go_simp
    simp only [sA1, sA2, sA3]
    refine tkH (i := 2) 19 (pt p) rfl rfl ?_ ?_
    · intro w hSw; (try dsimp only at hSw); go_simp
    simp only [sA1, sA2, sA3]
    refine tkH (i := 3) 20 (pt p) rfl rfl ?_ ?_
    · intro w hSw; (try dsimp only at hSw); go_simp
    simp only [sA1, sA2, sA3]
    refine tkH (i := 4) 21 (pt p) rfl rfl ?_ ?_
    · intro w hSw; (try dsimp only at hSw); go_simp
    simp only [sA1, sA2, sA3]
    refine tkH (i := 5) 22 (.agg #[.int .i64 1, .int .i64 at_, .int .i64 fd, .int .i64 xk, .int .i64 xn, .int .i64 yk, .int .i64 yn]) rfl rfl ?_ ?_
    · intro w hSw; (try dsimp only at hSw); go_simp
    simp only [sA1, sA2, sA3]
    refine tkH (i := 6) 23 (pt p) rfl rfl ?_ ?_
    · intro w hSw; (try dsimp only at hSw); go_simp
    simp only [sA1, sA2, sA3]
    refine tkH (i := 7) 24 (pt p) rfl rfl ?_ ?_
    · intro w hSw; (try dsimp only at hSw); go_simp
    simp only [sA1, sA2, sA3]
    refine tkH (i := 8) 25 (.pointer (some ⟨p, 7, none⟩)) rfl rfl ?_ ?_
    · intro w hSw; (try dsimp only at hSw); go_simp
    simp only [sA1, sA2, sA3]
    refine tkH (i := 9) 26 (.agg #[.bool sh, .bool ca, .bool fx, .int .i64 mr]) rfl rfl ?_ ?_
    · intro w hSw; (try dsimp only at hSw); go_simp
    simp only [sA1, sA2, sA3]
    refine wpAnyH_ready (rs := [10]) (by kernel_rfl) (by simp) ?_
    refine AllReadyH.cons rfl (fun K hK => ?_) AllReadyH.nil
    go_simp
    refine (cNewDirect base (Rq.mk 1 at_ fd ⟨xk, xn⟩ ⟨yk, yn⟩) (Hw.mk sh ca fx mr) _ h0 h1 h4 h5).mono ?_
    rintro e w2 ⟨pd, rfl, M⟩
    rw [hf] at M
    have B2 := Bd.below M.bel
    have K2 := Kd.trans (Kept.of_below (F := [p]) M.bel) (fun _ h => .inl h)
    obtain ⟨v, eb, R2⟩ := M.blk
    obtain ⟨nf, cf, hv⟩ := (RepO.fn R2).resolve_left (fun e => by rw [e] at R2; simp [Sx.new, firstK, RepO] at R2; first | exact absurd R2.fn (by simp) | (obtain ⟨_, _, e'⟩ := Rep.fn R2; cases e'))
    rw [hv] at R2 eb
    have np : pd ≠ p := fun e => (by have := M.new; have := Bd.lt; omega)
    have x0 : w2.cell? ⟨pd, 0, none⟩ = some (.func (.func nf) #[] cf) := cell_of_row w2 _ _ _ _ _ eb
    have x1 : w2.cell? ⟨pd, 1, none⟩ = some (.bool false) := cell_of_row w2 _ _ _ _ _ eb
    have x2 : w2.cell? ⟨pd, 2, none⟩ = some (.int .i64 0) := cell_of_row w2 _ _ _ _ _ eb
    have x3 : w2.cell? ⟨pd, 3, none⟩ = some (.int .i64 0) := cell_of_row w2 _ _ _ _ _ eb
    have x4 : w2.cell? ⟨pd, 4, none⟩ = some (.int .i64 0) := cell_of_row w2 _ _ _ _ _ eb
    have x5 : w2.cell? ⟨pd, 5, none⟩ = some (.bool false) := cell_of_row w2 _ _ _ _ _ eb
    have zz20 : w2.cell? ⟨p, 20, none⟩ = some (vd) := B2.cell 20
    have zf20 := B2.free 20
    have zz21 : w2.cell? ⟨p, 21, none⟩ = some (.bool ad.hit) := B2.cell 21
    have zf21 := B2.free 21
    have zz22 : w2.cell? ⟨p, 22, none⟩ = some (.int .i64 ad.o.c) := B2.cell 22
    have zf22 := B2.free 22
    have zz23 : w2.cell? ⟨p, 23, none⟩ = some (.int .i64 ad.o.v.k) := B2.cell 23
    have zf23 := B2.free 23
    have zz24 : w2.cell? ⟨p, 24, none⟩ = some (.int .i64 ad.o.v.n) := B2.cell 24
    have zf24 := B2.free 24
    have zz25 : w2.cell? ⟨p, 25, none⟩ = some (.bool ad.o.y) := B2.cell 25
    have zf25 := B2.free 25
    clear M eb hv
    refine hK.out _ _ (rq_cells B2) (fun hHeld => ?_)
    clear hK K
    try simp only [Act.put, sA1, sA2, sA3]
    refine tkH (i := 11) 28 (pt pd) rfl rfl ?_ ?_
    · intro w hSw; (try dsimp only at hSw); go_simp
    simp only [sA1, sA2, sA3]
    refine wpAnyH_ready (rs := [12]) (by kernel_rfl) (by simp) ?_
    refine AllReadyH.cons rfl (fun K hK => ?_) AllReadyH.nil
    go_simp
    refine hK.out _ _ (rq_cells B2) (fun hHeld => ?_)
    clear hK K
    try simp only [Act.put, sA1, sA2, sA3]
    refine tkH (i := 13) 30 (pt p) rfl rfl ?_ ?_
    · intro w hSw; (try dsimp only at hSw); go_simp
    simp only [sA1, sA2, sA3]
    refine tkH (i := 14) 31 (.pointer (some ⟨p, 20, none⟩)) rfl rfl ?_ ?_
    · intro w hSw; (try dsimp only at hSw); go_simp
    simp only [sA1, sA2, sA3]
    have B3 := B2.put6D (Sx.new f (Rq.mk 1 at_ fd ⟨xk, xn⟩ ⟨yk, yn⟩) (Hw.mk sh ca fx mr)) (.func (.func nf) #[] cf)
    have K3 := K2.trans (Kept.put6at w2 p 20 (.func (.func nf) #[] cf) (.bool false) (.int .i64 0) (.int .i64 0) (.int .i64 0) (.bool false)) (fun _ h => .inl h)
    have R3 := R2.oth (F := [p]) (Oth.kept (Kept.put6at w2 p 20 (.func (.func nf) #[] cf) (.bool false) (.int .i64 0) (.int .i64 0) (.int .i64 0) (.bool false))) (fun q hq => by simp at hq; subst hq; exact ⟨_, _, _, B2.at_, by decide⟩)
    refine wpAnyH_ready (rs := [15]) (by kernel_rfl) (by simp) ?_
    refine AllReadyH.cons rfl (fun K hK => ?_) AllReadyH.nil
    go_simp
    refine hK.out _ _ (rq_cells B3) (fun hHeld => ?_)
    clear hK K
    try simp only [Act.put, sA1, sA2, sA3]
    refine wpAnyH_done (by kernel_rfl) ?_ _
    refine NoPanic.normal ?_
    unfold put6W at B3 K3 R3
    clear x0 x1 x2 x3 x4 x5 zz20 zz21 zz22 zz23 zz24 zz25 zf20 zf21 zf22 zf23 zf24 zf25
    simp only [Sx.new, Ou.zero, Vl.zero] at B3
    generalize (((((w2.setCell ⟨p, 20, none⟩ (.func (.func nf) #[] cf)).setCell ⟨p, 20 + 1, none⟩ (.bool false)).setCell ⟨p, 20 + 2, none⟩ (.int .i64 0)).setCell ⟨p, 20 + 3, none⟩ (.int .i64 0)).setCell ⟨p, 20 + 4, none⟩ (.int .i64 0)).setCell ⟨p, 20 + 5, none⟩ (.bool false) = w3 at B3 K3 R3 ⊢
    have c11 : w3.cell? ⟨p, 11, none⟩ = some (.int .i64 0) := B3.cell 11
    have f11 := B3.free 11
    have B4 := B3.s_pc 6
    go_wp2
    go_ret
    exact ⟨rfl, K3.trans (Kept.setCell [p] _ _ _ (by simp)) (fun _ h => .inl h), _, B4, R3.oth (F := [p]) (Oth.set _ _ _ _ (by simp)) (fun q hq => by simp at hq; subst hq; exact ⟨_, _, _, B3.at_, by decide⟩)⟩
  · go_enter Tryz.func40, Tryz.ntmps40
    go_upto_region 2 with (fail)
    generalize w.setCell ⟨p, 11, none⟩ (.int .i64 0) = w1 at B1 K1 ⊢
    clear c0 c11 f11
    have c0 : w1.cell? ⟨p, 0, none⟩ = some (.int .i64 2) := B1.cell 0
    go_upto_region 6 with (fail)
    clear c0
    have hbd : Below w1.heap.size w1 w1.drew := (Below.refl _ _).drew
    have Bd := B1.below hbd
    have Kd := K1.trans (Kept.of_below (F := [p]) hbd) (fun _ h => .inl h)
    refine wp_region_noPanic ?_
    refine wp_region_held_drew (S := fun w' => w'.cell? ⟨p, 0, none⟩ = some (.int .i64 2) ∧ w'.cell? ⟨p, 1, none⟩ = some (.int .i64 at_) ∧ w'.cell? ⟨p, 2, none⟩ = some (.int .i64 fd) ∧ w'.cell? ⟨p, 3, none⟩ = some (.int .i64 xk) ∧ w'.cell? ⟨p, 4, none⟩ = some (.int .i64 xn) ∧ w'.cell? ⟨p, 5, none⟩ = some (.int .i64 yk) ∧ w'.cell? ⟨p, 6, none⟩ = some (.int .i64 yn) ∧ w'.cell? ⟨p, 7, none⟩ = some (.bool sh) ∧ w'.cell? ⟨p, 8, none⟩ = some (.bool ca) ∧ w'.cell? ⟨p, 9, none⟩ = some (.bool fx) ∧ w'.cell? ⟨p, 10, none⟩ = some (.int .i64 mr)) (by kernel_rfl) (rq_cells Bd) (fun hHeld => ?_)
    refine tkH (i := 0) 17 (pt p) rfl rfl ?_ ?_
    · intro w hSw; (try dsimp only at hSw); go_simp
    simp only [sA1, sA2, sA3]
    refine tkH (i := 1) 18 (.int .i64 base) rfl rfl ?_ ?_
    · intro w hSw; (try dsimp only at hSw); go_simp
    simp only [sA1, sA2, sA3]
    refine tkH (i := 2) 19 (pt p) rfl rfl ?_ ?_
    · intro w hSw; (try dsimp only at hSw); go_simp
    simp only [sA1, sA2, sA3]
    refine tkH (i := 3) 20 (pt p) rfl rfl ?_ ?_
    · intro w hSw; (try dsimp only at hSw); go_simp
    simp only [sA1, sA2, sA3]
    refine tkH (i := 4) 21 (pt p) rfl rfl ?_ ?_
    · intro w hSw; (try dsimp only at hSw); go_simp
    simp only [sA1, sA2, sA3]
    refine tkH (i := 5) 22 (.agg #[.int .i64 2, .int .i64 at_, .int .i64 fd, .int .i64 xk, .int .i64 xn, .int .i64 yk, .int .i64 yn]) rfl rfl ?_ ?_
    · intro w hSw; (try dsimp only at hSw); go_simp
    simp only [sA1, sA2, sA3]
    refine tkH (i := 6) 23 (pt p) rfl rfl ?_ ?_
    · intro w hSw; (try dsimp only at hSw); go_simp
    simp only [sA1, sA2, sA3]
    refine tkH (i := 7) 24 (pt p) rfl rfl ?_ ?_
    · intro w hSw; (try dsimp only at hSw); go_simp
    simp only [sA1, sA2, sA3]
    refine tkH (i := 8) 25 (.pointer (some ⟨p, 7, none⟩)) rfl rfl ?_ ?_
    · intro w hSw; (try dsimp only at hSw); go_simp
    simp only [sA1, sA2, sA3]
    refine tkH (i := 9) 26 (.agg #[.bool sh, .bool ca, .bool fx, .int .i64 mr]) rfl rfl ?_ ?_
    · intro w hSw; (try dsimp only at hSw); go_simp
    simp only [sA1, sA2, sA3]
    refine wpAnyH_ready (rs := [10]) (by kernel_rfl) (by simp) ?_
    refine AllReadyH.cons rfl (fun K hK => ?_) AllReadyH.nil
    go_simp
    refine (cNewDirect base (Rq.mk 2 at_ fd ⟨xk, xn⟩ ⟨yk, yn⟩) (Hw.mk sh ca fx mr) _ h0 h1 h4 h5).mono ?_
    rintro e w2 ⟨pd, rfl, M⟩
    rw [hf] at M
    have B2 := Bd.below M.bel
    have K2 := Kd.trans (Kept.of_below (F := [p]) M.bel) (fun _ h => .inl h)
    obtain ⟨v, eb, R2⟩ := M.blk
    obtain ⟨nf, cf, hv⟩ := (RepO.fn R2).resolve_left (fun e => by rw [e] at R2; simp [Sx.new, firstK, RepO] at R2; first | exact absurd R2.fn (by simp) | (obtain ⟨_, _, e'⟩ := Rep.fn R2; cases e'))
    rw [hv] at R2 eb
    have np : pd ≠ p := fun e => (by have := M.new; have := Bd.lt; omega)
    have x0 : w2.cell? ⟨pd, 0, none⟩ = some (.func (.func nf) #[] cf) := cell_of_row w2 _ _ _ _ _ eb
    have x1 : w2.cell? ⟨pd, 1, none⟩ = some (.bool false) := cell_of_row w2 _ _ _ _ _ eb
    have x2 : w2.cell? ⟨pd, 2, none⟩ = some (.int .i64 0) := cell_of_row w2 _ _ _ _ _ eb
    have x3 : w2.cell? ⟨pd, 3, none⟩ = some (.int .i64 0) := cell_of_row w2 _ _ _ _ _ eb
    have x4 : w2.cell? ⟨pd, 4, none⟩ = some (.int .i64 0) := cell_of_row w2 _ _ _ _ _ eb
    have x5 : w2.cell? ⟨pd, 5, none⟩ = some (.bool false) := cell_of_row w2 _ _ _ _ _ eb
    have zz20 : w2.cell? ⟨p, 20, none⟩ = some (vd) := B2.cell 20
    have zf20 := B2.free 20
    have zz21 : w2.cell? ⟨p, 21, none⟩ = some (.bool ad.hit) := B2.cell 21
    have zf21 := B2.free 21
    have zz22 : w2.cell? ⟨p, 22, none⟩ = some (.int .i64 ad.o.c) := B2.cell 22
    have zf22 := B2.free 22
    have zz23 : w2.cell? ⟨p, 23, none⟩ = some (.int .i64 ad.o.v.k) := B2.cell 23
    have zf23 := B2.free 23
    have zz24 : w2.cell? ⟨p, 24, none⟩ = some (.int .i64 ad.o.v.n) := B2.cell 24
    have zf24 := B2.free 24
    have zz25 : w2.cell? ⟨p, 25, none⟩ = some (.bool ad.o.y) := B2.cell 25
    have zf25 := B2.free 25
    clear M eb hv
    refine hK.out _ _ (rq_cells B2) (fun hHeld => ?_)
    clear hK K
    try simp only [Act.put, sA1, sA2, sA3]
    refine tkH (i := 11) 28 (pt pd) rfl rfl ?_ ?_
    · intro w hSw; (try dsimp only at hSw); go_simp
    simp only [sA1, sA2, sA3]
    refine wpAnyH_ready (rs := [12]) (by kernel_rfl) (by simp) ?_
    refine AllReadyH.cons rfl (fun K hK => ?_) AllReadyH.nil
    go_simp
    refine hK.out _ _ (rq_cells B2) (fun hHeld => ?_)
    clear hK K
    try simp only [Act.put, sA1, sA2, sA3]
    refine tkH (i := 13) 30 (pt p) rfl rfl ?_ ?_
    · intro w hSw; (try dsimp only at hSw); go_simp
    simp only [sA1, sA2, sA3]
    refine tkH (i := 14) 31 (.pointer (some ⟨p, 20, none⟩)) rfl rfl ?_ ?_
    · intro w hSw; (try dsimp only at hSw); go_simp
    simp only [sA1, sA2, sA3]
    have B3 := B2.put6D (Sx.new f (Rq.mk 2 at_ fd ⟨xk, xn⟩ ⟨yk, yn⟩) (Hw.mk sh ca fx mr)) (.func (.func nf) #[] cf)
    have K3 := K2.trans (Kept.put6at w2 p 20 (.func (.func nf) #[] cf) (.bool false) (.int .i64 0) (.int .i64 0) (.int .i64 0) (.bool false)) (fun _ h => .inl h)
    have R3 := R2.oth (F := [p]) (Oth.kept (Kept.put6at w2 p 20 (.func (.func nf) #[] cf) (.bool false) (.int .i64 0) (.int .i64 0) (.int .i64 0) (.bool false))) (fun q hq => by simp at hq; subst hq; exact ⟨_, _, _, B2.at_, by decide⟩)
    refine wpAnyH_ready (rs := [15]) (by kernel_rfl) (by simp) ?_
    refine AllReadyH.cons rfl (fun K hK => ?_) AllReadyH.nil
    go_simp
    refine hK.out _ _ (rq_cells B3) (fun hHeld => ?_)
    clear hK K
    try simp only [Act.put, sA1, sA2, sA3]
    refine wpAnyH_done (by kernel_rfl) ?_ _
    refine NoPanic.normal ?_
    unfold put6W at B3 K3 R3
    clear x0 x1 x2 x3 x4 x5 zz20 zz21 zz22 zz23 zz24 zz25 zf20 zf21 zf22 zf23 zf24 zf25
    simp only [Sx.new, Ou.zero, Vl.zero] at B3
    generalize (((((w2.setCell ⟨p, 20, none⟩ (.func (.func nf) #[] cf)).setCell ⟨p, 20 + 1, none⟩ (.bool false)).setCell ⟨p, 20 + 2, none⟩ (.int .i64 0)).setCell ⟨p, 20 + 3, none⟩ (.int .i64 0)).setCell ⟨p, 20 + 4, none⟩ (.int .i64 0)).setCell ⟨p, 20 + 5, none⟩ (.bool false) = w3 at B3 K3 R3 ⊢
    have c11 : w3.cell? ⟨p, 11, none⟩ = some (.int .i64 0) := B3.cell 11
    have f11 := B3.free 11
    have B4 := B3.s_pc 6
    go_wp2
    go_ret
    exact ⟨rfl, K3.trans (Kept.setCell [p] _ _ _ (by simp)) (fun _ h => .inl h), _, B4, R3.oth (F := [p]) (Oth.set _ _ _ _ (by simp)) (fun q hq => by simp at hq; subst hq; exact ⟨_, _, _, B3.at_, by decide⟩)⟩
  · go_enter Tryz.func40, Tryz.ntmps40
    go_upto_region 2 with (fail)
    generalize w.setCell ⟨p, 11, none⟩ (.int .i64 0) = w1 at B1 K1 ⊢
    clear c0 c11 f11
    have c0 : w1.cell? ⟨p, 0, none⟩ = some (.int .i64 3) := B1.cell 0
    go_upto_region 6 with (fail)
    clear c0
    have hbd : Below w1.heap.size w1 w1.drew := (Below.refl _ _).drew
    have Bd := B1.below hbd
    have Kd := K1.trans (Kept.of_below (F := [p]) hbd) (fun _ h => .inl h)
    refine wp_region_noPanic ?_
    refine wp_region_held_drew (S := fun w' => w'.cell? ⟨p, 0, none⟩ = some (.int .i64 3) ∧ w'.cell? ⟨p, 1, none⟩ = some (.int .i64 at_) ∧ w'.cell? ⟨p, 2, none⟩ = some (.int .i64 fd) ∧ w'.cell? ⟨p, 3, none⟩ = some (.int .i64 xk) ∧ w'.cell? ⟨p, 4, none⟩ = some (.int .i64 xn) ∧ w'.cell? ⟨p, 5, none⟩ = some (.int .i64 yk) ∧ w'.cell? ⟨p, 6, none⟩ = some (.int .i64 yn) ∧ w'.cell? ⟨p, 7, none⟩ = some (.bool sh) ∧ w'.cell? ⟨p, 8, none⟩ = some (.bool ca) ∧ w'.cell? ⟨p, 9, none⟩ = some (.bool fx) ∧ w'.cell? ⟨p, 10, none⟩ = some (.int .i64 mr)) (by kernel_rfl) (rq_cells Bd) (fun hHeld => ?_)
    refine tkH (i := 0) 17 (pt p) rfl rfl ?_ ?_
    · intro w hSw; (try dsimp only at hSw); go_simp
    simp only [sA1, sA2, sA3]
    refine tkH (i := 1) 18 (.int .i64 base) rfl rfl ?_ ?_
    · intro w hSw; (try dsimp only at hSw); go_simp
    simp only [sA1, sA2, sA3]
    refine tkH (i := 2) 19 (pt p) rfl rfl ?_ ?_
    · intro w hSw; (try dsimp only at hSw); go_simp
    simp only [sA1, sA2, sA3]
    refine tkH (i := 3) 20 (pt p) rfl rfl ?_ ?_
    · intro w hSw; (try dsimp only at hSw); go_simp
    simp only [sA1, sA2, sA3]
    refine tkH (i := 4) 21 (pt p) rfl rfl ?_ ?_
    · intro w hSw; (try dsimp only at hSw); go_simp
    simp only [sA1, sA2, sA3]
    refine tkH (i := 5) 22 (.agg #[.int .i64 3, .int .i64 at_, .int .i64 fd, .int .i64 xk, .int .i64 xn, .int .i64 yk, .int .i64 yn]) rfl rfl ?_ ?_
    · intro w hSw; (try dsimp only at hSw); go_simp
    simp only [sA1, sA2, sA3]
    refine tkH (i := 6) 23 (pt p) rfl rfl ?_ ?_
    · intro w hSw; (try dsimp only at hSw); go_simp
    simp only [sA1, sA2, sA3]
    refine tkH (i := 7) 24 (pt p) rfl rfl ?_ ?_
    · intro w hSw; (try dsimp only at hSw); go_simp
    simp only [sA1, sA2, sA3]
    refine tkH (i := 8) 25 (.pointer (some ⟨p, 7, none⟩)) rfl rfl ?_ ?_
    · intro w hSw; (try dsimp only at hSw); go_simp
    simp only [sA1, sA2, sA3]
    refine tkH (i := 9) 26 (.agg #[.bool sh, .bool ca, .bool fx, .int .i64 mr]) rfl rfl ?_ ?_
    · intro w hSw; (try dsimp only at hSw); go_simp
    simp only [sA1, sA2, sA3]
    refine wpAnyH_ready (rs := [10]) (by kernel_rfl) (by simp) ?_
    refine AllReadyH.cons rfl (fun K hK => ?_) AllReadyH.nil
    go_simp
    refine (cNewDirect base (Rq.mk 3 at_ fd ⟨xk, xn⟩ ⟨yk, yn⟩) (Hw.mk sh ca fx mr) _ h0 h1 h4 h5).mono ?_
    rintro e w2 ⟨pd, rfl, M⟩
    rw [hf] at M
    have B2 := Bd.below M.bel
    have K2 := Kd.trans (Kept.of_below (F := [p]) M.bel) (fun _ h => .inl h)
    obtain ⟨v, eb, R2⟩ := M.blk
    obtain ⟨nf, cf, hv⟩ := (RepO.fn R2).resolve_left (fun e => by rw [e] at R2; simp [Sx.new, firstK, RepO] at R2; first | exact absurd R2.fn (by simp) | (obtain ⟨_, _, e'⟩ := Rep.fn R2; cases e'))
    rw [hv] at R2 eb
    have np : pd ≠ p := fun e => (by have := M.new; have := Bd.lt; omega)
    have x0 : w2.cell? ⟨pd, 0, none⟩ = some (.func (.func nf) #[] cf) := cell_of_row w2 _ _ _ _ _ eb
    have x1 : w2.cell? ⟨pd, 1, none⟩ = some (.bool false) := cell_of_row w2 _ _ _ _ _ eb
    have x2 : w2.cell? ⟨pd, 2, none⟩ = some (.int .i64 0) := cell_of_row w2 _ _ _ _ _ eb
    have x3 : w2.cell? ⟨pd, 3, none⟩ = some (.int .i64 0) := cell_of_row w2 _ _ _ _ _ eb
    have x4 : w2.cell? ⟨pd, 4, none⟩ = some (.int .i64 0) := cell_of_row w2 _ _ _ _ _ eb
    have x5 : w2.cell? ⟨pd, 5, none⟩ = some (.bool false) := cell_of_row w2 _ _ _ _ _ eb
    have zz20 : w2.cell? ⟨p, 20, none⟩ = some (vd) := B2.cell 20
    have zf20 := B2.free 20
    have zz21 : w2.cell? ⟨p, 21, none⟩ = some (.bool ad.hit) := B2.cell 21
    have zf21 := B2.free 21
    have zz22 : w2.cell? ⟨p, 22, none⟩ = some (.int .i64 ad.o.c) := B2.cell 22
    have zf22 := B2.free 22
    have zz23 : w2.cell? ⟨p, 23, none⟩ = some (.int .i64 ad.o.v.k) := B2.cell 23
    have zf23 := B2.free 23
    have zz24 : w2.cell? ⟨p, 24, none⟩ = some (.int .i64 ad.o.v.n) := B2.cell 24
    have zf24 := B2.free 24
    have zz25 : w2.cell? ⟨p, 25, none⟩ = some (.bool ad.o.y) := B2.cell 25
    have zf25 := B2.free 25
    clear M eb hv
    refine hK.out _ _ (rq_cells B2) (fun hHeld => ?_)
    clear hK K
    try simp only [Act.put, sA1, sA2, sA3]
    refine tkH (i := 11) 28 (pt pd) rfl rfl ?_ ?_
    · intro w hSw; (try dsimp only at hSw); go_simp
    simp only [sA1, sA2, sA3]
    refine wpAnyH_ready (rs := [12]) (by kernel_rfl) (by simp) ?_
    refine AllReadyH.cons rfl (fun K hK => ?_) AllReadyH.nil
    go_simp
    refine hK.out _ _ (rq_cells B2) (fun hHeld => ?_)
    clear hK K
    try simp only [Act.put, sA1, sA2, sA3]
    refine tkH (i := 13) 30 (pt p) rfl rfl ?_ ?_
    · intro w hSw; (try dsimp only at hSw); go_simp
    simp only [sA1, sA2, sA3]
    refine tkH (i := 14) 31 (.pointer (some ⟨p, 20, none⟩)) rfl rfl ?_ ?_
    · intro w hSw; (try dsimp only at hSw); go_simp
    simp only [sA1, sA2, sA3]
    have B3 := B2.put6D (Sx.new f (Rq.mk 3 at_ fd ⟨xk, xn⟩ ⟨yk, yn⟩) (Hw.mk sh ca fx mr)) (.func (.func nf) #[] cf)
    have K3 := K2.trans (Kept.put6at w2 p 20 (.func (.func nf) #[] cf) (.bool false) (.int .i64 0) (.int .i64 0) (.int .i64 0) (.bool false)) (fun _ h => .inl h)
    have R3 := R2.oth (F := [p]) (Oth.kept (Kept.put6at w2 p 20 (.func (.func nf) #[] cf) (.bool false) (.int .i64 0) (.int .i64 0) (.int .i64 0) (.bool false))) (fun q hq => by simp at hq; subst hq; exact ⟨_, _, _, B2.at_, by decide⟩)
    refine wpAnyH_ready (rs := [15]) (by kernel_rfl) (by simp) ?_
    refine AllReadyH.cons rfl (fun K hK => ?_) AllReadyH.nil
    go_simp
    refine hK.out _ _ (rq_cells B3) (fun hHeld => ?_)
    clear hK K
    try simp only [Act.put, sA1, sA2, sA3]
    refine wpAnyH_done (by kernel_rfl) ?_ _
    refine NoPanic.normal ?_
    unfold put6W at B3 K3 R3
    clear x0 x1 x2 x3 x4 x5 zz20 zz21 zz22 zz23 zz24 zz25 zf20 zf21 zf22 zf23 zf24 zf25
    simp only [Sx.new, Ou.zero, Vl.zero] at B3
    generalize (((((w2.setCell ⟨p, 20, none⟩ (.func (.func nf) #[] cf)).setCell ⟨p, 20 + 1, none⟩ (.bool false)).setCell ⟨p, 20 + 2, none⟩ (.int .i64 0)).setCell ⟨p, 20 + 3, none⟩ (.int .i64 0)).setCell ⟨p, 20 + 4, none⟩ (.int .i64 0)).setCell ⟨p, 20 + 5, none⟩ (.bool false) = w3 at B3 K3 R3 ⊢
    have c11 : w3.cell? ⟨p, 11, none⟩ = some (.int .i64 0) := B3.cell 11
    have f11 := B3.free 11
    have B4 := B3.s_pc 6
    go_wp2
    go_ret
    exact ⟨rfl, K3.trans (Kept.setCell [p] _ _ _ (by simp)) (fun _ h => .inl h), _, B4, R3.oth (F := [p]) (Oth.set _ _ _ _ (by simp)) (fun q hq => by simp at hq; subst hq; exact ⟨_, _, _, B3.at_, by decide⟩)⟩
end
end Go.Proofs.YtahafmglidlcnaaGreatDoor
