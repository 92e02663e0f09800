/-
  The reference's access, one theorem a way.
-/
import Derived.Test.YtahafmglidlcnaaGreatDoorRt
import Derived.Test.YtahafmglidlcnaaGreatDoorCu
import Derived.WalkMore
import Derived.BigQuiet
namespace Go.Proofs.YtahafmglidlcnaaGreatDoor
set_option linter.unusedVariables false
set_option linter.unusedSimpArgs false
set_option maxRecDepth 100000
open Go.ChangeShapes Go.WideShapes Go.RowKit
open H.Plain (hw pS pC pN pM pG pT pL mv)

/-- the reference's access as its block has it -/
structure RC where
  r : Rq
  e : En
  pc : Int
  w : Int
  v : Vl
  x : Value
  y : Value
  sh : Bool
  o : Ou
def RC.cells (d : RC) : Array Value := #[.int .i64 d.r.op, .int .i64 d.r.at_, .int .i64 d.r.fd, .int .i64 d.r.x.k, .int .i64 d.r.x.n, .int .i64 d.r.y.k, .int .i64 d.r.y.n, .int .i64 d.e.md, .int .i64 d.e.mr, .int .i64 d.e.al, .int .i64 d.pc, .int .u64 d.w, .int .i64 d.v.k, .int .i64 d.v.n, d.x, d.y, .bool d.sh, .int .i64 d.o.c, .int .i64 d.o.v.k, .int .i64 d.o.v.n, .bool d.o.y]
section
variable {w0 w w' : World} {b y p : Nat} {s1 s2 : St} {N : Nat} {d : RC}
theorem Blk.r_pc (B : Blk w0 w p 62 d.cells) (v : Int) : Blk w0 (w.setCell ⟨p, 10, none⟩ (.int .i64 v)) p 62 ({ d with pc := v } : RC).cells := B.set 10 _
theorem Blk.r_w (B : Blk w0 w p 62 d.cells) (v : Int) : Blk w0 (w.setCell ⟨p, 11, none⟩ (.int .u64 v)) p 62 ({ d with w := v } : RC).cells := B.set 11 _
theorem Blk.r_x (B : Blk w0 w p 62 d.cells) (v : Value) : Blk w0 (w.setCell ⟨p, 14, none⟩ (v)) p 62 ({ d with x := v } : RC).cells := B.set 14 _
theorem Blk.r_y (B : Blk w0 w p 62 d.cells) (v : Value) : Blk w0 (w.setCell ⟨p, 15, none⟩ (v)) p 62 ({ d with y := v } : RC).cells := B.set 15 _
theorem Blk.r_sh (B : Blk w0 w p 62 d.cells) (v : Bool) : Blk w0 (w.setCell ⟨p, 16, none⟩ (.bool v)) p 62 ({ d with sh := v } : RC).cells := B.set 16 _
theorem Blk.r_v (B : Blk w0 w p 62 d.cells) (v : Vl) : Blk w0 ((w.setCell ⟨p, 12, none⟩ (.int .i64 v.k)).setCell ⟨p, 13, none⟩ (.int .i64 v.n)) p 62 ({ d with v := v } : RC).cells := (B.set 12 _).set 13 _
theorem Blk.r_oc (B : Blk w0 w p 62 d.cells) (v : Int) : Blk w0 (w.setCell ⟨p, 17, none⟩ (.int .i64 v)) p 62 ({ d with o := ⟨v, d.o.v, d.o.y⟩ } : RC).cells := B.set 17 _
theorem Blk.r_ov (B : Blk w0 w p 62 d.cells) (v : Vl) : Blk w0 ((w.setCell ⟨p, 18, none⟩ (.int .i64 v.k)).setCell ⟨p, 19, none⟩ (.int .i64 v.n)) p 62 ({ d with o := ⟨d.o.c, v, d.o.y⟩ } : RC).cells := (B.set 18 _).set 19 _
theorem Blk.r_o (B : Blk w0 w p 62 d.cells) (v : Ou) : Blk w0 ((((w.setCell ⟨p, 17, none⟩ (.int .i64 v.c)).setCell ⟨p, 18, none⟩ (.int .i64 v.v.k)).setCell ⟨p, 19, none⟩ (.int .i64 v.v.n)).setCell ⟨p, 20, none⟩ (.bool v.y)) p 62 ({ d with o := v } : RC).cells := (((B.set 17 _).set 18 _).set 19 _).set 20 _
theorem kept4 (w : World) (p i j k l : Nat) (v0 v1 v2 v3 : Value) : Kept [p] w ((((w.setCell ⟨p, i, none⟩ v0).setCell ⟨p, j, none⟩ v1).setCell ⟨p, k, none⟩ v2).setCell ⟨p, l, none⟩ v3) := (((Kept.setCell [p] w ⟨p, i, none⟩ _ (by simp)).trans (Kept.setCell [p] _ ⟨p, j, none⟩ _ (by simp)) fun _ h => .inl h).trans (Kept.setCell [p] _ ⟨p, k, none⟩ _ (by simp)) fun _ h => .inl h).trans (Kept.setCell [p] _ ⟨p, l, none⟩ _ (by simp)) fun _ h => .inl h
theorem kept2 (w : World) (p i j : Nat) (v0 v1 : Value) : Kept [p] w ((w.setCell ⟨p, i, none⟩ v0).setCell ⟨p, j, none⟩ v1) := (Kept.setCell [p] w ⟨p, i, none⟩ _ (by simp)).trans (Kept.setCell [p] _ ⟨p, j, none⟩ _ (by simp)) fun _ h => .inl h
/-- behind a step of the reference's -/
structure XTo (w0 w w' : World) (b y p : Nat) (s1 s2 : St) (N : Nat) (d : RC) : Prop where
  two : Two w0 w' b y s1 s2 N
  blk : Blk w0 w' p 62 d.cells
  oth : Oth [p] w w'
set_option maxHeartbeats 4000000
/-- on with a Direct -/
theorem rTo {base : Int} {fx : Bool} (B : Blk w0 w p 62 d.cells) (hr : d.r.Ok) (hfx : (d.e.md == 8) = fx) (h0 : 0 ≤ base) (h1 : base < 4096) :
    Calls Tryz.prog 42 #[pt p, .int .i64 base] w fun e w' => e = .returned (.tuple #[]) ∧ Kept [p] w w' ∧ ∃ pd, w.heap.size ≤ pd ∧ Blk w0 w' p 62 ({ d with pc := 9, y := pt pd } : RC).cells ∧ Blk w0 w' pd 111 (RD.new (base + 1 + d.r.fd) d.r (hwC fx)).cells := by
  have hs0 : w0.heap.size ≤ w.heap.size := Nat.le_trans B.old (Nat.le_of_lt B.lt)
  obtain ⟨pcd, hpcd⟩ : ∃ q, pcD d.r (hwC fx) = q := ⟨_, rfl⟩
  have hpn : (pcd == 0) = false := by
    rw [← hpcd]
    unfold pcD
    obtain ⟨h | h | h, _⟩ := hr <;> simp [h, hwC]
  go_enter Tryz.func42, Tryz.ntmps42
  go_upto_region 0 with (fail)
  have hbd : Below w.heap.size w w.drew := (Below.refl _ _).drew
  have Bd := B.below hbd
  have Kd : Kept [p] w w.drew := Kept.of_below hbd
  refine wp_region_noPanic ?_
  refine wp_region_held_drew (S := fun w' => w'.cell? ⟨p, 0, none⟩ = some (.int .i64 d.r.op) ∧ w'.cell? ⟨p, 1, none⟩ = some (.int .i64 d.r.at_) ∧ w'.cell? ⟨p, 2, none⟩ = some (.int .i64 d.r.fd) ∧ w'.cell? ⟨p, 3, none⟩ = some (.int .i64 d.r.x.k) ∧ w'.cell? ⟨p, 4, none⟩ = some (.int .i64 d.r.x.n) ∧ w'.cell? ⟨p, 5, none⟩ = some (.int .i64 d.r.y.k) ∧ w'.cell? ⟨p, 6, none⟩ = some (.int .i64 d.r.y.n) ∧ w'.cell? ⟨p, 7, none⟩ = some (.int .i64 d.e.md)) (by kernel_rfl) ⟨Bd.cell 0, Bd.cell 1, Bd.cell 2, Bd.cell 3, Bd.cell 4, Bd.cell 5, Bd.cell 6, Bd.cell 7⟩ (fun hHeld => ?_)
  refine tkH (i := 0) 4 (pt p) rfl rfl ?_ ?_
  · intro w hSw; (try dsimp only at hSw); go_simp
  simp only [sA1, sA2, sA3]
  refine tkH (i := 1) 5 (.int .i64 base) rfl rfl ?_ ?_
  · intro w hSw; (try dsimp only at hSw); go_simp
  simp only [sA1, sA2, sA3]
  refine tkH (i := 2) 6 (pt p) rfl rfl ?_ ?_
  · intro w hSw; (try dsimp only at hSw); go_simp
  simp only [sA1, sA2, sA3]
  refine tkH (i := 3) 7 (pt p) rfl rfl ?_ ?_
  · intro w hSw; (try dsimp only at hSw); go_simp
  simp only [sA1, sA2, sA3]
  refine tkH (i := 4) 8 (pt p) rfl rfl ?_ ?_
  · intro w hSw; (try dsimp only at hSw); go_simp
  simp only [sA1, sA2, sA3]
  refine tkH (i := 5) 9 (.agg #[.int .i64 d.r.op, .int .i64 d.r.at_, .int .i64 d.r.fd, .int .i64 d.r.x.k, .int .i64 d.r.x.n, .int .i64 d.r.y.k, .int .i64 d.r.y.n]) rfl rfl ?_ ?_
  · intro w hSw; (try dsimp only at hSw); go_simp
  simp only [sA1, sA2, sA3]
  refine tkH (i := 6) 10 (pt p) rfl rfl ?_ ?_
  · intro w hSw; (try dsimp only at hSw); go_simp
  simp only [sA1, sA2, sA3]
  refine tkH (i := 7) 11 (pt p) rfl rfl ?_ ?_
  · intro w hSw; (try dsimp only at hSw); go_simp
  simp only [sA1, sA2, sA3]
  refine tkH (i := 8) 12 (.pointer (some ⟨p, 7, none⟩)) rfl rfl ?_ ?_
  · intro w hSw; (try dsimp only at hSw); go_simp
  simp only [sA1, sA2, sA3]
  refine tkH (i := 9) 13 (.pointer (some ⟨p, 7, none⟩)) rfl rfl ?_ ?_
  · intro w hSw; (try dsimp only at hSw); go_simp
  simp only [sA1, sA2, sA3]
  refine tkH (i := 10) 14 (.int .i64 d.e.md) rfl rfl ?_ ?_
  · intro w hSw; (try dsimp only at hSw); go_simp
  simp only [sA1, sA2, sA3]
  refine tkH (i := 11) 15 (.bool fx) rfl rfl ?_ ?_
  · intro w hSw; (try dsimp only at hSw); go_simp
  simp only [sA1, sA2, sA3]
  refine tkH (i := 12) 16 (.agg #[.bool false, .bool true, .bool fx, .int .i64 0]) rfl rfl ?_ ?_
  · intro w hSw; (try dsimp only at hSw); go_simp
  simp only [sA1, sA2, sA3]
  refine wpAnyH_ready (rs := [13]) (by kernel_rfl) (by simp) ?_
  refine AllReadyH.cons rfl (fun K hK => ?_) AllReadyH.nil
  go_simp
  refine (rNewDirect base d.r (hwC fx) _ h0 h1 hr.2.2.2.1 hr.2.2.2.2 hr.1).mono ?_
  rintro e w1 ⟨pd, rfl, M⟩
  have B1 := Bd.below M.bel
  have K1 := Kd.trans (Kept.of_below (F := [p]) M.bel) (fun _ h => .inl h)
  have D1 := M.blk' (w0 := w0) (Nat.le_trans hs0 hbd.size) (by decide)
  have np : w.heap.size ≤ pd := (by have := M.new; have := hbd.size; omega)
  have z15 : w1.cell? ⟨p, 15, none⟩ = some d.y := B1.cell 15
  have zf15 := B1.free 15
  clear M
  refine hK.out _ _ ⟨B1.cell 0, B1.cell 1, B1.cell 2, B1.cell 3, B1.cell 4, B1.cell 5, B1.cell 6, B1.cell 7⟩ (fun hHeld => ?_)
  clear hK K
  try simp only [Act.put, sA1, sA2, sA3]
  refine tkH (i := 14) 18 (pt p) rfl rfl ?_ ?_
  · intro w hSw; (try dsimp only at hSw); go_simp
  simp only [sA1, sA2, sA3]
  refine tkH (i := 15) 19 (.pointer (some ⟨p, 15, none⟩)) rfl rfl ?_ ?_
  · intro w hSw; (try dsimp only at hSw); go_simp
  simp only [sA1, sA2, sA3]
  have B2 := B1.r_y (pt pd)
  have K2 := K1.trans (Kept.setCell [p] w1 ⟨p, 15, none⟩ (pt pd) (by simp)) (fun _ h => .inl h)
  have D2 := D1.oth (F := [p]) (Oth.set w1 p 15 (pt pd) (by simp)) (by simpa using D1.ne B1 (by decide))
  refine wpAnyH_ready (rs := [16]) (by kernel_rfl) (by simp) ?_
  refine AllReadyH.cons rfl (fun K hK => ?_) AllReadyH.nil
  go_simp
  refine hK.out _ _ ⟨B2.cell 0, B2.cell 1, B2.cell 2, B2.cell 3, B2.cell 4, B2.cell 5, B2.cell 6, B2.cell 7⟩ (fun hHeld => ?_)
  clear hK K
  try simp only [Act.put, sA1, sA2, sA3]
  refine wpAnyH_done (by kernel_rfl) ?_ _
  refine NoPanic.normal ?_
  clear z15 zf15
  generalize w1.setCell ⟨p, 15, none⟩ (pt pd) = w2 at B2 K2 D2 ⊢
  have c10 : w2.cell? ⟨p, 10, none⟩ = some (.int .i64 d.pc) := B2.cell 10
  have f10 := B2.free 10
  have c15 : w2.cell? ⟨p, 15, none⟩ = some (pt pd) := B2.cell 15
  have npd : pd ≠ p := D2.ne B2 (by decide)
  have e12 : w2.cell? ⟨pd, 12, none⟩ = some (.int .i64 pcd) := hpcd ▸ D2.cell 12
  go_wp2
  go_end0
  exact ⟨rfl, K2.trans (Kept.setCell [p] _ _ _ (by simp)) (fun _ h => .inl h), pd, np, B2.r_pc 9, D2.oth (F := [p]) (Oth.set _ _ _ _ (by simp)) (by simpa using npd)⟩
theorem xs0 (h : Two w0 w b y s1 s2 N) (B : Blk w0 w p 62 d.cells) (hN : N + 5 < 1000000) (hpc : d.pc = 0) :
    Calls Tryz.prog 15 #[pt p, pt y] w fun e w' => e = .returned (.bool true) ∧ w' = w := by
  have c10 : w.cell? ⟨p, 10, none⟩ = some (.int .i64 0) := hpc ▸ B.cell 10
  go_enter Tryz.func15, Tryz.ntmps15
  go_wp2
  go_ret
  exact ⟨rfl, rfl⟩
theorem xs1e (h : Two w0 w b y s1 s2 N) (B : Blk w0 w p 62 d.cells) (hN : N + 5 < 1000000) (hpc : d.pc = 1) (hr : d.r.Ok) (hN1 : pN (s2.got d.r.at_) ≤ d.r.fd) :
    Calls Tryz.prog 15 #[pt p, pt y] w fun e w' => e = .returned (.bool true) ∧ XTo w0 w w' b y p s1 (s2.load d.r.at_) (N + 1) ({ d with w := s2.got d.r.at_, sh := false, pc := 0, o := ⟨15, d.o.v, d.o.y⟩ } : RC) := by
  obtain ⟨z, hz⟩ : ∃ z, s2.got d.r.at_ = z := ⟨_, rfl⟩
  have hU : U64 z := hz ▸ h.rng2.got _
  rw [hz] at hN1 ⊢
  obtain ⟨q0, e0⟩ : ∃ q, pS z = q := ⟨_, rfl⟩
  obtain ⟨q1, e1⟩ : ∃ q, pC z = q := ⟨_, rfl⟩
  obtain ⟨q2, e2⟩ : ∃ q, pN z = q := ⟨_, rfl⟩
  obtain ⟨q3, e3⟩ : ∃ q, pM z = q := ⟨_, rfl⟩
  obtain ⟨q4, e4⟩ : ∃ q, pG z = q := ⟨_, rfl⟩
  obtain ⟨q5, e5⟩ : ∃ q, pT z = q := ⟨_, rfl⟩
  obtain ⟨q6, e6⟩ : ∃ q, pL z = q := ⟨_, rfl⟩
  have t0 : decide (d.r.fd < 0) = false := by have := hr.2.2.2.1; simpa using this
  rw [e2] at hN1
  have t1 : decide (q2 ≤ d.r.fd) = true := by simpa using hN1
  clear hN1
  have c10 : w.cell? ⟨p, 10, none⟩ = some (.int .i64 1) := hpc ▸ B.cell 10
  have c16 : w.cell? ⟨p, 16, none⟩ = some (.bool d.sh) := B.cell 16
  have f16 := B.free 16
  have hs0 : w0.heap.size ≤ w.heap.size := h.bel.size
  have K2 : Kept [p] w (w.setCell ⟨p, 16, none⟩ (.bool false)) := Kept.setCell [p] _ _ _ (by simp)
  have b2 := B.r_sh false
  have h2 := to_twoB h K2 B
  have o2 : Oth [p] w (w.setCell ⟨p, 16, none⟩ (.bool false)) := Oth.kept K2
  go_enter Tryz.func15, Tryz.ntmps15
  go_upto_region 4 with (fail)
  obtain ⟨w2, hw2⟩ : ∃ w2, w.setCell ⟨p, 16, none⟩ (.bool false) = w2 := ⟨_, rfl⟩
  rw [hw2] at b2 h2 o2 ⊢
  have hsz : w.heap.size ≤ w2.heap.size := by rw [← hw2]; exact K2.size
  clear c10 c16 f16 K2 hw2
  have c10 : w2.cell? ⟨p, 10, none⟩ = some (.int .i64 1) := hpc ▸ b2.cell 10
  have c1 : w2.cell? ⟨p, 1, none⟩ = some (.int .i64 d.r.at_) := b2.cell 1
  have c2 : w2.cell? ⟨p, 2, none⟩ = some (.int .i64 d.r.fd) := b2.cell 2
  have c11 : w2.cell? ⟨p, 11, none⟩ = some (.int .u64 d.w) := b2.cell 11
  go_upto_region 7 with (go_at_call 41; refine (yLoad h2 (by omega) d.r.at_).mono ?_; rintro e w3 ⟨rfl, h3, o3⟩; rw [hz]; have b3 := b2.oth o3 (by simp); have o3' := o2.trans (o3.mono (by simp)); have d11 : w3.cell? ⟨p, 11, none⟩ = some (.int .u64 d.w) := b3.cell 11; have df11 := b3.free 11; clear o3)
  have K4 : Kept [p] w3 (w3.setCell ⟨p, 11, none⟩ (.int .u64 z)) := Kept.setCell [p] _ _ _ (by simp)
  have b4 := b3.r_w z
  have h4 := to_twoB h3 K4 b3
  have o4 := o3'.trans (Oth.kept K4)
  generalize w3.setCell ⟨p, 11, none⟩ (.int .u64 z) = w4 at b4 h4 o4 ⊢
  clear d11 df11 c10 c1 c2 c11 b3 h3 o3' K4 b2 h2 o2
  have c11 : w4.cell? ⟨p, 11, none⟩ = some (.int .u64 z) := b4.cell 11
  go_upto_region 8 with (go_at_call 20; refine (H.rOf z hU.1 hU.2 _).mono ?_; rintro e w5 ⟨rfl, hw5⟩; rw [e0, e1, e2, e3, e4, e5, e6] at hw5 ⊢; have hb5 : Below w4.heap.size w4 w5 := (by rw [hw5]; go_grown); have b5 := b4.below hb5; have h5 := h4.below hb5; have o5 := o4.trans (Oth.below hb5); clear hw5 hb5)
  clear c11
  have aH : Below w5.heap.size w5 (w5.alloc (.cells #[.int .i64 q0, .int .i64 q1, .int .i64 q2, .int .i64 q3, .int .i64 q4, .int .i64 q5, .int .i64 q6] 40)) := (Below.refl _ _).alloc (Nat.le_refl _) _
  have b6 := b5.below aH
  have h6 := h5.below aH
  have o6 := o5.trans (Oth.below aH)
  have H6 : Blk w0 (w5.alloc (.cells #[.int .i64 q0, .int .i64 q1, .int .i64 q2, .int .i64 q3, .int .i64 q4, .int .i64 q5, .int .i64 q6] 40)) w5.heap.size 40 #[.int .i64 q0, .int .i64 q1, .int .i64 q2, .int .i64 q3, .int .i64 q4, .int .i64 q5, .int .i64 q6] := Blk.new h5.bel.size _ (by decide)
  generalize w5.alloc (.cells #[.int .i64 q0, .int .i64 q1, .int .i64 q2, .int .i64 q3, .int .i64 q4, .int .i64 q5, .int .i64 q6] 40) = w6 at b6 h6 o6 H6 ⊢
  generalize w5.heap.size = hb at H6 ⊢
  clear aH
  have k2 : w6.cell? ⟨hb, 2, none⟩ = some (.int .i64 q2) := H6.cell 2
  have k5 : w6.cell? ⟨hb, 5, none⟩ = some (.int .i64 q5) := H6.cell 5
  have k6 : w6.cell? ⟨hb, 6, none⟩ = some (.int .i64 q6) := H6.cell 6
  have c0 : w6.cell? ⟨p, 0, none⟩ = some (.int .i64 d.r.op) := b6.cell 0
  have c1 : w6.cell? ⟨p, 1, none⟩ = some (.int .i64 d.r.at_) := b6.cell 1
  have c2 : w6.cell? ⟨p, 2, none⟩ = some (.int .i64 d.r.fd) := b6.cell 2
  have c10 : w6.cell? ⟨p, 10, none⟩ = some (.int .i64 1) := hpc ▸ b6.cell 10
  have f10 := b6.free 10
  have c17 : w6.cell? ⟨p, 17, none⟩ = some (.int .i64 d.o.c) := b6.cell 17
  have f17 := b6.free 17
  have lh := H6.lt
  go_quiet (fail)
  have hq := S.bdr (Below.refl w6.heap.size w6) nq
  have b7 := b6.below hq
  have h7 := h6.below hq
  have H7 := H6.below hq
  have o7 := o6.trans (Oth.below hq)
  generalize w6.drewN nq = w7 at b7 h7 H7 o7 ⊢
  clear hq k2 k5 k6 c0 c1 c2 c10 f10 c17 f17 lh H6 b6 h6 o6
  have k2 : w7.cell? ⟨hb, 2, none⟩ = some (.int .i64 q2) := H7.cell 2
  have k5 : w7.cell? ⟨hb, 5, none⟩ = some (.int .i64 q5) := H7.cell 5
  have k6 : w7.cell? ⟨hb, 6, none⟩ = some (.int .i64 q6) := H7.cell 6
  have c0 : w7.cell? ⟨p, 0, none⟩ = some (.int .i64 d.r.op) := b7.cell 0
  have c1 : w7.cell? ⟨p, 1, none⟩ = some (.int .i64 d.r.at_) := b7.cell 1
  have c2 : w7.cell? ⟨p, 2, none⟩ = some (.int .i64 d.r.fd) := b7.cell 2
  have c10 : w7.cell? ⟨p, 10, none⟩ = some (.int .i64 1) := hpc ▸ b7.cell 10
  have f10 := b7.free 10
  have c17 : w7.cell? ⟨p, 17, none⟩ = some (.int .i64 d.o.c) := b7.cell 17
  have f17 := b7.free 17
  have lh := H7.lt
  go_wp2
  go_ret
  have K8 := kept2 w7 p 17 10 (.int .i64 15) (.int .i64 0)
  exact ⟨rfl, to_twoB h7 K8 b7, (b7.r_oc 15).r_pc 0, o7.trans (Oth.kept K8)⟩
theorem xs1r (h : Two w0 w b y s1 s2 N) (B : Blk w0 w p 62 d.cells) (hN : N + 5 < 1000000) (hpc : d.pc = 1) (hr : d.r.Ok) (hN1 : d.r.fd < pN (s2.got d.r.at_)) (hT : pT (s2.got d.r.at_) = 1) (ho : d.r.op = 1) :
    Calls Tryz.prog 15 #[pt p, pt y] w fun e w' => e = .returned (.bool false) ∧ XTo w0 w w' b y p s1 (s2.load d.r.at_) (N + 1) ({ d with w := s2.got d.r.at_, sh := false, pc := 2 } : RC) := by
  obtain ⟨z, hz⟩ : ∃ z, s2.got d.r.at_ = z := ⟨_, rfl⟩
  have hU : U64 z := hz ▸ h.rng2.got _
  rw [hz] at hN1 hT ⊢
  obtain ⟨q0, e0⟩ : ∃ q, pS z = q := ⟨_, rfl⟩
  obtain ⟨q1, e1⟩ : ∃ q, pC z = q := ⟨_, rfl⟩
  obtain ⟨q2, e2⟩ : ∃ q, pN z = q := ⟨_, rfl⟩
  obtain ⟨q3, e3⟩ : ∃ q, pM z = q := ⟨_, rfl⟩
  obtain ⟨q4, e4⟩ : ∃ q, pG z = q := ⟨_, rfl⟩
  obtain ⟨q5, e5⟩ : ∃ q, pT z = q := ⟨_, rfl⟩
  obtain ⟨q6, e6⟩ : ∃ q, pL z = q := ⟨_, rfl⟩
  have t0 : decide (d.r.fd < 0) = false := by have := hr.2.2.2.1; simpa using this
  rw [e2] at hN1
  have t1 : decide (q2 ≤ d.r.fd) = false := by simpa using hN1
  clear hN1
  rw [e5] at hT
  have t2 : (q5 == 2) = false := by simp [hT]
  have t3 : (q5 == 1) = true := by simp [hT]
  clear hT
  have t4 : (d.r.op == 1) = true := by simpa using ho
  clear ho
  have c10 : w.cell? ⟨p, 10, none⟩ = some (.int .i64 1) := hpc ▸ B.cell 10
  have c16 : w.cell? ⟨p, 16, none⟩ = some (.bool d.sh) := B.cell 16
  have f16 := B.free 16
  have hs0 : w0.heap.size ≤ w.heap.size := h.bel.size
  have K2 : Kept [p] w (w.setCell ⟨p, 16, none⟩ (.bool false)) := Kept.setCell [p] _ _ _ (by simp)
  have b2 := B.r_sh false
  have h2 := to_twoB h K2 B
  have o2 : Oth [p] w (w.setCell ⟨p, 16, none⟩ (.bool false)) := Oth.kept K2
  go_enter Tryz.func15, Tryz.ntmps15
  go_upto_region 4 with (fail)
  obtain ⟨w2, hw2⟩ : ∃ w2, w.setCell ⟨p, 16, none⟩ (.bool false) = w2 := ⟨_, rfl⟩
  rw [hw2] at b2 h2 o2 ⊢
  have hsz : w.heap.size ≤ w2.heap.size := by rw [← hw2]; exact K2.size
  clear c10 c16 f16 K2 hw2
  have c10 : w2.cell? ⟨p, 10, none⟩ = some (.int .i64 1) := hpc ▸ b2.cell 10
  have c1 : w2.cell? ⟨p, 1, none⟩ = some (.int .i64 d.r.at_) := b2.cell 1
  have c2 : w2.cell? ⟨p, 2, none⟩ = some (.int .i64 d.r.fd) := b2.cell 2
  have c11 : w2.cell? ⟨p, 11, none⟩ = some (.int .u64 d.w) := b2.cell 11
  go_upto_region 7 with (go_at_call 41; refine (yLoad h2 (by omega) d.r.at_).mono ?_; rintro e w3 ⟨rfl, h3, o3⟩; rw [hz]; have b3 := b2.oth o3 (by simp); have o3' := o2.trans (o3.mono (by simp)); have d11 : w3.cell? ⟨p, 11, none⟩ = some (.int .u64 d.w) := b3.cell 11; have df11 := b3.free 11; clear o3)
  have K4 : Kept [p] w3 (w3.setCell ⟨p, 11, none⟩ (.int .u64 z)) := Kept.setCell [p] _ _ _ (by simp)
  have b4 := b3.r_w z
  have h4 := to_twoB h3 K4 b3
  have o4 := o3'.trans (Oth.kept K4)
  generalize w3.setCell ⟨p, 11, none⟩ (.int .u64 z) = w4 at b4 h4 o4 ⊢
  clear d11 df11 c10 c1 c2 c11 b3 h3 o3' K4 b2 h2 o2
  have c11 : w4.cell? ⟨p, 11, none⟩ = some (.int .u64 z) := b4.cell 11
  go_upto_region 8 with (go_at_call 20; refine (H.rOf z hU.1 hU.2 _).mono ?_; rintro e w5 ⟨rfl, hw5⟩; rw [e0, e1, e2, e3, e4, e5, e6] at hw5 ⊢; have hb5 : Below w4.heap.size w4 w5 := (by rw [hw5]; go_grown); have b5 := b4.below hb5; have h5 := h4.below hb5; have o5 := o4.trans (Oth.below hb5); clear hw5 hb5)
  clear c11
  have aH : Below w5.heap.size w5 (w5.alloc (.cells #[.int .i64 q0, .int .i64 q1, .int .i64 q2, .int .i64 q3, .int .i64 q4, .int .i64 q5, .int .i64 q6] 40)) := (Below.refl _ _).alloc (Nat.le_refl _) _
  have b6 := b5.below aH
  have h6 := h5.below aH
  have o6 := o5.trans (Oth.below aH)
  have H6 : Blk w0 (w5.alloc (.cells #[.int .i64 q0, .int .i64 q1, .int .i64 q2, .int .i64 q3, .int .i64 q4, .int .i64 q5, .int .i64 q6] 40)) w5.heap.size 40 #[.int .i64 q0, .int .i64 q1, .int .i64 q2, .int .i64 q3, .int .i64 q4, .int .i64 q5, .int .i64 q6] := Blk.new h5.bel.size _ (by decide)
  generalize w5.alloc (.cells #[.int .i64 q0, .int .i64 q1, .int .i64 q2, .int .i64 q3, .int .i64 q4, .int .i64 q5, .int .i64 q6] 40) = w6 at b6 h6 o6 H6 ⊢
  generalize w5.heap.size = hb at H6 ⊢
  clear aH
  have k2 : w6.cell? ⟨hb, 2, none⟩ = some (.int .i64 q2) := H6.cell 2
  have k5 : w6.cell? ⟨hb, 5, none⟩ = some (.int .i64 q5) := H6.cell 5
  have k6 : w6.cell? ⟨hb, 6, none⟩ = some (.int .i64 q6) := H6.cell 6
  have c0 : w6.cell? ⟨p, 0, none⟩ = some (.int .i64 d.r.op) := b6.cell 0
  have c1 : w6.cell? ⟨p, 1, none⟩ = some (.int .i64 d.r.at_) := b6.cell 1
  have c2 : w6.cell? ⟨p, 2, none⟩ = some (.int .i64 d.r.fd) := b6.cell 2
  have c10 : w6.cell? ⟨p, 10, none⟩ = some (.int .i64 1) := hpc ▸ b6.cell 10
  have f10 := b6.free 10
  have c17 : w6.cell? ⟨p, 17, none⟩ = some (.int .i64 d.o.c) := b6.cell 17
  have f17 := b6.free 17
  have lh := H6.lt
  go_quiet (fail)
  have hq := S.bdr (Below.refl w6.heap.size w6) nq
  have b7 := b6.below hq
  have h7 := h6.below hq
  have H7 := H6.below hq
  have o7 := o6.trans (Oth.below hq)
  generalize w6.drewN nq = w7 at b7 h7 H7 o7 ⊢
  clear hq k2 k5 k6 c0 c1 c2 c10 f10 c17 f17 lh H6 b6 h6 o6
  have k2 : w7.cell? ⟨hb, 2, none⟩ = some (.int .i64 q2) := H7.cell 2
  have k5 : w7.cell? ⟨hb, 5, none⟩ = some (.int .i64 q5) := H7.cell 5
  have k6 : w7.cell? ⟨hb, 6, none⟩ = some (.int .i64 q6) := H7.cell 6
  have c0 : w7.cell? ⟨p, 0, none⟩ = some (.int .i64 d.r.op) := b7.cell 0
  have c1 : w7.cell? ⟨p, 1, none⟩ = some (.int .i64 d.r.at_) := b7.cell 1
  have c2 : w7.cell? ⟨p, 2, none⟩ = some (.int .i64 d.r.fd) := b7.cell 2
  have c10 : w7.cell? ⟨p, 10, none⟩ = some (.int .i64 1) := hpc ▸ b7.cell 10
  have f10 := b7.free 10
  have c17 : w7.cell? ⟨p, 17, none⟩ = some (.int .i64 d.o.c) := b7.cell 17
  have f17 := b7.free 17
  have lh := H7.lt
  go_wp2
  go_ret
  have K8 : Kept [p] w7 (w7.setCell ⟨p, 10, none⟩ (.int .i64 2)) := Kept.setCell [p] _ _ _ (by simp)
  exact ⟨rfl, to_twoB h7 K8 b7, b7.r_pc 2, o7.trans (Oth.kept K8)⟩
theorem xs1t (h : Two w0 w b y s1 s2 N) (B : Blk w0 w p 62 d.cells) (hN : N + 5 < 1000000) (hpc : d.pc = 1) (hr : d.r.Ok) (hN1 : d.r.fd < pN (s2.got d.r.at_)) (hT : pT (s2.got d.r.at_) = 1) (ho : d.r.op ≠ 1) :
    Calls Tryz.prog 15 #[pt p, pt y] w fun e w' => e = .returned (.bool false) ∧ XTo w0 w w' b y p s1 (s2.load d.r.at_) (N + 1) ({ d with w := s2.got d.r.at_, sh := false, pc := 4 } : RC) := by
  obtain ⟨z, hz⟩ : ∃ z, s2.got d.r.at_ = z := ⟨_, rfl⟩
  have hU : U64 z := hz ▸ h.rng2.got _
  rw [hz] at hN1 hT ⊢
  obtain ⟨q0, e0⟩ : ∃ q, pS z = q := ⟨_, rfl⟩
  obtain ⟨q1, e1⟩ : ∃ q, pC z = q := ⟨_, rfl⟩
  obtain ⟨q2, e2⟩ : ∃ q, pN z = q := ⟨_, rfl⟩
  obtain ⟨q3, e3⟩ : ∃ q, pM z = q := ⟨_, rfl⟩
  obtain ⟨q4, e4⟩ : ∃ q, pG z = q := ⟨_, rfl⟩
  obtain ⟨q5, e5⟩ : ∃ q, pT z = q := ⟨_, rfl⟩
  obtain ⟨q6, e6⟩ : ∃ q, pL z = q := ⟨_, rfl⟩
  have t0 : decide (d.r.fd < 0) = false := by have := hr.2.2.2.1; simpa using this
  rw [e2] at hN1
  have t1 : decide (q2 ≤ d.r.fd) = false := by simpa using hN1
  clear hN1
  rw [e5] at hT
  have t2 : (q5 == 2) = false := by simp [hT]
  have t3 : (q5 == 1) = true := by simp [hT]
  clear hT
  have t4 : (d.r.op == 1) = false := by simpa using ho
  clear ho
  have c10 : w.cell? ⟨p, 10, none⟩ = some (.int .i64 1) := hpc ▸ B.cell 10
  have c16 : w.cell? ⟨p, 16, none⟩ = some (.bool d.sh) := B.cell 16
  have f16 := B.free 16
  have hs0 : w0.heap.size ≤ w.heap.size := h.bel.size
  have K2 : Kept [p] w (w.setCell ⟨p, 16, none⟩ (.bool false)) := Kept.setCell [p] _ _ _ (by simp)
  have b2 := B.r_sh false
  have h2 := to_twoB h K2 B
  have o2 : Oth [p] w (w.setCell ⟨p, 16, none⟩ (.bool false)) := Oth.kept K2
  go_enter Tryz.func15, Tryz.ntmps15
  go_upto_region 4 with (fail)
  obtain ⟨w2, hw2⟩ : ∃ w2, w.setCell ⟨p, 16, none⟩ (.bool false) = w2 := ⟨_, rfl⟩
  rw [hw2] at b2 h2 o2 ⊢
  have hsz : w.heap.size ≤ w2.heap.size := by rw [← hw2]; exact K2.size
  clear c10 c16 f16 K2 hw2
  have c10 : w2.cell? ⟨p, 10, none⟩ = some (.int .i64 1) := hpc ▸ b2.cell 10
  have c1 : w2.cell? ⟨p, 1, none⟩ = some (.int .i64 d.r.at_) := b2.cell 1
  have c2 : w2.cell? ⟨p, 2, none⟩ = some (.int .i64 d.r.fd) := b2.cell 2
  have c11 : w2.cell? ⟨p, 11, none⟩ = some (.int .u64 d.w) := b2.cell 11
  go_upto_region 7 with (go_at_call 41; refine (yLoad h2 (by omega) d.r.at_).mono ?_; rintro e w3 ⟨rfl, h3, o3⟩; rw [hz]; have b3 := b2.oth o3 (by simp); have o3' := o2.trans (o3.mono (by simp)); have d11 : w3.cell? ⟨p, 11, none⟩ = some (.int .u64 d.w) := b3.cell 11; have df11 := b3.free 11; clear o3)
  have K4 : Kept [p] w3 (w3.setCell ⟨p, 11, none⟩ (.int .u64 z)) := Kept.setCell [p] _ _ _ (by simp)
  have b4 := b3.r_w z
  have h4 := to_twoB h3 K4 b3
  have o4 := o3'.trans (Oth.kept K4)
  generalize w3.setCell ⟨p, 11, none⟩ (.int .u64 z) = w4 at b4 h4 o4 ⊢
  clear d11 df11 c10 c1 c2 c11 b3 h3 o3' K4 b2 h2 o2
  have c11 : w4.cell? ⟨p, 11, none⟩ = some (.int .u64 z) := b4.cell 11
  go_upto_region 8 with (go_at_call 20; refine (H.rOf z hU.1 hU.2 _).mono ?_; rintro e w5 ⟨rfl, hw5⟩; rw [e0, e1, e2, e3, e4, e5, e6] at hw5 ⊢; have hb5 : Below w4.heap.size w4 w5 := (by rw [hw5]; go_grown); have b5 := b4.below hb5; have h5 := h4.below hb5; have o5 := o4.trans (Oth.below hb5); clear hw5 hb5)
  clear c11
  have aH : Below w5.heap.size w5 (w5.alloc (.cells #[.int .i64 q0, .int .i64 q1, .int .i64 q2, .int .i64 q3, .int .i64 q4, .int .i64 q5, .int .i64 q6] 40)) := (Below.refl _ _).alloc (Nat.le_refl _) _
  have b6 := b5.below aH
  have h6 := h5.below aH
  have o6 := o5.trans (Oth.below aH)
  have H6 : Blk w0 (w5.alloc (.cells #[.int .i64 q0, .int .i64 q1, .int .i64 q2, .int .i64 q3, .int .i64 q4, .int .i64 q5, .int .i64 q6] 40)) w5.heap.size 40 #[.int .i64 q0, .int .i64 q1, .int .i64 q2, .int .i64 q3, .int .i64 q4, .int .i64 q5, .int .i64 q6] := Blk.new h5.bel.size _ (by decide)
  generalize w5.alloc (.cells #[.int .i64 q0, .int .i64 q1, .int .i64 q2, .int .i64 q3, .int .i64 q4, .int .i64 q5, .int .i64 q6] 40) = w6 at b6 h6 o6 H6 ⊢
  generalize w5.heap.size = hb at H6 ⊢
  clear aH
  have k2 : w6.cell? ⟨hb, 2, none⟩ = some (.int .i64 q2) := H6.cell 2
  have k5 : w6.cell? ⟨hb, 5, none⟩ = some (.int .i64 q5) := H6.cell 5
  have k6 : w6.cell? ⟨hb, 6, none⟩ = some (.int .i64 q6) := H6.cell 6
  have c0 : w6.cell? ⟨p, 0, none⟩ = some (.int .i64 d.r.op) := b6.cell 0
  have c1 : w6.cell? ⟨p, 1, none⟩ = some (.int .i64 d.r.at_) := b6.cell 1
  have c2 : w6.cell? ⟨p, 2, none⟩ = some (.int .i64 d.r.fd) := b6.cell 2
  have c10 : w6.cell? ⟨p, 10, none⟩ = some (.int .i64 1) := hpc ▸ b6.cell 10
  have f10 := b6.free 10
  have c17 : w6.cell? ⟨p, 17, none⟩ = some (.int .i64 d.o.c) := b6.cell 17
  have f17 := b6.free 17
  have lh := H6.lt
  go_quiet (fail)
  have hq := S.bdr (Below.refl w6.heap.size w6) nq
  have b7 := b6.below hq
  have h7 := h6.below hq
  have H7 := H6.below hq
  have o7 := o6.trans (Oth.below hq)
  generalize w6.drewN nq = w7 at b7 h7 H7 o7 ⊢
  clear hq k2 k5 k6 c0 c1 c2 c10 f10 c17 f17 lh H6 b6 h6 o6
  have k2 : w7.cell? ⟨hb, 2, none⟩ = some (.int .i64 q2) := H7.cell 2
  have k5 : w7.cell? ⟨hb, 5, none⟩ = some (.int .i64 q5) := H7.cell 5
  have k6 : w7.cell? ⟨hb, 6, none⟩ = some (.int .i64 q6) := H7.cell 6
  have c0 : w7.cell? ⟨p, 0, none⟩ = some (.int .i64 d.r.op) := b7.cell 0
  have c1 : w7.cell? ⟨p, 1, none⟩ = some (.int .i64 d.r.at_) := b7.cell 1
  have c2 : w7.cell? ⟨p, 2, none⟩ = some (.int .i64 d.r.fd) := b7.cell 2
  have c10 : w7.cell? ⟨p, 10, none⟩ = some (.int .i64 1) := hpc ▸ b7.cell 10
  have f10 := b7.free 10
  have c17 : w7.cell? ⟨p, 17, none⟩ = some (.int .i64 d.o.c) := b7.cell 17
  have f17 := b7.free 17
  have lh := H7.lt
  go_wp2
  go_ret
  have K8 : Kept [p] w7 (w7.setCell ⟨p, 10, none⟩ (.int .i64 4)) := Kept.setCell [p] _ _ _ (by simp)
  exact ⟨rfl, to_twoB h7 K8 b7, b7.r_pc 4, o7.trans (Oth.kept K8)⟩
theorem xs1m (h : Two w0 w b y s1 s2 N) (B : Blk w0 w p 62 d.cells) (hN : N + 5 < 1000000) (hpc : d.pc = 1) (hr : d.r.Ok) {fx : Bool} (hfx : (d.e.md == 8) = fx) (hN1 : d.r.fd < pN (s2.got d.r.at_)) (hT : pT (s2.got d.r.at_) = 2) :
    Calls Tryz.prog 15 #[pt p, pt y] w fun e w' => e = .returned (.bool false) ∧ ∃ pd, w.heap.size ≤ pd ∧ XTo w0 w w' b y p s1 (s2.load d.r.at_) (N + 1) ({ d with w := s2.got d.r.at_, sh := false, pc := 9, y := pt pd } : RC) ∧ Blk w0 w' pd 111 (RD.new (pL (s2.got d.r.at_) + 1 + d.r.fd) d.r (hwC fx)).cells := by
  obtain ⟨z, hz⟩ : ∃ z, s2.got d.r.at_ = z := ⟨_, rfl⟩
  have hU : U64 z := hz ▸ h.rng2.got _
  rw [hz] at hN1 hT ⊢
  obtain ⟨q0, e0⟩ : ∃ q, pS z = q := ⟨_, rfl⟩
  obtain ⟨q1, e1⟩ : ∃ q, pC z = q := ⟨_, rfl⟩
  obtain ⟨q2, e2⟩ : ∃ q, pN z = q := ⟨_, rfl⟩
  obtain ⟨q3, e3⟩ : ∃ q, pM z = q := ⟨_, rfl⟩
  obtain ⟨q4, e4⟩ : ∃ q, pG z = q := ⟨_, rfl⟩
  obtain ⟨q5, e5⟩ : ∃ q, pT z = q := ⟨_, rfl⟩
  obtain ⟨q6, e6⟩ : ∃ q, pL z = q := ⟨_, rfl⟩
  have t0 : decide (d.r.fd < 0) = false := by have := hr.2.2.2.1; simpa using this
  rw [e2] at hN1
  have t1 : decide (q2 ≤ d.r.fd) = false := by simpa using hN1
  clear hN1
  rw [e5] at hT
  have t2 : (q5 == 2) = true := by simp [hT]
  clear hT
  have l0 : 0 ≤ q6 ∧ q6 < 4096 := by rw [← e6]; unfold H.Plain.pL; omega
  rw [e6]
  have c10 : w.cell? ⟨p, 10, none⟩ = some (.int .i64 1) := hpc ▸ B.cell 10
  have c16 : w.cell? ⟨p, 16, none⟩ = some (.bool d.sh) := B.cell 16
  have f16 := B.free 16
  have hs0 : w0.heap.size ≤ w.heap.size := h.bel.size
  have K2 : Kept [p] w (w.setCell ⟨p, 16, none⟩ (.bool false)) := Kept.setCell [p] _ _ _ (by simp)
  have b2 := B.r_sh false
  have h2 := to_twoB h K2 B
  have o2 : Oth [p] w (w.setCell ⟨p, 16, none⟩ (.bool false)) := Oth.kept K2
  go_enter Tryz.func15, Tryz.ntmps15
  go_upto_region 4 with (fail)
  obtain ⟨w2, hw2⟩ : ∃ w2, w.setCell ⟨p, 16, none⟩ (.bool false) = w2 := ⟨_, rfl⟩
  rw [hw2] at b2 h2 o2 ⊢
  have hsz : w.heap.size ≤ w2.heap.size := by rw [← hw2]; exact K2.size
  clear c10 c16 f16 K2 hw2
  have c10 : w2.cell? ⟨p, 10, none⟩ = some (.int .i64 1) := hpc ▸ b2.cell 10
  have c1 : w2.cell? ⟨p, 1, none⟩ = some (.int .i64 d.r.at_) := b2.cell 1
  have c2 : w2.cell? ⟨p, 2, none⟩ = some (.int .i64 d.r.fd) := b2.cell 2
  have c11 : w2.cell? ⟨p, 11, none⟩ = some (.int .u64 d.w) := b2.cell 11
  go_upto_region 7 with (go_at_call 41; refine (yLoad h2 (by omega) d.r.at_).mono ?_; rintro e w3 ⟨rfl, h3, o3⟩; rw [hz]; have b3 := b2.oth o3 (by simp); have o3' := o2.trans (o3.mono (by simp)); have d11 : w3.cell? ⟨p, 11, none⟩ = some (.int .u64 d.w) := b3.cell 11; have df11 := b3.free 11; clear o3)
  have K4 : Kept [p] w3 (w3.setCell ⟨p, 11, none⟩ (.int .u64 z)) := Kept.setCell [p] _ _ _ (by simp)
  have b4 := b3.r_w z
  have h4 := to_twoB h3 K4 b3
  have o4 := o3'.trans (Oth.kept K4)
  generalize w3.setCell ⟨p, 11, none⟩ (.int .u64 z) = w4 at b4 h4 o4 ⊢
  clear d11 df11 c10 c1 c2 c11 b3 h3 o3' K4 b2 h2 o2
  have c11 : w4.cell? ⟨p, 11, none⟩ = some (.int .u64 z) := b4.cell 11
  go_upto_region 8 with (go_at_call 20; refine (H.rOf z hU.1 hU.2 _).mono ?_; rintro e w5 ⟨rfl, hw5⟩; rw [e0, e1, e2, e3, e4, e5, e6] at hw5 ⊢; have hb5 : Below w4.heap.size w4 w5 := (by rw [hw5]; go_grown); have b5 := b4.below hb5; have h5 := h4.below hb5; have o5 := o4.trans (Oth.below hb5); clear hw5 hb5)
  clear c11
  have aH : Below w5.heap.size w5 (w5.alloc (.cells #[.int .i64 q0, .int .i64 q1, .int .i64 q2, .int .i64 q3, .int .i64 q4, .int .i64 q5, .int .i64 q6] 40)) := (Below.refl _ _).alloc (Nat.le_refl _) _
  have b6 := b5.below aH
  have h6 := h5.below aH
  have o6 := o5.trans (Oth.below aH)
  have H6 : Blk w0 (w5.alloc (.cells #[.int .i64 q0, .int .i64 q1, .int .i64 q2, .int .i64 q3, .int .i64 q4, .int .i64 q5, .int .i64 q6] 40)) w5.heap.size 40 #[.int .i64 q0, .int .i64 q1, .int .i64 q2, .int .i64 q3, .int .i64 q4, .int .i64 q5, .int .i64 q6] := Blk.new h5.bel.size _ (by decide)
  generalize w5.alloc (.cells #[.int .i64 q0, .int .i64 q1, .int .i64 q2, .int .i64 q3, .int .i64 q4, .int .i64 q5, .int .i64 q6] 40) = w6 at b6 h6 o6 H6 ⊢
  generalize w5.heap.size = hb at H6 ⊢
  clear aH
  have k2 : w6.cell? ⟨hb, 2, none⟩ = some (.int .i64 q2) := H6.cell 2
  have k5 : w6.cell? ⟨hb, 5, none⟩ = some (.int .i64 q5) := H6.cell 5
  have k6 : w6.cell? ⟨hb, 6, none⟩ = some (.int .i64 q6) := H6.cell 6
  have c0 : w6.cell? ⟨p, 0, none⟩ = some (.int .i64 d.r.op) := b6.cell 0
  have c1 : w6.cell? ⟨p, 1, none⟩ = some (.int .i64 d.r.at_) := b6.cell 1
  have c2 : w6.cell? ⟨p, 2, none⟩ = some (.int .i64 d.r.fd) := b6.cell 2
  have c10 : w6.cell? ⟨p, 10, none⟩ = some (.int .i64 1) := hpc ▸ b6.cell 10
  have f10 := b6.free 10
  have c17 : w6.cell? ⟨p, 17, none⟩ = some (.int .i64 d.o.c) := b6.cell 17
  have f17 := b6.free 17
  have lh := H6.lt
  go_quiet (fail)
  have hq := S.bdr (Below.refl w6.heap.size w6) nq
  have b7 := b6.below hq
  have h7 := h6.below hq
  have H7 := H6.below hq
  have o7 := o6.trans (Oth.below hq)
  generalize w6.drewN nq = w7 at b7 h7 H7 o7 ⊢
  clear hq k2 k5 k6 c0 c1 c2 c10 f10 c17 f17 lh H6 b6 h6 o6
  have k2 : w7.cell? ⟨hb, 2, none⟩ = some (.int .i64 q2) := H7.cell 2
  have k5 : w7.cell? ⟨hb, 5, none⟩ = some (.int .i64 q5) := H7.cell 5
  have k6 : w7.cell? ⟨hb, 6, none⟩ = some (.int .i64 q6) := H7.cell 6
  have c0 : w7.cell? ⟨p, 0, none⟩ = some (.int .i64 d.r.op) := b7.cell 0
  have c1 : w7.cell? ⟨p, 1, none⟩ = some (.int .i64 d.r.at_) := b7.cell 1
  have c2 : w7.cell? ⟨p, 2, none⟩ = some (.int .i64 d.r.fd) := b7.cell 2
  have c10 : w7.cell? ⟨p, 10, none⟩ = some (.int .i64 1) := hpc ▸ b7.cell 10
  have f10 := b7.free 10
  have c17 : w7.cell? ⟨p, 17, none⟩ = some (.int .i64 d.o.c) := b7.cell 17
  have f17 := b7.free 17
  have lh := H7.lt
  go_wp2_with (go_at_call 42; refine (rTo b7 hr hfx l0.1 l0.2).mono ?_; rintro e w8 ⟨rfl, K8, pd, np, b8, D8⟩; have c10' : w8.cell? ⟨p, 10, none⟩ = some (.int .i64 9) := b8.cell 10)
  go_ret
  exact ⟨rfl, pd, Nat.le_trans (Nat.le_trans (Nat.le_refl _) o7.size) np, ⟨to_twoB h7 K8 b7, b8, o7.trans (Oth.kept K8)⟩, D8⟩
theorem xs1s (h : Two w0 w b y s1 s2 N) (B : Blk w0 w p 62 d.cells) (hN : N + 5 < 1000000) (hpc : d.pc = 1) (hr : d.r.Ok) {fx : Bool} (hfx : (d.e.md == 8) = fx) (hN1 : d.r.fd < pN (s2.got d.r.at_)) (hT : pT (s2.got d.r.at_) ≠ 2) (hT2 : pT (s2.got d.r.at_) ≠ 1) :
    Calls Tryz.prog 15 #[pt p, pt y] w fun e w' => e = .returned (.bool false) ∧ ∃ pd, w.heap.size ≤ pd ∧ XTo w0 w w' b y p s1 (s2.load d.r.at_) (N + 1) ({ d with w := s2.got d.r.at_, sh := false, pc := 9, y := pt pd } : RC) ∧ Blk w0 w' pd 111 (RD.new (d.r.at_ + 1 + d.r.fd) d.r (hwC fx)).cells := by
  obtain ⟨z, hz⟩ : ∃ z, s2.got d.r.at_ = z := ⟨_, rfl⟩
  have hU : U64 z := hz ▸ h.rng2.got _
  rw [hz] at hN1 hT hT2 ⊢
  obtain ⟨q0, e0⟩ : ∃ q, pS z = q := ⟨_, rfl⟩
  obtain ⟨q1, e1⟩ : ∃ q, pC z = q := ⟨_, rfl⟩
  obtain ⟨q2, e2⟩ : ∃ q, pN z = q := ⟨_, rfl⟩
  obtain ⟨q3, e3⟩ : ∃ q, pM z = q := ⟨_, rfl⟩
  obtain ⟨q4, e4⟩ : ∃ q, pG z = q := ⟨_, rfl⟩
  obtain ⟨q5, e5⟩ : ∃ q, pT z = q := ⟨_, rfl⟩
  obtain ⟨q6, e6⟩ : ∃ q, pL z = q := ⟨_, rfl⟩
  have t0 : decide (d.r.fd < 0) = false := by have := hr.2.2.2.1; simpa using this
  rw [e2] at hN1
  have t1 : decide (q2 ≤ d.r.fd) = false := by simpa using hN1
  clear hN1
  rw [e5] at hT hT2
  have t2 : (q5 == 2) = false := by simpa using hT
  have t3 : (q5 == 1) = false := by simpa using hT2
  clear hT hT2
  have c10 : w.cell? ⟨p, 10, none⟩ = some (.int .i64 1) := hpc ▸ B.cell 10
  have c16 : w.cell? ⟨p, 16, none⟩ = some (.bool d.sh) := B.cell 16
  have f16 := B.free 16
  have hs0 : w0.heap.size ≤ w.heap.size := h.bel.size
  have K2 : Kept [p] w (w.setCell ⟨p, 16, none⟩ (.bool false)) := Kept.setCell [p] _ _ _ (by simp)
  have b2 := B.r_sh false
  have h2 := to_twoB h K2 B
  have o2 : Oth [p] w (w.setCell ⟨p, 16, none⟩ (.bool false)) := Oth.kept K2
  go_enter Tryz.func15, Tryz.ntmps15
  go_upto_region 4 with (fail)
  obtain ⟨w2, hw2⟩ : ∃ w2, w.setCell ⟨p, 16, none⟩ (.bool false) = w2 := ⟨_, rfl⟩
  rw [hw2] at b2 h2 o2 ⊢
  have hsz : w.heap.size ≤ w2.heap.size := by rw [← hw2]; exact K2.size
  clear c10 c16 f16 K2 hw2
  have c10 : w2.cell? ⟨p, 10, none⟩ = some (.int .i64 1) := hpc ▸ b2.cell 10
  have c1 : w2.cell? ⟨p, 1, none⟩ = some (.int .i64 d.r.at_) := b2.cell 1
  have c2 : w2.cell? ⟨p, 2, none⟩ = some (.int .i64 d.r.fd) := b2.cell 2
  have c11 : w2.cell? ⟨p, 11, none⟩ = some (.int .u64 d.w) := b2.cell 11
  go_upto_region 7 with (go_at_call 41; refine (yLoad h2 (by omega) d.r.at_).mono ?_; rintro e w3 ⟨rfl, h3, o3⟩; rw [hz]; have b3 := b2.oth o3 (by simp); have o3' := o2.trans (o3.mono (by simp)); have d11 : w3.cell? ⟨p, 11, none⟩ = some (.int .u64 d.w) := b3.cell 11; have df11 := b3.free 11; clear o3)
  have K4 : Kept [p] w3 (w3.setCell ⟨p, 11, none⟩ (.int .u64 z)) := Kept.setCell [p] _ _ _ (by simp)
  have b4 := b3.r_w z
  have h4 := to_twoB h3 K4 b3
  have o4 := o3'.trans (Oth.kept K4)
  generalize w3.setCell ⟨p, 11, none⟩ (.int .u64 z) = w4 at b4 h4 o4 ⊢
  clear d11 df11 c10 c1 c2 c11 b3 h3 o3' K4 b2 h2 o2
  have c11 : w4.cell? ⟨p, 11, none⟩ = some (.int .u64 z) := b4.cell 11
  go_upto_region 8 with (go_at_call 20; refine (H.rOf z hU.1 hU.2 _).mono ?_; rintro e w5 ⟨rfl, hw5⟩; rw [e0, e1, e2, e3, e4, e5, e6] at hw5 ⊢; have hb5 : Below w4.heap.size w4 w5 := (by rw [hw5]; go_grown); have b5 := b4.below hb5; have h5 := h4.below hb5; have o5 := o4.trans (Oth.below hb5); clear hw5 hb5)
  clear c11
  have aH : Below w5.heap.size w5 (w5.alloc (.cells #[.int .i64 q0, .int .i64 q1, .int .i64 q2, .int .i64 q3, .int .i64 q4, .int .i64 q5, .int .i64 q6] 40)) := (Below.refl _ _).alloc (Nat.le_refl _) _
  have b6 := b5.below aH
  have h6 := h5.below aH
  have o6 := o5.trans (Oth.below aH)
  have H6 : Blk w0 (w5.alloc (.cells #[.int .i64 q0, .int .i64 q1, .int .i64 q2, .int .i64 q3, .int .i64 q4, .int .i64 q5, .int .i64 q6] 40)) w5.heap.size 40 #[.int .i64 q0, .int .i64 q1, .int .i64 q2, .int .i64 q3, .int .i64 q4, .int .i64 q5, .int .i64 q6] := Blk.new h5.bel.size _ (by decide)
  generalize w5.alloc (.cells #[.int .i64 q0, .int .i64 q1, .int .i64 q2, .int .i64 q3, .int .i64 q4, .int .i64 q5, .int .i64 q6] 40) = w6 at b6 h6 o6 H6 ⊢
  generalize w5.heap.size = hb at H6 ⊢
  clear aH
  have k2 : w6.cell? ⟨hb, 2, none⟩ = some (.int .i64 q2) := H6.cell 2
  have k5 : w6.cell? ⟨hb, 5, none⟩ = some (.int .i64 q5) := H6.cell 5
  have k6 : w6.cell? ⟨hb, 6, none⟩ = some (.int .i64 q6) := H6.cell 6
  have c0 : w6.cell? ⟨p, 0, none⟩ = some (.int .i64 d.r.op) := b6.cell 0
  have c1 : w6.cell? ⟨p, 1, none⟩ = some (.int .i64 d.r.at_) := b6.cell 1
  have c2 : w6.cell? ⟨p, 2, none⟩ = some (.int .i64 d.r.fd) := b6.cell 2
  have c10 : w6.cell? ⟨p, 10, none⟩ = some (.int .i64 1) := hpc ▸ b6.cell 10
  have f10 := b6.free 10
  have c17 : w6.cell? ⟨p, 17, none⟩ = some (.int .i64 d.o.c) := b6.cell 17
  have f17 := b6.free 17
  have lh := H6.lt
  go_quiet (fail)
  have hq := S.bdr (Below.refl w6.heap.size w6) nq
  have b7 := b6.below hq
  have h7 := h6.below hq
  have H7 := H6.below hq
  have o7 := o6.trans (Oth.below hq)
  generalize w6.drewN nq = w7 at b7 h7 H7 o7 ⊢
  clear hq k2 k5 k6 c0 c1 c2 c10 f10 c17 f17 lh H6 b6 h6 o6
  have k2 : w7.cell? ⟨hb, 2, none⟩ = some (.int .i64 q2) := H7.cell 2
  have k5 : w7.cell? ⟨hb, 5, none⟩ = some (.int .i64 q5) := H7.cell 5
  have k6 : w7.cell? ⟨hb, 6, none⟩ = some (.int .i64 q6) := H7.cell 6
  have c0 : w7.cell? ⟨p, 0, none⟩ = some (.int .i64 d.r.op) := b7.cell 0
  have c1 : w7.cell? ⟨p, 1, none⟩ = some (.int .i64 d.r.at_) := b7.cell 1
  have c2 : w7.cell? ⟨p, 2, none⟩ = some (.int .i64 d.r.fd) := b7.cell 2
  have c10 : w7.cell? ⟨p, 10, none⟩ = some (.int .i64 1) := hpc ▸ b7.cell 10
  have f10 := b7.free 10
  have c17 : w7.cell? ⟨p, 17, none⟩ = some (.int .i64 d.o.c) := b7.cell 17
  have f17 := b7.free 17
  have lh := H7.lt
  go_wp2_with (go_at_call 42; refine (rTo b7 hr hfx hr.2.1 hr.2.2.1).mono ?_; rintro e w8 ⟨rfl, K8, pd, np, b8, D8⟩; have c10' : w8.cell? ⟨p, 10, none⟩ = some (.int .i64 9) := b8.cell 10)
  go_ret
  exact ⟨rfl, pd, Nat.le_trans (Nat.le_trans (Nat.le_refl _) o7.size) np, ⟨to_twoB h7 K8 b7, b8, o7.trans (Oth.kept K8)⟩, D8⟩
theorem xs2 (h : Two w0 w b y s1 s2 N) (B : Blk w0 w p 62 d.cells) (hN : N + 5 < 1000000) (hpc : d.pc = 2) (hr : d.r.Ok) :
    Calls Tryz.prog 15 #[pt p, pt y] w fun e w' => e = .returned (.bool false) ∧ XTo w0 w w' b y p s1 (s2.load (d.r.at_ + 1 + d.r.fd)) (N + 1) ({ d with v := Vl.of (s2.got (d.r.at_ + 1 + d.r.fd)), sh := true, pc := 3 } : RC) := by
  obtain ⟨f, hf⟩ : ∃ f, d.r.at_ + 1 + d.r.fd = f := ⟨_, rfl⟩
  obtain ⟨g, hg⟩ : ∃ g, s2.got f = g := ⟨_, rfl⟩
  have hU : U64 g := hg ▸ h.rng2.got _
  obtain ⟨u, hu⟩ : ∃ u, Vl.of g = u := ⟨_, rfl⟩
  have hk : F.Plain.kind g = u.k := congrArg Vl.k hu
  have hn : F.Plain.num g = u.n := congrArg Vl.n hu
  rw [hf, hg, hu]
  obtain ⟨r0, r1, r2, r3, r4⟩ := hr
  have i1 : IntKind.i64.wrap (d.r.at_ + 1) = d.r.at_ + 1 := by rw [IntKind.wrap_i64]; omega
  have i2 : IntKind.i64.wrap (d.r.at_ + 1 + d.r.fd) = f := by rw [IntKind.wrap_i64]; omega
  have i3 : IntKind.i64.wrap f = f := by rw [IntKind.wrap_i64]; omega
  have c10 : w.cell? ⟨p, 10, none⟩ = some (.int .i64 2) := hpc ▸ B.cell 10
  have c16 : w.cell? ⟨p, 16, none⟩ = some (.bool d.sh) := B.cell 16
  have f16 := B.free 16
  have hs0 : w0.heap.size ≤ w.heap.size := h.bel.size
  have K2 : Kept [p] w (w.setCell ⟨p, 16, none⟩ (.bool false)) := Kept.setCell [p] _ _ _ (by simp)
  have b2 := B.r_sh false
  have h2 := to_twoB h K2 B
  have o2 : Oth [p] w (w.setCell ⟨p, 16, none⟩ (.bool false)) := Oth.kept K2
  go_enter Tryz.func15, Tryz.ntmps15
  go_upto_region 4 with (fail)
  obtain ⟨w2, hw2⟩ : ∃ w2, w.setCell ⟨p, 16, none⟩ (.bool false) = w2 := ⟨_, rfl⟩
  rw [hw2] at b2 h2 o2 ⊢
  have hsz : w.heap.size ≤ w2.heap.size := by rw [← hw2]; exact K2.size
  clear c10 c16 f16 K2 hw2
  have c10 : w2.cell? ⟨p, 10, none⟩ = some (.int .i64 2) := hpc ▸ b2.cell 10
  have c1 : w2.cell? ⟨p, 1, none⟩ = some (.int .i64 d.r.at_) := b2.cell 1
  have c2 : w2.cell? ⟨p, 2, none⟩ = some (.int .i64 d.r.fd) := b2.cell 2
  have c11 : w2.cell? ⟨p, 11, none⟩ = some (.int .u64 d.w) := b2.cell 11
  go_upto_region 19 with (fail)
  clear c10 c1 c2 c11
  have hbd : Below w2.heap.size w2 w2.drew := (Below.refl _ _).drew
  have bd := b2.below hbd
  have hd := h2.below hbd
  have od := o2.trans (Oth.below hbd)
  refine wp_region_noPanic ?_
  refine wp_region_held_drew (S := fun w' => w'.cell? ⟨p, 1, none⟩ = some (.int .i64 d.r.at_) ∧ w'.cell? ⟨p, 2, none⟩ = some (.int .i64 d.r.fd)) (by kernel_rfl) ⟨bd.cell 1, bd.cell 2⟩ (fun hHeld => ?_)
  refine tkH (i := 0) 99 (pt p) rfl rfl ?_ ?_
  · intro w hSw; (try dsimp only at hSw); go_simp
  simp only [sA1, sA2, sA3]
  refine tkH (i := 1) 100 (pt y) rfl rfl ?_ ?_
  · intro w hSw; (try dsimp only at hSw); go_simp
  simp only [sA1, sA2, sA3]
  refine tkH (i := 2) 101 (pt p) rfl rfl ?_ ?_
  · intro w hSw; (try dsimp only at hSw); go_simp
  simp only [sA1, sA2, sA3]
  refine tkH (i := 3) 102 (pt p) rfl rfl ?_ ?_
  · intro w hSw; (try dsimp only at hSw); go_simp
  simp only [sA1, sA2, sA3]
  refine tkH (i := 4) 103 (pt p) rfl rfl ?_ ?_
  · intro w hSw; (try dsimp only at hSw); go_simp
  simp only [sA1, sA2, sA3]
  refine tkH (i := 5) 104 (.pointer (some ⟨p, 1, none⟩)) rfl rfl ?_ ?_
  · intro w hSw; (try dsimp only at hSw); go_simp
  simp only [sA1, sA2, sA3]
  refine tkH (i := 6) 105 (.int .i64 d.r.at_) rfl rfl ?_ ?_
  · intro w hSw; (try dsimp only at hSw); go_simp
  simp only [sA1, sA2, sA3]
  refine tkH (i := 7) 106 (.int .i64 (d.r.at_ + 1)) rfl rfl ?_ ?_
  · intro w hSw; (try dsimp only at hSw); go_simp
  simp only [sA1, sA2, sA3]
  refine tkH (i := 8) 107 (pt p) rfl rfl ?_ ?_
  · intro w hSw; (try dsimp only at hSw); go_simp
  simp only [sA1, sA2, sA3]
  refine tkH (i := 9) 108 (pt p) rfl rfl ?_ ?_
  · intro w hSw; (try dsimp only at hSw); go_simp
  simp only [sA1, sA2, sA3]
  refine tkH (i := 10) 109 (pt p) rfl rfl ?_ ?_
  · intro w hSw; (try dsimp only at hSw); go_simp
  simp only [sA1, sA2, sA3]
  refine tkH (i := 11) 110 (.pointer (some ⟨p, 2, none⟩)) rfl rfl ?_ ?_
  · intro w hSw; (try dsimp only at hSw); go_simp
  simp only [sA1, sA2, sA3]
  refine tkH (i := 12) 111 (.int .i64 d.r.fd) rfl rfl ?_ ?_
  · intro w hSw; (try dsimp only at hSw); go_simp
  simp only [sA1, sA2, sA3]
  refine tkH (i := 13) 112 (.int .i64 f) rfl rfl ?_ ?_
  · intro w hSw; (try dsimp only at hSw); go_simp
  simp only [sA1, sA2, sA3]
  refine wpAnyH_ready (rs := [14]) (by kernel_rfl) (by simp) ?_
  refine AllReadyH.cons rfl (fun K hK => ?_) AllReadyH.nil
  go_simp
  refine (yLoad hd (by omega) f).mono ?_
  rintro e w3 ⟨rfl, h3, o3⟩
  rw [hg]
  have b3 := bd.oth o3 (by simp)
  have o3' := od.trans (o3.mono (by simp))
  clear o3
  refine hK.out _ _ ⟨b3.cell 1, b3.cell 2⟩ (fun hHeld => ?_)
  clear hK K
  try simp only [Act.put, sA1, sA2, sA3]
  refine wpAnyH_ready (rs := [15]) (by kernel_rfl) (by simp) ?_
  refine AllReadyH.cons rfl (fun K hK => ?_) AllReadyH.nil
  go_simp
  refine (F.rOf g hU.1 hU.2 _).mono ?_
  rintro e w4 ⟨rfl, hw4⟩
  rw [hk, hn] at hw4 ⊢
  have hb4 : Below w3.heap.size w3 w4 := (by rw [hw4]; go_grown)
  have b4 := b3.below hb4
  have h4 := h3.below hb4
  have o4 := o3'.trans (Oth.below hb4)
  clear hw4 hb4
  have z12 : w4.cell? ⟨p, 12, none⟩ = some (.int .i64 d.v.k) := b4.cell 12
  have zf12 := b4.free 12
  have z13 : w4.cell? ⟨p, 13, none⟩ = some (.int .i64 d.v.n) := b4.cell 13
  have zf13 := b4.free 13
  refine hK.out _ _ ⟨b4.cell 1, b4.cell 2⟩ (fun hHeld => ?_)
  clear hK K
  try simp only [Act.put, sA1, sA2, sA3]
  refine tkH (i := 16) 115 (pt p) rfl rfl ?_ ?_
  · intro w hSw; (try dsimp only at hSw); go_simp
  simp only [sA1, sA2, sA3]
  refine tkH (i := 17) 116 (.pointer (some ⟨p, 12, none⟩)) rfl rfl ?_ ?_
  · intro w hSw; (try dsimp only at hSw); go_simp
  simp only [sA1, sA2, sA3]
  have b5 := b4.r_v u
  refine wpAnyH_ready (rs := [18]) (by kernel_rfl) (by simp) ?_
  refine AllReadyH.cons rfl (fun K hK => ?_) AllReadyH.nil
  go_simp
  refine hK.out _ _ ⟨b5.cell 1, b5.cell 2⟩ (fun hHeld => ?_)
  clear hK K
  try simp only [Act.put, sA1, sA2, sA3]
  refine wpAnyH_done (by kernel_rfl) ?_ _
  refine NoPanic.normal ?_
  have K5 := kept2 w4 p 12 13 (.int .i64 u.k) (.int .i64 u.n)
  have h5 := to_twoB h4 K5 b4
  have o5 := o4.trans (Oth.kept K5)
  clear z12 zf12 z13 zf13
  generalize (w4.setCell ⟨p, 12, none⟩ (.int .i64 u.k)).setCell ⟨p, 13, none⟩ (.int .i64 u.n) = w5 at b5 h5 o5 ⊢
  have c10 : w5.cell? ⟨p, 10, none⟩ = some (.int .i64 2) := hpc ▸ b5.cell 10
  have f10 := b5.free 10
  have c16 : w5.cell? ⟨p, 16, none⟩ = some (.bool false) := b5.cell 16
  have f16 := b5.free 16
  go_wp2
  go_ret
  have K6 := kept2 w5 p 16 10 (.bool true) (.int .i64 3)
  exact ⟨rfl, to_twoB h5 K6 b5, (b5.r_sh true).r_pc 3, o5.trans (Oth.kept K6)⟩
theorem xs3m (h : Two w0 w b y s1 s2 N) (B : Blk w0 w p 62 d.cells) (hN : N + 5 < 1000000) (hpc : d.pc = 3) (hr : d.r.Ok) {fx : Bool} (hfx : (d.e.md == 8) = fx) (hT : pT (s2.got d.r.at_) = 2) :
    Calls Tryz.prog 15 #[pt p, pt y] w fun e w' => e = .returned (.bool false) ∧ ∃ pd, w.heap.size ≤ pd ∧ XTo w0 w w' b y p s1 (s2.load d.r.at_) (N + 1) ({ d with sh := false, pc := 9, y := pt pd } : RC) ∧ Blk w0 w' pd 111 (RD.new (pL (s2.got d.r.at_) + 1 + d.r.fd) d.r (hwC fx)).cells := by
  obtain ⟨z, hz⟩ : ∃ z, s2.got d.r.at_ = z := ⟨_, rfl⟩
  have hU : U64 z := hz ▸ h.rng2.got _
  rw [hz] at hT ⊢
  obtain ⟨q0, e0⟩ : ∃ q, pS z = q := ⟨_, rfl⟩
  obtain ⟨q1, e1⟩ : ∃ q, pC z = q := ⟨_, rfl⟩
  obtain ⟨q2, e2⟩ : ∃ q, pN z = q := ⟨_, rfl⟩
  obtain ⟨q3, e3⟩ : ∃ q, pM z = q := ⟨_, rfl⟩
  obtain ⟨q4, e4⟩ : ∃ q, pG z = q := ⟨_, rfl⟩
  obtain ⟨q5, e5⟩ : ∃ q, pT z = q := ⟨_, rfl⟩
  obtain ⟨q6, e6⟩ : ∃ q, pL z = q := ⟨_, rfl⟩
  rw [e5] at hT
  have t2 : (q5 == 2) = true := by simp [hT]
  clear hT
  have l0 : 0 ≤ q6 ∧ q6 < 4096 := by rw [← e6]; unfold H.Plain.pL; omega
  rw [e6]
  have c10 : w.cell? ⟨p, 10, none⟩ = some (.int .i64 3) := hpc ▸ B.cell 10
  have c16 : w.cell? ⟨p, 16, none⟩ = some (.bool d.sh) := B.cell 16
  have f16 := B.free 16
  have hs0 : w0.heap.size ≤ w.heap.size := h.bel.size
  have K2 : Kept [p] w (w.setCell ⟨p, 16, none⟩ (.bool false)) := Kept.setCell [p] _ _ _ (by simp)
  have b2 := B.r_sh false
  have h2 := to_twoB h K2 B
  have o2 : Oth [p] w (w.setCell ⟨p, 16, none⟩ (.bool false)) := Oth.kept K2
  go_enter Tryz.func15, Tryz.ntmps15
  go_upto_region 4 with (fail)
  obtain ⟨w2, hw2⟩ : ∃ w2, w.setCell ⟨p, 16, none⟩ (.bool false) = w2 := ⟨_, rfl⟩
  rw [hw2] at b2 h2 o2 ⊢
  have hsz : w.heap.size ≤ w2.heap.size := by rw [← hw2]; exact K2.size
  clear c10 c16 f16 K2 hw2
  have c10 : w2.cell? ⟨p, 10, none⟩ = some (.int .i64 3) := hpc ▸ b2.cell 10
  have c1 : w2.cell? ⟨p, 1, none⟩ = some (.int .i64 d.r.at_) := b2.cell 1
  have c2 : w2.cell? ⟨p, 2, none⟩ = some (.int .i64 d.r.fd) := b2.cell 2
  have c11 : w2.cell? ⟨p, 11, none⟩ = some (.int .u64 d.w) := b2.cell 11
  go_upto_region 24 with (first
    | (go_at_call 41; refine (yLoad h2 (by omega) d.r.at_).mono ?_; rintro e w3 ⟨rfl, h3, o3⟩; rw [hz]; have b3 := b2.oth o3 (by simp); have o3' := o2.trans (o3.mono (by simp)); clear o3)
    | (go_at_call 20; refine (H.rOf z hU.1 hU.2 _).mono ?_; rintro e w5 ⟨rfl, hw5⟩; rw [e0, e1, e2, e3, e4, e5, e6] at hw5 ⊢; have hb5 : Below w3.heap.size w3 w5 := (by rw [hw5]; go_grown); have b5 := b3.below hb5; have h5 := h3.below hb5; have o5 := o3'.trans (Oth.below hb5); clear hw5 hb5))
  clear c10 c1 c2 c11
  have aH : Below w5.heap.size w5 (w5.alloc (.cells #[.int .i64 q0, .int .i64 q1, .int .i64 q2, .int .i64 q3, .int .i64 q4, .int .i64 q5, .int .i64 q6] 40)) := (Below.refl _ _).alloc (Nat.le_refl _) _
  have b6 := b5.below aH
  have h6 := h5.below aH
  have o6 := o5.trans (Oth.below aH)
  have H6 : Blk w0 (w5.alloc (.cells #[.int .i64 q0, .int .i64 q1, .int .i64 q2, .int .i64 q3, .int .i64 q4, .int .i64 q5, .int .i64 q6] 40)) w5.heap.size 40 #[.int .i64 q0, .int .i64 q1, .int .i64 q2, .int .i64 q3, .int .i64 q4, .int .i64 q5, .int .i64 q6] := Blk.new h5.bel.size _ (by decide)
  generalize w5.alloc (.cells #[.int .i64 q0, .int .i64 q1, .int .i64 q2, .int .i64 q3, .int .i64 q4, .int .i64 q5, .int .i64 q6] 40) = w6 at b6 h6 o6 H6 ⊢
  generalize w5.heap.size = hb at H6 ⊢
  clear aH
  have k2 : w6.cell? ⟨hb, 2, none⟩ = some (.int .i64 q2) := H6.cell 2
  have k5 : w6.cell? ⟨hb, 5, none⟩ = some (.int .i64 q5) := H6.cell 5
  have k6 : w6.cell? ⟨hb, 6, none⟩ = some (.int .i64 q6) := H6.cell 6
  have c0 : w6.cell? ⟨p, 0, none⟩ = some (.int .i64 d.r.op) := b6.cell 0
  have c1 : w6.cell? ⟨p, 1, none⟩ = some (.int .i64 d.r.at_) := b6.cell 1
  have c2 : w6.cell? ⟨p, 2, none⟩ = some (.int .i64 d.r.fd) := b6.cell 2
  have c10 : w6.cell? ⟨p, 10, none⟩ = some (.int .i64 3) := hpc ▸ b6.cell 10
  have f10 := b6.free 10
  have c17 : w6.cell? ⟨p, 17, none⟩ = some (.int .i64 d.o.c) := b6.cell 17
  have f17 := b6.free 17
  have lh := H6.lt
  go_upto_region 25 with (fail)
  have K7 : Kept [p] w6 (w6.setCell ⟨p, 10, none⟩ (.int .i64 0)) := Kept.setCell [p] _ _ _ (by simp)
  have b7 := b6.r_pc 0
  have h7 := to_twoB h6 K7 b6
  have H7 := H6.oth (Oth.kept K7) (by simpa using H6.ne b6 (by decide))
  have o7 := o6.trans (Oth.kept K7)
  clear k2 k5 k6 c0 c1 c2 c10 f10 c17 f17 lh
  generalize w6.setCell ⟨p, 10, none⟩ (.int .i64 0) = w7 at b7 h7 H7 o7 ⊢
  have k5 : w7.cell? ⟨hb, 5, none⟩ = some (.int .i64 q5) := H7.cell 5
  have k6 : w7.cell? ⟨hb, 6, none⟩ = some (.int .i64 q6) := H7.cell 6
  have lh := H7.lt
  go_wp2_with (go_at_call 42; refine (rTo b7 hr hfx l0.1 l0.2).mono ?_; rintro e w8 ⟨rfl, K8, pd, np, b8, D8⟩; have c10' : w8.cell? ⟨p, 10, none⟩ = some (.int .i64 9) := b8.cell 10)
  go_ret
  exact ⟨rfl, pd, Nat.le_trans (Nat.le_trans (Nat.le_refl _) o7.size) np, ⟨to_twoB h7 K8 b7, b8, o7.trans (Oth.kept K8)⟩, D8⟩
theorem xs3e (h : Two w0 w b y s1 s2 N) (B : Blk w0 w p 62 d.cells) (hN : N + 5 < 1000000) (hpc : d.pc = 3) (hr : d.r.Ok) (hT : pT (s2.got d.r.at_) ≠ 2) :
    Calls Tryz.prog 15 #[pt p, pt y] w fun e w' => e = .returned (.bool true) ∧ XTo w0 w w' b y p s1 (s2.load d.r.at_) (N + 1) ({ d with sh := false, pc := 0, o := ⟨d.o.c, d.v, d.o.y⟩ } : RC) := by
  obtain ⟨z, hz⟩ : ∃ z, s2.got d.r.at_ = z := ⟨_, rfl⟩
  have hU : U64 z := hz ▸ h.rng2.got _
  rw [hz] at hT
  obtain ⟨q0, e0⟩ : ∃ q, pS z = q := ⟨_, rfl⟩
  obtain ⟨q1, e1⟩ : ∃ q, pC z = q := ⟨_, rfl⟩
  obtain ⟨q2, e2⟩ : ∃ q, pN z = q := ⟨_, rfl⟩
  obtain ⟨q3, e3⟩ : ∃ q, pM z = q := ⟨_, rfl⟩
  obtain ⟨q4, e4⟩ : ∃ q, pG z = q := ⟨_, rfl⟩
  obtain ⟨q5, e5⟩ : ∃ q, pT z = q := ⟨_, rfl⟩
  obtain ⟨q6, e6⟩ : ∃ q, pL z = q := ⟨_, rfl⟩
  rw [e5] at hT
  have t2 : (q5 == 2) = false := by simpa using hT
  clear hT
  have c10 : w.cell? ⟨p, 10, none⟩ = some (.int .i64 3) := hpc ▸ B.cell 10
  have c16 : w.cell? ⟨p, 16, none⟩ = some (.bool d.sh) := B.cell 16
  have f16 := B.free 16
  have hs0 : w0.heap.size ≤ w.heap.size := h.bel.size
  have K2 : Kept [p] w (w.setCell ⟨p, 16, none⟩ (.bool false)) := Kept.setCell [p] _ _ _ (by simp)
  have b2 := B.r_sh false
  have h2 := to_twoB h K2 B
  have o2 : Oth [p] w (w.setCell ⟨p, 16, none⟩ (.bool false)) := Oth.kept K2
  go_enter Tryz.func15, Tryz.ntmps15
  go_upto_region 4 with (fail)
  obtain ⟨w2, hw2⟩ : ∃ w2, w.setCell ⟨p, 16, none⟩ (.bool false) = w2 := ⟨_, rfl⟩
  rw [hw2] at b2 h2 o2 ⊢
  have hsz : w.heap.size ≤ w2.heap.size := by rw [← hw2]; exact K2.size
  clear c10 c16 f16 K2 hw2
  have c10 : w2.cell? ⟨p, 10, none⟩ = some (.int .i64 3) := hpc ▸ b2.cell 10
  have c1 : w2.cell? ⟨p, 1, none⟩ = some (.int .i64 d.r.at_) := b2.cell 1
  have c2 : w2.cell? ⟨p, 2, none⟩ = some (.int .i64 d.r.fd) := b2.cell 2
  have c11 : w2.cell? ⟨p, 11, none⟩ = some (.int .u64 d.w) := b2.cell 11
  go_upto_region 24 with (first
    | (go_at_call 41; refine (yLoad h2 (by omega) d.r.at_).mono ?_; rintro e w3 ⟨rfl, h3, o3⟩; rw [hz]; have b3 := b2.oth o3 (by simp); have o3' := o2.trans (o3.mono (by simp)); clear o3)
    | (go_at_call 20; refine (H.rOf z hU.1 hU.2 _).mono ?_; rintro e w5 ⟨rfl, hw5⟩; rw [e0, e1, e2, e3, e4, e5, e6] at hw5 ⊢; have hb5 : Below w3.heap.size w3 w5 := (by rw [hw5]; go_grown); have b5 := b3.below hb5; have h5 := h3.below hb5; have o5 := o3'.trans (Oth.below hb5); clear hw5 hb5))
  clear c10 c1 c2 c11
  have aH : Below w5.heap.size w5 (w5.alloc (.cells #[.int .i64 q0, .int .i64 q1, .int .i64 q2, .int .i64 q3, .int .i64 q4, .int .i64 q5, .int .i64 q6] 40)) := (Below.refl _ _).alloc (Nat.le_refl _) _
  have b6 := b5.below aH
  have h6 := h5.below aH
  have o6 := o5.trans (Oth.below aH)
  have H6 : Blk w0 (w5.alloc (.cells #[.int .i64 q0, .int .i64 q1, .int .i64 q2, .int .i64 q3, .int .i64 q4, .int .i64 q5, .int .i64 q6] 40)) w5.heap.size 40 #[.int .i64 q0, .int .i64 q1, .int .i64 q2, .int .i64 q3, .int .i64 q4, .int .i64 q5, .int .i64 q6] := Blk.new h5.bel.size _ (by decide)
  generalize w5.alloc (.cells #[.int .i64 q0, .int .i64 q1, .int .i64 q2, .int .i64 q3, .int .i64 q4, .int .i64 q5, .int .i64 q6] 40) = w6 at b6 h6 o6 H6 ⊢
  generalize w5.heap.size = hb at H6 ⊢
  clear aH
  have k2 : w6.cell? ⟨hb, 2, none⟩ = some (.int .i64 q2) := H6.cell 2
  have k5 : w6.cell? ⟨hb, 5, none⟩ = some (.int .i64 q5) := H6.cell 5
  have k6 : w6.cell? ⟨hb, 6, none⟩ = some (.int .i64 q6) := H6.cell 6
  have c0 : w6.cell? ⟨p, 0, none⟩ = some (.int .i64 d.r.op) := b6.cell 0
  have c1 : w6.cell? ⟨p, 1, none⟩ = some (.int .i64 d.r.at_) := b6.cell 1
  have c2 : w6.cell? ⟨p, 2, none⟩ = some (.int .i64 d.r.fd) := b6.cell 2
  have c10 : w6.cell? ⟨p, 10, none⟩ = some (.int .i64 3) := hpc ▸ b6.cell 10
  have f10 := b6.free 10
  have c17 : w6.cell? ⟨p, 17, none⟩ = some (.int .i64 d.o.c) := b6.cell 17
  have f17 := b6.free 17
  have lh := H6.lt
  go_upto_region 25 with (fail)
  have K7 : Kept [p] w6 (w6.setCell ⟨p, 10, none⟩ (.int .i64 0)) := Kept.setCell [p] _ _ _ (by simp)
  have b7 := b6.r_pc 0
  have h7 := to_twoB h6 K7 b6
  have H7 := H6.oth (Oth.kept K7) (by simpa using H6.ne b6 (by decide))
  have o7 := o6.trans (Oth.kept K7)
  clear k2 k5 k6 c0 c1 c2 c10 f10 c17 f17 lh
  generalize w6.setCell ⟨p, 10, none⟩ (.int .i64 0) = w7 at b7 h7 H7 o7 ⊢
  have k5 : w7.cell? ⟨hb, 5, none⟩ = some (.int .i64 q5) := H7.cell 5
  have k6 : w7.cell? ⟨hb, 6, none⟩ = some (.int .i64 q6) := H7.cell 6
  have lh := H7.lt
  have c12 : w7.cell? ⟨p, 12, none⟩ = some (.int .i64 d.v.k) := b7.cell 12
  have c13 : w7.cell? ⟨p, 13, none⟩ = some (.int .i64 d.v.n) := b7.cell 13
  have c18 : w7.cell? ⟨p, 18, none⟩ = some (.int .i64 d.o.v.k) := b7.cell 18
  have c19 : w7.cell? ⟨p, 19, none⟩ = some (.int .i64 d.o.v.n) := b7.cell 19
  have f18 := b7.free 18
  have f19 := b7.free 19
  have c10 : w7.cell? ⟨p, 10, none⟩ = some (.int .i64 0) := b7.cell 10
  go_wp2
  go_ret
  have K8 := kept2 w7 p 18 19 (.int .i64 d.v.k) (.int .i64 d.v.n)
  exact ⟨rfl, to_twoB h7 K8 b7, b7.r_ov d.v, o7.trans (Oth.kept K8)⟩
theorem xs4y (h : Two w0 w b y s1 s2 N) (B : Blk w0 w p 62 d.cells) (hN : N + 5 < 1000000) (hpc : d.pc = 4) (hr : d.r.Ok) (hz : U64 d.w) {fx : Bool} (hfx : (d.e.md == 8) = fx) (hok : s2.ok1 d.r.at_ d.w = true) :
    Calls Tryz.prog 15 #[pt p, pt y] w fun e w' => e = .returned (.bool false) ∧ ∃ pd, w.heap.size ≤ pd ∧ XTo w0 w w' b y p s1 (s2.cas d.r.at_ d.w (untag d.w)) (N + 1) ({ d with sh := false, pc := 9, y := pt pd } : RC) ∧ Blk w0 w' pd 111 (RD.new (d.r.at_ + 1 + d.r.fd) d.r (hwC fx)).cells := by
  obtain ⟨q0, e0⟩ : ∃ q, pS d.w = q := ⟨_, rfl⟩
  obtain ⟨q1, e1⟩ : ∃ q, pC d.w = q := ⟨_, rfl⟩
  obtain ⟨q2, e2⟩ : ∃ q, pN d.w = q := ⟨_, rfl⟩
  obtain ⟨q3, e3⟩ : ∃ q, pM d.w = q := ⟨_, rfl⟩
  obtain ⟨q4, e4⟩ : ∃ q, pG d.w = q := ⟨_, rfl⟩
  obtain ⟨q5, e5⟩ : ∃ q, pT d.w = q := ⟨_, rfl⟩
  obtain ⟨q6, e6⟩ : ∃ q, pL d.w = q := ⟨_, rfl⟩
  obtain ⟨n, hn⟩ : ∃ n, hw q0 q1 q2 q3 q4 0 0 = n := ⟨_, rfl⟩
  rw [show untag d.w = n by unfold untag; rw [e0, e1, e2, e3, e4, hn]]
  have c10 : w.cell? ⟨p, 10, none⟩ = some (.int .i64 4) := hpc ▸ B.cell 10
  have c16 : w.cell? ⟨p, 16, none⟩ = some (.bool d.sh) := B.cell 16
  have f16 := B.free 16
  have hs0 : w0.heap.size ≤ w.heap.size := h.bel.size
  have K2 : Kept [p] w (w.setCell ⟨p, 16, none⟩ (.bool false)) := Kept.setCell [p] _ _ _ (by simp)
  have b2 := B.r_sh false
  have h2 := to_twoB h K2 B
  have o2 : Oth [p] w (w.setCell ⟨p, 16, none⟩ (.bool false)) := Oth.kept K2
  go_enter Tryz.func15, Tryz.ntmps15
  go_upto_region 4 with (fail)
  obtain ⟨w2, hw2⟩ : ∃ w2, w.setCell ⟨p, 16, none⟩ (.bool false) = w2 := ⟨_, rfl⟩
  rw [hw2] at b2 h2 o2 ⊢
  have hsz : w.heap.size ≤ w2.heap.size := by rw [← hw2]; exact K2.size
  clear c10 c16 f16 K2 hw2
  have c10 : w2.cell? ⟨p, 10, none⟩ = some (.int .i64 4) := hpc ▸ b2.cell 10
  have c1 : w2.cell? ⟨p, 1, none⟩ = some (.int .i64 d.r.at_) := b2.cell 1
  have c2 : w2.cell? ⟨p, 2, none⟩ = some (.int .i64 d.r.fd) := b2.cell 2
  have c11 : w2.cell? ⟨p, 11, none⟩ = some (.int .u64 d.w) := b2.cell 11
  go_upto_region 30 with (go_at_call 20; refine (H.rOf d.w hz.1 hz.2 _).mono ?_; rintro e w5 ⟨rfl, hw5⟩; rw [e0, e1, e2, e3, e4, e5, e6] at hw5 ⊢; have hb5 : Below w2.heap.size w2 w5 := (by rw [hw5]; go_grown); have b5 := b2.below hb5; have h5 := h2.below hb5; have o5 := o2.trans (Oth.below hb5); clear hw5 hb5)
  clear c10 c1 c2 c11
  have aH : Below w5.heap.size w5 (w5.alloc (.cells #[.int .i64 q0, .int .i64 q1, .int .i64 q2, .int .i64 q3, .int .i64 q4, .int .i64 q5, .int .i64 q6] 40)) := (Below.refl _ _).alloc (Nat.le_refl _) _
  have b6 := b5.below aH
  have h6 := h5.below aH
  have o6 := o5.trans (Oth.below aH)
  have H6 : Blk w0 (w5.alloc (.cells #[.int .i64 q0, .int .i64 q1, .int .i64 q2, .int .i64 q3, .int .i64 q4, .int .i64 q5, .int .i64 q6] 40)) w5.heap.size 40 #[.int .i64 q0, .int .i64 q1, .int .i64 q2, .int .i64 q3, .int .i64 q4, .int .i64 q5, .int .i64 q6] := Blk.new h5.bel.size _ (by decide)
  generalize w5.alloc (.cells #[.int .i64 q0, .int .i64 q1, .int .i64 q2, .int .i64 q3, .int .i64 q4, .int .i64 q5, .int .i64 q6] 40) = w6 at b6 h6 o6 H6 ⊢
  have hbw' : w.heap.size ≤ w5.heap.size := o5.size
  generalize w5.heap.size = hb at H6 hbw' ⊢
  have hbw := hbw'
  clear aH
  have k5 : w6.cell? ⟨hb, 5, none⟩ = some (.int .i64 q5) := H6.cell 5
  have k6 : w6.cell? ⟨hb, 6, none⟩ = some (.int .i64 q6) := H6.cell 6
  have kf5 := H6.free 5
  have kf6 := H6.free 6
  have hbn : w.heap.size ≤ hb := hbw
  go_upto_region 32 with (fail)
  have K7 := kept2 w6 hb 5 6 (.int .i64 0) (.int .i64 0)
  have H7 : Blk w0 ((w6.setCell ⟨hb, 5, none⟩ (.int .i64 0)).setCell ⟨hb, 6, none⟩ (.int .i64 0)) hb 40 #[.int .i64 q0, .int .i64 q1, .int .i64 q2, .int .i64 q3, .int .i64 q4, .int .i64 0, .int .i64 0] := (H6.set 5 _).set 6 _
  have b7 := b6.oth (Oth.kept K7) (by simpa using b6.ne H6 (by decide))
  have h7 := to_twoB h6 K7 H6
  have o7 : Oth [hb, p] w _ := (o6.mono (by simp)).trans ((Oth.kept K7).mono (by simp))
  clear k5 k6 kf5 kf6
  generalize (w6.setCell ⟨hb, 5, none⟩ (.int .i64 0)).setCell ⟨hb, 6, none⟩ (.int .i64 0) = w7 at H7 b7 h7 o7 ⊢
  have hbd : Below w7.heap.size w7 w7.drew := (Below.refl _ _).drew
  have bd := b7.below hbd
  have hd := h7.below hbd
  have Hd' := H7.below hbd
  have od := o7.trans (Oth.below hbd)
  refine wp_region_noPanic ?_
  refine wp_region_held_drew (S := fun w' => w'.cell? ⟨p, 1, none⟩ = some (.int .i64 d.r.at_) ∧ w'.cell? ⟨p, 11, none⟩ = some (.int .u64 d.w) ∧ w'.cell? ⟨hb, 0, none⟩ = some (.int .i64 q0) ∧ w'.cell? ⟨hb, 1, none⟩ = some (.int .i64 q1) ∧ w'.cell? ⟨hb, 2, none⟩ = some (.int .i64 q2) ∧ w'.cell? ⟨hb, 3, none⟩ = some (.int .i64 q3) ∧ w'.cell? ⟨hb, 4, none⟩ = some (.int .i64 q4) ∧ w'.cell? ⟨hb, 5, none⟩ = some (.int .i64 0) ∧ w'.cell? ⟨hb, 6, none⟩ = some (.int .i64 0)) (by kernel_rfl) ⟨bd.cell 1, bd.cell 11, Hd'.cell 0, Hd'.cell 1, Hd'.cell 2, Hd'.cell 3, Hd'.cell 4, Hd'.cell 5, Hd'.cell 6⟩ (fun hHeld => ?_)
  refine tkH (i := 0) 160 (pt y) rfl rfl ?_ ?_
  · intro w hSw; (try dsimp only at hSw); go_simp
  simp only [sA1, sA2, sA3]
  refine tkH (i := 1) 161 (pt p) rfl rfl ?_ ?_
  · intro w hSw; (try dsimp only at hSw); go_simp
  simp only [sA1, sA2, sA3]
  refine tkH (i := 2) 162 (pt p) rfl rfl ?_ ?_
  · intro w hSw; (try dsimp only at hSw); go_simp
  simp only [sA1, sA2, sA3]
  refine tkH (i := 3) 163 (pt p) rfl rfl ?_ ?_
  · intro w hSw; (try dsimp only at hSw); go_simp
  simp only [sA1, sA2, sA3]
  refine tkH (i := 4) 164 (.pointer (some ⟨p, 1, none⟩)) rfl rfl ?_ ?_
  · intro w hSw; (try dsimp only at hSw); go_simp
  simp only [sA1, sA2, sA3]
  refine tkH (i := 5) 165 (.int .i64 d.r.at_) rfl rfl ?_ ?_
  · intro w hSw; (try dsimp only at hSw); go_simp
  simp only [sA1, sA2, sA3]
  refine tkH (i := 6) 166 (pt p) rfl rfl ?_ ?_
  · intro w hSw; (try dsimp only at hSw); go_simp
  simp only [sA1, sA2, sA3]
  refine tkH (i := 7) 167 (pt p) rfl rfl ?_ ?_
  · intro w hSw; (try dsimp only at hSw); go_simp
  simp only [sA1, sA2, sA3]
  refine tkH (i := 8) 168 (.pointer (some ⟨p, 11, none⟩)) rfl rfl ?_ ?_
  · intro w hSw; (try dsimp only at hSw); go_simp
  simp only [sA1, sA2, sA3]
  refine tkH (i := 9) 169 (.int .u64 d.w) rfl rfl ?_ ?_
  · intro w hSw; (try dsimp only at hSw); go_simp
  simp only [sA1, sA2, sA3]
  refine tkH (i := 10) 170 (.agg #[.int .i64 q0, .int .i64 q1, .int .i64 q2, .int .i64 q3, .int .i64 q4, .int .i64 0, .int .i64 0]) rfl rfl ?_ ?_
  · intro w hSw; (try dsimp only at hSw); go_simp
  simp only [sA1, sA2, sA3]
  refine wpAnyH_ready (rs := [11]) (by kernel_rfl) (by simp) ?_
  refine AllReadyH.cons rfl (fun K hK => ?_) AllReadyH.nil
  go_simp
  refine (H.rWord q0 q1 q2 q3 q4 0 0 _).mono ?_
  rintro e w8 ⟨rfl, hw8⟩
  rw [hn]
  have hb8 : Below w7.drew.heap.size w7.drew w8 := (by rw [hw8]; go_grown)
  have b8 := bd.below hb8
  have h8 := hd.below hb8
  have H8 := Hd'.below hb8
  have o8 := od.trans (Oth.below hb8)
  clear hw8 hb8
  refine hK.out _ _ ⟨b8.cell 1, b8.cell 11, H8.cell 0, H8.cell 1, H8.cell 2, H8.cell 3, H8.cell 4, H8.cell 5, H8.cell 6⟩ (fun hHeld => ?_)
  clear hK K
  try simp only [Act.put, sA1, sA2, sA3]
  refine wpAnyH_ready (rs := [12]) (by kernel_rfl) (by simp) ?_
  refine AllReadyH.cons rfl (fun K hK => ?_) AllReadyH.nil
  go_simp
  refine (yCAS h8 (by omega) d.r.at_ d.w (hn ▸ u64_hw _ _ _ _ _ _ _)).mono ?_
  rintro e w9 ⟨rfl, h9, o9⟩
  rw [hok]
  have b9 := b8.oth o9 (by simp)
  have H9 := H8.oth o9 (by simp)
  have o9' := o8.trans (o9.mono (by simp))
  clear o9
  refine hK.out _ _ ⟨b9.cell 1, b9.cell 11, H9.cell 0, H9.cell 1, H9.cell 2, H9.cell 3, H9.cell 4, H9.cell 5, H9.cell 6⟩ (fun hHeld => ?_)
  clear hK K
  try simp only [Act.put, sA1, sA2, sA3]
  refine tkH (i := 13) 8 (.bool true) rfl rfl ?_ ?_
  · intro w hSw; (try dsimp only at hSw); go_simp
  simp only [sA1, sA2, sA3]
  refine wpAnyH_done (by kernel_rfl) ?_ _
  refine NoPanic.normal ?_
  have c10 : w9.cell? ⟨p, 10, none⟩ = some (.int .i64 4) := hpc ▸ b9.cell 10
  have f10 := b9.free 10
  go_upto_region 34 with (fail)
  have KA : Kept [p] w9 (w9.setCell ⟨p, 10, none⟩ (.int .i64 1)) := Kept.setCell [p] _ _ _ (by simp)
  have bA := b9.r_pc 1
  have hA := to_twoB h9 KA b9
  have oA := (o9'.trans ((Oth.kept KA).mono (by simp))).drop hbn
  clear c10 f10
  generalize w9.setCell ⟨p, 10, none⟩ (.int .i64 1) = wA at bA hA oA ⊢
  have c1 : wA.cell? ⟨p, 1, none⟩ = some (.int .i64 d.r.at_) := bA.cell 1
  have c10 : wA.cell? ⟨p, 10, none⟩ = some (.int .i64 1) := bA.cell 10
  go_wp2_with (go_at_call 42; refine (rTo bA hr hfx hr.2.1 hr.2.2.1).mono ?_; rintro e w8 ⟨rfl, K8, pd, np, b8, D8⟩; have c10' : w8.cell? ⟨p, 10, none⟩ = some (.int .i64 9) := b8.cell 10)
  go_ret
  exact ⟨rfl, pd, Nat.le_trans (Nat.le_trans (Nat.le_refl _) oA.size) np, ⟨to_twoB hA K8 bA, b8, oA.trans (Oth.kept K8)⟩, D8⟩
theorem xs4n (h : Two w0 w b y s1 s2 N) (B : Blk w0 w p 62 d.cells) (hN : N + 5 < 1000000) (hpc : d.pc = 4) (hr : d.r.Ok) (hz : U64 d.w) (hok : s2.ok1 d.r.at_ d.w = false) :
    Calls Tryz.prog 15 #[pt p, pt y] w fun e w' => e = .returned (.bool false) ∧ XTo w0 w w' b y p s1 (s2.cas d.r.at_ d.w (untag d.w)) (N + 1) ({ d with sh := false, pc := 1 } : RC) := by
  obtain ⟨q0, e0⟩ : ∃ q, pS d.w = q := ⟨_, rfl⟩
  obtain ⟨q1, e1⟩ : ∃ q, pC d.w = q := ⟨_, rfl⟩
  obtain ⟨q2, e2⟩ : ∃ q, pN d.w = q := ⟨_, rfl⟩
  obtain ⟨q3, e3⟩ : ∃ q, pM d.w = q := ⟨_, rfl⟩
  obtain ⟨q4, e4⟩ : ∃ q, pG d.w = q := ⟨_, rfl⟩
  obtain ⟨q5, e5⟩ : ∃ q, pT d.w = q := ⟨_, rfl⟩
  obtain ⟨q6, e6⟩ : ∃ q, pL d.w = q := ⟨_, rfl⟩
  obtain ⟨n, hn⟩ : ∃ n, hw q0 q1 q2 q3 q4 0 0 = n := ⟨_, rfl⟩
  rw [show untag d.w = n by unfold untag; rw [e0, e1, e2, e3, e4, hn]]
  have c10 : w.cell? ⟨p, 10, none⟩ = some (.int .i64 4) := hpc ▸ B.cell 10
  have c16 : w.cell? ⟨p, 16, none⟩ = some (.bool d.sh) := B.cell 16
  have f16 := B.free 16
  have hs0 : w0.heap.size ≤ w.heap.size := h.bel.size
  have K2 : Kept [p] w (w.setCell ⟨p, 16, none⟩ (.bool false)) := Kept.setCell [p] _ _ _ (by simp)
  have b2 := B.r_sh false
  have h2 := to_twoB h K2 B
  have o2 : Oth [p] w (w.setCell ⟨p, 16, none⟩ (.bool false)) := Oth.kept K2
  go_enter Tryz.func15, Tryz.ntmps15
  go_upto_region 4 with (fail)
  obtain ⟨w2, hw2⟩ : ∃ w2, w.setCell ⟨p, 16, none⟩ (.bool false) = w2 := ⟨_, rfl⟩
  rw [hw2] at b2 h2 o2 ⊢
  have hsz : w.heap.size ≤ w2.heap.size := by rw [← hw2]; exact K2.size
  clear c10 c16 f16 K2 hw2
  have c10 : w2.cell? ⟨p, 10, none⟩ = some (.int .i64 4) := hpc ▸ b2.cell 10
  have c1 : w2.cell? ⟨p, 1, none⟩ = some (.int .i64 d.r.at_) := b2.cell 1
  have c2 : w2.cell? ⟨p, 2, none⟩ = some (.int .i64 d.r.fd) := b2.cell 2
  have c11 : w2.cell? ⟨p, 11, none⟩ = some (.int .u64 d.w) := b2.cell 11
  go_upto_region 30 with (go_at_call 20; refine (H.rOf d.w hz.1 hz.2 _).mono ?_; rintro e w5 ⟨rfl, hw5⟩; rw [e0, e1, e2, e3, e4, e5, e6] at hw5 ⊢; have hb5 : Below w2.heap.size w2 w5 := (by rw [hw5]; go_grown); have b5 := b2.below hb5; have h5 := h2.below hb5; have o5 := o2.trans (Oth.below hb5); clear hw5 hb5)
  clear c10 c1 c2 c11
  have aH : Below w5.heap.size w5 (w5.alloc (.cells #[.int .i64 q0, .int .i64 q1, .int .i64 q2, .int .i64 q3, .int .i64 q4, .int .i64 q5, .int .i64 q6] 40)) := (Below.refl _ _).alloc (Nat.le_refl _) _
  have b6 := b5.below aH
  have h6 := h5.below aH
  have o6 := o5.trans (Oth.below aH)
  have H6 : Blk w0 (w5.alloc (.cells #[.int .i64 q0, .int .i64 q1, .int .i64 q2, .int .i64 q3, .int .i64 q4, .int .i64 q5, .int .i64 q6] 40)) w5.heap.size 40 #[.int .i64 q0, .int .i64 q1, .int .i64 q2, .int .i64 q3, .int .i64 q4, .int .i64 q5, .int .i64 q6] := Blk.new h5.bel.size _ (by decide)
  generalize w5.alloc (.cells #[.int .i64 q0, .int .i64 q1, .int .i64 q2, .int .i64 q3, .int .i64 q4, .int .i64 q5, .int .i64 q6] 40) = w6 at b6 h6 o6 H6 ⊢
  have hbw' : w.heap.size ≤ w5.heap.size := o5.size
  generalize w5.heap.size = hb at H6 hbw' ⊢
  have hbw := hbw'
  clear aH
  have k5 : w6.cell? ⟨hb, 5, none⟩ = some (.int .i64 q5) := H6.cell 5
  have k6 : w6.cell? ⟨hb, 6, none⟩ = some (.int .i64 q6) := H6.cell 6
  have kf5 := H6.free 5
  have kf6 := H6.free 6
  have hbn : w.heap.size ≤ hb := hbw
  go_upto_region 32 with (fail)
  have K7 := kept2 w6 hb 5 6 (.int .i64 0) (.int .i64 0)
  have H7 : Blk w0 ((w6.setCell ⟨hb, 5, none⟩ (.int .i64 0)).setCell ⟨hb, 6, none⟩ (.int .i64 0)) hb 40 #[.int .i64 q0, .int .i64 q1, .int .i64 q2, .int .i64 q3, .int .i64 q4, .int .i64 0, .int .i64 0] := (H6.set 5 _).set 6 _
  have b7 := b6.oth (Oth.kept K7) (by simpa using b6.ne H6 (by decide))
  have h7 := to_twoB h6 K7 H6
  have o7 : Oth [hb, p] w _ := (o6.mono (by simp)).trans ((Oth.kept K7).mono (by simp))
  clear k5 k6 kf5 kf6
  generalize (w6.setCell ⟨hb, 5, none⟩ (.int .i64 0)).setCell ⟨hb, 6, none⟩ (.int .i64 0) = w7 at H7 b7 h7 o7 ⊢
  have hbd : Below w7.heap.size w7 w7.drew := (Below.refl _ _).drew
  have bd := b7.below hbd
  have hd := h7.below hbd
  have Hd' := H7.below hbd
  have od := o7.trans (Oth.below hbd)
  refine wp_region_noPanic ?_
  refine wp_region_held_drew (S := fun w' => w'.cell? ⟨p, 1, none⟩ = some (.int .i64 d.r.at_) ∧ w'.cell? ⟨p, 11, none⟩ = some (.int .u64 d.w) ∧ w'.cell? ⟨hb, 0, none⟩ = some (.int .i64 q0) ∧ w'.cell? ⟨hb, 1, none⟩ = some (.int .i64 q1) ∧ w'.cell? ⟨hb, 2, none⟩ = some (.int .i64 q2) ∧ w'.cell? ⟨hb, 3, none⟩ = some (.int .i64 q3) ∧ w'.cell? ⟨hb, 4, none⟩ = some (.int .i64 q4) ∧ w'.cell? ⟨hb, 5, none⟩ = some (.int .i64 0) ∧ w'.cell? ⟨hb, 6, none⟩ = some (.int .i64 0)) (by kernel_rfl) ⟨bd.cell 1, bd.cell 11, Hd'.cell 0, Hd'.cell 1, Hd'.cell 2, Hd'.cell 3, Hd'.cell 4, Hd'.cell 5, Hd'.cell 6⟩ (fun hHeld => ?_)
  refine tkH (i := 0) 160 (pt y) rfl rfl ?_ ?_
  · intro w hSw; (try dsimp only at hSw); go_simp
  simp only [sA1, sA2, sA3]
  refine tkH (i := 1) 161 (pt p) rfl rfl ?_ ?_
  · intro w hSw; (try dsimp only at hSw); go_simp
  simp only [sA1, sA2, sA3]
  refine tkH (i := 2) 162 (pt p) rfl rfl ?_ ?_
  · intro w hSw; (try dsimp only at hSw); go_simp
  simp only [sA1, sA2, sA3]
  refine tkH (i := 3) 163 (pt p) rfl rfl ?_ ?_
  · intro w hSw; (try dsimp only at hSw); go_simp
  simp only [sA1, sA2, sA3]
  refine tkH (i := 4) 164 (.pointer (some ⟨p, 1, none⟩)) rfl rfl ?_ ?_
  · intro w hSw; (try dsimp only at hSw); go_simp
  simp only [sA1, sA2, sA3]
  refine tkH (i := 5) 165 (.int .i64 d.r.at_) rfl rfl ?_ ?_
  · intro w hSw; (try dsimp only at hSw); go_simp
  simp only [sA1, sA2, sA3]
  refine tkH (i := 6) 166 (pt p) rfl rfl ?_ ?_
  · intro w hSw; (try dsimp only at hSw); go_simp
  simp only [sA1, sA2, sA3]
  refine tkH (i := 7) 167 (pt p) rfl rfl ?_ ?_
  · intro w hSw; (try dsimp only at hSw); go_simp
  simp only [sA1, sA2, sA3]
  refine tkH (i := 8) 168 (.pointer (some ⟨p, 11, none⟩)) rfl rfl ?_ ?_
  · intro w hSw; (try dsimp only at hSw); go_simp
  simp only [sA1, sA2, sA3]
  refine tkH (i := 9) 169 (.int .u64 d.w) rfl rfl ?_ ?_
  · intro w hSw; (try dsimp only at hSw); go_simp
  simp only [sA1, sA2, sA3]
  refine tkH (i := 10) 170 (.agg #[.int .i64 q0, .int .i64 q1, .int .i64 q2, .int .i64 q3, .int .i64 q4, .int .i64 0, .int .i64 0]) rfl rfl ?_ ?_
  · intro w hSw; (try dsimp only at hSw); go_simp
  simp only [sA1, sA2, sA3]
  refine wpAnyH_ready (rs := [11]) (by kernel_rfl) (by simp) ?_
  refine AllReadyH.cons rfl (fun K hK => ?_) AllReadyH.nil
  go_simp
  refine (H.rWord q0 q1 q2 q3 q4 0 0 _).mono ?_
  rintro e w8 ⟨rfl, hw8⟩
  rw [hn]
  have hb8 : Below w7.drew.heap.size w7.drew w8 := (by rw [hw8]; go_grown)
  have b8 := bd.below hb8
  have h8 := hd.below hb8
  have H8 := Hd'.below hb8
  have o8 := od.trans (Oth.below hb8)
  clear hw8 hb8
  refine hK.out _ _ ⟨b8.cell 1, b8.cell 11, H8.cell 0, H8.cell 1, H8.cell 2, H8.cell 3, H8.cell 4, H8.cell 5, H8.cell 6⟩ (fun hHeld => ?_)
  clear hK K
  try simp only [Act.put, sA1, sA2, sA3]
  refine wpAnyH_ready (rs := [12]) (by kernel_rfl) (by simp) ?_
  refine AllReadyH.cons rfl (fun K hK => ?_) AllReadyH.nil
  go_simp
  refine (yCAS h8 (by omega) d.r.at_ d.w (hn ▸ u64_hw _ _ _ _ _ _ _)).mono ?_
  rintro e w9 ⟨rfl, h9, o9⟩
  rw [hok]
  have b9 := b8.oth o9 (by simp)
  have H9 := H8.oth o9 (by simp)
  have o9' := o8.trans (o9.mono (by simp))
  clear o9
  refine hK.out _ _ ⟨b9.cell 1, b9.cell 11, H9.cell 0, H9.cell 1, H9.cell 2, H9.cell 3, H9.cell 4, H9.cell 5, H9.cell 6⟩ (fun hHeld => ?_)
  clear hK K
  try simp only [Act.put, sA1, sA2, sA3]
  refine tkH (i := 13) 8 (.bool false) rfl rfl ?_ ?_
  · intro w hSw; (try dsimp only at hSw); go_simp
  simp only [sA1, sA2, sA3]
  refine wpAnyH_done (by kernel_rfl) ?_ _
  refine NoPanic.normal ?_
  have c10 : w9.cell? ⟨p, 10, none⟩ = some (.int .i64 4) := hpc ▸ b9.cell 10
  have f10 := b9.free 10
  go_upto_region 34 with (fail)
  have KA : Kept [p] w9 (w9.setCell ⟨p, 10, none⟩ (.int .i64 1)) := Kept.setCell [p] _ _ _ (by simp)
  have bA := b9.r_pc 1
  have hA := to_twoB h9 KA b9
  have oA := (o9'.trans ((Oth.kept KA).mono (by simp))).drop hbn
  clear c10 f10
  generalize w9.setCell ⟨p, 10, none⟩ (.int .i64 1) = wA at bA hA oA ⊢
  have c1 : wA.cell? ⟨p, 1, none⟩ = some (.int .i64 d.r.at_) := bA.cell 1
  have c10 : wA.cell? ⟨p, 10, none⟩ = some (.int .i64 1) := bA.cell 10
  go_wp2
  go_ret
  exact ⟨rfl, hA, bA, oA⟩
theorem xs8n (h : Two w0 w b y s1 s2 N) (B : Blk w0 w p 62 d.cells) (hN : N + 5 < 1000000) {px : Nat} {F : List Nat} {x : Sx} (hpc : d.pc = 8) (hx : d.x = pt px) (M : RPm w0 w px F x) (hpF : p ∉ px :: F) (hnF : ∀ q ∈ px :: F, q ≠ p) (hd : (x.next s2).done = false) :
    Calls Tryz.prog 15 #[pt p, pt y] w fun e w' => e = .returned (.bool false) ∧ Two w0 w' b y s1 (x.mem s2) (N + 1) ∧ Blk w0 w' p 62 ({ d with sh := (x.next s2).hit } : RC).cells ∧ Oth (p :: px :: F) w w' ∧ ∃ F', RPm w0 w' px F' (x.next s2) ∧ ∀ k ∈ F', k ∈ F ∨ w.heap.size ≤ k := by
  obtain ⟨x', hx'⟩ : ∃ x', x.next s2 = x' := ⟨_, rfl⟩
  rw [hx'] at hd ⊢
  have hlp := B.lt
  have c10 : w.cell? ⟨p, 10, none⟩ = some (.int .i64 8) := hpc ▸ B.cell 10
  have c16 : w.cell? ⟨p, 16, none⟩ = some (.bool d.sh) := B.cell 16
  have f16 := B.free 16
  have hs0 : w0.heap.size ≤ w.heap.size := h.bel.size
  have K2 : Kept [p] w (w.setCell ⟨p, 16, none⟩ (.bool false)) := Kept.setCell [p] _ _ _ (by simp)
  have b2 := B.r_sh false
  have h2 := to_twoB h K2 B
  have o2 : Oth [p] w (w.setCell ⟨p, 16, none⟩ (.bool false)) := Oth.kept K2
  go_enter Tryz.func15, Tryz.ntmps15
  go_upto_region 4 with (fail)
  obtain ⟨w2, hw2⟩ : ∃ w2, w.setCell ⟨p, 16, none⟩ (.bool false) = w2 := ⟨_, rfl⟩
  rw [hw2] at b2 h2 o2 ⊢
  have hsz : w.heap.size ≤ w2.heap.size := by rw [← hw2]; exact K2.size
  clear c10 c16 f16 K2 hw2
  have c10 : w2.cell? ⟨p, 10, none⟩ = some (.int .i64 8) := hpc ▸ b2.cell 10
  have c1 : w2.cell? ⟨p, 1, none⟩ = some (.int .i64 d.r.at_) := b2.cell 1
  have c2 : w2.cell? ⟨p, 2, none⟩ = some (.int .i64 d.r.fd) := b2.cell 2
  have c11 : w2.cell? ⟨p, 11, none⟩ = some (.int .u64 d.w) := b2.cell 11
  have M2 := M.oth o2 (by simpa using hnF px (by simp)) (fun q hq => by simpa using hnF q (by simp [hq]))
  have c14 : w2.cell? ⟨p, 14, none⟩ = some (pt px) := hx ▸ b2.cell 14
  go_upto_region 38 with (go_at_call 45; refine (rPStep h2 M2 hN).mono ?_; rintro e w3 ⟨rfl, t3, o3, F', M3, fr⟩; rw [hx'] at M3 ⊢; rw [hd])
  have b3 := b2.oth o3 hpF
  have px3 : px ≠ p := hnF px (by simp)
  have hF' : ∀ k ∈ F', k ≠ p := fun k hk e => by
    rcases fr k hk with h' | h'
    · exact hnF k (by simp [h']) e
    · omega
  have s3 := M3.shown
  have e14 : w3.cell? ⟨p, 14, none⟩ = some (pt px) := hx ▸ b3.cell 14
  have e16 : w3.cell? ⟨p, 16, none⟩ = some (.bool false) := b3.cell 16
  have ef16 := b3.free 16
  go_upto_region 39 with (fail)
  have K4 : Kept [p] w3 (w3.setCell ⟨p, 16, none⟩ (.bool x'.hit)) := Kept.setCell [p] _ _ _ (by simp)
  have b4 := b3.r_sh x'.hit
  have t4 := to_twoB t3 K4 b3
  have M4 := M3.oth (G := [p]) (Oth.kept K4) (by simpa using px3) (fun q hq => by simpa using hF' q hq)
  have o4 : Oth (p :: px :: F) w _ := (o2.mono (by simp)).trans ((o3.mono (fun k hk => by simp at hk ⊢; exact .inr hk)).trans ((Oth.kept K4).mono (by simp)))
  clear e14 e16 ef16 s3
  generalize w3.setCell ⟨p, 16, none⟩ (.bool x'.hit) = w4 at b4 t4 M4 o4 ⊢
  have c10' : w4.cell? ⟨p, 10, none⟩ = some (.int .i64 8) := hpc ▸ b4.cell 10
  go_wp2
  go_ret
  exact ⟨rfl, t4, by simpa only [RC.cells, hpc, hx] using b4, o4, F', M4, fun k hk => (fr k hk).imp id fun h' => Nat.le_trans hsz h'⟩
theorem xs8d (h : Two w0 w b y s1 s2 N) (B : Blk w0 w p 62 d.cells) (hN : N + 5 < 1000000) {px : Nat} {F : List Nat} {x : Sx} (hpc : d.pc = 8) (hx : d.x = pt px) (M : RPm w0 w px F x) (hpF : p ∉ px :: F) (hnF : ∀ q ∈ px :: F, q ≠ p) (hd : (x.next s2).done = true) :
    Calls Tryz.prog 15 #[pt p, pt y] w fun e w' => e = .returned (.bool true) ∧ Two w0 w' b y s1 (x.mem s2) (N + 1) ∧ Blk w0 w' p 62 ({ d with sh := (x.next s2).hit, pc := 0, o := (x.next s2).o } : RC).cells ∧ Oth (p :: px :: F) w w' := by
  obtain ⟨x', hx'⟩ : ∃ x', x.next s2 = x' := ⟨_, rfl⟩
  rw [hx'] at hd ⊢
  have hlp := B.lt
  have c10 : w.cell? ⟨p, 10, none⟩ = some (.int .i64 8) := hpc ▸ B.cell 10
  have c16 : w.cell? ⟨p, 16, none⟩ = some (.bool d.sh) := B.cell 16
  have f16 := B.free 16
  have hs0 : w0.heap.size ≤ w.heap.size := h.bel.size
  have K2 : Kept [p] w (w.setCell ⟨p, 16, none⟩ (.bool false)) := Kept.setCell [p] _ _ _ (by simp)
  have b2 := B.r_sh false
  have h2 := to_twoB h K2 B
  have o2 : Oth [p] w (w.setCell ⟨p, 16, none⟩ (.bool false)) := Oth.kept K2
  go_enter Tryz.func15, Tryz.ntmps15
  go_upto_region 4 with (fail)
  obtain ⟨w2, hw2⟩ : ∃ w2, w.setCell ⟨p, 16, none⟩ (.bool false) = w2 := ⟨_, rfl⟩
  rw [hw2] at b2 h2 o2 ⊢
  have hsz : w.heap.size ≤ w2.heap.size := by rw [← hw2]; exact K2.size
  clear c10 c16 f16 K2 hw2
  have c10 : w2.cell? ⟨p, 10, none⟩ = some (.int .i64 8) := hpc ▸ b2.cell 10
  have c1 : w2.cell? ⟨p, 1, none⟩ = some (.int .i64 d.r.at_) := b2.cell 1
  have c2 : w2.cell? ⟨p, 2, none⟩ = some (.int .i64 d.r.fd) := b2.cell 2
  have c11 : w2.cell? ⟨p, 11, none⟩ = some (.int .u64 d.w) := b2.cell 11
  have M2 := M.oth o2 (by simpa using hnF px (by simp)) (fun q hq => by simpa using hnF q (by simp [hq]))
  have c14 : w2.cell? ⟨p, 14, none⟩ = some (pt px) := hx ▸ b2.cell 14
  go_upto_region 38 with (go_at_call 45; refine (rPStep h2 M2 hN).mono ?_; rintro e w3 ⟨rfl, t3, o3, F', M3, fr⟩; rw [hx'] at M3 ⊢; rw [hd])
  have b3 := b2.oth o3 hpF
  have px3 : px ≠ p := hnF px (by simp)
  have hF' : ∀ k ∈ F', k ≠ p := fun k hk e => by
    rcases fr k hk with h' | h'
    · exact hnF k (by simp [h']) e
    · omega
  have s3 := M3.shown
  have e14 : w3.cell? ⟨p, 14, none⟩ = some (pt px) := hx ▸ b3.cell 14
  have e16 : w3.cell? ⟨p, 16, none⟩ = some (.bool false) := b3.cell 16
  have ef16 := b3.free 16
  go_upto_region 39 with (fail)
  have K4 : Kept [p] w3 (w3.setCell ⟨p, 16, none⟩ (.bool x'.hit)) := Kept.setCell [p] _ _ _ (by simp)
  have b4 := b3.r_sh x'.hit
  have t4 := to_twoB t3 K4 b3
  have M4 := M3.oth (G := [p]) (Oth.kept K4) (by simpa using px3) (fun q hq => by simpa using hF' q hq)
  have o4 : Oth (p :: px :: F) w _ := (o2.mono (by simp)).trans ((o3.mono (fun k hk => by simp at hk ⊢; exact .inr hk)).trans ((Oth.kept K4).mono (by simp)))
  clear e14 e16 ef16 s3
  generalize w3.setCell ⟨p, 16, none⟩ (.bool x'.hit) = w4 at b4 t4 M4 o4 ⊢
  have c10' : w4.cell? ⟨p, 10, none⟩ = some (.int .i64 8) := hpc ▸ b4.cell 10
  have f10' := b4.free 10
  have e14 : w4.cell? ⟨p, 14, none⟩ = some (pt px) := hx ▸ b4.cell 14
  obtain ⟨pcx, oc, ok', on', oy, -, g1, g2, g3, g4, -, hq, -⟩ := M4.told
  have hox : x'.o = ⟨oc, ⟨ok', on'⟩, oy⟩ := hq hd
  have l4 := M4.lt
  have d17 : w4.cell? ⟨p, 17, none⟩ = some (.int .i64 d.o.c) := b4.cell 17
  have df17 := b4.free 17
  have d18 : w4.cell? ⟨p, 18, none⟩ = some (.int .i64 d.o.v.k) := b4.cell 18
  have df18 := b4.free 18
  have d19 : w4.cell? ⟨p, 19, none⟩ = some (.int .i64 d.o.v.n) := b4.cell 19
  have df19 := b4.free 19
  have d20 : w4.cell? ⟨p, 20, none⟩ = some (.bool d.o.y) := b4.cell 20
  have df20 := b4.free 20
  go_wp2
  go_ret
  have K5 := (kept4 w4 p 17 18 19 20 (.int .i64 oc) (.int .i64 ok') (.int .i64 on') (.bool oy)).trans (Kept.setCell [p] _ ⟨p, 10, none⟩ (.int .i64 0) (by simp)) (fun _ h => .inl h)
  exact ⟨rfl, to_twoB t4 K5 b4, by simpa only [RC.cells, hpc, hx, hox] using (b4.r_o ⟨oc, ⟨ok', on'⟩, oy⟩).r_pc 0, o4.trans ((Oth.kept K5).mono (by simp))⟩
theorem xs9n (h : Two w0 w b y s1 s2 N) (B : Blk w0 w p 62 d.cells) (hN : N + 5 < 1000000) {px : Nat} {F : List Nat} {x : Sx} (hpc : d.pc = 9) (hx : d.y = pt px) (M : RDm w0 w px F x) (hpF : p ∉ px :: F) (hnF : ∀ q ∈ px :: F, q ≠ p) (hd : (x.next s2).done = false) :
    Calls Tryz.prog 15 #[pt p, pt y] w fun e w' => e = .returned (.bool false) ∧ Two w0 w' b y s1 (x.mem s2) (N + 1) ∧ Blk w0 w' p 62 ({ d with sh := (x.next s2).hit } : RC).cells ∧ Oth (p :: px :: F) w w' ∧ ∃ F', RDm w0 w' px F' (x.next s2) ∧ ∀ k ∈ F', k ∈ F ∨ w.heap.size ≤ k := by
  obtain ⟨x', hx'⟩ : ∃ x', x.next s2 = x' := ⟨_, rfl⟩
  rw [hx'] at hd ⊢
  have hlp := B.lt
  have c10 : w.cell? ⟨p, 10, none⟩ = some (.int .i64 9) := hpc ▸ B.cell 10
  have c16 : w.cell? ⟨p, 16, none⟩ = some (.bool d.sh) := B.cell 16
  have f16 := B.free 16
  have hs0 : w0.heap.size ≤ w.heap.size := h.bel.size
  have K2 : Kept [p] w (w.setCell ⟨p, 16, none⟩ (.bool false)) := Kept.setCell [p] _ _ _ (by simp)
  have b2 := B.r_sh false
  have h2 := to_twoB h K2 B
  have o2 : Oth [p] w (w.setCell ⟨p, 16, none⟩ (.bool false)) := Oth.kept K2
  go_enter Tryz.func15, Tryz.ntmps15
  go_upto_region 4 with (fail)
  obtain ⟨w2, hw2⟩ : ∃ w2, w.setCell ⟨p, 16, none⟩ (.bool false) = w2 := ⟨_, rfl⟩
  rw [hw2] at b2 h2 o2 ⊢
  have hsz : w.heap.size ≤ w2.heap.size := by rw [← hw2]; exact K2.size
  clear c10 c16 f16 K2 hw2
  have c10 : w2.cell? ⟨p, 10, none⟩ = some (.int .i64 9) := hpc ▸ b2.cell 10
  have c1 : w2.cell? ⟨p, 1, none⟩ = some (.int .i64 d.r.at_) := b2.cell 1
  have c2 : w2.cell? ⟨p, 2, none⟩ = some (.int .i64 d.r.fd) := b2.cell 2
  have c11 : w2.cell? ⟨p, 11, none⟩ = some (.int .u64 d.w) := b2.cell 11
  have M2 := M.oth o2 (by simpa using hnF px (by simp)) (fun q hq => by simpa using hnF q (by simp [hq]))
  have c15 : w2.cell? ⟨p, 15, none⟩ = some (pt px) := hx ▸ b2.cell 15
  go_upto_region 44 with (go_at_call 46; refine (rDStep h2 M2 hN).mono ?_; rintro e w3 ⟨rfl, t3, o3, F', M3, fr⟩; rw [hx'] at M3 ⊢; rw [hd])
  have b3 := b2.oth o3 hpF
  have px3 : px ≠ p := hnF px (by simp)
  have hF' : ∀ k ∈ F', k ≠ p := fun k hk e => by
    rcases fr k hk with h' | h'
    · exact hnF k (by simp [h']) e
    · omega
  have s3 := M3.shown
  have e15 : w3.cell? ⟨p, 15, none⟩ = some (pt px) := hx ▸ b3.cell 15
  have e16 : w3.cell? ⟨p, 16, none⟩ = some (.bool false) := b3.cell 16
  have ef16 := b3.free 16
  go_upto_region 45 with (fail)
  have K4 : Kept [p] w3 (w3.setCell ⟨p, 16, none⟩ (.bool x'.hit)) := Kept.setCell [p] _ _ _ (by simp)
  have b4 := b3.r_sh x'.hit
  have t4 := to_twoB t3 K4 b3
  have M4 := M3.oth (G := [p]) (Oth.kept K4) (by simpa using px3) (fun q hq => by simpa using hF' q hq)
  have o4 : Oth (p :: px :: F) w _ := (o2.mono (by simp)).trans ((o3.mono (fun k hk => by simp at hk ⊢; exact .inr hk)).trans ((Oth.kept K4).mono (by simp)))
  clear e15 e16 ef16 s3
  generalize w3.setCell ⟨p, 16, none⟩ (.bool x'.hit) = w4 at b4 t4 M4 o4 ⊢
  have c10' : w4.cell? ⟨p, 10, none⟩ = some (.int .i64 9) := hpc ▸ b4.cell 10
  go_wp2
  go_ret
  exact ⟨rfl, t4, by simpa only [RC.cells, hpc, hx] using b4, o4, F', M4, fun k hk => (fr k hk).imp id fun h' => Nat.le_trans hsz h'⟩
theorem xs9d (h : Two w0 w b y s1 s2 N) (B : Blk w0 w p 62 d.cells) (hN : N + 5 < 1000000) {px : Nat} {F : List Nat} {x : Sx} (hpc : d.pc = 9) (hx : d.y = pt px) (M : RDm w0 w px F x) (hpF : p ∉ px :: F) (hnF : ∀ q ∈ px :: F, q ≠ p) (hd : (x.next s2).done = true) :
    Calls Tryz.prog 15 #[pt p, pt y] w fun e w' => e = .returned (.bool true) ∧ Two w0 w' b y s1 (x.mem s2) (N + 1) ∧ Blk w0 w' p 62 ({ d with sh := (x.next s2).hit, pc := 0, o := (x.next s2).o } : RC).cells ∧ Oth (p :: px :: F) w w' := by
  obtain ⟨x', hx'⟩ : ∃ x', x.next s2 = x' := ⟨_, rfl⟩
  rw [hx'] at hd ⊢
  have hlp := B.lt
  have c10 : w.cell? ⟨p, 10, none⟩ = some (.int .i64 9) := hpc ▸ B.cell 10
  have c16 : w.cell? ⟨p, 16, none⟩ = some (.bool d.sh) := B.cell 16
  have f16 := B.free 16
  have hs0 : w0.heap.size ≤ w.heap.size := h.bel.size
  have K2 : Kept [p] w (w.setCell ⟨p, 16, none⟩ (.bool false)) := Kept.setCell [p] _ _ _ (by simp)
  have b2 := B.r_sh false
  have h2 := to_twoB h K2 B
  have o2 : Oth [p] w (w.setCell ⟨p, 16, none⟩ (.bool false)) := Oth.kept K2
  go_enter Tryz.func15, Tryz.ntmps15
  go_upto_region 4 with (fail)
  obtain ⟨w2, hw2⟩ : ∃ w2, w.setCell ⟨p, 16, none⟩ (.bool false) = w2 := ⟨_, rfl⟩
  rw [hw2] at b2 h2 o2 ⊢
  have hsz : w.heap.size ≤ w2.heap.size := by rw [← hw2]; exact K2.size
  clear c10 c16 f16 K2 hw2
  have c10 : w2.cell? ⟨p, 10, none⟩ = some (.int .i64 9) := hpc ▸ b2.cell 10
  have c1 : w2.cell? ⟨p, 1, none⟩ = some (.int .i64 d.r.at_) := b2.cell 1
  have c2 : w2.cell? ⟨p, 2, none⟩ = some (.int .i64 d.r.fd) := b2.cell 2
  have c11 : w2.cell? ⟨p, 11, none⟩ = some (.int .u64 d.w) := b2.cell 11
  have M2 := M.oth o2 (by simpa using hnF px (by simp)) (fun q hq => by simpa using hnF q (by simp [hq]))
  have c15 : w2.cell? ⟨p, 15, none⟩ = some (pt px) := hx ▸ b2.cell 15
  go_upto_region 44 with (go_at_call 46; refine (rDStep h2 M2 hN).mono ?_; rintro e w3 ⟨rfl, t3, o3, F', M3, fr⟩; rw [hx'] at M3 ⊢; rw [hd])
  have b3 := b2.oth o3 hpF
  have px3 : px ≠ p := hnF px (by simp)
  have hF' : ∀ k ∈ F', k ≠ p := fun k hk e => by
    rcases fr k hk with h' | h'
    · exact hnF k (by simp [h']) e
    · omega
  have s3 := M3.shown
  have e15 : w3.cell? ⟨p, 15, none⟩ = some (pt px) := hx ▸ b3.cell 15
  have e16 : w3.cell? ⟨p, 16, none⟩ = some (.bool false) := b3.cell 16
  have ef16 := b3.free 16
  go_upto_region 45 with (fail)
  have K4 : Kept [p] w3 (w3.setCell ⟨p, 16, none⟩ (.bool x'.hit)) := Kept.setCell [p] _ _ _ (by simp)
  have b4 := b3.r_sh x'.hit
  have t4 := to_twoB t3 K4 b3
  have M4 := M3.oth (G := [p]) (Oth.kept K4) (by simpa using px3) (fun q hq => by simpa using hF' q hq)
  have o4 : Oth (p :: px :: F) w _ := (o2.mono (by simp)).trans ((o3.mono (fun k hk => by simp at hk ⊢; exact .inr hk)).trans ((Oth.kept K4).mono (by simp)))
  clear e15 e16 ef16 s3
  generalize w3.setCell ⟨p, 16, none⟩ (.bool x'.hit) = w4 at b4 t4 M4 o4 ⊢
  have c10' : w4.cell? ⟨p, 10, none⟩ = some (.int .i64 9) := hpc ▸ b4.cell 10
  have f10' := b4.free 10
  have e15 : w4.cell? ⟨p, 15, none⟩ = some (pt px) := hx ▸ b4.cell 15
  obtain ⟨pcx, oc, ok', on', oy, -, g1, g2, g3, g4, -, hq, -⟩ := M4.told
  have hox : x'.o = ⟨oc, ⟨ok', on'⟩, oy⟩ := hq hd
  have l4 := M4.lt
  have d17 : w4.cell? ⟨p, 17, none⟩ = some (.int .i64 d.o.c) := b4.cell 17
  have df17 := b4.free 17
  have d18 : w4.cell? ⟨p, 18, none⟩ = some (.int .i64 d.o.v.k) := b4.cell 18
  have df18 := b4.free 18
  have d19 : w4.cell? ⟨p, 19, none⟩ = some (.int .i64 d.o.v.n) := b4.cell 19
  have df19 := b4.free 19
  have d20 : w4.cell? ⟨p, 20, none⟩ = some (.bool d.o.y) := b4.cell 20
  have df20 := b4.free 20
  go_wp2
  go_ret
  have K5 := (kept4 w4 p 17 18 19 20 (.int .i64 oc) (.int .i64 ok') (.int .i64 on') (.bool oy)).trans (Kept.setCell [p] _ ⟨p, 10, none⟩ (.int .i64 0) (by simp)) (fun _ h => .inl h)
  exact ⟨rfl, to_twoB t4 K5 b4, by simpa only [RC.cells, hpc, hx, hox] using (b4.r_o ⟨oc, ⟨ok', on'⟩, oy⟩).r_pc 0, o4.trans ((Oth.kept K5).mono (by simp))⟩
end
end Go.Proofs.YtahafmglidlcnaaGreatDoor
