import Derived.Test.YtpcoldpphihfmaaGreatDoorRt
import Derived.Test.YtpcoldpphihfmaaGreatDoorRef2
import Derived.Test.YtpcoldpphihfmaaGreatDoorVu
import Derived.WalkMore
import Derived.BigQuiet
namespace Go.Proofs.YtpcoldpphihfmaaGreatDoor
set_option linter.unusedVariables false
set_option linter.unusedSimpArgs false
set_option maxRecDepth 100000
open Go.ChangeShapes Go.WideShapes Go.RowKit
open H.Plain (hw pS pC pN pM pG pT pL mv)
structure RC where
 r : Rq
 e : En
 pc : Int
 wide : Int
 f : Int
 s : Int
 stat : Int
 w : Int
 final : Int
 x : Value
 y : Value
 sh : Bool
 o : Ou
def RC.cells (d : RC) : Array Value := #[.int .i64 d.r.op, .int .i64 d.r.at_, .int .i64 d.r.fd, .int .i64 d.r.x.k, .int .i64 d.r.x.n, .int .i64 d.r.y.k, .int .i64 d.r.y.n, .int .i64 d.e.md, .int .i64 d.e.mr, .int .i64 d.e.al, .int .i64 d.pc, .int .i64 d.wide, .int .i64 d.f, .int .i64 d.s, .int .u64 d.stat, .int .u64 d.w, .int .i64 d.final, d.x, d.y, .bool d.sh, .int .i64 d.o.c, .int .i64 d.o.v.k, .int .i64 d.o.v.n, .bool d.o.y]
theorem neValT {a b : Vl} (h : a = b) (w : World) : (binOp .neq 38 (.agg #[.int .i64 a.k, .int .i64 a.n]) (.agg #[.int .i64 b.k, .int .i64 b.n])).run Tryz.prog w = .ok (.bool false) w := by
 subst h
 obtain ⟨x0, x1⟩ := a
 have u3 := Tryz.underlying3
 have a3 := Tryz.isAgg3
 have z3 := Tryz.sizeOf3
 have hS : Tryz.prog.underlying 38 = some (.struct (Tryz.prog.fieldsOf 38)) := by kernel_rfl
 have hp : Tryz.prog.stoodInHeld 38 = false := by kernel_rfl
 rw [run_neq_struct, show (10000 : Nat) = 9999 + 1 from rfl, run_equalIn_agg w 9999 38 _ _ hS hp]
 simp only [Program.fieldsOf, Tryz.underlying38]
 go_simp
theorem neValF {a b : Vl} (h : a ≠ b) (w : World) : (binOp .neq 38 (.agg #[.int .i64 a.k, .int .i64 a.n]) (.agg #[.int .i64 b.k, .int .i64 b.n])).run Tryz.prog w = .ok (.bool true) w := by
 obtain ⟨x0, x1⟩ := a
 obtain ⟨y0, y1⟩ := b
 have u3 := Tryz.underlying3
 have a3 := Tryz.isAgg3
 have z3 := Tryz.sizeOf3
 have hS : Tryz.prog.underlying 38 = some (.struct (Tryz.prog.fieldsOf 38)) := by kernel_rfl
 have hp : Tryz.prog.stoodInHeld 38 = false := by kernel_rfl
 rw [run_neq_struct, show (10000 : Nat) = 9999 + 1 from rfl, run_equalIn_agg w 9999 38 _ _ hS hp]
 simp only [Program.fieldsOf, Tryz.underlying38]
 go_simp
 by_cases h1 : x0 = y0 <;> by_cases h2 : x1 = y1 <;> simp_all
section
variable {w0 w w' : World} {b y p : Nat} {s1 s2 : St} {N : Nat} {d : RC}
theorem Blk.r_pc (B : Blk w0 w p 62 d.cells) (v : Int) : Blk w0 (w.setCell ⟨p, 10, none⟩ (.int .i64 v)) p 62 ({ d with pc := v } : RC).cells := B.set 10 _
theorem Blk.r_wide (B : Blk w0 w p 62 d.cells) (v : Int) : Blk w0 (w.setCell ⟨p, 11, none⟩ (.int .i64 v)) p 62 ({ d with wide := v } : RC).cells := B.set 11 _
theorem Blk.r_f (B : Blk w0 w p 62 d.cells) (v : Int) : Blk w0 (w.setCell ⟨p, 12, none⟩ (.int .i64 v)) p 62 ({ d with f := v } : RC).cells := B.set 12 _
theorem Blk.r_s (B : Blk w0 w p 62 d.cells) (v : Int) : Blk w0 (w.setCell ⟨p, 13, none⟩ (.int .i64 v)) p 62 ({ d with s := v } : RC).cells := B.set 13 _
theorem Blk.r_stat (B : Blk w0 w p 62 d.cells) (v : Int) : Blk w0 (w.setCell ⟨p, 14, none⟩ (.int .u64 v)) p 62 ({ d with stat := v } : RC).cells := B.set 14 _
theorem Blk.r_w (B : Blk w0 w p 62 d.cells) (v : Int) : Blk w0 (w.setCell ⟨p, 15, none⟩ (.int .u64 v)) p 62 ({ d with w := v } : RC).cells := B.set 15 _
theorem Blk.r_final (B : Blk w0 w p 62 d.cells) (v : Int) : Blk w0 (w.setCell ⟨p, 16, none⟩ (.int .i64 v)) p 62 ({ d with final := v } : RC).cells := B.set 16 _
theorem Blk.r_x (B : Blk w0 w p 62 d.cells) (v : Value) : Blk w0 (w.setCell ⟨p, 17, none⟩ (v)) p 62 ({ d with x := v } : RC).cells := B.set 17 _
theorem Blk.r_y (B : Blk w0 w p 62 d.cells) (v : Value) : Blk w0 (w.setCell ⟨p, 18, none⟩ (v)) p 62 ({ d with y := v } : RC).cells := B.set 18 _
theorem Blk.r_sh (B : Blk w0 w p 62 d.cells) (v : Bool) : Blk w0 (w.setCell ⟨p, 19, none⟩ (.bool v)) p 62 ({ d with sh := v } : RC).cells := B.set 19 _
theorem Blk.r_oc (B : Blk w0 w p 62 d.cells) (v : Int) : Blk w0 (w.setCell ⟨p, 20, none⟩ (.int .i64 v)) p 62 ({ d with o := ⟨v, d.o.v, d.o.y⟩ } : RC).cells := B.set 20 _
theorem Blk.r_ov (B : Blk w0 w p 62 d.cells) (v : Vl) : Blk w0 ((w.setCell ⟨p, 21, none⟩ (.int .i64 v.k)).setCell ⟨p, 22, none⟩ (.int .i64 v.n)) p 62 ({ d with o := ⟨d.o.c, v, d.o.y⟩ } : RC).cells := (B.set 21 _).set 22 _
theorem Blk.r_oy (B : Blk w0 w p 62 d.cells) (v : Bool) : Blk w0 (w.setCell ⟨p, 23, none⟩ (.bool v)) p 62 ({ d with o := ⟨d.o.c, d.o.v, v⟩ } : RC).cells := B.set 23 _
theorem Blk.r_o (B : Blk w0 w p 62 d.cells) (v : Ou) : Blk w0 ((((w.setCell ⟨p, 20, none⟩ (.int .i64 v.c)).setCell ⟨p, 21, none⟩ (.int .i64 v.v.k)).setCell ⟨p, 22, none⟩ (.int .i64 v.v.n)).setCell ⟨p, 23, none⟩ (.bool v.y)) p 62 ({ d with o := v } : RC).cells := (((B.set 20 _).set 21 _).set 22 _).set 23 _
theorem kept2 (w : World) (p i j : Nat) (v0 v1 : Value) : Kept [p] w ((w.setCell ⟨p, i, none⟩ v0).setCell ⟨p, j, none⟩ v1) := (Kept.setCell [p] _ _ _ (by simp)).tr (Kept.setCell [p] _ _ _ (by simp))
theorem kept4 (w : World) (p i j k l : Nat) (v0 v1 v2 v3 : Value) : Kept [p] w ((((w.setCell ⟨p, i, none⟩ v0).setCell ⟨p, j, none⟩ v1).setCell ⟨p, k, none⟩ v2).setCell ⟨p, l, none⟩ v3) := (((Kept.setCell [p] _ _ _ (by simp)).tr (Kept.setCell [p] _ _ _ (by simp))).tr (Kept.setCell [p] _ _ _ (by simp))).tr (Kept.setCell [p] _ _ _ (by simp))
structure XTo (w0 w w' : World) (b y p : Nat) (s1 s2 : St) (N : Nat) (d : RC) : Prop where
 two : Two w0 w' b y s1 s2 N
 blk : Blk w0 w' p 62 d.cells
 oth : Oth [p] w w'
theorem XTo.kept {s : St} {N' : Nat} {d' d'' : RC} {w'' : World} (t : XTo w0 w w' b y p s1 s N' d') (K : Kept [p] w' w'') (B : Blk w0 w'' p 62 d''.cells) : XTo w0 w w'' b y p s1 s N' d'' := ⟨to_twoB t.two K t.blk, B, t.oth.trans (Oth.kept K)⟩
theorem XTo.below {s : St} {N' : Nat} {d' : RC} {w'' : World} (t : XTo w0 w w' b y p s1 s N' d') (hb : Below w'.heap.size w' w'') : XTo w0 w w'' b y p s1 s N' d' := ⟨t.two.below hb, t.blk.below hb, t.oth.trans (Oth.below hb)⟩
theorem XTo.mem {s s' : St} {N' N'' : Nat} {d' : RC} {w'' : World} (t : XTo w0 w w' b y p s1 s N' d') (h : Two w0 w'' b y s1 s' N'') (o : Oth [] w' w'') : XTo w0 w w'' b y p s1 s' N'' d' := ⟨h, t.blk.oth o (by simp), t.oth.trans (o.mono (by simp))⟩
theorem XTo.one (t : XTo w0 w w' b y p s1 s2 N d) (i : Nat) (u : Value) {d'' : RC} (B : Blk w0 (w'.setCell ⟨p, i, none⟩ u) p 62 d''.cells) : XTo w0 w (w'.setCell ⟨p, i, none⟩ u) b y p s1 s2 N d'' := t.kept (Kept.setCell [p] _ _ _ (by simp)) B
theorem yCAS2 (h : Two w0 w b y s1 s2 N) (hN : N < 1000000) (a o0 o1 : Int) {x0 x1 : Int} (h0 : U64 x0) (h1 : U64 x1) :
  Calls Tryz.prog 57 #[pt y, .int .i64 a, .int .u64 o0, .int .u64 o1, .int .u64 x0, .int .u64 x1] w fun e w' => e = .returned (.bool (s2.ok2 a o0 o1)) ∧ Two w0 w' b y s1 (s2.cas2 a o0 o1 x0 x1) (N + 1) ∧ Oth [] w w' := by
 have ht := h.top2
 have hc : s2.c < 1000000 := by omega
 have f := h.fit2
 have r := h.rng2
 obtain ⟨M, rfl, A, k⟩ := h.step2
 refine (rCAS2 A f hc a o0 o1 x0 x1).mono ?_
 rintro e w' ⟨rfl, L', A', g⟩
 exact ⟨rfl, k A' g (f.cas2 hc a o0 o1 x0 x1) (rng_cas2 r a o0 o1 h0 h1) (by rw [St.c_cas2]; omega) (by omega)⟩
theorem yPair (wd fd : Int) (h0 : 0 ≤ wd) (h1 : wd < 4096) (h2 : 0 ≤ fd) (h3 : fd < 4096) (w : World) :
  Calls Tryz.prog 26 #[.int .i64 wd, .int .i64 fd] w fun e w' => e = .returned (.int .i64 (pairP wd fd)) ∧ w' = w := by
 have i1 : IntKind.i64.wrap (wd + 2) = wd + 2 := by rw [IntKind.wrap_i64]; omega
 have i2 : IntKind.i64.wrap (2 * fd) = 2 * fd := by rw [IntKind.wrap_i64]; omega
 have i3 : IntKind.i64.wrap (wd + 2 + 2 * fd) = wd + 2 + 2 * fd := by rw [IntKind.wrap_i64]; omega
 unfold pairP
 go_enter Tryz.func26, Tryz.ntmps26
 go_wp2
 go_ret
 exact ⟨rfl, rfl⟩
def byP (t : Int) : Int := if t = 0 then 3 else if t = 1 then 6 else if t = 2 then 8 else 11
theorem yBy (t : Int) (w : World) : Calls Tryz.prog 53 #[.int .u64 t] w fun e w' => e = .returned (.int .i64 (byP t)) ∧ w' = w := by
 unfold byP
 by_cases h0 : t = 0
 ·subst h0
  rw [if_pos rfl]
  go_enter Tryz.func53, Tryz.ntmps53
  go_wp2
  go_ret
  exact ⟨rfl, rfl⟩
 ·rw [if_neg h0]
  have q0 : (t == 0) = false := by simpa using h0
  by_cases h1 : t = 1
  ·subst h1
   rw [if_pos rfl]
   go_enter Tryz.func53, Tryz.ntmps53
   go_wp2
   go_ret
   exact ⟨rfl, rfl⟩
  ·rw [if_neg h1]
   have q1 : (t == 1) = false := by simpa using h1
   by_cases h2 : t = 2
   ·subst h2
    rw [if_pos rfl]
    go_enter Tryz.func53, Tryz.ntmps53
    go_wp2
    go_ret
    exact ⟨rfl, rfl⟩
   ·rw [if_neg h2]
    have q2 : (t == 2) = false := by simpa using h2
    clear h0 h1 h2
    go_enter Tryz.func53, Tryz.ntmps53
    go_wp2
    go_ret
    exact ⟨rfl, rfl⟩
set_option maxHeartbeats 2000000
def toldP (r : Rq) (w : Int) : Prop := r.op = 1 ∨ r.op = 3 ∧ Vl.of w ≠ r.x
instance (r : Rq) (w : Int) : Decidable (toldP r w) := by unfold toldP; exact inferInstance
theorem yTold (B : Blk w0 w p 62 d.cells) (hr : d.r.op = 1 ∨ d.r.op = 2 ∨ d.r.op = 3) (hU : U64 d.w) {t : Bool} (ht : decide (toldP d.r d.w) = t) :
  Calls Tryz.prog 54 #[pt p] w fun e w' => e = .returned (.bool t) ∧ Below w.heap.size w w' := by
 have hbd : Below w.heap.size w w.drew := (Below.refl _ _).drew
 have Bd := B.below hbd
 rcases hr with hop | hop | hop
 ·obtain rfl : t = true := by rw [← ht]; exact decide_eq_true (.inl hop)
  go_enter Tryz.func54, Tryz.ntmps54
  go_upto_region 1 with (fail)
  refine wp_region_noPanic ?_
  refine wp_region_held_drew (S := fun w' => w'.cell? ⟨p, 0, none⟩ = some (.int .i64 1) ∧ w'.cell? ⟨p, 3, none⟩ = some (.int .i64 d.r.x.k) ∧ w'.cell? ⟨p, 4, none⟩ = some (.int .i64 d.r.x.n) ∧ w'.cell? ⟨p, 15, none⟩ = some (.int .u64 d.w)) (by kernel_rfl) ⟨hop ▸ Bd.cell 0, Bd.cell 3, Bd.cell 4, Bd.cell 15⟩ (fun hHeld => ?_)
  refine tkH (i := 0) 3 (pt p) rfl rfl ?_
  simp only [sA1, sA2, sA3]
  refine tkH (i := 1) 4 (pt p) rfl rfl ?_
  simp only [sA1, sA2, sA3]
  refine tkH (i := 2) 5 (pt p) rfl rfl ?_
  simp only [sA1, sA2, sA3]
  refine tkH (i := 3) 6 (pt p) rfl rfl ?_
  simp only [sA1, sA2, sA3]
  refine tkH (i := 4) 7 (.int .i64 1) rfl rfl ?_
  simp only [sA1, sA2, sA3]
  refine tkH (i := 5) 8 (.bool true) rfl rfl ?_
  simp only [sA1, sA2, sA3]
  refine tkH (i := 6) 9 (.bool true) rfl rfl ?_
  simp only [sA1, sA2, sA3]
  refine skipH (i := 7) 10 rfl rfl (by kernel_rfl) (by kernel_rfl) (by kernel_rfl) (fun _ _ _ h => h) (by rfl) (by assumption) ?_
  simp only [sA1, sA2, sA3]
  refine skipH (i := 8) 11 rfl rfl (by kernel_rfl) (by kernel_rfl) (by kernel_rfl) (fun _ _ _ h => h) (by rfl) (by assumption) ?_
  simp only [sA1, sA2, sA3]
  refine skipH (i := 9) 12 rfl rfl (by kernel_rfl) (by kernel_rfl) (by kernel_rfl) (fun _ _ _ h => h) (by rfl) (by assumption) ?_
  simp only [sA1, sA2, sA3]
  refine skipH (i := 10) 13 rfl rfl (by kernel_rfl) (by kernel_rfl) (by kernel_rfl) (fun _ _ _ h => h) (by rfl) (by assumption) ?_
  simp only [sA1, sA2, sA3]
  refine skipH (i := 11) 14 rfl rfl (by kernel_rfl) (by kernel_rfl) (by kernel_rfl) (fun _ _ _ h => h) (by rfl) (by assumption) ?_
  simp only [sA1, sA2, sA3]
  refine skipH (i := 12) 15 rfl rfl (by kernel_rfl) (by kernel_rfl) (by kernel_rfl) (fun _ _ _ h => h) (by rfl) (by assumption) ?_
  simp only [sA1, sA2, sA3]
  refine skipH (i := 13) 16 rfl rfl (by kernel_rfl) (by kernel_rfl) (by kernel_rfl) (fun _ _ _ h => h) (by rfl) (by assumption) ?_
  simp only [sA1, sA2, sA3]
  refine skipH (i := 14) 17 rfl rfl (by kernel_rfl) (by kernel_rfl) (by kernel_rfl) (fun _ _ _ h => h) (by rfl) (by assumption) ?_
  simp only [sA1, sA2, sA3]
  refine skipH (i := 15) 18 rfl rfl (by kernel_rfl) (by kernel_rfl) (by kernel_rfl) (fun _ _ _ h => h) (by rfl) (by assumption) ?_
  simp only [sA1, sA2, sA3]
  refine skipH (i := 16) 19 rfl rfl (by kernel_rfl) (by kernel_rfl) (by kernel_rfl) (fun _ _ _ h => h) (by rfl) (by assumption) ?_
  simp only [sA1, sA2, sA3]
  refine skipH (i := 17) 20 rfl rfl (by kernel_rfl) (by kernel_rfl) (by kernel_rfl) (fun _ _ _ h => h) (by rfl) (by assumption) ?_
  simp only [sA1, sA2, sA3]
  refine skipH (i := 18) 21 rfl rfl (by kernel_rfl) (by kernel_rfl) (by kernel_rfl) (fun _ _ _ h => h) (by rfl) (by assumption) ?_
  simp only [sA1, sA2, sA3]
  refine skipH (i := 19) 22 rfl rfl (by kernel_rfl) (by kernel_rfl) (by kernel_rfl) (fun _ _ _ h => h) (by rfl) (by assumption) ?_
  simp only [sA1, sA2, sA3]
  refine skipH (i := 20) 23 rfl rfl (by kernel_rfl) (by kernel_rfl) (by kernel_rfl) (fun _ _ _ h => h) (by rfl) (by assumption) ?_
  simp only [sA1, sA2, sA3]
  refine skipH (i := 21) 24 rfl rfl (by kernel_rfl) (by kernel_rfl) (by kernel_rfl) (fun _ _ _ h => h) (by rfl) (by assumption) ?_
  simp only [sA1, sA2, sA3]
  refine skipH (i := 22) 25 rfl rfl (by kernel_rfl) (by kernel_rfl) (by kernel_rfl) (fun _ _ _ h => h) (by rfl) (by assumption) ?_
  simp only [sA1, sA2, sA3]
  refine skipH (i := 23) 26 rfl rfl (by kernel_rfl) (by kernel_rfl) (by kernel_rfl) (fun _ _ _ h => h) (by rfl) (by assumption) ?_
  simp only [sA1, sA2, sA3]
  refine skipH (i := 24) 27 rfl rfl (by kernel_rfl) (by kernel_rfl) (by kernel_rfl) (fun _ _ _ h => h) (by rfl) (by assumption) ?_
  simp only [sA1, sA2, sA3]
  refine skipH (i := 25) 28 rfl rfl (by kernel_rfl) (by kernel_rfl) (by kernel_rfl) (fun _ _ _ h => h) (by rfl) (by assumption) ?_
  simp only [sA1, sA2, sA3]
  refine tkH (i := 26) 29 (.bool true) rfl rfl ?_
  simp only [sA1, sA2, sA3]
  refine tkH (i := 27) 2 (.bool true) rfl rfl ?_
  simp only [sA1, sA2, sA3]
  refine wpAnyH_done (by kernel_rfl) ?_ _
  refine NoPanic.normal ?_
  go_wp2
  go_ret
  exact ⟨rfl, hbd⟩
 ·obtain rfl : t = false := by rw [← ht]; exact decide_eq_false (fun h => by rcases h with h | ⟨h, _⟩ <;> omega)
  go_enter Tryz.func54, Tryz.ntmps54
  go_upto_region 1 with (fail)
  refine wp_region_noPanic ?_
  refine wp_region_held_drew (S := fun w' => w'.cell? ⟨p, 0, none⟩ = some (.int .i64 2) ∧ w'.cell? ⟨p, 3, none⟩ = some (.int .i64 d.r.x.k) ∧ w'.cell? ⟨p, 4, none⟩ = some (.int .i64 d.r.x.n) ∧ w'.cell? ⟨p, 15, none⟩ = some (.int .u64 d.w)) (by kernel_rfl) ⟨hop ▸ Bd.cell 0, Bd.cell 3, Bd.cell 4, Bd.cell 15⟩ (fun hHeld => ?_)
  refine tkH (i := 0) 3 (pt p) rfl rfl ?_
  simp only [sA1, sA2, sA3]
  refine tkH (i := 1) 4 (pt p) rfl rfl ?_
  simp only [sA1, sA2, sA3]
  refine tkH (i := 2) 5 (pt p) rfl rfl ?_
  simp only [sA1, sA2, sA3]
  refine tkH (i := 3) 6 (pt p) rfl rfl ?_
  simp only [sA1, sA2, sA3]
  refine tkH (i := 4) 7 (.int .i64 2) rfl rfl ?_
  simp only [sA1, sA2, sA3]
  refine tkH (i := 5) 8 (.bool false) rfl rfl ?_
  simp only [sA1, sA2, sA3]
  refine tkH (i := 6) 9 (.bool false) rfl rfl ?_
  simp only [sA1, sA2, sA3]
  refine tkH (i := 7) 10 (pt p) rfl rfl ?_
  simp only [sA1, sA2, sA3]
  refine tkH (i := 8) 11 (pt p) rfl rfl ?_
  simp only [sA1, sA2, sA3]
  refine tkH (i := 9) 12 (pt p) rfl rfl ?_
  simp only [sA1, sA2, sA3]
  refine tkH (i := 10) 13 (pt p) rfl rfl ?_
  simp only [sA1, sA2, sA3]
  refine tkH (i := 11) 14 (.int .i64 2) rfl rfl ?_
  simp only [sA1, sA2, sA3]
  refine tkH (i := 12) 15 (.bool false) rfl rfl ?_
  simp only [sA1, sA2, sA3]
  refine tkH (i := 13) 16 (.bool false) rfl rfl ?_
  simp only [sA1, sA2, sA3]
  refine skipH (i := 14) 17 rfl rfl (by kernel_rfl) (by kernel_rfl) (by kernel_rfl) (fun _ _ _ h => h) (by rfl) (by assumption) ?_
  simp only [sA1, sA2, sA3]
  refine skipH (i := 15) 18 rfl rfl (by kernel_rfl) (by kernel_rfl) (by kernel_rfl) (fun _ _ _ h => h) (by rfl) (by assumption) ?_
  simp only [sA1, sA2, sA3]
  refine skipH (i := 16) 19 rfl rfl (by kernel_rfl) (by kernel_rfl) (by kernel_rfl) (fun _ _ _ h => h) (by rfl) (by assumption) ?_
  simp only [sA1, sA2, sA3]
  refine skipH (i := 17) 20 rfl rfl (by kernel_rfl) (by kernel_rfl) (by kernel_rfl) (fun _ _ _ h => h) (by rfl) (by assumption) ?_
  simp only [sA1, sA2, sA3]
  refine skipH (i := 18) 21 rfl rfl (by kernel_rfl) (by kernel_rfl) (by kernel_rfl) (fun _ _ _ h => h) (by rfl) (by assumption) ?_
  simp only [sA1, sA2, sA3]
  refine skipH (i := 19) 22 rfl rfl (by kernel_rfl) (by kernel_rfl) (by kernel_rfl) (fun _ _ _ h => h) (by rfl) (by assumption) ?_
  simp only [sA1, sA2, sA3]
  refine skipH (i := 20) 23 rfl rfl (by kernel_rfl) (by kernel_rfl) (by kernel_rfl) (fun _ _ _ h => h) (by rfl) (by assumption) ?_
  simp only [sA1, sA2, sA3]
  refine skipH (i := 21) 24 rfl rfl (by kernel_rfl) (by kernel_rfl) (by kernel_rfl) (fun _ _ _ h => h) (by rfl) (by assumption) ?_
  simp only [sA1, sA2, sA3]
  refine skipH (i := 22) 25 rfl rfl (by kernel_rfl) (by kernel_rfl) (by kernel_rfl) (fun _ _ _ h => h) (by rfl) (by assumption) ?_
  simp only [sA1, sA2, sA3]
  refine skipH (i := 23) 26 rfl rfl (by kernel_rfl) (by kernel_rfl) (by kernel_rfl) (fun _ _ _ h => h) (by rfl) (by assumption) ?_
  simp only [sA1, sA2, sA3]
  refine skipH (i := 24) 27 rfl rfl (by kernel_rfl) (by kernel_rfl) (by kernel_rfl) (fun _ _ _ h => h) (by rfl) (by assumption) ?_
  simp only [sA1, sA2, sA3]
  refine tkH (i := 25) 28 (.bool false) rfl rfl ?_
  simp only [sA1, sA2, sA3]
  refine tkH (i := 26) 29 (.bool false) rfl rfl ?_
  simp only [sA1, sA2, sA3]
  refine tkH (i := 27) 2 (.bool false) rfl rfl ?_
  simp only [sA1, sA2, sA3]
  refine wpAnyH_done (by kernel_rfl) ?_ _
  refine NoPanic.normal ?_
  go_wp2
  go_ret
  exact ⟨rfl, hbd⟩
 ·by_cases hx : Vl.of d.w = d.r.x
  ·obtain rfl : t = false := by rw [← ht]; exact decide_eq_false (fun h => by rcases h with h | ⟨_, h⟩; omega; exact h hx)
   have ev := neValT hx
   simp only [Vl.of] at ev
   clear hx ht
   go_enter Tryz.func54, Tryz.ntmps54
   go_upto_region 1 with (fail)
   refine wp_region_noPanic ?_
   refine wp_region_held_drew (S := fun w' => w'.cell? ⟨p, 0, none⟩ = some (.int .i64 3) ∧ w'.cell? ⟨p, 3, none⟩ = some (.int .i64 d.r.x.k) ∧ w'.cell? ⟨p, 4, none⟩ = some (.int .i64 d.r.x.n) ∧ w'.cell? ⟨p, 15, none⟩ = some (.int .u64 d.w)) (by kernel_rfl) ⟨hop ▸ Bd.cell 0, Bd.cell 3, Bd.cell 4, Bd.cell 15⟩ (fun hHeld => ?_)
   refine tkH (i := 0) 3 (pt p) rfl rfl ?_
   simp only [sA1, sA2, sA3]
   refine tkH (i := 1) 4 (pt p) rfl rfl ?_
   simp only [sA1, sA2, sA3]
   refine tkH (i := 2) 5 (pt p) rfl rfl ?_
   simp only [sA1, sA2, sA3]
   refine tkH (i := 3) 6 (pt p) rfl rfl ?_
   simp only [sA1, sA2, sA3]
   refine tkH (i := 4) 7 (.int .i64 3) rfl rfl ?_
   simp only [sA1, sA2, sA3]
   refine tkH (i := 5) 8 (.bool false) rfl rfl ?_
   simp only [sA1, sA2, sA3]
   refine tkH (i := 6) 9 (.bool false) rfl rfl ?_
   simp only [sA1, sA2, sA3]
   refine tkH (i := 7) 10 (pt p) rfl rfl ?_
   simp only [sA1, sA2, sA3]
   refine tkH (i := 8) 11 (pt p) rfl rfl ?_
   simp only [sA1, sA2, sA3]
   refine tkH (i := 9) 12 (pt p) rfl rfl ?_
   simp only [sA1, sA2, sA3]
   refine tkH (i := 10) 13 (pt p) rfl rfl ?_
   simp only [sA1, sA2, sA3]
   refine tkH (i := 11) 14 (.int .i64 3) rfl rfl ?_
   simp only [sA1, sA2, sA3]
   refine tkH (i := 12) 15 (.bool true) rfl rfl ?_
   simp only [sA1, sA2, sA3]
   refine tkH (i := 13) 16 (.bool true) rfl rfl ?_
   simp only [sA1, sA2, sA3]
   refine tkH (i := 14) 17 (pt p) rfl rfl ?_
   simp only [sA1, sA2, sA3]
   refine tkH (i := 15) 18 (pt p) rfl rfl ?_
   simp only [sA1, sA2, sA3]
   refine tkH (i := 16) 19 (.pointer (some ⟨p, 15, none⟩)) rfl rfl ?_
   simp only [sA1, sA2, sA3]
   refine tkH (i := 17) 20 (.int .u64 d.w) rfl rfl ?_
   simp only [sA1, sA2, sA3]
   refine tkH (i := 19) 22 (pt p) rfl rfl ?_
   simp only [sA1, sA2, sA3]
   refine tkH (i := 20) 23 (pt p) rfl rfl ?_
   simp only [sA1, sA2, sA3]
   refine tkH (i := 21) 24 (pt p) rfl rfl ?_
   simp only [sA1, sA2, sA3]
   refine tkH (i := 22) 25 (.pointer (some ⟨p, 3, none⟩)) rfl rfl ?_
   simp only [sA1, sA2, sA3]
   refine tkH (i := 23) 26 (.agg #[.int .i64 d.r.x.k, .int .i64 d.r.x.n]) rfl rfl ?_
   simp only [sA1, sA2, sA3]
   refine rd1 18 rfl fun K hK => ?_
   go_simp
   refine (F.rOf d.w hU.1 hU.2 _).mono ?_
   rintro e w1 ⟨rfl, hw1⟩
   have hb1 : Below w.drew.heap.size w.drew w1 := (by rw [hw1]; go_grown)
   have B1 := Bd.below hb1
   clear hw1
   refine hK.out _ _ ⟨hop ▸ B1.cell 0, B1.cell 3, B1.cell 4, B1.cell 15⟩ (fun hHeld => ?_)
   clear hK K
   try simp only [Act.put, sA1, sA2, sA3]
   refine tkH (i := 24) 27 (.bool false) rfl rfl ?_
   simp only [sA1, sA2, sA3]
   refine tkH (i := 25) 28 (.bool false) rfl rfl ?_
   simp only [sA1, sA2, sA3]
   refine tkH (i := 26) 29 (.bool false) rfl rfl ?_
   simp only [sA1, sA2, sA3]
   refine tkH (i := 27) 2 (.bool false) rfl rfl ?_
   simp only [sA1, sA2, sA3]
   refine wpAnyH_done (by kernel_rfl) ?_ _
   refine NoPanic.normal ?_
   go_wp2
   go_ret
   exact ⟨rfl, hbd.trans hb1⟩
  ·obtain rfl : t = true := by rw [← ht]; exact decide_eq_true (.inr ⟨hop, hx⟩)
   have ev := neValF hx
   simp only [Vl.of] at ev
   clear hx ht
   go_enter Tryz.func54, Tryz.ntmps54
   go_upto_region 1 with (fail)
   refine wp_region_noPanic ?_
   refine wp_region_held_drew (S := fun w' => w'.cell? ⟨p, 0, none⟩ = some (.int .i64 3) ∧ w'.cell? ⟨p, 3, none⟩ = some (.int .i64 d.r.x.k) ∧ w'.cell? ⟨p, 4, none⟩ = some (.int .i64 d.r.x.n) ∧ w'.cell? ⟨p, 15, none⟩ = some (.int .u64 d.w)) (by kernel_rfl) ⟨hop ▸ Bd.cell 0, Bd.cell 3, Bd.cell 4, Bd.cell 15⟩ (fun hHeld => ?_)
   refine tkH (i := 0) 3 (pt p) rfl rfl ?_
   simp only [sA1, sA2, sA3]
   refine tkH (i := 1) 4 (pt p) rfl rfl ?_
   simp only [sA1, sA2, sA3]
   refine tkH (i := 2) 5 (pt p) rfl rfl ?_
   simp only [sA1, sA2, sA3]
   refine tkH (i := 3) 6 (pt p) rfl rfl ?_
   simp only [sA1, sA2, sA3]
   refine tkH (i := 4) 7 (.int .i64 3) rfl rfl ?_
   simp only [sA1, sA2, sA3]
   refine tkH (i := 5) 8 (.bool false) rfl rfl ?_
   simp only [sA1, sA2, sA3]
   refine tkH (i := 6) 9 (.bool false) rfl rfl ?_
   simp only [sA1, sA2, sA3]
   refine tkH (i := 7) 10 (pt p) rfl rfl ?_
   simp only [sA1, sA2, sA3]
   refine tkH (i := 8) 11 (pt p) rfl rfl ?_
   simp only [sA1, sA2, sA3]
   refine tkH (i := 9) 12 (pt p) rfl rfl ?_
   simp only [sA1, sA2, sA3]
   refine tkH (i := 10) 13 (pt p) rfl rfl ?_
   simp only [sA1, sA2, sA3]
   refine tkH (i := 11) 14 (.int .i64 3) rfl rfl ?_
   simp only [sA1, sA2, sA3]
   refine tkH (i := 12) 15 (.bool true) rfl rfl ?_
   simp only [sA1, sA2, sA3]
   refine tkH (i := 13) 16 (.bool true) rfl rfl ?_
   simp only [sA1, sA2, sA3]
   refine tkH (i := 14) 17 (pt p) rfl rfl ?_
   simp only [sA1, sA2, sA3]
   refine tkH (i := 15) 18 (pt p) rfl rfl ?_
   simp only [sA1, sA2, sA3]
   refine tkH (i := 16) 19 (.pointer (some ⟨p, 15, none⟩)) rfl rfl ?_
   simp only [sA1, sA2, sA3]
   refine tkH (i := 17) 20 (.int .u64 d.w) rfl rfl ?_
   simp only [sA1, sA2, sA3]
   refine tkH (i := 19) 22 (pt p) rfl rfl ?_
   simp only [sA1, sA2, sA3]
   refine tkH (i := 20) 23 (pt p) rfl rfl ?_
   simp only [sA1, sA2, sA3]
   refine tkH (i := 21) 24 (pt p) rfl rfl ?_
   simp only [sA1, sA2, sA3]
   refine tkH (i := 22) 25 (.pointer (some ⟨p, 3, none⟩)) rfl rfl ?_
   simp only [sA1, sA2, sA3]
   refine tkH (i := 23) 26 (.agg #[.int .i64 d.r.x.k, .int .i64 d.r.x.n]) rfl rfl ?_
   simp only [sA1, sA2, sA3]
   refine rd1 18 rfl fun K hK => ?_
   go_simp
   refine (F.rOf d.w hU.1 hU.2 _).mono ?_
   rintro e w1 ⟨rfl, hw1⟩
   have hb1 : Below w.drew.heap.size w.drew w1 := (by rw [hw1]; go_grown)
   have B1 := Bd.below hb1
   clear hw1
   refine hK.out _ _ ⟨hop ▸ B1.cell 0, B1.cell 3, B1.cell 4, B1.cell 15⟩ (fun hHeld => ?_)
   clear hK K
   try simp only [Act.put, sA1, sA2, sA3]
   refine tkH (i := 24) 27 (.bool true) rfl rfl ?_
   simp only [sA1, sA2, sA3]
   refine tkH (i := 25) 28 (.bool true) rfl rfl ?_
   simp only [sA1, sA2, sA3]
   refine tkH (i := 26) 29 (.bool true) rfl rfl ?_
   simp only [sA1, sA2, sA3]
   refine tkH (i := 27) 2 (.bool true) rfl rfl ?_
   simp only [sA1, sA2, sA3]
   refine wpAnyH_done (by kernel_rfl) ?_ _
   refine NoPanic.normal ?_
   go_wp2
   go_ret
   exact ⟨rfl, hbd.trans hb1⟩
theorem yWrote (B : Blk w0 w p 62 d.cells) {t : Bool} (ht : (d.r.op == 3) = t) :
  Calls Tryz.prog 56 #[pt p] w fun e w' => e = .returned (.tuple #[]) ∧ Kept [p] w w' ∧ Blk w0 w' p 62 ({ d with sh := true, o := ⟨d.o.c, d.o.v, t⟩, pc := 0 } : RC).cells := by
 have c0 : w.cell? ⟨p, 0, none⟩ = some (.int .i64 d.r.op) := B.cell 0
 have c19 : w.cell? ⟨p, 19, none⟩ = some (.bool d.sh) := B.cell 19
 have f19 := B.free 19
 have l := B.lt
 go_enter Tryz.func56, Tryz.ntmps56
 go_upto_region 1 with (fail)
 have K1 : Kept [p] w (w.setCell ⟨p, 19, none⟩ (.bool true)) := Kept.one ..
 have B1 := B.r_sh true
 clear c0 c19 f19 l
 generalize w.setCell ⟨p, 19, none⟩ (.bool true) = w1 at K1 B1 ⊢
 have c0 : w1.cell? ⟨p, 0, none⟩ = some (.int .i64 d.r.op) := B1.cell 0
 have c23 : w1.cell? ⟨p, 23, none⟩ = some (.bool d.o.y) := B1.cell 23
 have f23 := B1.free 23
 have l := B1.lt
 go_upto_region 2 with (fail)
 have K2 : Kept [p] w (w1.setCell ⟨p, 23, none⟩ (.bool t)) := K1.tr (Kept.one ..)
 have B2 := B1.r_oy t
 clear c0 c23 f23 l
 generalize w1.setCell ⟨p, 23, none⟩ (.bool t) = w2 at K2 B2 ⊢
 have c10 : w2.cell? ⟨p, 10, none⟩ = some (.int .i64 d.pc) := B2.cell 10
 have f10 := B2.free 10
 have l := B2.lt
 go_wp2
 go_end0
 exact ⟨rfl, K2.tr (Kept.one ..), B2.r_pc 0⟩
theorem yTo {base : Int} {fx : Bool} (B : Blk w0 w p 62 d.cells) (hr : d.r.Ok) (hfx : (d.e.md == 8) = fx) (h0 : 0 ≤ base) (h1 : base < 4096) :
  Calls Tryz.prog 52 #[pt p, .int .i64 base] w fun e w' => e = .returned (.tuple #[]) ∧ Kept [p] w w' ∧ ∃ pd, w.heap.size ≤ pd ∧ Blk w0 w' p 62 ({ d with pc := 21, y := pt pd } : RC).cells ∧ Blk w0 w' pd 129 (RD.new (base + 1 + d.r.fd) d.r (hwC fx)).cells := by
 have hs0 : w0.heap.size ≤ w.heap.size := Nat.le_trans B.old (Nat.le_of_lt B.lt)
 obtain ⟨pcd, hpcd⟩ : ∃ q, pcD d.r (hwC fx) = q := ⟨_, rfl⟩
 have hpn : (pcd == 0) = false := by
  rw [← hpcd]
  unfold pcD
  obtain ⟨h | h | h, _⟩ := hr <;> simp [h, hwC]
 go_enter Tryz.func52, Tryz.ntmps52
 go_upto_region 0 with (fail)
 have hbd : Below w.heap.size w w.drew := (Below.refl _ _).drew
 have Bd := B.below hbd
 have Kd : Kept [p] w w.drew := Kept.of_below hbd
 refine wp_region_noPanic ?_
 refine wp_region_held_drew (S := fun w' => w'.cell? ⟨p, 0, none⟩ = some (.int .i64 d.r.op) ∧ w'.cell? ⟨p, 1, none⟩ = some (.int .i64 d.r.at_) ∧ w'.cell? ⟨p, 2, none⟩ = some (.int .i64 d.r.fd) ∧ w'.cell? ⟨p, 3, none⟩ = some (.int .i64 d.r.x.k) ∧ w'.cell? ⟨p, 4, none⟩ = some (.int .i64 d.r.x.n) ∧ w'.cell? ⟨p, 5, none⟩ = some (.int .i64 d.r.y.k) ∧ w'.cell? ⟨p, 6, none⟩ = some (.int .i64 d.r.y.n) ∧ w'.cell? ⟨p, 7, none⟩ = some (.int .i64 d.e.md)) (by kernel_rfl) ⟨Bd.cell 0, Bd.cell 1, Bd.cell 2, Bd.cell 3, Bd.cell 4, Bd.cell 5, Bd.cell 6, Bd.cell 7⟩ (fun hHeld => ?_)
 refine tkH (i := 0) 4 (pt p) rfl rfl ?_
 simp only [sA1, sA2, sA3]
 refine tkH (i := 1) 5 (.int .i64 base) rfl rfl ?_
 simp only [sA1, sA2, sA3]
 refine tkH (i := 2) 6 (pt p) rfl rfl ?_
 simp only [sA1, sA2, sA3]
 refine tkH (i := 3) 7 (pt p) rfl rfl ?_
 simp only [sA1, sA2, sA3]
 refine tkH (i := 4) 8 (pt p) rfl rfl ?_
 simp only [sA1, sA2, sA3]
 refine tkH (i := 5) 9 (.agg #[.int .i64 d.r.op, .int .i64 d.r.at_, .int .i64 d.r.fd, .int .i64 d.r.x.k, .int .i64 d.r.x.n, .int .i64 d.r.y.k, .int .i64 d.r.y.n]) rfl rfl ?_
 simp only [sA1, sA2, sA3]
 refine tkH (i := 6) 10 (pt p) rfl rfl ?_
 simp only [sA1, sA2, sA3]
 refine tkH (i := 7) 11 (pt p) rfl rfl ?_
 simp only [sA1, sA2, sA3]
 refine tkH (i := 8) 12 (.pointer (some ⟨p, 7, none⟩)) rfl rfl ?_
 simp only [sA1, sA2, sA3]
 refine tkH (i := 9) 13 (.pointer (some ⟨p, 7, none⟩)) rfl rfl ?_
 simp only [sA1, sA2, sA3]
 refine tkH (i := 10) 14 (.int .i64 d.e.md) rfl rfl ?_
 simp only [sA1, sA2, sA3]
 refine tkH (i := 11) 15 (.bool fx) rfl rfl ?_
 simp only [sA1, sA2, sA3]
 refine tkH (i := 12) 16 (.agg #[.bool false, .bool true, .bool fx, .int .i64 0]) rfl rfl ?_
 simp only [sA1, sA2, sA3]
 refine rd1 13 rfl fun K hK => ?_
 go_simp
 refine (rNewDirect base d.r (hwC fx) _ h0 h1 hr.2.2.2.1 hr.2.2.2.2 hr.1).mono ?_
 rintro e w1 ⟨pd, rfl, M⟩
 have B1 := Bd.below M.bel
 have K1 := Kd.tr (Kept.of_below (F := [p]) M.bel)
 have D1 := M.blk' (w0 := w0) (Nat.le_trans hs0 hbd.size) (by decide)
 have np : w.heap.size ≤ pd := (by have := M.new; have := hbd.size; omega)
 have z18 : w1.cell? ⟨p, 18, none⟩ = some d.y := B1.cell 18
 have zf18 := B1.free 18
 clear M
 refine hK.out _ _ ⟨B1.cell 0, B1.cell 1, B1.cell 2, B1.cell 3, B1.cell 4, B1.cell 5, B1.cell 6, B1.cell 7⟩ (fun hHeld => ?_)
 clear hK K
 try simp only [Act.put, sA1, sA2, sA3]
 refine tkH (i := 14) 18 (pt p) rfl rfl ?_
 simp only [sA1, sA2, sA3]
 refine tkH (i := 15) 19 (.pointer (some ⟨p, 18, none⟩)) rfl rfl ?_
 simp only [sA1, sA2, sA3]
 have B2 := B1.r_y (pt pd)
 have K2 := K1.tr (Kept.setCell [p] w1 ⟨p, 18, none⟩ (pt pd) (by simp))
 have D2 := D1.oth (F := [p]) (Oth.set w1 p 18 (pt pd) (by simp)) (by simpa using D1.ne B1 (by decide))
 refine rd1 16 rfl fun K hK => ?_
 go_simp
 refine hK.out _ _ ⟨B2.cell 0, B2.cell 1, B2.cell 2, B2.cell 3, B2.cell 4, B2.cell 5, B2.cell 6, B2.cell 7⟩ (fun hHeld => ?_)
 clear hK K
 try simp only [Act.put, sA1, sA2, sA3]
 refine wpAnyH_done (by kernel_rfl) ?_ _
 refine NoPanic.normal ?_
 clear z18 zf18
 generalize w1.setCell ⟨p, 18, none⟩ (pt pd) = w2 at B2 K2 D2 ⊢
 have c10 : w2.cell? ⟨p, 10, none⟩ = some (.int .i64 d.pc) := B2.cell 10
 have f10 := B2.free 10
 have c18 : w2.cell? ⟨p, 18, none⟩ = some (pt pd) := B2.cell 18
 have npd : pd ≠ p := D2.ne B2 (by decide)
 have e12 : w2.cell? ⟨pd, 12, none⟩ = some (.int .i64 pcd) := hpcd ▸ D2.cell 12
 go_wp2
 go_end0
 exact ⟨rfl, K2.tr (Kept.setCell [p] _ _ _ (by simp)), pd, np, B2.r_pc 21, D2.oth (F := [p]) (Oth.set _ _ _ _ (by simp)) (by simpa using npd)⟩
end
end Go.Proofs.YtpcoldpphihfmaaGreatDoor
namespace Go.Proofs.YtpcoldpphihfmaaGreatDoor
set_option linter.unusedVariables false
set_option linter.unusedSimpArgs false
set_option maxRecDepth 100000
open Go.ChangeShapes Go.WideShapes Go.RowKit
section
variable {w0 w w' : World} {b y p : Nat} {s1 s2 s' : St} {N : Nat} {d d' : RC}
set_option maxHeartbeats 4000000
theorem ys20 {Q : Ending → World → Prop} (h : Two w0 w b y s1 s2 N) (B : Blk w0 w p 62 d.cells) (hN : N + 5 < 1000000) {px : Nat} {F : List Nat} {x x' : Sx} {dn : Bool} (hpc : d.pc = 20) (hx : d.x = pt px) (M : RPm w0 w px F x) (hpF : p ∉ px :: F) (hnF : ∀ q ∈ px :: F, q ≠ p) (hx' : x.next s2 = x') (hd : x'.done = dn) (kn : Hid (dn = false → ∀ w', Two w0 w' b y s1 (x.mem s2) (N + 1) → Blk w0 w' p 62 ({ d with sh := x'.hit } : RC).cells → Oth (p :: px :: F) w w' → ∀ F', RPm w0 w' px F' x' → (∀ k ∈ F', k ∈ F ∨ w.heap.size ≤ k) → Q (.returned (.bool false)) w')) (kd : Hid (dn = true → ∀ w', Two w0 w' b y s1 (x.mem s2) (N + 1) → Blk w0 w' p 62 ({ d with sh := x'.hit, pc := 0, o := x'.o } : RC).cells → Oth (p :: px :: F) w w' → Q (.returned (.bool true)) w')) :
  Calls Tryz.prog 20 #[pt p, pt y] w fun e w' => Q e w' := by
 have hlp := B.lt
 have c10 : w.cell? ⟨p, 10, none⟩ = some (.int .i64 20) := hpc ▸ B.cell 10
 have c19 : w.cell? ⟨p, 19, none⟩ = some (.bool d.sh) := B.cell 19
 have f19 := B.free 19
 have t3 : XTo w0 w (w.setCell ⟨p, 19, none⟩ (.bool false)) b y p s1 s2 N ({ d with sh := false } : RC) := (⟨h, B, Oth.refl _ _⟩ : XTo w0 w w b y p s1 s2 N d).one 19 _ (B.r_sh false)
 go_enter Tryz.func20, Tryz.ntmps20
 go_upto_region 4 with (fail)
 generalize w.setCell ⟨p, 19, none⟩ (.bool false) = w3 at t3 ⊢
 clear c10 c19 f19
 have b3 := t3.blk
 have c10 : w3.cell? ⟨p, 10, none⟩ = some (.int .i64 20) := hpc ▸ b3.cell 10
 have hsz := t3.oth.size
 have M2 := M.oth t3.oth (by simpa using hnF px (by simp)) (fun q hq => by simpa using hnF q (by simp [hq]))
 have c17 : w3.cell? ⟨p, 17, none⟩ = some (pt px) := hx ▸ b3.cell 17
 have l3 := b3.lt
 go_upto_region 81 with (go_at_call 59; refine (rPStep t3.two M2 hN).mono ?_; rintro e w4 ⟨rfl, t4, o4, F', M4, fr⟩; rw [hx'] at M4 ⊢; rw [hd])
 clear c10 c17 l3
 have b4 := b3.oth o4 hpF
 have px3 : px ≠ p := hnF px (by simp)
 have hF' : ∀ k ∈ F', k ≠ p := fun k hk e => by
  rcases fr k hk with h' | h'
  ·exact hnF k (by simp [h']) e
  ·exact absurd h' (by have := B.lt; clear kn kd; omega)
 have s4 := M4.shown
 have e17 : w4.cell? ⟨p, 17, none⟩ = some (pt px) := hx ▸ b4.cell 17
 have e19 : w4.cell? ⟨p, 19, none⟩ = some (.bool false) := b4.cell 19
 have ef19 := b4.free 19
 have l4 := b4.lt
 have lx4 := M4.lt
 go_upto_region 82 with (fail)
 have K5 : Kept [p] w4 (w4.setCell ⟨p, 19, none⟩ (.bool x'.hit)) := Kept.setCell [p] _ _ _ (by simp)
 have b5 := b4.r_sh x'.hit
 have t5 := to_twoB t4 K5 b4
 have M5 := M4.oth (G := [p]) (Oth.kept K5) (by simpa using px3) (fun q hq => by simpa using hF' q hq)
 have o5 : Oth (p :: px :: F) w _ := (t3.oth.mono (by simp)).trans ((o4.mono (fun k hk => by simp at hk ⊢; exact .inr hk)).trans ((Oth.kept K5).mono (by simp)))
 clear e17 e19 ef19 s4 l4 lx4
 generalize w4.setCell ⟨p, 19, none⟩ (.bool x'.hit) = w5 at b5 t5 M5 o5 ⊢
 have c10' : w5.cell? ⟨p, 10, none⟩ = some (.int .i64 20) := hpc ▸ b5.cell 10
 have l5' := b5.lt
 rcases dn with _ | _
 ·go_wp2
  exact kn.out (by trivial) _ t5 (by simpa only [RC.cells, hpc, hx] using b5) o5 F' M5 fun k hk => (fr k hk).imp id fun h' => Nat.le_trans hsz h'
 ·have f10' := b5.free 10
  have e17 : w5.cell? ⟨p, 17, none⟩ = some (pt px) := hx ▸ b5.cell 17
  obtain ⟨pcx, oc, ok', on', oy, -, g1, g2, g3, g4, -, hq, -⟩ := M5.told
  have hox : x'.o = ⟨oc, ⟨ok', on'⟩, oy⟩ := hq hd
  have l5 := M5.lt
  have d20 : w5.cell? ⟨p, 20, none⟩ = some (.int .i64 d.o.c) := b5.cell 20
  have df20 := b5.free 20
  have d21 : w5.cell? ⟨p, 21, none⟩ = some (.int .i64 d.o.v.k) := b5.cell 21
  have df21 := b5.free 21
  have d22 : w5.cell? ⟨p, 22, none⟩ = some (.int .i64 d.o.v.n) := b5.cell 22
  have df22 := b5.free 22
  have d23 : w5.cell? ⟨p, 23, none⟩ = some (.bool d.o.y) := b5.cell 23
  have df23 := b5.free 23
  go_wp2
  have K6 := (kept4 w5 p 20 21 22 23 (.int .i64 oc) (.int .i64 ok') (.int .i64 on') (.bool oy)).tr (Kept.setCell [p] _ ⟨p, 10, none⟩ (.int .i64 0) (by simp))
  exact kd.out (by trivial) _ (to_twoB t5 K6 b5) (by simpa only [RC.cells, hpc, hx, hox] using (b5.r_o ⟨oc, ⟨ok', on'⟩, oy⟩).r_pc 0) (o5.trans ((Oth.kept K6).mono (by simp)))
theorem ys21 {Q : Ending → World → Prop} (h : Two w0 w b y s1 s2 N) (B : Blk w0 w p 62 d.cells) (hN : N + 5 < 1000000) {px : Nat} {F : List Nat} {x x' : Sx} {dn : Bool} (hpc : d.pc = 21) (hx : d.y = pt px) (M : RDm w0 w px F x) (hpF : p ∉ px :: F) (hnF : ∀ q ∈ px :: F, q ≠ p) (hx' : x.next s2 = x') (hd : x'.done = dn) (kn : Hid (dn = false → ∀ w', Two w0 w' b y s1 (x.mem s2) (N + 1) → Blk w0 w' p 62 ({ d with sh := x'.hit } : RC).cells → Oth (p :: px :: F) w w' → ∀ F', RDm w0 w' px F' x' → (∀ k ∈ F', k ∈ F ∨ w.heap.size ≤ k) → Q (.returned (.bool false)) w')) (kd : Hid (dn = true → ∀ w', Two w0 w' b y s1 (x.mem s2) (N + 1) → Blk w0 w' p 62 ({ d with sh := x'.hit, pc := 0, o := x'.o } : RC).cells → Oth (p :: px :: F) w w' → Q (.returned (.bool true)) w')) :
  Calls Tryz.prog 20 #[pt p, pt y] w fun e w' => Q e w' := by
 have hlp := B.lt
 have c10 : w.cell? ⟨p, 10, none⟩ = some (.int .i64 21) := hpc ▸ B.cell 10
 have c19 : w.cell? ⟨p, 19, none⟩ = some (.bool d.sh) := B.cell 19
 have f19 := B.free 19
 have t3 : XTo w0 w (w.setCell ⟨p, 19, none⟩ (.bool false)) b y p s1 s2 N ({ d with sh := false } : RC) := (⟨h, B, Oth.refl _ _⟩ : XTo w0 w w b y p s1 s2 N d).one 19 _ (B.r_sh false)
 go_enter Tryz.func20, Tryz.ntmps20
 go_upto_region 4 with (fail)
 generalize w.setCell ⟨p, 19, none⟩ (.bool false) = w3 at t3 ⊢
 clear c10 c19 f19
 have b3 := t3.blk
 have c10 : w3.cell? ⟨p, 10, none⟩ = some (.int .i64 21) := hpc ▸ b3.cell 10
 have hsz := t3.oth.size
 have M2 := M.oth t3.oth (by simpa using hnF px (by simp)) (fun q hq => by simpa using hnF q (by simp [hq]))
 have c18 : w3.cell? ⟨p, 18, none⟩ = some (pt px) := hx ▸ b3.cell 18
 have l3 := b3.lt
 go_upto_region 87 with (go_at_call 60; refine (rDStep t3.two M2 hN).mono ?_; rintro e w4 ⟨rfl, t4, o4, F', M4, fr⟩; rw [hx'] at M4 ⊢; rw [hd])
 clear c10 c18 l3
 have b4 := b3.oth o4 hpF
 have px3 : px ≠ p := hnF px (by simp)
 have hF' : ∀ k ∈ F', k ≠ p := fun k hk e => by
  rcases fr k hk with h' | h'
  ·exact hnF k (by simp [h']) e
  ·exact absurd h' (by have := B.lt; clear kn kd; omega)
 have s4 := M4.shown
 have e18 : w4.cell? ⟨p, 18, none⟩ = some (pt px) := hx ▸ b4.cell 18
 have e19 : w4.cell? ⟨p, 19, none⟩ = some (.bool false) := b4.cell 19
 have ef19 := b4.free 19
 have l4 := b4.lt
 have lx4 := M4.lt
 go_upto_region 88 with (fail)
 have K5 : Kept [p] w4 (w4.setCell ⟨p, 19, none⟩ (.bool x'.hit)) := Kept.setCell [p] _ _ _ (by simp)
 have b5 := b4.r_sh x'.hit
 have t5 := to_twoB t4 K5 b4
 have M5 := M4.oth (G := [p]) (Oth.kept K5) (by simpa using px3) (fun q hq => by simpa using hF' q hq)
 have o5 : Oth (p :: px :: F) w _ := (t3.oth.mono (by simp)).trans ((o4.mono (fun k hk => by simp at hk ⊢; exact .inr hk)).trans ((Oth.kept K5).mono (by simp)))
 clear e18 e19 ef19 s4 l4 lx4
 generalize w4.setCell ⟨p, 19, none⟩ (.bool x'.hit) = w5 at b5 t5 M5 o5 ⊢
 have c10' : w5.cell? ⟨p, 10, none⟩ = some (.int .i64 21) := hpc ▸ b5.cell 10
 have l5' := b5.lt
 rcases dn with _ | _
 ·go_wp2
  exact kn.out (by trivial) _ t5 (by simpa only [RC.cells, hpc, hx] using b5) o5 F' M5 fun k hk => (fr k hk).imp id fun h' => Nat.le_trans hsz h'
 ·have f10' := b5.free 10
  have e18 : w5.cell? ⟨p, 18, none⟩ = some (pt px) := hx ▸ b5.cell 18
  obtain ⟨pcx, oc, ok', on', oy, -, g1, g2, g3, g4, -, hq, -⟩ := M5.told
  have hox : x'.o = ⟨oc, ⟨ok', on'⟩, oy⟩ := hq hd
  have l5 := M5.lt
  have d20 : w5.cell? ⟨p, 20, none⟩ = some (.int .i64 d.o.c) := b5.cell 20
  have df20 := b5.free 20
  have d21 : w5.cell? ⟨p, 21, none⟩ = some (.int .i64 d.o.v.k) := b5.cell 21
  have df21 := b5.free 21
  have d22 : w5.cell? ⟨p, 22, none⟩ = some (.int .i64 d.o.v.n) := b5.cell 22
  have df22 := b5.free 22
  have d23 : w5.cell? ⟨p, 23, none⟩ = some (.bool d.o.y) := b5.cell 23
  have df23 := b5.free 23
  go_wp2
  have K6 := (kept4 w5 p 20 21 22 23 (.int .i64 oc) (.int .i64 ok') (.int .i64 on') (.bool oy)).tr (Kept.setCell [p] _ ⟨p, 10, none⟩ (.int .i64 0) (by simp))
  exact kd.out (by trivial) _ (to_twoB t5 K6 b5) (by simpa only [RC.cells, hpc, hx, hox] using (b5.r_o ⟨oc, ⟨ok', on'⟩, oy⟩).r_pc 0) (o5.trans ((Oth.kept K6).mono (by simp)))
end
end Go.Proofs.YtpcoldpphihfmaaGreatDoor
