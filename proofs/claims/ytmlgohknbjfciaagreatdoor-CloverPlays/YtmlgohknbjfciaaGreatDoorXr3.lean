/-
  The reference's access, one theorem a step: the field, the exchange, the machines.
-/
import Derived.Test.YtmlgohknbjfciaaGreatDoorXr
import Derived.WalkMore
import Derived.BigQuiet
namespace Go.Proofs.YtmlgohknbjfciaaGreatDoor
set_option linter.unusedVariables false
set_option linter.unusedSimpArgs false
set_option maxRecDepth 100000
open Go.ChangeShapes Go.WideShapes Go.RowKit
open H.Plain (hw pS pC pN pM pG pT pL mv)

section
variable {w0 w w' : World} {b y p : Nat} {s1 s2 : St} {N : Nat} {d : RC}
set_option maxHeartbeats 6000000
theorem xs3 {Q : Ending → World → Prop} (h : Two w0 w b y s1 s2 N) (B : Blk w0 w p 65 d.cells) (hN : N + 5 < 1000000) {g fa : Int} {u : Vl} {fx : Bool} (hfx : (d.e.md == 8) = fx) (hpc : d.pc = 3) (hr : d.r.Ok2) (hal : d.e.al = 9) (hn : d.n = pn4) (hl : In12 d.h.h6) (hfa : (d.r.at_ + 1 + d.r.fd) = fa) (hg : s2.got fa = g) (hu : Vl.of g = u) (ks : Hid (g = 72 → ∀ w' pd, w.heap.size ≤ pd → XTo w0 w w' b y p s1 (s2.load fa) (N + 1) ({ d with sh := true, w := g, pc := 9, y := pt pd } : RC) → Blk w0 w' pd 128 (RD.new (d.h.h6 + 1 + d.r.fd) d.r (hwC fx)).cells → Q (.returned (.bool false)) w')) (kr : Hid (g ≠ 72 → d.r.op = 1 → ∀ w', XTo w0 w w' b y p s1 (s2.load fa) (N + 1) ({ d with sh := true, w := g, o := ⟨d.o.c, u, d.o.y⟩, pc := 0 } : RC) → Q (.returned (.bool true)) w')) (kx : Hid (g ≠ 72 → d.r.op = 3 → u ≠ d.r.x → ∀ w', XTo w0 w w' b y p s1 (s2.load fa) (N + 1) ({ d with sh := true, w := g, pc := 0 } : RC) → Q (.returned (.bool true)) w')) (kl : Hid (g ≠ 72 → (d.r.op = 2 ∨ d.r.op = 3 ∧ u = d.r.x) → (d.r.y = nine ∨ 7 ≤ d.e.md) → ∀ w', XTo w0 w w' b y p s1 (s2.load fa) (N + 1) ({ d with sh := true, w := g, o := ⟨3, d.o.v, d.o.y⟩, pc := 0 } : RC) → Q (.returned (.bool true)) w')) (kw : Hid (g ≠ 72 → (d.r.op = 2 ∨ d.r.op = 3 ∧ u = d.r.x) → d.r.y ≠ nine → d.e.md < 7 → ∀ w', XTo w0 w w' b y p s1 (s2.load fa) (N + 1) ({ d with sh := true, w := g, pc := 4 } : RC) → Q (.returned (.bool false)) w')) :
    Calls Tryz.prog 19 #[pt p, pt y] w fun e w' => Q e w' := by
  have hU : U64 g := hg ▸ h.rng2.got _
  have hk : F.Plain.kind g = u.k := congrArg Vl.k hu
  have hnn : F.Plain.num g = u.n := congrArg Vl.n hu
  have h6 := hr.2.1
  have h7 := hr.2.2.1
  have h8 := hr.2.2.2.1
  have h9 := hr.2.2.2.2
  have i1 : IntKind.i64.wrap (d.r.at_ + 1) = d.r.at_ + 1 := by rw [IntKind.wrap_i64]; omega
  have i2 : IntKind.i64.wrap fa = fa := by rw [← hfa, IntKind.wrap_i64]; omega
  obtain ⟨tb, tg⟩ : ∃ b, (g == 72) = b := ⟨_, rfl⟩
  obtain ⟨ye, hev⟩ : ∃ b, decide (d.r.y = nine) = b := ⟨_, rfl⟩
  obtain ⟨sh, hsh⟩ : ∃ b, decide (7 ≤ d.e.md) = b := ⟨_, rfl⟩
  have ev : ∀ w, (binOp .eql 38 (.agg #[.int .i64 d.r.y.k, .int .i64 d.r.y.n]) (.agg #[.int .i64 0, .int .i64 9])).run Tryz.prog w = .ok (.bool ye) w := fun w => by rw [← hev]; exact eqVal d.r.y nine w
  rcases hr.1 with hop | hop | hop
  all_goals (
    have c15 : w.cell? ⟨p, 15, none⟩ = some (.int .i64 3) := hpc ▸ B.cell 15
    have c26 : w.cell? ⟨p, 26, none⟩ = some (.bool d.sh) := B.cell 26
    have f26 := B.free 26
    have lp0 := B.lt
    have t2 : XTo w0 w (w.setCell ⟨p, 26, none⟩ (.bool false)) b y p s1 s2 N ({ d with sh := false } : RC) := (⟨h, B, Oth.refl _ _⟩ : XTo w0 w w b y p s1 s2 N d).kept (Kept.setCell [p] _ _ _ (by simp)) (B.r_sh false)
    go_enter Tryz.func19, Tryz.ntmps19
    go_upto_region 4 with (fail)
    generalize w.setCell ⟨p, 26, none⟩ (.bool false) = w2 at t2 ⊢
    clear c15 c26 f26
    have b2 := t2.blk
    have c14 : w2.cell? ⟨p, 14, none⟩ = some (.int .i64 9) := hal ▸ b2.cell 14
    go_upto_region 5 with (fail)
    have aS : Below w2.heap.size w2 (w2.alloc (.cells #[.int .i64 0, .int .i64 9] 38)) := (Below.refl _ _).alloc (Nat.le_refl _) _
    have t3 := t2.below aS
    have V3 : Blk w0 (w2.alloc (.cells #[.int .i64 0, .int .i64 9] 38)) w2.heap.size 38 #[.int .i64 0, .int .i64 9] := Blk.new t2.two.bel.size _ (by decide)
    generalize w2.alloc (.cells #[.int .i64 0, .int .i64 9] 38) = w3 at t3 V3 ⊢
    generalize w2.heap.size = sb at V3 ⊢
    clear aS c14 b2 t2
    have b3 := t3.blk
    have c5 : w3.cell? ⟨p, 5, none⟩ = some (.int .i64 d.r.op) := b3.cell 5
    rw [hop] at c5
    have c15 : w3.cell? ⟨p, 15, none⟩ = some (.int .i64 3) := hpc ▸ b3.cell 15
    go_upto_region 7 with (fail)
    clear c5
    go_upto_region 28 with (fail)
    clear c15 b3
    have hbd : Below w3.heap.size w3 w3.drew := (Below.refl _ _).drew
    have tD := t3.below hbd
    have bD := tD.blk
    refine wp_region_noPanic ?_
    refine wp_region_held_drew (S := fun w' => w'.cell? ⟨p, 6, none⟩ = some (.int .i64 d.r.at_) ∧ w'.cell? ⟨p, 7, none⟩ = some (.int .i64 d.r.fd)) (by kernel_rfl) ⟨bD.cell 6, bD.cell 7⟩ (fun hHeld => ?_)
    refine tkH (i := 0) 191 (pt p) rfl rfl ?_
    simp only [sA1, sA2, sA3]
    refine tkH (i := 1) 192 (pt y) rfl rfl ?_
    simp only [sA1, sA2, sA3]
    refine tkH (i := 2) 193 (pt p) rfl rfl ?_
    simp only [sA1, sA2, sA3]
    refine tkH (i := 3) 194 (pt p) rfl rfl ?_
    simp only [sA1, sA2, sA3]
    refine tkH (i := 4) 195 (.pointer (some ⟨p, 5, none⟩)) rfl rfl ?_
    simp only [sA1, sA2, sA3]
    refine tkH (i := 5) 196 (.pointer (some ⟨p, 6, none⟩)) rfl rfl ?_
    simp only [sA1, sA2, sA3]
    refine tkH (i := 6) 197 (.int .i64 d.r.at_) rfl rfl ?_
    simp only [sA1, sA2, sA3]
    refine tkH (i := 7) 198 (.int .i64 (d.r.at_ + 1)) rfl rfl ?_
    simp only [sA1, sA2, sA3]
    refine tkH (i := 8) 199 (pt p) rfl rfl ?_
    simp only [sA1, sA2, sA3]
    refine tkH (i := 9) 200 (pt p) rfl rfl ?_
    simp only [sA1, sA2, sA3]
    refine tkH (i := 10) 201 (.pointer (some ⟨p, 5, none⟩)) rfl rfl ?_
    simp only [sA1, sA2, sA3]
    refine tkH (i := 11) 202 (.pointer (some ⟨p, 7, none⟩)) rfl rfl ?_
    simp only [sA1, sA2, sA3]
    refine tkH (i := 12) 203 (.int .i64 d.r.fd) rfl rfl ?_
    simp only [sA1, sA2, sA3]
    refine tkH (i := 13) 204 (.int .i64 fa) rfl rfl ?_
    simp only [sA1, sA2, sA3]
    refine rd1 14 rfl fun K hK => ?_
    go_simp
    refine (yLoad tD.two (by omega) fa).mono ?_
    rintro e w4 ⟨rfl, h4, o4⟩
    rw [hg]
    have t4 : XTo w0 w w4 b y p s1 (s2.load fa) (N + 1) ({ d with sh := false } : RC) := ⟨h4, tD.blk.oth o4 (by simp), tD.oth.trans (o4.mono (by simp))⟩
    have V4 := (V3.below hbd).oth o4 (by simp)
    have b4 := t4.blk
    have z16 : w4.cell? ⟨p, 16, none⟩ = some (.int .u64 d.w) := b4.cell 16
    have zf16 := b4.free 16
    clear h4 o4
    refine hK.out _ _ ⟨b4.cell 6, b4.cell 7⟩ (fun hHeld => ?_)
    clear hK K
    try simp only [Act.put, sA1, sA2, sA3]
    refine tkH (i := 15) 206 (pt p) rfl rfl ?_
    simp only [sA1, sA2, sA3]
    refine tkH (i := 16) 207 (.pointer (some ⟨p, 16, none⟩)) rfl rfl ?_
    simp only [sA1, sA2, sA3]
    have t5 := t4.kept (Kept.setCell [p] w4 ⟨p, 16, none⟩ (.int .u64 g) (by simp)) (b4.r_w g)
    have V5 := V4.oth (F := [p]) (Oth.set w4 p 16 (.int .u64 g) (by simp)) (by simpa using V4.ne b4 (by decide))
    refine rd1 17 rfl fun K hK => ?_
    go_simp
    refine hK.out _ _ ⟨t5.blk.cell 6, t5.blk.cell 7⟩ (fun hHeld => ?_)
    clear hK K
    try simp only [Act.put, sA1, sA2, sA3]
    refine wpAnyH_done (by kernel_rfl) ?_ _
    refine NoPanic.normal ?_
    clear z16 zf16
    generalize w4.setCell ⟨p, 16, none⟩ (.int .u64 g) = w5 at t5 V5 hHeld ⊢
    have b5 := t5.blk
    have c26 : w5.cell? ⟨p, 26, none⟩ = some (.bool false) := b5.cell 26
    have f26 := b5.free 26
    go_upto_region 30 with (fail)
    have t6 : XTo w0 w (w5.setCell ⟨p, 26, none⟩ (.bool true)) b y p s1 (s2.load fa) (N + 1) ({ d with sh := true, w := g } : RC) := t5.kept (Kept.setCell [p] _ _ _ (by simp)) (b5.r_sh true)
    have V6 := V5.oth (F := [p]) (Oth.set w5 p 26 (.bool true) (by simp)) (by simpa using V5.ne b5 (by decide))
    clear c26 f26
    generalize w5.setCell ⟨p, 26, none⟩ (.bool true) = w6 at t6 V6 ⊢
    have b6 := t6.blk
    have c16 : w6.cell? ⟨p, 16, none⟩ = some (.int .u64 g) := b6.cell 16
    go_upto_region 31 with (go_at_call 27; refine (F.rOf g hU.1 hU.2 _).mono ?_; rintro e w7 ⟨rfl, hw7⟩; rw [hk, hnn] at hw7 ⊢; have hb7 : Below w6.heap.size w6 w7 := (by rw [hw7]; go_grown); have t7 := t6.below hb7; have V7 := V6.below hb7; clear hw7 hb7)
    clear c16
    have a8 : Below w7.heap.size w7 (w7.alloc (.cells #[.int .i64 u.k, .int .i64 u.n] 38)) := (Below.refl _ _).alloc (Nat.le_refl _) _
    have t8 := t7.below a8
    have V8 := V7.below a8
    have U8 : Blk w0 (w7.alloc (.cells #[.int .i64 u.k, .int .i64 u.n] 38)) w7.heap.size 38 #[.int .i64 u.k, .int .i64 u.n] := Blk.new t7.two.bel.size _ (by decide)
    generalize w7.alloc (.cells #[.int .i64 u.k, .int .i64 u.n] 38) = w8 at t8 V8 U8 ⊢
    generalize w7.heap.size = vb at U8 ⊢
    clear a8
    have hbe : Below w8.heap.size w8 w8.drew := (Below.refl _ _).drew
    have tE := t8.below hbe
    have VE := V8.below hbe
    have UE := U8.below hbe
    have bE := tE.blk
    refine wp_region_noPanic ?_
    refine wp_region_held_drew (S := fun w' => w'.cell? ⟨p, 16, none⟩ = some (.int .u64 g) ∧ w'.cell? ⟨sb, 0, none⟩ = some (.int .i64 0) ∧ w'.cell? ⟨sb, 1, none⟩ = some (.int .i64 9)) (by kernel_rfl) ⟨bE.cell 16, VE.cell 0, VE.cell 1⟩ (fun hHeld => ?_)
    refine tkH (i := 0) 216 (pt p) rfl rfl ?_
    simp only [sA1, sA2, sA3]
    refine tkH (i := 1) 217 (pt p) rfl rfl ?_
    simp only [sA1, sA2, sA3]
    refine tkH (i := 2) 218 (.pointer (some ⟨p, 16, none⟩)) rfl rfl ?_
    simp only [sA1, sA2, sA3]
    refine tkH (i := 3) 219 (.int .u64 g) rfl rfl ?_
    simp only [sA1, sA2, sA3]
    refine tkH (i := 4) 220 (.agg #[.int .i64 0, .int .i64 9]) rfl rfl ?_
    simp only [sA1, sA2, sA3]
    refine rd1 5 rfl fun K hK => ?_
    go_simp
    refine (F.rWord 0 9 _).mono ?_
    rintro e w9 ⟨rfl, nw9, hw9⟩
    rw [show F.Plain.word 0 9 = 72 by decide]
    have hb9 : Below w8.drew.heap.size w8.drew w9 := (by rw [hw9]; exact F.bdr ((Below.refl _ _).alloc (Nat.le_refl _) _) _)
    have t9 := tE.below hb9
    have V9 := VE.below hb9
    have U9 := UE.below hb9
    have b9 := t9.blk
    clear hw9
    refine hK.out _ _ ⟨b9.cell 16, V9.cell 0, V9.cell 1⟩ (fun hHeld => ?_)
    clear hK K
    try simp only [Act.put, sA1, sA2, sA3]
    refine tkH (i := 6) 222 (.bool tb) rfl rfl ?_
    simp only [sA1, sA2, sA3]
    refine wpAnyH_done (by kernel_rfl) ?_ _
    refine NoPanic.normal ?_
    rcases tb with _ | _
    · have hG : g ≠ 72 := by simpa using tg
      have c5 : w9.cell? ⟨p, 5, none⟩ = some (.int .i64 d.r.op) := b9.cell 5
      have c15 : w9.cell? ⟨p, 15, none⟩ = some (.int .i64 3) := hpc ▸ b9.cell 15
      have f15 := b9.free 15
      rw [hop] at c5
      by_cases o1 : d.r.op = 1
      · first
          | exact absurd (hop.symm.trans o1) (by decide)
          | have c28 : w9.cell? ⟨p, 28, none⟩ = some (.int .i64 d.o.v.k) := b9.cell 28
            have c29 : w9.cell? ⟨p, 29, none⟩ = some (.int .i64 d.o.v.n) := b9.cell 29
            have f28 := b9.free 28
            have f29 := b9.free 29
            have v0 : w9.cell? ⟨vb, 0, none⟩ = some (.int .i64 u.k) := U9.cell 0
            have v1 : w9.cell? ⟨vb, 1, none⟩ = some (.int .i64 u.n) := U9.cell 1
            have vl := U9.lt
            go_wp2
            exact kr.out hG o1 _ (t9.kept (kept3 w9 p 28 29 15 (.int .i64 u.k) (.int .i64 u.n) (.int .i64 0)) ((b9.r_ov u).r_pc 0))
      · have c8 : w9.cell? ⟨p, 8, none⟩ = some (.int .i64 d.r.x.k) := b9.cell 8
        have c9 : w9.cell? ⟨p, 9, none⟩ = some (.int .i64 d.r.x.n) := b9.cell 9
        by_cases hx : d.r.op = 3 ∧ u ≠ d.r.x
        · first
            | exact absurd (hop.symm.trans hx.1) (by decide)
            | exact absurd hop o1
            | have v0 : w9.cell? ⟨vb, 0, none⟩ = some (.int .i64 u.k) := U9.cell 0
              have v1 : w9.cell? ⟨vb, 1, none⟩ = some (.int .i64 u.n) := U9.cell 1
              have vl := U9.lt
              have ex : ∀ w, (binOp .neq 38 (.agg #[.int .i64 u.k, .int .i64 u.n]) (.agg #[.int .i64 d.r.x.k, .int .i64 d.r.x.n])).run Tryz.prog w = .ok (.bool true) w := fun w => neValF hx.2 w
              go_upto_region 36 with (fail)
              go_quiet (fail)
              have hq := S.bdr (Below.refl w9.heap.size w9) nq
              have tA := t9.below hq
              have VA := V9.below hq
              generalize w9.drewN nq = wA at tA VA ⊢
              clear hq c5 c8 c9 c15 f15 v0 v1 vl
              have bA := tA.blk
              have c15 : wA.cell? ⟨p, 15, none⟩ = some (.int .i64 3) := hpc ▸ bA.cell 15
              have f15 := bA.free 15
              go_wp2
              exact kx.out hG hx.1 hx.2 _ (tA.kept (Kept.setCell [p] _ _ _ (by simp)) (bA.r_pc 0))
        · have ho : d.r.op = 2 ∨ d.r.op = 3 ∧ u = d.r.x := by
            rcases hr.1 with e | e | e
            · exact absurd e o1
            · exact .inl e
            · exact .inr ⟨e, Classical.byContradiction fun e' => hx ⟨e, e'⟩⟩
          first
            | exact absurd hop o1
            | try have ex : ∀ w, (binOp .neq 38 (.agg #[.int .i64 u.k, .int .i64 u.n]) (.agg #[.int .i64 d.r.x.k, .int .i64 d.r.x.n])).run Tryz.prog w = .ok (.bool false) w := fun w => neValT (Classical.byContradiction fun e => hx ⟨hop, e⟩) w
              have v0 : w9.cell? ⟨vb, 0, none⟩ = some (.int .i64 u.k) := U9.cell 0
              have v1 : w9.cell? ⟨vb, 1, none⟩ = some (.int .i64 u.n) := U9.cell 1
              have vl := U9.lt
              go_upto_region 36 with (fail)
              go_quiet (fail)
              have hq := S.bdr (Below.refl w9.heap.size w9) nq
              have tA := t9.below hq
              have VA := V9.below hq
              generalize w9.drewN nq = wA at tA VA ⊢
              clear hq c5 c8 c9 c15 f15 v0 v1 vl
              have bA := tA.blk
              have c15 : wA.cell? ⟨p, 15, none⟩ = some (.int .i64 3) := hpc ▸ bA.cell 15
              have f15 := bA.free 15
              have c10 : wA.cell? ⟨p, 10, none⟩ = some (.int .i64 d.r.y.k) := bA.cell 10
              have c11 : wA.cell? ⟨p, 11, none⟩ = some (.int .i64 d.r.y.n) := bA.cell 11
              have c12 : wA.cell? ⟨p, 12, none⟩ = some (.int .i64 d.e.md) := bA.cell 12
              have s0 : wA.cell? ⟨sb, 0, none⟩ = some (.int .i64 0) := VA.cell 0
              have s1' : wA.cell? ⟨sb, 1, none⟩ = some (.int .i64 9) := VA.cell 1
              have sl := VA.lt
              go_upto_region 38 with (fail)
              rcases ye with _ | _
              · rcases sh with _ | _
                · have hsl : d.e.md < 7 := by simpa using hsh
                  go_quiet (fail)
                  have hq2 := S.bdr (Below.refl wA.heap.size wA) nq
                  have tB := tA.below hq2
                  generalize wA.drewN nq = wB at tB ⊢
                  clear hq2 c10 c11 c12 c15 f15 s0 s1' sl
                  have bB := tB.blk
                  have c15 : wB.cell? ⟨p, 15, none⟩ = some (.int .i64 3) := hpc ▸ bB.cell 15
                  have f15 := bB.free 15
                  go_wp2
                  exact kw.out hG ho (of_decide_eq_false hev) hsl _ (tB.kept (Kept.setCell [p] _ _ _ (by simp)) (bB.r_pc 4))
                · go_quiet (fail)
                  have hq2 := S.bdr (Below.refl wA.heap.size wA) nq
                  have tB := tA.below hq2
                  generalize wA.drewN nq = wB at tB ⊢
                  clear hq2 c10 c11 c12 c15 f15 s0 s1' sl
                  have bB := tB.blk
                  have c15 : wB.cell? ⟨p, 15, none⟩ = some (.int .i64 3) := hpc ▸ bB.cell 15
                  have f15 := bB.free 15
                  have c27 : wB.cell? ⟨p, 27, none⟩ = some (.int .i64 d.o.c) := bB.cell 27
                  have f27 := bB.free 27
                  go_wp2
                  exact kl.out hG ho (.inr (of_decide_eq_true hsh)) _ (tB.kept (kept2 wB p 27 15 (.int .i64 3) (.int .i64 0)) ((bB.r_oc 3).r_pc 0))
              · go_quiet (fail)
                have hq2 := S.bdr (Below.refl wA.heap.size wA) nq
                have tB := tA.below hq2
                generalize wA.drewN nq = wB at tB ⊢
                clear hq2 c10 c11 c12 c15 f15 s0 s1' sl
                have bB := tB.blk
                have c15 : wB.cell? ⟨p, 15, none⟩ = some (.int .i64 3) := hpc ▸ bB.cell 15
                have f15 := bB.free 15
                have c27 : wB.cell? ⟨p, 27, none⟩ = some (.int .i64 d.o.c) := bB.cell 27
                have f27 := bB.free 27
                go_wp2
                exact kl.out hG ho (.inl (of_decide_eq_true hev)) _ (tB.kept (kept2 wB p 27 15 (.int .i64 3) (.int .i64 0)) ((bB.r_oc 3).r_pc 0))
    · have c5 : w9.cell? ⟨p, 5, none⟩ = some (.int .i64 d.r.op) := b9.cell 5
      have c15 : w9.cell? ⟨p, 15, none⟩ = some (.int .i64 3) := hpc ▸ b9.cell 15
      have c23 : w9.cell? ⟨p, 23, none⟩ = some (.int .i64 d.h.h6) := b9.cell 23
      have f15 := b9.free 15
      go_wp2_with (go_at_call 51; refine (rTo t9.blk hr hfx hl.1 hl.2).mono ?_; rintro e w8 ⟨rfl, K8, pd, np, b8, D8⟩; have c15' : w8.cell? ⟨p, 15, none⟩ = some (.int .i64 9) := b8.cell 15)
      exact ks.out (by simpa using tg) _ pd (Nat.le_trans t9.oth.size np) (t9.kept K8 b8) D8)
theorem xs4 {Q : Ending → World → Prop} (h : Two w0 w b y s1 s2 N) (B : Blk w0 w p 65 d.cells) (hN : N + 5 < 1000000) {fa wd : Int} {o3 okb : Bool} (hpc : d.pc = 4) (hr : d.r.Ok2) (hal : d.e.al = 9) (hn : d.n = pn4) (hfa : (d.r.at_ + 1 + d.r.fd) = fa) (hwd : d.r.y.w = wd) (ho3 : (d.r.op == 3) = o3) (hok : s2.ok1 fa d.w = okb) (kn : Hid (okb = false → ∀ w', XTo w0 w w' b y p s1 (s2.cas fa d.w wd) (N + 1) ({ d with sh := false, pc := 3 } : RC) → Q (.returned (.bool false)) w')) (ky : Hid (okb = true → ∀ w', XTo w0 w w' b y p s1 (s2.cas fa d.w wd) (N + 1) ({ d with sh := true, o := ⟨d.o.c, d.o.v, o3⟩, pc := 0 } : RC) → Q (.returned (.bool true)) w')) :
    Calls Tryz.prog 19 #[pt p, pt y] w fun e w' => Q e w' := by
  have h6 := hr.2.1
  have h7 := hr.2.2.1
  have h8 := hr.2.2.2.1
  have h9 := hr.2.2.2.2
  have i1 : IntKind.i64.wrap (d.r.at_ + 1) = d.r.at_ + 1 := by rw [IntKind.wrap_i64]; omega
  have i2 : IntKind.i64.wrap fa = fa := by rw [← hfa, IntKind.wrap_i64]; omega
  have hU : U64 wd := hwd ▸ Vl.u64 _
  have hwd : F.Plain.word d.r.y.k d.r.y.n = wd := hwd
  rcases hr.1 with hop | hop | hop
  all_goals (
    have c15 : w.cell? ⟨p, 15, none⟩ = some (.int .i64 4) := hpc ▸ B.cell 15
    have c26 : w.cell? ⟨p, 26, none⟩ = some (.bool d.sh) := B.cell 26
    have f26 := B.free 26
    have lp0 := B.lt
    have t2 : XTo w0 w (w.setCell ⟨p, 26, none⟩ (.bool false)) b y p s1 s2 N ({ d with sh := false } : RC) := (⟨h, B, Oth.refl _ _⟩ : XTo w0 w w b y p s1 s2 N d).kept (Kept.setCell [p] _ _ _ (by simp)) (B.r_sh false)
    go_enter Tryz.func19, Tryz.ntmps19
    go_upto_region 4 with (fail)
    generalize w.setCell ⟨p, 26, none⟩ (.bool false) = w2 at t2 ⊢
    clear c15 c26 f26
    have b2 := t2.blk
    have c14 : w2.cell? ⟨p, 14, none⟩ = some (.int .i64 9) := hal ▸ b2.cell 14
    go_upto_region 5 with (fail)
    have aS : Below w2.heap.size w2 (w2.alloc (.cells #[.int .i64 0, .int .i64 9] 38)) := (Below.refl _ _).alloc (Nat.le_refl _) _
    have t3 := t2.below aS
    have V3 : Blk w0 (w2.alloc (.cells #[.int .i64 0, .int .i64 9] 38)) w2.heap.size 38 #[.int .i64 0, .int .i64 9] := Blk.new t2.two.bel.size _ (by decide)
    generalize w2.alloc (.cells #[.int .i64 0, .int .i64 9] 38) = w3 at t3 V3 ⊢
    generalize w2.heap.size = sb at V3 ⊢
    clear aS c14 b2 t2
    have b3 := t3.blk
    have c5 : w3.cell? ⟨p, 5, none⟩ = some (.int .i64 d.r.op) := b3.cell 5
    rw [hop] at c5
    have c15 : w3.cell? ⟨p, 15, none⟩ = some (.int .i64 4) := hpc ▸ b3.cell 15
    go_upto_region 7 with (fail)
    clear c5
    go_upto_region 43 with (fail)
    clear c15 b3
    have hbd : Below w3.heap.size w3 w3.drew := (Below.refl _ _).drew
    have tD := t3.below hbd
    refine wp_region_noPanic ?_
    refine wp_region_held_drew (S := fun w' => w'.cell? ⟨p, 6, none⟩ = some (.int .i64 d.r.at_) ∧ w'.cell? ⟨p, 7, none⟩ = some (.int .i64 d.r.fd) ∧ w'.cell? ⟨p, 16, none⟩ = some (.int .u64 d.w) ∧ w'.cell? ⟨p, 10, none⟩ = some (.int .i64 d.r.y.k) ∧ w'.cell? ⟨p, 11, none⟩ = some (.int .i64 d.r.y.n)) (by kernel_rfl) ⟨tD.blk.cell 6, tD.blk.cell 7, tD.blk.cell 16, tD.blk.cell 10, tD.blk.cell 11⟩ (fun hHeld => ?_)
    refine tkH (i := 0) 293 (pt y) rfl rfl ?_
    simp only [sA1, sA2, sA3]
    refine tkH (i := 1) 294 (pt p) rfl rfl ?_
    simp only [sA1, sA2, sA3]
    refine tkH (i := 2) 295 (pt p) rfl rfl ?_
    simp only [sA1, sA2, sA3]
    refine tkH (i := 3) 296 (.pointer (some ⟨p, 5, none⟩)) rfl rfl ?_
    simp only [sA1, sA2, sA3]
    refine tkH (i := 4) 297 (.pointer (some ⟨p, 6, none⟩)) rfl rfl ?_
    simp only [sA1, sA2, sA3]
    refine tkH (i := 5) 298 (.int .i64 d.r.at_) rfl rfl ?_
    simp only [sA1, sA2, sA3]
    refine tkH (i := 6) 299 (.int .i64 (d.r.at_ + 1)) rfl rfl ?_
    simp only [sA1, sA2, sA3]
    refine tkH (i := 7) 300 (pt p) rfl rfl ?_
    simp only [sA1, sA2, sA3]
    refine tkH (i := 8) 301 (pt p) rfl rfl ?_
    simp only [sA1, sA2, sA3]
    refine tkH (i := 9) 302 (.pointer (some ⟨p, 5, none⟩)) rfl rfl ?_
    simp only [sA1, sA2, sA3]
    refine tkH (i := 10) 303 (.pointer (some ⟨p, 7, none⟩)) rfl rfl ?_
    simp only [sA1, sA2, sA3]
    refine tkH (i := 11) 304 (.int .i64 d.r.fd) rfl rfl ?_
    simp only [sA1, sA2, sA3]
    refine tkH (i := 12) 305 (.int .i64 fa) rfl rfl ?_
    simp only [sA1, sA2, sA3]
    refine tkH (i := 13) 306 (pt p) rfl rfl ?_
    simp only [sA1, sA2, sA3]
    refine tkH (i := 14) 307 (pt p) rfl rfl ?_
    simp only [sA1, sA2, sA3]
    refine tkH (i := 15) 308 (.pointer (some ⟨p, 16, none⟩)) rfl rfl ?_
    simp only [sA1, sA2, sA3]
    refine tkH (i := 16) 309 (.int .u64 d.w) rfl rfl ?_
    simp only [sA1, sA2, sA3]
    refine tkH (i := 17) 310 (pt p) rfl rfl ?_
    simp only [sA1, sA2, sA3]
    refine tkH (i := 18) 311 (pt p) rfl rfl ?_
    simp only [sA1, sA2, sA3]
    refine tkH (i := 19) 312 (.pointer (some ⟨p, 5, none⟩)) rfl rfl ?_
    simp only [sA1, sA2, sA3]
    refine tkH (i := 20) 313 (.pointer (some ⟨p, 10, none⟩)) rfl rfl ?_
    simp only [sA1, sA2, sA3]
    refine tkH (i := 21) 314 (.agg #[.int .i64 d.r.y.k, .int .i64 d.r.y.n]) rfl rfl ?_
    simp only [sA1, sA2, sA3]
    refine rd1 22 rfl fun K hK => ?_
    go_simp
    refine (F.rWord d.r.y.k d.r.y.n _).mono ?_
    rintro e w4 ⟨rfl, nw4, hw4⟩
    rw [hwd]
    have hb4 : Below w3.drew.heap.size w3.drew w4 := (by rw [hw4]; exact F.bdr ((Below.refl _ _).alloc (Nat.le_refl _) _) _)
    have t4 := tD.below hb4
    clear hw4
    refine hK.out _ _ ⟨t4.blk.cell 6, t4.blk.cell 7, t4.blk.cell 16, t4.blk.cell 10, t4.blk.cell 11⟩ (fun hHeld => ?_)
    clear hK K
    try simp only [Act.put, sA1, sA2, sA3]
    refine rd1 23 rfl fun K hK => ?_
    go_simp
    refine (yCAS t4.two (by omega) fa d.w hU).mono ?_
    rintro e w5 ⟨rfl, h5, o5⟩
    rw [hok]
    have t5 : XTo w0 w w5 b y p s1 (s2.cas fa d.w wd) (N + 1) ({ d with sh := false } : RC) := ⟨h5, t4.blk.oth o5 (by simp), t4.oth.trans (o5.mono (by simp))⟩
    clear h5 o5
    refine hK.out _ _ ⟨t5.blk.cell 6, t5.blk.cell 7, t5.blk.cell 16, t5.blk.cell 10, t5.blk.cell 11⟩ (fun hHeld => ?_)
    clear hK K
    try simp only [Act.put, sA1, sA2, sA3]
    refine tkH (i := 24) 10 (.bool okb) rfl rfl ?_
    simp only [sA1, sA2, sA3]
    refine wpAnyH_done (by kernel_rfl) ?_ _
    refine NoPanic.normal ?_
    have b5 := t5.blk
    have c15 : w5.cell? ⟨p, 15, none⟩ = some (.int .i64 4) := hpc ▸ b5.cell 15
    have f15 := b5.free 15
    have c26 : w5.cell? ⟨p, 26, none⟩ = some (.bool false) := b5.cell 26
    have f26 := b5.free 26
    have c30 : w5.cell? ⟨p, 30, none⟩ = some (.bool d.o.y) := b5.cell 30
    have f30 := b5.free 30
    rcases okb with _ | _
    · go_wp2
      exact kn.out (by trivial) _ (t5.kept (Kept.setCell [p] _ _ _ (by simp)) (b5.r_pc 3))
    · have KY := kept4 w5 p 15 26 30 15 (.int .i64 3) (.bool true) (.bool o3) (.int .i64 0)
      have tY := t5.kept KY ((((b5.r_pc 3).r_sh true).r_oy o3).r_pc 0)
      have c5 : w5.cell? ⟨p, 5, none⟩ = some (.int .i64 d.r.op) := b5.cell 5
      rw [hop] at c5 ho3
      simp at ho3
      subst ho3
      go_wp2
      exact ky.out (by trivial) _ tY)
theorem xs8 {Q : Ending → World → Prop} (h : Two w0 w b y s1 s2 N) (B : Blk w0 w p 65 d.cells) (hN : N + 5 < 1000000) {px : Nat} {F : List Nat} {x x' : Sx} {dn : Bool} (hpc : d.pc = 8) (hal : d.e.al = 9) (hx : d.x = pt px) (M : RPm w0 w px F x) (hpF : p ∉ px :: F) (hnF : ∀ q ∈ px :: F, q ≠ p) (hx' : x.next s2 = x') (hd : x'.done = dn) (kn : Hid (dn = false → ∀ w', Two w0 w' b y s1 (x.mem s2) (N + 1) → Blk w0 w' p 65 ({ d with sh := x'.hit } : RC).cells → Oth (p :: px :: F) w w' → ∀ F', RPm w0 w' px F' x' → (∀ k ∈ F', k ∈ F ∨ w.heap.size ≤ k) → Q (.returned (.bool false)) w')) (kd : Hid (dn = true → ∀ w', Two w0 w' b y s1 (x.mem s2) (N + 1) → Blk w0 w' p 65 ({ d with sh := x'.hit, pc := 0, o := x'.o } : RC).cells → Oth (p :: px :: F) w w' → Q (.returned (.bool true)) w')) :
    Calls Tryz.prog 19 #[pt p, pt y] w fun e w' => Q e w' := by
  have hlp := B.lt
  obtain ⟨b3', hb3⟩ : ∃ q, (d.r.op == 3) = q := ⟨_, rfl⟩
  rcases hb2 : (d.r.op == 2) with _ | _
  all_goals (
    have c15 : w.cell? ⟨p, 15, none⟩ = some (.int .i64 8) := hpc ▸ B.cell 15
    have c26 : w.cell? ⟨p, 26, none⟩ = some (.bool d.sh) := B.cell 26
    have f26 := B.free 26
    have lp0 := B.lt
    have t2 : XTo w0 w (w.setCell ⟨p, 26, none⟩ (.bool false)) b y p s1 s2 N ({ d with sh := false } : RC) := (⟨h, B, Oth.refl _ _⟩ : XTo w0 w w b y p s1 s2 N d).kept (Kept.setCell [p] _ _ _ (by simp)) (B.r_sh false)
    go_enter Tryz.func19, Tryz.ntmps19
    go_upto_region 4 with (fail)
    generalize w.setCell ⟨p, 26, none⟩ (.bool false) = w2 at t2 ⊢
    clear c15 c26 f26
    have b2 := t2.blk
    have c14 : w2.cell? ⟨p, 14, none⟩ = some (.int .i64 9) := hal ▸ b2.cell 14
    go_upto_region 5 with (fail)
    have aS : Below w2.heap.size w2 (w2.alloc (.cells #[.int .i64 0, .int .i64 9] 38)) := (Below.refl _ _).alloc (Nat.le_refl _) _
    have t3 := t2.below aS
    have V3 : Blk w0 (w2.alloc (.cells #[.int .i64 0, .int .i64 9] 38)) w2.heap.size 38 #[.int .i64 0, .int .i64 9] := Blk.new t2.two.bel.size _ (by decide)
    generalize w2.alloc (.cells #[.int .i64 0, .int .i64 9] 38) = w3 at t3 V3 ⊢
    generalize w2.heap.size = sb at V3 ⊢
    clear aS c14 b2 t2
    have b3 := t3.blk
    have c5 : w3.cell? ⟨p, 5, none⟩ = some (.int .i64 d.r.op) := b3.cell 5
    have c15 : w3.cell? ⟨p, 15, none⟩ = some (.int .i64 8) := hpc ▸ b3.cell 15
    go_upto_region 7 with (fail)
    clear c5
    have hsz := t3.oth.size
    have M2 := M.oth t3.oth (by simpa using hnF px (by simp)) (fun q hq => by simpa using hnF q (by simp [hq]))
    have c24 : w3.cell? ⟨p, 24, none⟩ = some (pt px) := hx ▸ b3.cell 24
    go_upto_region 51 with (go_at_call 54; refine (rPStep t3.two M2 hN).mono ?_; rintro e w4 ⟨rfl, t4, o4, F', M4, fr⟩; rw [hx'] at M4 ⊢; rw [hd])
    have b4 := b3.oth o4 hpF
    have px3 : px ≠ p := hnF px (by simp)
    have hF' : ∀ k ∈ F', k ≠ p := fun k hk e => by
      rcases fr k hk with h' | h'
      · exact hnF k (by simp [h']) e
      · exact absurd h' (by have := B.lt; clear kn kd; omega)
    have s4 := M4.shown
    have e24 : w4.cell? ⟨p, 24, none⟩ = some (pt px) := hx ▸ b4.cell 24
    have e26 : w4.cell? ⟨p, 26, none⟩ = some (.bool false) := b4.cell 26
    have ef26 := b4.free 26
    go_upto_region 52 with (fail)
    have K5 : Kept [p] w4 (w4.setCell ⟨p, 26, none⟩ (.bool x'.hit)) := Kept.setCell [p] _ _ _ (by simp)
    have b5 := b4.r_sh x'.hit
    have t5 := to_twoB t4 K5 b4
    have M5 := M4.oth (G := [p]) (Oth.kept K5) (by simpa using px3) (fun q hq => by simpa using hF' q hq)
    have o5 : Oth (p :: px :: F) w _ := (t3.oth.mono (by simp)).trans ((o4.mono (fun k hk => by simp at hk ⊢; exact .inr hk)).trans ((Oth.kept K5).mono (by simp)))
    clear e24 e26 ef26 s4
    generalize w4.setCell ⟨p, 26, none⟩ (.bool x'.hit) = w5 at b5 t5 M5 o5 ⊢
    have c15' : w5.cell? ⟨p, 15, none⟩ = some (.int .i64 8) := hpc ▸ b5.cell 15
    rcases dn with _ | _
    · go_wp2
      exact kn.out (by trivial) _ t5 (by simpa only [RC.cells, hpc, hx] using b5) o5 F' M5 fun k hk => (fr k hk).imp id fun h' => Nat.le_trans hsz h'
    · have f15' := b5.free 15
      have e24 : w5.cell? ⟨p, 24, none⟩ = some (pt px) := hx ▸ b5.cell 24
      obtain ⟨pcx, oc, ok', on', oy, -, g1, g2, g3, g4, -, hq, -⟩ := M5.told
      have hox : x'.o = ⟨oc, ⟨ok', on'⟩, oy⟩ := hq hd
      have l5 := M5.lt
      have d27 : w5.cell? ⟨p, 27, none⟩ = some (.int .i64 d.o.c) := b5.cell 27
      have df27 := b5.free 27
      have d28 : w5.cell? ⟨p, 28, none⟩ = some (.int .i64 d.o.v.k) := b5.cell 28
      have df28 := b5.free 28
      have d29 : w5.cell? ⟨p, 29, none⟩ = some (.int .i64 d.o.v.n) := b5.cell 29
      have df29 := b5.free 29
      have d30 : w5.cell? ⟨p, 30, none⟩ = some (.bool d.o.y) := b5.cell 30
      have df30 := b5.free 30
      go_wp2
      have K6 := (kept4 w5 p 27 28 29 30 (.int .i64 oc) (.int .i64 ok') (.int .i64 on') (.bool oy)).tr (Kept.setCell [p] _ ⟨p, 15, none⟩ (.int .i64 0) (by simp))
      exact kd.out (by trivial) _ (to_twoB t5 K6 b5) (by simpa only [RC.cells, hpc, hx, hox] using (b5.r_o ⟨oc, ⟨ok', on'⟩, oy⟩).r_pc 0) (o5.trans ((Oth.kept K6).mono (by simp))))
theorem xs9 {Q : Ending → World → Prop} (h : Two w0 w b y s1 s2 N) (B : Blk w0 w p 65 d.cells) (hN : N + 5 < 1000000) {px : Nat} {F : List Nat} {x x' : Sx} {dn : Bool} (hpc : d.pc = 9) (hal : d.e.al = 9) (hx : d.y = pt px) (M : RDm w0 w px F x) (hpF : p ∉ px :: F) (hnF : ∀ q ∈ px :: F, q ≠ p) (hx' : x.next s2 = x') (hd : x'.done = dn) (kn : Hid (dn = false → ∀ w', Two w0 w' b y s1 (x.mem s2) (N + 1) → Blk w0 w' p 65 ({ d with sh := x'.hit } : RC).cells → Oth (p :: px :: F) w w' → ∀ F', RDm w0 w' px F' x' → (∀ k ∈ F', k ∈ F ∨ w.heap.size ≤ k) → Q (.returned (.bool false)) w')) (kd : Hid (dn = true → ∀ w', Two w0 w' b y s1 (x.mem s2) (N + 1) → Blk w0 w' p 65 ({ d with sh := x'.hit, pc := 0, o := x'.o } : RC).cells → Oth (p :: px :: F) w w' → Q (.returned (.bool true)) w')) :
    Calls Tryz.prog 19 #[pt p, pt y] w fun e w' => Q e w' := by
  have hlp := B.lt
  obtain ⟨b3', hb3⟩ : ∃ q, (d.r.op == 3) = q := ⟨_, rfl⟩
  rcases hb2 : (d.r.op == 2) with _ | _
  all_goals (
    have c15 : w.cell? ⟨p, 15, none⟩ = some (.int .i64 9) := hpc ▸ B.cell 15
    have c26 : w.cell? ⟨p, 26, none⟩ = some (.bool d.sh) := B.cell 26
    have f26 := B.free 26
    have lp0 := B.lt
    have t2 : XTo w0 w (w.setCell ⟨p, 26, none⟩ (.bool false)) b y p s1 s2 N ({ d with sh := false } : RC) := (⟨h, B, Oth.refl _ _⟩ : XTo w0 w w b y p s1 s2 N d).kept (Kept.setCell [p] _ _ _ (by simp)) (B.r_sh false)
    go_enter Tryz.func19, Tryz.ntmps19
    go_upto_region 4 with (fail)
    generalize w.setCell ⟨p, 26, none⟩ (.bool false) = w2 at t2 ⊢
    clear c15 c26 f26
    have b2 := t2.blk
    have c14 : w2.cell? ⟨p, 14, none⟩ = some (.int .i64 9) := hal ▸ b2.cell 14
    go_upto_region 5 with (fail)
    have aS : Below w2.heap.size w2 (w2.alloc (.cells #[.int .i64 0, .int .i64 9] 38)) := (Below.refl _ _).alloc (Nat.le_refl _) _
    have t3 := t2.below aS
    have V3 : Blk w0 (w2.alloc (.cells #[.int .i64 0, .int .i64 9] 38)) w2.heap.size 38 #[.int .i64 0, .int .i64 9] := Blk.new t2.two.bel.size _ (by decide)
    generalize w2.alloc (.cells #[.int .i64 0, .int .i64 9] 38) = w3 at t3 V3 ⊢
    generalize w2.heap.size = sb at V3 ⊢
    clear aS c14 b2 t2
    have b3 := t3.blk
    have c5 : w3.cell? ⟨p, 5, none⟩ = some (.int .i64 d.r.op) := b3.cell 5
    have c15 : w3.cell? ⟨p, 15, none⟩ = some (.int .i64 9) := hpc ▸ b3.cell 15
    go_upto_region 7 with (fail)
    clear c5
    have hsz := t3.oth.size
    have M2 := M.oth t3.oth (by simpa using hnF px (by simp)) (fun q hq => by simpa using hnF q (by simp [hq]))
    have c25 : w3.cell? ⟨p, 25, none⟩ = some (pt px) := hx ▸ b3.cell 25
    go_upto_region 57 with (go_at_call 55; refine (rDStep t3.two M2 hN).mono ?_; rintro e w4 ⟨rfl, t4, o4, F', M4, fr⟩; rw [hx'] at M4 ⊢; rw [hd])
    have b4 := b3.oth o4 hpF
    have px3 : px ≠ p := hnF px (by simp)
    have hF' : ∀ k ∈ F', k ≠ p := fun k hk e => by
      rcases fr k hk with h' | h'
      · exact hnF k (by simp [h']) e
      · exact absurd h' (by have := B.lt; clear kn kd; omega)
    have s4 := M4.shown
    have e25 : w4.cell? ⟨p, 25, none⟩ = some (pt px) := hx ▸ b4.cell 25
    have e26 : w4.cell? ⟨p, 26, none⟩ = some (.bool false) := b4.cell 26
    have ef26 := b4.free 26
    go_upto_region 58 with (fail)
    have K5 : Kept [p] w4 (w4.setCell ⟨p, 26, none⟩ (.bool x'.hit)) := Kept.setCell [p] _ _ _ (by simp)
    have b5 := b4.r_sh x'.hit
    have t5 := to_twoB t4 K5 b4
    have M5 := M4.oth (G := [p]) (Oth.kept K5) (by simpa using px3) (fun q hq => by simpa using hF' q hq)
    have o5 : Oth (p :: px :: F) w _ := (t3.oth.mono (by simp)).trans ((o4.mono (fun k hk => by simp at hk ⊢; exact .inr hk)).trans ((Oth.kept K5).mono (by simp)))
    clear e25 e26 ef26 s4
    generalize w4.setCell ⟨p, 26, none⟩ (.bool x'.hit) = w5 at b5 t5 M5 o5 ⊢
    have c15' : w5.cell? ⟨p, 15, none⟩ = some (.int .i64 9) := hpc ▸ b5.cell 15
    rcases dn with _ | _
    · go_wp2
      exact kn.out (by trivial) _ t5 (by simpa only [RC.cells, hpc, hx] using b5) o5 F' M5 fun k hk => (fr k hk).imp id fun h' => Nat.le_trans hsz h'
    · have f15' := b5.free 15
      have e25 : w5.cell? ⟨p, 25, none⟩ = some (pt px) := hx ▸ b5.cell 25
      obtain ⟨pcx, oc, ok', on', oy, -, g1, g2, g3, g4, -, hq, -⟩ := M5.told
      have hox : x'.o = ⟨oc, ⟨ok', on'⟩, oy⟩ := hq hd
      have l5 := M5.lt
      have d27 : w5.cell? ⟨p, 27, none⟩ = some (.int .i64 d.o.c) := b5.cell 27
      have df27 := b5.free 27
      have d28 : w5.cell? ⟨p, 28, none⟩ = some (.int .i64 d.o.v.k) := b5.cell 28
      have df28 := b5.free 28
      have d29 : w5.cell? ⟨p, 29, none⟩ = some (.int .i64 d.o.v.n) := b5.cell 29
      have df29 := b5.free 29
      have d30 : w5.cell? ⟨p, 30, none⟩ = some (.bool d.o.y) := b5.cell 30
      have df30 := b5.free 30
      go_wp2
      have K6 := (kept4 w5 p 27 28 29 30 (.int .i64 oc) (.int .i64 ok') (.int .i64 on') (.bool oy)).tr (Kept.setCell [p] _ ⟨p, 15, none⟩ (.int .i64 0) (by simp))
      exact kd.out (by trivial) _ (to_twoB t5 K6 b5) (by simpa only [RC.cells, hpc, hx, hox] using (b5.r_o ⟨oc, ⟨ok', on'⟩, oy⟩).r_pc 0) (o5.trans ((Oth.kept K6).mono (by simp))))
end
end Go.Proofs.YtmlgohknbjfciaaGreatDoor
