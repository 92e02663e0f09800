/-
  A step of a Poll.
-/
import Derived.Test.YtoablodmodnamaaDoorKcq
import Derived.Deep.RegionHeld3
import Derived.Test.YtoablodmodnamaaDoorPCalls2q
namespace Go.Proofs.YtoablodmodnamaaDoor
set_option linter.unusedVariables false
set_option linter.unusedSimpArgs false
set_option maxRecDepth 100000
open Go.ChangeShapes Go.WideShapes Go.RowKit
open S.Plain (t0 t1 tw nx p0 p1 p2 p3 pw)
open H.Plain (hw pS pC pN pM pG pT pL)

section
variable {w : World} {L : Loc} {s : St} {p : Nat} {b : PB}
set_option maxHeartbeats 1000000 in
theorem po1 (A : At 142 w L s p 112 b.cells) (f : s.Fit) (hc : s.c < 1000000) (r : s.Rng) (hn : b.n ≤ 8) (hpc : b.pc = 1) :
    Calls Tryd.prog 17 #[.pointer (some ⟨p, 0, none⟩), .pointer (some ⟨L.b, 0, none⟩)] w fun e w' => e = .returned (.bool ((b.asks (Ph.of (s.got 0))).behindP == 0)) ∧
      ∃ L', At 142 w' L' (s.load 0) p 112 (((b.asks (Ph.of (s.got 0))).behind.goto (b.asks (Ph.of (s.got 0))).behindP) ).cells ∧ Went w L p w' L' := by
  have c15 : w.cell? ⟨p, 15, none⟩ = some (.int .i64 1) := (A.cell 15).trans (by show some (Value.int .i64 (b.pc : Int)) = _; rw [hpc]; rfl)
  clear hpc
  have hr := r.got 0
  obtain ⟨v, hv⟩ : ∃ v, s.got 0 = v := ⟨_, rfl⟩
  rw [hv] at hr ⊢
  obtain ⟨B, hB⟩ : ∃ B : PB, b.asks (Ph.of v) = B := ⟨_, rfl⟩
  have hBn : B.n ≤ 8 := by rw [← hB]; exact hn
  rw [hB]
  obtain ⟨P, hP⟩ : ∃ P, B.behindP = P := ⟨_, rfl⟩
  rw [hP]
  obtain ⟨d, hd⟩ : ∃ d, (P == 0) = d := ⟨_, rfl⟩
  have qd : ((P : Int) == 0) = d := by rw [← hd]; cases P <;> rfl
  rw [hd]
  go_enter Tryd.func17, Tryd.ntmps17
  go_upto_region 4 with (first
    | (go_at_call 31; refine (cLoad A.mem f hc 0).mono ?_; rintro e w1 ⟨rfl, L1, hm1, st⟩; rw [hv]; have A1 := A.step hm1 st)
    | (go_at_call 46; refine (S.cOfPhase v hr.1 hr.2 _).mono ?_; rintro e w2 ⟨rfl, hw2⟩; have hb2 : Below w1.heap.size w1 w2 := (by rw [hw2]; go_grown); clear hw2; have A2 := A1.below hb2; have g2 := (Went.of_step st p).trans (Went.of_below hb2 _ _); have x16 : w2.cell? ⟨p, 16, none⟩ = some (.int .i64 b.q.no) := A2.cell 16; have xf16 := A2.free 16; have x17 : w2.cell? ⟨p, 17, none⟩ = some (.int .i64 b.q.md) := A2.cell 17; have xf17 := A2.free 17; have x18 : w2.cell? ⟨p, 18, none⟩ = some (.int .i64 b.q.mr) := A2.cell 18; have xf18 := A2.free 18; have x19 : w2.cell? ⟨p, 19, none⟩ = some (.int .i64 b.q.ls) := A2.cell 19; have xf19 := A2.free 19))
  have A3 := (((A2.set 16 (.int .i64 (p0 v))).set 17 (.int .i64 (p1 v))).set 18 (.int .i64 (p2 v))).set 19 (.int .i64 (p3 v))
  have g3 := (((g2.trans (Went.set w2 L1 p 16 (.int .i64 (p0 v)))).trans (Went.set _ L1 p 17 (.int .i64 (p1 v)))).trans (Went.set _ L1 p 18 (.int .i64 (p2 v)))).trans (Went.set _ L1 p 19 (.int .i64 (p3 v)))
  have A4 : At 142 ((((w2.setCell ⟨p, 16, none⟩ (.int .i64 (p0 v))).setCell ⟨p, 17, none⟩ (.int .i64 (p1 v))).setCell ⟨p, 18, none⟩ (.int .i64 (p2 v))).setCell ⟨p, 19, none⟩ (.int .i64 (p3 v))) L1 (s.load 0) p 112 B.cells := by rw [← hB]; exact A3
  clear A3 x16 xf16 x17 xf17 x18 xf18 x19 xf19
  generalize (((w2.setCell ⟨p, 16, none⟩ (.int .i64 (p0 v))).setCell ⟨p, 17, none⟩ (.int .i64 (p1 v))).setCell ⟨p, 18, none⟩ (.int .i64 (p2 v))).setCell ⟨p, 19, none⟩ (.int .i64 (p3 v)) = wa at A4 g3 ⊢
  clear hB hv hd
  go_wp2_with (go_at_call 47; refine (cBehind A4 hBn).mono ?_; rintro e w5 ⟨rfl, A5, g5⟩; rw [hP]; have y15 : w5.cell? ⟨p, 15, none⟩ = some (.int .i64 B.behind.pc) := A5.cell 15; have yf15 := A5.free 15)
  go_ret
  exact ⟨rfl, L1, A5.set 15 (.int .i64 P), (g3.trans g5).trans (Went.set _ _ _ _ _)⟩
set_option maxHeartbeats 1000000 in
theorem po2n (A : At 142 w L s p 112 b.cells) (f : s.Fit) (hc : s.c < 1000000) (r : s.Rng) (hn : b.n ≤ 8) (hpc : b.pc = 2) (ok : b.sh.Ok) (hd : ((b.sh.next s).pc == 0) = false) :
    Calls Tryd.prog 17 #[.pointer (some ⟨p, 0, none⟩), .pointer (some ⟨L.b, 0, none⟩)] w fun e w' => e = .returned (.bool false) ∧
      ∃ L', At 142 w' L' (b.sh.mem s) p 112 ((b.shades (b.sh.next s)) ).cells ∧ Went w L p w' L' := by
  have c15 : w.cell? ⟨p, 15, none⟩ = some (.int .i64 2) := (A.cell 15).trans (by show some (Value.int .i64 (b.pc : Int)) = _; rw [hpc]; rfl)
  have c15k := hpc
  clear hpc
  obtain ⟨y, hy⟩ : ∃ y, b.sh.next s = y := ⟨_, rfl⟩
  obtain ⟨s', hs'⟩ : ∃ s', b.sh.mem s = s' := ⟨_, rfl⟩
  rw [hy] at hd ⊢
  rw [hs']
  have AI : AtI 142 w L s p 112 b.fr [] 21 b.sh.cells := ⟨A, rfl⟩
  go_enter Tryd.func17, Tryd.ntmps17
  go_upto_region 19 with (go_at_call 26; refine (cShadeI AI ok f hc r).mono ?_; rintro e w1 ⟨rfl, L1, AI1, g1⟩; rw [hy] at AI1; rw [hs'] at AI1; rw [hy, hd]; have A1 : At 142 w1 L1 s' p 112 (b.shades y).cells := AI1.at_; have y15 : w1.cell? ⟨p, 15, none⟩ = some (.int .i64 2) := (A1.cell 15).trans (by show some (Value.int .i64 (b.pc : Int)) = _; rw [c15k]; rfl))
  go_wp2
  go_ret
  exact ⟨rfl, L1, A1, g1⟩
set_option maxHeartbeats 1000000 in
theorem po2d (A : At 142 w L s p 112 b.cells) (f : s.Fit) (hc : s.c < 1000000) (r : s.Rng) (hn : b.n ≤ 8) (hpc : b.pc = 2) (ok : b.sh.Ok) (hd : ((b.sh.next s).pc == 0) = true) (hi : b.root < b.n) :
    Calls Tryd.prog 17 #[.pointer (some ⟨p, 0, none⟩), .pointer (some ⟨L.b, 0, none⟩)] w fun e w' => e = .returned (.bool false) ∧
      ∃ L', At 142 w' L' (b.sh.mem s) p 112 ((((b.shades (b.sh.next s)).toShade (b.root + 1)).goto (b.toShadeP (b.root + 1))) ).cells ∧ Went w L p w' L' := by
  have c15 : w.cell? ⟨p, 15, none⟩ = some (.int .i64 2) := (A.cell 15).trans (by show some (Value.int .i64 (b.pc : Int)) = _; rw [hpc]; rfl)
  clear hpc
  obtain ⟨y, hy⟩ : ∃ y, b.sh.next s = y := ⟨_, rfl⟩
  obtain ⟨s', hs'⟩ : ∃ s', b.sh.mem s = s' := ⟨_, rfl⟩
  rw [hy] at hd ⊢
  rw [hs']
  have AI : AtI 142 w L s p 112 b.fr [] 21 b.sh.cells := ⟨A, rfl⟩
  obtain ⟨P, hP⟩ : ∃ P, b.toShadeP (b.root + 1) = P := ⟨_, rfl⟩
  have hP2 : (b.shades y).toShadeP (b.root + 1) = P := hP
  have qd : ((P : Int) == 0) = false := by rw [← hP, PB.toShadeP]; split <;> rfl
  obtain ⟨k, hk⟩ : ∃ k : Nat, b.root + 1 = k := ⟨_, rfl⟩
  have hki : (b.root : Int) + 1 = (k : Int) := by omega
  rw [hk] at hP2
  rw [hP, hk]
  clear hP
  go_enter Tryd.func17, Tryd.ntmps17
  go_upto_region 7 with (go_at_call 26; refine (cShadeI AI ok f hc r).mono ?_; rintro e w1 ⟨rfl, L1, AI1, g1⟩; rw [hy] at AI1; rw [hs'] at AI1; rw [hy, hd]; have A1 : At 142 w1 L1 s' p 112 (b.shades y).cells := AI1.at_; have y20 : w1.cell? ⟨p, 20, none⟩ = some (.int .i64 b.root) := A1.cell 20)
  go_wp2_with (go_at_call 48; refine (cToShade A1 k (by show k ≤ b.n; omega) hn).mono ?_; rintro e w2 ⟨rfl, A2, g2⟩; rw [hP2]; have z15 : w2.cell? ⟨p, 15, none⟩ = some (.int .i64 ((b.shades y).toShade k).pc) := A2.cell 15; have zf15 := A2.free 15)
  go_ret
  exact ⟨rfl, L1, A2.set 15 (.int .i64 P), (g1.trans g2).trans (Went.set _ _ _ _ _)⟩
set_option maxHeartbeats 1000000 in
theorem po3 (A : At 142 w L s p 112 b.cells) (f : s.Fit) (hc : s.c < 1000000) (r : s.Rng) (hn : b.n ≤ 8) (hpc : b.pc = 3) :
    Calls Tryd.prog 17 #[.pointer (some ⟨p, 0, none⟩), .pointer (some ⟨L.b, 0, none⟩)] w fun e w' => e = .returned (.bool false) ∧
      ∃ L', At 142 w' L' (s.load 9) p 112 (((b.knows (IntKind.i64.wrap (s.got 9))).goto 5) ).cells ∧ Went w L p w' L' := by
  have c15 : w.cell? ⟨p, 15, none⟩ = some (.int .i64 3) := (A.cell 15).trans (by show some (Value.int .i64 (b.pc : Int)) = _; rw [hpc]; rfl)
  clear hpc
  have hr := r.got 9
  obtain ⟨v, hv⟩ : ∃ v, s.got 9 = v := ⟨_, rfl⟩
  rw [hv] at hr ⊢
  obtain ⟨u, hu⟩ : ∃ u, IntKind.i64.wrap v = u := ⟨_, rfl⟩
  rw [hu]
  go_enter Tryd.func17, Tryd.ntmps17
  go_wp2_with (go_at_call 31; refine (cLoad A.mem f hc 9).mono ?_; rintro e w1 ⟨rfl, L1, hm1, st⟩; rw [hv]; have A1 := A.step hm1 st; have d5 : w1.cell? ⟨p, 5, none⟩ = some (.int .i64 b.al) := A1.cell 5; have df5 := A1.free 5; have d15 : w1.cell? ⟨p, 15, none⟩ = some (.int .i64 b.pc) := A1.cell 15; have df15 := A1.free 15)
  go_ret
  exact ⟨rfl, L1, (A1.set 5 (.int .i64 u)).set 15 (.int .i64 5), ((Went.of_step st p).trans (Went.set _ _ _ _ _)).trans (Went.set _ _ _ _ _)⟩
set_option maxHeartbeats 1000000 in
theorem po4 (A : At 142 w L s p 112 b.cells) (f : s.Fit) (hc : s.c < 1000000) (r : s.Rng) (hn : b.n ≤ 8) (hpc : b.pc = 4) (hi : b.root < b.n) :
    Calls Tryd.prog 17 #[.pointer (some ⟨p, 0, none⟩), .pointer (some ⟨L.b, 0, none⟩)] w fun e w' => e = .returned (.bool false) ∧
      ∃ L', At 142 w' L' (s.load (b.l b.root)) p 112 ((((b.puts b.root (mvd (s.got (b.l b.root)) (b.l b.root))).sought (b.root + 1)).goto ((b.puts b.root (mvd (s.got (b.l b.root)) (b.l b.root))).toFixP (b.root + 1))) ).cells ∧ Went w L p w' L' := by
  have c15 : w.cell? ⟨p, 15, none⟩ = some (.int .i64 4) := (A.cell 15).trans (by show some (Value.int .i64 (b.pc : Int)) = _; rw [hpc]; rfl)
  clear hpc
  have c20 : w.cell? ⟨p, 20, none⟩ = some (.int .i64 b.root) := A.cell 20
  have hl := lt_of_block A.blk
  obtain ⟨k, hk⟩ : ∃ k, b.root = k := ⟨_, rfl⟩
  rw [hk] at hi c20 ⊢
  have hk8 : k < 8 := by omega
  have hk0 : (0 : Int) ≤ (k : Int) ∧ (k : Int) < 8 := by omega
  obtain ⟨a, ha⟩ : ∃ a, b.l k = a := ⟨_, rfl⟩
  have ck : w.cell? ⟨p, 7 + k, none⟩ = some (.int .i64 a) := (A.cell _).trans ((b.root_at k hk8).trans (by rw [ha]))
  rw [ha]
  have hr := r.got a
  obtain ⟨v, hv⟩ : ∃ v, s.got a = v := ⟨_, rfl⟩
  rw [hv] at hr ⊢
  obtain ⟨u, hu⟩ : ∃ u, mvd v a = u := ⟨_, rfl⟩
  rw [hu]
  have hu' : H.Plain.mv v a = u := hu
  obtain ⟨B, hB⟩ : ∃ B : PB, b.puts k u = B := ⟨_, rfl⟩
  have hBn : B.n = b.n := by rw [← hB]; rfl
  have hBr : B.root = k := by rw [← hB]; exact hk
  rw [hB]
  obtain ⟨P, hP⟩ : ∃ P, B.toFixP (k + 1) = P := ⟨_, rfl⟩
  have qd : ((P : Int) == 0) = false := by rw [← hP, PB.toFixP]; split <;> rfl
  obtain ⟨k1, hk1⟩ : ∃ k1 : Nat, k + 1 = k1 := ⟨_, rfl⟩
  have hki : (k : Int) + 1 = (k1 : Int) := by omega
  rw [hk1] at hP ⊢
  rw [hP]
  go_enter Tryd.func17, Tryd.ntmps17
  go_wp2_with (fail)
  go_quiet (fail)
  clear c20 ck c15
  go_upto_region 13 with (fail)
  generalize hwd : w.drewN _ = wd
  have hbd0 : Below w.heap.size w wd := hwd ▸ S.bdr (Below.refl w.heap.size w) _
  have Ad := A.below hbd0
  have gd := Went.of_below hbd0 L p
  clear hwd hbd0
  have hld := lt_of_block Ad.blk
  have hbd : Below wd.heap.size wd wd.drew := (Below.refl wd.heap.size wd).drew
  have RD : wd.drew.cell? ⟨p, 7 + k, none⟩ = some (.int .i64 a) := ((Ad.below hbd).cell _).trans ((b.root_at k hk8).trans (by rw [ha]))
  refine wp_region_held_drew (S := fun w' => True) (by kernel_rfl) trivial (fun hHeld => ?_)
  refine takeH (i := 0) 62 (.pointer (some ⟨p, 7 + k, none⟩)) rfl rfl (by kernel_rfl) (by kernel_rfl) (by kernel_rfl) (fun _ _ _ h => h) (by rfl) ?_ (by assumption) ?_
  · intro w hSw; (try dsimp only at hSw); go_simp
  simp only [List.setIfInBounds_toArray, List.set_cons_zero, List.set_cons_succ]
  refine takeH (i := 1) 63 (.pointer (some ⟨L.b, 0, none⟩)) rfl rfl (by kernel_rfl) (by kernel_rfl) (by kernel_rfl) (fun _ _ _ h => h) (by rfl) ?_ (by assumption) ?_
  · intro w hSw; (try dsimp only at hSw); go_simp
  simp only [List.setIfInBounds_toArray, List.set_cons_zero, List.set_cons_succ]
  refine takeH (i := 2) 64 (.pointer (some ⟨p, 7 + k, none⟩)) rfl rfl (by kernel_rfl) (by kernel_rfl) (by kernel_rfl) (fun _ _ _ h => h) (by rfl) ?_ (by assumption) ?_
  · intro w hSw; (try dsimp only at hSw); go_simp
  simp only [List.setIfInBounds_toArray, List.set_cons_zero, List.set_cons_succ]
  refine takeH (i := 3) 65 (.pointer (some ⟨p, 7 + k, none⟩)) rfl rfl (by kernel_rfl) (by kernel_rfl) (by kernel_rfl) (fun _ _ _ h => h) (by rfl) ?_ (by assumption) ?_
  · intro w hSw; (try dsimp only at hSw); go_simp
  simp only [List.setIfInBounds_toArray, List.set_cons_zero, List.set_cons_succ]
  refine takeH (i := 6) 68 (.pointer (some ⟨p, 7 + k, none⟩)) rfl rfl (by kernel_rfl) (by kernel_rfl) (by kernel_rfl) (fun _ _ _ h => h) (by rfl) ?_ (by assumption) ?_
  · intro w hSw; (try dsimp only at hSw); go_simp
  simp only [List.setIfInBounds_toArray, List.set_cons_zero, List.set_cons_succ]
  refine takeH (i := 7) 69 (.pointer (some ⟨p, 7 + k, none⟩)) rfl rfl (by kernel_rfl) (by kernel_rfl) (by kernel_rfl) (fun _ _ _ h => h) (by rfl) ?_ (by assumption) ?_
  · intro w hSw; (try dsimp only at hSw); go_simp
  simp only [List.setIfInBounds_toArray, List.set_cons_zero, List.set_cons_succ]
  refine wpAnyH_ready (rs := [4, 8]) (by kernel_rfl) (by simp) ?_
  refine AllReadyH.cons rfl (fun K hK => ?_) (AllReadyH.cons rfl (fun K hK => ?_) AllReadyH.nil)
  · go_simp
    refine hK.out _ _ trivial (fun hHeld => ?_)
    clear hK K
    try simp only [Act.put, List.setIfInBounds_toArray, List.set_cons_zero, List.set_cons_succ]
    refine wpAnyH_ready (rs := [5, 8]) (by kernel_rfl) (by simp) ?_
    refine AllReadyH.cons rfl (fun K hK => ?_) (AllReadyH.cons rfl (fun K hK => ?_) AllReadyH.nil)
    · go_simp
      go_at_call 31
      refine (cLoad (Ad.below hbd).mem f hc a).mono ?_
      rintro e w1 ⟨rfl, L1, hm1, st⟩
      rw [hv]
      have A1 := (Ad.below hbd).step hm1 st
      have S1 : w1.cell? ⟨p, 7 + k, none⟩ = some (.int .i64 a) := (A1.cell _).trans ((b.root_at k hk8).trans (by rw [ha]))
      have sl1 := lt_of_block A1.blk
      refine hK.out _ _ trivial (fun hHeld => ?_)
      clear hK K
      try simp only [Act.put, List.setIfInBounds_toArray, List.set_cons_zero, List.set_cons_succ]
      refine wpAnyH_ready (rs := [8]) (by kernel_rfl) (by simp) ?_
      refine AllReadyH.cons rfl (fun K hK => ?_) AllReadyH.nil
      go_simp
      refine hK.out _ _ trivial (fun hHeld => ?_)
      clear hK K
      try simp only [Act.put, List.setIfInBounds_toArray, List.set_cons_zero, List.set_cons_succ]
      refine wpAnyH_ready (rs := [9]) (by kernel_rfl) (by simp) ?_
      refine AllReadyH.cons rfl (fun K hK => ?_) AllReadyH.nil
      go_simp
      go_at_call 49
      refine (H.cMoved v a hr.1 hr.2 _ A1.wid).mono ?_
      rintro e w2 ⟨rfl, hw2⟩
      have hb2 : Below w1.heap.size w1 w2 := (by rw [hw2]; go_grown)
      clear hw2
      rw [hu']
      have A2 := A1.below hb2
      have S2 : w2.cell? ⟨p, 7 + k, none⟩ = some (.int .i64 a) := (A2.cell _).trans ((b.root_at k hk8).trans (by rw [ha]))
      have sf2 := A2.free (7 + k)
      have sl2 := lt_of_block A2.blk
      refine hK.out _ _ trivial (fun hHeld => ?_)
      clear hK K
      try simp only [Act.put, List.setIfInBounds_toArray, List.set_cons_zero, List.set_cons_succ]
      refine takeH (i := 10) 72 (.pointer (some ⟨p, 7 + k, none⟩)) rfl rfl (by kernel_rfl) (by kernel_rfl) (by kernel_rfl) (fun _ _ _ h => h) (by rfl) ?_ (by assumption) ?_
      · intro w hSw; (try dsimp only at hSw); go_simp
      simp only [List.setIfInBounds_toArray, List.set_cons_zero, List.set_cons_succ]
      refine wpAnyH_ready (rs := [11]) (by kernel_rfl) (by simp) ?_
      refine AllReadyH.cons rfl (fun K hK => ?_) AllReadyH.nil
      go_simp
      refine hK.out _ _ trivial (fun hHeld => ?_)
      clear hK K
      try simp only [Act.put, List.setIfInBounds_toArray, List.set_cons_zero, List.set_cons_succ]
      refine wpAnyH_done (by kernel_rfl) ?_ _
      have A3 : At 142 (w2.setCell ⟨p, 7 + k, none⟩ (.int .i64 u)) L1 (s.load a) p 112 B.cells := hB ▸ (b.root_set k hk8 u) ▸ A2.set (7 + k) (.int .i64 u)
      have g3 : Went w L p (w2.setCell ⟨p, 7 + k, none⟩ (.int .i64 u)) L1 := (((gd.trans (Went.of_below hbd _ _)).trans (Went.of_step st p)).trans (Went.of_below hb2 _ _)).more
      clear S1 S2 sf2 RD
      generalize w2.setCell ⟨p, 7 + k, none⟩ (.int .i64 u) = w3 at A3 g3 ⊢
      have y20 : w3.cell? ⟨p, 20, none⟩ = some (.int .i64 k) := (A3.cell 20).trans (by show some (Value.int .i64 (B.root : Int)) = _; rw [hBr])
      clear hB hu hu'
      go_wp2_with (go_at_call 50; refine (cToMove A3 k1 (by omega) (by omega)).mono ?_; rintro e w4 ⟨rfl, A4, g4⟩; rw [hP]; have z15 : w4.cell? ⟨p, 15, none⟩ = some (.int .i64 (B.sought k1).pc) := A4.cell 15; have zf15 := A4.free 15)
      go_ret
      exact ⟨rfl, L1, A4.set 15 (.int .i64 P), (g3.trans g4).more⟩
    · go_simp
      refine hK.out _ _ trivial (fun hHeld => ?_)
      clear hK K
      try simp only [Act.put, List.setIfInBounds_toArray, List.set_cons_zero, List.set_cons_succ]
      refine wpAnyH_ready (rs := [5]) (by kernel_rfl) (by simp) ?_
      refine AllReadyH.cons rfl (fun K hK => ?_) AllReadyH.nil
      go_simp
      go_at_call 31
      refine (cLoad (Ad.below hbd).mem f hc a).mono ?_
      rintro e w1 ⟨rfl, L1, hm1, st⟩
      rw [hv]
      have A1 := (Ad.below hbd).step hm1 st
      have S1 : w1.cell? ⟨p, 7 + k, none⟩ = some (.int .i64 a) := (A1.cell _).trans ((b.root_at k hk8).trans (by rw [ha]))
      have sl1 := lt_of_block A1.blk
      refine hK.out _ _ trivial (fun hHeld => ?_)
      clear hK K
      try simp only [Act.put, List.setIfInBounds_toArray, List.set_cons_zero, List.set_cons_succ]
      refine wpAnyH_ready (rs := [9]) (by kernel_rfl) (by simp) ?_
      refine AllReadyH.cons rfl (fun K hK => ?_) AllReadyH.nil
      go_simp
      go_at_call 49
      refine (H.cMoved v a hr.1 hr.2 _ A1.wid).mono ?_
      rintro e w2 ⟨rfl, hw2⟩
      have hb2 : Below w1.heap.size w1 w2 := (by rw [hw2]; go_grown)
      clear hw2
      rw [hu']
      have A2 := A1.below hb2
      have S2 : w2.cell? ⟨p, 7 + k, none⟩ = some (.int .i64 a) := (A2.cell _).trans ((b.root_at k hk8).trans (by rw [ha]))
      have sf2 := A2.free (7 + k)
      have sl2 := lt_of_block A2.blk
      refine hK.out _ _ trivial (fun hHeld => ?_)
      clear hK K
      try simp only [Act.put, List.setIfInBounds_toArray, List.set_cons_zero, List.set_cons_succ]
      refine takeH (i := 10) 72 (.pointer (some ⟨p, 7 + k, none⟩)) rfl rfl (by kernel_rfl) (by kernel_rfl) (by kernel_rfl) (fun _ _ _ h => h) (by rfl) ?_ (by assumption) ?_
      · intro w hSw; (try dsimp only at hSw); go_simp
      simp only [List.setIfInBounds_toArray, List.set_cons_zero, List.set_cons_succ]
      refine wpAnyH_ready (rs := [11]) (by kernel_rfl) (by simp) ?_
      refine AllReadyH.cons rfl (fun K hK => ?_) AllReadyH.nil
      go_simp
      refine hK.out _ _ trivial (fun hHeld => ?_)
      clear hK K
      try simp only [Act.put, List.setIfInBounds_toArray, List.set_cons_zero, List.set_cons_succ]
      refine wpAnyH_done (by kernel_rfl) ?_ _
      have A3 : At 142 (w2.setCell ⟨p, 7 + k, none⟩ (.int .i64 u)) L1 (s.load a) p 112 B.cells := hB ▸ (b.root_set k hk8 u) ▸ A2.set (7 + k) (.int .i64 u)
      have g3 : Went w L p (w2.setCell ⟨p, 7 + k, none⟩ (.int .i64 u)) L1 := (((gd.trans (Went.of_below hbd _ _)).trans (Went.of_step st p)).trans (Went.of_below hb2 _ _)).more
      clear S1 S2 sf2 RD
      generalize w2.setCell ⟨p, 7 + k, none⟩ (.int .i64 u) = w3 at A3 g3 ⊢
      have y20 : w3.cell? ⟨p, 20, none⟩ = some (.int .i64 k) := (A3.cell 20).trans (by show some (Value.int .i64 (B.root : Int)) = _; rw [hBr])
      clear hB hu hu'
      go_wp2_with (go_at_call 50; refine (cToMove A3 k1 (by omega) (by omega)).mono ?_; rintro e w4 ⟨rfl, A4, g4⟩; rw [hP]; have z15 : w4.cell? ⟨p, 15, none⟩ = some (.int .i64 (B.sought k1).pc) := A4.cell 15; have zf15 := A4.free 15)
      go_ret
      exact ⟨rfl, L1, A4.set 15 (.int .i64 P), (g3.trans g4).more⟩
  · go_simp
    refine hK.out _ _ trivial (fun hHeld => ?_)
    clear hK K
    try simp only [Act.put, List.setIfInBounds_toArray, List.set_cons_zero, List.set_cons_succ]
    refine wpAnyH_ready (rs := [4]) (by kernel_rfl) (by simp) ?_
    refine AllReadyH.cons rfl (fun K hK => ?_) AllReadyH.nil
    go_simp
    refine hK.out _ _ trivial (fun hHeld => ?_)
    clear hK K
    try simp only [Act.put, List.setIfInBounds_toArray, List.set_cons_zero, List.set_cons_succ]
    refine wpAnyH_ready (rs := [5]) (by kernel_rfl) (by simp) ?_
    refine AllReadyH.cons rfl (fun K hK => ?_) AllReadyH.nil
    go_simp
    go_at_call 31
    refine (cLoad (Ad.below hbd).mem f hc a).mono ?_
    rintro e w1 ⟨rfl, L1, hm1, st⟩
    rw [hv]
    have A1 := (Ad.below hbd).step hm1 st
    have S1 : w1.cell? ⟨p, 7 + k, none⟩ = some (.int .i64 a) := (A1.cell _).trans ((b.root_at k hk8).trans (by rw [ha]))
    have sl1 := lt_of_block A1.blk
    refine hK.out _ _ trivial (fun hHeld => ?_)
    clear hK K
    try simp only [Act.put, List.setIfInBounds_toArray, List.set_cons_zero, List.set_cons_succ]
    refine wpAnyH_ready (rs := [9]) (by kernel_rfl) (by simp) ?_
    refine AllReadyH.cons rfl (fun K hK => ?_) AllReadyH.nil
    go_simp
    go_at_call 49
    refine (H.cMoved v a hr.1 hr.2 _ A1.wid).mono ?_
    rintro e w2 ⟨rfl, hw2⟩
    have hb2 : Below w1.heap.size w1 w2 := (by rw [hw2]; go_grown)
    clear hw2
    rw [hu']
    have A2 := A1.below hb2
    have S2 : w2.cell? ⟨p, 7 + k, none⟩ = some (.int .i64 a) := (A2.cell _).trans ((b.root_at k hk8).trans (by rw [ha]))
    have sf2 := A2.free (7 + k)
    have sl2 := lt_of_block A2.blk
    refine hK.out _ _ trivial (fun hHeld => ?_)
    clear hK K
    try simp only [Act.put, List.setIfInBounds_toArray, List.set_cons_zero, List.set_cons_succ]
    refine takeH (i := 10) 72 (.pointer (some ⟨p, 7 + k, none⟩)) rfl rfl (by kernel_rfl) (by kernel_rfl) (by kernel_rfl) (fun _ _ _ h => h) (by rfl) ?_ (by assumption) ?_
    · intro w hSw; (try dsimp only at hSw); go_simp
    simp only [List.setIfInBounds_toArray, List.set_cons_zero, List.set_cons_succ]
    refine wpAnyH_ready (rs := [11]) (by kernel_rfl) (by simp) ?_
    refine AllReadyH.cons rfl (fun K hK => ?_) AllReadyH.nil
    go_simp
    refine hK.out _ _ trivial (fun hHeld => ?_)
    clear hK K
    try simp only [Act.put, List.setIfInBounds_toArray, List.set_cons_zero, List.set_cons_succ]
    refine wpAnyH_done (by kernel_rfl) ?_ _
    have A3 : At 142 (w2.setCell ⟨p, 7 + k, none⟩ (.int .i64 u)) L1 (s.load a) p 112 B.cells := hB ▸ (b.root_set k hk8 u) ▸ A2.set (7 + k) (.int .i64 u)
    have g3 : Went w L p (w2.setCell ⟨p, 7 + k, none⟩ (.int .i64 u)) L1 := (((gd.trans (Went.of_below hbd _ _)).trans (Went.of_step st p)).trans (Went.of_below hb2 _ _)).more
    clear S1 S2 sf2 RD
    generalize w2.setCell ⟨p, 7 + k, none⟩ (.int .i64 u) = w3 at A3 g3 ⊢
    have y20 : w3.cell? ⟨p, 20, none⟩ = some (.int .i64 k) := (A3.cell 20).trans (by show some (Value.int .i64 (B.root : Int)) = _; rw [hBr])
    clear hB hu hu'
    go_wp2_with (go_at_call 50; refine (cToMove A3 k1 (by omega) (by omega)).mono ?_; rintro e w4 ⟨rfl, A4, g4⟩; rw [hP]; have z15 : w4.cell? ⟨p, 15, none⟩ = some (.int .i64 (B.sought k1).pc) := A4.cell 15; have zf15 := A4.free 15)
    go_ret
    exact ⟨rfl, L1, A4.set 15 (.int .i64 P), (g3.trans g4).more⟩
set_option maxHeartbeats 1000000 in
theorem po5 (A : At 142 w L s p 112 b.cells) (f : s.Fit) (hc : s.c < 1000000) (r : s.Rng) (hn : b.n ≤ 8) (hpc : b.pc = 5) :
    Calls Tryd.prog 17 #[.pointer (some ⟨p, 0, none⟩), .pointer (some ⟨L.b, 0, none⟩)] w fun e w' => e = .returned (.bool true) ∧
      ∃ L', At 142 w' L' (s.store b.ack (IntKind.u64.wrap b.q.no)) p 112 (((b.owns b.q).goto 0) ).cells ∧ Went w L p w' L' := by
  have c15 : w.cell? ⟨p, 15, none⟩ = some (.int .i64 5) := (A.cell 15).trans (by show some (Value.int .i64 (b.pc : Int)) = _; rw [hpc]; rfl)
  clear hpc
  obtain ⟨u, hu⟩ : ∃ u, IntKind.u64.wrap b.q.no = u := ⟨_, rfl⟩
  rw [hu]
  have hl := lt_of_block A.blk
  have keep : ∀ w', Below w.heap.size w w' → w'.cell? ⟨p, 0, none⟩ = some (.int .i64 b.ack) ∧ w'.cell? ⟨p, 16, none⟩ = some (.int .i64 b.q.no) := fun w' hb => ⟨(A.below hb).cell 0, (A.below hb).cell 16⟩
  have hbd : Below w.heap.size w w.drew := (Below.refl w.heap.size w).drew
  have RD := keep _ hbd
  go_enter Tryd.func17, Tryd.ntmps17
  go_wp2_with (fail)
  go_region_held3 (fun w' => w'.cell? ⟨p, 0, none⟩ = some (.int .i64 b.ack) ∧ w'.cell? ⟨p, 16, none⟩ = some (.int .i64 b.q.no)) (first | assumption | exact RD | exact keep _ (by assumption))
    ((go_at_call 37; refine (cStore (A.below hbd).mem f hc b.ack u).mono ?_; rintro e w2 ⟨rfl, L2, hm2, st2⟩; have A2 := (A.below hbd).step hm2 st2; have S2 : w2.cell? ⟨p, 0, none⟩ = some (.int .i64 b.ack) ∧ w2.cell? ⟨p, 16, none⟩ = some (.int .i64 b.q.no) := ⟨A2.cell 0, A2.cell 16⟩; have g2 := (Went.of_below hbd L p).trans (Went.of_step st2 p)))
  clear keep RD
  have x1 : w2.cell? ⟨p, 1, none⟩ = some (.int .i64 b.own.no) := A2.cell 1
  have xf1 := A2.free 1
  have x2 : w2.cell? ⟨p, 2, none⟩ = some (.int .i64 b.own.md) := A2.cell 2
  have xf2 := A2.free 2
  have x3 : w2.cell? ⟨p, 3, none⟩ = some (.int .i64 b.own.mr) := A2.cell 3
  have xf3 := A2.free 3
  have x4 : w2.cell? ⟨p, 4, none⟩ = some (.int .i64 b.own.ls) := A2.cell 4
  have xf4 := A2.free 4
  have x15 : w2.cell? ⟨p, 15, none⟩ = some (.int .i64 b.pc) := A2.cell 15
  have xf15 := A2.free 15
  have x16 : w2.cell? ⟨p, 16, none⟩ = some (.int .i64 b.q.no) := A2.cell 16
  have xf16 := A2.free 16
  have x17 : w2.cell? ⟨p, 17, none⟩ = some (.int .i64 b.q.md) := A2.cell 17
  have xf17 := A2.free 17
  have x18 : w2.cell? ⟨p, 18, none⟩ = some (.int .i64 b.q.mr) := A2.cell 18
  have xf18 := A2.free 18
  have x19 : w2.cell? ⟨p, 19, none⟩ = some (.int .i64 b.q.ls) := A2.cell 19
  have xf19 := A2.free 19
  go_wp2
  go_ret
  exact ⟨rfl, L2, ((((A2.set 1 (.int .i64 b.q.no)).set 2 (.int .i64 b.q.md)).set 3 (.int .i64 b.q.mr)).set 4 (.int .i64 b.q.ls)).set 15 (.int .i64 0), ((((g2.trans (Went.set _ _ _ 1 _)).trans (Went.set _ _ _ 2 _)).trans (Went.set _ _ _ 3 _)).trans (Went.set _ _ _ 4 _)).trans (Went.set _ _ _ 15 _)⟩
/-- a step of a Poll -/
theorem cPoll {x : PollS} (A : At 142 w L s p 112 b.cells) (I : x.Is b) (ok : x.wh.Ok) (nd : x.wh.pc ≠ 0) (n8 : x.n ≤ 8) (f : s.Fit) (hc : s.c < 1000000) (r : s.Rng) :
    Calls Tryd.prog 17 #[.pointer (some ⟨p, 0, none⟩), .pointer (some ⟨L.b, 0, none⟩)] w fun e w' => e = .returned (.bool ((x.next s).wh.pc == 0)) ∧
      ∃ L' b', At 142 w' L' (x.mem s) p 112 b'.cells ∧ (x.next s).Is b' ∧ Went w L p w' L' := by
  obtain ⟨xa, xo, xq, xal, n, l, wh⟩ := x
  obtain ⟨hack, hown, hal, hN, hL, hpc, hq, hwh⟩ := I
  simp only at hack hown hal hN hL hq n8
  have hn : b.n ≤ 8 := by rw [hN]; exact n8
  cases wh with
  | done => exact absurd rfl nd
  | look =>
    refine (po1 A f hc r hn hpc).mono ?_
    rintro e w' ⟨rfl, L', A', g'⟩
    obtain ⟨B, hB⟩ : ∃ B : PB, b.asks (Ph.of (s.got 0)) = B := ⟨_, rfl⟩
    have e1 : B.own = xo := by rw [← hB]; exact hown
    have e2 : B.q = Ph.of (s.got 0) := by rw [← hB]; rfl
    have e3 : B.n = n := by rw [← hB]; exact hN
    have e4 : B.l = l := by rw [← hB]; exact hL
    have e5 : B.ack = xa := by rw [← hB]; exact hack
    have e6 : B.al = xal := by rw [← hB]; exact hal
    rw [hB] at A' ⊢
    have key : ((PollS.mk xa xo xq xal n l .look).next s).Is (B.behind.goto B.behindP) := by
      simp only [PollS.next, PB.behind, PB.behindP, e1, e2]
      by_cases c0 : (Ph.of (s.got 0)).no = xo.no
      · simp only [if_pos c0]
        exact ⟨e5, e1, e6, e3, e4, rfl, e2, trivial⟩
      simp only [if_neg c0]
      by_cases c1 : (Ph.of (s.got 0)).md = 2
      · simp only [if_pos c1]
        exact Wh.shade_is _ e3.symm e4.symm e2 e5 e1 e6 (by rw [e2, e3, e4]) (Nat.zero_le _)
      simp only [if_neg c1]
      by_cases c2 : (Ph.of (s.got 0)).md = 5
      · simp only [if_pos c2]
        exact ⟨e5, e1, e6, e3, e4, rfl, e2, trivial⟩
      simp only [if_neg c2]
      by_cases c3 : (Ph.of (s.got 0)).md = 8
      · simp only [if_pos c3]
        exact Wh.fix_is _ e3.symm e4.symm e2 e5 e1 e6 (by rw [e3, e4]) (Nat.zero_le _)
      simp only [if_neg c3]
      exact ⟨e5, e1, e6, e3, e4, rfl, e2, trivial⟩
    exact ⟨by rw [← key.pc]; rfl, L', _, A', key, g'⟩
  | shade i y =>
    obtain ⟨hr, hs, hi⟩ := hwh
    subst hs hr
    rcases hd : ((b.sh.next s).pc == 0) with _ | _
    · refine (po2n A f hc r hn hpc ok hd).mono ?_
      rintro e w' ⟨rfl, L', A', g'⟩
      have hd' : (b.sh.next s).pc ≠ 0 := by simpa using hd
      have hx : (PollS.mk xa xo xq xal n l (.shade b.root b.sh)).next s = PollS.mk xa xo xq xal n l (.shade b.root (b.sh.next s)) := by simp only [PollS.next, if_neg hd']
      rw [hx]
      exact ⟨rfl, L', _, A', ⟨hack, hown, hal, hN, hL, hpc, hq, ⟨rfl, rfl, hi⟩⟩, g'⟩
    · refine (po2d A f hc r hn hpc ok hd hi).mono ?_
      rintro e w' ⟨rfl, L', A', g'⟩
      have hd' : (b.sh.next s).pc = 0 := by simpa using hd
      have hx : (PollS.mk xa xo xq xal n l (.shade b.root b.sh)).next s = PollS.mk xa xo xq xal n l (toShade l n xq.mr (b.root + 1)) := by simp only [PollS.next, if_pos hd']
      rw [hx]
      have key : (PollS.mk xa xo xq xal n l (toShade l n xq.mr (b.root + 1))).Is (((b.shades (b.sh.next s)).toShade (b.root + 1)).goto ((b.shades (b.sh.next s)).toShadeP (b.root + 1))) :=
        Wh.shade_is (b := b.shades (b.sh.next s)) _ hN.symm hL.symm hq hack hown hal (by show toShade l n xq.mr _ = toShade b.l b.n b.q.mr _; rw [hN, hL, hq]) (by show b.root + 1 ≤ b.n; omega)
      refine ⟨?_, L', _, A', key, g'⟩
      have : (toShade l n xq.mr (b.root + 1)).pc ≠ 0 := by unfold toShade; split <;> simp [Wh.pc]
      simpa using this
  | alpha =>
    refine (po3 A f hc r hn hpc).mono ?_
    rintro e w' ⟨rfl, L', A', g'⟩
    exact ⟨rfl, L', _, A', ⟨hack, hown, rfl, hN, hL, rfl, hq, trivial⟩, g'⟩
  | fix i =>
    obtain ⟨hr, hi⟩ := hwh
    subst hr
    refine (po4 A f hc r hn hpc hi).mono ?_
    rintro e w' ⟨rfl, L', A', g'⟩
    rw [hL] at A'
    have hL2 : lput b.l b.root (mvd (s.got (l b.root)) (l b.root)) = lput l b.root (mvd (s.got (l b.root)) (l b.root)) := by rw [hL]
    have key : ((PollS.mk xa xo xq xal n l (.fix b.root)).next s).Is (((b.puts b.root (mvd (s.got (l b.root)) (l b.root))).sought (b.root + 1)).goto ((b.puts b.root (mvd (s.got (l b.root)) (l b.root))).toFixP (b.root + 1))) :=
      Wh.fix_is (b := b.puts b.root (mvd (s.got (l b.root)) (l b.root))) _ hN.symm hL2.symm hq hack hown hal (by show toFix _ n _ = toFix _ b.n _; rw [hN]; show toFix (lput l _ _) _ _ = toFix (lput b.l _ _) _ _; rw [hL]) (by show b.root + 1 ≤ b.n; omega)
    refine ⟨?_, L', _, by rw [show (PollS.mk xa xo xq xal n l (.fix b.root)).mem s = s.load (l b.root) from rfl]; exact A', key, g'⟩
    have : (toFix (lput l b.root (mvd (s.got (l b.root)) (l b.root))) n (b.root + 1)).pc ≠ 0 := by unfold toFix; split <;> simp [Wh.pc]
    show Ending.returned (Value.bool false) = .returned (.bool ((toFix (lput l b.root (mvd (s.got (l b.root)) (l b.root))) n (b.root + 1)).pc == 0))
    rw [show ((toFix (lput l b.root (mvd (s.got (l b.root)) (l b.root))) n (b.root + 1)).pc == 0) = false from by simpa using this]
  | tell =>
    refine (po5 A f hc r hn hpc).mono ?_
    rintro e w' ⟨rfl, L', A', g'⟩
    rw [hq, hack] at A'
    exact ⟨rfl, L', _, A', ⟨hack, rfl, hal, hN, hL, rfl, hq, trivial⟩, g'⟩
end
end Go.Proofs.YtoablodmodnamaaDoor
