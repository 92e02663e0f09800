/-
  A Trace's Step.
-/
import Derived.Test.YtoablodmodnamaaDoorTcq
namespace Go.Proofs.YtoablodmodnamaaDoor
set_option linter.unusedVariables false
set_option linter.unusedSimpArgs false
set_option maxRecDepth 100000
open Go.ChangeShapes Go.WideShapes Go.RowKit
open S.Plain (t0 t1 tw nx p0 p1 p2 p3 pw)
open H.Plain (hw pS pC pN pM pG pT pL)
open F.Plain (kind num)

section
variable {w : World} {L : Loc} {s : St} {p : Nat} {U : Pl5} {x : TrS}
set_option maxHeartbeats 2000000 in
theorem tr0 (A : At 142 w L s p 134 (x.cells U)) (f : s.Fit) (hc : s.c < 1000000) (r : s.Rng) (hpc : x.pc = 0) :
    Calls Tryd.prog 30 #[.pointer (some ⟨p, 0, none⟩), .pointer (some ⟨L.b, 0, none⟩)] w fun e w' => e = .returned (.bool true) ∧
      ∃ L', At 142 w' L' (s) p 134 ((x).cells U) ∧ Went w L p w' L' := by
  have c9 : w.cell? ⟨p, 9, none⟩ = some (.int .i64 0) := (A.cell 9).trans (by show some (Value.int .i64 (x.pc : Int)) = _; rw [hpc]; rfl)
  have hl := lt_of_block A.blk
  go_enter Tryd.func30, Tryd.ntmps30
  go_wp2
  go_ret
  exact ⟨rfl, L, A, Went.refl _ _ _⟩
set_option maxHeartbeats 2000000 in
theorem tr1n (A : At 142 w L s p 134 (x.cells U)) (f : s.Fit) (hc : s.c < 1000000) (r : s.Rng) (hpc : x.pc = 1) (ok : x.ne.Ok) (hd : ((x.ne.next s).pc == 0) = false) :
    Calls Tryd.prog 30 #[.pointer (some ⟨p, 0, none⟩), .pointer (some ⟨L.b, 0, none⟩)] w fun e w' => e = .returned (.bool false) ∧
      ∃ L', At 142 w' L' (x.ne.mem s) p 134 ((x.nexts (x.ne.next s)).cells U) ∧ Went w L p w' L' := by
  have c9 : w.cell? ⟨p, 9, none⟩ = some (.int .i64 1) := (A.cell 9).trans (by show some (Value.int .i64 (x.pc : Int)) = _; rw [hpc]; rfl)
  have hl := lt_of_block A.blk
  obtain ⟨y, hy⟩ : ∃ y, x.ne.next s = y := ⟨_, rfl⟩
  obtain ⟨s', hs'⟩ : ∃ s', x.ne.mem s = s' := ⟨_, rfl⟩
  have AI : AtI 142 w L s p 134 (x.frN U) x.bhN 10 x.ne.cells := ⟨A, rfl⟩
  rw [hy] at hd ⊢
  rw [hs']
  go_enter Tryd.func30, Tryd.ntmps30
  go_wp2_with (go_at_call 69; refine (cNextI AI ok f hc r).mono ?_; rintro e w1 ⟨rfl, L1, AI1, g1⟩; rw [hy] at AI1; rw [hs'] at AI1; rw [hy, hd]; have A1 : At 142 w1 L1 s' p 134 ((x.nexts y).cells U) := AI1.at_; have y9 : w1.cell? ⟨p, 9, none⟩ = some (.int .i64 1) := (A1.cell 9).trans (by show some (Value.int .i64 (x.pc : Int)) = _; rw [hpc]; rfl); have yf9 := A1.free 9)
  go_ret
  exact ⟨rfl, L1, A1, g1⟩
set_option maxHeartbeats 2000000 in
theorem tr1d (A : At 142 w L s p 134 (x.cells U)) (f : s.Fit) (hc : s.c < 1000000) (r : s.Rng) (hpc : x.pc = 1) (ok : x.ne.Ok) (hq : 0 ≤ x.q.no ∧ x.q.no ≤ 1099511627776) (hd : ((x.ne.next s).pc == 0) = true) :
    Calls Tryd.prog 30 #[.pointer (some ⟨p, 0, none⟩), .pointer (some ⟨L.b, 0, none⟩)] w fun e w' => e = .returned (.bool (((x.nexts (x.ne.next s)).behindGrey U).pc == 0)) ∧
      ∃ L', At 142 w' L' (x.ne.mem s) p 134 (((x.nexts (x.ne.next s)).behindGrey U).cells U) ∧ Went w L p w' L' := by
  have c9 : w.cell? ⟨p, 9, none⟩ = some (.int .i64 1) := (A.cell 9).trans (by show some (Value.int .i64 (x.pc : Int)) = _; rw [hpc]; rfl)
  have hl := lt_of_block A.blk
  obtain ⟨y, hy⟩ : ∃ y, x.ne.next s = y := ⟨_, rfl⟩
  obtain ⟨s', hs'⟩ : ∃ s', x.ne.mem s = s' := ⟨_, rfl⟩
  have AI : AtI 142 w L s p 134 (x.frN U) x.bhN 10 x.ne.cells := ⟨A, rfl⟩
  rw [hy] at hd ⊢
  rw [hs']
  obtain ⟨Z, hZ⟩ : ∃ Z, (x.nexts y).behindGrey U = Z := ⟨_, rfl⟩
  obtain ⟨P, hP⟩ : ∃ P, Z.pc = P := ⟨_, rfl⟩
  obtain ⟨d, hd0⟩ : ∃ d, (P == 0) = d := ⟨_, rfl⟩
  have qd : ((P : Int) == 0) = d := by rw [← hd0]; cases P <;> rfl
  rw [hZ, hP, hd0]
  clear hd0
  go_enter Tryd.func30, Tryd.ntmps30
  go_upto_region 4 with (go_at_call 69; refine (cNextI AI ok f hc r).mono ?_; rintro e w1 ⟨rfl, L1, AI1, g1⟩; rw [hy] at AI1; rw [hs'] at AI1; rw [hy, hd]; have A1 : At 142 w1 L1 s' p 134 ((x.nexts y).cells U) := AI1.at_; have hl1 := lt_of_block A1.blk)
  clear AI AI1 hs' hy
  go_wp2_with (go_at_call 70; refine (cBehindGrey A1 hq).mono ?_; rintro e w2 ⟨rfl, A2, g2⟩; rw [hZ, hP]; rw [hZ] at A2; have y9 : w2.cell? ⟨p, 9, none⟩ = some (.int .i64 x.pc) := A2.cell 9; have yf9 := A2.free 9)
  go_ret
  exact ⟨rfl, L1, hP ▸ A2.set 9 (.int .i64 P), (g1.trans g2).trans (Went.set _ _ _ _ _)⟩
set_option maxHeartbeats 2000000 in
theorem tr5n (A : At 142 w L s p 134 (x.cells U)) (f : s.Fit) (hc : s.c < 1000000) (r : s.Rng) (hpc : x.pc = 5) (ok : x.sh.Ok) (hd : ((x.sh.next s).pc == 0) = false) :
    Calls Tryd.prog 30 #[.pointer (some ⟨p, 0, none⟩), .pointer (some ⟨L.b, 0, none⟩)] w fun e w' => e = .returned (.bool false) ∧
      ∃ L', At 142 w' L' (x.sh.mem s) p 134 ((x.shades (x.sh.next s)).cells U) ∧ Went w L p w' L' := by
  have c9 : w.cell? ⟨p, 9, none⟩ = some (.int .i64 5) := (A.cell 9).trans (by show some (Value.int .i64 (x.pc : Int)) = _; rw [hpc]; rfl)
  have hl := lt_of_block A.blk
  obtain ⟨y, hy⟩ : ∃ y, x.sh.next s = y := ⟨_, rfl⟩
  obtain ⟨s', hs'⟩ : ∃ s', x.sh.mem s = s' := ⟨_, rfl⟩
  have AI : AtI 142 w L s p 134 (x.frS U) x.bhS 24 x.sh.cells := ⟨A, rfl⟩
  rw [hy] at hd ⊢
  rw [hs']
  go_enter Tryd.func30, Tryd.ntmps30
  go_wp2_with (go_at_call 26; refine (cShadeI AI ok f hc r).mono ?_; rintro e w1 ⟨rfl, L1, AI1, g1⟩; rw [hy] at AI1; rw [hs'] at AI1; rw [hy, hd]; have A1 : At 142 w1 L1 s' p 134 ((x.shades y).cells U) := AI1.at_; have y9 : w1.cell? ⟨p, 9, none⟩ = some (.int .i64 5) := (A1.cell 9).trans (by show some (Value.int .i64 (x.pc : Int)) = _; rw [hpc]; rfl); have yf9 := A1.free 9)
  go_ret
  exact ⟨rfl, L1, A1, g1⟩
set_option maxHeartbeats 2000000 in
theorem tr5d (A : At 142 w L s p 134 (x.cells U)) (f : s.Fit) (hc : s.c < 1000000) (r : s.Rng) (hpc : x.pc = 5) (ok : x.sh.Ok) (hf : 0 ≤ x.fld ∧ x.fld ≤ 100) (hd : ((x.sh.next s).pc == 0) = true) :
    Calls Tryd.prog 30 #[.pointer (some ⟨p, 0, none⟩), .pointer (some ⟨L.b, 0, none⟩)] w fun e w' => e = .returned (.bool (((x.shades (x.sh.next s)).toField (x.fld + 1)).pc == 0)) ∧
      ∃ L', At 142 w' L' (x.sh.mem s) p 134 (((x.shades (x.sh.next s)).toField (x.fld + 1)).cells U) ∧ Went w L p w' L' := by
  have c9 : w.cell? ⟨p, 9, none⟩ = some (.int .i64 5) := (A.cell 9).trans (by show some (Value.int .i64 (x.pc : Int)) = _; rw [hpc]; rfl)
  have hl := lt_of_block A.blk
  obtain ⟨y, hy⟩ : ∃ y, x.sh.next s = y := ⟨_, rfl⟩
  obtain ⟨s', hs'⟩ : ∃ s', x.sh.mem s = s' := ⟨_, rfl⟩
  have AI : AtI 142 w L s p 134 (x.frS U) x.bhS 24 x.sh.cells := ⟨A, rfl⟩
  rw [hy] at hd ⊢
  rw [hs']
  obtain ⟨Z, hZ⟩ : ∃ Z, (x.shades y).toField (x.fld + 1) = Z := ⟨_, rfl⟩
  obtain ⟨P, hP⟩ : ∃ P, Z.pc = P := ⟨_, rfl⟩
  obtain ⟨d, hd0⟩ : ∃ d, (P == 0) = d := ⟨_, rfl⟩
  have qd : ((P : Int) == 0) = d := by rw [← hd0]; cases P <;> rfl
  rw [hZ, hP, hd0]
  clear hd0
  go_enter Tryd.func30, Tryd.ntmps30
  go_upto_region 9 with (go_at_call 26; refine (cShadeI AI ok f hc r).mono ?_; rintro e w1 ⟨rfl, L1, AI1, g1⟩; rw [hy] at AI1; rw [hs'] at AI1; rw [hy, hd]; have A1 : At 142 w1 L1 s' p 134 ((x.shades y).cells U) := AI1.at_; have hl1 := lt_of_block A1.blk; have y23 : w1.cell? ⟨p, 23, none⟩ = some (.int .i64 x.fld) := A1.cell 23)
  clear AI AI1 hs' hy
  go_wp2_with (go_at_call 73; refine (cToField A1 (x.fld + 1)).mono ?_; rintro e w2 ⟨rfl, A2, g2⟩; rw [hZ, hP]; rw [hZ] at A2; have y9 : w2.cell? ⟨p, 9, none⟩ = some (.int .i64 x.pc) := A2.cell 9; have yf9 := A2.free 9)
  go_ret
  exact ⟨rfl, L1, hP ▸ A2.set 9 (.int .i64 P), (g1.trans g2).trans (Went.set _ _ _ _ _)⟩
set_option maxHeartbeats 2000000 in
theorem tr3n (A : At 142 w L s p 134 (x.cells U)) (f : s.Fit) (hc : s.c < 1000000) (r : s.Rng) (hpc : x.pc = 3) (ok : x.ak.Ok) (hV : x.V.th = x.ak.N) (hd : ((x.ak.next s).pc == 0) = false) :
    Calls Tryd.prog 30 #[.pointer (some ⟨p, 0, none⟩), .pointer (some ⟨L.b, 0, none⟩)] w fun e w' => e = .returned (.bool false) ∧
      ∃ L', At 142 w' L' (x.ak.mem s) p 134 (((x.asks (x.ak.next s)).asked).cells U) ∧ Went w L p w' L' := by
  have c9 : w.cell? ⟨p, 9, none⟩ = some (.int .i64 3) := (A.cell 9).trans (by show some (Value.int .i64 (x.pc : Int)) = _; rw [hpc]; rfl)
  have hl := lt_of_block A.blk
  obtain ⟨y, hy⟩ : ∃ y, x.ak.next s = y := ⟨_, rfl⟩
  obtain ⟨s', hs'⟩ : ∃ s', x.ak.mem s = s' := ⟨_, rfl⟩
  have AI : AtI 142 w L s p 134 (x.frA U) x.bhA 36 (x.ak.cells x.V) := ⟨A, rfl⟩
  rw [hy] at hd ⊢
  rw [hs']
  go_enter Tryd.func30, Tryd.ntmps30
  go_upto_region 13 with (go_at_call 13; refine (cAskI AI ok hV f hc).mono ?_; rintro e w1 ⟨rfl, L1, AI1, g1⟩; rw [hy] at AI1; rw [hs'] at AI1; rw [hy, hd]; have A1 : At 142 w1 L1 s' p 134 ((x.asks y).cells U) := AI1.at_; have y9 : w1.cell? ⟨p, 9, none⟩ = some (.int .i64 3) := (A1.cell 9).trans (by show some (Value.int .i64 (x.pc : Int)) = _; rw [hpc]; rfl); have yf9 := A1.free 9)
  clear y9 yf9
  clear AI AI1 hy hs' hd c9
  have hl1 := lt_of_block A1.blk
  have d5 : w1.cell? ⟨p, 5, none⟩ = some (.int .i64 x.q.no) := A1.cell 5
  have df5 := A1.free 5
  have d6 : w1.cell? ⟨p, 6, none⟩ = some (.int .i64 x.q.md) := A1.cell 6
  have df6 := A1.free 6
  have d7 : w1.cell? ⟨p, 7, none⟩ = some (.int .i64 x.q.mr) := A1.cell 7
  have df7 := A1.free 7
  have d8 : w1.cell? ⟨p, 8, none⟩ = some (.int .i64 x.q.ls) := A1.cell 8
  have df8 := A1.free 8
  have d47 : w1.cell? ⟨p, 47, none⟩ = some (.int .i64 x.qs.no) := A1.cell 47
  have df47 := A1.free 47
  have d48 : w1.cell? ⟨p, 48, none⟩ = some (.int .i64 x.qs.md) := A1.cell 48
  have df48 := A1.free 48
  have d49 : w1.cell? ⟨p, 49, none⟩ = some (.int .i64 x.qs.mr) := A1.cell 49
  have df49 := A1.free 49
  have d50 : w1.cell? ⟨p, 50, none⟩ = some (.int .i64 x.qs.ls) := A1.cell 50
  have df50 := A1.free 50
  go_upto_region 16 with (fail)
  have A2 : At 142 (World.setCell (World.setCell (World.setCell (World.setCell w1 ⟨p, 5, none⟩ (.int .i64 x.qs.no)) ⟨p, 6, none⟩ (.int .i64 x.qs.md)) ⟨p, 7, none⟩ (.int .i64 x.qs.mr)) ⟨p, 8, none⟩ (.int .i64 x.qs.ls)) L1 s' p 134 ((x.asks y).asked.cells U) := A1.putOT x.qs
  have g2 := g1.trans (Went.putOT w1 L1 p x.qs)
  clear d5 df5 d6 df6 d7 df7 d8 df8 d47 df47 d48 df48 d49 df49 d50 df50
  generalize (World.setCell (World.setCell (World.setCell (World.setCell w1 ⟨p, 5, none⟩ (.int .i64 x.qs.no)) ⟨p, 6, none⟩ (.int .i64 x.qs.md)) ⟨p, 7, none⟩ (.int .i64 x.qs.mr)) ⟨p, 8, none⟩ (.int .i64 x.qs.ls)) = w2 at A2 g2 ⊢
  have z9 : w2.cell? ⟨p, 9, none⟩ = some (.int .i64 3) := (A2.cell 9).trans (by show some (Value.int .i64 (x.pc : Int)) = _; rw [hpc]; rfl)
  have hl2 := lt_of_block A2.blk
  go_wp2
  go_ret
  exact ⟨rfl, L1, A2, g2⟩
set_option maxHeartbeats 2000000 in
theorem tr3d (A : At 142 w L s p 134 (x.cells U)) (f : s.Fit) (hc : s.c < 1000000) (r : s.Rng) (hpc : x.pc = 3) (ok : x.ak.Ok) (hV : x.V.th = x.ak.N) (hd : ((x.ak.next s).pc == 0) = true) :
    Calls Tryd.prog 30 #[.pointer (some ⟨p, 0, none⟩), .pointer (some ⟨L.b, 0, none⟩)] w fun e w' => e = .returned (.bool false) ∧
      ∃ L', At 142 w' L' (x.ak.mem s) p 134 ((((x.asks (x.ak.next s)).goto 4).asked).cells U) ∧ Went w L p w' L' := by
  have c9 : w.cell? ⟨p, 9, none⟩ = some (.int .i64 3) := (A.cell 9).trans (by show some (Value.int .i64 (x.pc : Int)) = _; rw [hpc]; rfl)
  have hl := lt_of_block A.blk
  obtain ⟨y, hy⟩ : ∃ y, x.ak.next s = y := ⟨_, rfl⟩
  obtain ⟨s', hs'⟩ : ∃ s', x.ak.mem s = s' := ⟨_, rfl⟩
  have AI : AtI 142 w L s p 134 (x.frA U) x.bhA 36 (x.ak.cells x.V) := ⟨A, rfl⟩
  rw [hy] at hd ⊢
  rw [hs']
  go_enter Tryd.func30, Tryd.ntmps30
  go_upto_region 12 with (go_at_call 13; refine (cAskI AI ok hV f hc).mono ?_; rintro e w1 ⟨rfl, L1, AI1, g1⟩; rw [hy] at AI1; rw [hs'] at AI1; rw [hy, hd]; have A1 : At 142 w1 L1 s' p 134 ((x.asks y).cells U) := AI1.at_; have y9 : w1.cell? ⟨p, 9, none⟩ = some (.int .i64 3) := (A1.cell 9).trans (by show some (Value.int .i64 (x.pc : Int)) = _; rw [hpc]; rfl); have yf9 := A1.free 9)
  go_upto_region 13 with (fail)
  replace A1 : At 142 (w1.setCell ⟨p, 9, none⟩ (.int .i64 4)) L1 s' p 134 (((x.asks y).goto 4).cells U) := A1.set 9 (.int .i64 4)
  replace g1 := g1.trans (Went.set w1 L1 p 9 (.int .i64 4))
  clear y9 yf9
  generalize w1.setCell ⟨p, 9, none⟩ (.int .i64 4) = w1 at A1 g1 ⊢
  clear AI AI1 hy hs' hd c9
  have hl1 := lt_of_block A1.blk
  have d5 : w1.cell? ⟨p, 5, none⟩ = some (.int .i64 x.q.no) := A1.cell 5
  have df5 := A1.free 5
  have d6 : w1.cell? ⟨p, 6, none⟩ = some (.int .i64 x.q.md) := A1.cell 6
  have df6 := A1.free 6
  have d7 : w1.cell? ⟨p, 7, none⟩ = some (.int .i64 x.q.mr) := A1.cell 7
  have df7 := A1.free 7
  have d8 : w1.cell? ⟨p, 8, none⟩ = some (.int .i64 x.q.ls) := A1.cell 8
  have df8 := A1.free 8
  have d47 : w1.cell? ⟨p, 47, none⟩ = some (.int .i64 x.qs.no) := A1.cell 47
  have df47 := A1.free 47
  have d48 : w1.cell? ⟨p, 48, none⟩ = some (.int .i64 x.qs.md) := A1.cell 48
  have df48 := A1.free 48
  have d49 : w1.cell? ⟨p, 49, none⟩ = some (.int .i64 x.qs.mr) := A1.cell 49
  have df49 := A1.free 49
  have d50 : w1.cell? ⟨p, 50, none⟩ = some (.int .i64 x.qs.ls) := A1.cell 50
  have df50 := A1.free 50
  go_upto_region 16 with (fail)
  have A2 : At 142 (World.setCell (World.setCell (World.setCell (World.setCell w1 ⟨p, 5, none⟩ (.int .i64 x.qs.no)) ⟨p, 6, none⟩ (.int .i64 x.qs.md)) ⟨p, 7, none⟩ (.int .i64 x.qs.mr)) ⟨p, 8, none⟩ (.int .i64 x.qs.ls)) L1 s' p 134 (((x.asks y).goto 4).asked.cells U) := A1.putOT x.qs
  have g2 := g1.trans (Went.putOT w1 L1 p x.qs)
  clear d5 df5 d6 df6 d7 df7 d8 df8 d47 df47 d48 df48 d49 df49 d50 df50
  generalize (World.setCell (World.setCell (World.setCell (World.setCell w1 ⟨p, 5, none⟩ (.int .i64 x.qs.no)) ⟨p, 6, none⟩ (.int .i64 x.qs.md)) ⟨p, 7, none⟩ (.int .i64 x.qs.mr)) ⟨p, 8, none⟩ (.int .i64 x.qs.ls)) = w2 at A2 g2 ⊢
  have z9 : w2.cell? ⟨p, 9, none⟩ = some (.int .i64 4) := A2.cell 9
  have hl2 := lt_of_block A2.blk
  go_wp2
  go_ret
  exact ⟨rfl, L1, A2, g2⟩
set_option maxHeartbeats 2000000 in
theorem tr4 (A : At 142 w L s p 134 (x.cells U)) (f : s.Fit) (hc : s.c < 1000000) (r : s.Rng) (hpc : x.pc = 4) :
    Calls Tryd.prog 30 #[.pointer (some ⟨p, 0, none⟩), .pointer (some ⟨L.b, 0, none⟩)] w fun e w' => e = .returned (.bool ((x.behindAsk (s.got 1)).pc == 0)) ∧
      ∃ L', At 142 w' L' (s.load 1) p 134 ((x.behindAsk (s.got 1)).cells U) ∧ Went w L p w' L' := by
  have c9 : w.cell? ⟨p, 9, none⟩ = some (.int .i64 4) := (A.cell 9).trans (by show some (Value.int .i64 (x.pc : Int)) = _; rw [hpc]; rfl)
  have hl := lt_of_block A.blk
  have hr := r.got 1
  obtain ⟨v, hv⟩ : ∃ v, s.got 1 = v := ⟨_, rfl⟩
  rw [hv] at hr ⊢
  obtain ⟨Z, hZ⟩ : ∃ Z, x.behindAsk v = Z := ⟨_, rfl⟩
  obtain ⟨P, hP⟩ : ∃ P, Z.pc = P := ⟨_, rfl⟩
  obtain ⟨d, hd0⟩ : ∃ d, (P == 0) = d := ⟨_, rfl⟩
  have qd : ((P : Int) == 0) = d := by rw [← hd0]; cases P <;> rfl
  rw [hZ, hP, hd0]
  clear hd0
  have hZ2 : (if t0 v = 0 then x.goto 0 else x.toGrey) = Z := hZ
  clear hZ
  go_enter Tryd.func30, Tryd.ntmps30
  go_upto_region 16 with (first
    | (go_at_call 31; refine (cLoad A.mem f hc 1).mono ?_; rintro e w1 ⟨rfl, L1, hm1, st⟩; rw [hv]; have A1 := A.step hm1 st)
    | (go_at_call 75; refine (S.cOfTop v hr.1 hr.2 _).mono ?_; rintro e w2 ⟨rfl, hw2⟩; have hb2 : Below w1.heap.size w1 w2 := (by rw [hw2]; go_grown); clear hw2; have A2 := A1.below hb2; have g2 := (Went.of_step st p).trans (Went.of_below hb2 _ _); have hl2 := lt_of_block A2.blk)
    | (go_at_call 74; refine (cBehindAsk A2 (t0 v) (t1 v)).mono ?_; rintro e w3 ⟨rfl, A3, g3⟩; rw [hZ2, hP]; rw [hZ2] at A3; have y9 : w3.cell? ⟨p, 9, none⟩ = some (.int .i64 x.pc) := A3.cell 9; have yf9 := A3.free 9))
  go_wp2
  go_ret
  exact ⟨rfl, L1, hP ▸ A3.set 9 (.int .i64 P), (g2.trans g3).trans (Went.set _ _ _ _ _)⟩
set_option maxHeartbeats 2000000 in
theorem tr2 (A : At 142 w L s p 134 (x.cells U)) (f : s.Fit) (hc : s.c < 1000000) (r : s.Rng) (hpc : x.pc = 2) (ho : 0 ≤ x.obj ∧ x.obj ≤ 10000000) (hf : 0 ≤ x.fld ∧ x.fld ≤ 100) :
    Calls Tryd.prog 30 #[.pointer (some ⟨p, 0, none⟩), .pointer (some ⟨L.b, 0, none⟩)] w fun e w' => e = .returned (.bool ((x.behindField (s.got (x.obj + 1 + x.fld))).pc == 0)) ∧
      ∃ L', At 142 w' L' (s.load (x.obj + 1 + x.fld)) p 134 ((x.behindField (s.got (x.obj + 1 + x.fld))).cells U) ∧ Went w L p w' L' := by
  have c9 : w.cell? ⟨p, 9, none⟩ = some (.int .i64 2) := (A.cell 9).trans (by show some (Value.int .i64 (x.pc : Int)) = _; rw [hpc]; rfl)
  have hl := lt_of_block A.blk
  have hr := r.got (x.obj + 1 + x.fld)
  obtain ⟨v, hv⟩ : ∃ v, s.got (x.obj + 1 + x.fld) = v := ⟨_, rfl⟩
  rw [hv] at hr ⊢
  obtain ⟨Z, hZ⟩ : ∃ Z, x.behindField v = Z := ⟨_, rfl⟩
  obtain ⟨P, hP⟩ : ∃ P, Z.pc = P := ⟨_, rfl⟩
  obtain ⟨d, hd0⟩ : ∃ d, (P == 0) = d := ⟨_, rfl⟩
  have qd : ((P : Int) == 0) = d := by rw [← hd0]; cases P <;> rfl
  rw [hZ, hP, hd0]
  clear hd0
  have hZo : Z.obj = x.obj := by
    rw [← hZ]; unfold TrS.behindField TrS.toField
    repeat' split
    all_goals rfl
  have hZ2 : (if kind v ≠ 1 ∨ num v = 0 then x.toField (x.fld + 1) else (x.shades (ShadeS.new (num v) x.q.mr)).goto 5) = Z := hZ
  clear hZ
  have hbd : Below w.heap.size w w.drew := (Below.refl _ _).drew
  have RD : w.drew.cell? ⟨p, 21, none⟩ = some (.int .i64 x.obj) := (A.below hbd).cell 21
  have c23 : w.drew.cell? ⟨p, 23, none⟩ = some (.int .i64 x.fld) := (A.below hbd).cell 23
  have hld := lt_of_block (A.below hbd).blk
  go_enter Tryd.func30, Tryd.ntmps30
  go_upto_region 6 with (fail)
  refine wp_region_held_drew (S := fun w' => w'.cell? ⟨p, 21, none⟩ = some (.int .i64 x.obj)) (by kernel_rfl) RD (fun hHeld => ?_)
  refine takeH (i := 0) 23 (.pointer (some ⟨p, 0, none⟩)) rfl rfl (by kernel_rfl) (by kernel_rfl) (by kernel_rfl) (fun _ _ _ h => h) (by rfl) ?_ (by assumption) ?_
  · intro w hSw; (try dsimp only at hSw); go_simp
  simp only [List.setIfInBounds_toArray, List.set_cons_zero, List.set_cons_succ]
  refine takeH (i := 1) 24 (.pointer (some ⟨p, 0, none⟩)) rfl rfl (by kernel_rfl) (by kernel_rfl) (by kernel_rfl) (fun _ _ _ h => h) (by rfl) ?_ (by assumption) ?_
  · intro w hSw; (try dsimp only at hSw); go_simp
  simp only [List.setIfInBounds_toArray, List.set_cons_zero, List.set_cons_succ]
  refine takeH (i := 2) 25 (.pointer (some ⟨L.b, 0, none⟩)) rfl rfl (by kernel_rfl) (by kernel_rfl) (by kernel_rfl) (fun _ _ _ h => h) (by rfl) ?_ (by assumption) ?_
  · intro w hSw; (try dsimp only at hSw); go_simp
  simp only [List.setIfInBounds_toArray, List.set_cons_zero, List.set_cons_succ]
  refine takeH (i := 3) 26 (.pointer (some ⟨p, 0, none⟩)) rfl rfl (by kernel_rfl) (by kernel_rfl) (by kernel_rfl) (fun _ _ _ h => h) (by rfl) ?_ (by assumption) ?_
  · intro w hSw; (try dsimp only at hSw); go_simp
  simp only [List.setIfInBounds_toArray, List.set_cons_zero, List.set_cons_succ]
  refine takeH (i := 4) 27 (.pointer (some ⟨p, 0, none⟩)) rfl rfl (by kernel_rfl) (by kernel_rfl) (by kernel_rfl) (fun _ _ _ h => h) (by rfl) ?_ (by assumption) ?_
  · intro w hSw; (try dsimp only at hSw); go_simp
  simp only [List.setIfInBounds_toArray, List.set_cons_zero, List.set_cons_succ]
  refine takeH (i := 5) 28 (.pointer (some ⟨p, 21, none⟩)) rfl rfl (by kernel_rfl) (by kernel_rfl) (by kernel_rfl) (fun _ _ _ h => h) (by rfl) ?_ (by assumption) ?_
  · intro w hSw; (try dsimp only at hSw); go_simp
  simp only [List.setIfInBounds_toArray, List.set_cons_zero, List.set_cons_succ]
  refine takeH (i := 6) 29 (.int .i64 x.obj) rfl rfl (by kernel_rfl) (by kernel_rfl) (by kernel_rfl) (fun _ _ _ h => h) (by rfl) ?_ (by assumption) ?_
  · intro w hSw; (try dsimp only at hSw); go_simp
  simp only [List.setIfInBounds_toArray, List.set_cons_zero, List.set_cons_succ]
  refine takeH (i := 7) 30 (.int .i64 (x.obj + 1)) rfl rfl (by kernel_rfl) (by kernel_rfl) (by kernel_rfl) (fun _ _ _ h => h) (by rfl) ?_ (by assumption) ?_
  · intro w hSw; (try dsimp only at hSw); go_simp; rw [IntKind.wrap_i64]; omega
  simp only [List.setIfInBounds_toArray, List.set_cons_zero, List.set_cons_succ]
  refine takeH (i := 8) 31 (.pointer (some ⟨p, 0, none⟩)) rfl rfl (by kernel_rfl) (by kernel_rfl) (by kernel_rfl) (fun _ _ _ h => h) (by rfl) ?_ (by assumption) ?_
  · intro w hSw; (try dsimp only at hSw); go_simp
  simp only [List.setIfInBounds_toArray, List.set_cons_zero, List.set_cons_succ]
  refine takeH (i := 9) 32 (.pointer (some ⟨p, 0, none⟩)) rfl rfl (by kernel_rfl) (by kernel_rfl) (by kernel_rfl) (fun _ _ _ h => h) (by rfl) ?_ (by assumption) ?_
  · intro w hSw; (try dsimp only at hSw); go_simp
  simp only [List.setIfInBounds_toArray, List.set_cons_zero, List.set_cons_succ]
  refine takeH (i := 10) 33 (.pointer (some ⟨p, 23, none⟩)) rfl rfl (by kernel_rfl) (by kernel_rfl) (by kernel_rfl) (fun _ _ _ h => h) (by rfl) ?_ (by assumption) ?_
  · intro w hSw; (try dsimp only at hSw); go_simp
  simp only [List.setIfInBounds_toArray, List.set_cons_zero, List.set_cons_succ]
  refine wpAnyH_ready (rs := [11]) (by kernel_rfl) (by simp) ?_
  refine AllReadyH.cons rfl (fun K hK => ?_) AllReadyH.nil
  go_simp
  refine hK.out _ _ hHeld (fun hHeld => ?_)
  clear hK K
  try simp only [Act.put, List.setIfInBounds_toArray, List.set_cons_zero, List.set_cons_succ]
  refine takeH (i := 12) 35 (.int .i64 (x.obj + 1 + x.fld)) rfl rfl (by kernel_rfl) (by kernel_rfl) (by kernel_rfl) (fun _ _ _ h => h) (by rfl) ?_ (by assumption) ?_
  · intro w hSw; (try dsimp only at hSw); go_simp; rw [IntKind.wrap_i64]; omega
  simp only [List.setIfInBounds_toArray, List.set_cons_zero, List.set_cons_succ]
  refine wpAnyH_ready (rs := [13]) (by kernel_rfl) (by simp) ?_
  refine AllReadyH.cons rfl (fun K hK => ?_) AllReadyH.nil
  go_simp
  go_at_call 31
  refine (cLoad (A.below hbd).mem f hc (x.obj + 1 + x.fld)).mono ?_
  rintro e w1 ⟨rfl, L1, hm1, st⟩
  rw [hv]
  have A1 := (A.below hbd).step hm1 st
  refine hK.out _ _ (A1.cell 21) (fun hHeld => ?_)
  clear hK K
  try simp only [Act.put, List.setIfInBounds_toArray, List.set_cons_zero, List.set_cons_succ]
  refine wpAnyH_ready (rs := [14]) (by kernel_rfl) (by simp) ?_
  refine AllReadyH.cons rfl (fun K hK => ?_) AllReadyH.nil
  go_simp
  go_at_call 72
  refine (F.cOf v hr.1 hr.2 _).mono ?_
  rintro e w2 ⟨rfl, hw2⟩
  have hb2 : Below w1.heap.size w1 w2 := (by rw [hw2]; go_grown)
  clear hw2
  have A2 := A1.below hb2
  have g2 := ((Went.of_below hbd L p).trans (Went.of_step st p)).trans (Went.of_below hb2 _ _)
  refine hK.out _ _ (A2.cell 21) (fun hHeld => ?_)
  clear hK K
  try simp only [Act.put, List.setIfInBounds_toArray, List.set_cons_zero, List.set_cons_succ]
  refine wpAnyH_ready (rs := [15]) (by kernel_rfl) (by simp) ?_
  refine AllReadyH.cons rfl (fun K hK => ?_) AllReadyH.nil
  go_simp
  go_at_call 71
  refine (cBehindField A2 (kind v) (num v) hf).mono ?_
  rintro e w3 ⟨rfl, A3, g3⟩
  rw [hZ2, hP]
  rw [hZ2] at A3
  have y9 : w3.cell? ⟨p, 9, none⟩ = some (.int .i64 x.pc) := A3.cell 9
  have yf9 := A3.free 9
  have hl3 := lt_of_block A3.blk
  have o3 : w3.cell? ⟨p, 21, none⟩ = some (.int .i64 x.obj) := hZo ▸ A3.cell 21
  refine hK.out _ _ o3 (fun hHeld => ?_)
  clear hK K
  try simp only [Act.put, List.setIfInBounds_toArray, List.set_cons_zero, List.set_cons_succ]
  refine takeH (i := 16) 39 (.pointer (some ⟨p, 0, none⟩)) rfl rfl (by kernel_rfl) (by kernel_rfl) (by kernel_rfl) (fun _ _ _ h => h) (by rfl) ?_ (by assumption) ?_
  · intro w hSw; (try dsimp only at hSw); go_simp
  simp only [List.setIfInBounds_toArray, List.set_cons_zero, List.set_cons_succ]
  refine takeH (i := 17) 40 (.pointer (some ⟨p, 9, none⟩)) rfl rfl (by kernel_rfl) (by kernel_rfl) (by kernel_rfl) (fun _ _ _ h => h) (by rfl) ?_ (by assumption) ?_
  · intro w hSw; (try dsimp only at hSw); go_simp
  simp only [List.setIfInBounds_toArray, List.set_cons_zero, List.set_cons_succ]
  have A4 : At 142 (w3.setCell ⟨p, 9, none⟩ (.int .i64 P)) L1 (s.load (x.obj + 1 + x.fld)) p 134 (Z.cells U) := hP ▸ A3.set 9 (.int .i64 P)
  have o4 : (w3.setCell ⟨p, 9, none⟩ (.int .i64 P)).cell? ⟨p, 21, none⟩ = some (.int .i64 x.obj) := hZo ▸ A4.cell 21
  refine wpAnyH_ready (rs := [18]) (by kernel_rfl) (by simp) ?_
  refine AllReadyH.cons rfl (fun K hK => ?_) AllReadyH.nil
  go_simp
  refine hK.out _ _ o4 (fun hHeld => ?_)
  clear hK K
  try simp only [Act.put, List.setIfInBounds_toArray, List.set_cons_zero, List.set_cons_succ]
  refine wpAnyH_done (by kernel_rfl) ?_ _
  go_wp2
  go_ret
  exact ⟨rfl, L1, A4, (g2.trans g3).trans (Went.set _ _ _ _ _)⟩
/-- a step of a Trace -/
theorem cTrace (A : At 142 w L s p 134 (x.cells U)) (ok : x.Ok U) (f : s.Fit) (hc : s.c < 1000000) (r : s.Rng) :
    Calls Tryd.prog 30 #[.pointer (some ⟨p, 0, none⟩), .pointer (some ⟨L.b, 0, none⟩)] w fun e w' => e = .returned (.bool ((x.next U s).pc == 0)) ∧
      ∃ L', At 142 w' L' (x.mem s) p 134 ((x.next U s).cells U) ∧ Went w L p w' L' := by
  have hf : 0 ≤ x.fld ∧ x.fld ≤ 100 := ⟨ok.fld.1, by have := ok.fld.2; omega⟩
  rcases pc_cases5 ok.pc with h | h | h | h | h | h
  · have e1 : x.next U s = x := by simp only [TrS.next, h]
    have e2 : x.mem s = s := by simp only [TrS.mem, h]
    rw [e1, e2, h]
    exact tr0 A f hc r h
  · have e2 : x.mem s = x.ne.mem s := by simp only [TrS.mem, h]
    by_cases hd : (x.ne.next s).pc = 0
    · have e1 : x.next U s = (x.nexts (x.ne.next s)).behindGrey U := by simp only [TrS.next, h, if_pos hd]
      rw [e1, e2]
      exact tr1d A f hc r h ok.ne ok.q0 (by simp [hd])
    · have e1 : x.next U s = x.nexts (x.ne.next s) := by simp only [TrS.next, h, if_neg hd]
      have e3 : ((x.nexts (x.ne.next s)).pc == 0) = false := by show (x.pc == 0) = false; rw [h]; rfl
      rw [e1, e2, e3]
      exact tr1n A f hc r h ok.ne (by simp [hd])
  · have e1 : x.next U s = x.behindField (s.got (x.obj + 1 + x.fld)) := by simp only [TrS.next, h]
    have e2 : x.mem s = s.load (x.obj + 1 + x.fld) := by simp only [TrS.mem, h]
    rw [e1, e2]
    exact tr2 A f hc r h ok.obj hf
  · have e2 : x.mem s = x.ak.mem s := by simp only [TrS.mem, h]
    obtain ⟨k1, k2, k3⟩ := ok.ak h
    have hV : x.V.th = x.ak.N := by rw [k3, k2]; have := ok.th; omega
    by_cases hd : (x.ak.next s).pc = 0
    · have e1 : x.next U s = ((x.asks (x.ak.next s)).goto 4).asked := by simp only [TrS.next, h, if_pos hd]
      rw [e1, e2]
      exact tr3d A f hc r h k1 hV (by simp [hd])
    · have e1 : x.next U s = (x.asks (x.ak.next s)).asked := by simp only [TrS.next, h, if_neg hd]
      have e3 : ((x.asks (x.ak.next s)).asked.pc == 0) = false := by show (x.pc == 0) = false; rw [h]; rfl
      rw [e1, e2, e3]
      exact tr3n A f hc r h k1 hV (by simp [hd])
  · have e1 : x.next U s = x.behindAsk (s.got 1) := by simp only [TrS.next, h]
    have e2 : x.mem s = s.load 1 := by simp only [TrS.mem, h]
    rw [e1, e2]
    exact tr4 A f hc r h
  · have e2 : x.mem s = x.sh.mem s := by simp only [TrS.mem, h]
    by_cases hd : (x.sh.next s).pc = 0
    · have e1 : x.next U s = (x.shades (x.sh.next s)).toField (x.fld + 1) := by simp only [TrS.next, h, if_pos hd]
      rw [e1, e2]
      exact tr5d A f hc r h ok.sh hf (by simp [hd])
    · have e1 : x.next U s = x.shades (x.sh.next s) := by simp only [TrS.next, h, if_neg hd]
      have e3 : ((x.shades (x.sh.next s)).pc == 0) = false := by show (x.pc == 0) = false; rw [h]; rfl
      rw [e1, e2, e3]
      exact tr5n A f hc r h ok.sh (by simp [hd])
/-- the phase that was asked for last -/
theorem cPhaseT (B : w.heap[p]? = some (.cells (x.cells U) 134 (0, 0))) :
    Calls Tryd.prog 34 #[.pointer (some ⟨p, 0, none⟩)] w fun e w' => e = .returned (.agg #[.int .i64 x.q.no, .int .i64 x.q.md, .int .i64 x.q.mr, .int .i64 x.q.ls]) ∧ Below w.heap.size w w' := by
  have c5 : w.cell? ⟨p, 5, none⟩ = some (.int .i64 x.q.no) := cell_of_row w _ _ _ _ _ B
  have c6 : w.cell? ⟨p, 6, none⟩ = some (.int .i64 x.q.md) := cell_of_row w _ _ _ _ _ B
  have c7 : w.cell? ⟨p, 7, none⟩ = some (.int .i64 x.q.mr) := cell_of_row w _ _ _ _ _ B
  have c8 : w.cell? ⟨p, 8, none⟩ = some (.int .i64 x.q.ls) := cell_of_row w _ _ _ _ _ B
  have hl := lt_of_block B
  go_enter Tryd.func34, Tryd.ntmps34
  go_wp2
  exact bodyPost_ret (v := .agg #[.int .i64 x.q.no, .int .i64 x.q.md, .int .i64 x.q.mr, .int .i64 x.q.ls]) (by simp [results, Tryd.results34, go_sem]) rfl ⟨rfl, by go_grown⟩
end
end Go.Proofs.YtoablodmodnamaaDoor
