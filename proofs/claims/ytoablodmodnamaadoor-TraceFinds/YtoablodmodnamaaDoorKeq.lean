/-
  An Ask; a Poll made, and told.
-/
import Derived.Test.YtoablodmodnamaaDoorKdq
namespace Go.Proofs.YtoablodmodnamaaDoor
set_option linter.unusedVariables false
set_option linter.unusedSimpArgs false
set_option maxRecDepth 100000
open Go.ChangeShapes Go.WideShapes Go.RowKit
open S.Plain (t0 t1 tw nx p0 p1 p2 p3 pw)
open H.Plain (hw pS pC pN pM pG pT pL)

/-- a plan's five numbers -/
structure Pl5 where
  th : Int
  bl : Int
  ta : Int
  he : Int
  si : Int
def askCells (U : Pl5) (q : Ph) (pc k : Nat) : Array Value := #[.int .i64 U.th, .int .i64 U.bl, .int .i64 U.ta, .int .i64 U.he, .int .i64 U.si, .int .i64 q.no, .int .i64 q.md, .int .i64 q.mr, .int .i64 q.ls, .int .i64 pc, .int .i64 k]
def AskS.cells (x : AskS) (U : Pl5) : Array Value := askCells U x.q x.pc x.k
structure AskS.Ok (x : AskS) : Prop where
  pc : x.pc ≤ 2
  two : x.pc = 2 → x.k < x.N
  n1 : 1 ≤ x.N
  n64 : x.N ≤ 64
theorem AskS.Ok.next {x : AskS} {s : St} (h : x.Ok) : (x.next s).Ok := by
  obtain ⟨q, N, pc, k⟩ := x
  obtain ⟨h1, h2, h3, h4⟩ := h
  simp only at h1 h2 h3 h4
  rcases (show pc = 0 ∨ pc = 1 ∨ pc = 2 by omega) with rfl | rfl | rfl
  · exact ⟨h1, h2, h3, h4⟩
  · exact ⟨by simp [AskS.next], fun _ => h3, h3, h4⟩
  · have hk := h2 rfl
    simp only [AskS.next]
    split
    · split
      · exact ⟨by simp, fun h => by simp at h, h3, h4⟩
      · exact ⟨by simp, fun _ => by show k + 1 < N; omega, h3, h4⟩
    · exact ⟨h1, fun _ => hk, h3, h4⟩
theorem AskS.N_next {x : AskS} {s : St} : (x.next s).N = x.N := by
  unfold AskS.next
  repeat' split
  all_goals rfl
theorem AskS.q_next {x : AskS} {s : St} : (x.next s).q = x.q := by
  unfold AskS.next
  repeat' split
  all_goals rfl
section
variable {w : World} {L : Loc} {s : St} {p : Nat} {U : Pl5} {q : Ph} {k : Nat}
set_option maxHeartbeats 1000000 in
theorem cToThread {pc : Nat} (A : At 142 w L s p 102 (askCells U q pc k)) (j : Nat) (d : Bool) (hd : decide ((j : Int) < U.th) = d) :
    Calls Tryd.prog 41 #[.pointer (some ⟨p, 0, none⟩), .int .i64 j] w fun e w' => e = .returned (.int .i64 (if d then 2 else 0)) ∧ At 142 w' L s p 102 (askCells U q pc j) ∧ Went w L p w' L := by
  have c0 : w.cell? ⟨p, 0, none⟩ = some (.int .i64 U.th) := A.cell 0
  have cf0 := A.free 0
  have c10 : w.cell? ⟨p, 10, none⟩ = some (.int .i64 k) := A.cell 10
  have cf10 := A.free 10
  have hl := lt_of_block A.blk
  cases d
  · go_enter Tryd.func41, Tryd.ntmps41
    go_wp2
    go_ret
    exact ⟨rfl, A.set 10 (.int .i64 j), Went.set _ _ _ _ _⟩
  · go_enter Tryd.func41, Tryd.ntmps41
    go_wp2
    go_ret
    exact ⟨rfl, A.set 10 (.int .i64 j), Went.set _ _ _ _ _⟩
set_option maxHeartbeats 1000000 in
theorem as0 (A : At 142 w L s p 102 (askCells U q 0 k)) (f : s.Fit) (hc : s.c < 1000000) :
    Calls Tryd.prog 13 #[.pointer (some ⟨p, 0, none⟩), .pointer (some ⟨L.b, 0, none⟩)] w fun e w' => e = .returned (.bool true) ∧
      ∃ L', At 142 w' L' (s) p 102 (askCells U q 0 k) ∧ Went w L p w' L' := by
  have c9 : w.cell? ⟨p, 9, none⟩ = some (.int .i64 0) := A.cell 9
  have cf9 := A.free 9
  go_enter Tryd.func13, Tryd.ntmps13
  go_wp2
  go_ret
  exact ⟨rfl, L, A, Went.refl _ _ _⟩
set_option maxHeartbeats 1000000 in
theorem as0r (A : At 80 w L s p 104 (askCells U q 0 k)) (f : s.Fit) (hc : s.c < 1000000) :
    Calls Tryd.prog 14 #[.pointer (some ⟨p, 0, none⟩), .pointer (some ⟨L.b, 0, none⟩)] w fun e w' => e = .returned (.bool true) ∧
      ∃ L', At 80 w' L' (s) p 104 (askCells U q 0 k) ∧ Went w L p w' L' := by
  have c9 : w.cell? ⟨p, 9, none⟩ = some (.int .i64 0) := A.cell 9
  have cf9 := A.free 9
  go_enter Tryd.func14, Tryd.ntmps14
  go_wp2
  go_ret
  exact ⟨rfl, L, A, Went.refl _ _ _⟩
set_option maxHeartbeats 1000000 in
theorem as1 (A : At 142 w L s p 102 (askCells U q 1 k)) (f : s.Fit) (hc : s.c < 1000000) (hP : 1 ≤ U.th) :
    Calls Tryd.prog 13 #[.pointer (some ⟨p, 0, none⟩), .pointer (some ⟨L.b, 0, none⟩)] w fun e w' => e = .returned (.bool false) ∧
      ∃ L', At 142 w' L' (s.store 0 (pw q.no q.md q.mr q.ls)) p 102 (askCells U q 2 0) ∧ Went w L p w' L' := by
  have c5 : w.cell? ⟨p, 5, none⟩ = some (.int .i64 q.no) := A.cell 5
  have cf5 := A.free 5
  have c6 : w.cell? ⟨p, 6, none⟩ = some (.int .i64 q.md) := A.cell 6
  have cf6 := A.free 6
  have c7 : w.cell? ⟨p, 7, none⟩ = some (.int .i64 q.mr) := A.cell 7
  have cf7 := A.free 7
  have c8 : w.cell? ⟨p, 8, none⟩ = some (.int .i64 q.ls) := A.cell 8
  have cf8 := A.free 8
  have c9 : w.cell? ⟨p, 9, none⟩ = some (.int .i64 1) := A.cell 9
  have cf9 := A.free 9
  obtain ⟨u, hu⟩ : ∃ u, pw q.no q.md q.mr q.ls = u := ⟨_, rfl⟩
  rw [hu]
  have hd : decide (((0 : Nat) : Int) < U.th) = true := by simp; omega
  go_enter Tryd.func13, Tryd.ntmps13
  go_wp2_with (first
    | (go_at_call 40; refine (S.gPhase q.no q.md q.mr q.ls _).mono ?_; rintro e w1 ⟨rfl, hb1⟩; rw [hu]; have A1 := A.below hb1)
    | (go_at_call 37; refine (cStore A1.mem f hc 0 u).mono ?_; rintro e w2 ⟨rfl, L2, hm2, st2⟩; have A2 := A1.step hm2 st2)
    | (go_at_call 41; refine (cToThread (U := U) (q := q) (k := k) (pc := 1) A2 0 true hd).mono ?_; rintro e w3 ⟨rfl, A3, g3⟩; have d9 : w3.cell? ⟨p, 9, none⟩ = some (.int .i64 1) := A3.cell 9; have df9 := A3.free 9))
  go_ret
  exact ⟨rfl, L2, A3.set 9 (.int .i64 2), (((Went.of_below hb1 L p).trans (Went.of_step st2 p)).trans g3).more⟩
set_option maxHeartbeats 1000000 in
theorem as1r (A : At 80 w L s p 104 (askCells U q 1 0)) (f : s.Fit) (hc : s.c < 1000000) :
    Calls Tryd.prog 14 #[.pointer (some ⟨p, 0, none⟩), .pointer (some ⟨L.b, 0, none⟩)] w fun e w' => e = .returned (.bool false) ∧
      ∃ L', At 80 w' L' (s.store 0 (pw q.no q.md q.mr q.ls)) p 104 (askCells U q 2 0) ∧ Went w L p w' L' := by
  have c5 : w.cell? ⟨p, 5, none⟩ = some (.int .i64 q.no) := A.cell 5
  have cf5 := A.free 5
  have c6 : w.cell? ⟨p, 6, none⟩ = some (.int .i64 q.md) := A.cell 6
  have cf6 := A.free 6
  have c7 : w.cell? ⟨p, 7, none⟩ = some (.int .i64 q.mr) := A.cell 7
  have cf7 := A.free 7
  have c8 : w.cell? ⟨p, 8, none⟩ = some (.int .i64 q.ls) := A.cell 8
  have cf8 := A.free 8
  have c9 : w.cell? ⟨p, 9, none⟩ = some (.int .i64 1) := A.cell 9
  have cf9 := A.free 9
  obtain ⟨u, hu⟩ : ∃ u, pw q.no q.md q.mr q.ls = u := ⟨_, rfl⟩
  rw [hu]
  go_enter Tryd.func14, Tryd.ntmps14
  go_wp2_with (first
    | (go_at_call 43; refine (S.hPhase q.no q.md q.mr q.ls _).mono ?_; rintro e w1 ⟨rfl, hb1⟩; rw [hu]; have A1 := A.below hb1)
    | (go_at_call 39; refine (rStore A1.mem f hc 0 u).mono ?_; rintro e w2 ⟨rfl, L2, hm2, st2⟩; have A2 := A1.step hm2 st2; have d9 : w2.cell? ⟨p, 9, none⟩ = some (.int .i64 1) := A2.cell 9; have df9 := A2.free 9))
  go_ret
  exact ⟨rfl, L2, A2.set 9 (.int .i64 2), ((Went.of_below hb1 L p).trans (Went.of_step st2 p)).more⟩
set_option maxHeartbeats 1000000 in
theorem as2n (A : At 142 w L s p 102 (askCells U q 2 k)) (f : s.Fit) (hc : s.c < 1000000) (hk : k < 64) (hv : s.got (10 + (k : Int)) ≠ IntKind.u64.wrap q.no) :
    Calls Tryd.prog 13 #[.pointer (some ⟨p, 0, none⟩), .pointer (some ⟨L.b, 0, none⟩)] w fun e w' => e = .returned (.bool false) ∧
      ∃ L', At 142 w' L' (s.load (10 + (k : Int))) p 102 (askCells U q 2 k) ∧ Went w L p w' L' := by
  obtain ⟨u, hu⟩ : ∃ u, IntKind.u64.wrap q.no = u := ⟨_, rfl⟩
  rw [hu] at hv
  obtain ⟨v, hgv⟩ : ∃ v, s.got (10 + (k : Int)) = v := ⟨_, rfl⟩
  rw [hgv] at hv
  obtain ⟨ad, had⟩ : ∃ ad, 10 + (k : Int) = ad := ⟨_, rfl⟩
  rw [had] at hgv ⊢
  have hq : (v == u) = false := by simp [hv]
  clear hv
  have c9 : w.cell? ⟨p, 9, none⟩ = some (.int .i64 2) := A.cell 9
  have hl := lt_of_block A.blk
  have keep : ∀ w', Below w.heap.size w w' → w'.cell? ⟨p, 0, none⟩ = some (.int .i64 U.th) ∧ w'.cell? ⟨p, 1, none⟩ = some (.int .i64 U.bl) ∧ w'.cell? ⟨p, 2, none⟩ = some (.int .i64 U.ta) ∧ w'.cell? ⟨p, 3, none⟩ = some (.int .i64 U.he) ∧ w'.cell? ⟨p, 4, none⟩ = some (.int .i64 U.si) ∧ w'.cell? ⟨p, 5, none⟩ = some (.int .i64 q.no) ∧ w'.cell? ⟨p, 10, none⟩ = some (.int .i64 k) := fun w' hb => ⟨(A.below hb).cell 0, (A.below hb).cell 1, (A.below hb).cell 2, (A.below hb).cell 3, (A.below hb).cell 4, (A.below hb).cell 5, (A.below hb).cell 10⟩
  have hbd : Below w.heap.size w w.drew := (Below.refl w.heap.size w).drew
  have RD := keep _ hbd
  go_enter Tryd.func13, Tryd.ntmps13
  go_wp2_with (fail)
  go_region_held3 (fun w' => w'.cell? ⟨p, 0, none⟩ = some (.int .i64 U.th) ∧ w'.cell? ⟨p, 1, none⟩ = some (.int .i64 U.bl) ∧ w'.cell? ⟨p, 2, none⟩ = some (.int .i64 U.ta) ∧ w'.cell? ⟨p, 3, none⟩ = some (.int .i64 U.he) ∧ w'.cell? ⟨p, 4, none⟩ = some (.int .i64 U.si) ∧ w'.cell? ⟨p, 5, none⟩ = some (.int .i64 q.no) ∧ w'.cell? ⟨p, 10, none⟩ = some (.int .i64 k)) (first | assumption | exact RD | exact keep _ (by assumption))
    (first
      | (go_at_call 42; refine (P.cAck _ _ _ _ _ k (by omega) (by omega) _).mono ?_; rintro e w1 ⟨rfl, hw1⟩; rw [had]; have hb1 : Below w.heap.size w w1 := (by rw [hw1]; exact bel_trans hbd ((Below.refl _ _).alloc (Nat.le_refl _) _)); clear hw1)
      | (go_at_call 31; refine (cLoad (A.below hb1).mem f hc ad).mono ?_; rintro e w2 ⟨rfl, L2, hm2, st2⟩; rw [hgv]; have A2 := (A.below hb1).step hm2 st2; have S2 : w2.cell? ⟨p, 0, none⟩ = some (.int .i64 U.th) ∧ w2.cell? ⟨p, 1, none⟩ = some (.int .i64 U.bl) ∧ w2.cell? ⟨p, 2, none⟩ = some (.int .i64 U.ta) ∧ w2.cell? ⟨p, 3, none⟩ = some (.int .i64 U.he) ∧ w2.cell? ⟨p, 4, none⟩ = some (.int .i64 U.si) ∧ w2.cell? ⟨p, 5, none⟩ = some (.int .i64 q.no) ∧ w2.cell? ⟨p, 10, none⟩ = some (.int .i64 k) := ⟨A2.cell 0, A2.cell 1, A2.cell 2, A2.cell 3, A2.cell 4, A2.cell 5, A2.cell 10⟩; have g2 := (Went.of_below hb1 L p).trans (Went.of_step st2 p)))
  clear keep RD
  have x9 : w2.cell? ⟨p, 9, none⟩ = some (.int .i64 2) := A2.cell 9
  have xf9 := A2.free 9
  have x10 : w2.cell? ⟨p, 10, none⟩ = some (.int .i64 k) := A2.cell 10
  have xf10 := A2.free 10
  go_wp2
  go_ret
  exact ⟨rfl, L2, A2, g2⟩
set_option maxHeartbeats 1000000 in
theorem as2nr (A : At 80 w L s p 104 (askCells U q 2 k)) (f : s.Fit) (hc : s.c < 1000000) (hk : k < 64) (hv : s.got (10 + (k : Int)) ≠ IntKind.u64.wrap q.no) (hd : (k : Int) ≠ U.th) :
    Calls Tryd.prog 14 #[.pointer (some ⟨p, 0, none⟩), .pointer (some ⟨L.b, 0, none⟩)] w fun e w' => e = .returned (.bool false) ∧
      ∃ L', At 80 w' L' (s.load (10 + (k : Int))) p 104 (askCells U q 2 k) ∧ Went w L p w' L' := by
  obtain ⟨u, hu⟩ : ∃ u, IntKind.u64.wrap q.no = u := ⟨_, rfl⟩
  rw [hu] at hv
  obtain ⟨v, hgv⟩ : ∃ v, s.got (10 + (k : Int)) = v := ⟨_, rfl⟩
  rw [hgv] at hv
  obtain ⟨ad, had⟩ : ∃ ad, 10 + (k : Int) = ad := ⟨_, rfl⟩
  rw [had] at hgv ⊢
  have hq : (v == u) = false := by simp [hv]
  clear hv
  have hdd : ((k : Int) == U.th) = false := by simpa using hd
  clear hd
  have c9 : w.cell? ⟨p, 9, none⟩ = some (.int .i64 2) := A.cell 9
  have hl := lt_of_block A.blk
  have keep : ∀ w', Below w.heap.size w w' → w'.cell? ⟨p, 0, none⟩ = some (.int .i64 U.th) ∧ w'.cell? ⟨p, 1, none⟩ = some (.int .i64 U.bl) ∧ w'.cell? ⟨p, 2, none⟩ = some (.int .i64 U.ta) ∧ w'.cell? ⟨p, 3, none⟩ = some (.int .i64 U.he) ∧ w'.cell? ⟨p, 4, none⟩ = some (.int .i64 U.si) ∧ w'.cell? ⟨p, 5, none⟩ = some (.int .i64 q.no) ∧ w'.cell? ⟨p, 10, none⟩ = some (.int .i64 k) := fun w' hb => ⟨(A.below hb).cell 0, (A.below hb).cell 1, (A.below hb).cell 2, (A.below hb).cell 3, (A.below hb).cell 4, (A.below hb).cell 5, (A.below hb).cell 10⟩
  have hbd : Below w.heap.size w w.drew := (Below.refl w.heap.size w).drew
  have RD := keep _ hbd
  go_enter Tryd.func14, Tryd.ntmps14
  go_wp2_with (fail)
  go_region_held3 (fun w' => w'.cell? ⟨p, 0, none⟩ = some (.int .i64 U.th) ∧ w'.cell? ⟨p, 1, none⟩ = some (.int .i64 U.bl) ∧ w'.cell? ⟨p, 2, none⟩ = some (.int .i64 U.ta) ∧ w'.cell? ⟨p, 3, none⟩ = some (.int .i64 U.he) ∧ w'.cell? ⟨p, 4, none⟩ = some (.int .i64 U.si) ∧ w'.cell? ⟨p, 5, none⟩ = some (.int .i64 q.no) ∧ w'.cell? ⟨p, 10, none⟩ = some (.int .i64 k)) (first | assumption | exact RD | exact keep _ (by assumption))
    (first
      | (go_at_call 45; refine (P.rAck _ _ _ _ _ k (by omega) (by omega) _).mono ?_; rintro e w1 ⟨rfl, hw1⟩; rw [had]; have hb1 : Below w.heap.size w w1 := (by rw [hw1]; exact bel_trans hbd ((Below.refl _ _).alloc (Nat.le_refl _) _)); clear hw1)
      | (go_at_call 44; refine (rLoad (A.below hb1).mem f hc ad).mono ?_; rintro e w2 ⟨rfl, L2, hm2, st2⟩; rw [hgv]; have A2 := (A.below hb1).step hm2 st2; have S2 : w2.cell? ⟨p, 0, none⟩ = some (.int .i64 U.th) ∧ w2.cell? ⟨p, 1, none⟩ = some (.int .i64 U.bl) ∧ w2.cell? ⟨p, 2, none⟩ = some (.int .i64 U.ta) ∧ w2.cell? ⟨p, 3, none⟩ = some (.int .i64 U.he) ∧ w2.cell? ⟨p, 4, none⟩ = some (.int .i64 U.si) ∧ w2.cell? ⟨p, 5, none⟩ = some (.int .i64 q.no) ∧ w2.cell? ⟨p, 10, none⟩ = some (.int .i64 k) := ⟨A2.cell 0, A2.cell 1, A2.cell 2, A2.cell 3, A2.cell 4, A2.cell 5, A2.cell 10⟩; have g2 := (Went.of_below hb1 L p).trans (Went.of_step st2 p)))
  clear keep RD
  have x0 : w2.cell? ⟨p, 0, none⟩ = some (.int .i64 U.th) := A2.cell 0
  have xf0 := A2.free 0
  have x5 : w2.cell? ⟨p, 5, none⟩ = some (.int .i64 q.no) := A2.cell 5
  have xf5 := A2.free 5
  have x9 : w2.cell? ⟨p, 9, none⟩ = some (.int .i64 2) := A2.cell 9
  have xf9 := A2.free 9
  have x10 : w2.cell? ⟨p, 10, none⟩ = some (.int .i64 k) := A2.cell 10
  have xf10 := A2.free 10
  go_wp2_with (fail)
  go_quiet (fail)
  go_wp2
  go_ret
  exact ⟨rfl, L2, (A2.below (S.bdr (Below.refl w2.heap.size w2) _)), (g2.trans (Went.of_below (S.bdr (Below.refl w2.heap.size w2) _) _ _))⟩
set_option maxHeartbeats 1000000 in
theorem as2m (A : At 142 w L s p 102 (askCells U q 2 k)) (f : s.Fit) (hc : s.c < 1000000) (hk : k < 64) (hv : s.got (10 + (k : Int)) = IntKind.u64.wrap q.no) (hd : decide (((k + 1 : Nat) : Int) < U.th) = true) :
    Calls Tryd.prog 13 #[.pointer (some ⟨p, 0, none⟩), .pointer (some ⟨L.b, 0, none⟩)] w fun e w' => e = .returned (.bool false) ∧
      ∃ L', At 142 w' L' (s.load (10 + (k : Int))) p 102 (askCells U q 2 (k + 1)) ∧ Went w L p w' L' := by
  obtain ⟨u, hu⟩ : ∃ u, IntKind.u64.wrap q.no = u := ⟨_, rfl⟩
  rw [hu] at hv
  obtain ⟨v, hgv⟩ : ∃ v, s.got (10 + (k : Int)) = v := ⟨_, rfl⟩
  rw [hgv] at hv
  obtain ⟨ad, had⟩ : ∃ ad, 10 + (k : Int) = ad := ⟨_, rfl⟩
  rw [had] at hgv ⊢
  have hq : (v == u) = true := by simp [hv]
  clear hv
  obtain ⟨k1, hk1⟩ : ∃ k1 : Nat, k + 1 = k1 := ⟨_, rfl⟩
  have hki : (k : Int) + 1 = (k1 : Int) := by omega
  rw [hk1] at hd ⊢
  have c9 : w.cell? ⟨p, 9, none⟩ = some (.int .i64 2) := A.cell 9
  have hl := lt_of_block A.blk
  have keep : ∀ w', Below w.heap.size w w' → w'.cell? ⟨p, 0, none⟩ = some (.int .i64 U.th) ∧ w'.cell? ⟨p, 1, none⟩ = some (.int .i64 U.bl) ∧ w'.cell? ⟨p, 2, none⟩ = some (.int .i64 U.ta) ∧ w'.cell? ⟨p, 3, none⟩ = some (.int .i64 U.he) ∧ w'.cell? ⟨p, 4, none⟩ = some (.int .i64 U.si) ∧ w'.cell? ⟨p, 5, none⟩ = some (.int .i64 q.no) ∧ w'.cell? ⟨p, 10, none⟩ = some (.int .i64 k) := fun w' hb => ⟨(A.below hb).cell 0, (A.below hb).cell 1, (A.below hb).cell 2, (A.below hb).cell 3, (A.below hb).cell 4, (A.below hb).cell 5, (A.below hb).cell 10⟩
  have hbd : Below w.heap.size w w.drew := (Below.refl w.heap.size w).drew
  have RD := keep _ hbd
  go_enter Tryd.func13, Tryd.ntmps13
  go_wp2_with (fail)
  go_region_held3 (fun w' => w'.cell? ⟨p, 0, none⟩ = some (.int .i64 U.th) ∧ w'.cell? ⟨p, 1, none⟩ = some (.int .i64 U.bl) ∧ w'.cell? ⟨p, 2, none⟩ = some (.int .i64 U.ta) ∧ w'.cell? ⟨p, 3, none⟩ = some (.int .i64 U.he) ∧ w'.cell? ⟨p, 4, none⟩ = some (.int .i64 U.si) ∧ w'.cell? ⟨p, 5, none⟩ = some (.int .i64 q.no) ∧ w'.cell? ⟨p, 10, none⟩ = some (.int .i64 k)) (first | assumption | exact RD | exact keep _ (by assumption))
    (first
      | (go_at_call 42; refine (P.cAck _ _ _ _ _ k (by omega) (by omega) _).mono ?_; rintro e w1 ⟨rfl, hw1⟩; rw [had]; have hb1 : Below w.heap.size w w1 := (by rw [hw1]; exact bel_trans hbd ((Below.refl _ _).alloc (Nat.le_refl _) _)); clear hw1)
      | (go_at_call 31; refine (cLoad (A.below hb1).mem f hc ad).mono ?_; rintro e w2 ⟨rfl, L2, hm2, st2⟩; rw [hgv]; have A2 := (A.below hb1).step hm2 st2; have S2 : w2.cell? ⟨p, 0, none⟩ = some (.int .i64 U.th) ∧ w2.cell? ⟨p, 1, none⟩ = some (.int .i64 U.bl) ∧ w2.cell? ⟨p, 2, none⟩ = some (.int .i64 U.ta) ∧ w2.cell? ⟨p, 3, none⟩ = some (.int .i64 U.he) ∧ w2.cell? ⟨p, 4, none⟩ = some (.int .i64 U.si) ∧ w2.cell? ⟨p, 5, none⟩ = some (.int .i64 q.no) ∧ w2.cell? ⟨p, 10, none⟩ = some (.int .i64 k) := ⟨A2.cell 0, A2.cell 1, A2.cell 2, A2.cell 3, A2.cell 4, A2.cell 5, A2.cell 10⟩; have g2 := (Went.of_below hb1 L p).trans (Went.of_step st2 p)))
  clear keep RD
  have x9 : w2.cell? ⟨p, 9, none⟩ = some (.int .i64 2) := A2.cell 9
  have xf9 := A2.free 9
  have x10 : w2.cell? ⟨p, 10, none⟩ = some (.int .i64 k) := A2.cell 10
  have xf10 := A2.free 10
  go_wp2_with (go_at_call 41; refine (cToThread (U := U) (q := q) (k := k) (pc := 2) A2 k1 true hd).mono ?_; rintro e w3 ⟨rfl, A3, g3⟩; have y9 : w3.cell? ⟨p, 9, none⟩ = some (.int .i64 2) := A3.cell 9; have yf9 := A3.free 9)
  go_ret
  exact ⟨rfl, L2, A3.set 9 (.int .i64 2), (g2.trans g3).more⟩
set_option maxHeartbeats 1000000 in
theorem as2mr (A : At 80 w L s p 104 (askCells U q 2 k)) (f : s.Fit) (hc : s.c < 1000000) (hk : k < 64) (hv : s.got (10 + (k : Int)) = IntKind.u64.wrap q.no) (hd : ((k + 1 : Nat) : Int) ≠ U.th) :
    Calls Tryd.prog 14 #[.pointer (some ⟨p, 0, none⟩), .pointer (some ⟨L.b, 0, none⟩)] w fun e w' => e = .returned (.bool false) ∧
      ∃ L', At 80 w' L' (s.load (10 + (k : Int))) p 104 (askCells U q 2 (k + 1)) ∧ Went w L p w' L' := by
  obtain ⟨u, hu⟩ : ∃ u, IntKind.u64.wrap q.no = u := ⟨_, rfl⟩
  rw [hu] at hv
  obtain ⟨v, hgv⟩ : ∃ v, s.got (10 + (k : Int)) = v := ⟨_, rfl⟩
  rw [hgv] at hv
  obtain ⟨ad, had⟩ : ∃ ad, 10 + (k : Int) = ad := ⟨_, rfl⟩
  rw [had] at hgv ⊢
  have hq : (v == u) = true := by simp [hv]
  clear hv
  obtain ⟨k1, hk1⟩ : ∃ k1 : Nat, k + 1 = k1 := ⟨_, rfl⟩
  have hki : (k : Int) + 1 = (k1 : Int) := by omega
  rw [hk1] at hd ⊢
  have hdd : ((k1 : Int) == U.th) = false := by simpa using hd
  clear hd
  have c9 : w.cell? ⟨p, 9, none⟩ = some (.int .i64 2) := A.cell 9
  have hl := lt_of_block A.blk
  have keep : ∀ w', Below w.heap.size w w' → w'.cell? ⟨p, 0, none⟩ = some (.int .i64 U.th) ∧ w'.cell? ⟨p, 1, none⟩ = some (.int .i64 U.bl) ∧ w'.cell? ⟨p, 2, none⟩ = some (.int .i64 U.ta) ∧ w'.cell? ⟨p, 3, none⟩ = some (.int .i64 U.he) ∧ w'.cell? ⟨p, 4, none⟩ = some (.int .i64 U.si) ∧ w'.cell? ⟨p, 5, none⟩ = some (.int .i64 q.no) ∧ w'.cell? ⟨p, 10, none⟩ = some (.int .i64 k) := fun w' hb => ⟨(A.below hb).cell 0, (A.below hb).cell 1, (A.below hb).cell 2, (A.below hb).cell 3, (A.below hb).cell 4, (A.below hb).cell 5, (A.below hb).cell 10⟩
  have hbd : Below w.heap.size w w.drew := (Below.refl w.heap.size w).drew
  have RD := keep _ hbd
  go_enter Tryd.func14, Tryd.ntmps14
  go_wp2_with (fail)
  go_region_held3 (fun w' => w'.cell? ⟨p, 0, none⟩ = some (.int .i64 U.th) ∧ w'.cell? ⟨p, 1, none⟩ = some (.int .i64 U.bl) ∧ w'.cell? ⟨p, 2, none⟩ = some (.int .i64 U.ta) ∧ w'.cell? ⟨p, 3, none⟩ = some (.int .i64 U.he) ∧ w'.cell? ⟨p, 4, none⟩ = some (.int .i64 U.si) ∧ w'.cell? ⟨p, 5, none⟩ = some (.int .i64 q.no) ∧ w'.cell? ⟨p, 10, none⟩ = some (.int .i64 k)) (first | assumption | exact RD | exact keep _ (by assumption))
    (first
      | (go_at_call 45; refine (P.rAck _ _ _ _ _ k (by omega) (by omega) _).mono ?_; rintro e w1 ⟨rfl, hw1⟩; rw [had]; have hb1 : Below w.heap.size w w1 := (by rw [hw1]; exact bel_trans hbd ((Below.refl _ _).alloc (Nat.le_refl _) _)); clear hw1)
      | (go_at_call 44; refine (rLoad (A.below hb1).mem f hc ad).mono ?_; rintro e w2 ⟨rfl, L2, hm2, st2⟩; rw [hgv]; have A2 := (A.below hb1).step hm2 st2; have S2 : w2.cell? ⟨p, 0, none⟩ = some (.int .i64 U.th) ∧ w2.cell? ⟨p, 1, none⟩ = some (.int .i64 U.bl) ∧ w2.cell? ⟨p, 2, none⟩ = some (.int .i64 U.ta) ∧ w2.cell? ⟨p, 3, none⟩ = some (.int .i64 U.he) ∧ w2.cell? ⟨p, 4, none⟩ = some (.int .i64 U.si) ∧ w2.cell? ⟨p, 5, none⟩ = some (.int .i64 q.no) ∧ w2.cell? ⟨p, 10, none⟩ = some (.int .i64 k) := ⟨A2.cell 0, A2.cell 1, A2.cell 2, A2.cell 3, A2.cell 4, A2.cell 5, A2.cell 10⟩; have g2 := (Went.of_below hb1 L p).trans (Went.of_step st2 p)))
  clear keep RD
  have x0 : w2.cell? ⟨p, 0, none⟩ = some (.int .i64 U.th) := A2.cell 0
  have xf0 := A2.free 0
  have x5 : w2.cell? ⟨p, 5, none⟩ = some (.int .i64 q.no) := A2.cell 5
  have xf5 := A2.free 5
  have x9 : w2.cell? ⟨p, 9, none⟩ = some (.int .i64 2) := A2.cell 9
  have xf9 := A2.free 9
  have x10 : w2.cell? ⟨p, 10, none⟩ = some (.int .i64 k) := A2.cell 10
  have xf10 := A2.free 10
  go_wp2_with (fail)
  have A3 : At 80 (w2.setCell ⟨p, 10, none⟩ (.int .i64 k1)) L2 (s.load ad) p 104 (askCells U q 2 k1) := A2.set 10 (.int .i64 k1)
  have g3 : Went w L p (w2.setCell ⟨p, 10, none⟩ (.int .i64 k1)) L2 := g2.more
  clear x0 xf0 x5 xf5 x9 xf9 x10 xf10 S2
  generalize w2.setCell ⟨p, 10, none⟩ (.int .i64 k1) = w3 at A3 g3 ⊢
  have y0 : w3.cell? ⟨p, 0, none⟩ = some (.int .i64 U.th) := A3.cell 0
  have yf0 := A3.free 0
  have y9 : w3.cell? ⟨p, 9, none⟩ = some (.int .i64 2) := A3.cell 9
  have yf9 := A3.free 9
  have y10 : w3.cell? ⟨p, 10, none⟩ = some (.int .i64 k1) := A3.cell 10
  have yf10 := A3.free 10
  go_quiet (fail)
  go_wp2
  go_ret
  exact ⟨rfl, L2, (A3.below (S.bdr (Below.refl w3.heap.size w3) _)), (g3.trans (Went.of_below (S.bdr (Below.refl w3.heap.size w3) _) _ _))⟩
set_option maxHeartbeats 1000000 in
theorem as2e (A : At 142 w L s p 102 (askCells U q 2 k)) (f : s.Fit) (hc : s.c < 1000000) (hk : k < 64) (hv : s.got (10 + (k : Int)) = IntKind.u64.wrap q.no) (hd : decide (((k + 1 : Nat) : Int) < U.th) = false) :
    Calls Tryd.prog 13 #[.pointer (some ⟨p, 0, none⟩), .pointer (some ⟨L.b, 0, none⟩)] w fun e w' => e = .returned (.bool true) ∧
      ∃ L', At 142 w' L' (s.load (10 + (k : Int))) p 102 (askCells U q 0 (k + 1)) ∧ Went w L p w' L' := by
  obtain ⟨u, hu⟩ : ∃ u, IntKind.u64.wrap q.no = u := ⟨_, rfl⟩
  rw [hu] at hv
  obtain ⟨v, hgv⟩ : ∃ v, s.got (10 + (k : Int)) = v := ⟨_, rfl⟩
  rw [hgv] at hv
  obtain ⟨ad, had⟩ : ∃ ad, 10 + (k : Int) = ad := ⟨_, rfl⟩
  rw [had] at hgv ⊢
  have hq : (v == u) = true := by simp [hv]
  clear hv
  obtain ⟨k1, hk1⟩ : ∃ k1 : Nat, k + 1 = k1 := ⟨_, rfl⟩
  have hki : (k : Int) + 1 = (k1 : Int) := by omega
  rw [hk1] at hd ⊢
  have c9 : w.cell? ⟨p, 9, none⟩ = some (.int .i64 2) := A.cell 9
  have hl := lt_of_block A.blk
  have keep : ∀ w', Below w.heap.size w w' → w'.cell? ⟨p, 0, none⟩ = some (.int .i64 U.th) ∧ w'.cell? ⟨p, 1, none⟩ = some (.int .i64 U.bl) ∧ w'.cell? ⟨p, 2, none⟩ = some (.int .i64 U.ta) ∧ w'.cell? ⟨p, 3, none⟩ = some (.int .i64 U.he) ∧ w'.cell? ⟨p, 4, none⟩ = some (.int .i64 U.si) ∧ w'.cell? ⟨p, 5, none⟩ = some (.int .i64 q.no) ∧ w'.cell? ⟨p, 10, none⟩ = some (.int .i64 k) := fun w' hb => ⟨(A.below hb).cell 0, (A.below hb).cell 1, (A.below hb).cell 2, (A.below hb).cell 3, (A.below hb).cell 4, (A.below hb).cell 5, (A.below hb).cell 10⟩
  have hbd : Below w.heap.size w w.drew := (Below.refl w.heap.size w).drew
  have RD := keep _ hbd
  go_enter Tryd.func13, Tryd.ntmps13
  go_wp2_with (fail)
  go_region_held3 (fun w' => w'.cell? ⟨p, 0, none⟩ = some (.int .i64 U.th) ∧ w'.cell? ⟨p, 1, none⟩ = some (.int .i64 U.bl) ∧ w'.cell? ⟨p, 2, none⟩ = some (.int .i64 U.ta) ∧ w'.cell? ⟨p, 3, none⟩ = some (.int .i64 U.he) ∧ w'.cell? ⟨p, 4, none⟩ = some (.int .i64 U.si) ∧ w'.cell? ⟨p, 5, none⟩ = some (.int .i64 q.no) ∧ w'.cell? ⟨p, 10, none⟩ = some (.int .i64 k)) (first | assumption | exact RD | exact keep _ (by assumption))
    (first
      | (go_at_call 42; refine (P.cAck _ _ _ _ _ k (by omega) (by omega) _).mono ?_; rintro e w1 ⟨rfl, hw1⟩; rw [had]; have hb1 : Below w.heap.size w w1 := (by rw [hw1]; exact bel_trans hbd ((Below.refl _ _).alloc (Nat.le_refl _) _)); clear hw1)
      | (go_at_call 31; refine (cLoad (A.below hb1).mem f hc ad).mono ?_; rintro e w2 ⟨rfl, L2, hm2, st2⟩; rw [hgv]; have A2 := (A.below hb1).step hm2 st2; have S2 : w2.cell? ⟨p, 0, none⟩ = some (.int .i64 U.th) ∧ w2.cell? ⟨p, 1, none⟩ = some (.int .i64 U.bl) ∧ w2.cell? ⟨p, 2, none⟩ = some (.int .i64 U.ta) ∧ w2.cell? ⟨p, 3, none⟩ = some (.int .i64 U.he) ∧ w2.cell? ⟨p, 4, none⟩ = some (.int .i64 U.si) ∧ w2.cell? ⟨p, 5, none⟩ = some (.int .i64 q.no) ∧ w2.cell? ⟨p, 10, none⟩ = some (.int .i64 k) := ⟨A2.cell 0, A2.cell 1, A2.cell 2, A2.cell 3, A2.cell 4, A2.cell 5, A2.cell 10⟩; have g2 := (Went.of_below hb1 L p).trans (Went.of_step st2 p)))
  clear keep RD
  have x9 : w2.cell? ⟨p, 9, none⟩ = some (.int .i64 2) := A2.cell 9
  have xf9 := A2.free 9
  have x10 : w2.cell? ⟨p, 10, none⟩ = some (.int .i64 k) := A2.cell 10
  have xf10 := A2.free 10
  go_wp2_with (go_at_call 41; refine (cToThread (U := U) (q := q) (k := k) (pc := 2) A2 k1 false hd).mono ?_; rintro e w3 ⟨rfl, A3, g3⟩; have y9 : w3.cell? ⟨p, 9, none⟩ = some (.int .i64 2) := A3.cell 9; have yf9 := A3.free 9)
  go_ret
  exact ⟨rfl, L2, A3.set 9 (.int .i64 0), (g2.trans g3).more⟩
set_option maxHeartbeats 1000000 in
theorem as2er (A : At 80 w L s p 104 (askCells U q 2 k)) (f : s.Fit) (hc : s.c < 1000000) (hk : k < 64) (hv : s.got (10 + (k : Int)) = IntKind.u64.wrap q.no) (hd : ((k + 1 : Nat) : Int) = U.th) :
    Calls Tryd.prog 14 #[.pointer (some ⟨p, 0, none⟩), .pointer (some ⟨L.b, 0, none⟩)] w fun e w' => e = .returned (.bool true) ∧
      ∃ L', At 80 w' L' (s.load (10 + (k : Int))) p 104 (askCells U q 0 (k + 1)) ∧ Went w L p w' L' := by
  obtain ⟨u, hu⟩ : ∃ u, IntKind.u64.wrap q.no = u := ⟨_, rfl⟩
  rw [hu] at hv
  obtain ⟨v, hgv⟩ : ∃ v, s.got (10 + (k : Int)) = v := ⟨_, rfl⟩
  rw [hgv] at hv
  obtain ⟨ad, had⟩ : ∃ ad, 10 + (k : Int) = ad := ⟨_, rfl⟩
  rw [had] at hgv ⊢
  have hq : (v == u) = true := by simp [hv]
  clear hv
  obtain ⟨k1, hk1⟩ : ∃ k1 : Nat, k + 1 = k1 := ⟨_, rfl⟩
  have hki : (k : Int) + 1 = (k1 : Int) := by omega
  rw [hk1] at hd ⊢
  have hdd : ((k1 : Int) == U.th) = true := by simpa using hd
  clear hd
  have c9 : w.cell? ⟨p, 9, none⟩ = some (.int .i64 2) := A.cell 9
  have hl := lt_of_block A.blk
  have keep : ∀ w', Below w.heap.size w w' → w'.cell? ⟨p, 0, none⟩ = some (.int .i64 U.th) ∧ w'.cell? ⟨p, 1, none⟩ = some (.int .i64 U.bl) ∧ w'.cell? ⟨p, 2, none⟩ = some (.int .i64 U.ta) ∧ w'.cell? ⟨p, 3, none⟩ = some (.int .i64 U.he) ∧ w'.cell? ⟨p, 4, none⟩ = some (.int .i64 U.si) ∧ w'.cell? ⟨p, 5, none⟩ = some (.int .i64 q.no) ∧ w'.cell? ⟨p, 10, none⟩ = some (.int .i64 k) := fun w' hb => ⟨(A.below hb).cell 0, (A.below hb).cell 1, (A.below hb).cell 2, (A.below hb).cell 3, (A.below hb).cell 4, (A.below hb).cell 5, (A.below hb).cell 10⟩
  have hbd : Below w.heap.size w w.drew := (Below.refl w.heap.size w).drew
  have RD := keep _ hbd
  go_enter Tryd.func14, Tryd.ntmps14
  go_wp2_with (fail)
  go_region_held3 (fun w' => w'.cell? ⟨p, 0, none⟩ = some (.int .i64 U.th) ∧ w'.cell? ⟨p, 1, none⟩ = some (.int .i64 U.bl) ∧ w'.cell? ⟨p, 2, none⟩ = some (.int .i64 U.ta) ∧ w'.cell? ⟨p, 3, none⟩ = some (.int .i64 U.he) ∧ w'.cell? ⟨p, 4, none⟩ = some (.int .i64 U.si) ∧ w'.cell? ⟨p, 5, none⟩ = some (.int .i64 q.no) ∧ w'.cell? ⟨p, 10, none⟩ = some (.int .i64 k)) (first | assumption | exact RD | exact keep _ (by assumption))
    (first
      | (go_at_call 45; refine (P.rAck _ _ _ _ _ k (by omega) (by omega) _).mono ?_; rintro e w1 ⟨rfl, hw1⟩; rw [had]; have hb1 : Below w.heap.size w w1 := (by rw [hw1]; exact bel_trans hbd ((Below.refl _ _).alloc (Nat.le_refl _) _)); clear hw1)
      | (go_at_call 44; refine (rLoad (A.below hb1).mem f hc ad).mono ?_; rintro e w2 ⟨rfl, L2, hm2, st2⟩; rw [hgv]; have A2 := (A.below hb1).step hm2 st2; have S2 : w2.cell? ⟨p, 0, none⟩ = some (.int .i64 U.th) ∧ w2.cell? ⟨p, 1, none⟩ = some (.int .i64 U.bl) ∧ w2.cell? ⟨p, 2, none⟩ = some (.int .i64 U.ta) ∧ w2.cell? ⟨p, 3, none⟩ = some (.int .i64 U.he) ∧ w2.cell? ⟨p, 4, none⟩ = some (.int .i64 U.si) ∧ w2.cell? ⟨p, 5, none⟩ = some (.int .i64 q.no) ∧ w2.cell? ⟨p, 10, none⟩ = some (.int .i64 k) := ⟨A2.cell 0, A2.cell 1, A2.cell 2, A2.cell 3, A2.cell 4, A2.cell 5, A2.cell 10⟩; have g2 := (Went.of_below hb1 L p).trans (Went.of_step st2 p)))
  clear keep RD
  have x0 : w2.cell? ⟨p, 0, none⟩ = some (.int .i64 U.th) := A2.cell 0
  have xf0 := A2.free 0
  have x5 : w2.cell? ⟨p, 5, none⟩ = some (.int .i64 q.no) := A2.cell 5
  have xf5 := A2.free 5
  have x9 : w2.cell? ⟨p, 9, none⟩ = some (.int .i64 2) := A2.cell 9
  have xf9 := A2.free 9
  have x10 : w2.cell? ⟨p, 10, none⟩ = some (.int .i64 k) := A2.cell 10
  have xf10 := A2.free 10
  go_wp2_with (fail)
  have A3 : At 80 (w2.setCell ⟨p, 10, none⟩ (.int .i64 k1)) L2 (s.load ad) p 104 (askCells U q 2 k1) := A2.set 10 (.int .i64 k1)
  have g3 : Went w L p (w2.setCell ⟨p, 10, none⟩ (.int .i64 k1)) L2 := g2.more
  clear x0 xf0 x5 xf5 x9 xf9 x10 xf10 S2
  generalize w2.setCell ⟨p, 10, none⟩ (.int .i64 k1) = w3 at A3 g3 ⊢
  have y0 : w3.cell? ⟨p, 0, none⟩ = some (.int .i64 U.th) := A3.cell 0
  have yf0 := A3.free 0
  have y9 : w3.cell? ⟨p, 9, none⟩ = some (.int .i64 2) := A3.cell 9
  have yf9 := A3.free 9
  have y10 : w3.cell? ⟨p, 10, none⟩ = some (.int .i64 k1) := A3.cell 10
  have yf10 := A3.free 10
  go_quiet (fail)
  go_wp2
  go_ret
  exact ⟨rfl, L2, (A3.below (S.bdr (Below.refl w3.heap.size w3) _)).set 9 (.int .i64 0), (g3.trans (Went.of_below (S.bdr (Below.refl w3.heap.size w3) _) _ _)).more⟩
/-- a step of an Ask -/
theorem cAsk {x : AskS} (A : At 142 w L s p 102 (x.cells U)) (ok : x.Ok) (hP : U.th = x.N) (f : s.Fit) (hc : s.c < 1000000) :
    Calls Tryd.prog 13 #[.pointer (some ⟨p, 0, none⟩), .pointer (some ⟨L.b, 0, none⟩)] w fun e w' => e = .returned (.bool ((x.next s).pc == 0)) ∧
      ∃ L', At 142 w' L' (x.mem s) p 102 ((x.next s).cells U) ∧ Went w L p w' L' := by
  obtain ⟨q, N, pc, k⟩ := x
  obtain ⟨h1, h2, h3, h4⟩ := ok
  simp only at h1 h2 h3 h4 hP
  rcases (show pc = 0 ∨ pc = 1 ∨ pc = 2 by omega) with rfl | rfl | rfl
  · exact as0 A f hc
  · skip
    exact as1 A f hc (by omega)
  · have hk := h2 rfl
    have hk64 : k < 64 := by omega
    by_cases hv : s.got (10 + (k : Int)) = IntKind.u64.wrap q.no
    · by_cases he : k + 1 = N
      · have hx : (AskS.mk q N 2 k).next s = ⟨q, N, 0, k + 1⟩ := by simp only [AskS.next, if_pos hv, if_pos he]
        rw [hx]
        exact as2e A f hc hk64 hv (by simp; omega)
      · have hx : (AskS.mk q N 2 k).next s = ⟨q, N, 2, k + 1⟩ := by simp only [AskS.next, if_pos hv, if_neg he]
        rw [hx]
        exact as2m A f hc hk64 hv (by simp; omega)
    · have hx : (AskS.mk q N 2 k).next s = ⟨q, N, 2, k⟩ := by simp only [AskS.next, if_neg hv]
      rw [hx]
      exact as2n A f hc hk64 hv
/-- a step of an Ask -/
theorem rAsk {x : AskS} (A : At 80 w L s p 104 (x.cells U)) (ok : x.Ok) (hP : U.th = x.N) (hk1 : x.pc = 1 → x.k = 0) (f : s.Fit) (hc : s.c < 1000000) :
    Calls Tryd.prog 14 #[.pointer (some ⟨p, 0, none⟩), .pointer (some ⟨L.b, 0, none⟩)] w fun e w' => e = .returned (.bool ((x.next s).pc == 0)) ∧
      ∃ L', At 80 w' L' (x.mem s) p 104 ((x.next s).cells U) ∧ Went w L p w' L' := by
  obtain ⟨q, N, pc, k⟩ := x
  obtain ⟨h1, h2, h3, h4⟩ := ok
  simp only at h1 h2 h3 h4 hP hk1
  rcases (show pc = 0 ∨ pc = 1 ∨ pc = 2 by omega) with rfl | rfl | rfl
  · exact as0r A f hc
  · obtain rfl := hk1 rfl
    exact as1r A f hc
  · have hk := h2 rfl
    have hk64 : k < 64 := by omega
    by_cases hv : s.got (10 + (k : Int)) = IntKind.u64.wrap q.no
    · by_cases he : k + 1 = N
      · have hx : (AskS.mk q N 2 k).next s = ⟨q, N, 0, k + 1⟩ := by simp only [AskS.next, if_pos hv, if_pos he]
        rw [hx]
        exact as2er A f hc hk64 hv (by show ((k + 1 : Nat) : Int) = U.th; omega)
      · have hx : (AskS.mk q N 2 k).next s = ⟨q, N, 2, k + 1⟩ := by simp only [AskS.next, if_pos hv, if_neg he]
        rw [hx]
        exact as2mr A f hc hk64 hv (by show ((k + 1 : Nat) : Int) ≠ U.th; omega)
    · have hx : (AskS.mk q N 2 k).next s = ⟨q, N, 2, k⟩ := by simp only [AskS.next, if_neg hv]
      rw [hx]
      exact as2nr A f hc hk64 hv (by show (k : Int) ≠ U.th; omega)
set_option maxHeartbeats 1000000 in
theorem cNewAsk (U : Pl5) (q : Ph) (w : World) :
    Calls Tryd.prog 10 #[.agg #[.int .i64 U.th, .int .i64 U.bl, .int .i64 U.ta, .int .i64 U.he, .int .i64 U.si], .agg #[.int .i64 q.no, .int .i64 q.md, .int .i64 q.mr, .int .i64 q.ls]] w fun e w' => ∃ z, e = .returned (.pointer (some ⟨z, 0, none⟩)) ∧ w.heap.size ≤ z ∧ w'.heap[z]? = some (.cells (askCells U q 1 0) 102 (0, 0)) ∧ Below w.heap.size w w' := by
  have ka : (((w.alloc (.cells #[.int .i64 U.th, .int .i64 U.bl, .int .i64 U.ta, .int .i64 U.he, .int .i64 U.si] 32)).alloc (.cells #[.int .i64 q.no, .int .i64 q.md, .int .i64 q.mr, .int .i64 q.ls] 37)).alloc (.cells (askCells U q 1 0) 102)).heap[w.heap.size + 1 + 1]? = some (.cells (askCells U q 1 0) 102 (0, 0)) := by have h := heap_alloc_new ((w.alloc (.cells #[.int .i64 U.th, .int .i64 U.bl, .int .i64 U.ta, .int .i64 U.he, .int .i64 U.si] 32)).alloc (.cells #[.int .i64 q.no, .int .i64 q.md, .int .i64 q.mr, .int .i64 q.ls] 37)) (.cells (askCells U q 1 0) 102); simpa using h
  go_enter Tryd.func10, Tryd.ntmps10
  go_wp2
  go_ret
  exact ⟨_, rfl, by omega, ka, by go_grown⟩
set_option maxHeartbeats 1000000 in
theorem rNewAsk (U : Pl5) (q : Ph) (w : World) :
    Calls Tryd.prog 11 #[.agg #[.int .i64 U.th, .int .i64 U.bl, .int .i64 U.ta, .int .i64 U.he, .int .i64 U.si], .agg #[.int .i64 q.no, .int .i64 q.md, .int .i64 q.mr, .int .i64 q.ls]] w fun e w' => ∃ z, e = .returned (.pointer (some ⟨z, 0, none⟩)) ∧ w.heap.size ≤ z ∧ w'.heap[z]? = some (.cells (askCells U q 1 0) 104 (0, 0)) ∧ Below w.heap.size w w' := by
  have ka : (((w.alloc (.cells #[.int .i64 U.th, .int .i64 U.bl, .int .i64 U.ta, .int .i64 U.he, .int .i64 U.si] 32)).alloc (.cells #[.int .i64 q.no, .int .i64 q.md, .int .i64 q.mr, .int .i64 q.ls] 37)).alloc (.cells (askCells U q 1 0) 104)).heap[w.heap.size + 1 + 1]? = some (.cells (askCells U q 1 0) 104 (0, 0)) := by have h := heap_alloc_new ((w.alloc (.cells #[.int .i64 U.th, .int .i64 U.bl, .int .i64 U.ta, .int .i64 U.he, .int .i64 U.si] 32)).alloc (.cells #[.int .i64 q.no, .int .i64 q.md, .int .i64 q.mr, .int .i64 q.ls] 37)) (.cells (askCells U q 1 0) 104); simpa using h
  go_enter Tryd.func11, Tryd.ntmps11
  go_wp2
  go_ret
  exact ⟨_, rfl, by omega, ka, by go_grown⟩
end
end Go.Proofs.YtoablodmodnamaaDoor
