/-
  The reference's Alloc over one memory.
-/
import Derived.Test.YtoablodmodnamaaDoorBrq
import Derived.Deep.RegionHeld3
namespace Go.Proofs.YtoablodmodnamaaDoor
set_option linter.unusedVariables false
set_option linter.unusedSimpArgs false
set_option maxRecDepth 100000
open Go.ChangeShapes Go.WideShapes Go.RowKit
open S.Plain (t0 t1 tw nx bw b0 b1 b2 b3)
open H.Plain (hw pS pC pN pM pG pT pL)

def AllS.kk (x : AllS) : Int := if x.pc = 1 then 0 else x.fld + 1
def AllS.rcells (x : AllS) (qa : Pl) (rp : Nat) : Array Value := #[.int .i64 qa.t, .int .i64 qa.b, .int .i64 qa.tb, .int .i64 qa.hp, .int .i64 qa.sz, .int .i64 x.cnt, .int .i64 x.mark, .int .i64 x.pc, .int .i64 x.kk, .pointer (some ⟨rp, 0, none⟩), .int .i64 x.cell]
structure RAl (w0 w : World) (ap rp xp : Nat) (yv : Value) (Y : List Nat) (x : AllS) : Prop where
  blk : ∃ qa, Blk w0 w ap 124 (x.rcells qa rp)
  res : RRs w0 w rp xp yv Y x.res
  r1 : x.pc = 1 → 1 ≤ x.res.pc ∧ x.fld = 0
  cls : x.cls = P.Plain.cl x.cnt
  n0 : 0 ≤ x.cnt
  a0 : 1 ≤ x.pc → x.cell = 0
section
variable {w0 w w' : World} {ap rp xp : Nat} {yv : Value} {Y : List Nat} {x : AllS} {F : List Nat}
theorem RAl.oth (h : RAl w0 w ap rp xp yv Y x) (ho : Oth F w w') (d : ∀ k ∈ ap :: rp :: xp :: Y, k ∉ F) : RAl w0 w' ap rp xp yv Y x := by
  obtain ⟨qa, B⟩ := h.blk
  exact ⟨⟨qa, B.oth ho (d ap (by simp))⟩, h.res.oth ho (fun k hk => d k (List.mem_cons_of_mem _ hk)), h.r1, h.cls, h.n0, h.a0⟩
theorem RAl.kind (h : RAl w0 w ap rp xp yv Y x) : ∀ k ∈ ap :: rp :: xp :: Y, ∃ cs T, Blk w0 w k T cs ∧ T ∈ [124, 164, 176, 180, 187] := by
  intro k hk
  rcases List.mem_cons.1 hk with rfl | hk
  · obtain ⟨qa, B⟩ := h.blk
    exact ⟨_, _, B, by simp⟩
  · obtain ⟨cs, T, h1, h2⟩ := h.res.kind k hk
    exact ⟨cs, T, h1, List.mem_cons_of_mem _ h2⟩
end
theorem rcell {w : World} {p i : Nat} {a v : Int} (hv : a = v) (h : w.cell? ⟨p, i, none⟩ = some (.int .i64 a)) : w.cell? ⟨p, i, none⟩ = some (.int .i64 v) := hv ▸ h
section
variable {w0 w w' : World} {b y ap rp xp : Nat} {yv : Value} {Y : List Nat} {s1 s2 : St} {N : Nat}
def APost (w0 w : World) (y : Nat) (s2 : St) (N ap rp xp : Nat) (Y : List Nat) (x : AllS) (e : Ending) (w' : World) : Prop :=
  e = .returned (.bool ((x.next s2).pc == 0)) ∧ Y1 w0 w' y (x.mem s2) (N + 1) ∧ ∃ xp' yv' Y', RAl w0 w' ap rp xp' yv' Y' (x.next s2) ∧ Oth (ap :: rp :: xp :: Y) w w' ∧ ∀ k ∈ xp' :: Y', k ∈ xp :: Y ∨ w.heap.size ≤ k
set_option maxHeartbeats 2000000 in
theorem yAll1A {x : AllS} (h : Y1 w0 w y s2 N) (R : RAl w0 w ap rp xp yv Y x) (ok : x.Ok) (hp : x.pc = 1) (hn : (x.res.next s2).pc ≠ 0) (hN : N < 1000000) :
    Calls Tryd.prog 59 #[.pointer (some ⟨ap, 0, none⟩), .pointer (some ⟨y, 0, none⟩)] w (APost w0 w y s2 N ap rp xp Y x) := by
  obtain ⟨r, k, n, m, pc, fl, cl⟩ := x
  obtain rfl : pc = 1 := hp
  obtain ⟨qa, B⟩ := R.blk
  have Rr := R.res
  have hcl := R.cls
  have n0 := R.n0
  have a0 := R.a0 (by simp)
  simp only at Rr hcl n0 a0
  subst a0
  have hF : ap ∉ rp :: xp :: Y := fun hk => by
    obtain ⟨cs, T, B', hT⟩ := Rr.kind ap hk
    have := B.at_
    rw [B'.at_] at this
    simp at this
    rw [this.2] at hT
    revert hT
    decide
  have har : ap ≠ rp := fun e => hF (by simp [e])
  obtain ⟨r1, rfl⟩ := R.r1 rfl
  simp only at r1
  simp only [AllS.rcells, AllS.kk, if_true] at B
  have c7 : w.cell? ⟨ap, 7, none⟩ = some (.int .i64 1) := B.cell 7
  have c9 : w.cell? ⟨ap, 9, none⟩ = some (.pointer (some ⟨rp, 0, none⟩)) := B.cell 9
  obtain ⟨rn, hrn⟩ : ∃ rn, r.next s2 = rn := ⟨_, rfl⟩
  simp only [hrn] at hn
  have Y0 := yRes h Rr ok.res r1 hN
  unfold RPost at Y0
  rw [hrn] at Y0
  have hb : (rn.pc == 0) = false := by simpa using hn
  have en : AllS.next ⟨r, k, n, m, 1, 0, 0⟩ s2 = ⟨rn, k, n, m, 1, 0, 0⟩ := by simp only [AllS.next, hrn, if_neg hn]
  unfold APost
  rw [en]
  go_enter Tryd.func59, Tryd.ntmps59
  go_wp2_with (go_at_call 95; refine Y0.mono ?_; rintro e' w1 ⟨rfl, T1, xp1, yv1, Y1, R1, o1, k1⟩; rw [hb]; have B1 := B.oth o1 hF; have d7 : w1.cell? ⟨ap, 7, none⟩ = some (.int .i64 1) := B1.cell 7)
  go_ret
  exact ⟨rfl, T1, xp1, yv1, Y1, ⟨⟨qa, B1⟩, R1, fun _ => ⟨by simp only; omega, rfl⟩, hcl, n0, fun _ => rfl⟩, Oth.mono o1 (fun k hk => List.mem_cons_of_mem _ hk), k1⟩
set_option maxHeartbeats 2000000 in
theorem yAll1B {x : AllS} (h : Y1 w0 w y s2 N) (R : RAl w0 w ap rp xp yv Y x) (ok : x.Ok) (hp : x.pc = 1) (hn : (x.res.next s2).pc = 0) (hz : (x.res.next s2).cell = 0) (hn0 : x.cnt ≠ 0) (hN : N < 1000000) :
    Calls Tryd.prog 59 #[.pointer (some ⟨ap, 0, none⟩), .pointer (some ⟨y, 0, none⟩)] w (APost w0 w y s2 N ap rp xp Y x) := by
  obtain ⟨r, k, n, m, pc, fl, cl⟩ := x
  obtain rfl : pc = 1 := hp
  obtain ⟨qa, B⟩ := R.blk
  have Rr := R.res
  have hcl := R.cls
  have n0 := R.n0
  have a0 := R.a0 (by simp)
  simp only at Rr hcl n0 a0
  subst a0
  have hF : ap ∉ rp :: xp :: Y := fun hk => by
    obtain ⟨cs, T, B', hT⟩ := Rr.kind ap hk
    have := B.at_
    rw [B'.at_] at this
    simp at this
    rw [this.2] at hT
    revert hT
    decide
  have har : ap ≠ rp := fun e => hF (by simp [e])
  obtain ⟨r1, rfl⟩ := R.r1 rfl
  simp only at r1
  simp only [AllS.rcells, AllS.kk, if_true] at B
  have c7 : w.cell? ⟨ap, 7, none⟩ = some (.int .i64 1) := B.cell 7
  have c9 : w.cell? ⟨ap, 9, none⟩ = some (.pointer (some ⟨rp, 0, none⟩)) := B.cell 9
  obtain ⟨rn, hrn⟩ : ∃ rn, r.next s2 = rn := ⟨_, rfl⟩
  simp only [hrn] at hn
  have Y0 := yRes h Rr ok.res r1 hN
  unfold RPost at Y0
  rw [hrn] at Y0
  simp only [hrn] at hz
  simp only at hn0
  have hb : (rn.pc == 0) = true := by simpa using hn
  have hnb : (n == 0) = false := by simpa using hn0
  have en : AllS.next ⟨r, k, n, m, 1, 0, 0⟩ s2 = ⟨rn, k, n, m, 0, 0, 0⟩ := by
    simp only [AllS.next, hrn, if_pos hn, if_pos hz]
    skip
  unfold APost
  rw [en]
  obtain ⟨v, hv⟩ : ∃ v, rn.cell = v := ⟨_, rfl⟩
  rw [hv] at hz
  subst hz
  go_enter Tryd.func59, Tryd.ntmps59
  go_wp2_with (go_at_call 95; refine Y0.mono ?_; rintro e' w1 ⟨rfl, T1, xp1, yv1, Y1, R1, o1, k1⟩; rw [hb]; have B1 := B.oth o1 hF; have d7 : w1.cell? ⟨ap, 7, none⟩ = some (.int .i64 1) := B1.cell 7; have d8 : w1.cell? ⟨ap, 8, none⟩ = some (.int .i64 0) := B1.cell 8; have df7 := B1.free 7; have df8 := B1.free 8; have e17 : (w1.setCell ⟨ap, 7, none⟩ (.int .i64 2)).cell? ⟨ap, 7, none⟩ = some (.int .i64 2) := (B1.set 7 (.int .i64 2)).cell 7; have f17 := (B1.set 7 (.int .i64 2)).free 7; have e15 : (w1.setCell ⟨ap, 7, none⟩ (.int .i64 2)).cell? ⟨ap, 5, none⟩ = some (.int .i64 n) := (B1.set 7 (.int .i64 2)).cell 5; have e19 : (w1.setCell ⟨ap, 7, none⟩ (.int .i64 2)).cell? ⟨ap, 9, none⟩ = some (.pointer (some ⟨rp, 0, none⟩)) := (B1.set 7 (.int .i64 2)).cell 9; have e1r : (w1.setCell ⟨ap, 7, none⟩ (.int .i64 2)).cell? ⟨rp, 10, none⟩ = some (.int .i64 0) := rcell hv ((R1.blk.oth (F := [ap]) (Oth.set _ _ _ _ (by simp)) (by simpa using Ne.symm har)).cell 10); have e27 : ((w1.setCell ⟨ap, 7, none⟩ (.int .i64 2)).setCell ⟨ap, 8, none⟩ (.int .i64 1)).cell? ⟨ap, 7, none⟩ = some (.int .i64 2) := ((B1.set 7 (.int .i64 2)).set 8 (.int .i64 1)).cell 7; have f27 := ((B1.set 7 (.int .i64 2)).set 8 (.int .i64 1)).free 7; have e25 : ((w1.setCell ⟨ap, 7, none⟩ (.int .i64 2)).setCell ⟨ap, 8, none⟩ (.int .i64 1)).cell? ⟨ap, 5, none⟩ = some (.int .i64 n) := ((B1.set 7 (.int .i64 2)).set 8 (.int .i64 1)).cell 5; have e29 : ((w1.setCell ⟨ap, 7, none⟩ (.int .i64 2)).setCell ⟨ap, 8, none⟩ (.int .i64 1)).cell? ⟨ap, 9, none⟩ = some (.pointer (some ⟨rp, 0, none⟩)) := ((B1.set 7 (.int .i64 2)).set 8 (.int .i64 1)).cell 9; have e2r : ((w1.setCell ⟨ap, 7, none⟩ (.int .i64 2)).setCell ⟨ap, 8, none⟩ (.int .i64 1)).cell? ⟨rp, 10, none⟩ = some (.int .i64 0) := rcell hv ((R1.blk.oth (F := [ap]) (((Oth.set _ _ _ _ (by simp)).trans (Oth.set _ _ _ _ (by simp)))) (by simpa using Ne.symm har)).cell 10); have e37 : (((w1.setCell ⟨ap, 7, none⟩ (.int .i64 2)).setCell ⟨ap, 8, none⟩ (.int .i64 1)).setCell ⟨ap, 7, none⟩ (.int .i64 0)).cell? ⟨ap, 7, none⟩ = some (.int .i64 0) := (((B1.set 7 (.int .i64 2)).set 8 (.int .i64 1)).set 7 (.int .i64 0)).cell 7; have f37 := (((B1.set 7 (.int .i64 2)).set 8 (.int .i64 1)).set 7 (.int .i64 0)).free 7; have e35 : (((w1.setCell ⟨ap, 7, none⟩ (.int .i64 2)).setCell ⟨ap, 8, none⟩ (.int .i64 1)).setCell ⟨ap, 7, none⟩ (.int .i64 0)).cell? ⟨ap, 5, none⟩ = some (.int .i64 n) := (((B1.set 7 (.int .i64 2)).set 8 (.int .i64 1)).set 7 (.int .i64 0)).cell 5; have e39 : (((w1.setCell ⟨ap, 7, none⟩ (.int .i64 2)).setCell ⟨ap, 8, none⟩ (.int .i64 1)).setCell ⟨ap, 7, none⟩ (.int .i64 0)).cell? ⟨ap, 9, none⟩ = some (.pointer (some ⟨rp, 0, none⟩)) := (((B1.set 7 (.int .i64 2)).set 8 (.int .i64 1)).set 7 (.int .i64 0)).cell 9; have e3r : (((w1.setCell ⟨ap, 7, none⟩ (.int .i64 2)).setCell ⟨ap, 8, none⟩ (.int .i64 1)).setCell ⟨ap, 7, none⟩ (.int .i64 0)).cell? ⟨rp, 10, none⟩ = some (.int .i64 0) := rcell hv ((R1.blk.oth (F := [ap]) (((((Oth.set _ _ _ _ (by simp)).trans (Oth.set _ _ _ _ (by simp)))).trans (Oth.set _ _ _ _ (by simp)))) (by simpa using Ne.symm har)).cell 10))
  have oz : Oth (ap :: rp :: xp :: Y) w w1 := Oth.mono o1 (fun k hk => List.mem_cons_of_mem _ hk)
  have oF : Oth [ap] w1 (((w1.setCell ⟨ap, 7, none⟩ (.int .i64 2)).setCell ⟨ap, 8, none⟩ (.int .i64 1)).setCell ⟨ap, 7, none⟩ (.int .i64 0)) := (((Oth.set _ _ _ _ (by simp)).trans (Oth.set _ _ _ _ (by simp))).trans (Oth.set _ _ _ _ (by simp)))
  have RF := R1.oth oF (fun j hj e => by simp at e; subst e; obtain ⟨cs, T, B', hT⟩ := R1.kind j hj; have := B1.at_; rw [B'.at_] at this; simp at this; rw [this.2] at hT; revert hT; decide)
  go_ret
  exact ⟨rfl, (((T1.set B1 7 (.int .i64 2)).set (B1.set 7 (.int .i64 2)) 8 (.int .i64 1)).set ((B1.set 7 (.int .i64 2)).set 8 (.int .i64 1)) 7 (.int .i64 0)), xp1, yv1, Y1, ⟨⟨qa, (((B1.set 7 (.int .i64 2)).set 8 (.int .i64 1)).set 7 (.int .i64 0))⟩, RF, fun h => by simp at h, hcl, n0, fun h => rfl⟩, oz.trans (oF.mono (by simp)), k1⟩
set_option maxHeartbeats 2000000 in
theorem yAll1C {x : AllS} (h : Y1 w0 w y s2 N) (R : RAl w0 w ap rp xp yv Y x) (ok : x.Ok) (hp : x.pc = 1) (hn : (x.res.next s2).pc = 0) (hz : (x.res.next s2).cell ≠ 0) (hn0 : x.cnt = 0) (hN : N < 1000000) :
    Calls Tryd.prog 59 #[.pointer (some ⟨ap, 0, none⟩), .pointer (some ⟨y, 0, none⟩)] w (APost w0 w y s2 N ap rp xp Y x) := by
  obtain ⟨r, k, n, m, pc, fl, cl⟩ := x
  obtain rfl : pc = 1 := hp
  obtain ⟨qa, B⟩ := R.blk
  have Rr := R.res
  have hcl := R.cls
  have n0 := R.n0
  have a0 := R.a0 (by simp)
  simp only at Rr hcl n0 a0
  subst a0
  have hF : ap ∉ rp :: xp :: Y := fun hk => by
    obtain ⟨cs, T, B', hT⟩ := Rr.kind ap hk
    have := B.at_
    rw [B'.at_] at this
    simp at this
    rw [this.2] at hT
    revert hT
    decide
  have har : ap ≠ rp := fun e => hF (by simp [e])
  obtain ⟨r1, rfl⟩ := R.r1 rfl
  simp only at r1
  simp only [AllS.rcells, AllS.kk, if_true] at B
  have c7 : w.cell? ⟨ap, 7, none⟩ = some (.int .i64 1) := B.cell 7
  have c9 : w.cell? ⟨ap, 9, none⟩ = some (.pointer (some ⟨rp, 0, none⟩)) := B.cell 9
  obtain ⟨rn, hrn⟩ : ∃ rn, r.next s2 = rn := ⟨_, rfl⟩
  simp only [hrn] at hn
  have Y0 := yRes h Rr ok.res r1 hN
  unfold RPost at Y0
  rw [hrn] at Y0
  simp only [hrn] at hz
  simp only at hn0
  have hb : (rn.pc == 0) = true := by simpa using hn
  subst hn0
  have en : AllS.next ⟨r, k, 0, m, 1, 0, 0⟩ s2 = ⟨rn, k, 0, m, 3, 0, 0⟩ := by
    simp only [AllS.next, hrn, if_pos hn, if_neg hz]
    rfl
  unfold APost
  rw [en]
  obtain ⟨v, hv⟩ : ∃ v, rn.cell = v := ⟨_, rfl⟩
  rw [hv] at hz
  have hzb : (v == 0) = false := by simpa using hz
  go_enter Tryd.func59, Tryd.ntmps59
  go_wp2_with (go_at_call 95; refine Y0.mono ?_; rintro e' w1 ⟨rfl, T1, xp1, yv1, Y1, R1, o1, k1⟩; rw [hb]; have B1 := B.oth o1 hF; have d7 : w1.cell? ⟨ap, 7, none⟩ = some (.int .i64 1) := B1.cell 7; have d8 : w1.cell? ⟨ap, 8, none⟩ = some (.int .i64 0) := B1.cell 8; have df7 := B1.free 7; have df8 := B1.free 8; have e17 : (w1.setCell ⟨ap, 7, none⟩ (.int .i64 2)).cell? ⟨ap, 7, none⟩ = some (.int .i64 2) := (B1.set 7 (.int .i64 2)).cell 7; have f17 := (B1.set 7 (.int .i64 2)).free 7; have e15 : (w1.setCell ⟨ap, 7, none⟩ (.int .i64 2)).cell? ⟨ap, 5, none⟩ = some (.int .i64 0) := (B1.set 7 (.int .i64 2)).cell 5; have e19 : (w1.setCell ⟨ap, 7, none⟩ (.int .i64 2)).cell? ⟨ap, 9, none⟩ = some (.pointer (some ⟨rp, 0, none⟩)) := (B1.set 7 (.int .i64 2)).cell 9; have e1r : (w1.setCell ⟨ap, 7, none⟩ (.int .i64 2)).cell? ⟨rp, 10, none⟩ = some (.int .i64 v) := rcell hv ((R1.blk.oth (F := [ap]) (Oth.set _ _ _ _ (by simp)) (by simpa using Ne.symm har)).cell 10); have e27 : ((w1.setCell ⟨ap, 7, none⟩ (.int .i64 2)).setCell ⟨ap, 8, none⟩ (.int .i64 1)).cell? ⟨ap, 7, none⟩ = some (.int .i64 2) := ((B1.set 7 (.int .i64 2)).set 8 (.int .i64 1)).cell 7; have f27 := ((B1.set 7 (.int .i64 2)).set 8 (.int .i64 1)).free 7; have e25 : ((w1.setCell ⟨ap, 7, none⟩ (.int .i64 2)).setCell ⟨ap, 8, none⟩ (.int .i64 1)).cell? ⟨ap, 5, none⟩ = some (.int .i64 0) := ((B1.set 7 (.int .i64 2)).set 8 (.int .i64 1)).cell 5; have e29 : ((w1.setCell ⟨ap, 7, none⟩ (.int .i64 2)).setCell ⟨ap, 8, none⟩ (.int .i64 1)).cell? ⟨ap, 9, none⟩ = some (.pointer (some ⟨rp, 0, none⟩)) := ((B1.set 7 (.int .i64 2)).set 8 (.int .i64 1)).cell 9; have e2r : ((w1.setCell ⟨ap, 7, none⟩ (.int .i64 2)).setCell ⟨ap, 8, none⟩ (.int .i64 1)).cell? ⟨rp, 10, none⟩ = some (.int .i64 v) := rcell hv ((R1.blk.oth (F := [ap]) (((Oth.set _ _ _ _ (by simp)).trans (Oth.set _ _ _ _ (by simp)))) (by simpa using Ne.symm har)).cell 10); have e37 : (((w1.setCell ⟨ap, 7, none⟩ (.int .i64 2)).setCell ⟨ap, 8, none⟩ (.int .i64 1)).setCell ⟨ap, 7, none⟩ (.int .i64 3)).cell? ⟨ap, 7, none⟩ = some (.int .i64 3) := (((B1.set 7 (.int .i64 2)).set 8 (.int .i64 1)).set 7 (.int .i64 3)).cell 7; have f37 := (((B1.set 7 (.int .i64 2)).set 8 (.int .i64 1)).set 7 (.int .i64 3)).free 7; have e35 : (((w1.setCell ⟨ap, 7, none⟩ (.int .i64 2)).setCell ⟨ap, 8, none⟩ (.int .i64 1)).setCell ⟨ap, 7, none⟩ (.int .i64 3)).cell? ⟨ap, 5, none⟩ = some (.int .i64 0) := (((B1.set 7 (.int .i64 2)).set 8 (.int .i64 1)).set 7 (.int .i64 3)).cell 5; have e39 : (((w1.setCell ⟨ap, 7, none⟩ (.int .i64 2)).setCell ⟨ap, 8, none⟩ (.int .i64 1)).setCell ⟨ap, 7, none⟩ (.int .i64 3)).cell? ⟨ap, 9, none⟩ = some (.pointer (some ⟨rp, 0, none⟩)) := (((B1.set 7 (.int .i64 2)).set 8 (.int .i64 1)).set 7 (.int .i64 3)).cell 9; have e3r : (((w1.setCell ⟨ap, 7, none⟩ (.int .i64 2)).setCell ⟨ap, 8, none⟩ (.int .i64 1)).setCell ⟨ap, 7, none⟩ (.int .i64 3)).cell? ⟨rp, 10, none⟩ = some (.int .i64 v) := rcell hv ((R1.blk.oth (F := [ap]) (((((Oth.set _ _ _ _ (by simp)).trans (Oth.set _ _ _ _ (by simp)))).trans (Oth.set _ _ _ _ (by simp)))) (by simpa using Ne.symm har)).cell 10))
  have oz : Oth (ap :: rp :: xp :: Y) w w1 := Oth.mono o1 (fun k hk => List.mem_cons_of_mem _ hk)
  have oF : Oth [ap] w1 (((w1.setCell ⟨ap, 7, none⟩ (.int .i64 2)).setCell ⟨ap, 8, none⟩ (.int .i64 1)).setCell ⟨ap, 7, none⟩ (.int .i64 3)) := (((Oth.set _ _ _ _ (by simp)).trans (Oth.set _ _ _ _ (by simp))).trans (Oth.set _ _ _ _ (by simp)))
  have RF := R1.oth oF (fun j hj e => by simp at e; subst e; obtain ⟨cs, T, B', hT⟩ := R1.kind j hj; have := B1.at_; rw [B'.at_] at this; simp at this; rw [this.2] at hT; revert hT; decide)
  go_ret
  exact ⟨rfl, (((T1.set B1 7 (.int .i64 2)).set (B1.set 7 (.int .i64 2)) 8 (.int .i64 1)).set ((B1.set 7 (.int .i64 2)).set 8 (.int .i64 1)) 7 (.int .i64 3)), xp1, yv1, Y1, ⟨⟨qa, (((B1.set 7 (.int .i64 2)).set 8 (.int .i64 1)).set 7 (.int .i64 3))⟩, RF, fun h => by simp at h, hcl, n0, fun h => rfl⟩, oz.trans (oF.mono (by simp)), k1⟩
set_option maxHeartbeats 2000000 in
theorem yAll1D {x : AllS} (h : Y1 w0 w y s2 N) (R : RAl w0 w ap rp xp yv Y x) (ok : x.Ok) (hp : x.pc = 1) (hn : (x.res.next s2).pc = 0) (hz : (x.res.next s2).cell ≠ 0) (hn0 : x.cnt ≠ 0) (hN : N < 1000000) :
    Calls Tryd.prog 59 #[.pointer (some ⟨ap, 0, none⟩), .pointer (some ⟨y, 0, none⟩)] w (APost w0 w y s2 N ap rp xp Y x) := by
  obtain ⟨r, k, n, m, pc, fl, cl⟩ := x
  obtain rfl : pc = 1 := hp
  obtain ⟨qa, B⟩ := R.blk
  have Rr := R.res
  have hcl := R.cls
  have n0 := R.n0
  have a0 := R.a0 (by simp)
  simp only at Rr hcl n0 a0
  subst a0
  have hF : ap ∉ rp :: xp :: Y := fun hk => by
    obtain ⟨cs, T, B', hT⟩ := Rr.kind ap hk
    have := B.at_
    rw [B'.at_] at this
    simp at this
    rw [this.2] at hT
    revert hT
    decide
  have har : ap ≠ rp := fun e => hF (by simp [e])
  obtain ⟨r1, rfl⟩ := R.r1 rfl
  simp only at r1
  simp only [AllS.rcells, AllS.kk, if_true] at B
  have c7 : w.cell? ⟨ap, 7, none⟩ = some (.int .i64 1) := B.cell 7
  have c9 : w.cell? ⟨ap, 9, none⟩ = some (.pointer (some ⟨rp, 0, none⟩)) := B.cell 9
  obtain ⟨rn, hrn⟩ : ∃ rn, r.next s2 = rn := ⟨_, rfl⟩
  simp only [hrn] at hn
  have Y0 := yRes h Rr ok.res r1 hN
  unfold RPost at Y0
  rw [hrn] at Y0
  simp only [hrn] at hz
  simp only at hn0
  have hb : (rn.pc == 0) = true := by simpa using hn
  have hnb : (n == 0) = false := by simpa using hn0
  have en : AllS.next ⟨r, k, n, m, 1, 0, 0⟩ s2 = ⟨rn, k, n, m, 2, 0, 0⟩ := by
    simp only [AllS.next, hrn, if_pos hn, if_neg hz]
    rw [if_pos (by omega)]
  unfold APost
  rw [en]
  obtain ⟨v, hv⟩ : ∃ v, rn.cell = v := ⟨_, rfl⟩
  rw [hv] at hz
  have hzb : (v == 0) = false := by simpa using hz
  go_enter Tryd.func59, Tryd.ntmps59
  go_wp2_with (go_at_call 95; refine Y0.mono ?_; rintro e' w1 ⟨rfl, T1, xp1, yv1, Y1, R1, o1, k1⟩; rw [hb]; have B1 := B.oth o1 hF; have d7 : w1.cell? ⟨ap, 7, none⟩ = some (.int .i64 1) := B1.cell 7; have d8 : w1.cell? ⟨ap, 8, none⟩ = some (.int .i64 0) := B1.cell 8; have df7 := B1.free 7; have df8 := B1.free 8; have e17 : (w1.setCell ⟨ap, 7, none⟩ (.int .i64 2)).cell? ⟨ap, 7, none⟩ = some (.int .i64 2) := (B1.set 7 (.int .i64 2)).cell 7; have f17 := (B1.set 7 (.int .i64 2)).free 7; have e15 : (w1.setCell ⟨ap, 7, none⟩ (.int .i64 2)).cell? ⟨ap, 5, none⟩ = some (.int .i64 n) := (B1.set 7 (.int .i64 2)).cell 5; have e19 : (w1.setCell ⟨ap, 7, none⟩ (.int .i64 2)).cell? ⟨ap, 9, none⟩ = some (.pointer (some ⟨rp, 0, none⟩)) := (B1.set 7 (.int .i64 2)).cell 9; have e1r : (w1.setCell ⟨ap, 7, none⟩ (.int .i64 2)).cell? ⟨rp, 10, none⟩ = some (.int .i64 v) := rcell hv ((R1.blk.oth (F := [ap]) (Oth.set _ _ _ _ (by simp)) (by simpa using Ne.symm har)).cell 10); have e27 : ((w1.setCell ⟨ap, 7, none⟩ (.int .i64 2)).setCell ⟨ap, 8, none⟩ (.int .i64 1)).cell? ⟨ap, 7, none⟩ = some (.int .i64 2) := ((B1.set 7 (.int .i64 2)).set 8 (.int .i64 1)).cell 7; have f27 := ((B1.set 7 (.int .i64 2)).set 8 (.int .i64 1)).free 7; have e25 : ((w1.setCell ⟨ap, 7, none⟩ (.int .i64 2)).setCell ⟨ap, 8, none⟩ (.int .i64 1)).cell? ⟨ap, 5, none⟩ = some (.int .i64 n) := ((B1.set 7 (.int .i64 2)).set 8 (.int .i64 1)).cell 5; have e29 : ((w1.setCell ⟨ap, 7, none⟩ (.int .i64 2)).setCell ⟨ap, 8, none⟩ (.int .i64 1)).cell? ⟨ap, 9, none⟩ = some (.pointer (some ⟨rp, 0, none⟩)) := ((B1.set 7 (.int .i64 2)).set 8 (.int .i64 1)).cell 9; have e2r : ((w1.setCell ⟨ap, 7, none⟩ (.int .i64 2)).setCell ⟨ap, 8, none⟩ (.int .i64 1)).cell? ⟨rp, 10, none⟩ = some (.int .i64 v) := rcell hv ((R1.blk.oth (F := [ap]) (((Oth.set _ _ _ _ (by simp)).trans (Oth.set _ _ _ _ (by simp)))) (by simpa using Ne.symm har)).cell 10))
  have oz : Oth (ap :: rp :: xp :: Y) w w1 := Oth.mono o1 (fun k hk => List.mem_cons_of_mem _ hk)
  have oF : Oth [ap] w1 ((w1.setCell ⟨ap, 7, none⟩ (.int .i64 2)).setCell ⟨ap, 8, none⟩ (.int .i64 1)) := ((Oth.set _ _ _ _ (by simp)).trans (Oth.set _ _ _ _ (by simp)))
  have RF := R1.oth oF (fun j hj e => by simp at e; subst e; obtain ⟨cs, T, B', hT⟩ := R1.kind j hj; have := B1.at_; rw [B'.at_] at this; simp at this; rw [this.2] at hT; revert hT; decide)
  go_ret
  exact ⟨rfl, ((T1.set B1 7 (.int .i64 2)).set (B1.set 7 (.int .i64 2)) 8 (.int .i64 1)), xp1, yv1, Y1, ⟨⟨qa, ((B1.set 7 (.int .i64 2)).set 8 (.int .i64 1))⟩, RF, fun h => by simp at h, hcl, n0, fun h => rfl⟩, oz.trans (oF.mono (by simp)), k1⟩
set_option maxHeartbeats 2000000 in
theorem yAll1E {x : AllS} (h : Y1 w0 w y s2 N) (R : RAl w0 w ap rp xp yv Y x) (ok : x.Ok) (hp : x.pc = 1) (hn : (x.res.next s2).pc = 0) (hz : (x.res.next s2).cell = 0) (hn0 : x.cnt = 0) (hN : N < 1000000) :
    Calls Tryd.prog 59 #[.pointer (some ⟨ap, 0, none⟩), .pointer (some ⟨y, 0, none⟩)] w (APost w0 w y s2 N ap rp xp Y x) := by
  obtain ⟨r, k, n, m, pc, fl, cl⟩ := x
  obtain rfl : pc = 1 := hp
  obtain ⟨qa, B⟩ := R.blk
  have Rr := R.res
  have hcl := R.cls
  have n0 := R.n0
  have a0 := R.a0 (by simp)
  simp only at Rr hcl n0 a0
  subst a0
  have hF : ap ∉ rp :: xp :: Y := fun hk => by
    obtain ⟨cs, T, B', hT⟩ := Rr.kind ap hk
    have := B.at_
    rw [B'.at_] at this
    simp at this
    rw [this.2] at hT
    revert hT
    decide
  have har : ap ≠ rp := fun e => hF (by simp [e])
  obtain ⟨r1, rfl⟩ := R.r1 rfl
  simp only at r1
  simp only [AllS.rcells, AllS.kk, if_true] at B
  have c7 : w.cell? ⟨ap, 7, none⟩ = some (.int .i64 1) := B.cell 7
  have c9 : w.cell? ⟨ap, 9, none⟩ = some (.pointer (some ⟨rp, 0, none⟩)) := B.cell 9
  obtain ⟨rn, hrn⟩ : ∃ rn, r.next s2 = rn := ⟨_, rfl⟩
  simp only [hrn] at hn
  have Y0 := yRes h Rr ok.res r1 hN
  unfold RPost at Y0
  rw [hrn] at Y0
  simp only [hrn] at hz
  simp only at hn0
  have hb : (rn.pc == 0) = true := by simpa using hn
  subst hn0
  have en : AllS.next ⟨r, k, 0, m, 1, 0, 0⟩ s2 = ⟨rn, k, 0, m, 0, 0, 0⟩ := by
    simp only [AllS.next, hrn, if_pos hn, if_pos hz]
    skip
  unfold APost
  rw [en]
  obtain ⟨v, hv⟩ : ∃ v, rn.cell = v := ⟨_, rfl⟩
  rw [hv] at hz
  subst hz
  go_enter Tryd.func59, Tryd.ntmps59
  go_wp2_with (go_at_call 95; refine Y0.mono ?_; rintro e' w1 ⟨rfl, T1, xp1, yv1, Y1, R1, o1, k1⟩; rw [hb]; have B1 := B.oth o1 hF; have d7 : w1.cell? ⟨ap, 7, none⟩ = some (.int .i64 1) := B1.cell 7; have d8 : w1.cell? ⟨ap, 8, none⟩ = some (.int .i64 0) := B1.cell 8; have df7 := B1.free 7; have df8 := B1.free 8; have e17 : (w1.setCell ⟨ap, 7, none⟩ (.int .i64 2)).cell? ⟨ap, 7, none⟩ = some (.int .i64 2) := (B1.set 7 (.int .i64 2)).cell 7; have f17 := (B1.set 7 (.int .i64 2)).free 7; have e15 : (w1.setCell ⟨ap, 7, none⟩ (.int .i64 2)).cell? ⟨ap, 5, none⟩ = some (.int .i64 0) := (B1.set 7 (.int .i64 2)).cell 5; have e19 : (w1.setCell ⟨ap, 7, none⟩ (.int .i64 2)).cell? ⟨ap, 9, none⟩ = some (.pointer (some ⟨rp, 0, none⟩)) := (B1.set 7 (.int .i64 2)).cell 9; have e1r : (w1.setCell ⟨ap, 7, none⟩ (.int .i64 2)).cell? ⟨rp, 10, none⟩ = some (.int .i64 0) := rcell hv ((R1.blk.oth (F := [ap]) (Oth.set _ _ _ _ (by simp)) (by simpa using Ne.symm har)).cell 10); have e27 : ((w1.setCell ⟨ap, 7, none⟩ (.int .i64 2)).setCell ⟨ap, 8, none⟩ (.int .i64 1)).cell? ⟨ap, 7, none⟩ = some (.int .i64 2) := ((B1.set 7 (.int .i64 2)).set 8 (.int .i64 1)).cell 7; have f27 := ((B1.set 7 (.int .i64 2)).set 8 (.int .i64 1)).free 7; have e25 : ((w1.setCell ⟨ap, 7, none⟩ (.int .i64 2)).setCell ⟨ap, 8, none⟩ (.int .i64 1)).cell? ⟨ap, 5, none⟩ = some (.int .i64 0) := ((B1.set 7 (.int .i64 2)).set 8 (.int .i64 1)).cell 5; have e29 : ((w1.setCell ⟨ap, 7, none⟩ (.int .i64 2)).setCell ⟨ap, 8, none⟩ (.int .i64 1)).cell? ⟨ap, 9, none⟩ = some (.pointer (some ⟨rp, 0, none⟩)) := ((B1.set 7 (.int .i64 2)).set 8 (.int .i64 1)).cell 9; have e2r : ((w1.setCell ⟨ap, 7, none⟩ (.int .i64 2)).setCell ⟨ap, 8, none⟩ (.int .i64 1)).cell? ⟨rp, 10, none⟩ = some (.int .i64 0) := rcell hv ((R1.blk.oth (F := [ap]) (((Oth.set _ _ _ _ (by simp)).trans (Oth.set _ _ _ _ (by simp)))) (by simpa using Ne.symm har)).cell 10); have e37 : (((w1.setCell ⟨ap, 7, none⟩ (.int .i64 2)).setCell ⟨ap, 8, none⟩ (.int .i64 1)).setCell ⟨ap, 7, none⟩ (.int .i64 3)).cell? ⟨ap, 7, none⟩ = some (.int .i64 3) := (((B1.set 7 (.int .i64 2)).set 8 (.int .i64 1)).set 7 (.int .i64 3)).cell 7; have f37 := (((B1.set 7 (.int .i64 2)).set 8 (.int .i64 1)).set 7 (.int .i64 3)).free 7; have e35 : (((w1.setCell ⟨ap, 7, none⟩ (.int .i64 2)).setCell ⟨ap, 8, none⟩ (.int .i64 1)).setCell ⟨ap, 7, none⟩ (.int .i64 3)).cell? ⟨ap, 5, none⟩ = some (.int .i64 0) := (((B1.set 7 (.int .i64 2)).set 8 (.int .i64 1)).set 7 (.int .i64 3)).cell 5; have e39 : (((w1.setCell ⟨ap, 7, none⟩ (.int .i64 2)).setCell ⟨ap, 8, none⟩ (.int .i64 1)).setCell ⟨ap, 7, none⟩ (.int .i64 3)).cell? ⟨ap, 9, none⟩ = some (.pointer (some ⟨rp, 0, none⟩)) := (((B1.set 7 (.int .i64 2)).set 8 (.int .i64 1)).set 7 (.int .i64 3)).cell 9; have e3r : (((w1.setCell ⟨ap, 7, none⟩ (.int .i64 2)).setCell ⟨ap, 8, none⟩ (.int .i64 1)).setCell ⟨ap, 7, none⟩ (.int .i64 3)).cell? ⟨rp, 10, none⟩ = some (.int .i64 0) := rcell hv ((R1.blk.oth (F := [ap]) (((((Oth.set _ _ _ _ (by simp)).trans (Oth.set _ _ _ _ (by simp)))).trans (Oth.set _ _ _ _ (by simp)))) (by simpa using Ne.symm har)).cell 10); have e47 : ((((w1.setCell ⟨ap, 7, none⟩ (.int .i64 2)).setCell ⟨ap, 8, none⟩ (.int .i64 1)).setCell ⟨ap, 7, none⟩ (.int .i64 3)).setCell ⟨ap, 7, none⟩ (.int .i64 0)).cell? ⟨ap, 7, none⟩ = some (.int .i64 0) := ((((B1.set 7 (.int .i64 2)).set 8 (.int .i64 1)).set 7 (.int .i64 3)).set 7 (.int .i64 0)).cell 7; have f47 := ((((B1.set 7 (.int .i64 2)).set 8 (.int .i64 1)).set 7 (.int .i64 3)).set 7 (.int .i64 0)).free 7; have e45 : ((((w1.setCell ⟨ap, 7, none⟩ (.int .i64 2)).setCell ⟨ap, 8, none⟩ (.int .i64 1)).setCell ⟨ap, 7, none⟩ (.int .i64 3)).setCell ⟨ap, 7, none⟩ (.int .i64 0)).cell? ⟨ap, 5, none⟩ = some (.int .i64 0) := ((((B1.set 7 (.int .i64 2)).set 8 (.int .i64 1)).set 7 (.int .i64 3)).set 7 (.int .i64 0)).cell 5; have e49 : ((((w1.setCell ⟨ap, 7, none⟩ (.int .i64 2)).setCell ⟨ap, 8, none⟩ (.int .i64 1)).setCell ⟨ap, 7, none⟩ (.int .i64 3)).setCell ⟨ap, 7, none⟩ (.int .i64 0)).cell? ⟨ap, 9, none⟩ = some (.pointer (some ⟨rp, 0, none⟩)) := ((((B1.set 7 (.int .i64 2)).set 8 (.int .i64 1)).set 7 (.int .i64 3)).set 7 (.int .i64 0)).cell 9; have e4r : ((((w1.setCell ⟨ap, 7, none⟩ (.int .i64 2)).setCell ⟨ap, 8, none⟩ (.int .i64 1)).setCell ⟨ap, 7, none⟩ (.int .i64 3)).setCell ⟨ap, 7, none⟩ (.int .i64 0)).cell? ⟨rp, 10, none⟩ = some (.int .i64 0) := rcell hv ((R1.blk.oth (F := [ap]) (((((((Oth.set _ _ _ _ (by simp)).trans (Oth.set _ _ _ _ (by simp)))).trans (Oth.set _ _ _ _ (by simp)))).trans (Oth.set _ _ _ _ (by simp)))) (by simpa using Ne.symm har)).cell 10))
  have oz : Oth (ap :: rp :: xp :: Y) w w1 := Oth.mono o1 (fun k hk => List.mem_cons_of_mem _ hk)
  have oF : Oth [ap] w1 ((((w1.setCell ⟨ap, 7, none⟩ (.int .i64 2)).setCell ⟨ap, 8, none⟩ (.int .i64 1)).setCell ⟨ap, 7, none⟩ (.int .i64 3)).setCell ⟨ap, 7, none⟩ (.int .i64 0)) := ((((Oth.set _ _ _ _ (by simp)).trans (Oth.set _ _ _ _ (by simp))).trans (Oth.set _ _ _ _ (by simp))).trans (Oth.set _ _ _ _ (by simp)))
  have RF := R1.oth oF (fun j hj e => by simp at e; subst e; obtain ⟨cs, T, B', hT⟩ := R1.kind j hj; have := B1.at_; rw [B'.at_] at this; simp at this; rw [this.2] at hT; revert hT; decide)
  go_ret
  exact ⟨rfl, ((((T1.set B1 7 (.int .i64 2)).set (B1.set 7 (.int .i64 2)) 8 (.int .i64 1)).set ((B1.set 7 (.int .i64 2)).set 8 (.int .i64 1)) 7 (.int .i64 3)).set (((B1.set 7 (.int .i64 2)).set 8 (.int .i64 1)).set 7 (.int .i64 3)) 7 (.int .i64 0)), xp1, yv1, Y1, ⟨⟨qa, ((((B1.set 7 (.int .i64 2)).set 8 (.int .i64 1)).set 7 (.int .i64 3)).set 7 (.int .i64 0))⟩, RF, fun h => by simp at h, hcl, n0, fun h => rfl⟩, oz.trans (oF.mono (by simp)), k1⟩
set_option maxHeartbeats 2000000 in
theorem yAll2A {x : AllS} (h : Y1 w0 w y s2 N) (R : RAl w0 w ap rp xp yv Y x) (ok : x.Ok) (hp : x.pc = 2) (hm : x.fld + 1 < x.cnt) (hN : N < 1000000) :
    Calls Tryd.prog 59 #[.pointer (some ⟨ap, 0, none⟩), .pointer (some ⟨y, 0, none⟩)] w (APost w0 w y s2 N ap rp xp Y x) := by
  obtain ⟨r, k, n, m, pc, fl, cl⟩ := x
  obtain rfl : pc = 2 := hp
  obtain ⟨qa, B⟩ := R.blk
  have Rr := R.res
  have hcl := R.cls
  have n0 := R.n0
  have a0 := R.a0 (by simp)
  simp only at Rr hcl n0 a0
  subst a0
  have hF : ap ∉ rp :: xp :: Y := fun hk => by
    obtain ⟨cs, T, B', hT⟩ := Rr.kind ap hk
    have := B.at_
    rw [B'.at_] at this
    simp at this
    rw [this.2] at hT
    revert hT
    decide
  have har : ap ≠ rp := fun e => hF (by simp [e])
  simp only at hm
  have f0 := ok.f0
  have f8 := ok.f8
  have n8 := ok.n8
  have f2 := ok.f2 rfl
  have l0 := ok.res.l0
  have l1 := ok.res.l1
  simp only at f0 f8 n8 f2 l0 l1
  have kk2 : (if (2 : Nat) = 1 then (0 : Int) else fl + 1) = fl + 1 := if_neg (by decide)
  simp only [AllS.rcells, AllS.kk, kk2] at B
  obtain ⟨v, hv⟩ : ∃ v, r.cell = v := ⟨_, rfl⟩
  rw [hv] at l0 l1
  have en : AllS.next ⟨r, k, n, m, 2, fl, 0⟩ s2 = ⟨r, k, n, m, 2, fl + 1, 0⟩ := by simp only [AllS.next, if_pos hm]
  have em : AllS.mem ⟨r, k, n, m, 2, fl, 0⟩ s2 = s2.store (v + (fl + 1)) 0 := by simp only [AllS.mem, hv]
  unfold APost
  rw [en, em]
  have wr : IntKind.i64.wrap (v + (fl + 1)) = v + (fl + 1) := by rw [IntKind.wrap_i64]; omega
  have hd : decide (n < fl + 1 + 1) = false := decide_eq_false (by omega)
  have c7 : w.cell? ⟨ap, 7, none⟩ = some (.int .i64 2) := B.cell 7
  have c8 : w.cell? ⟨ap, 8, none⟩ = some (.int .i64 (fl + 1)) := B.cell 8
  have cf8 := B.free 8
  have keep : ∀ w', Below w.heap.size w w' → w'.cell? ⟨ap, 9, none⟩ = some (.pointer (some ⟨rp, 0, none⟩)) ∧ w'.cell? ⟨ap, 8, none⟩ = some (.int .i64 (fl + 1)) ∧ w'.cell? ⟨rp, 10, none⟩ = some (.int .i64 v) := fun w' hb => ⟨(B.below hb).cell 9, (B.below hb).cell 8, rcell hv ((Rr.blk.below hb).cell 10)⟩
  have hbd : Below w.heap.size w w.drew := (Below.refl w.heap.size w).drew
  have RD := keep _ hbd
  go_enter Tryd.func59, Tryd.ntmps59
  go_wp2
  go_region_held3 (fun w' => w'.cell? ⟨ap, 9, none⟩ = some (.pointer (some ⟨rp, 0, none⟩)) ∧ w'.cell? ⟨ap, 8, none⟩ = some (.int .i64 (fl + 1)) ∧ w'.cell? ⟨rp, 10, none⟩ = some (.int .i64 v)) (first | assumption | exact RD | exact keep _ (by assumption))
    ((go_at_call 39; refine (zStore (h.below hbd) hN (v + (fl + 1)) U64.zero).mono ?_; rintro e' w1 ⟨rfl, T1, o1⟩; have B1 := (B.below hbd).oth o1 (by simp); have R1 := (Rr.oth (F := []) (Oth.below hbd) (by simp)).oth o1 (by simp); have S1 : w1.cell? ⟨ap, 9, none⟩ = some (.pointer (some ⟨rp, 0, none⟩)) ∧ w1.cell? ⟨ap, 8, none⟩ = some (.int .i64 (fl + 1)) ∧ w1.cell? ⟨rp, 10, none⟩ = some (.int .i64 v) := ⟨B1.cell 9, B1.cell 8, rcell hv (R1.blk.cell 10)⟩; have d5 : w1.cell? ⟨ap, 5, none⟩ = some (.int .i64 n) := B1.cell 5; have d7 : w1.cell? ⟨ap, 7, none⟩ = some (.int .i64 2) := B1.cell 7; have d8 : w1.cell? ⟨ap, 8, none⟩ = some (.int .i64 (fl + 1)) := B1.cell 8; have df7 := B1.free 7; have df8 := B1.free 8; have B2 := B1.set 8 (.int .i64 (fl + 1 + 1)); have T2 := T1.set B1 8 (.int .i64 (fl + 1 + 1))))
  have oz : Oth (ap :: rp :: xp :: Y) w w1 := (Oth.below hbd).trans (o1.mono (by simp))
  have o2 : Oth [ap] w1 (w1.setCell ⟨ap, 8, none⟩ (.int .i64 (fl + 1 + 1))) := Oth.set _ _ _ _ (by simp)
  have R2 := R1.oth o2 (fun j hj e => by simp at e; subst e; exact hF hj)
  go_wp2
  generalize w1.setCell ⟨ap, 8, none⟩ (.int .i64 (fl + 1 + 1)) = w2 at B2 T2 o2 R2 ⊢
  clear RD keep hbd S1 d5 d7 d8 df7 df8 B1 T1 R1
  have d5 : w2.cell? ⟨ap, 5, none⟩ = some (.int .i64 n) := B2.cell 5
  have d7 : w2.cell? ⟨ap, 7, none⟩ = some (.int .i64 2) := B2.cell 7
  have d8 : w2.cell? ⟨ap, 8, none⟩ = some (.int .i64 (fl + 1 + 1)) := B2.cell 8
  have df7 := B2.free 7
  have hbd : Below w2.heap.size w2 w2.drew := (Below.refl w2.heap.size w2).drew
  go_quiet (fail)
  have B3 := B2.below hbd
  have d7' : w2.drew.cell? ⟨ap, 7, none⟩ = some (.int .i64 2) := B3.cell 7
  go_wp2
  go_ret
  exact ⟨rfl, T2.below (S.bdr (Below.refl _ _) _), xp, yv, Y, ⟨⟨qa, B2.below (S.bdr (Below.refl _ _) _)⟩, R2.oth (F := []) (Oth.below (S.bdr (Below.refl _ _) _)) (by simp), fun h => by simp at h, hcl, n0, fun _ => rfl⟩, (oz.trans (o2.mono (by simp))).trans (Oth.below (S.bdr (Below.refl _ _) _)), fun j hj => .inl hj⟩
set_option maxHeartbeats 2000000 in
theorem yAll2B {x : AllS} (h : Y1 w0 w y s2 N) (R : RAl w0 w ap rp xp yv Y x) (ok : x.Ok) (hp : x.pc = 2) (hm : ¬ x.fld + 1 < x.cnt) (hN : N < 1000000) :
    Calls Tryd.prog 59 #[.pointer (some ⟨ap, 0, none⟩), .pointer (some ⟨y, 0, none⟩)] w (APost w0 w y s2 N ap rp xp Y x) := by
  obtain ⟨r, k, n, m, pc, fl, cl⟩ := x
  obtain rfl : pc = 2 := hp
  obtain ⟨qa, B⟩ := R.blk
  have Rr := R.res
  have hcl := R.cls
  have n0 := R.n0
  have a0 := R.a0 (by simp)
  simp only at Rr hcl n0 a0
  subst a0
  have hF : ap ∉ rp :: xp :: Y := fun hk => by
    obtain ⟨cs, T, B', hT⟩ := Rr.kind ap hk
    have := B.at_
    rw [B'.at_] at this
    simp at this
    rw [this.2] at hT
    revert hT
    decide
  have har : ap ≠ rp := fun e => hF (by simp [e])
  simp only at hm
  have f0 := ok.f0
  have f8 := ok.f8
  have n8 := ok.n8
  have f2 := ok.f2 rfl
  have l0 := ok.res.l0
  have l1 := ok.res.l1
  simp only at f0 f8 n8 f2 l0 l1
  have kk2 : (if (2 : Nat) = 1 then (0 : Int) else fl + 1) = fl + 1 := if_neg (by decide)
  simp only [AllS.rcells, AllS.kk, kk2] at B
  obtain ⟨v, hv⟩ : ∃ v, r.cell = v := ⟨_, rfl⟩
  rw [hv] at l0 l1
  have en : AllS.next ⟨r, k, n, m, 2, fl, 0⟩ s2 = ⟨r, k, n, m, 3, fl + 1, 0⟩ := by simp only [AllS.next, if_neg hm]
  have em : AllS.mem ⟨r, k, n, m, 2, fl, 0⟩ s2 = s2.store (v + (fl + 1)) 0 := by simp only [AllS.mem, hv]
  unfold APost
  rw [en, em]
  have wr : IntKind.i64.wrap (v + (fl + 1)) = v + (fl + 1) := by rw [IntKind.wrap_i64]; omega
  have hd : decide (n < fl + 1 + 1) = true := decide_eq_true (by omega)
  have c7 : w.cell? ⟨ap, 7, none⟩ = some (.int .i64 2) := B.cell 7
  have c8 : w.cell? ⟨ap, 8, none⟩ = some (.int .i64 (fl + 1)) := B.cell 8
  have cf8 := B.free 8
  have keep : ∀ w', Below w.heap.size w w' → w'.cell? ⟨ap, 9, none⟩ = some (.pointer (some ⟨rp, 0, none⟩)) ∧ w'.cell? ⟨ap, 8, none⟩ = some (.int .i64 (fl + 1)) ∧ w'.cell? ⟨rp, 10, none⟩ = some (.int .i64 v) := fun w' hb => ⟨(B.below hb).cell 9, (B.below hb).cell 8, rcell hv ((Rr.blk.below hb).cell 10)⟩
  have hbd : Below w.heap.size w w.drew := (Below.refl w.heap.size w).drew
  have RD := keep _ hbd
  go_enter Tryd.func59, Tryd.ntmps59
  go_wp2
  go_region_held3 (fun w' => w'.cell? ⟨ap, 9, none⟩ = some (.pointer (some ⟨rp, 0, none⟩)) ∧ w'.cell? ⟨ap, 8, none⟩ = some (.int .i64 (fl + 1)) ∧ w'.cell? ⟨rp, 10, none⟩ = some (.int .i64 v)) (first | assumption | exact RD | exact keep _ (by assumption))
    ((go_at_call 39; refine (zStore (h.below hbd) hN (v + (fl + 1)) U64.zero).mono ?_; rintro e' w1 ⟨rfl, T1, o1⟩; have B1 := (B.below hbd).oth o1 (by simp); have R1 := (Rr.oth (F := []) (Oth.below hbd) (by simp)).oth o1 (by simp); have S1 : w1.cell? ⟨ap, 9, none⟩ = some (.pointer (some ⟨rp, 0, none⟩)) ∧ w1.cell? ⟨ap, 8, none⟩ = some (.int .i64 (fl + 1)) ∧ w1.cell? ⟨rp, 10, none⟩ = some (.int .i64 v) := ⟨B1.cell 9, B1.cell 8, rcell hv (R1.blk.cell 10)⟩; have d5 : w1.cell? ⟨ap, 5, none⟩ = some (.int .i64 n) := B1.cell 5; have d7 : w1.cell? ⟨ap, 7, none⟩ = some (.int .i64 2) := B1.cell 7; have d8 : w1.cell? ⟨ap, 8, none⟩ = some (.int .i64 (fl + 1)) := B1.cell 8; have df7 := B1.free 7; have df8 := B1.free 8; have B2 := B1.set 8 (.int .i64 (fl + 1 + 1)); have T2 := T1.set B1 8 (.int .i64 (fl + 1 + 1))))
  have oz : Oth (ap :: rp :: xp :: Y) w w1 := (Oth.below hbd).trans (o1.mono (by simp))
  have o2 : Oth [ap] w1 (w1.setCell ⟨ap, 8, none⟩ (.int .i64 (fl + 1 + 1))) := Oth.set _ _ _ _ (by simp)
  have R2 := R1.oth o2 (fun j hj e => by simp at e; subst e; exact hF hj)
  go_wp2
  generalize w1.setCell ⟨ap, 8, none⟩ (.int .i64 (fl + 1 + 1)) = w2 at B2 T2 o2 R2 ⊢
  clear RD keep hbd S1 d5 d7 d8 df7 df8 B1 T1 R1
  have d5 : w2.cell? ⟨ap, 5, none⟩ = some (.int .i64 n) := B2.cell 5
  have d7 : w2.cell? ⟨ap, 7, none⟩ = some (.int .i64 2) := B2.cell 7
  have d8 : w2.cell? ⟨ap, 8, none⟩ = some (.int .i64 (fl + 1 + 1)) := B2.cell 8
  have df7 := B2.free 7
  have hbd : Below w2.heap.size w2 w2.drew := (Below.refl w2.heap.size w2).drew
  go_quiet (fail)
  go_wp2
  go_ret
  have bd : Below w2.heap.size w2 (w2.drewN nq) := S.bdr (Below.refl _ _) _
  have B3 := (B2.below bd).set 7 (.int .i64 3)
  have T3 := (T2.below bd).set (B2.below bd) 7 (.int .i64 3)
  have o3 : Oth [ap] (w2.drewN nq) ((w2.drewN nq).setCell ⟨ap, 7, none⟩ (.int .i64 3)) := Oth.set _ _ _ _ (by simp)
  have R3 := (R2.oth (F := []) (Oth.below bd) (by simp)).oth o3 (fun j hj e => by simp at e; subst e; exact hF hj)
  exact ⟨rfl, T3, xp, yv, Y, ⟨⟨qa, B3⟩, R3, fun h => by simp at h, hcl, n0, fun _ => rfl⟩, ((oz.trans (o2.mono (by simp))).trans (Oth.below bd)).trans (o3.mono (by simp)), fun j hj => .inl hj⟩
set_option maxHeartbeats 2000000 in
theorem yAll3 {x : AllS} (h : Y1 w0 w y s2 N) (R : RAl w0 w ap rp xp yv Y x) (ok : x.Ok) (hp : x.pc = 3) (hN : N < 1000000) :
    Calls Tryd.prog 59 #[.pointer (some ⟨ap, 0, none⟩), .pointer (some ⟨y, 0, none⟩)] w (APost w0 w y s2 N ap rp xp Y x) := by
  obtain ⟨r, k, n, m, pc, fl, cl⟩ := x
  obtain rfl : pc = 3 := hp
  obtain ⟨qa, B⟩ := R.blk
  have Rr := R.res
  have hcl := R.cls
  have n0 := R.n0
  have a0 := R.a0 (by simp)
  simp only at Rr hcl n0 a0
  subst a0
  have hF : ap ∉ rp :: xp :: Y := fun hk => by
    obtain ⟨cs, T, B', hT⟩ := Rr.kind ap hk
    have := B.at_
    rw [B'.at_] at this
    simp at this
    rw [this.2] at hT
    revert hT
    decide
  have har : ap ≠ rp := fun e => hF (by simp [e])
  have kk2 : (if (3 : Nat) = 1 then (0 : Int) else fl + 1) = fl + 1 := if_neg (by decide)
  simp only [AllS.rcells, AllS.kk, kk2] at B
  obtain ⟨v, hv⟩ : ∃ v, r.cell = v := ⟨_, rfl⟩
  have hcl' : P.Plain.cl n = k := hcl.symm
  clear hcl
  have en : AllS.next ⟨r, k, n, m, 3, fl, 0⟩ s2 = ⟨r, k, n, m, 0, fl, v⟩ := by simp only [AllS.next, hv]
  have em : AllS.mem ⟨r, k, n, m, 3, fl, 0⟩ s2 = s2.store v (hw 1 k n m 0 0 0) := by simp only [AllS.mem, hv]
  unfold APost
  rw [en, em]
  have c7 : w.cell? ⟨ap, 7, none⟩ = some (.int .i64 3) := B.cell 7
  have keep : ∀ w', Below w.heap.size w w' → w'.cell? ⟨ap, 9, none⟩ = some (.pointer (some ⟨rp, 0, none⟩)) ∧ w'.cell? ⟨ap, 5, none⟩ = some (.int .i64 n) ∧ w'.cell? ⟨ap, 6, none⟩ = some (.int .i64 m) ∧ w'.cell? ⟨rp, 10, none⟩ = some (.int .i64 v) := fun w' hb => ⟨(B.below hb).cell 9, (B.below hb).cell 5, (B.below hb).cell 6, rcell hv ((Rr.blk.below hb).cell 10)⟩
  have hbd : Below w.heap.size w w.drew := (Below.refl w.heap.size w).drew
  have RD := keep _ hbd
  go_enter Tryd.func59, Tryd.ntmps59
  go_wp2
  go_region_held3 (fun w' => w'.cell? ⟨ap, 9, none⟩ = some (.pointer (some ⟨rp, 0, none⟩)) ∧ w'.cell? ⟨ap, 5, none⟩ = some (.int .i64 n) ∧ w'.cell? ⟨ap, 6, none⟩ = some (.int .i64 m) ∧ w'.cell? ⟨rp, 10, none⟩ = some (.int .i64 v)) (first | assumption | exact RD | exact keep _ (by assumption))
    (first
      | (go_at_call 94; refine (P.rClass n _).mono ?_; rintro e' wx ⟨rfl, hwx⟩; rw [hcl']; have hbx : Below w.heap.size w wx := (by rw [hwx]; exact hbd); clear hwx)
      | (go_at_call 38; refine (H.rWord 1 k n m 0 0 0 _).mono ?_; rintro e' wy ⟨rfl, hwy⟩; have hby : Below w.heap.size w wy := (by rw [hwy]; exact S.bal hbx _); clear hwy)
      | (go_at_call 39; refine (zStore (h.below hby) hN v (u64_hw 1 k n m 0 0 0)).mono ?_; rintro e' w1 ⟨rfl, T1, o1⟩; have B1 := (B.below hby).oth o1 (by simp); have R1 := (Rr.oth (F := []) (Oth.below hby) (by simp)).oth o1 (by simp); have S1 : w1.cell? ⟨ap, 9, none⟩ = some (.pointer (some ⟨rp, 0, none⟩)) ∧ w1.cell? ⟨ap, 5, none⟩ = some (.int .i64 n) ∧ w1.cell? ⟨ap, 6, none⟩ = some (.int .i64 m) ∧ w1.cell? ⟨rp, 10, none⟩ = some (.int .i64 v) := ⟨B1.cell 9, B1.cell 5, B1.cell 6, rcell hv (R1.blk.cell 10)⟩; have d7 : w1.cell? ⟨ap, 7, none⟩ = some (.int .i64 3) := B1.cell 7; have d9 : w1.cell? ⟨ap, 9, none⟩ = some (.pointer (some ⟨rp, 0, none⟩)) := B1.cell 9; have d10 : w1.cell? ⟨ap, 10, none⟩ = some (.int .i64 0) := B1.cell 10; have df7 := B1.free 7; have df10 := B1.free 10; have dr : w1.cell? ⟨rp, 10, none⟩ = some (.int .i64 v) := rcell hv (R1.blk.cell 10)))
  have oz : Oth (ap :: rp :: xp :: Y) w w1 := (Oth.below hby).trans (o1.mono (by simp))
  go_wp2
  have oF : Oth [ap] w1 ((w1.setCell ⟨ap, 10, none⟩ (.int .i64 v)).setCell ⟨ap, 7, none⟩ (.int .i64 0)) := (Oth.set _ _ _ _ (by simp)).trans (Oth.set _ _ _ _ (by simp))
  go_ret
  exact ⟨rfl, (T1.set B1 10 (.int .i64 v)).set (B1.set 10 (.int .i64 v)) 7 (.int .i64 0), xp, yv, Y, ⟨⟨qa, (B1.set 10 (.int .i64 v)).set 7 (.int .i64 0)⟩, R1.oth oF (fun j hj e => by simp at e; subst e; exact hF hj), fun h => by simp at h, hcl'.symm, n0, fun h => by simp at h⟩, oz.trans (oF.mono (by simp)), fun j hj => .inl hj⟩
theorem yAll {x : AllS} (h : Y1 w0 w y s2 N) (R : RAl w0 w ap rp xp yv Y x) (ok : x.Ok) (h1 : 1 ≤ x.pc) (hN : N < 1000000) :
    Calls Tryd.prog 59 #[.pointer (some ⟨ap, 0, none⟩), .pointer (some ⟨y, 0, none⟩)] w (APost w0 w y s2 N ap rp xp Y x) := by
  have h3 := ok.pc
  have : x.pc = 1 ∨ x.pc = 2 ∨ x.pc = 3 := by omega
  rcases this with hp | hp | hp
  · by_cases hn : (x.res.next s2).pc = 0
    · by_cases hz : (x.res.next s2).cell = 0
      · by_cases hc : x.cnt = 0
        · exact yAll1E h R ok hp hn hz hc hN
        · exact yAll1B h R ok hp hn hz hc hN
      · by_cases hc : x.cnt = 0
        · exact yAll1C h R ok hp hn hz hc hN
        · exact yAll1D h R ok hp hn hz hc hN
    · exact yAll1A h R ok hp hn hN
  · by_cases hm : x.fld + 1 < x.cnt
    · exact yAll2A h R ok hp hm hN
    · exact yAll2B h R ok hp hm hN
  · exact yAll3 h R ok hp hN
end
end Go.Proofs.YtoablodmodnamaaDoor
