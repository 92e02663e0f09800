/-
  The reference's Reserve over one memory.
-/
import Derived.Test.YtoablodmodnamaaDoorBzq
import Derived.Deep.RegionHeld3
namespace Go.Proofs.YtoablodmodnamaaDoor
set_option linter.unusedVariables false
set_option linter.unusedSimpArgs false
set_option maxRecDepth 100000
open Go.ChangeShapes Go.WideShapes Go.RowKit
open S.Plain (t0 t1 tw nx bw b0 b1 b2 b3)
open H.Plain (hw pS pC pN pM pG pT pL)

section
variable {w0 w w' : World} {b y p : Nat} {s1 s2 : St} {N : Nat}
theorem zLoad (h : Y1 w0 w y s2 N) (hN : N < 1000000) (a : Int) :
    Calls Tryd.prog 44 #[.pointer (some ⟨y, 0, none⟩), .int .i64 a] w fun e w' => e = .returned (.int .u64 (s2.got a)) ∧ Y1 w0 w' y (s2.load a) (N + 1) ∧ Oth [] w w' := by
  have ht := h.top2
  have f := h.fit2
  have r := h.rng2
  have hc : s2.c < 1000000 := by omega
  obtain ⟨M, rfl, hr, k⟩ := h.on2
  refine (rLoad hr f hc a).mono ?_
  rintro e w' ⟨rfl, M', hr', st⟩
  exact ⟨rfl, k hr' st (f.load hc a) (r.load a) (by rw [St.c_load]; omega) (by omega)⟩
theorem zStore (h : Y1 w0 w y s2 N) (hN : N < 1000000) (a : Int) {x : Int} (hx : U64 x) :
    Calls Tryd.prog 39 #[.pointer (some ⟨y, 0, none⟩), .int .i64 a, .int .u64 x] w fun e w' => e = .returned (.tuple #[]) ∧ Y1 w0 w' y (s2.store a x) (N + 1) ∧ Oth [] w w' := by
  have ht := h.top2
  have f := h.fit2
  have r := h.rng2
  have hc : s2.c < 1000000 := by omega
  obtain ⟨M, rfl, hr, k⟩ := h.on2
  refine (rStore hr f hc a x).mono ?_
  rintro e w' ⟨rfl, M', hr', st⟩
  exact ⟨rfl, k hr' st (f.store hc a x) (r.store a hx) (by rw [St.c_store]; omega) (by omega)⟩
theorem yPop {x : PopS} {q : Int} (h : Y1 w0 w y s2 N) (hp : Blk w0 w p 176 (x.rcells q)) (hq : pL q = x.link) (hh : U64 q) (ok : x.Ok) (hN : N < 1000000) :
    Calls Tryd.prog 106 #[.pointer (some ⟨p, 0, none⟩), .pointer (some ⟨y, 0, none⟩)] w fun e w' => e = .returned (.bool ((x.next s2).pc == 0)) ∧
      Y1 w0 w' y (x.mem s2) (N + 1) ∧ (∃ q', Blk w0 w' p 176 ((x.next s2).rcells q') ∧ pL q' = (x.next s2).link ∧ U64 q') ∧ Oth [p] w w' := by
  have ht := h.top2
  have hc : s2.c < 1000000 := by omega
  have f := h.fit2
  have r := h.rng2
  have cn := PopS.count (s := s2) ok
  obtain ⟨M, rfl, A, k⟩ := h.went2 hp
  refine (rPop A hq hh ok f hc r).mono ?_
  rintro e w' ⟨rfl, M', q', A', hq', hh', g⟩
  obtain ⟨K1, K2, K3⟩ := k A' g (PopS.fit ok f hc) (PopS.rng ok r) (show _ ≤ ((N + 1 : Nat) : Int) by omega) (by omega)
  exact ⟨rfl, K1, ⟨q', K2, hq', hh'⟩, K3⟩
end
/-- as cells -/
def ResS.rcells (x : ResS) (xp : Nat) (yv : Value) : Array Value := #[.int .i64 x.pl.t, .int .i64 x.pl.b, .int .i64 x.pl.tb, .int .i64 x.pl.hp, .int .i64 x.pl.sz, .int .i64 x.cls, .int .i64 x.set, .int .i64 x.pc, .pointer (some ⟨xp, 0, none⟩), yv, .int .i64 x.cell]
/-- where it lies: its block, its Pop's, its Take's -/
structure RRs (w0 w : World) (rp xp : Nat) (yv : Value) (Y : List Nat) (x : ResS) : Prop where
  blk : Blk w0 w rp 164 (x.rcells xp yv)
  pop : ∃ q, Blk w0 w xp 176 (x.pop.rcells q) ∧ pL q = x.pop.link ∧ U64 q
  tk : x.pc = 2 → ∃ yp Q, yv = .pointer (some ⟨yp, 0, none⟩) ∧ Y = yp :: Q.toList ∧ RTk w0 w yp Q x.take ∧ 1 ≤ x.take.pc
  seen : 2 ≤ x.pc → x.seen = x.pop.seen ∧ x.pop.pc = 0
  nk : x.pc ≠ 2 → Y = []
section
variable {w0 w w' : World} {rp xp : Nat} {yv : Value} {Y : List Nat} {x : ResS} {F : List Nat}
theorem RRs.oth (h : RRs w0 w rp xp yv Y x) (ho : Oth F w w') (d : ∀ k ∈ rp :: xp :: Y, k ∉ F) : RRs w0 w' rp xp yv Y x := by
  obtain ⟨q, h1, h2, h3⟩ := h.pop
  refine ⟨h.blk.oth ho (d rp (by simp)), ⟨q, h1.oth ho (d xp (by simp)), h2, h3⟩, fun hp => ?_, h.seen, h.nk⟩
  obtain ⟨yp, Q, e1, e2, e3, e4⟩ := h.tk hp
  exact ⟨yp, Q, e1, e2, e3.oth ho (d yp (by simp [e2])) (fun k hk => d k (by simp [e2, hk])), e4⟩
/-- its blocks, by their kinds -/
theorem RRs.kind (h : RRs w0 w rp xp yv Y x) : ∀ k ∈ rp :: xp :: Y, ∃ cs T, Blk w0 w k T cs ∧ T ∈ [164, 176, 180, 187] := by
  intro k hk
  simp only [List.mem_cons] at hk
  rcases hk with rfl | rfl | hk
  · exact ⟨_, _, h.blk, by simp⟩
  · obtain ⟨q, h1, _⟩ := h.pop
    exact ⟨_, _, h1, by simp⟩
  · by_cases hp : x.pc = 2
    · obtain ⟨yp, Q, e1, e2, e3, e4⟩ := h.tk hp
      rw [e2] at hk
      simp only [List.mem_cons, Option.mem_toList] at hk
      rcases hk with rfl | hk
      · exact ⟨_, _, e3.blk, by simp⟩
      · exact ⟨_, _, e3.psh k hk, by simp⟩
    · rw [h.nk hp] at hk; simp at hk
end
theorem Blk.neB {w0 w : World} {p q : Nat} {T T' : TypeId} {cs cs' : Array Value} (h : Blk w0 w p T cs) (h' : Blk w0 w q T' cs') (hT : (T == T') = false) : p ≠ q := h.ne h' (by simpa using hT)
section
variable {w0 w w' : World} {b y rp xp : Nat} {yv : Value} {Y : List Nat} {s1 s2 : St} {N : Nat}
/-- what a step comes to -/
def RPost (w0 w : World) (y : Nat) (s2 : St) (N rp xp : Nat) (Y : List Nat) (x : ResS) (e : Ending) (w' : World) : Prop :=
  e = .returned (.bool ((x.next s2).pc == 0)) ∧ Y1 w0 w' y (x.mem s2) (N + 1) ∧ ∃ xp' yv' Y', RRs w0 w' rp xp' yv' Y' (x.next s2) ∧ Oth (rp :: xp :: Y) w w' ∧ ∀ k ∈ xp' :: Y', k ∈ xp :: Y ∨ w.heap.size ≤ k
set_option maxHeartbeats 2000000 in
theorem yRes1A {x : ResS} (h : Y1 w0 w y s2 N) (R : RRs w0 w rp xp yv Y x) (ok : x.Ok) (hp : x.pc = 1) (hn : (x.pop.next s2).pc ≠ 0) (hN : N < 1000000) :
    Calls Tryd.prog 95 #[.pointer (some ⟨rp, 0, none⟩), .pointer (some ⟨y, 0, none⟩)] w (RPost w0 w y s2 N rp xp Y x) := by
  obtain ⟨q, c, e, pc, pop, tk, z, cl⟩ := x
  obtain rfl : pc = 1 := hp
  obtain ⟨pq, Bp, hq, hh⟩ := R.pop
  have B := R.blk
  simp only [ResS.rcells] at B Bp hq
  have hne : rp ≠ xp := B.neB Bp (by decide)
  obtain rfl : Y = [] := R.nk (by simp)
  have c7 : w.cell? ⟨rp, 7, none⟩ = some (.int .i64 1) := B.cell 7
  have c8 : w.cell? ⟨rp, 8, none⟩ = some (.pointer (some ⟨xp, 0, none⟩)) := B.cell 8
  obtain ⟨pn, hpn⟩ : ∃ pn, pop.next s2 = pn := ⟨_, rfl⟩
  simp only [hpn] at hn
  have hb : (pn.pc == 0) = false := by simpa using hn
  have en : ResS.next ⟨q, c, e, 1, pop, tk, z, cl⟩ s2 = ⟨q, c, e, 1, pn, tk, z, cl⟩ := by simp only [ResS.next, hpn, if_neg hn]
  unfold RPost
  rw [en]
  go_enter Tryd.func95, Tryd.ntmps95
  go_wp2_with (go_at_call 106; refine (yPop h Bp hq hh ok.pop hN).mono ?_; rintro e' w1 ⟨rfl, T1, ⟨q1, P1, hq1, hh1⟩, o1⟩; rw [hpn] at P1 hq1 ⊢; rw [hb]; have B1 := B.oth o1 (by simpa using hne); have d7 : w1.cell? ⟨rp, 7, none⟩ = some (.int .i64 1) := B1.cell 7)
  go_ret
  exact ⟨rfl, T1, xp, yv, [], ⟨B1, ⟨q1, P1, hq1, hh1⟩, fun h => by simp at h, fun h => by simp at h, fun _ => rfl⟩, Oth.mono o1 (fun k hk => by simp at hk; simp [hk]), fun k hk => .inl hk⟩
set_option maxHeartbeats 2000000 in
theorem yRes1B {x : ResS} (h : Y1 w0 w y s2 N) (R : RRs w0 w rp xp yv Y x) (ok : x.Ok) (hp : x.pc = 1) (hn : (x.pop.next s2).pc = 0) (hz : t0 (x.pop.next s2).seen ≠ 0) (hN : N < 1000000) :
    Calls Tryd.prog 95 #[.pointer (some ⟨rp, 0, none⟩), .pointer (some ⟨y, 0, none⟩)] w (RPost w0 w y s2 N rp xp Y x) := by
  obtain ⟨q, c, e, pc, pop, tk, z, cl⟩ := x
  obtain rfl : pc = 1 := hp
  obtain ⟨pq, Bp, hq, hh⟩ := R.pop
  have B := R.blk
  simp only [ResS.rcells] at B Bp hq
  have hne : rp ≠ xp := B.neB Bp (by decide)
  obtain rfl : Y = [] := R.nk (by simp)
  have c7 : w.cell? ⟨rp, 7, none⟩ = some (.int .i64 1) := B.cell 7
  have c8 : w.cell? ⟨rp, 8, none⟩ = some (.pointer (some ⟨xp, 0, none⟩)) := B.cell 8
  obtain ⟨pn, hpn⟩ : ∃ pn, pop.next s2 = pn := ⟨_, rfl⟩
  simp only [hpn] at hn
  simp only [hpn] at hz
  have hb : (pn.pc == 0) = true := by simpa using hn
  have eat : pn.at_ = t0 pn.seen := by simp [PopS.at_, hn]
  have en : ResS.next ⟨q, c, e, 1, pop, tk, z, cl⟩ s2 = ⟨q, c, e, 0, pn, tk, pn.seen, t0 pn.seen⟩ := by simp only [ResS.next, hpn, if_pos hn, if_neg hz]
  unfold RPost
  rw [en]
  obtain ⟨v, hv⟩ : ∃ v, t0 pn.seen = v := ⟨_, rfl⟩
  rw [hv] at eat hz ⊢
  have hz' : (v != 0) = true := by simpa using hz
  go_enter Tryd.func95, Tryd.ntmps95
  go_wp2_with (go_at_call 106; refine (yPop h Bp hq hh ok.pop hN).mono ?_; rintro e' w1 ⟨rfl, T1, ⟨q1, P1, hq1, hh1⟩, o1⟩; rw [hpn] at P1 hq1 ⊢; rw [hb]; have B1 := B.oth o1 (by simpa using hne); have d7 : w1.cell? ⟨rp, 7, none⟩ = some (.int .i64 1) := B1.cell 7; have d8 : w1.cell? ⟨rp, 8, none⟩ = some (.pointer (some ⟨xp, 0, none⟩)) := B1.cell 8; have d10 : w1.cell? ⟨rp, 10, none⟩ = some (.int .i64 cl) := B1.cell 10; have df7 := B1.free 7; have df10 := B1.free 10; have d4 : w1.cell? ⟨xp, 4, none⟩ = some (.int .i64 v) := (by rw [← eat]; exact P1.cell 4))
  have Ba := (B1.set 10 (.int .i64 v)).set 7 (.int .i64 2)
  have Ta := (T1.set B1 10 (.int .i64 v)).set (B1.set 10 (.int .i64 v)) 7 (.int .i64 2)
  have oa : Oth [rp] w1 ((w1.setCell ⟨rp, 10, none⟩ (.int .i64 v)).setCell ⟨rp, 7, none⟩ (.int .i64 2)) := (Oth.set _ _ _ _ (by simp)).trans (Oth.set _ _ _ _ (by simp))
  have Pa := P1.oth oa (by simpa using Ne.symm hne)
  generalize (w1.setCell ⟨rp, 10, none⟩ (.int .i64 v)).setCell ⟨rp, 7, none⟩ (.int .i64 2) = wa at Ba Ta oa Pa ⊢
  have keep : ∀ w', Below wa.heap.size wa w' → w'.cell? ⟨rp, 0, none⟩ = some (.int .i64 q.t) ∧ w'.cell? ⟨rp, 1, none⟩ = some (.int .i64 q.b) ∧ w'.cell? ⟨rp, 2, none⟩ = some (.int .i64 q.tb) ∧ w'.cell? ⟨rp, 3, none⟩ = some (.int .i64 q.hp) ∧ w'.cell? ⟨rp, 4, none⟩ = some (.int .i64 q.sz) ∧ w'.cell? ⟨rp, 5, none⟩ = some (.int .i64 c) ∧ w'.cell? ⟨rp, 6, none⟩ = some (.int .i64 e) := fun w' hb => ⟨(Ba.below hb).cell 0, (Ba.below hb).cell 1, (Ba.below hb).cell 2, (Ba.below hb).cell 3, (Ba.below hb).cell 4, (Ba.below hb).cell 5, (Ba.below hb).cell 6⟩
  have hbd : Below wa.heap.size wa wa.drew := (Below.refl wa.heap.size wa).drew
  have RD := keep _ hbd
  go_region_held3 (fun w' => w'.cell? ⟨rp, 0, none⟩ = some (.int .i64 q.t) ∧ w'.cell? ⟨rp, 1, none⟩ = some (.int .i64 q.b) ∧ w'.cell? ⟨rp, 2, none⟩ = some (.int .i64 q.tb) ∧ w'.cell? ⟨rp, 3, none⟩ = some (.int .i64 q.hp) ∧ w'.cell? ⟨rp, 4, none⟩ = some (.int .i64 q.sz) ∧ w'.cell? ⟨rp, 5, none⟩ = some (.int .i64 c) ∧ w'.cell? ⟨rp, 6, none⟩ = some (.int .i64 e)) (first | assumption | exact RD | exact keep _ (by assumption))
    ((go_at_call 107; refine (rNewTake q c e _).mono ?_; rintro e' w3 ⟨wz, rfl, hbz, hw3⟩; have hb3 : Below wa.heap.size wa w3 := (by rw [hw3]; exact S.bal (bel_trans hbd hbz) _); have hyn : wa.heap.size ≤ wz.heap.size := (bel_trans hbd hbz).size; have k3 : w3.heap[wz.heap.size]? = some (.cells ((TakeS.new q c e).rcells (.pointer none)) 180 (0, 0)) := (by rw [hw3]; exact heap_alloc_new _ _); obtain ⟨yn, hyn'⟩ : ∃ yn, wz.heap.size = yn := ⟨_, rfl⟩; rw [hyn'] at hyn k3 ⊢; clear hw3 hyn'; have B3 := Ba.below hb3; have d9 : w3.cell? ⟨rp, 9, none⟩ = some (yv) := B3.cell 9; have df9 := B3.free 9; have B4 := B3.set 9 (.pointer (some ⟨yn, 0, none⟩)); have S5 : (w3.setCell ⟨rp, 9, none⟩ (.pointer (some ⟨yn, 0, none⟩))).cell? ⟨rp, 0, none⟩ = some (.int .i64 q.t) ∧ (w3.setCell ⟨rp, 9, none⟩ (.pointer (some ⟨yn, 0, none⟩))).cell? ⟨rp, 1, none⟩ = some (.int .i64 q.b) ∧ (w3.setCell ⟨rp, 9, none⟩ (.pointer (some ⟨yn, 0, none⟩))).cell? ⟨rp, 2, none⟩ = some (.int .i64 q.tb) ∧ (w3.setCell ⟨rp, 9, none⟩ (.pointer (some ⟨yn, 0, none⟩))).cell? ⟨rp, 3, none⟩ = some (.int .i64 q.hp) ∧ (w3.setCell ⟨rp, 9, none⟩ (.pointer (some ⟨yn, 0, none⟩))).cell? ⟨rp, 4, none⟩ = some (.int .i64 q.sz) ∧ (w3.setCell ⟨rp, 9, none⟩ (.pointer (some ⟨yn, 0, none⟩))).cell? ⟨rp, 5, none⟩ = some (.int .i64 c) ∧ (w3.setCell ⟨rp, 9, none⟩ (.pointer (some ⟨yn, 0, none⟩))).cell? ⟨rp, 6, none⟩ = some (.int .i64 e) := ⟨B4.cell 0, B4.cell 1, B4.cell 2, B4.cell 3, B4.cell 4, B4.cell 5, B4.cell 6⟩))
  have T4 := (Ta.below hb3).set B3 9 (.pointer (some ⟨yn, 0, none⟩))
  have oz : Oth (rp :: xp :: []) w w1 := Oth.mono o1 (fun k hk => by simp at hk; simp [hk])
  have o4 : Oth (rp :: xp :: []) w (w3.setCell ⟨rp, 9, none⟩ (.pointer (some ⟨yn, 0, none⟩))) := ((oz.trans (oa.mono (by simp))).trans (Oth.below hb3)).trans (Oth.set _ _ _ _ (by simp))
  have hny : xp ≠ yn := by have := Pa.lt; omega
  have hnr : rp ≠ yn := by have := Ba.lt; omega
  have os : Oth [rp] w3 (w3.setCell ⟨rp, 9, none⟩ (.pointer (some ⟨yn, 0, none⟩))) := Oth.set _ _ _ _ (by simp)
  have P4 := (Pa.below hb3).oth os (by simpa using Ne.symm hne)
  have Y4 : Blk w0 (w3.setCell ⟨rp, 9, none⟩ (.pointer (some ⟨yn, 0, none⟩))) yn 180 ((TakeS.new q c e).rcells (.pointer none)) := Blk.oth ⟨k3, Nat.le_trans Ta.bel.size hyn, by decide⟩ os (by simpa using Ne.symm hnr)
  have wsz : w.heap.size ≤ yn := Nat.le_trans (oz.trans (oa.mono (by simp))).size hyn
  generalize w3.setCell ⟨rp, 9, none⟩ (.pointer (some ⟨yn, 0, none⟩)) = w4 at B4 T4 o4 P4 Y4 ⊢
  clear RD keep hbd d7 d8 d10 df7 df10 d9 df9 S5 d4 os oa Ba Ta Pa
  have g7 : w4.cell? ⟨rp, 7, none⟩ = some (.int .i64 2) := B4.cell 7
  have g10 : w4.cell? ⟨rp, 10, none⟩ = some (.int .i64 v) := B4.cell 10
  have gf7 := B4.free 7
  go_wp2
  go_ret
  have o5 : Oth [rp] w4 (w4.setCell ⟨rp, 7, none⟩ (.int .i64 0)) := Oth.set _ _ _ _ (by simp)
  exact ⟨rfl, T4.set B4 7 (.int .i64 0), xp, _, [], ⟨B4.set 7 (.int .i64 0), ⟨q1, P4.oth o5 (by simpa using Ne.symm hne), hq1, hh1⟩, fun h => by simp at h, fun h => by simp at h, fun _ => rfl⟩, o4.trans (o5.mono (by simp)), fun k hk => .inl hk⟩
set_option maxHeartbeats 2000000 in
theorem yRes1C {x : ResS} (h : Y1 w0 w y s2 N) (R : RRs w0 w rp xp yv Y x) (ok : x.Ok) (hp : x.pc = 1) (hn : (x.pop.next s2).pc = 0) (hz : t0 (x.pop.next s2).seen = 0) (hN : N < 1000000) :
    Calls Tryd.prog 95 #[.pointer (some ⟨rp, 0, none⟩), .pointer (some ⟨y, 0, none⟩)] w (RPost w0 w y s2 N rp xp Y x) := by
  obtain ⟨q, c, e, pc, pop, tk, z, cl⟩ := x
  obtain rfl : pc = 1 := hp
  obtain ⟨pq, Bp, hq, hh⟩ := R.pop
  have B := R.blk
  simp only [ResS.rcells] at B Bp hq
  have hne : rp ≠ xp := B.neB Bp (by decide)
  obtain rfl : Y = [] := R.nk (by simp)
  have c7 : w.cell? ⟨rp, 7, none⟩ = some (.int .i64 1) := B.cell 7
  have c8 : w.cell? ⟨rp, 8, none⟩ = some (.pointer (some ⟨xp, 0, none⟩)) := B.cell 8
  obtain ⟨pn, hpn⟩ : ∃ pn, pop.next s2 = pn := ⟨_, rfl⟩
  simp only [hpn] at hn
  simp only [hpn] at hz
  have hb : (pn.pc == 0) = true := by simpa using hn
  have eat : pn.at_ = t0 pn.seen := by simp [PopS.at_, hn]
  have en : ResS.next ⟨q, c, e, 1, pop, tk, z, cl⟩ s2 = ⟨q, c, e, 2, pn, TakeS.new q c e, pn.seen, 0⟩ := by simp only [ResS.next, hpn, if_pos hn, if_pos hz]
  unfold RPost
  rw [en]
  rw [hz] at eat
  go_enter Tryd.func95, Tryd.ntmps95
  go_wp2_with (go_at_call 106; refine (yPop h Bp hq hh ok.pop hN).mono ?_; rintro e' w1 ⟨rfl, T1, ⟨q1, P1, hq1, hh1⟩, o1⟩; rw [hpn] at P1 hq1 ⊢; rw [hb]; have B1 := B.oth o1 (by simpa using hne); have d7 : w1.cell? ⟨rp, 7, none⟩ = some (.int .i64 1) := B1.cell 7; have d8 : w1.cell? ⟨rp, 8, none⟩ = some (.pointer (some ⟨xp, 0, none⟩)) := B1.cell 8; have d10 : w1.cell? ⟨rp, 10, none⟩ = some (.int .i64 cl) := B1.cell 10; have df7 := B1.free 7; have df10 := B1.free 10; have d4 : w1.cell? ⟨xp, 4, none⟩ = some (.int .i64 0) := (by rw [← eat]; exact P1.cell 4))
  have Ba := (B1.set 10 (.int .i64 0)).set 7 (.int .i64 2)
  have Ta := (T1.set B1 10 (.int .i64 0)).set (B1.set 10 (.int .i64 0)) 7 (.int .i64 2)
  have oa : Oth [rp] w1 ((w1.setCell ⟨rp, 10, none⟩ (.int .i64 0)).setCell ⟨rp, 7, none⟩ (.int .i64 2)) := (Oth.set _ _ _ _ (by simp)).trans (Oth.set _ _ _ _ (by simp))
  have Pa := P1.oth oa (by simpa using Ne.symm hne)
  generalize (w1.setCell ⟨rp, 10, none⟩ (.int .i64 0)).setCell ⟨rp, 7, none⟩ (.int .i64 2) = wa at Ba Ta oa Pa ⊢
  have keep : ∀ w', Below wa.heap.size wa w' → w'.cell? ⟨rp, 0, none⟩ = some (.int .i64 q.t) ∧ w'.cell? ⟨rp, 1, none⟩ = some (.int .i64 q.b) ∧ w'.cell? ⟨rp, 2, none⟩ = some (.int .i64 q.tb) ∧ w'.cell? ⟨rp, 3, none⟩ = some (.int .i64 q.hp) ∧ w'.cell? ⟨rp, 4, none⟩ = some (.int .i64 q.sz) ∧ w'.cell? ⟨rp, 5, none⟩ = some (.int .i64 c) ∧ w'.cell? ⟨rp, 6, none⟩ = some (.int .i64 e) := fun w' hb => ⟨(Ba.below hb).cell 0, (Ba.below hb).cell 1, (Ba.below hb).cell 2, (Ba.below hb).cell 3, (Ba.below hb).cell 4, (Ba.below hb).cell 5, (Ba.below hb).cell 6⟩
  have hbd : Below wa.heap.size wa wa.drew := (Below.refl wa.heap.size wa).drew
  have RD := keep _ hbd
  go_region_held3 (fun w' => w'.cell? ⟨rp, 0, none⟩ = some (.int .i64 q.t) ∧ w'.cell? ⟨rp, 1, none⟩ = some (.int .i64 q.b) ∧ w'.cell? ⟨rp, 2, none⟩ = some (.int .i64 q.tb) ∧ w'.cell? ⟨rp, 3, none⟩ = some (.int .i64 q.hp) ∧ w'.cell? ⟨rp, 4, none⟩ = some (.int .i64 q.sz) ∧ w'.cell? ⟨rp, 5, none⟩ = some (.int .i64 c) ∧ w'.cell? ⟨rp, 6, none⟩ = some (.int .i64 e)) (first | assumption | exact RD | exact keep _ (by assumption))
    ((go_at_call 107; refine (rNewTake q c e _).mono ?_; rintro e' w3 ⟨wz, rfl, hbz, hw3⟩; have hb3 : Below wa.heap.size wa w3 := (by rw [hw3]; exact S.bal (bel_trans hbd hbz) _); have hyn : wa.heap.size ≤ wz.heap.size := (bel_trans hbd hbz).size; have k3 : w3.heap[wz.heap.size]? = some (.cells ((TakeS.new q c e).rcells (.pointer none)) 180 (0, 0)) := (by rw [hw3]; exact heap_alloc_new _ _); obtain ⟨yn, hyn'⟩ : ∃ yn, wz.heap.size = yn := ⟨_, rfl⟩; rw [hyn'] at hyn k3 ⊢; clear hw3 hyn'; have B3 := Ba.below hb3; have d9 : w3.cell? ⟨rp, 9, none⟩ = some (yv) := B3.cell 9; have df9 := B3.free 9; have B4 := B3.set 9 (.pointer (some ⟨yn, 0, none⟩)); have S5 : (w3.setCell ⟨rp, 9, none⟩ (.pointer (some ⟨yn, 0, none⟩))).cell? ⟨rp, 0, none⟩ = some (.int .i64 q.t) ∧ (w3.setCell ⟨rp, 9, none⟩ (.pointer (some ⟨yn, 0, none⟩))).cell? ⟨rp, 1, none⟩ = some (.int .i64 q.b) ∧ (w3.setCell ⟨rp, 9, none⟩ (.pointer (some ⟨yn, 0, none⟩))).cell? ⟨rp, 2, none⟩ = some (.int .i64 q.tb) ∧ (w3.setCell ⟨rp, 9, none⟩ (.pointer (some ⟨yn, 0, none⟩))).cell? ⟨rp, 3, none⟩ = some (.int .i64 q.hp) ∧ (w3.setCell ⟨rp, 9, none⟩ (.pointer (some ⟨yn, 0, none⟩))).cell? ⟨rp, 4, none⟩ = some (.int .i64 q.sz) ∧ (w3.setCell ⟨rp, 9, none⟩ (.pointer (some ⟨yn, 0, none⟩))).cell? ⟨rp, 5, none⟩ = some (.int .i64 c) ∧ (w3.setCell ⟨rp, 9, none⟩ (.pointer (some ⟨yn, 0, none⟩))).cell? ⟨rp, 6, none⟩ = some (.int .i64 e) := ⟨B4.cell 0, B4.cell 1, B4.cell 2, B4.cell 3, B4.cell 4, B4.cell 5, B4.cell 6⟩))
  have T4 := (Ta.below hb3).set B3 9 (.pointer (some ⟨yn, 0, none⟩))
  have oz : Oth (rp :: xp :: []) w w1 := Oth.mono o1 (fun k hk => by simp at hk; simp [hk])
  have o4 : Oth (rp :: xp :: []) w (w3.setCell ⟨rp, 9, none⟩ (.pointer (some ⟨yn, 0, none⟩))) := ((oz.trans (oa.mono (by simp))).trans (Oth.below hb3)).trans (Oth.set _ _ _ _ (by simp))
  have hny : xp ≠ yn := by have := Pa.lt; omega
  have hnr : rp ≠ yn := by have := Ba.lt; omega
  have os : Oth [rp] w3 (w3.setCell ⟨rp, 9, none⟩ (.pointer (some ⟨yn, 0, none⟩))) := Oth.set _ _ _ _ (by simp)
  have P4 := (Pa.below hb3).oth os (by simpa using Ne.symm hne)
  have Y4 : Blk w0 (w3.setCell ⟨rp, 9, none⟩ (.pointer (some ⟨yn, 0, none⟩))) yn 180 ((TakeS.new q c e).rcells (.pointer none)) := Blk.oth ⟨k3, Nat.le_trans Ta.bel.size hyn, by decide⟩ os (by simpa using Ne.symm hnr)
  have wsz : w.heap.size ≤ yn := Nat.le_trans (oz.trans (oa.mono (by simp))).size hyn
  generalize w3.setCell ⟨rp, 9, none⟩ (.pointer (some ⟨yn, 0, none⟩)) = w4 at B4 T4 o4 P4 Y4 ⊢
  clear RD keep hbd d7 d8 d10 df7 df10 d9 df9 S5 d4 os oa Ba Ta Pa
  have g7 : w4.cell? ⟨rp, 7, none⟩ = some (.int .i64 2) := B4.cell 7
  have g10 : w4.cell? ⟨rp, 10, none⟩ = some (.int .i64 0) := B4.cell 10
  have gf7 := B4.free 7
  go_wp2
  go_ret
  exact ⟨rfl, T4, xp, _, [yn], ⟨B4, ⟨q1, P4, hq1, hh1⟩, fun _ => ⟨yn, none, rfl, rfl, ⟨Y4, fun k hk => by simp at hk, fun h => by simp [TakeS.new] at h, fun _ _ => rfl, TakeS.rk_new q c e⟩, by simp [TakeS.new]⟩, fun _ => ⟨rfl, hn⟩, fun h => by simp at h⟩, o4, fun k hk => by
    simp only [List.mem_cons, List.not_mem_nil, or_false] at hk
    rcases hk with rfl | rfl
    · exact .inl (by simp)
    · exact .inr wsz⟩
set_option maxHeartbeats 2000000 in
theorem yRes2A {x : ResS} (h : Y1 w0 w y s2 N) (R : RRs w0 w rp xp yv Y x) (ok : x.Ok) (hp : x.pc = 2) (hn : (x.take.next s2).pc ≠ 0) (hN : N < 1000000) :
    Calls Tryd.prog 95 #[.pointer (some ⟨rp, 0, none⟩), .pointer (some ⟨y, 0, none⟩)] w (RPost w0 w y s2 N rp xp Y x) := by
  obtain ⟨q, c, e, pc, pop, tk, z, cl⟩ := x
  obtain rfl : pc = 2 := hp
  obtain ⟨pq, Bp, hq, hh⟩ := R.pop
  have B := R.blk
  simp only [ResS.rcells] at B Bp hq
  have hne : rp ≠ xp := B.neB Bp (by decide)
  obtain ⟨yp, Q, rfl, hY, Rk, tk1⟩ := R.tk rfl
  simp only at Rk tk1
  have hyr : rp ≠ yp := B.neB Rk.blk (by decide)
  have hxy : xp ≠ yp := Bp.neB Rk.blk (by decide)
  have hFr : rp ∉ yp :: Q.toList := by
    simp only [List.mem_cons, Option.mem_toList, not_or]
    exact ⟨hyr, fun hk => B.neB (Rk.psh rp hk) (by decide) rfl⟩
  have hFx : xp ∉ yp :: Q.toList := by
    simp only [List.mem_cons, Option.mem_toList, not_or]
    exact ⟨hxy, fun hk => Bp.neB (Rk.psh xp hk) (by decide) rfl⟩
  have c7 : w.cell? ⟨rp, 7, none⟩ = some (.int .i64 2) := B.cell 7
  have c9 : w.cell? ⟨rp, 9, none⟩ = some (.pointer (some ⟨yp, 0, none⟩)) := B.cell 9
  obtain ⟨tn, htn⟩ : ∃ tn, tk.next s2 = tn := ⟨_, rfl⟩
  simp only [htn] at hn
  have hb : (tn.pc == 0) = false := by simpa using hn
  have en : ResS.next ⟨q, c, e, 2, pop, tk, z, cl⟩ s2 = ⟨q, c, e, 2, pop, tn, z, cl⟩ := by simp only [ResS.next, htn, if_neg hn]
  unfold RPost
  rw [en]
  go_enter Tryd.func95, Tryd.ntmps95
  go_wp2_with (go_at_call 108; refine (yTake h Rk ok.take tk1 hN).mono ?_; rintro e' w1 ⟨rfl, T1, Q1, R1, o1, k1⟩; rw [htn] at R1 ⊢; rw [hb]; have B1 := B.oth o1 hFr; have P1 := Bp.oth o1 hFx; have d7 : w1.cell? ⟨rp, 7, none⟩ = some (.int .i64 2) := B1.cell 7)
  go_ret
  exact ⟨rfl, T1, xp, _, yp :: Q1.toList, ⟨B1, ⟨pq, P1, hq, hh⟩, fun _ => ⟨yp, Q1, rfl, rfl, R1, by simp only; omega⟩, fun _ => R.seen (by simp), fun h => by simp at h⟩, Oth.mono o1 (fun k hk => by rw [hY]; simp only [List.mem_cons] at hk ⊢; exact .inr (.inr hk)), fun k hk => by
    rw [hY]
    simp only [List.mem_cons, Option.mem_toList] at hk ⊢
    rcases hk with rfl | rfl | hk
    · exact .inl (.inl rfl)
    · exact .inl (.inr (.inl rfl))
    · rcases k1 k hk with h' | h'
      · exact .inl (.inr (.inr h'))
      · exact .inr h'⟩
set_option maxHeartbeats 2000000 in
theorem yRes2B {x : ResS} (h : Y1 w0 w y s2 N) (R : RRs w0 w rp xp yv Y x) (ok : x.Ok) (hp : x.pc = 2) (hn : (x.take.next s2).pc = 0) (hz : (x.take.next s2).cell ≠ 0) (hN : N < 1000000) :
    Calls Tryd.prog 95 #[.pointer (some ⟨rp, 0, none⟩), .pointer (some ⟨y, 0, none⟩)] w (RPost w0 w y s2 N rp xp Y x) := by
  obtain ⟨q, c, e, pc, pop, tk, z, cl⟩ := x
  obtain rfl : pc = 2 := hp
  obtain ⟨pq, Bp, hq, hh⟩ := R.pop
  have B := R.blk
  simp only [ResS.rcells] at B Bp hq
  have hne : rp ≠ xp := B.neB Bp (by decide)
  obtain ⟨yp, Q, rfl, hY, Rk, tk1⟩ := R.tk rfl
  simp only at Rk tk1
  have hyr : rp ≠ yp := B.neB Rk.blk (by decide)
  have hxy : xp ≠ yp := Bp.neB Rk.blk (by decide)
  have hFr : rp ∉ yp :: Q.toList := by
    simp only [List.mem_cons, Option.mem_toList, not_or]
    exact ⟨hyr, fun hk => B.neB (Rk.psh rp hk) (by decide) rfl⟩
  have hFx : xp ∉ yp :: Q.toList := by
    simp only [List.mem_cons, Option.mem_toList, not_or]
    exact ⟨hxy, fun hk => Bp.neB (Rk.psh xp hk) (by decide) rfl⟩
  have c7 : w.cell? ⟨rp, 7, none⟩ = some (.int .i64 2) := B.cell 7
  have c9 : w.cell? ⟨rp, 9, none⟩ = some (.pointer (some ⟨yp, 0, none⟩)) := B.cell 9
  obtain ⟨tn, htn⟩ : ∃ tn, tk.next s2 = tn := ⟨_, rfl⟩
  simp only [htn] at hn
  simp only [htn] at hz
  have hb : (tn.pc == 0) = true := by simpa using hn
  have hs2 := R.seen (by simp)
  simp only at hs2
  have en : ResS.next ⟨q, c, e, 2, pop, tk, z, cl⟩ s2 = ⟨q, c, e, 0, pop, tn, z, tn.cell⟩ := by simp only [ResS.next, htn, if_pos hn, if_neg hz]
  unfold RPost
  rw [en]
  obtain ⟨v, hv⟩ : ∃ v, tn.cell = v := ⟨_, rfl⟩
  rw [hv] at hz ⊢
  have hz' : (v != 0) = true := by simpa using hz
  go_enter Tryd.func95, Tryd.ntmps95
  go_wp2_with (go_at_call 108; refine (yTake h Rk ok.take tk1 hN).mono ?_; rintro e' w1 ⟨rfl, T1, Q1, R1, o1, k1⟩; rw [htn] at R1 ⊢; rw [hb]; have B1 := B.oth o1 hFr; have P1 := Bp.oth o1 hFx; have d7 : w1.cell? ⟨rp, 7, none⟩ = some (.int .i64 2) := B1.cell 7; have d9 : w1.cell? ⟨rp, 9, none⟩ = some (.pointer (some ⟨yp, 0, none⟩)) := B1.cell 9; have d10 : w1.cell? ⟨rp, 10, none⟩ = some (.int .i64 cl) := B1.cell 10; have df7 := B1.free 7; have df10 := B1.free 10; have d12 : w1.cell? ⟨yp, 12, none⟩ = some (.int .i64 v) := (by rw [← hv]; exact R1.blk.cell 12); have Ba := (B1.set 10 (.int .i64 v)).set 7 (.int .i64 3); have n10 : ((w1.setCell ⟨rp, 10, none⟩ (.int .i64 v)).setCell ⟨rp, 7, none⟩ (.int .i64 3)).cell? ⟨rp, 10, none⟩ = some (.int .i64 v) := Ba.cell 10; have n7 : ((w1.setCell ⟨rp, 10, none⟩ (.int .i64 v)).setCell ⟨rp, 7, none⟩ (.int .i64 3)).cell? ⟨rp, 7, none⟩ = some (.int .i64 3) := Ba.cell 7; have nf7 := Ba.free 7; have m7 : (((w1.setCell ⟨rp, 10, none⟩ (.int .i64 v)).setCell ⟨rp, 7, none⟩ (.int .i64 3)).setCell ⟨rp, 7, none⟩ (.int .i64 0)).cell? ⟨rp, 7, none⟩ = some (.int .i64 0) := (Ba.set 7 (.int .i64 0)).cell 7)
  have Ta := (T1.set B1 10 (.int .i64 v)).set (B1.set 10 (.int .i64 v)) 7 (.int .i64 3)
  have oa : Oth [rp] w1 ((w1.setCell ⟨rp, 10, none⟩ (.int .i64 v)).setCell ⟨rp, 7, none⟩ (.int .i64 3)) := (Oth.set _ _ _ _ (by simp)).trans (Oth.set _ _ _ _ (by simp))
  have Pa := P1.oth oa (by simpa using Ne.symm hne)
  have oz : Oth (rp :: xp :: Y) w w1 := Oth.mono o1 (fun k hk => by rw [hY]; simp only [List.mem_cons] at hk ⊢; exact .inr (.inr hk))
  go_ret
  have o5 : Oth [rp] ((w1.setCell ⟨rp, 10, none⟩ (.int .i64 v)).setCell ⟨rp, 7, none⟩ (.int .i64 3)) (((w1.setCell ⟨rp, 10, none⟩ (.int .i64 v)).setCell ⟨rp, 7, none⟩ (.int .i64 3)).setCell ⟨rp, 7, none⟩ (.int .i64 0)) := Oth.set _ _ _ _ (by simp)
  exact ⟨rfl, Ta.set Ba 7 (.int .i64 0), xp, _, [], ⟨Ba.set 7 (.int .i64 0), ⟨pq, Pa.oth o5 (by simpa using Ne.symm hne), hq, hh⟩, fun h => by simp at h, fun h => by simp at h, fun _ => rfl⟩, (oz.trans (oa.mono (by simp))).trans (o5.mono (by simp)), fun k hk => .inl (by simp at hk; simp [hk])⟩
set_option maxHeartbeats 2000000 in
theorem yRes2C {x : ResS} (h : Y1 w0 w y s2 N) (R : RRs w0 w rp xp yv Y x) (ok : x.Ok) (hp : x.pc = 2) (hn : (x.take.next s2).pc = 0) (hz : (x.take.next s2).cell = 0) (hN : N < 1000000) :
    Calls Tryd.prog 95 #[.pointer (some ⟨rp, 0, none⟩), .pointer (some ⟨y, 0, none⟩)] w (RPost w0 w y s2 N rp xp Y x) := by
  obtain ⟨q, c, e, pc, pop, tk, z, cl⟩ := x
  obtain rfl : pc = 2 := hp
  obtain ⟨pq, Bp, hq, hh⟩ := R.pop
  have B := R.blk
  simp only [ResS.rcells] at B Bp hq
  have hne : rp ≠ xp := B.neB Bp (by decide)
  obtain ⟨yp, Q, rfl, hY, Rk, tk1⟩ := R.tk rfl
  simp only at Rk tk1
  have hyr : rp ≠ yp := B.neB Rk.blk (by decide)
  have hxy : xp ≠ yp := Bp.neB Rk.blk (by decide)
  have hFr : rp ∉ yp :: Q.toList := by
    simp only [List.mem_cons, Option.mem_toList, not_or]
    exact ⟨hyr, fun hk => B.neB (Rk.psh rp hk) (by decide) rfl⟩
  have hFx : xp ∉ yp :: Q.toList := by
    simp only [List.mem_cons, Option.mem_toList, not_or]
    exact ⟨hxy, fun hk => Bp.neB (Rk.psh xp hk) (by decide) rfl⟩
  have c7 : w.cell? ⟨rp, 7, none⟩ = some (.int .i64 2) := B.cell 7
  have c9 : w.cell? ⟨rp, 9, none⟩ = some (.pointer (some ⟨yp, 0, none⟩)) := B.cell 9
  obtain ⟨tn, htn⟩ : ∃ tn, tk.next s2 = tn := ⟨_, rfl⟩
  simp only [htn] at hn
  simp only [htn] at hz
  have hb : (tn.pc == 0) = true := by simpa using hn
  have hs2 := R.seen (by simp)
  simp only at hs2
  have en : ResS.next ⟨q, c, e, 2, pop, tk, z, cl⟩ s2 = ⟨q, c, e, 3, pop, tn, z, tn.cell⟩ := by simp only [ResS.next, htn, if_pos hn, if_pos hz]
  unfold RPost
  rw [en]
  obtain ⟨v, hv⟩ : ∃ v, tn.cell = v := ⟨_, rfl⟩
  rw [hv] at hz ⊢
  subst hz
  go_enter Tryd.func95, Tryd.ntmps95
  go_wp2_with (go_at_call 108; refine (yTake h Rk ok.take tk1 hN).mono ?_; rintro e' w1 ⟨rfl, T1, Q1, R1, o1, k1⟩; rw [htn] at R1 ⊢; rw [hb]; have B1 := B.oth o1 hFr; have P1 := Bp.oth o1 hFx; have d7 : w1.cell? ⟨rp, 7, none⟩ = some (.int .i64 2) := B1.cell 7; have d9 : w1.cell? ⟨rp, 9, none⟩ = some (.pointer (some ⟨yp, 0, none⟩)) := B1.cell 9; have d10 : w1.cell? ⟨rp, 10, none⟩ = some (.int .i64 cl) := B1.cell 10; have df7 := B1.free 7; have df10 := B1.free 10; have d12 : w1.cell? ⟨yp, 12, none⟩ = some (.int .i64 0) := (by rw [← hv]; exact R1.blk.cell 12); have Ba := (B1.set 10 (.int .i64 0)).set 7 (.int .i64 3); have n10 : ((w1.setCell ⟨rp, 10, none⟩ (.int .i64 0)).setCell ⟨rp, 7, none⟩ (.int .i64 3)).cell? ⟨rp, 10, none⟩ = some (.int .i64 0) := Ba.cell 10; have n7 : ((w1.setCell ⟨rp, 10, none⟩ (.int .i64 0)).setCell ⟨rp, 7, none⟩ (.int .i64 3)).cell? ⟨rp, 7, none⟩ = some (.int .i64 3) := Ba.cell 7; have nf7 := Ba.free 7; have m7 : (((w1.setCell ⟨rp, 10, none⟩ (.int .i64 0)).setCell ⟨rp, 7, none⟩ (.int .i64 3)).setCell ⟨rp, 7, none⟩ (.int .i64 0)).cell? ⟨rp, 7, none⟩ = some (.int .i64 0) := (Ba.set 7 (.int .i64 0)).cell 7)
  have Ta := (T1.set B1 10 (.int .i64 0)).set (B1.set 10 (.int .i64 0)) 7 (.int .i64 3)
  have oa : Oth [rp] w1 ((w1.setCell ⟨rp, 10, none⟩ (.int .i64 0)).setCell ⟨rp, 7, none⟩ (.int .i64 3)) := (Oth.set _ _ _ _ (by simp)).trans (Oth.set _ _ _ _ (by simp))
  have Pa := P1.oth oa (by simpa using Ne.symm hne)
  have oz : Oth (rp :: xp :: Y) w w1 := Oth.mono o1 (fun k hk => by rw [hY]; simp only [List.mem_cons] at hk ⊢; exact .inr (.inr hk))
  go_ret
  exact ⟨rfl, Ta, xp, _, [], ⟨Ba, ⟨pq, Pa, hq, hh⟩, fun h => by simp at h, fun _ => ⟨hs2.1, hs2.2⟩, fun _ => rfl⟩, oz.trans (oa.mono (by simp)), fun k hk => .inl (by simp at hk; simp [hk])⟩
set_option maxHeartbeats 2000000 in
theorem yRes3A {x : ResS} (h : Y1 w0 w y s2 N) (R : RRs w0 w rp xp yv Y x) (ok : x.Ok) (hp : x.pc = 3) (hz : s2.got x.hd = x.seen) (hN : N < 1000000) :
    Calls Tryd.prog 95 #[.pointer (some ⟨rp, 0, none⟩), .pointer (some ⟨y, 0, none⟩)] w (RPost w0 w y s2 N rp xp Y x) := by
  obtain ⟨q, c, e, pc, pop, tk, z, cl⟩ := x
  obtain rfl : pc = 3 := hp
  obtain ⟨pq, Bp, hq, hh⟩ := R.pop
  have B := R.blk
  simp only [ResS.rcells] at B Bp hq
  have hne : rp ≠ xp := B.neB Bp (by decide)
  obtain rfl : Y = [] := R.nk (by simp)
  obtain ⟨hse, hpc⟩ := R.seen (by simp)
  simp only at hse hpc
  have c0 := ok.c0
  have c2 := ok.c2
  have e0 := ok.e0
  have e1 := ok.e1
  simp only at c0 c2 e0 e1
  have esaw : pop.saw = z := by simp [PopS.saw, hpc, hse]
  have c7 : w.cell? ⟨rp, 7, none⟩ = some (.int .i64 3) := B.cell 7
  obtain ⟨j, hj⟩ : ∃ j, (ResS.mk q c e 3 pop tk z cl).hd = j := ⟨_, rfl⟩
  have hj' : 3 + 3 * e + c = j := hj
  have en : ResS.next ⟨q, c, e, 3, pop, tk, z, cl⟩ s2 = ⟨q, c, e, 0, pop, tk, z, cl⟩ := by simp only [ResS.next, hj] at hz ⊢; rw [if_pos hz]
  have em : ResS.mem ⟨q, c, e, 3, pop, tk, z, cl⟩ s2 = s2.load j := by simp only [ResS.mem, hj]
  unfold RPost
  rw [en, em]
  simp only [hj] at hz
  have hg : (s2.got j == z) = true := by simpa using hz
  obtain ⟨v, hv⟩ : ∃ v, s2.got j = v := ⟨_, rfl⟩
  rw [hv] at hg
  obtain rfl : v = z := hv ▸ hz
  have LL := fun w' => P.rList e c e0 e1 c0 c2 w'
  simp only [hj'] at LL
  have keep : ∀ w', Below w.heap.size w w' → w'.cell? ⟨rp, 5, none⟩ = some (.int .i64 c) ∧ w'.cell? ⟨rp, 6, none⟩ = some (.int .i64 e) := fun w' hb => ⟨(B.below hb).cell 5, (B.below hb).cell 6⟩
  have hbd : Below w.heap.size w w.drew := (Below.refl w.heap.size w).drew
  have RD := keep _ hbd
  go_enter Tryd.func95, Tryd.ntmps95
  go_wp2
  go_region_held3 (fun w' => w'.cell? ⟨rp, 5, none⟩ = some (.int .i64 c) ∧ w'.cell? ⟨rp, 6, none⟩ = some (.int .i64 e)) (first | assumption | exact RD | exact keep _ (by assumption))
    (first
      | (go_at_call 105; refine (LL _).mono ?_; rintro e' wx ⟨rfl, hwx⟩; have hbx : Below w.heap.size w wx := (by rw [hwx]; exact hbd); clear hwx)
      | (go_at_call 44; refine (zLoad (h.below hbx) hN j).mono ?_; rintro e' w1 ⟨rfl, T1, o1⟩; rw [hv]; have B1 := (B.below hbx).oth o1 (by simp); have P1 := (Bp.below hbx).oth o1 (by simp); have S1 : w1.cell? ⟨rp, 5, none⟩ = some (.int .i64 c) ∧ w1.cell? ⟨rp, 6, none⟩ = some (.int .i64 e) := ⟨B1.cell 5, B1.cell 6⟩; have d7 : w1.cell? ⟨rp, 7, none⟩ = some (.int .i64 3) := B1.cell 7; have d8 : w1.cell? ⟨rp, 8, none⟩ = some (.pointer (some ⟨xp, 0, none⟩)) := B1.cell 8; have df7 := B1.free 7; have df8 := B1.free 8; have d5 : w1.cell? ⟨xp, 5, none⟩ = some (.int .u64 v) := (by rw [← esaw]; exact P1.cell 5)))
  have oz : Oth (rp :: xp :: []) w w1 := (Oth.below hbx).trans (o1.mono (by simp))
  go_wp2
  have Ba := (B1.set 7 (.int .i64 1)).set 7 (.int .i64 0)
  have Ta := (T1.set B1 7 (.int .i64 1)).set (B1.set 7 (.int .i64 1)) 7 (.int .i64 0)
  have oa : Oth [rp] w1 ((w1.setCell ⟨rp, 7, none⟩ (.int .i64 1)).setCell ⟨rp, 7, none⟩ (.int .i64 0)) := (Oth.set _ _ _ _ (by simp)).trans (Oth.set _ _ _ _ (by simp))
  go_ret
  exact ⟨rfl, Ta, xp, yv, [], ⟨Ba, ⟨pq, P1.oth oa (by simpa using Ne.symm hne), hq, hh⟩, fun h => by simp at h, fun h => by simp at h, fun _ => rfl⟩, oz.trans (oa.mono (by simp)), fun k hk => .inl hk⟩
set_option maxHeartbeats 2000000 in
theorem yRes3B {x : ResS} (h : Y1 w0 w y s2 N) (R : RRs w0 w rp xp yv Y x) (ok : x.Ok) (hp : x.pc = 3) (hz : s2.got x.hd ≠ x.seen) (hN : N < 1000000) :
    Calls Tryd.prog 95 #[.pointer (some ⟨rp, 0, none⟩), .pointer (some ⟨y, 0, none⟩)] w (RPost w0 w y s2 N rp xp Y x) := by
  obtain ⟨q, c, e, pc, pop, tk, z, cl⟩ := x
  obtain rfl : pc = 3 := hp
  obtain ⟨pq, Bp, hq, hh⟩ := R.pop
  have B := R.blk
  simp only [ResS.rcells] at B Bp hq
  have hne : rp ≠ xp := B.neB Bp (by decide)
  obtain rfl : Y = [] := R.nk (by simp)
  obtain ⟨hse, hpc⟩ := R.seen (by simp)
  simp only at hse hpc
  have c0 := ok.c0
  have c2 := ok.c2
  have e0 := ok.e0
  have e1 := ok.e1
  simp only at c0 c2 e0 e1
  have esaw : pop.saw = z := by simp [PopS.saw, hpc, hse]
  have c7 : w.cell? ⟨rp, 7, none⟩ = some (.int .i64 3) := B.cell 7
  obtain ⟨j, hj⟩ : ∃ j, (ResS.mk q c e 3 pop tk z cl).hd = j := ⟨_, rfl⟩
  have hj' : 3 + 3 * e + c = j := hj
  have en : ResS.next ⟨q, c, e, 3, pop, tk, z, cl⟩ s2 = ⟨q, c, e, 1, PopS.new j, tk, z, cl⟩ := by simp only [ResS.next, hj] at hz ⊢; rw [if_neg hz]
  have em : ResS.mem ⟨q, c, e, 3, pop, tk, z, cl⟩ s2 = s2.load j := by simp only [ResS.mem, hj]
  unfold RPost
  rw [en, em]
  simp only [hj] at hz
  have hg : (s2.got j == z) = false := by simpa using hz
  obtain ⟨v, hv⟩ : ∃ v, s2.got j = v := ⟨_, rfl⟩
  rw [hv] at hg
  clear hz
  have LL := fun w' => P.rList e c e0 e1 c0 c2 w'
  simp only [hj'] at LL
  have keep : ∀ w', Below w.heap.size w w' → w'.cell? ⟨rp, 5, none⟩ = some (.int .i64 c) ∧ w'.cell? ⟨rp, 6, none⟩ = some (.int .i64 e) := fun w' hb => ⟨(B.below hb).cell 5, (B.below hb).cell 6⟩
  have hbd : Below w.heap.size w w.drew := (Below.refl w.heap.size w).drew
  have RD := keep _ hbd
  go_enter Tryd.func95, Tryd.ntmps95
  go_wp2
  go_region_held3 (fun w' => w'.cell? ⟨rp, 5, none⟩ = some (.int .i64 c) ∧ w'.cell? ⟨rp, 6, none⟩ = some (.int .i64 e)) (first | assumption | exact RD | exact keep _ (by assumption))
    (first
      | (go_at_call 105; refine (LL _).mono ?_; rintro e' wx ⟨rfl, hwx⟩; have hbx : Below w.heap.size w wx := (by rw [hwx]; exact hbd); clear hwx)
      | (go_at_call 44; refine (zLoad (h.below hbx) hN j).mono ?_; rintro e' w1 ⟨rfl, T1, o1⟩; rw [hv]; have B1 := (B.below hbx).oth o1 (by simp); have P1 := (Bp.below hbx).oth o1 (by simp); have S1 : w1.cell? ⟨rp, 5, none⟩ = some (.int .i64 c) ∧ w1.cell? ⟨rp, 6, none⟩ = some (.int .i64 e) := ⟨B1.cell 5, B1.cell 6⟩; have d7 : w1.cell? ⟨rp, 7, none⟩ = some (.int .i64 3) := B1.cell 7; have d8 : w1.cell? ⟨rp, 8, none⟩ = some (.pointer (some ⟨xp, 0, none⟩)) := B1.cell 8; have df7 := B1.free 7; have df8 := B1.free 8; have d5 : w1.cell? ⟨xp, 5, none⟩ = some (.int .u64 z) := (by rw [← esaw]; exact P1.cell 5)))
  have oz : Oth (rp :: xp :: []) w w1 := (Oth.below hbx).trans (o1.mono (by simp))
  have Ba := B1.set 7 (.int .i64 1)
  have Ta := T1.set B1 7 (.int .i64 1)
  have oa : Oth [rp] w1 (w1.setCell ⟨rp, 7, none⟩ (.int .i64 1)) := Oth.set _ _ _ _ (by simp)
  go_wp2
  generalize w1.setCell ⟨rp, 7, none⟩ (.int .i64 1) = wa at Ba Ta oa ⊢
  have keep2 : ∀ w', Below wa.heap.size wa w' → w'.cell? ⟨rp, 5, none⟩ = some (.int .i64 c) ∧ w'.cell? ⟨rp, 6, none⟩ = some (.int .i64 e) := fun w' hb => ⟨(Ba.below hb).cell 5, (Ba.below hb).cell 6⟩
  have hbd2 : Below wa.heap.size wa wa.drew := (Below.refl wa.heap.size wa).drew
  have RD2 := keep2 _ hbd2
  clear RD keep hbd S1 d7 d8 df7 df8 d5
  go_region_held3 (fun w' => w'.cell? ⟨rp, 5, none⟩ = some (.int .i64 c) ∧ w'.cell? ⟨rp, 6, none⟩ = some (.int .i64 e)) (first | assumption | exact RD2 | exact keep2 _ (by assumption))
    (first
      | (go_at_call 105; refine (LL _).mono ?_; rintro e' wx ⟨rfl, hwx⟩; have hbx2 : Below wa.heap.size wa wx := (by rw [hwx]; exact hbd2); clear hwx)
      | (go_at_call 104; refine (rNewPop j _).mono ?_; rintro e' w3 ⟨rfl, hw3⟩; have hb3 : Below wa.heap.size wa w3 := (by rw [hw3]; exact S.bal hbx2 _); have k3 : w3.heap[wx.heap.size]? = some (.cells ((PopS.new j).rcells 0) 176 (0, 0)) := (by rw [hw3]; exact heap_alloc_new _ _); have hyn : wa.heap.size ≤ wx.heap.size := hbx2.size; obtain ⟨yn, hyn'⟩ : ∃ yn, wx.heap.size = yn := ⟨_, rfl⟩; rw [hyn'] at hyn k3 ⊢; clear hw3 hyn'; have B3 := Ba.below hb3; have d8 : w3.cell? ⟨rp, 8, none⟩ = some (.pointer (some ⟨xp, 0, none⟩)) := B3.cell 8; have df8 := B3.free 8; have B4 := B3.set 8 (.pointer (some ⟨yn, 0, none⟩)); have S5 : (w3.setCell ⟨rp, 8, none⟩ (.pointer (some ⟨yn, 0, none⟩))).cell? ⟨rp, 5, none⟩ = some (.int .i64 c) ∧ (w3.setCell ⟨rp, 8, none⟩ (.pointer (some ⟨yn, 0, none⟩))).cell? ⟨rp, 6, none⟩ = some (.int .i64 e) := ⟨B4.cell 5, B4.cell 6⟩))
  have T4 := (Ta.below hb3).set B3 8 (.pointer (some ⟨yn, 0, none⟩))
  have os : Oth [rp] w3 (w3.setCell ⟨rp, 8, none⟩ (.pointer (some ⟨yn, 0, none⟩))) := Oth.set _ _ _ _ (by simp)
  have hnr : rp ≠ yn := by have := Ba.lt; omega
  have o4 : Oth (rp :: xp :: []) w (w3.setCell ⟨rp, 8, none⟩ (.pointer (some ⟨yn, 0, none⟩))) := ((oz.trans (oa.mono (by simp))).trans (Oth.below hb3)).trans (os.mono (by simp))
  have Y4 : Blk w0 (w3.setCell ⟨rp, 8, none⟩ (.pointer (some ⟨yn, 0, none⟩))) yn 176 ((PopS.new j).rcells 0) := Blk.oth ⟨k3, Nat.le_trans Ta.bel.size hyn, by decide⟩ os (by simpa using Ne.symm hnr)
  have wsz : w.heap.size ≤ yn := Nat.le_trans (oz.trans (oa.mono (by simp))).size hyn
  have g7 : (w3.setCell ⟨rp, 8, none⟩ (.pointer (some ⟨yn, 0, none⟩))).cell? ⟨rp, 7, none⟩ = some (.int .i64 1) := B4.cell 7
  generalize w3.setCell ⟨rp, 8, none⟩ (.pointer (some ⟨yn, 0, none⟩)) = w4 at B4 T4 o4 Y4 g7 ⊢
  clear RD2 keep2 hbd2 S5 d8 df8
  go_wp2
  go_ret
  exact ⟨rfl, T4, yn, yv, [], ⟨B4, ⟨0, Y4, rfl, U64.zero⟩, fun h => by simp at h, fun h => by simp at h, fun _ => rfl⟩, o4, fun k hk => .inr (by simp at hk; rw [hk]; exact wsz)⟩
theorem yRes {x : ResS} (h : Y1 w0 w y s2 N) (R : RRs w0 w rp xp yv Y x) (ok : x.Ok) (h1 : 1 ≤ x.pc) (hN : N < 1000000) :
    Calls Tryd.prog 95 #[.pointer (some ⟨rp, 0, none⟩), .pointer (some ⟨y, 0, none⟩)] w (RPost w0 w y s2 N rp xp Y x) := by
  have h3 := ok.pc
  have : x.pc = 1 ∨ x.pc = 2 ∨ x.pc = 3 := by omega
  rcases this with hp | hp | hp
  · by_cases hn : (x.pop.next s2).pc = 0
    · by_cases hz : t0 (x.pop.next s2).seen = 0
      · exact yRes1C h R ok hp hn hz hN
      · exact yRes1B h R ok hp hn hz hN
    · exact yRes1A h R ok hp hn hN
  · by_cases hn : (x.take.next s2).pc = 0
    · by_cases hz : (x.take.next s2).cell = 0
      · exact yRes2C h R ok hp hn hz hN
      · exact yRes2B h R ok hp hn hz hN
    · exact yRes2A h R ok hp hn hN
  · by_cases hz : s2.got x.hd = x.seen
    · exact yRes3A h R ok hp hz hN
    · exact yRes3B h R ok hp hz hN
end
end Go.Proofs.YtoablodmodnamaaDoor
