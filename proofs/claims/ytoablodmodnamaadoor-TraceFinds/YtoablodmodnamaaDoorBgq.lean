/-
  The reference's Take: its last steps.
-/
import Derived.Test.YtoablodmodnamaaDoorBtq
import Derived.Deep.RegionHeld3
namespace Go.Proofs.YtoablodmodnamaaDoor
set_option linter.unusedVariables false
set_option linter.unusedSimpArgs false
set_option maxRecDepth 100000
open Go.ChangeShapes Go.WideShapes Go.RowKit
open S.Plain (t0 t1 tw nx bw b0 b1 b2 b3)
open H.Plain (hw pS pC pN pM pG pT pL)


section
variable {w : World} {L : Loc} {s : St} {p : Nat} {q : Pl} {c e K z v : Int} {xp : Value}
/-- a machine beside another, when that one went -/
theorem At.beside {TM T T' : TypeId} {w w1 : World} {L L1 : Loc} {s s1 : St} {p y : Nat} {cs cs' : Array Value} (A : At TM w L s p T cs) (B : At TM w1 L1 s1 y T' cs') (g : Went w L y w1 L1) (h : p ≠ y) : At TM w1 L1 s1 p T cs :=
  ⟨B.mem, (g.kept.block p (lt_of_block A.blk) (by simp only [List.mem_cons, not_or]; exact ⟨h, A.notin⟩)).trans A.blk, A.hT, B.wid, B.zero.1, A.zero.2⟩
set_option maxHeartbeats 2000000 in
theorem rT6f (A : At 80 w L s p 180 #[.int .i64 q.t, .int .i64 q.b, .int .i64 q.tb, .int .i64 q.hp, .int .i64 q.sz, .int .i64 c, .int .i64 e, .int .i64 6, .int .i64 K, .int .u64 z, .int .u64 v, xp, .int .i64 0]) (hq : q.Ok) (c0 : 0 ≤ c) (c2 : c ≤ 2) (e0 : 0 ≤ e) (e1 : e ≤ 1) (f : s.Fit) (hc : s.c < 1000000) (r : s.Rng) (hz : U64 z) (hv : U64 v) {y : Nat} {u : PushS} (uk : u.Ok) (hy : w.heap[y]? = some (.cells u.rcells 187 (0, 0))) (y2 : y ≠ 0) (hok : ((u.next s).pc == 0) = false) (hxp : xp = .pointer (some ⟨y, 0, none⟩)) :
    Calls Tryd.prog 108 #[.pointer (some ⟨p, 0, none⟩), .pointer (some ⟨L.b, 0, none⟩)] w fun e' w' => e' = .returned (.bool false) ∧
      ∃ L', At 80 w' L' (u.mem s) p 180 #[.int .i64 q.t, .int .i64 q.b, .int .i64 q.tb, .int .i64 q.hp, .int .i64 q.sz, .int .i64 c, .int .i64 e, .int .i64 6, .int .i64 K, .int .u64 z, .int .u64 v, .pointer (some ⟨y, 0, none⟩), .int .i64 0] ∧ w'.heap[y]? = some (.cells (u.next s).rcells 187 (0, 0)) ∧ Kept (p :: y :: L.fp) w w' ∧ (∀ k ∈ L'.fp, k ∈ L.fp ∨ w.heap.size ≤ k) ∧ L'.b = L.b := by
  have tb0 := (t0_bounds z).1
  have tb1 := (t0_bounds z).2
  have f0 := ftop0 (t0 z) (t1 z)
  have cb0 := (cs_bounds c0 c2).1
  have cb1 := (cs_bounds c0 c2).2
  subst hxp
  have hpy : p ≠ y := fun h => by
    have := A.blk
    rw [h, hy] at this
    simp at this
  have c9 : w.cell? ⟨p, 9, none⟩ = some (.int .u64 z) := A.cell 9
  have cf9 := A.free 9
  have c5 : w.cell? ⟨p, 5, none⟩ = some (.int .i64 c) := A.cell 5
  have cf5 := A.free 5
  have c7 : w.cell? ⟨p, 7, none⟩ = some (.int .i64 6) := A.cell 7
  have cf7 := A.free 7
  go_enter Tryd.func108, Tryd.ntmps108
  go_wp2_with (first
    | (go_at_call 117; refine (rPush Ay uk f hc r).mono ?_; rintro e' w1 ⟨rfl, L1, Ay1, gy⟩; rw [hok]; have A1 := Aa.beside Ay1 gy hpy; have hk1 : Kept (p :: y :: L.fp) w w1 := (Kept.of_below hba).trans gy.kept (fun k hk => .inl (by simp only [List.mem_cons] at hk ⊢; exact .inr hk)); have hn1 : ∀ k ∈ L1.fp, k ∈ L.fp ∨ w.heap.size ≤ k := (fun k hk => (gy.new k hk).imp id (fun h => Nat.le_trans hba.size h)); have b7 : w1.cell? ⟨p, 7, none⟩ = some (.int .i64 6) := A1.cell 7; have bf7 := A1.free 7; have b12 : w1.cell? ⟨p, 12, none⟩ = some (.int .i64 0) := A1.cell 12; have bf12 := A1.free 12)
    | (go_at_call 33; refine (S.rOfTop _ hz.1 hz.2 _).mono ?_; rintro e' wa ⟨rfl, hwa⟩; have hba : Below w.heap.size w wa := (by rw [hwa]; go_grown); clear hwa; have Aa := A.below hba; have ax : wa.cell? ⟨p, 11, none⟩ = some (.pointer (some ⟨y, 0, none⟩)) := Aa.cell 11; have hya := (hba.block y (lt_of_block hy)).trans hy; have Ay : At 80 wa L s y 187 u.rcells := ⟨Aa.mem, hya, by decide, Aa.wid, Aa.zero.1, y2⟩; have ga := Went.of_below hba L p; have a0 : wa.cell? ⟨p, 0, none⟩ = some (.int .i64 q.t) := Aa.cell 0; have af0 := Aa.free 0; have a1 : wa.cell? ⟨p, 1, none⟩ = some (.int .i64 q.b) := Aa.cell 1; have af1 := Aa.free 1; have a2 : wa.cell? ⟨p, 2, none⟩ = some (.int .i64 q.tb) := Aa.cell 2; have af2 := Aa.free 2; have a3 : wa.cell? ⟨p, 3, none⟩ = some (.int .i64 q.hp) := Aa.cell 3; have af3 := Aa.free 3; have a4 : wa.cell? ⟨p, 4, none⟩ = some (.int .i64 q.sz) := Aa.cell 4; have af4 := Aa.free 4; have a5 : wa.cell? ⟨p, 5, none⟩ = some (.int .i64 c) := Aa.cell 5; have af5 := Aa.free 5; have a6 : wa.cell? ⟨p, 6, none⟩ = some (.int .i64 e) := Aa.cell 6; have af6 := Aa.free 6; have a7 : wa.cell? ⟨p, 7, none⟩ = some (.int .i64 6) := Aa.cell 7; have af7 := Aa.free 7; have a8 : wa.cell? ⟨p, 8, none⟩ = some (.int .i64 K) := Aa.cell 8; have af8 := Aa.free 8; have a9 : wa.cell? ⟨p, 9, none⟩ = some (.int .u64 z) := Aa.cell 9; have af9 := Aa.free 9; have a10 : wa.cell? ⟨p, 10, none⟩ = some (.int .u64 v) := Aa.cell 10; have af10 := Aa.free 10)
    | (go_at_call 113; refine (P.rCells c _).mono ?_; rintro e' wx ⟨rfl, hwx⟩; rw [hwx]; clear hwx wx))
  go_ret
  exact ⟨rfl, L1, A1, Ay1.blk, hk1, hn1, gy.b⟩
set_option maxHeartbeats 2000000 in
theorem rT6t (A : At 80 w L s p 180 #[.int .i64 q.t, .int .i64 q.b, .int .i64 q.tb, .int .i64 q.hp, .int .i64 q.sz, .int .i64 c, .int .i64 e, .int .i64 6, .int .i64 K, .int .u64 z, .int .u64 v, xp, .int .i64 0]) (hq : q.Ok) (c0 : 0 ≤ c) (c2 : c ≤ 2) (e0 : 0 ≤ e) (e1 : e ≤ 1) (f : s.Fit) (hc : s.c < 1000000) (r : s.Rng) (hz : U64 z) (hv : U64 v) {y : Nat} {u : PushS} (uk : u.Ok) (hy : w.heap[y]? = some (.cells u.rcells 187 (0, 0))) (y2 : y ≠ 0) (hok : ((u.next s).pc == 0) = true) (hxp : xp = .pointer (some ⟨y, 0, none⟩)) :
    Calls Tryd.prog 108 #[.pointer (some ⟨p, 0, none⟩), .pointer (some ⟨L.b, 0, none⟩)] w fun e' w' => e' = .returned (.bool true) ∧
      ∃ L', At 80 w' L' (u.mem s) p 180 #[.int .i64 q.t, .int .i64 q.b, .int .i64 q.tb, .int .i64 q.hp, .int .i64 q.sz, .int .i64 c, .int .i64 e, .int .i64 0, .int .i64 K, .int .u64 z, .int .u64 v, .pointer (some ⟨y, 0, none⟩), .int .i64 (q.cell (t0 z - 1) c 0)] ∧ w'.heap[y]? = some (.cells (u.next s).rcells 187 (0, 0)) ∧ Kept (p :: y :: L.fp) w w' ∧ (∀ k ∈ L'.fp, k ∈ L.fp ∨ w.heap.size ≤ k) ∧ L'.b = L.b := by
  have tb0 := (t0_bounds z).1
  have tb1 := (t0_bounds z).2
  have f0 := ftop0 (t0 z) (t1 z)
  have cb0 := (cs_bounds c0 c2).1
  have cb1 := (cs_bounds c0 c2).2
  subst hxp
  have hpy : p ≠ y := fun h => by
    have := A.blk
    rw [h, hy] at this
    simp at this
  have c9 : w.cell? ⟨p, 9, none⟩ = some (.int .u64 z) := A.cell 9
  have cf9 := A.free 9
  have c5 : w.cell? ⟨p, 5, none⟩ = some (.int .i64 c) := A.cell 5
  have cf5 := A.free 5
  have c7 : w.cell? ⟨p, 7, none⟩ = some (.int .i64 6) := A.cell 7
  have cf7 := A.free 7
  go_enter Tryd.func108, Tryd.ntmps108
  go_wp2_with (first
    | (have hh := A1; go_at_call 115; refine (rCl A1.blk hq hz (k := 0) (by omega) (by omega)).mono ?_; rintro e' w2 ⟨rfl, hb2⟩; have A2 := A1.below hb2; have d7 : w2.cell? ⟨p, 7, none⟩ = some (.int .i64 6) := A2.cell 7; have df7 := A2.free 7; have d12 : w2.cell? ⟨p, 12, none⟩ = some (.int .i64 0) := A2.cell 12; have df12 := A2.free 12)
    | (go_at_call 117; refine (rPush Ay uk f hc r).mono ?_; rintro e' w1 ⟨rfl, L1, Ay1, gy⟩; rw [hok]; have A1 := Aa.beside Ay1 gy hpy; have hk1 : Kept (p :: y :: L.fp) w w1 := (Kept.of_below hba).trans gy.kept (fun k hk => .inl (by simp only [List.mem_cons] at hk ⊢; exact .inr hk)); have hn1 : ∀ k ∈ L1.fp, k ∈ L.fp ∨ w.heap.size ≤ k := (fun k hk => (gy.new k hk).imp id (fun h => Nat.le_trans hba.size h)); have b7 : w1.cell? ⟨p, 7, none⟩ = some (.int .i64 6) := A1.cell 7; have bf7 := A1.free 7; have b12 : w1.cell? ⟨p, 12, none⟩ = some (.int .i64 0) := A1.cell 12; have bf12 := A1.free 12)
    | (go_at_call 33; refine (S.rOfTop _ hz.1 hz.2 _).mono ?_; rintro e' wa ⟨rfl, hwa⟩; have hba : Below w.heap.size w wa := (by rw [hwa]; go_grown); clear hwa; have Aa := A.below hba; have ax : wa.cell? ⟨p, 11, none⟩ = some (.pointer (some ⟨y, 0, none⟩)) := Aa.cell 11; have hya := (hba.block y (lt_of_block hy)).trans hy; have Ay : At 80 wa L s y 187 u.rcells := ⟨Aa.mem, hya, by decide, Aa.wid, Aa.zero.1, y2⟩; have ga := Went.of_below hba L p; have a0 : wa.cell? ⟨p, 0, none⟩ = some (.int .i64 q.t) := Aa.cell 0; have af0 := Aa.free 0; have a1 : wa.cell? ⟨p, 1, none⟩ = some (.int .i64 q.b) := Aa.cell 1; have af1 := Aa.free 1; have a2 : wa.cell? ⟨p, 2, none⟩ = some (.int .i64 q.tb) := Aa.cell 2; have af2 := Aa.free 2; have a3 : wa.cell? ⟨p, 3, none⟩ = some (.int .i64 q.hp) := Aa.cell 3; have af3 := Aa.free 3; have a4 : wa.cell? ⟨p, 4, none⟩ = some (.int .i64 q.sz) := Aa.cell 4; have af4 := Aa.free 4; have a5 : wa.cell? ⟨p, 5, none⟩ = some (.int .i64 c) := Aa.cell 5; have af5 := Aa.free 5; have a6 : wa.cell? ⟨p, 6, none⟩ = some (.int .i64 e) := Aa.cell 6; have af6 := Aa.free 6; have a7 : wa.cell? ⟨p, 7, none⟩ = some (.int .i64 6) := Aa.cell 7; have af7 := Aa.free 7; have a8 : wa.cell? ⟨p, 8, none⟩ = some (.int .i64 K) := Aa.cell 8; have af8 := Aa.free 8; have a9 : wa.cell? ⟨p, 9, none⟩ = some (.int .u64 z) := Aa.cell 9; have af9 := Aa.free 9; have a10 : wa.cell? ⟨p, 10, none⟩ = some (.int .u64 v) := Aa.cell 10; have af10 := Aa.free 10)
    | (go_at_call 113; refine (P.rCells c _).mono ?_; rintro e' wx ⟨rfl, hwx⟩; rw [hwx]; clear hwx wx))
  go_ret
  have A4 := (A2.set 12 (.int .i64 (q.cell (t0 z - 1) c 0))).set 7 (.int .i64 0)
  have hy2 := (hb2.block y (lt_of_block Ay1.blk)).trans Ay1.blk
  refine ⟨rfl, L1, A4, ?_, ?_, hn1, gy.b⟩
  · rw [Below.heap_setCell _ _ _ _ (Ne.symm hpy), Below.heap_setCell _ _ _ _ (Ne.symm hpy)]; exact hy2
  · refine ((hk1.trans (Kept.of_below (F := []) hb2) (fun _ h => absurd h (by simp))).trans (Kept.setCell [p] _ ⟨p, 12, none⟩ _ (by simp)) (fun k hk => .inl (by simp at hk; simp [hk]))).trans (Kept.setCell [p] _ ⟨p, 7, none⟩ _ (by simp)) (fun k hk => .inl (by simp at hk; simp [hk]))
end
/-- as cells -/
def TakeS.kk (x : TakeS) : Int := if x.us then x.k + 1 else 0
def TakeS.rcells (x : TakeS) (xp : Value) : Array Value := #[.int .i64 x.pl.t, .int .i64 x.pl.b, .int .i64 x.pl.tb, .int .i64 x.pl.hp, .int .i64 x.pl.sz, .int .i64 x.cls, .int .i64 x.set, .int .i64 x.pc, .int .i64 x.kk, .int .u64 x.seen, .int .u64 x.raw, xp, .int .i64 x.cell]
/-- what holds of a Take that began -/
structure TakeS.Rk (x : TakeS) : Prop where
  z : 2 ≤ x.pc → t0 x.seen ≠ 0
  u4 : x.pc ≤ 4 → 1 ≤ x.pc → x.us = false
  u5 : 5 ≤ x.pc → x.us = true
theorem TakeS.rk_new (q : Pl) (c e : Int) : (TakeS.new q c e).Rk := ⟨fun h => by simp [TakeS.new] at h, fun _ _ => rfl, fun h => by simp [TakeS.new] at h⟩
theorem TakeS.Rk.next {x : TakeS} {s : St} (h : x.Rk) (ok : x.Ok) (h1 : 1 ≤ x.pc) : (x.next s).Rk := by
  obtain ⟨q, z, pc, c, e, v, k, u, us⟩ := x
  obtain ⟨r1, r2, r3⟩ := h
  simp only at r1 r2 r3 h1
  rcases pc6_cases ok.pc with rfl | rfl | rfl | rfl | rfl | rfl | rfl
  · omega
  · simp only [TakeS.next]
    by_cases hq : t0 (s.got 2) = 0
    · rw [if_pos hq]; exact ⟨fun h => by simp at h, fun _ h => by simp at h, fun h => by simp at h⟩
    · rw [if_neg hq]; exact ⟨fun _ => hq, fun _ _ => r2 (by omega) (by omega), fun h => by simp at h⟩
  · exact ⟨fun _ => r1 (by omega), fun _ _ => r2 (by omega) (by omega), fun h => by simp [TakeS.next] at h⟩
  · simp only [TakeS.next]
    split
    · exact ⟨fun _ => r1 (by omega), fun _ _ => r2 (by omega) (by omega), fun h => by simp at h⟩
    · exact ⟨fun h => by simp at h, fun _ _ => r2 (by omega) (by omega), fun h => by simp at h⟩
  · exact ⟨fun _ => r1 (by omega), fun h => by simp [TakeS.next] at h, fun _ => rfl⟩
  · simp only [TakeS.next]
    split
    · exact ⟨fun _ => r1 (by omega), fun h => by simp at h, fun _ => r3 (by omega)⟩
    · exact ⟨fun _ => r1 (by omega), fun h => by simp at h, fun _ => r3 (by omega)⟩
  · simp only [TakeS.next]
    split
    · exact ⟨fun h => by simp at h, fun _ h => by simp at h, fun h => by simp at h⟩
    · exact ⟨fun _ => r1 (by omega), fun h => by simp at h, fun _ => r3 (by omega)⟩
end Go.Proofs.YtoablodmodnamaaDoor
