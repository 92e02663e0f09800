/-
  Takes and Gives over one memory in a law's hand; the reference's plan.
-/
import Derived.Test.YtilknjihceemhaaGreatDoorK2
namespace Go.Proofs.YtilknjihceemhaaGreatDoor
set_option linter.unusedVariables false
set_option maxRecDepth 100000
open Go.ChangeShapes Go.WideShapes Go.RowKit
open S.Plain (t0 t1 tw nx bw b0 b1 b2 b3)
open H.Plain (hw pL)
section
variable {w0 w w' : World} {b p : Nat} {s s' : St} {N : Nat} {T : TypeId} {cs : Array Value} {F : List Nat}
theorem oTake {x : TakeS} (h : Hand w0 w b s N) (hp : Blk w0 w p 79 x.cells) (ok : x.Ok) (hN : N < 1000000) :
    Calls Tryz.prog 12 #[.pointer (some ⟨p, 0, none⟩), .pointer (some ⟨b, 0, none⟩)] w fun e w' => e = .returned (.bool ((x.next s).pc == 0)) ∧
      Hand w0 w' b (x.mem s) (N + 1) ∧ Blk w0 w' p 79 (x.next s).cells ∧ Oth [p] w w' := by
  have hc : s.c < 1000000 := by have := h.top; omega
  have ht := h.top
  have f := h.fit
  have r := h.rng
  obtain ⟨L, rfl, A, k⟩ := h.went hp
  refine (cTake A ok f hc r).mono ?_
  rintro e w' ⟨rfl, L', A', g⟩
  have := TakeS.count (s := s) ok
  exact ⟨rfl, k A' g (TakeS.fit ok f hc) (TakeS.rng ok r) (by omega)⟩
theorem oGive {x : GiveS} (h : Hand w0 w b s N) (hp : Blk w0 w p 101 x.cells) (ok : x.Ok) (hN : N < 1000000) :
    Calls Tryz.prog 26 #[.pointer (some ⟨p, 0, none⟩), .pointer (some ⟨b, 0, none⟩)] w fun e w' => e = .returned (.bool ((x.next s).pc == 0)) ∧
      Hand w0 w' b (x.mem s) (N + 1) ∧ Blk w0 w' p 101 (x.next s).cells ∧ Oth [p] w w' := by
  have hc : s.c < 1000000 := by have := h.top; omega
  have ht := h.top
  have f := h.fit
  have r := h.rng
  obtain ⟨L, rfl, A, k⟩ := h.went hp
  refine (cGive A ok f hc r).mono ?_
  rintro e w' ⟨rfl, L', A', g⟩
  have := GiveS.count (s := s) ok
  exact ⟨rfl, k A' g (GiveS.fit ok f hc) (GiveS.rng ok r) (by omega)⟩
theorem oCell {x : TakeS} (hp : Blk w0 w p 79 x.cells) (ok : x.Ok) (W : Laid w) :
    Calls Tryz.prog 17 #[.pointer (some ⟨p, 0, none⟩)] w fun e w' => e = .returned (.int .i64 x.cell) ∧ Below w.heap.size w w' := cCell hp.at_ ok W
end
theorem kRNew (t n : Nat) (t0 : 1 ≤ t) (t1 : t ≤ 64) (n0 : 1 ≤ n) (n1 : n ≤ 64) (w : World) :
    Calls Tryz.prog 5 #[.int .i64 t, .int .i64 n] w fun e w' => e = .returned (.tuple #[.agg #[.int .i64 (mkPl t n).t, .int .i64 (mkPl t n).b, .int .i64 (mkPl t n).tb, .int .i64 (mkPl t n).hp, .int .i64 (mkPl t n).sz], .int .i64 0]) ∧ Below w.heap.size w w' := by
  have h := P.rNew t n (by omega) (by omega) (by omega) (by omega) w
  rw [hp_N, show ((hpN t n : Int) + 32 * (n : Int)) = ((szN t n : Nat) : Int) by unfold szN; omega] at h
  exact h
theorem kRNew' {t n : Nat} {t' m : Int} (ht : t' = t) (hm : m = n) (t0 : 1 ≤ t) (t1 : t ≤ 64) (n0 : 1 ≤ n) (n1 : n ≤ 64) (w : World) :
    Calls Tryz.prog 5 #[.int .i64 t', .int .i64 m] w fun e w' => e = .returned (.tuple #[.agg #[.int .i64 (mkPl t n).t, .int .i64 (mkPl t n).b, .int .i64 (mkPl t n).tb, .int .i64 (mkPl t n).hp, .int .i64 (mkPl t n).sz], .int .i64 0]) ∧ Below w.heap.size w w' := by
  subst ht hm
  exact kRNew t n t0 t1 n0 n1 w
theorem kRBlock (t n : Nat) (t1 : t ≤ 64) (n1 : n ≤ 64) (a : Int) (w : World) :
    Calls Tryz.prog 25 #[.agg #[.int .i64 (mkPl t n).t, .int .i64 (mkPl t n).b, .int .i64 (mkPl t n).tb, .int .i64 (mkPl t n).hp, .int .i64 (mkPl t n).sz], .int .i64 a] w fun e w' => e = .returned (.int .i64 (P.Plain.bk (hpN t n) (szN t n) a)) ∧ Below w.heap.size w w' := by
  have hb := hpN_bounds t1 n1
  refine (P.rBlock (t : Int) n (10 + t) (hpN t n) (szN t n) a (by omega) (by omega) (by omega) (by omega) (by unfold szN; omega) w).mono ?_
  rintro e w' ⟨rfl, rfl⟩
  exact ⟨rfl, P.bal (Below.refl _ _) _⟩
theorem kRCell {q : Pl} (ok : q.Ok) {i k : Int} (c : Int) (i0 : -10 ≤ i) (i1 : i ≤ 5000) (k0 : 0 ≤ k) (k1 : k ≤ 100) (w : World) :
    Calls Tryz.prog 85 #[.agg #[.int .i64 q.t, .int .i64 q.b, .int .i64 q.tb, .int .i64 q.hp, .int .i64 q.sz], .int .i64 i, .int .i64 c, .int .i64 k] w fun e w' => e = .returned (.int .i64 (q.cell i c k)) ∧ Below w.heap.size w w' := by
  obtain ⟨x, y, z, u, v⟩ := q
  obtain ⟨_, _, q0, q1⟩ := ok
  simp only at q0 q1
  have b1 := (P.Plain.wd_bounds c).1
  have b2 := (P.Plain.wd_bounds c).2
  have m1 := (mul_bounds2 k0 k1 b1 b2).1
  have m2 := (mul_bounds2 k0 k1 b1 b2).2
  go_enter Tryz.func85, Tryz.ntmps85
  go_wp2
  go_quiet ((go_at_call 82; exact Calls.quiet_of_same (P.rWords _ _)))
  go_wp2
  go_ret
  exact ⟨rfl, P.bdr (P.bal (Below.refl _ _) _) _⟩
end Go.Proofs.YtilknjihceemhaaGreatDoor
