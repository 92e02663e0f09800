/-
  The reference's plan, by a plan's letters.
-/
import Derived.Test.YtoablodmodnamaaDoorTyq
import Derived.Test.YtoablodmodnamaaDoorBfq
import Derived.Deep.RegionHeld3
namespace Go.Proofs.YtoablodmodnamaaDoor
set_option linter.unusedVariables false
set_option linter.unusedSimpArgs false
set_option maxRecDepth 100000
open Go.ChangeShapes Go.WideShapes Go.RowKit
open S.Plain (t0 t1 tw nx bw b0 b1 b2 b3)
open H.Plain (hw pS pC pN pM pG pT pL)

section
variable {n e nb m c : Nat} {f : Int → Int} {fb fk cb : Nat → Nat} {l : List Ob} {mk : Int}
theorem took_out (hc : c ≤ 1) {a : Int} (h2 : a ≠ 2) (hE : a ≠ 12 + nb) (hH : a ≠ 3 + 3 * (e : Int) + c) (hB : a < 32 + 32 * (nb : Int) ∨ 64 + 32 * (nb : Int) ≤ a) : took n e c nb f a = f a := by
  have cs8 := cs_8 c
  have wd8 := wd_8 c
  have key : ∀ j : Nat, j < csN c → a ≠ ca nb c j := fun j hj e' => by
    obtain ⟨b1, b2⟩ := ca_bounds (i := nb) (n := nb + 1) hc hj (by omega)
    omega
  unfold took
  rw [upd_ne _ _ hH, upd_ne _ _ (key _ (by omega)), lkd_ne _ _ _ _ fun j h1 h3 => key j (by omega), upd_ne _ _ hE, upd_ne _ _ h2]
/-- one more object, out of a new block's first cell -/
theorem Hp.block (h : Hp n e f nb fb fk cb l) (hn : n ≤ 6) (he : e ≤ 1) (m7 : m ≤ 7) (hc : (if m ≤ 3 then 0 else 1) = c) (hk : ¬ fk c < csN c) (hnb : nb < n) :
    Hp n e (made (took n e c nb f) (ca nb c 0) m (hw 1 c m mk 0 0 0)) (nb + 1) (updF fb c nb) (updF fk c 1) (updF cb nb c) (l ++ [⟨nb, 0, m, mk⟩]) := by
  obtain ⟨B, hcls, h7, hocb, honb, hokc, hofk, hdis, hhdr, hfld, hlow⟩ := h
  have c1 : c ≤ 1 := by rw [← hc]; split <;> omega
  have B' := B
  obtain ⟨nbn, top, ent, hd, lk, fbn, fk1, sep⟩ := B'
  have hmw : m < wdN c := by rw [← hc]; unfold wdN; split <;> simp <;> omega
  have cs8 := cs_8 c
  have wd8 := wd_8 c
  obtain ⟨a1, a2⟩ := ca_bounds (i := nb) (k := 0) (n := n) c1 (by omega) hnb
  obtain ⟨A, hA⟩ : ∃ A, ca nb c 0 = A := ⟨_, rfl⟩
  rw [hA] at a1 a2 ⊢
  obtain ⟨o, ho⟩ : ∃ o : Ob, o = ⟨nb, 0, m, mk⟩ := ⟨_, rfl⟩
  have oc : o.c = c := by rw [ho]; exact hc
  have oA : o.at = A := by unfold Ob.at; rw [oc, ho]; exact hA
  rw [← ho]
  have out : ∀ a : Int, a ≠ 2 → a ≠ 12 + nb → a ≠ 3 + 3 * (e : Int) + c → (a < 32 + 32 * (nb : Int) ∨ 64 + 32 * (nb : Int) ≤ a) → made (took n e c nb f) A m (hw 1 c m mk 0 0 0) a = f a := fun a h1 h2 h3 h4 => by
    rw [made_out _ _ _ _ (by omega), took_out c1 h1 h2 h3 h4]
  have nxt : 0 ≤ nextOf n nb ∧ nextOf n nb < 4096 ∧ nextOf n nb = if nb + 1 < n then ((nb + 1 : Nat) : Int) + 1 else 0 := by
    unfold nextOf; split <;> split <;> omega
  have cell : ∀ j : Nat, 1 ≤ j → j < csN c → made (took n e c nb f) A m (hw 1 c m mk 0 0 0) (ca nb c j) = hw 0 c 0 0 0 0 (if j + 1 < csN c then ca nb c (j + 1) else 0) := fun j h1 h2 => by
    have ap := ca_apart (n := n) (i := nb) (i' := nb) (k := j) (k' := 0) c1 c1 h2 (by omega) (fun _ => rfl) (by omega)
    rw [hA] at ap
    obtain ⟨b1, b2⟩ := ca_bounds (i := nb) (k := j) (n := n) c1 h2 hnb
    rw [made_out _ _ _ _ (by omega)]
    unfold took
    rw [upd_ne _ _ (by omega)]
    by_cases e1 : j = csN c - 1
    · subst e1
      rw [upd_at, if_neg (by omega)]
    · rw [upd_ne _ _ (ca_ne c1 e1), lkd_at _ _ _ c1 _ h1 (by omega)]
  have fbl : ∀ c' : Nat, c' ≤ 1 → c' ≠ c → fk c' < csN c' → fb c' < nb := fun c' h1 _ h2 => fbn c' h1 h2
  have qb : ∀ q ∈ l, 32 ≤ q.at ∧ q.m < wdN q.c ∧ q.at + wdN q.c ≤ 32 + 32 * (nb : Int) := fun q hq => by
    have := honb q hq
    obtain ⟨q1, q2⟩ := ca_bounds (i := q.i) (n := n) q.c1 (hokc q hq) (by omega)
    exact ⟨by unfold Ob.at; omega, Ob.mw (h7 q hq), by unfold Ob.at; omega⟩
  refine ⟨⟨by omega, ?_, ?_, ?_, ?_, ?_, ?_, ?_⟩, ?_, ?_, ?_, ?_, ?_, ?_, ?_, ?_, ?_, ?_⟩
  · rw [made_out _ _ _ _ (by omega)]
    unfold took
    have key : ∀ j : Nat, j < csN c → (2 : Int) ≠ ca nb c j := fun j hj e' => by
      obtain ⟨b1, b2⟩ := ca_bounds (i := nb) (n := nb + 1) c1 hj (by omega)
      omega
    rw [upd_ne _ _ (by omega), upd_ne _ _ (key _ (by omega)), lkd_ne _ _ _ _ fun j h1 h3 => key j (by omega), upd_ne _ _ (by omega), upd_at, ent nb (Nat.le_refl _) hnb, t0_nx _ _ nxt.1 nxt.2.1, nxt.2.2]
  · intro i h1 h2; rw [out _ (by omega) (by omega) (by omega) (by omega)]; exact ent i (by omega) h2
  · intro c' hc'
    by_cases e1 : c' = c
    · subst e1
      obtain ⟨b1, b2⟩ := ca_bounds (i := nb) (k := 1) (n := n) c1 (by omega) hnb
      rw [updF_at, updF_at, if_pos (by omega), made_out _ _ _ _ (by omega)]
      unfold took
      rw [upd_at, t0_nx _ _ (by omega) (by omega)]
    · rw [updF_ne _ _ e1, updF_ne _ _ e1, out _ (by omega) (by omega) (by omega) (by omega)]; exact hd c' hc'
  · intro c' j hc' h1 h2
    by_cases e1 : c' = c
    · subst e1
      rw [updF_at] at h1
      rw [updF_at, cell j h1 h2]
      split
      · obtain ⟨b1, b2⟩ := ca_bounds (i := nb) (k := j + 1) (n := n) c1 (by omega) hnb
        exact pL_hw _ _ _ _ _ _ _ (by omega) (by omega)
      · exact pL_hw _ _ _ _ _ _ _ (by omega) (by omega)
    · rw [updF_ne _ _ e1] at h1
      rw [updF_ne _ _ e1]
      have hb' := fbn c' hc' (by omega)
      obtain ⟨b1, b2⟩ := ca_bounds (i := fb c') (k := j) (n := n) hc' h2 (by omega)
      have := wd_8 c'
      rw [out _ (by omega) (by omega) (by omega) (by omega)]
      exact lk c' j hc' h1 h2
  · intro c' hc' h1
    by_cases e1 : c' = c
    · subst e1; rw [updF_at]; omega
    · rw [updF_ne _ _ e1] at h1 ⊢; have := fbn c' hc' h1; omega
  · intro c' hc'
    by_cases e1 : c' = c
    · subst e1; rw [updF_at]; omega
    · rw [updF_ne _ _ e1]; exact fk1 c' hc'
  · intro h1 h2
    obtain rfl | rfl : c = 0 ∨ c = 1 := by omega
    · rw [updF_ne _ _ (show (1 : Nat) ≠ 0 by omega)] at h2
      rw [updF_at, updF_ne _ _ (show (1 : Nat) ≠ 0 by omega)]
      have := fbn 1 (by omega) h2; omega
    · rw [updF_ne _ _ (show (0 : Nat) ≠ 1 by omega)] at h1
      rw [updF_at, updF_ne _ _ (show (0 : Nat) ≠ 1 by omega)]
      have := fbn 0 (by omega) h1; omega
  · intro c' hc' h1
    by_cases e1 : c' = c
    · subst e1; rw [updF_at, updF_at]
    · rw [updF_ne _ _ e1] at h1 ⊢
      have := fbn c' hc' h1
      rw [updF_ne _ _ (by omega)]
      exact hcls c' hc' h1
  · intro q hq
    rw [List.mem_append, List.mem_singleton] at hq
    rcases hq with hq | rfl
    · exact h7 q hq
    · rw [ho]; exact m7
  · intro q hq
    rw [List.mem_append, List.mem_singleton] at hq
    rcases hq with hq | rfl
    · have := honb q hq
      rw [updF_ne _ _ (by omega)]; exact hocb q hq
    · rw [oc, ho]; exact updF_at _ _ _
  · intro q hq
    rw [List.mem_append, List.mem_singleton] at hq
    rcases hq with hq | rfl
    · have := honb q hq; omega
    · rw [ho]; show nb < nb + 1; omega
  · intro q hq
    rw [List.mem_append, List.mem_singleton] at hq
    rcases hq with hq | rfl
    · exact hokc q hq
    · rw [oc, ho]; show 0 < csN c; omega
  · intro q hq h1 h2
    rw [List.mem_append, List.mem_singleton] at hq
    rcases hq with hq | rfl
    · by_cases e1 : q.c = c
      · rw [e1, updF_at] at h2
        have := honb q hq; omega
      · rw [updF_ne _ _ e1] at h1 ⊢
        rw [updF_ne _ _ e1] at h2
        exact hofk q hq h1 h2
    · rw [oc, updF_at, ho]; show 0 < 1; omega
  · rw [List.pairwise_append]
    refine ⟨hdis, List.pairwise_singleton _ _, fun a ha b hb' => ?_⟩
    obtain rfl := List.mem_singleton.1 hb'
    rw [ho]
    rintro ⟨e1, e2⟩
    have := honb a ha
    have e1' : a.i = nb := e1
    omega
  · intro q hq
    rw [List.mem_append, List.mem_singleton] at hq
    rcases hq with hq | rfl
    · have h2 := qb q hq
      rw [out _ (by omega) (by omega) (by omega) (by omega)]
      exact hhdr q hq
    · rw [oA, oc, made_at, ho]
  · intro q hq j hj
    rw [List.mem_append, List.mem_singleton] at hq
    rcases hq with hq | rfl
    · have h2 := qb q hq
      rw [out _ (by omega) (by omega) (by omega) (by omega)]
      exact hfld q hq j hj
    · rw [oA]
      exact made_in _ _ _ _ j (by rw [ho] at hj; exact hj)
  · rw [out 0 (by omega) (by omega) (by omega) (by omega), out 1 (by omega) (by omega) (by omega) (by omega), out 9 (by omega) (by omega) (by omega) (by omega), out 10 (by omega) (by omega) (by omega) (by omega), out 11 (by omega) (by omega) (by omega) (by omega)]
    exact hlow
end
/-- a heap that is being built: its words, its objects -/
def Heap (n e : Nat) (f : Int → Int) (l : List Ob) : Prop := ∃ nb fb fk cb, Hp n e f nb fb fk cb l
/-- one Alloc that steps alone -/
theorem Heap.alloc {n e m : Nat} {f : Int → Int} {l : List Ob} {s : St} (h : Heap n e f l) (hv : Vw (32 + 32 * n) s f) (hn : n ≤ 6) (h1 : 1 ≤ n) (he : e ≤ 1) (m7 : m ≤ 7) (mk : Int) :
    ∃ k x s' f' l', k ≤ 30 ∧ Rn k (AllS.new (mkPl 2 n) m mk e) s x s' ∧ x.pc = 0 ∧ Vw (32 + 32 * n) s' f' ∧ Heap n e f' l' ∧ ((x.cell = 0 ∧ l' = l) ∨ ∃ o : Ob, x.cell = o.at ∧ o.at ≠ 0 ∧ o.m = m ∧ o.g = mk ∧ l' = l ++ [o]) := by
  obtain ⟨nb, fb, fk, cb, H⟩ := h
  obtain ⟨c, hc⟩ : ∃ c : Nat, (if m ≤ 3 then 0 else 1) = c := ⟨_, rfl⟩
  have c1 : c ≤ 1 := by rw [← hc]; split <;> omega
  have hcl : P.Plain.cl (m : Int) = (c : Int) := by rw [cl_ob m7, hc]
  have hmw : m < wdN c := by rw [← hc]; unfold wdN; split <;> simp <;> omega
  have cs8 := cs_8 c
  by_cases hk : fk c < csN c
  · obtain ⟨x, s', R, e1, e2, V⟩ := runA (mk := mk) H.bm hn he hv c1 hcl hmw hk
    obtain ⟨b1, b2⟩ := ca_bounds (i := fb c) (n := n) c1 hk (by have := H.bm.fbn c c1 hk; have := H.bm.nbn; omega)
    refine ⟨_, x, s', _, _, by omega, R, e1, V, ⟨_, _, _, _, H.more hn he m7 hc hk⟩, .inr ⟨⟨fb c, fk c, m, mk⟩, ?_, ?_, rfl, rfl, rfl⟩⟩
    · rw [e2]; show _ = ca (fb c) (if m ≤ 3 then 0 else 1) (fk c); rw [hc]
    · show ca (fb c) (if m ≤ 3 then 0 else 1) (fk c) ≠ 0; rw [hc]; omega
  · by_cases hnb : nb < n
    · obtain ⟨x, s', R, e1, e2, V⟩ := runB (mk := mk) H.bm hn he hv c1 hcl hmw hk hnb
      obtain ⟨b1, b2⟩ := ca_bounds (i := nb) (k := 0) (n := n) c1 (by omega) hnb
      refine ⟨_, x, s', _, _, by omega, R, e1, V, ⟨_, _, _, _, H.block hn he m7 hc hk hnb⟩, .inr ⟨⟨nb, 0, m, mk⟩, ?_, ?_, rfl, rfl, rfl⟩⟩
      · rw [e2]; show _ = ca nb (if m ≤ 3 then 0 else 1) 0; rw [hc]
      · show ca nb (if m ≤ 3 then 0 else 1) 0 ≠ 0; rw [hc]; omega
    · obtain ⟨x, s', R, e1, e2, V⟩ := runC (mk := mk) H.bm hn h1 he hv c1 hcl hk hnb
      exact ⟨3, x, s', f, l, by omega, R, e1, V, ⟨_, _, _, _, H⟩, .inl ⟨e2, rfl⟩⟩
end Go.Proofs.YtoablodmodnamaaDoor

namespace Go.Proofs.YtoablodmodnamaaDoor
set_option linter.unusedVariables false
set_option linter.unusedSimpArgs false
set_option maxRecDepth 100000
open Go.ChangeShapes Go.WideShapes Go.RowKit
open S.Plain (t0 t1 tw nx bw b0 b1 b2 b3)
open H.Plain (hw pS pC pN pM pG pT pL)

theorem mul_bounds2 {k x : Int} (h0 : 0 ≤ k) (h1 : k ≤ 100) (x0 : 0 ≤ x) (x1 : x ≤ 16) : 0 ≤ k * x ∧ k * x ≤ 1600 := P.mul_bounds h0 h1 x0 x1
section
variable {w0 w w' : World} {q : Nat} {p : Pl}
theorem kRNew (t n : Nat) (t0 : 1 ≤ t) (t1 : t ≤ 64) (n0 : 1 ≤ n) (n1 : n ≤ 64) (w : World) :
    Calls Tryd.prog 8 #[.int .i64 t, .int .i64 n] w fun e w' => e = .returned (.tuple #[.agg #[.int .i64 (mkPl t n).t, .int .i64 (mkPl t n).b, .int .i64 (mkPl t n).tb, .int .i64 (mkPl t n).hp, .int .i64 (mkPl t n).sz], .int .i64 0]) ∧ Below w.heap.size w w' := by
  have h := P.rNew t n (by omega) (by omega) (by omega) (by omega) w
  rw [hp_N, show ((hpN t n : Int) + 32 * (n : Int)) = ((szN t n : Nat) : Int) by unfold szN; omega] at h
  exact h
theorem kRNew' {t n : Nat} {t' m : Int} (ht : t' = t) (hm : m = n) (t0 : 1 ≤ t) (t1 : t ≤ 64) (n0 : 1 ≤ n) (n1 : n ≤ 64) (w : World) :
    Calls Tryd.prog 8 #[.int .i64 t', .int .i64 m] w fun e w' => e = .returned (.tuple #[.agg #[.int .i64 (mkPl t n).t, .int .i64 (mkPl t n).b, .int .i64 (mkPl t n).tb, .int .i64 (mkPl t n).hp, .int .i64 (mkPl t n).sz], .int .i64 0]) ∧ Below w.heap.size w w' := by
  subst ht hm
  exact kRNew t n t0 t1 n0 n1 w
theorem kRCell {q : Pl} (ok : q.Ok) {i k : Int} (c : Int) (i0 : -10 ≤ i) (i1 : i ≤ 5000) (k0 : 0 ≤ k) (k1 : k ≤ 100) (w : World) :
    Calls Tryd.prog 119 #[.agg #[.int .i64 q.t, .int .i64 q.b, .int .i64 q.tb, .int .i64 q.hp, .int .i64 q.sz], .int .i64 i, .int .i64 c, .int .i64 k] w fun e w' => e = .returned (.int .i64 (q.cell i c k)) ∧ Below w.heap.size w w' := by
  obtain ⟨x, y, z, u, v⟩ := q
  obtain ⟨_, _, q0, q1⟩ := ok
  simp only at q0 q1
  have b1 := (P.Plain.wd_bounds c).1
  have b2 := (P.Plain.wd_bounds c).2
  have m1 := (mul_bounds2 k0 k1 b1 b2).1
  have m2 := (mul_bounds2 k0 k1 b1 b2).2
  go_enter Tryd.func119, Tryd.ntmps119
  go_wp2
  go_quiet ((go_at_call 118; exact Calls.quiet_of_same (P.rWords _ _)))
  go_wp2
  go_ret
  exact ⟨rfl, P.bdr (P.bal (Below.refl _ _) _) _⟩
end
end Go.Proofs.YtoablodmodnamaaDoor
