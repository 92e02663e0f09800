/-
  The reference's Take over one memory.
-/
import Derived.Test.YtoablodmodnamaaDoorBgq
import Derived.Test.YtoablodmodnamaaDoorBaq
import Derived.Test.YtoablodmodnamaaDoorD2q
import Derived.Deep.RegionHeld3
namespace Go.Proofs.YtoablodmodnamaaDoor
set_option linter.unusedVariables false
set_option linter.unusedSimpArgs false
set_option maxRecDepth 100000
open Go.ChangeShapes Go.WideShapes Go.RowKit
open S.Plain (t0 t1 tw nx bw b0 b1 b2 b3)
open H.Plain (hw pL)

structure Y1 (w0 w : World) (y : Nat) (s : St) (N : Nat) : Prop where
  at_ : ∃ M : Loc, M.b = y ∧ Rm w M s ∧ ∀ k ∈ M.fp, w0.heap.size ≤ k
  bel : Below w0.heap.size w0 w
  fit2 : s.Fit
  top2 : s.c ≤ N
  rng2 : s.Rng
  wid : H.Wid w0
section
variable {w0 w w' : World} {y p : Nat} {s s2 : St} {N : Nat} {T : TypeId} {cs : Array Value} {F : List Nat}
theorem Y1.kept (h : Y1 w0 w y s N) (k : Kept F w w') (hF : ∀ k ∈ F, w0.heap.size ≤ k ∧ ∃ cs T fz, T ∉ MTs ∧ w.heap[k]? = some (.cells cs T fz)) : Y1 w0 w' y s N := by
  obtain ⟨⟨M, e, hm, hl⟩, hb, f, t, r, wd⟩ := h
  refine ⟨⟨M, e, hm.on k fun j hj hjF => ?_, hl⟩, hb.trans (k.below (fun j hj => (hF j hj).1) hb.size), f, t, r, wd⟩
  obtain ⟨_, _, _, _, hT, hk⟩ := hF j hjF
  exact notin_fp hm (t2m false) f (.inl hT) hk hj
theorem Y1.below (h : Y1 w0 w y s N) (hb : Below w.heap.size w w') : Y1 w0 w' y s N := h.kept (F := []) (Kept.of_below hb) fun _ h => by simp at h
theorem Y1.alloc (h : Y1 w0 w y s N) (o : Obj) : Y1 w0 (w.alloc o) y s N := h.below ((Below.refl _ _).alloc (Nat.le_refl _) o)
theorem Y1.drew (h : Y1 w0 w y s N) : Y1 w0 w.drew y s N := h.below (Below.refl _ _).drew
theorem Y1.set (h : Y1 w0 w y s N) (hp : Blk w0 w p T cs) (i : Nat) (u : Value) : Y1 w0 (w.setCell ⟨p, i, none⟩ u) y s N :=
  h.kept (Kept.setCell [p] _ _ _ (by simp)) fun k hk => by simp at hk; subst hk; exact ⟨hp.old, _, _, _, hp.hT, hp.at_⟩
theorem Y1.mono (h : Y1 w0 w y s N) {N' : Nat} (hN : N ≤ N') : Y1 w0 w y s N' := ⟨h.at_, h.bel, h.fit2, by have := h.top2; omega, h.rng2, h.wid⟩
theorem Y1.lift {wa : World} (h : Y1 wa w y s N) (hb : Below w0.heap.size w0 wa) (hw : H.Wid w0) : Y1 w0 w y s N := by
  obtain ⟨⟨L, e, hm, hl⟩, hb', f, t, r, wd⟩ := h
  exact ⟨⟨L, e, hm, fun k hk => Nat.le_trans hb.size (hl k hk)⟩, hb.trans (hb'.mono hb.size), f, t, r, hw⟩
theorem Y1.widw (h : Y1 w0 w y s N) : H.Wid w := h.wid.on h.bel
theorem Y1.went2 (h : Y1 w0 w y s2 N) (hp : Blk w0 w p T cs) : ∃ M : Loc, M.b = y ∧ At 80 w M s2 p T cs ∧ ∀ {w' : World} {M' : Loc} {s' : St} {cs' : Array Value} {N' : Nat}, At 80 w' M' s' p T cs' → Went w M p w' M' → s'.Fit → s'.Rng → s'.c ≤ N' → N ≤ N' →
    Y1 w0 w' y s' N' ∧ Blk w0 w' p T cs' ∧ Oth [p] w w' := by
  have hwd := h.widw
  obtain ⟨⟨M, e2, hr, hl2⟩, hb, f2, t2, r2, wd⟩ := h
  have h0 := wd.1
  have hT := hp.hT
  simp only [MTs, List.mem_cons, List.not_mem_nil, or_false, not_or] at hT
  refine ⟨M, e2, ⟨hr, hp.at_, ⟨hT.2.1, hT.2.2.1, hT.2.2.2⟩, hwd, fun hz => by have := hl2 0 hz; omega, by have := hp.old; omega⟩, ?_⟩
  intro w' M' s' cs' N' A' g f' r' t' hN
  have hl2' : ∀ k ∈ M'.fp, w0.heap.size ≤ k := fun k hk => (g.new k hk).elim (hl2 k) fun h' => Nat.le_trans hb.size h'
  refine ⟨⟨⟨M', g.b.trans e2, A'.mem, hl2'⟩, hb.trans (g.kept.below (fun k hk => ?_) hb.size), f', t', r', wd⟩, ⟨A'.blk, hp.old, hp.hT⟩, Oth.went hr (t2m false) f2 g⟩
  simp only [List.mem_cons] at hk
  rcases hk with rfl | hk
  · exact hp.old
  · exact hl2 k hk
theorem Y1.on2 (h : Y1 w0 w y s2 N) : ∃ M : Loc, M.b = y ∧ Rm w M s2 ∧ ∀ {w' : World} {M' : Loc} {s' : St} {N' : Nat}, Rm w' M' s' → Step w M w' M' → s'.Fit → s'.Rng → s'.c ≤ N' → N ≤ N' → Y1 w0 w' y s' N' ∧ Oth [] w w' := by
  obtain ⟨⟨M, e2, hr, hl2⟩, hb, f2, t2, r2, wd⟩ := h
  refine ⟨M, e2, hr, ?_⟩
  intro w' M' s' N' hr' st f' r' t' hN
  have hl2' : ∀ k ∈ M'.fp, w0.heap.size ≤ k := fun k hk => (st.new k hk).elim (hl2 k) fun h' => Nat.le_trans hb.size h'
  exact ⟨⟨⟨M', st.b.trans e2, hr', hl2'⟩, hb.trans (st.kept.below (fun k hk => hl2 k hk) hb.size), f', t', r', wd⟩, Oth.step hr (t2m false) f2 st⟩
end
end Go.Proofs.YtoablodmodnamaaDoor

namespace Go.Proofs.YtoablodmodnamaaDoor
set_option linter.unusedVariables false
set_option linter.unusedSimpArgs false
set_option maxRecDepth 100000
open Go.ChangeShapes Go.WideShapes Go.RowKit
open S.Plain (t0 t1 tw nx bw b0 b1 b2 b3)
open H.Plain (hw pS pC pN pM pG pT pL)

section
variable {w0 w w' : World} {b y p : Nat} {s1 s2 : St} {N : Nat}
/-- the reference's Take, where it lies -/
def qv : Option Nat → Value
  | some k => .pointer (some ⟨k, 0, none⟩)
  | none => .pointer none
structure RTk (w0 w : World) (p : Nat) (Q : Option Nat) (x : TakeS) : Prop where
  blk : Blk w0 w p 180 (x.rcells (qv Q))
  psh : ∀ k, Q = some k → Blk w0 w k 187 x.push.rcells
  six : x.pc = 6 → ∃ k, Q = some k
  one : 1 ≤ x.pc → x.pc ≤ 5 → Q = none
  rk : x.Rk
theorem RTk.oth {F : List Nat} {Q : Option Nat} {x : TakeS} (h : RTk w0 w p Q x) (ho : Oth F w w') (h1 : p ∉ F) (h2 : ∀ k, Q = some k → k ∉ F) : RTk w0 w' p Q x :=
  ⟨h.blk.oth ho h1, fun k hk => (h.psh k hk).oth ho (h2 k hk), h.six, h.one, h.rk⟩
set_option maxHeartbeats 1000000 in
theorem yTake {x : TakeS} {Q : Option Nat} (h : Y1 w0 w y s2 N) (R : RTk w0 w p Q x) (ok : x.Ok) (h1 : 1 ≤ x.pc) (hN : N < 1000000) :
    Calls Tryd.prog 108 #[.pointer (some ⟨p, 0, none⟩), .pointer (some ⟨y, 0, none⟩)] w fun e w' => e = .returned (.bool ((x.next s2).pc == 0)) ∧
      Y1 w0 w' y (x.mem s2) (N + 1) ∧ ∃ Q', RTk w0 w' p Q' (x.next s2) ∧ Oth (p :: Q.toList) w w' ∧ ∀ k, Q' = some k → Q = some k ∨ w.heap.size ≤ k := by
  have ht := h.top2
  have hc : s2.c < 1000000 := by omega
  have f := h.fit2
  have r := h.rng2
  have cn := TakeS.count (s := s2) ok
  have fi := TakeS.fit ok f hc
  have rn := TakeS.rng ok r
  have rk' := R.rk.next (s := s2) ok h1
  by_cases h6 : x.pc = 6
  · -- the steps of the list
    obtain ⟨yq, hyq⟩ := R.six h6
    subst hyq
    have By := R.psh yq rfl
    have Bp := R.blk
    have ru := R.rk.u5 (by omega)
    have rz := R.rk.z (by omega)
    have hw0 := h.widw
    obtain ⟨⟨M, rfl, hr, hl2⟩, hb, f2, t2', r2, wd⟩ := h
    have h0 := wd.1
    have hpM : p ∉ M.fp := notin_fp hr (t2m false) f2 (.inl Bp.hT) Bp.at_
    have hyM : yq ∉ M.fp := notin_fp hr (t2m false) f2 (.inl By.hT) By.at_
    have A : At 80 w M s2 p 180 (x.rcells (.pointer (some ⟨yq, 0, none⟩))) := ⟨hr, Bp.at_, by decide, hw0, fun hz => by have := hl2 0 hz; omega, by have := Bp.old; omega⟩
    have key : ∀ {w' : World} {M' : Loc} {x' : TakeS}, At 80 w' M' (x.mem s2) p 180 (x'.rcells (.pointer (some ⟨yq, 0, none⟩))) → w'.heap[yq]? = some (.cells x'.push.rcells 187 (0, 0)) → Kept (p :: yq :: M.fp) w w' → (∀ k ∈ M'.fp, k ∈ M.fp ∨ w.heap.size ≤ k) → M'.b = M.b → x'.Rk → (x'.pc = 0 ∨ x'.pc = 6) →
        Y1 w0 w' M.b (x.mem s2) (N + 1) ∧ ∃ Q', RTk w0 w' p Q' x' ∧ Oth (p :: (some yq).toList) w w' ∧ ∀ k, Q' = some k → (some yq) = some k ∨ w.heap.size ≤ k := by
      intro w' M' x' A' hy' hk hn hb' rkx hpc
      have hl2' : ∀ k ∈ M'.fp, w0.heap.size ≤ k := fun k hk => (hn k hk).elim (hl2 k) fun h' => Nat.le_trans hb.size h'
      refine ⟨⟨⟨M', hb', A'.mem, hl2'⟩, hb.trans (hk.below (fun k hk => ?_) hb.size), fi, by omega, rn, wd⟩, some yq, ⟨⟨A'.blk, Bp.old, Bp.hT⟩, fun k hk => ?_, fun _ => ⟨yq, rfl⟩, fun a1 a2 => by omega, rkx⟩, ⟨hk.size, fun k cs T fz hF hT hkk => (hk.block k (lt_of_block hkk) ?_).trans hkk⟩, fun k hk => .inl hk⟩
      · simp only [List.mem_cons] at hk
        rcases hk with rfl | rfl | hk
        · exact Bp.old
        · exact By.old
        · exact hl2 k hk
      · obtain rfl := Option.some.inj hk
        exact ⟨hy', By.old, By.hT⟩
      · simp only [Option.toList_some, List.mem_cons, List.not_mem_nil, or_false, not_or] at hF
        simp only [List.mem_cons, not_or]
        exact ⟨hF.1, hF.2, notin_fp hr (t2m false) f2 hT hkk⟩
    have yo : yq ≠ 0 := by have := By.old; omega
    have Byy := By.at_
    clear R Bp By hr hl2 hb
    obtain ⟨q, z, pc, c, e, v, k, u, us⟩ := x
    obtain ⟨o1, o2, o3, o4, o5, o6, o7, o8, o9, o10, o11, o12⟩ := ok
    simp only at o1 o2 o3 o4 o5 o6 o7 o8 o9 o10 o11 o12 h6 ru rz
    subst h6 ru
    have c0 : TakeS.cell ⟨q, z, 6, c, e, v, k, u, true⟩ = 0 := if_neg fun h => by simp at h
    simp only [TakeS.rcells, c0] at A
    rcases hok : ((u.next s2).pc == 0) with _ | _
    · refine (rT6f (xp := .pointer (some ⟨yq, 0, none⟩)) A o1 o5 o6 o7 o8 f hc r o2 o3 o12 Byy yo hok rfl).mono ?_
      rintro e' w' ⟨rfl, L', A', hy', hk, hn, hb'⟩
      have hne : ¬ (u.next s2).pc = 0 := by simpa using hok
      have en : TakeS.next ⟨q, z, 6, c, e, v, k, u, true⟩ s2 = ⟨q, z, 6, c, e, v, k, u.next s2, true⟩ := by simp only [TakeS.next, if_neg hne]
      rw [en] at rk' ⊢
      have c1 : TakeS.cell ⟨q, z, 6, c, e, v, k, u.next s2, true⟩ = 0 := if_neg fun h => by simp at h
      refine ⟨rfl, key (x' := ⟨q, z, 6, c, e, v, k, u.next s2, true⟩) ?_ hy' hk hn hb' rk' (.inr rfl)⟩
      simp only [TakeS.rcells, c1]
      exact A'
    · refine (rT6t (xp := .pointer (some ⟨yq, 0, none⟩)) A o1 o5 o6 o7 o8 f hc r o2 o3 o12 Byy yo hok rfl).mono ?_
      rintro e' w' ⟨rfl, L', A', hy', hk, hn, hb'⟩
      have hne : (u.next s2).pc = 0 := by simpa using hok
      have en : TakeS.next ⟨q, z, 6, c, e, v, k, u, true⟩ s2 = ⟨q, z, 0, c, e, v, k, u.next s2, true⟩ := by simp only [TakeS.next, if_pos hne]
      rw [en] at rk' ⊢
      have c1 : TakeS.cell ⟨q, z, 0, c, e, v, k, u.next s2, true⟩ = q.cell (t0 z - 1) c 0 := if_pos ⟨rfl, rz⟩
      refine ⟨rfl, key (x' := ⟨q, z, 0, c, e, v, k, u.next s2, true⟩) ?_ hy' hk hn hb' rk' (.inl rfl)⟩
      simp only [TakeS.rcells, c1]
      exact A'
  · -- the steps ahead of the list's
    have p5 : x.pc ≤ 5 := by have := ok.pc; omega
    have hQ := R.one h1 p5
    subst hQ
    have Bp := R.blk
    obtain ⟨M, rfl, A, kk⟩ := h.went2 Bp
    have key : ∀ {w' : World} {M' : Loc} {x' : TakeS}, At 80 w' M' (x.mem s2) p 180 (x'.rcells (.pointer none)) → Went w M p w' M' → x'.Rk → x'.pc ≠ 6 →
        Y1 w0 w' M.b (x.mem s2) (N + 1) ∧ ∃ Q', RTk w0 w' p Q' x' ∧ Oth (p :: (none : Option Nat).toList) w w' ∧ ∀ k, Q' = some k → (none : Option Nat) = some k ∨ w.heap.size ≤ k := by
      intro w' M' x' A' g rkx h6'
      obtain ⟨K1, K2, K3⟩ := kk A' g fi rn (show _ ≤ ((N + 1 : Nat) : Int) by omega) (by omega)
      exact ⟨K1, none, ⟨K2, fun k hk => absurd hk (by simp), fun h => absurd h h6', fun _ _ => rfl, rkx⟩, K3, fun k hk => absurd hk (by simp)⟩
    have rk0 := R.rk
    have bold := Bp.old
    have hsz := h.bel.size
    clear R Bp h
    obtain ⟨q, z, pc, c, e, v, k, u, us⟩ := x
    obtain ⟨o1, o2, o3, o4, o5, o6, o7, o8, o9, o10, o11, o12⟩ := ok
    simp only at o1 o2 o3 o4 o5 o6 o7 o8 o9 o10 o11 o12 h6 h1 p5
    have c0 : TakeS.cell ⟨q, z, pc, c, e, v, k, u, us⟩ = 0 := if_neg fun h => by have := h.1; simp at this; omega
    have cell0 : ∀ (z' : Int) (pc' : Nat) (v' k' : Int) (u' : PushS) (us' : Bool), pc' ≠ 0 → TakeS.cell ⟨q, z', pc', c, e, v', k', u', us'⟩ = 0 := fun _ _ _ _ _ _ h => if_neg fun hh => h hh.1
    have cb := cs_bounds o5 o6
    simp only [TakeS.rcells, c0, qv] at A
    have : pc = 1 ∨ pc = 2 ∨ pc = 3 ∨ pc = 4 ∨ pc = 5 := by omega
    rcases this with rfl | rfl | rfl | rfl | rfl
    · by_cases hq0 : t0 (s2.got 2) = 0
      · refine (rT1a (xp := .pointer none) A o1 o5 o6 o7 o8 f hc r o2 o3 hq0).mono ?_
        rintro e' w' ⟨rfl, L', A', g⟩
        have en : TakeS.next ⟨q, z, 1, c, e, v, k, u, us⟩ s2 = ⟨q, s2.got 2, 0, c, e, v, k, u, us⟩ := by simp only [TakeS.next, if_pos hq0]
        rw [en] at rk' ⊢
        have c1 : TakeS.cell ⟨q, s2.got 2, 0, c, e, v, k, u, us⟩ = 0 := if_neg fun h => h.2 hq0
        refine ⟨rfl, key (x' := ⟨q, s2.got 2, 0, c, e, v, k, u, us⟩) ?_ g rk' (by simp)⟩
        simp only [TakeS.rcells, c1]
        exact A'
      · refine (rT1b (xp := .pointer none) A o1 o5 o6 o7 o8 f hc r o2 o3 hq0).mono ?_
        rintro e' w' ⟨rfl, L', A', g⟩
        have en : TakeS.next ⟨q, z, 1, c, e, v, k, u, us⟩ s2 = ⟨q, s2.got 2, 2, c, e, v, k, u, us⟩ := by simp only [TakeS.next, if_neg hq0]
        rw [en] at rk' ⊢
        refine ⟨rfl, key (x' := ⟨q, s2.got 2, 2, c, e, v, k, u, us⟩) ?_ g rk' (by simp)⟩
        simp only [TakeS.rcells, cell0 _ 2 _ _ _ _ (by decide)]
        exact A'
    · refine (rT2 (xp := .pointer none) A o1 o5 o6 o7 o8 f hc r o2 o3).mono ?_
      rintro e' w' ⟨rfl, L', A', g⟩
      refine ⟨rfl, key (x' := ⟨q, z, 3, c, e, s2.got (q.tb + (t0 z - 1)), k, u, us⟩) ?_ g rk' (by simp)⟩
      simp only [TakeS.rcells, cell0 _ 3 _ _ _ _ (by decide)]
      exact A'
    · rcases hok : s2.ok1 2 z with _ | _
      · refine (rT3f (xp := .pointer none) A o1 o5 o6 o7 o8 f hc r o2 o3 hok).mono ?_
        rintro e' w' ⟨rfl, L', A', g⟩
        have en : TakeS.next ⟨q, z, 3, c, e, v, k, u, us⟩ s2 = ⟨q, z, 1, c, e, v, k, u, us⟩ := by simp [TakeS.next, hok]
        rw [en] at rk' ⊢
        refine ⟨rfl, key (x' := ⟨q, z, 1, c, e, v, k, u, us⟩) ?_ g rk' (by simp)⟩
        simp only [TakeS.rcells, cell0 _ 1 _ _ _ _ (by decide)]
        exact A'
      · refine (rT3t (xp := .pointer none) A o1 o5 o6 o7 o8 f hc r o2 o3 hok).mono ?_
        rintro e' w' ⟨rfl, L', A', g⟩
        have en : TakeS.next ⟨q, z, 3, c, e, v, k, u, us⟩ s2 = ⟨q, z, 4, c, e, v, k, u, us⟩ := by simp [TakeS.next, hok]
        rw [en] at rk' ⊢
        refine ⟨rfl, key (x' := ⟨q, z, 4, c, e, v, k, u, us⟩) ?_ g rk' (by simp)⟩
        simp only [TakeS.rcells, cell0 _ 4 _ _ _ _ (by decide)]
        exact A'
    · refine (rT4 (xp := .pointer none) A o1 o5 o6 o7 o8 f hc r o2 o3).mono ?_
      rintro e' w' ⟨rfl, L', A', g⟩
      refine ⟨rfl, key (x' := ⟨q, z, 5, c, e, v, 0, u, true⟩) ?_ g rk' (by simp)⟩
      simp only [TakeS.rcells, cell0 _ 5 _ _ _ _ (by decide)]
      exact A'
    · have u5 := rk0.u5 (by simp)
      simp only at u5
      subst u5
      have k5 := o11 rfl
      simp only [TakeS.kk, if_true] at A
      by_cases hm : k + 2 < P.Plain.cs c
      · have E : TakeS.mem ⟨q, z, 5, c, e, v, k, u, true⟩ s2 = s2.store (q.cell (t0 z - 1) c (k + 1)) (hw 0 c 0 0 0 0 (q.cell (t0 z - 1) c (k + 1 + 1))) := by
          simp only [TakeS.mem, TakeS.ad, if_pos hm]
          rw [show k + 1 + 1 = k + 2 by omega]
        refine (rT5m (xp := .pointer none) A o1 o5 o6 o7 o8 f hc r o2 o3 (by omega) (by omega)).mono ?_
        rintro e' w' ⟨rfl, L', A', g⟩
        have en : TakeS.next ⟨q, z, 5, c, e, v, k, u, true⟩ s2 = ⟨q, z, 5, c, e, v, k + 1, u, true⟩ := by simp only [TakeS.next, if_pos hm]
        rw [en] at rk' ⊢
        refine ⟨rfl, key (x' := ⟨q, z, 5, c, e, v, k + 1, u, true⟩) ?_ g rk' (by simp)⟩
        rw [E]
        simp only [TakeS.rcells, cell0 _ 5 _ _ _ _ (by decide), TakeS.kk, if_true]
        exact A'
      · have E : TakeS.mem ⟨q, z, 5, c, e, v, k, u, true⟩ s2 = s2.store (q.cell (t0 z - 1) c (k + 1)) (hw 0 c 0 0 0 0 0) := by
          simp only [TakeS.mem, TakeS.ad, if_neg hm]
        refine (rT5l (xp := .pointer none) A o1 o5 o6 o7 o8 f hc r o2 o3 (by omega) (by omega) (by omega) rfl).mono ?_
        rintro e' w' ⟨rfl, L', yq, A', g, hyo, hy'⟩
        have en : TakeS.next ⟨q, z, 5, c, e, v, k, u, true⟩ s2 = ⟨q, z, 6, c, e, v, k + 1, PushS.new (3 + 3 * e + c) (q.cell (t0 z - 1) c 1) (q.cell (t0 z - 1) c (k + 1)) c, true⟩ := by simp only [TakeS.next, if_neg hm, TakeS.ad]
        rw [en] at rk' ⊢
        rw [E] at fi rn cn ⊢
        obtain ⟨K1, K2, K3⟩ := kk (cs' := TakeS.rcells ⟨q, z, 6, c, e, v, k + 1, PushS.new (3 + 3 * e + c) (q.cell (t0 z - 1) c 1) (q.cell (t0 z - 1) c (k + 1)) c, true⟩ (.pointer (some ⟨yq, 0, none⟩))) (by
          simp only [TakeS.rcells, cell0 _ 6 _ _ _ _ (by decide), TakeS.kk, if_true]
          exact A') g fi rn (show _ ≤ ((N + 1 : Nat) : Int) by omega) (by omega)
        refine ⟨rfl, K1, some yq, ⟨K2, fun k hk => ?_, fun _ => ⟨yq, rfl⟩, fun a1 a2 => by simp at a2, rk'⟩, K3, fun k hk => .inr (by obtain rfl := Option.some.inj hk; exact hyo)⟩
        obtain rfl := Option.some.inj hk
        exact ⟨hy', by omega, by decide⟩
end
end Go.Proofs.YtoablodmodnamaaDoor
