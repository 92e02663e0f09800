/-
  The reference's Take over two memories.
-/
import Derived.Test.YtbojljkdpebheaaGreatDoorRg
namespace Go.Proofs.YtbojljkdpebheaaGreatDoor
set_option linter.unusedVariables false
set_option linter.unusedSimpArgs false
set_option maxRecDepth 100000
open Go.ChangeShapes Go.WideShapes Go.RowKit
open S.Plain (t0 t1 tw nx bw b0 b1 b2 b3)
open H.Plain (hw pL)
section
variable {w0 w w' : World} {b y p : Nat} {s1 s2 : St} {N : Nat}
/-- the reference's Take, where it lies -/
def qv : Option Nat → Value
  | some k => .pointer (some ⟨k, 0, none⟩)
  | none => .pointer none
structure RTk (w0 w : World) (p : Nat) (Q : Option Nat) (x : TakeS) : Prop where
  blk : Blk w0 w p 94 (x.rcells (qv Q))
  psh : ∀ k, Q = some k → Blk w0 w k 140 x.push.rcells
  six : x.pc = 6 → ∃ k, Q = some k
  one : 1 ≤ x.pc → x.pc ≤ 5 → Q = none
  rk : x.Rk
theorem RTk.oth {F : List Nat} {Q : Option Nat} {x : TakeS} (h : RTk w0 w p Q x) (ho : Oth F w w') (h1 : p ∉ F) (h2 : ∀ k, Q = some k → k ∉ F) : RTk w0 w' p Q x :=
  ⟨h.blk.oth ho h1, fun k hk => (h.psh k hk).oth ho (h2 k hk), h.six, h.one, h.rk⟩
set_option maxHeartbeats 1000000 in
theorem yTake {x : TakeS} {Q : Option Nat} (h : Two w0 w b y s1 s2 N) (R : RTk w0 w p Q x) (ok : x.Ok) (h1 : 1 ≤ x.pc) (hN : N < 1000000) :
    Calls Tryz.prog 38 #[.pointer (some ⟨p, 0, none⟩), .pointer (some ⟨y, 0, none⟩)] w fun e w' => e = .returned (.bool ((x.next s2).pc == 0)) ∧
      Two w0 w' b y s1 (x.mem s2) (N + 1) ∧ ∃ Q', RTk w0 w' p Q' (x.next s2) ∧ Oth (p :: Q.toList) w w' ∧ ∀ k, Q' = some k → Q = some k ∨ w.heap.size ≤ k := by
  have ht := h.top2
  have hc : s2.c < 1000000 := by omega
  have f := h.fit2
  have r := h.rng2
  have cn := TakeS.count (s := s2) ok
  have fi := TakeS.fit ok f hc
  have rn := TakeS.rng ok r
  have rk' := R.rk.next (s := s2) ok h1
  by_cases h6 : x.pc = 6
  · -- the steps of the list
    obtain ⟨yq, hyq⟩ := R.six h6
    subst hyq
    have By := R.psh yq rfl
    have Bp := R.blk
    have ru := R.rk.u5 (by omega)
    have rz := R.rk.z (by omega)
    have hw0 := h.widw
    obtain ⟨⟨L, M, e1, rfl, hm, hr, hl, hl2⟩, hb, f1, f2, t1', t2', r1, r2, wd⟩ := h
    have h0 := wd.two
    have hpM : p ∉ M.fp := notin_fp hr (by decide) Bp.hT Bp.at_
    have hyM : yq ∉ M.fp := notin_fp hr (by decide) By.hT By.at_
    have hpL : p ∉ L.fp := notin_fp hm (by decide) Bp.hT Bp.at_
    have hyL : yq ∉ L.fp := notin_fp hm (by decide) By.hT By.at_
    have A : At 66 w M s2 p 94 (x.rcells (.pointer (some ⟨yq, 0, none⟩))) := ⟨hr, Bp.at_, by decide, hw0, fun j hj hz => by have := hl2 j hz; omega, by have := Bp.old; omega⟩
    have key : ∀ {w' : World} {M' : Loc} {x' : TakeS}, At 66 w' M' (x.mem s2) p 94 (x'.rcells (.pointer (some ⟨yq, 0, none⟩))) → w'.heap[yq]? = some (.cells x'.push.rcells 140 (0, 0)) → Kept (p :: yq :: M.fp) w w' → (∀ k ∈ M'.fp, k ∈ M.fp ∨ w.heap.size ≤ k) → M'.b = M.b → x'.Rk → (x'.pc = 0 ∨ x'.pc = 6) →
        Two w0 w' b M.b s1 (x.mem s2) (N + 1) ∧ ∃ Q', RTk w0 w' p Q' x' ∧ Oth (p :: (some yq).toList) w w' ∧ ∀ k, Q' = some k → (some yq) = some k ∨ w.heap.size ≤ k := by
      intro w' M' x' A' hy' hk hn hb' rkx hpc
      have hm' : Mm w' L s1 := hm.on hk fun k hkL hk' => by
        simp only [List.mem_cons] at hk'
        rcases hk' with rfl | rfl | hk'
        · exact hpL hkL
        · exact hyL hkL
        · exact (hl k hkL).2 hk'
      have hl2' : ∀ k ∈ M'.fp, w0.heap.size ≤ k := fun k hk => (hn k hk).elim (hl2 k) fun h' => Nat.le_trans hb.size h'
      have hl' : ∀ k ∈ L.fp, w0.heap.size ≤ k ∧ k ∉ M'.fp := fun k hk => ⟨(hl k hk).1, fun hkM => (hn k hkM).elim (hl k hk).2 fun h' => by have := hm.lt k hk; omega⟩
      refine ⟨⟨⟨L, M', e1, hb', hm', A'.mem, hl', hl2'⟩, hb.trans (hk.below (fun k hk => ?_) hb.size), f1, fi, by omega, by omega, r1, rn, wd⟩, some yq, ⟨⟨A'.blk, Bp.old, Bp.hT⟩, fun k hk => ?_, fun _ => ⟨yq, rfl⟩, fun a1 a2 => by omega, rkx⟩, ⟨hk.size, fun k cs T fz hF hT hkk => (hk.block k (lt_of_block hkk) ?_).trans hkk⟩, fun k hk => .inl hk⟩
      · simp only [List.mem_cons] at hk
        rcases hk with rfl | rfl | hk
        · exact Bp.old
        · exact By.old
        · exact hl2 k hk
      · obtain rfl := Option.some.inj hk
        exact ⟨hy', By.old, By.hT⟩
      · simp only [Option.toList_some, List.mem_cons, List.not_mem_nil, or_false, not_or] at hF
        simp only [List.mem_cons, not_or]
        exact ⟨hF.1, hF.2, notin_fp hr (by decide) hT hkk⟩
    have yo : 2 ≤ yq := by have := By.old; omega
    have Byy := By.at_
    clear R Bp By hr hm hl hl2 hb
    obtain ⟨q, z, pc, c, e, v, k, u, us⟩ := x
    obtain ⟨o1, o2, o3, o4, o5, o6, o7, o8, o9, o10, o11, o12⟩ := ok
    simp only at o1 o2 o3 o4 o5 o6 o7 o8 o9 o10 o11 o12 h6 ru rz
    subst h6 ru
    have c0 : TakeS.cell ⟨q, z, 6, c, e, v, k, u, true⟩ = 0 := if_neg fun h => by simp at h
    simp only [TakeS.rcells, c0] at A
    rcases hok : ((u.next s2).pc == 0) with _ | _
    · refine (rT6f (xp := .pointer (some ⟨yq, 0, none⟩)) A o1 o5 o6 o7 o8 f hc r o2 o3 o12 Byy yo hok rfl).mono ?_
      rintro e' w' ⟨rfl, L', A', hy', hk, hn, hb'⟩
      have hne : ¬ (u.next s2).pc = 0 := by simpa using hok
      have en : TakeS.next ⟨q, z, 6, c, e, v, k, u, true⟩ s2 = ⟨q, z, 6, c, e, v, k, u.next s2, true⟩ := by simp only [TakeS.next, if_neg hne]
      rw [en] at rk' ⊢
      have c1 : TakeS.cell ⟨q, z, 6, c, e, v, k, u.next s2, true⟩ = 0 := if_neg fun h => by simp at h
      refine ⟨rfl, key (x' := ⟨q, z, 6, c, e, v, k, u.next s2, true⟩) ?_ hy' hk hn hb' rk' (.inr rfl)⟩
      simp only [TakeS.rcells, c1]
      exact A'
    · refine (rT6t (xp := .pointer (some ⟨yq, 0, none⟩)) A o1 o5 o6 o7 o8 f hc r o2 o3 o12 Byy yo hok rfl).mono ?_
      rintro e' w' ⟨rfl, L', A', hy', hk, hn, hb'⟩
      have hne : (u.next s2).pc = 0 := by simpa using hok
      have en : TakeS.next ⟨q, z, 6, c, e, v, k, u, true⟩ s2 = ⟨q, z, 0, c, e, v, k, u.next s2, true⟩ := by simp only [TakeS.next, if_pos hne]
      rw [en] at rk' ⊢
      have c1 : TakeS.cell ⟨q, z, 0, c, e, v, k, u.next s2, true⟩ = q.cell (t0 z - 1) c 0 := if_pos ⟨rfl, rz⟩
      refine ⟨rfl, key (x' := ⟨q, z, 0, c, e, v, k, u.next s2, true⟩) ?_ hy' hk hn hb' rk' (.inl rfl)⟩
      simp only [TakeS.rcells, c1]
      exact A'
  · -- the steps ahead of the list's
    have p5 : x.pc ≤ 5 := by have := ok.pc; omega
    have hQ := R.one h1 p5
    subst hQ
    have Bp := R.blk
    obtain ⟨M, rfl, A, kk⟩ := h.went2 Bp
    have key : ∀ {w' : World} {M' : Loc} {x' : TakeS}, At 66 w' M' (x.mem s2) p 94 (x'.rcells (.pointer none)) → Went w M p w' M' → x'.Rk → x'.pc ≠ 6 →
        Two w0 w' b M.b s1 (x.mem s2) (N + 1) ∧ ∃ Q', RTk w0 w' p Q' x' ∧ Oth (p :: (none : Option Nat).toList) w w' ∧ ∀ k, Q' = some k → (none : Option Nat) = some k ∨ w.heap.size ≤ k := by
      intro w' M' x' A' g rkx h6'
      obtain ⟨K1, K2, K3⟩ := kk A' g fi rn (show _ ≤ ((N + 1 : Nat) : Int) by omega) (by omega)
      exact ⟨K1, none, ⟨K2, fun k hk => absurd hk (by simp), fun h => absurd h h6', fun _ _ => rfl, rkx⟩, K3, fun k hk => absurd hk (by simp)⟩
    have rk0 := R.rk
    have bold := Bp.old
    have hsz := h.bel.size
    clear R Bp h
    obtain ⟨q, z, pc, c, e, v, k, u, us⟩ := x
    obtain ⟨o1, o2, o3, o4, o5, o6, o7, o8, o9, o10, o11, o12⟩ := ok
    simp only at o1 o2 o3 o4 o5 o6 o7 o8 o9 o10 o11 o12 h6 h1 p5
    have c0 : TakeS.cell ⟨q, z, pc, c, e, v, k, u, us⟩ = 0 := if_neg fun h => by have := h.1; simp at this; omega
    have cell0 : ∀ (z' : Int) (pc' : Nat) (v' k' : Int) (u' : PushS) (us' : Bool), pc' ≠ 0 → TakeS.cell ⟨q, z', pc', c, e, v', k', u', us'⟩ = 0 := fun _ _ _ _ _ _ h => if_neg fun hh => h hh.1
    have cb := cs_bounds o5 o6
    simp only [TakeS.rcells, c0, qv] at A
    have : pc = 1 ∨ pc = 2 ∨ pc = 3 ∨ pc = 4 ∨ pc = 5 := by omega
    rcases this with rfl | rfl | rfl | rfl | rfl
    · by_cases hq0 : t0 (s2.got 2) = 0
      · refine (rT1a (xp := .pointer none) A o1 o5 o6 o7 o8 f hc r o2 o3 hq0).mono ?_
        rintro e' w' ⟨rfl, L', A', g⟩
        have en : TakeS.next ⟨q, z, 1, c, e, v, k, u, us⟩ s2 = ⟨q, s2.got 2, 0, c, e, v, k, u, us⟩ := by simp only [TakeS.next, if_pos hq0]
        rw [en] at rk' ⊢
        have c1 : TakeS.cell ⟨q, s2.got 2, 0, c, e, v, k, u, us⟩ = 0 := if_neg fun h => h.2 hq0
        refine ⟨rfl, key (x' := ⟨q, s2.got 2, 0, c, e, v, k, u, us⟩) ?_ g rk' (by simp)⟩
        simp only [TakeS.rcells, c1]
        exact A'
      · refine (rT1b (xp := .pointer none) A o1 o5 o6 o7 o8 f hc r o2 o3 hq0).mono ?_
        rintro e' w' ⟨rfl, L', A', g⟩
        have en : TakeS.next ⟨q, z, 1, c, e, v, k, u, us⟩ s2 = ⟨q, s2.got 2, 2, c, e, v, k, u, us⟩ := by simp only [TakeS.next, if_neg hq0]
        rw [en] at rk' ⊢
        refine ⟨rfl, key (x' := ⟨q, s2.got 2, 2, c, e, v, k, u, us⟩) ?_ g rk' (by simp)⟩
        simp only [TakeS.rcells, cell0 _ 2 _ _ _ _ (by decide)]
        exact A'
    · refine (rT2 (xp := .pointer none) A o1 o5 o6 o7 o8 f hc r o2 o3).mono ?_
      rintro e' w' ⟨rfl, L', A', g⟩
      refine ⟨rfl, key (x' := ⟨q, z, 3, c, e, s2.got (q.tb + (t0 z - 1)), k, u, us⟩) ?_ g rk' (by simp)⟩
      simp only [TakeS.rcells, cell0 _ 3 _ _ _ _ (by decide)]
      exact A'
    · rcases hok : s2.ok1 2 z with _ | _
      · refine (rT3f (xp := .pointer none) A o1 o5 o6 o7 o8 f hc r o2 o3 hok).mono ?_
        rintro e' w' ⟨rfl, L', A', g⟩
        have en : TakeS.next ⟨q, z, 3, c, e, v, k, u, us⟩ s2 = ⟨q, z, 1, c, e, v, k, u, us⟩ := by simp [TakeS.next, hok]
        rw [en] at rk' ⊢
        refine ⟨rfl, key (x' := ⟨q, z, 1, c, e, v, k, u, us⟩) ?_ g rk' (by simp)⟩
        simp only [TakeS.rcells, cell0 _ 1 _ _ _ _ (by decide)]
        exact A'
      · refine (rT3t (xp := .pointer none) A o1 o5 o6 o7 o8 f hc r o2 o3 hok).mono ?_
        rintro e' w' ⟨rfl, L', A', g⟩
        have en : TakeS.next ⟨q, z, 3, c, e, v, k, u, us⟩ s2 = ⟨q, z, 4, c, e, v, k, u, us⟩ := by simp [TakeS.next, hok]
        rw [en] at rk' ⊢
        refine ⟨rfl, key (x' := ⟨q, z, 4, c, e, v, k, u, us⟩) ?_ g rk' (by simp)⟩
        simp only [TakeS.rcells, cell0 _ 4 _ _ _ _ (by decide)]
        exact A'
    · refine (rT4 (xp := .pointer none) A o1 o5 o6 o7 o8 f hc r o2 o3).mono ?_
      rintro e' w' ⟨rfl, L', A', g⟩
      refine ⟨rfl, key (x' := ⟨q, z, 5, c, e, v, 0, u, true⟩) ?_ g rk' (by simp)⟩
      simp only [TakeS.rcells, cell0 _ 5 _ _ _ _ (by decide)]
      exact A'
    · have u5 := rk0.u5 (by simp)
      simp only at u5
      subst u5
      have k5 := o11 rfl
      simp only [TakeS.kk, if_true] at A
      by_cases hm : k + 2 < P.Plain.cs c
      · have E : TakeS.mem ⟨q, z, 5, c, e, v, k, u, true⟩ s2 = s2.store (q.cell (t0 z - 1) c (k + 1)) (hw 0 c 0 0 0 0 (q.cell (t0 z - 1) c (k + 1 + 1))) := by
          simp only [TakeS.mem, TakeS.ad, if_pos hm]
          rw [show k + 1 + 1 = k + 2 by omega]
        refine (rT5m (xp := .pointer none) A o1 o5 o6 o7 o8 f hc r o2 o3 (by omega) (by omega)).mono ?_
        rintro e' w' ⟨rfl, L', A', g⟩
        have en : TakeS.next ⟨q, z, 5, c, e, v, k, u, true⟩ s2 = ⟨q, z, 5, c, e, v, k + 1, u, true⟩ := by simp only [TakeS.next, if_pos hm]
        rw [en] at rk' ⊢
        refine ⟨rfl, key (x' := ⟨q, z, 5, c, e, v, k + 1, u, true⟩) ?_ g rk' (by simp)⟩
        rw [E]
        simp only [TakeS.rcells, cell0 _ 5 _ _ _ _ (by decide), TakeS.kk, if_true]
        exact A'
      · have E : TakeS.mem ⟨q, z, 5, c, e, v, k, u, true⟩ s2 = s2.store (q.cell (t0 z - 1) c (k + 1)) (hw 0 c 0 0 0 0 0) := by
          simp only [TakeS.mem, TakeS.ad, if_neg hm]
        refine (rT5l (xp := .pointer none) A o1 o5 o6 o7 o8 f hc r o2 o3 (by omega) (by omega) (by omega) rfl).mono ?_
        rintro e' w' ⟨rfl, L', yq, A', g, hyo, hy'⟩
        have en : TakeS.next ⟨q, z, 5, c, e, v, k, u, true⟩ s2 = ⟨q, z, 6, c, e, v, k + 1, PushS.new (3 + 3 * e + c) (q.cell (t0 z - 1) c 1) (q.cell (t0 z - 1) c (k + 1)) c, true⟩ := by simp only [TakeS.next, if_neg hm, TakeS.ad]
        rw [en] at rk' ⊢
        rw [E] at fi rn cn ⊢
        obtain ⟨K1, K2, K3⟩ := kk (cs' := TakeS.rcells ⟨q, z, 6, c, e, v, k + 1, PushS.new (3 + 3 * e + c) (q.cell (t0 z - 1) c 1) (q.cell (t0 z - 1) c (k + 1)) c, true⟩ (.pointer (some ⟨yq, 0, none⟩))) (by
          simp only [TakeS.rcells, cell0 _ 6 _ _ _ _ (by decide), TakeS.kk, if_true]
          exact A') g fi rn (show _ ≤ ((N + 1 : Nat) : Int) by omega) (by omega)
        refine ⟨rfl, K1, some yq, ⟨K2, fun k hk => ?_, fun _ => ⟨yq, rfl⟩, fun a1 a2 => by simp at a2, rk'⟩, K3, fun k hk => .inr (by obtain rfl := Option.some.inj hk; exact hyo)⟩
        obtain rfl := Option.some.inj hk
        exact ⟨hy', by omega, by decide⟩
end
end Go.Proofs.YtbojljkdpebheaaGreatDoor
