/-
  A Take, a Give, a Pop, alone: step by step to the end. No program in sight.
-/
import Derived.Test.YtbojljkdpebheaaDoorKq
namespace Go.Proofs.YtbojljkdpebheaaDoor
set_option linter.unusedVariables false
open S.Plain (t0 t1 tw nx bw b0 b1 b2 b3)
open H.Plain (hw pL)

/-- a Take and its memory behind so many steps -/
def it (x : TakeS) (s : St) : Nat → TakeS × St
  | 0 => (x, s)
  | j + 1 => ((it x s j).1.next (it x s j).2, (it x s j).1.mem (it x s j).2)
theorem it_add (x : TakeS) (s : St) (a b : Nat) : it x s (a + b) = it (it x s a).1 (it x s a).2 b := by
  induction b with
  | zero => rfl
  | succ b ih => rw [show a + (b + 1) = (a + b) + 1 from rfl, it, ih]; rfl
theorem it_ok {x : TakeS} {s : St} (ok : x.Ok) (r : s.Rng) (j : Nat) : (it x s j).1.Ok ∧ (it x s j).2.Rng := by
  induction j with
  | zero => exact ⟨ok, r⟩
  | succ j ih => exact ⟨ih.1.next ih.2, TakeS.rng ih.1 ih.2⟩
section
variable {t n : Nat} {s s' : St} {fl r : List Nat} {v i : Nat} {c e : Int} {x : TakeS}
/-- how a Take's cells are linked: those up to k -/
def Cls (t n i : Nat) (c : Int) (s : St) (k : Int) : Prop := ∀ j : Int, 1 ≤ j → j ≤ k → s.word (cel t n i c j) = hw 0 c 0 0 0 0 (if j + 1 < P.Plain.cs c then cel t n i c (j + 1) else 0)
/-- a Take that has its block, alone -/
structure Has (t n i v0 : Nat) (c e h0 : Int) (fl : List Nat) (v : Nat) (x : TakeS) (s : St) : Prop where
  K : Tk t n c e x
  seen : x.seen = tw ((i : Int) + 1) v0
  fr : Fr t n s fl v
  ent : s.word (10 + t + i) = bw 1 c e 0
  hd : s.word (3 + 3 * e + c) = h0
  k0 : 0 ≤ x.k
  cls : Cls t n i c s x.k
theorem cel_inj {j k : Int} (c0 : 0 ≤ c) (c2 : c ≤ 2) (h : cel t n i c j = cel t n i c k) : j = k := by
  unfold cel at h
  have h6 : 0 < P.Plain.wd c := by
    have : c = 0 ∨ c = 1 ∨ c = 2 := by omega
    rcases this with rfl | rfl | rfl <;> decide
  have : j * P.Plain.wd c = k * P.Plain.wd c := by omega
  exact Int.eq_of_mul_eq_mul_right (by omega) this
theorem has5 {v0 : Nat} {h0 : Int} (c0 : 0 ≤ c) (c2 : c ≤ 2) (e0 : 0 ≤ e) (e1 : e ≤ 1) (hi : i < n) (H : Has t n i v0 c e h0 fl v x s) (hp : x.pc = 5) (k1 : x.k + 1 < P.Plain.cs c) :
    Has t n i v0 c e h0 fl v (x.next s) (x.mem s) ∧ (x.next s).k = x.k + 1 ∧
    (x.k + 2 < P.Plain.cs c → (x.next s).pc = 5) ∧ (¬ x.k + 2 < P.Plain.cs c → (x.next s).pc = 6 ∧ (x.next s).push = PushS.new (3 + 3 * e + c) (cel t n i c 1) (cel t n i c (x.k + 1)) c) := by
  have cb := cs_bounds c0 c2
  obtain ⟨n1, n2, n3⟩ := take5 H.fr H.K c0 c2 hp H.seen hi H.k0 k1
  have k0 := H.k0
  have hin := H.fr.in_cel hi c0 c2 (show 0 ≤ x.k + 1 by omega) k1
  have n64 := H.fr.n64
  have fact : (x.next s).pl = x.pl ∧ (x.next s).cls = x.cls ∧ (x.next s).set = x.set ∧ (x.next s).seen = x.seen ∧ (x.next s).k = x.k + 1 := by
    rw [n1]; split <;> exact ⟨rfl, rfl, rfl, rfl, rfl⟩
  obtain ⟨f1, f2, f3, f4, f5⟩ := fact
  refine ⟨⟨⟨f1.trans H.K.pl, f2.trans H.K.cls, f3.trans H.K.set⟩, f4.trans H.seen, n3, ?_, ?_, by omega, ?_⟩, f5, ?_, ?_⟩
  · rw [n2, word_other hin.1 (H.fr.in_low (by omega) (by omega)) (by omega)]; exact H.ent
  · rw [n2, word_other hin.1 (H.fr.in_low (by omega) (by have := H.fr.n1; omega)) (by omega)]; exact H.hd
  · intro j j0 j1
    rw [f5] at j1
    have hj := H.fr.in_cel hi c0 c2 (show 0 ≤ j by omega) (show j < P.Plain.cs c by omega)
    rw [n2, St.word_store' hin.1 hj.1]
    by_cases hjk : j = x.k + 1
    · subst hjk
      rw [if_pos rfl, show x.k + 1 + 1 = x.k + 2 by omega]
    · rw [if_neg fun he => hjk (cel_inj c0 c2 he).symm]
      exact H.cls j j0 (by omega)
  · intro hk; rw [n1, if_pos hk]; exact hp
  · intro hk; rw [n1, if_neg hk]; exact ⟨rfl, rfl⟩
/-- the cells, one after the other -/
theorem has_cells {v0 : Nat} {h0 : Int} (c0 : 0 ≤ c) (c2 : c ≤ 2) (e0 : 0 ≤ e) (e1 : e ≤ 1) (hi : i < n) (H : Has t n i v0 c e h0 fl v x s) (hp : x.pc = 5) (hk : x.k = 0) (j : Nat) (hj : (j : Int) + 1 ≤ P.Plain.cs c) :
    Has t n i v0 c e h0 fl v (it x s j).1 (it x s j).2 ∧ (it x s j).1.k = j ∧ ((j : Int) + 1 < P.Plain.cs c → (it x s j).1.pc = 5) ∧
    ((j : Int) + 1 = P.Plain.cs c → (it x s j).1.pc = 6 ∧ (it x s j).1.push = PushS.new (3 + 3 * e + c) (cel t n i c 1) (cel t n i c j) c) := by
  have cb := cs_bounds c0 c2
  induction j with
  | zero => exact ⟨H, hk, fun _ => hp, fun h => by omega⟩
  | succ j ih =>
    obtain ⟨H1, H2, H3, _⟩ := ih (by omega)
    have H3 := H3 (by omega)
    obtain ⟨N1, N2, N3, N4⟩ := has5 c0 c2 e0 e1 hi H1 H3 (by rw [H2]; omega)
    rw [H2] at N2 N3 N4
    refine ⟨N1, by rw [it, N2]; omega, fun h => N3 (by omega), fun h => ?_⟩
    obtain ⟨M1, M2⟩ := N4 (by omega)
    exact ⟨M1, by rw [it, M2]; rfl⟩
/-- the whole of a Take, alone: what there is at its end -/
structure Took (t n i : Nat) (c e h0 : Int) (fl : List Nat) (v : Nat) (x : TakeS) (s : St) : Prop where
  pc : x.pc = 0
  cell : x.cell = cel t n i c 0
  fr : Fr t n s fl v
  ent : s.word (10 + t + i) = bw 1 c e 0
  hd : s.word (3 + 3 * e + c) = nx h0 (cel t n i c 1)
  cls : ∀ j : Int, 1 ≤ j → j < P.Plain.cs c → s.word (cel t n i c j) = hw 0 c 0 0 0 0 (if j + 1 < P.Plain.cs c then cel t n i c (j + 1) else t0 h0)
theorem take_solo (h : Fr t n s (i :: r) v) (hv : v < 1099511627776) (c0 : 0 ≤ c) (c2 : c ≤ 2) (e0 : 0 ≤ e) (e1 : e ≤ 1) {m : Nat} (hm : (m : Int) = 6 + P.Plain.cs c) :
    (∀ j, j < m → (it (TakeS.new (mkPl t n) c e) s j).1.pc ≠ 0) ∧ Took t n i c e (s.word (3 + 3 * e + c)) r (v + 1) (it (TakeS.new (mkPl t n) c e) s m).1 (it (TakeS.new (mkPl t n) c e) s m).2 := by
  have hi : i < n := h.lt i (by simp)
  have n64 := h.n64
  have cb := cs_bounds c0 c2
  obtain ⟨h0, hh0⟩ : ∃ h0, s.word (3 + 3 * e + c) = h0 := ⟨_, rfl⟩
  rw [hh0]
  obtain ⟨x0, hx0⟩ : ∃ x0, TakeS.new (mkPl t n) c e = x0 := ⟨_, rfl⟩
  have K0 : Tk t n c e x0 := by rw [← hx0]; exact ⟨rfl, rfl, rfl⟩
  have p0 : x0.pc = 1 := by rw [← hx0]; rfl
  rw [hx0]
  -- 1
  obtain ⟨a1, a2⟩ := take1 h p0
  have i1 : it x0 s 1 = (x0.next s, x0.mem s) := rfl
  obtain ⟨x1, hx1⟩ : ∃ x1, x0.next s = x1 := ⟨_, rfl⟩
  obtain ⟨s1, hs1⟩ : ∃ s1, x0.mem s = s1 := ⟨_, rfl⟩
  rw [hx1, hs1] at i1
  rw [hx1] at a1
  rw [hs1] at a2
  have F1 : Fr t n s1 (i :: r) v := a2 ▸ h.load h.two
  have W1 : ∀ b, s1.word b = s.word b := fun b => by rw [a2]; rfl
  have K1 : Tk t n c e x1 := by rw [a1]; exact ⟨K0.pl, K0.cls, K0.set⟩
  have p1 : x1.pc = 2 := by rw [a1]; rfl
  have z1 : x1.seen = tw ((i : Int) + 1) v := by rw [a1]; rfl
  -- 2
  obtain ⟨b1', b2'⟩ := take2 F1 K1 p1 z1 hi
  have i2 : it x0 s 2 = (x1.next s1, x1.mem s1) := by rw [it, i1]
  obtain ⟨x2, hx2⟩ : ∃ x2, x1.next s1 = x2 := ⟨_, rfl⟩
  obtain ⟨s2, hs2⟩ : ∃ s2, x1.mem s1 = s2 := ⟨_, rfl⟩
  rw [hx2, hs2] at i2
  rw [hx2] at b1'
  rw [hs2] at b2'
  have F2 : Fr t n s2 (i :: r) v := b2' ▸ F1.load (F1.in_low (by omega) (by omega))
  have W2 : ∀ b, s2.word b = s.word b := fun b => by rw [b2']; exact W1 b
  have K2 : Tk t n c e x2 := by rw [b1']; exact ⟨K1.pl, K1.cls, K1.set⟩
  have p2 : x2.pc = 3 := by rw [b1']
  have z2 : x2.seen = tw ((i : Int) + 1) v := by rw [b1']; exact z1
  have r2 : x2.raw = bw 0 0 0 (hd1 r) := by rw [b1']; exact F1.lkd.1
  -- 3
  obtain ⟨c1', c2', F3, W3⟩ := take3 F2 hv p2 z2 r2
  have i3 : it x0 s 3 = (x2.next s2, x2.mem s2) := by rw [it, i2]
  obtain ⟨x3, hx3⟩ : ∃ x3, x2.next s2 = x3 := ⟨_, rfl⟩
  obtain ⟨s3, hs3⟩ : ∃ s3, x2.mem s2 = s3 := ⟨_, rfl⟩
  rw [hx3, hs3] at i3
  rw [hx3] at c1'
  rw [hs3] at F3 W3
  have K3 : Tk t n c e x3 := by rw [c1']; exact ⟨K2.pl, K2.cls, K2.set⟩
  have p3 : x3.pc = 4 := by rw [c1']
  have z3 : x3.seen = tw ((i : Int) + 1) v := by rw [c1']; exact z2
  -- 4
  have hnf : i ∉ r := (List.nodup_cons.1 h.nodup).1
  obtain ⟨d1', d2', F4⟩ := take4 F3 K3 p3 z3 hi hnf
  have i4 : it x0 s 4 = (x3.next s3, x3.mem s3) := by rw [it, i3]
  obtain ⟨x4, hx4⟩ : ∃ x4, x3.next s3 = x4 := ⟨_, rfl⟩
  obtain ⟨s4, hs4⟩ : ∃ s4, x3.mem s3 = s4 := ⟨_, rfl⟩
  rw [hx4, hs4] at i4
  rw [hx4] at d1'
  rw [hs4] at F4 d2'
  have inE : s3.In (10 + t + i) := F3.in_low (by omega) (by omega)
  have inH : s3.In (3 + 3 * e + c) := F3.in_low (by omega) (by omega)
  have p4 : x4.pc = 5 := by rw [d1']
  have k4 : x4.k = 0 := by rw [d1']
  have H4 : Has t n i v c e h0 r (v + 1) x4 s4 := by
    refine ⟨by rw [d1']; exact ⟨K3.pl, K3.cls, K3.set⟩, by rw [d1']; exact z3, F4, ?_, ?_, by rw [k4]; omega, fun j j0 j1 => by rw [k4] at j1; omega⟩
    · rw [d2', St.word_store' inE inE, if_pos rfl]
    · rw [d2', word_other inE inH (by omega), W3 _ (F2.in_low (by omega) (by omega)) (by omega), W2]; exact hh0
  -- 5
  obtain ⟨l, hl⟩ : ∃ l : Nat, (l : Int) + 1 = P.Plain.cs c := ⟨(P.Plain.cs c - 1).toNat, by omega⟩
  have H5 := has_cells c0 c2 e0 e1 hi H4 p4 k4
  have iadd : ∀ j, it x0 s (4 + j) = it x4 s4 j := fun j => by rw [it_add, i4]
  obtain ⟨G1, G2, _, G4⟩ := H5 l (by omega)
  obtain ⟨G5, G6⟩ := G4 hl
  obtain ⟨x5, hx5⟩ : ∃ x5, (it x4 s4 l).1 = x5 := ⟨_, rfl⟩
  obtain ⟨s5, hs5⟩ : ∃ s5, (it x4 s4 l).2 = s5 := ⟨_, rfl⟩
  have i5 : it x0 s (4 + l) = (x5, s5) := by rw [iadd, ← hx5, ← hs5]
  rw [hx5] at G1 G2 G5 G6
  rw [hs5] at G1
  -- 6
  have G3 := G1.fr
  have inL := G3.in_cel hi c0 c2 (show (0 : Int) ≤ l by omega) (by omega)
  have inH5 : s5.In (3 + 3 * e + c) := G3.in_low (by omega) (by omega)
  have n6 : ∀ (y : TakeS) (u : St), y.pc = 6 → y.next u = { y with push := y.push.next u, pc := if (y.push.next u).pc = 0 then 0 else 6 } ∧ y.mem u = y.push.mem u := fun y u hy => ⟨by simp only [TakeS.next, hy], by simp only [TakeS.mem, hy]⟩
  obtain ⟨q1, q2⟩ := n6 x5 s5 G5
  have u1 : x5.push.next s5 = ⟨3 + 3 * e + c, cel t n i c 1, cel t n i c l, c, h0, 2⟩ := by rw [G6]; simp only [PushS.next, PushS.new, inH5.got, G1.hd]
  have m1 : x5.push.mem s5 = s5.load (3 + 3 * e + c) := by rw [G6]; rfl
  rw [u1] at q1
  rw [m1] at q2
  have i6 : it x0 s (4 + l + 1) = (x5.next s5, x5.mem s5) := by rw [it, i5]
  obtain ⟨x6, hx6⟩ : ∃ x6, x5.next s5 = x6 := ⟨_, rfl⟩
  obtain ⟨s6, hs6⟩ : ∃ s6, x5.mem s5 = s6 := ⟨_, rfl⟩
  rw [hx6, hs6] at i6
  rw [hx6] at q1
  rw [hs6] at q2
  have p6 : x6.pc = 6 := by rw [q1]; rfl
  have F6 : Fr t n s6 r (v + 1) := q2 ▸ G3.load inH5
  have W6 : ∀ b, s6.word b = s5.word b := fun b => by rw [q2]; rfl
  obtain ⟨q3, q4⟩ := n6 x6 s6 p6
  have pu6 : x6.push = ⟨3 + 3 * e + c, cel t n i c 1, cel t n i c l, c, h0, 2⟩ := by rw [q1]
  have inL6 : s6.In (cel t n i c l) := inL.1.len (by rw [q2]; rfl)
  have inH6 : s6.In (3 + 3 * e + c) := inH5.len (by rw [q2]; rfl)
  rw [pu6] at q3 q4
  simp only [PushS.next, PushS.mem] at q3 q4
  have i7 : it x0 s (4 + l + 2) = (x6.next s6, x6.mem s6) := by rw [it, i6]
  obtain ⟨x7, hx7⟩ : ∃ x7, x6.next s6 = x7 := ⟨_, rfl⟩
  obtain ⟨s7, hs7⟩ : ∃ s7, x6.mem s6 = s7 := ⟨_, rfl⟩
  rw [hx7, hs7] at i7
  rw [hx7] at q3
  rw [hs7] at q4
  have p7 : x7.pc = 6 := by rw [q3]; rfl
  have F7 : Fr t n s7 r (v + 1) := by rw [q4]; exact F6.store inL6 (by omega) fun j hj he => by have := F6.lt j hj; omega
  obtain ⟨q5, q6⟩ := n6 x7 s7 p7
  have pu7 : x7.push = ⟨3 + 3 * e + c, cel t n i c 1, cel t n i c l, c, h0, 3⟩ := by rw [q3]
  have inH7 : s7.In (3 + 3 * e + c) := inH6.len (by rw [q4, St.n_store])
  have hd7 : s7.word (3 + 3 * e + c) = h0 := by rw [q4, word_other inL6 inH6 (by omega), W6]; exact G1.hd
  have ok7 : s7.ok1 (3 + 3 * e + c) h0 = true := by rw [St.ok1_iff' inH7, hd7]; simp
  rw [pu7] at q5 q6
  simp only [PushS.next, PushS.mem, ok7, if_true] at q5 q6
  have i8 : it x0 s (4 + l + 3) = (x7.next s7, x7.mem s7) := by rw [it, i7]
  have em : m = 4 + l + 3 := by omega
  rw [em, i8]
  have F8 : Fr t n (x7.mem s7) r (v + 1) := by rw [q6]; exact F7.cas inH7 (by omega) fun j hj he => by have := F7.lt j hj; omega
  have W8 : ∀ b, s7.In b → b ≠ 3 + 3 * e + c → (x7.mem s7).word b = s7.word b := fun b hb hne => by rw [q6]; exact cas_other inH7 hb (Ne.symm hne)
  refine ⟨?_, ?_, ?_, F8, ?_, ?_, ?_⟩
  · intro j hj
    by_cases j4 : j < 4
    · have : j = 0 ∨ j = 1 ∨ j = 2 ∨ j = 3 := by omega
      rcases this with rfl | rfl | rfl | rfl
      · show x0.pc ≠ 0; omega
      · rw [i1]; show x1.pc ≠ 0; omega
      · rw [i2]; show x2.pc ≠ 0; omega
      · rw [i3]; show x3.pc ≠ 0; omega
    · by_cases j5 : j < 4 + l
      · obtain ⟨j', rfl⟩ : ∃ j', j = 4 + j' := ⟨j - 4, by omega⟩
        rw [iadd]
        have := (H5 j' (by omega)).2.2.1 (by omega)
        omega
      · have : j = 4 + l ∨ j = 4 + l + 1 ∨ j = 4 + l + 2 := by omega
        rcases this with rfl | rfl | rfl
        · rw [i5]; show x5.pc ≠ 0; omega
        · rw [i6]; show x6.pc ≠ 0; omega
        · rw [i7]; show x7.pc ≠ 0; omega
  · rw [q5]
  · have e1 : (x7.next s7).pc = 0 := by rw [q5]
    have e2 : (x7.next s7).seen = tw ((i : Int) + 1) v := by rw [q5]; show x7.seen = _; rw [q3]; show x6.seen = _; rw [q1]; exact G1.seen
    have e3 : Tk t n c e (x7.next s7) := by
      rw [q5]
      have k6 : Tk t n c e x6 := by rw [q1]; exact ⟨G1.K.pl, G1.K.cls, G1.K.set⟩
      have k7 : Tk t n c e x7 := by rw [q3]; exact ⟨k6.pl, k6.cls, k6.set⟩
      exact ⟨k7.pl, k7.cls, k7.set⟩
    unfold TakeS.cell
    rw [if_pos ⟨e1, by rw [e2, t0_small (by omega) (by omega)]; omega⟩, e3.ad e2 (by omega)]
  · rw [W8 _ (F7.in_low (by omega) (by omega)) (by omega), q4, word_other inL6 (F6.in_low (by omega) (by omega)) (by omega), W6]; exact G1.ent
  · show (x7.mem s7).word (3 + 3 * e + c) = _
    rw [q6, St.word_cas_ok' inH7 inH7 hd7, if_pos rfl]
  · intro j j0 j1
    have hj := F7.in_cel hi c0 c2 (show 0 ≤ j by omega) j1
    rw [W8 _ hj.1 (by omega), q4, St.word_store' inL6 (hj.1.len (by rw [q4, St.n_store]))]
    by_cases hjl : j = l
    · subst hjl
      rw [if_pos rfl, if_neg (by omega)]
    · rw [if_neg fun he => hjl (cel_inj c0 c2 he).symm, W6, if_pos (by omega)]
      have := G1.cls j j0 (by rw [G2]; omega)
      rw [if_pos (by omega)] at this
      exact this
end
end Go.Proofs.YtbojljkdpebheaaDoor
