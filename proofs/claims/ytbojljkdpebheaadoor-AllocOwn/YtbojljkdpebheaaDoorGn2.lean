/-
  What comes of a step of a Take, of a Reserve and of an Alloc, said plainly. No program in sight.
-/
import Derived.Test.YtbojljkdpebheaaDoorGn
namespace Go.Proofs.YtbojljkdpebheaaDoor
set_option linter.unusedVariables false
open S.Plain (t0 t1 tw nx bw b0 b1 b2 b3)
open H.Plain (hw pL)
section
variable {n R k c a : Nat} {E : Env}
theorem ad_cel {kl : Nat → Nat} {a c : Nat} (h : kl a = c) (t : Nat) : ad n kl (a, t) = cel 4 n a (c : Nat) (t : Nat) := by unfold ad; simp only [h]
/-- what comes of a step of a Take -/
inductive TOut (n R k c : Nat) (E : Env) (x : TakeS) : Prop
  | go (E' : Env) (S : Stp n R k E E' (x.mem E.s)) (p : (x.next E.s).pc ≠ 0) (J : TJ n E' c k (x.next E.s)) : TOut n R k c E x
  | no (E' : Env) (S : Stp n R k E E' (x.mem E.s)) (p : (x.next E.s).pc = 0) (z : (x.next E.s).cell = 0) (a : E'.j = n) : TOut n R k c E x
  | got (E' : Env) (S : Stp n R k E E' (x.mem E.s)) (p : (x.next E.s).pc = 0) (q : Cl) (z : (x.next E.s).cell = ad n E'.kl q) (o : E'.ow q = 2 + k) (kc : E'.kl q.1 = c) : TOut n R k c E x
theorem take_s1 {x : TakeS} (W : Wld n E R) (J : TJ n E c k x) (hp : x.pc = 1) : TOut n R k c E x := by
  obtain ⟨a1, a2⟩ := take1 W.fr hp
  have S0 : Stp n R k E { E with s := E.s.load 2 } (x.mem E.s) := by rw [a2]; exact Stp.load W W.fr.two
  by_cases e : E.j < n
  · have hne : upto E.j n ≠ [] := by rw [upto_cons e]; simp
    rw [if_neg hne] at a1
    refine .go _ S0 (by rw [a1]; simp) ?_
    rw [a1]
    exact ⟨⟨J.K.pl, J.K.cls, J.K.set⟩, by simp, by simp, fun _ => ⟨E.j, e, Nat.le_refl _, by rw [upto_cons e]; rfl, fun h => by simp at h, fun h => by simp at h, fun h => by simp at h, fun h => by simp at h⟩⟩
  · have hj : E.j = n := by have := W.jn; omega
    have hnil : upto E.j n = [] := by rw [hj, upto_nil]
    rw [if_pos hnil] at a1
    refine .no _ S0 (by rw [a1]) ?_ hj
    unfold TakeS.cell
    refine if_neg fun hh => hh.2 ?_
    rw [a1, hnil]
    exact t0_small (by simp [hd1]) (by simp [hd1]) _
theorem take_s2 {x : TakeS} (W : Wld n E R) (J : TJ n E c k x) (hp : x.pc = 2) : TOut n R k c E x := by
  obtain ⟨a, a1, a2, a3, a4, a5, a6, a7⟩ := J.see (by omega)
  obtain ⟨e1, e2⟩ := take2 W.fr J.K hp a3 a1
  have hin : E.s.In (10 + (4 : Nat) + a) := W.inL (by omega) (by omega)
  refine .go { E with s := E.s.load (10 + (4 : Nat) + a) } (by rw [e2]; exact Stp.load W hin) (by rw [e1]; simp) ?_
  rw [e1]
  refine ⟨⟨J.K.pl, J.K.cls, J.K.set⟩, by simp, by simp, fun _ => ⟨a, a1, a2, a3, fun _ e => ?_, fun h => by simp at h, fun h => by simp at h, fun h => by simp at h⟩⟩
  simp only at e ⊢
  subst e
  have L := W.fr.lkd
  rw [upto_cons a1] at L
  rw [← hd1_upto a1]
  exact L.1
theorem take_s3 {x : TakeS} (W : Wld n E R) (hc : c < 2) (J : TJ n E c k x) (hk : k < 4) (hp : x.pc = 3) : TOut n R k c E x := by
  obtain ⟨a, a1, a2, a3, a4, a5, a6, a7⟩ := J.see (by omega)
  have n4 := W.n4
  have jn := W.jn
  by_cases e : x.seen = E.s.word 2
  · have hj : E.j < n ∧ a = E.j := by
      rw [a3, W.fr.head] at e
      by_cases hjn : E.j < n
      · rw [upto_cons hjn] at e
        have := tw_inj (by omega) (by omega) (by simp only [hd1]; omega) (by simp only [hd1]; omega) (by omega) (by omega) e
        exact ⟨hjn, this.2⟩
      · have hjn' : E.j = n := by omega
        rw [hjn', upto_nil] at e
        have := tw_inj (by omega) (by omega) (by simp only [hd1]; omega) (by simp only [hd1]; omega) (by omega) (by omega) e
        simp only [hd1] at this
        omega
    obtain ⟨hjn, rfl⟩ := hj
    have F := W.fr
    rw [upto_cons hjn] at F
    obtain ⟨c1, c2, F', Wd⟩ := take3 F (by omega) hp a3 (by rw [a4 hp rfl, hd1_upto hjn])
    obtain ⟨W1, T1⟩ := W.taken (k := k) hjn hc
    refine .go _ ⟨c2.symm, W1.mono (Nat.le_succ _), T1, fun p => ?_⟩ (by rw [c1]; simp) ?_
    · simp only
      by_cases ep : p.1 = E.j ∧ (p.2 : Int) < P.Plain.cs c
      · rw [if_pos ep]
        have : E.ow p = 0 := by
          by_cases h0 : E.ow p = 0
          · exact h0
          · have := (W.dom p h0).lt; omega
        omega
      · rw [if_neg ep]
    · rw [c1]
      exact ⟨⟨J.K.pl, J.K.cls, J.K.set⟩, by simp, by simp, fun _ => ⟨E.j, a1, by simp only; omega, a3, fun h => by simp at h, fun _ => ⟨by simp only; omega, upd_eq _ _ _, fun i hi => if_pos ⟨rfl, hi⟩⟩, fun h => by simp at h, fun h => by simp at h⟩⟩
  · obtain ⟨c1, F', Wd⟩ := take3n W.fr hp e
    have hl : (x.mem E.s).ws.length = E.s.ws.length := F'.len.trans W.fr.len.symm
    refine .go _ (Stp.same W hl (F'.trap.trans W.fr.trap.symm) Wd) (by rw [c1]; simp) ?_
    rw [c1]
    exact ⟨⟨J.K.pl, J.K.cls, J.K.set⟩, by simp, by simp, fun h => by simp at h⟩
theorem take_s4 {x : TakeS} (W : Wld n E R) (hc : c < 2) (J : TJ n E c k x) (hp : x.pc = 4) : TOut n R k c E x := by
  obtain ⟨a, a1, a2, a3, a4, a5, a6, a7⟩ := J.see (by omega)
  obtain ⟨b1, b2, b3⟩ := a5 (by omega)
  obtain ⟨c1, c2, F'⟩ := take4 W.fr J.K hp a3 a1 (by rw [mem_upto]; omega)
  obtain ⟨W1, T1⟩ := W.tab (k := k) b1 (bw 1 c 0 0)
  refine .go _ ⟨c2.symm, W1.mono (Nat.le_succ _), T1, fun _ => Iff.rfl⟩ (by rw [c1]; simp) ?_
  rw [c1]
  refine ⟨⟨J.K.pl, J.K.cls, J.K.set⟩, by simp, by simp, fun _ => ⟨a, a1, a2, a3, fun h => by simp at h, fun _ => ⟨b1, b2, b3⟩, fun _ => ⟨0, rfl, ?_, fun t t1 t2 => by omega⟩, fun h => by simp at h⟩⟩
  rcases wc hc with ⟨e1, e2, e3⟩ | ⟨e1, e2, e3⟩ <;> rw [e3] <;> decide
theorem take_s5 {x : TakeS} (W : Wld n E R) (hc : c < 2) (J : TJ n E c k x) (hp : x.pc = 5) : TOut n R k c E x := by
  obtain ⟨a, a1, a2, a3, a4, a5, a6, a7⟩ := J.see (by omega)
  obtain ⟨b1, b2, b3⟩ := a5 (by omega)
  obtain ⟨m, m1, m2, m3⟩ := a6 hp
  have cb := cs_bounds (c := c) (by omega) (by omega)
  obtain ⟨c1, c2, F'⟩ := take5 W.fr J.K (by omega) (by omega) hp a3 a1 (by omega) (by rw [m1]; exact m2)
  have is : ∀ i : Nat, (i : Int) < P.Plain.cs c → IsC n E.j E.kl (a, i) := fun i hi => W.dom _ (by rw [b3 i hi]; omega)
  have bdm := (is (m + 1) (by omega)).bd W.jn W.n4
  have ac : ∀ t : Nat, cel 4 n a (c : Nat) (t : Nat) = ad n E.kl (a, t) := fun t => (ad_cel b2 t).symm
  have em : x.mem E.s = E.s.store (ad n E.kl (a, m + 1)) (hw 0 c 0 0 0 0 (if (m : Int) + 2 < P.Plain.cs c then ad n E.kl (a, m + 2) else 0)) := by
    rw [c2, m1, show (m : Int) + 1 = ((m + 1 : Nat) : Int) by omega, show (m : Int) + 2 = ((m + 2 : Nat) : Int) by omega, ac, ac]
  obtain ⟨W1, T1⟩ := W.own (k := k) (b3 (m + 1) (by omega)) (b := ad n E.kl (a, m + 1)) (x := hw 0 c 0 0 0 0 (if (m : Int) + 2 < P.Plain.cs c then ad n E.kl (a, m + 2) else 0)) (Int.le_refl _) (by omega)
  have inm := (W.inC (is (m + 1) (by omega)) (Int.le_refl _) (by omega)).1
  have old : ∀ t, 1 ≤ t → t ≤ m → pL ((E.s.store (ad n E.kl (a, m + 1)) (hw 0 c 0 0 0 0 (if (m : Int) + 2 < P.Plain.cs c then ad n E.kl (a, m + 2) else 0))).word (ad n E.kl (a, t))) = ad n E.kl (a, t + 1) := fun t t1 t2 => by
    have it := is t (by omega)
    rw [word_other inm (W.inC it (Int.le_refl _) (by have := (it.bd W.jn W.n4).2.2.1; omega)).1 (ad_ne W.n4 (is (m + 1) (by omega)) it W.jn (by simp; omega) (Int.le_refl _) (by omega))]
    exact m3 t t1 t2
  by_cases hm : (m : Int) + 2 < P.Plain.cs c
  · have hmk : x.k + 2 < P.Plain.cs c := by rw [m1]; exact hm
    rw [if_pos hmk] at c1
    rw [if_pos hm] at em W1 T1 old
    have bd2 := (is (m + 2) (by omega)).bd W.jn W.n4
    refine .go _ ⟨em.symm, W1.mono (Nat.le_succ _), T1, fun _ => Iff.rfl⟩ (by rw [c1]; simp only; omega) ?_
    rw [c1]
    refine ⟨⟨J.K.pl, J.K.cls, J.K.set⟩, by simp only; omega, by simp only; omega, fun _ => ⟨a, a1, a2, a3, fun h => by simp only at h; omega, fun _ => ⟨b1, b2, b3⟩, fun _ => ⟨m + 1, by simp only [m1]; omega, by omega, fun t t1 t2 => ?_⟩, fun h => by simp only at h; omega⟩⟩
    by_cases et : t = m + 1
    · subst et
      simp only
      rw [St.word_store' inm inm, if_pos rfl, pL_hw _ _ _ _ _ _ _ (by omega) bd2.2.2.2]
    · exact old t t1 (by omega)
  · have hmk : ¬ x.k + 2 < P.Plain.cs c := by rw [m1]; exact hm
    rw [if_neg hmk] at c1
    rw [if_neg hm] at em W1 T1 old
    refine .go _ ⟨em.symm, W1.mono (Nat.le_succ _), T1, fun _ => Iff.rfl⟩ (by rw [c1]; simp) ?_
    rw [c1]
    refine ⟨⟨J.K.pl, J.K.cls, J.K.set⟩, by simp, by simp, fun _ => ⟨a, a1, a2, a3, fun h => by simp at h, fun _ => ⟨b1, b2, b3⟩, fun h => by simp at h, fun _ => ⟨by simp only [PushS.new]; omega, ?_, by simp [PushS.new], by simp [PushS.new], ⟨m + 1, by omega, by omega, ?_, fun t t1 t2 => old t t1 (by omega), fun h => by simp [PushS.new] at h⟩, fun h => by simp [PushS.new] at h⟩⟩⟩
    · simp only [PushS.new]; exact ac 1
    · simp only [PushS.new, m1]
      rw [show (m : Int) + 1 = ((m + 1 : Nat) : Int) by omega]; exact ac (m + 1)
theorem take_s6 {x : TakeS} (W : Wld n E R) (hR : R < 1000000) (hc : c < 2) (hk : k < 4) (J : TJ n E c k x) (hp : x.pc = 6) : TOut n R k c E x := by
  obtain ⟨a, a1, a2, a3, a4, a5, a6, a7⟩ := J.see (by omega)
  obtain ⟨b1, b2, b3⟩ := a5 (by omega)
  have U := a7 hp
  have n4 := W.n4
  have c1 : x.next E.s = { x with push := x.push.next E.s, pc := if (x.push.next E.s).pc = 0 then 0 else 6 } := by simp only [TakeS.next, hp]
  have c2 : x.mem E.s = x.push.mem E.s := by simp only [TakeS.mem, hp]
  have is : ∀ i : Nat, (i : Int) < P.Plain.cs c → IsC n E.j E.kl (a, i) := fun i hi => W.dom _ (by rw [b3 i hi]; omega)
  have hin : E.s.In (3 + (c : Nat)) := W.inL (by omega) (by omega)
  have hh := W.head c hc
  have bd := W.hdA_bd (l := E.L c) fun q hq => (W.on c hc q hq).1
  have hv := W.ver c hc
  have go : ∀ (E' : Env), Stp n R k E E' (x.push.mem E.s) → E'.j = E.j → E'.kl = E.kl → E'.ow = E.ow → (x.push.next E.s).pc ≠ 0 → UJ n E' c a (x.push.next E.s) → TOut n R k c E x := by
    intro E' S ej ek eo h0 U'
    refine .go E' (c2 ▸ S) (by rw [c1, if_neg h0]; simp) ?_
    rw [c1, if_neg h0]
    exact ⟨⟨J.K.pl, J.K.cls, J.K.set⟩, by simp, by simp, fun _ => ⟨a, a1, by omega, a3, fun h => by simp at h, fun _ => ⟨by omega, by rw [ek]; exact b2, fun i hi => by rw [eo]; exact b3 i hi⟩, fun h => by simp at h, fun _ => U'⟩⟩
  obtain ⟨hd, fs, ls, cl, se, pc, hpush⟩ : ∃ hd fs ls cl se pc, x.push = ⟨hd, fs, ls, cl, se, pc⟩ := ⟨_, _, _, _, _, _, rfl⟩
  rw [hpush] at U go c1 c2
  obtain ⟨u1, u2, u3, u4, ⟨m, m1, m2, m3, m4, m5⟩, u6⟩ := U
  simp only at u1 u2 u3 u4 m3 m4 m5 u6
  subst u1
  have bdm := (is m (by omega)).bd W.jn W.n4
  have inm := (W.inC (is m (by omega)) (Int.le_refl _) (by omega)).1
  have : pc = 1 ∨ pc = 2 ∨ pc = 3 := by omega
  rcases this with rfl | rfl | rfl
  · refine go { E with s := E.s.load (3 + (c : Nat)) } (Stp.load W hin) rfl rfl rfl (by simp [PushS.next]) ⟨rfl, u2, by simp [PushS.next], by simp [PushS.next], ⟨m, m1, m2, m3, m4, fun h => by simp [PushS.next] at h⟩, fun _ => ⟨hdA n E.kl (E.L c), E.V c, bd.1, bd.2.1, hin.got.trans hh, Nat.le_refl _, fun _ => rfl⟩⟩
  · obtain ⟨h0, v, v1, v2, v3, v4, v5⟩ := u6 (by omega)
    have z1 : t0 se = h0 := by rw [v3]; exact t0_small v1 v2 _
    obtain ⟨W1, T1⟩ := W.own (k := k) (b3 m (by omega)) (b := ad n E.kl (a, m)) (x := hw 0 cl 0 0 0 0 h0) (Int.le_refl _) (by omega)
    refine go { E with s := E.s.store (ad n E.kl (a, m)) (hw 0 cl 0 0 0 0 h0) } ⟨by simp only [PushS.mem, m3, z1], W1.mono (Nat.le_succ _), T1, fun _ => Iff.rfl⟩ rfl rfl rfl (by simp [PushS.next]) ⟨rfl, u2, by simp [PushS.next], by simp [PushS.next], ⟨m, m1, m2, m3, fun t t1 t2 => ?_, fun _ => ?_⟩, fun _ => ⟨h0, v, v1, v2, v3, v4, v5⟩⟩
    · have it := is t (by omega)
      simp only
      rw [word_other inm (W.inC it (Int.le_refl _) (by have := (it.bd W.jn W.n4).2.2.1; omega)).1 (ad_ne W.n4 (is m (by omega)) it W.jn (by simp; omega) (Int.le_refl _) (by omega))]
      exact m4 t t1 t2
    · simp only [PushS.next, z1]
      rw [St.word_store' inm inm, if_pos rfl, pL_hw _ _ _ _ _ _ _ v1 v2]
  · obtain ⟨h0, v, v1, v2, v3, v4, v5⟩ := u6 (by omega)
    have z1 : t0 se = h0 := by rw [v3]; exact t0_small v1 v2 _
    have m5 := m5 rfl
    by_cases e : E.s.word (3 + (c : Nat)) = se
    · have e' := e
      rw [hh, v3] at e'
      obtain ⟨i1, i2⟩ := tw_inj bd.1 bd.2.1 v1 v2 (by omega) (by omega) e'
      subst i2
      have hP := W.pushd (k := k) hR hc b1 b2 m1 m2 (fun i hi => b3 i (by omega)) m4 (by rw [m5, z1, ← i1])
      have ok : E.s.ok1 (3 + (c : Nat)) se = true := by rw [St.ok1_iff' hin, e]; simp
      have em : PushS.mem ⟨3 + (c : Nat), fs, ls, cl, se, 3⟩ E.s = E.s.cas (3 + (c : Nat)) (tw (hdA n E.kl (E.L c)) (E.V c)) (nx (tw (hdA n E.kl (E.L c)) (E.V c)) (ad n E.kl (a, 1))) := by simp only [PushS.mem, v3, u2, i1]
      have hpc : (x.next E.s).pc = 0 := by rw [c1]; simp only [PushS.next, ok, if_true]
      have hse : (x.next E.s).seen = x.seen := by rw [c1]
      have hK : Tk 4 n c 0 (x.next E.s) := by rw [c1]; exact ⟨J.K.pl, J.K.cls, J.K.set⟩
      have z0 : t0 x.seen = (a : Int) + 1 := by rw [a3]; exact t0_small (by omega) (by omega) _
      refine .got _ ⟨(c2.trans em).symm, hP.1, hP.2, fun q => ?_⟩ hpc (a, 0) ?_ ?_ b2
      · simp only
        by_cases eq : q.1 = a ∧ 1 ≤ q.2 ∧ q.2 < 1 + m
        · rw [if_pos eq]
          have h4 := b3 q.2 (by omega)
          rw [← eq.1] at h4
          have : E.ow q = 2 + k := h4
          omega
        · rw [if_neg eq]
      · unfold TakeS.cell
        rw [if_pos ⟨hpc, by rw [hse, z0]; omega⟩, hK.ad (hse.trans a3) (by omega)]
        exact (ad_cel b2 0).symm
      · simp only
        rw [if_neg (by simp)]
        exact b3 0 (by omega)
    · have ok : E.s.ok1 (3 + (c : Nat)) se = false := by rw [St.ok1_iff' hin]; simpa using e
      have hw' : ∀ b, (PushS.mem ⟨3 + (c : Nat), fs, ls, cl, se, 3⟩ E.s).word b = E.s.word b := fun b => by simp only [PushS.mem]; exact St.word_cas_no' hin e
      refine go { E with s := PushS.mem ⟨3 + (c : Nat), fs, ls, cl, se, 3⟩ E.s } (Stp.same W (by simp only [PushS.mem, St.n_cas]) (by simp only [PushS.mem]; exact St.t_cas' hin) hw') rfl rfl rfl (by simp [PushS.next, ok]) ?_
      simp only [PushS.next, ok]
      exact ⟨rfl, u2, by simp, by simp, ⟨m, m1, m2, m3, fun t t1 t2 => by simp only; rw [hw']; exact m4 t t1 t2, fun h => by simp at h⟩, fun h => by simp at h⟩
theorem take_step {x : TakeS} (W : Wld n E R) (hR : R < 1000000) (hc : c < 2) (hk : k < 4) (J : TJ n E c k x) : TOut n R k c E x := by
  have := J.p1
  have := J.p6
  have : x.pc = 1 ∨ x.pc = 2 ∨ x.pc = 3 ∨ x.pc = 4 ∨ x.pc = 5 ∨ x.pc = 6 := by omega
  rcases this with h | h | h | h | h | h
  · exact take_s1 W J h
  · exact take_s2 W J h
  · exact take_s3 W hc J hk h
  · exact take_s4 W hc J h
  · exact take_s5 W hc J h
  · exact take_s6 W hR hc hk J h
end
end Go.Proofs.YtbojljkdpebheaaDoor
