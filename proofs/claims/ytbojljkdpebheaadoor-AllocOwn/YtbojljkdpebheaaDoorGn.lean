/-
  Four threads that make objects, said plainly: what each has under way, and what comes of a step of it. No program in sight.
-/
import Derived.Test.YtbojljkdpebheaaDoorGm2
namespace Go.Proofs.YtbojljkdpebheaaDoor
set_option linter.unusedVariables false
open S.Plain (t0 t1 tw nx bw b0 b1 b2 b3)
open H.Plain (hw pL)
theorem pL_hw (s c n m g t l : Int) (h0 : 0 ≤ l) (h1 : l ≤ 4095) : pL (hw s c n m g t l) = l := by unfold H.Plain.pL H.Plain.hw; omega
/-- a Pop under way -/
structure PJ (n : Nat) (E : Env) (c : Nat) (x : PopS) : Prop where
  hd : x.hd = 3 + (c : Nat)
  p1 : 1 ≤ x.pc
  p3 : x.pc ≤ 3
  see : 2 ≤ x.pc → ∃ (p : Cl) (v : Nat), IsC n E.j E.kl p ∧ E.kl p.1 = c ∧ x.seen = tw (ad n E.kl p) v ∧ v ≤ E.V c ∧ (v = E.V c → ∃ r, E.L c = p :: r ∧ (x.pc = 3 → x.link = hdA n E.kl r))
/-- the Push of a Take -/
structure UJ (n : Nat) (E : Env) (c a : Nat) (x : PushS) : Prop where
  hd : x.hd = 3 + (c : Nat)
  fst : x.fst = ad n E.kl (a, 1)
  p1 : 1 ≤ x.pc
  p3 : x.pc ≤ 3
  run : ∃ m : Nat, ((1 + m : Nat) : Int) = P.Plain.cs c ∧ 0 < m ∧ x.lst = ad n E.kl (a, m) ∧ (∀ t, 1 ≤ t → t + 1 < 1 + m → pL (E.s.word (ad n E.kl (a, t))) = ad n E.kl (a, t + 1)) ∧ (x.pc = 3 → pL (E.s.word (ad n E.kl (a, m))) = t0 x.seen)
  see : 2 ≤ x.pc → ∃ (h : Int) (v : Nat), 0 ≤ h ∧ h ≤ 4095 ∧ x.seen = tw h v ∧ v ≤ E.V c ∧ (v = E.V c → h = hdA n E.kl (E.L c))
/-- a Take under way -/
structure TJ (n : Nat) (E : Env) (c k : Nat) (x : TakeS) : Prop where
  K : Tk 4 n c 0 x
  p1 : 1 ≤ x.pc
  p6 : x.pc ≤ 6
  see : 2 ≤ x.pc → ∃ a : Nat, a < n ∧ a ≤ E.j ∧ x.seen = tw ((a : Int) + 1) a ∧ (x.pc = 3 → a = E.j → x.raw = bw 0 0 0 (nextOf n a)) ∧
    (4 ≤ x.pc → a < E.j ∧ E.kl a = c ∧ ∀ i : Nat, (i : Int) < P.Plain.cs c → E.ow (a, i) = 2 + k) ∧
    (x.pc = 5 → ∃ m : Nat, x.k = m ∧ (m : Int) + 1 < P.Plain.cs c ∧ ∀ t, 1 ≤ t → t ≤ m → pL (E.s.word (ad n E.kl (a, t))) = ad n E.kl (a, t + 1)) ∧
    (x.pc = 6 → UJ n E c a x.push)
structure RJ (n : Nat) (E : Env) (c k : Nat) (x : ResS) : Prop where
  pl : x.pl = mkPl 4 n
  cls : x.cls = c
  set : x.set = 0
  cel : x.cell = 0
  p1 : 1 ≤ x.pc
  p3 : x.pc ≤ 3
  pop : x.pc = 1 → PJ n E c x.pop
  take : x.pc = 2 → TJ n E c k x.take
  seen : 2 ≤ x.pc → t0 x.seen = 0
  all : x.pc = 3 → E.j = n
structure AJ (n : Nat) (E : Env) (k c : Nat) (x : AllS) : Prop where
  c2 : c < 2
  cls : x.cls = c
  cc : P.Plain.cl x.cnt = c
  mrk : x.mark = 1
  cel : x.cell = 0
  n0 : 0 ≤ x.cnt
  n1 : x.cnt + 1 ≤ P.Plain.wd c
  p1 : 1 ≤ x.pc
  p3 : x.pc ≤ 3
  f0 : 0 ≤ x.fld
  res : x.pc = 1 → x.fld = 0 ∧ RJ n E c k x.res
  hold : 2 ≤ x.pc → ∃ q : Cl, E.ow q = 2 + k ∧ E.kl q.1 = c ∧ x.res.cell = ad n E.kl q ∧ ∀ w : Int, 1 ≤ w → w ≤ x.fld → E.s.word (ad n E.kl q + w) = 0
  f2 : x.pc = 2 → x.fld < x.cnt
  f3 : x.pc = 3 → x.fld = x.cnt
section
variable {n R k k0 c a : Nat} {E E' : Env}
theorem Turn.kl' (T : Turn n k0 E E') {p : Cl} (h : IsC n E.j E.kl p) : E'.kl p.1 = E.kl p.1 := T.kl _ h.lt
theorem Turn.ad (T : Turn n k0 E E') {p : Cl} (h : IsC n E.j E.kl p) : Go.Proofs.YtbojljkdpebheaaDoor.ad n E'.kl p = Go.Proofs.YtbojljkdpebheaaDoor.ad n E.kl p := by unfold Go.Proofs.YtbojljkdpebheaaDoor.ad; rw [T.kl' h]
theorem Turn.isC (T : Turn n k0 E E') {p : Cl} (h : IsC n E.j E.kl p) : IsC n E'.j E'.kl p := ⟨Nat.lt_of_lt_of_le h.lt T.j, by rw [T.kl' h]; exact h.c, by rw [T.kl' h]; exact h.m⟩
theorem Turn.hdA (T : Turn n k0 E E') {l : List Cl} (h : ∀ p ∈ l, IsC n E.j E.kl p) : Go.Proofs.YtbojljkdpebheaaDoor.hdA n E'.kl l = Go.Proofs.YtbojljkdpebheaaDoor.hdA n E.kl l := by
  cases l with
  | nil => rfl
  | cons p r => exact T.ad (h p (by simp))
theorem Turn.vl (T : Turn n k0 E E') (hc : c < 2) {v : Nat} (h : v ≤ E.V c) : v ≤ E'.V c ∧ (v = E'.V c → v = E.V c ∧ E'.L c = E.L c) := by
  rcases T.V c hc with ⟨h1, h2⟩ | h1
  · exact ⟨by omega, fun e => ⟨by omega, h2⟩⟩
  · exact ⟨by omega, fun e => by omega⟩
theorem PJ.keep {x : PopS} (J : PJ n E c x) (W : Wld n E R) (hc : c < 2) (T : Turn n k0 E E') : PJ n E' c x := by
  refine ⟨J.hd, J.p1, J.p3, fun h => ?_⟩
  obtain ⟨p, v, h1, h2, h3, h4, h5⟩ := J.see h
  obtain ⟨v1, v2⟩ := T.vl hc h4
  refine ⟨p, v, T.isC h1, (T.kl' h1).trans h2, by rw [T.ad h1]; exact h3, v1, fun e => ?_⟩
  obtain ⟨e1, e2⟩ := v2 e
  obtain ⟨r, h6, h7⟩ := h5 e1
  refine ⟨r, e2.trans h6, fun h8 => ?_⟩
  rw [T.hdA fun q hq => (W.on c hc q (by rw [h6]; simp [hq])).1]
  exact h7 h8
theorem UJ.keep {x : PushS} (J : UJ n E c a x) (W : Wld n E R) (hc : c < 2) (T : Turn n k0 E E') (hk : k ≠ k0) (ha : ∀ i : Nat, (i : Int) < P.Plain.cs c → E.ow (a, i) = 2 + k) : UJ n E' c a x := by
  obtain ⟨m, m1, m2, m3, m4, m5⟩ := J.run
  have is : ∀ i : Nat, i < 1 + m → IsC n E.j E.kl (a, i) := fun i hi => W.dom _ (by rw [ha i (by omega)]; omega)
  have wd : ∀ i : Nat, i < 1 + m → E'.s.word (ad n E.kl (a, i)) = E.s.word (ad n E.kl (a, i)) := fun i hi => T.word k hk _ (ha i (by omega)) _ (Int.le_refl _) (by have := ((is i hi).bd W.jn W.n4).2.2.1; omega)
  refine ⟨J.hd, by rw [T.ad (is 1 (by omega))]; exact J.fst, J.p1, J.p3, ⟨m, m1, m2, by rw [T.ad (is m (by omega))]; exact m3, fun t t1 t2 => ?_, fun h => ?_⟩, fun h => ?_⟩
  · rw [T.ad (is t (by omega)), T.ad (is (t + 1) (by omega)), wd t (by omega)]; exact m4 t t1 t2
  · rw [T.ad (is m (by omega)), wd m (by omega)]; exact m5 h
  · obtain ⟨h0, v, h1, h2, h3, h4, h5⟩ := J.see h
    obtain ⟨v1, v2⟩ := T.vl hc h4
    refine ⟨h0, v, h1, h2, h3, v1, fun e => ?_⟩
    obtain ⟨e1, e2⟩ := v2 e
    rw [e2, T.hdA fun q hq => (W.on c hc q hq).1]
    exact h5 e1
theorem TJ.keep {x : TakeS} (J : TJ n E c k x) (W : Wld n E R) (hc : c < 2) (T : Turn n k0 E E') (hk : k ≠ k0) : TJ n E' c k x := by
  refine ⟨J.K, J.p1, J.p6, fun h => ?_⟩
  obtain ⟨a, a1, a2, a3, a4, a5, a6, a7⟩ := J.see h
  refine ⟨a, a1, Nat.le_trans a2 T.j, a3, fun h3 e => a4 h3 (by have := T.j; omega), fun h4 => ?_, fun h5 => ?_, fun h6 => ?_⟩
  · obtain ⟨b1, b2, b3⟩ := a5 h4
    exact ⟨Nat.lt_of_lt_of_le b1 T.j, (T.kl a b1).trans b2, fun i hi => T.ow k hk _ (b3 i hi)⟩
  · obtain ⟨b1, b2, b3⟩ := a5 (by omega)
    obtain ⟨m, m1, m2, m3⟩ := a6 h5
    refine ⟨m, m1, m2, fun t t1 t2 => ?_⟩
    have is : ∀ i : Nat, (i : Int) < P.Plain.cs c → IsC n E.j E.kl (a, i) := fun i hi => W.dom _ (by rw [b3 i hi]; omega)
    have it := is t (by omega)
    rw [T.ad it, T.ad (is (t + 1) (by omega)), T.word k hk _ (b3 t (by omega)) _ (Int.le_refl _) (by have := (it.bd W.jn W.n4).2.2.1; omega)]
    exact m3 t t1 t2
  · obtain ⟨b1, b2, b3⟩ := a5 (by omega)
    exact (a7 h6).keep W hc T hk b3
theorem RJ.keep {x : ResS} (J : RJ n E c k x) (W : Wld n E R) (W' : Wld n E' R) (hc : c < 2) (T : Turn n k0 E E') (hk : k ≠ k0) : RJ n E' c k x :=
  ⟨J.pl, J.cls, J.set, J.cel, J.p1, J.p3, fun h => (J.pop h).keep W hc T, fun h => (J.take h).keep W hc T hk, J.seen, fun h => by have := J.all h; have := T.j; have := W'.jn; omega⟩
theorem AJ.keep {x : AllS} (J : AJ n E k c x) (W : Wld n E R) {R' : Nat} (W' : Wld n E' R') (T : Turn n k0 E E') (hk : k ≠ k0) : AJ n E' k c x := by
  refine ⟨J.c2, J.cls, J.cc, J.mrk, J.cel, J.n0, J.n1, J.p1, J.p3, J.f0, fun h => ⟨(J.res h).1, ?_⟩, fun h => ?_, J.f2, J.f3⟩
  · have RJ0 := (J.res h).2
    exact ⟨RJ0.pl, RJ0.cls, RJ0.set, RJ0.cel, RJ0.p1, RJ0.p3, fun h => (RJ0.pop h).keep W J.c2 T, fun h => (RJ0.take h).keep W J.c2 T hk, RJ0.seen, fun h => by have := RJ0.all h; have := T.j; have := W'.jn; omega⟩
  · obtain ⟨q, q1, q2, q3, q4⟩ := J.hold h
    have is := W.dom q (by omega)
    refine ⟨q, T.ow k hk q q1, (T.kl' is).trans q2, by rw [T.ad is]; exact q3, fun w w1 w2 => ?_⟩
    have n1 := J.n1
    have hf : x.fld ≤ x.cnt := by
      have := J.p3
      by_cases e : x.pc = 2
      · have := J.f2 e; omega
      · have := J.f3 (by omega); omega
    rw [T.ad is, T.word k hk q q1 _ (by omega) (by rw [q2]; omega)]
    exact q4 w w1 w2
theorem Wld.mono (W : Wld n E R) {R' : Nat} (h : R ≤ R') : Wld n E R' := ⟨W.fr, W.n4, W.jn, W.head, W.lnk, W.on, W.nodup, W.dom, fun c hc => Nat.le_trans (W.ver c hc) h⟩
/-- a turn: the memory behind it, the world, what it leaves, and that nothing is told by it -/
structure Stp (n R k : Nat) (E E' : Env) (s' : St) : Prop where
  s : E'.s = s'
  W : Wld n E' (R + 1)
  T : Turn n k E E'
  six : ∀ p, E'.ow p = 6 ↔ E.ow p = 6
theorem Stp.same (W : Wld n E R) {s' : St} (hl : s'.ws.length = E.s.ws.length) (ht : s'.t = E.s.t) (hw : ∀ b, s'.word b = E.s.word b) : Stp n R k E { E with s := s' } s' := by
  have h := W.same (k := k) hl ht hw
  exact ⟨rfl, h.1.mono (Nat.le_succ _), h.2, fun _ => Iff.rfl⟩
theorem Stp.load (W : Wld n E R) {b : Int} (hb : E.s.In b) : Stp n R k E { E with s := E.s.load b } (E.s.load b) := Stp.same W rfl (St.t_load' hb) (fun _ => rfl)
/-- what comes of a step of a Pop -/
inductive POut (n R k c : Nat) (E : Env) (x : PopS) : Prop
  | go (E' : Env) (S : Stp n R k E E' (x.mem E.s)) (p : (x.next E.s).pc ≠ 0) (J : PJ n E' c (x.next E.s)) : POut n R k c E x
  | no (E' : Env) (S : Stp n R k E E' (x.mem E.s)) (p : (x.next E.s).pc = 0) (z : t0 (x.next E.s).seen = 0) : POut n R k c E x
  | got (E' : Env) (S : Stp n R k E E' (x.mem E.s)) (p : (x.next E.s).pc = 0) (q : Cl) (z : t0 (x.next E.s).seen = ad n E'.kl q) (o : E'.ow q = 2 + k) (kc : E'.kl q.1 = c) : POut n R k c E x
theorem pop_step {x : PopS} (W : Wld n E R) (hR : R < 1000000) (hc : c < 2) (hk : k < 4) (J : PJ n E c x) : POut n R k c E x := by
  obtain ⟨hd, link, seen, pc⟩ := x
  obtain ⟨h1, h2, h3, h4⟩ := J
  simp only at h1 h2 h3 h4
  subst h1
  have hin : E.s.In (3 + (c : Nat)) := W.inL (by omega) (by omega)
  have hh := W.head c hc
  have bd := W.hdA_bd (l := E.L c) fun q hq => (W.on c hc q hq).1
  have hv := W.ver c hc
  have : pc = 1 ∨ pc = 2 ∨ pc = 3 := by omega
  rcases this with rfl | rfl | rfl
  · have e1 : E.s.got (3 + (c : Nat)) = tw (hdA n E.kl (E.L c)) (E.V c) := hin.got.trans hh
    have z1 : t0 (tw (hdA n E.kl (E.L c)) (E.V c)) = hdA n E.kl (E.L c) := t0_small bd.1 bd.2.1 _
    cases hL : E.L c with
    | nil =>
      rw [hL] at e1 z1
      refine .no _ (Stp.load W hin) ?_ ?_
      · simp only [PopS.next, e1, z1]; rfl
      · simp only [PopS.next, e1, z1]; rfl
    | cons p r =>
      rw [hL] at e1 z1 bd
      have hne : hdA n E.kl (p :: r) ≠ 0 := fun e => by have := bd.2.2.1 e; simp at this
      have en : PopS.next ⟨3 + (c : Nat), link, seen, 1⟩ E.s = ⟨3 + (c : Nat), link, tw (ad n E.kl p) (E.V c), 2⟩ := by
        simp only [PopS.next, e1, z1, if_neg hne]; rfl
      have hp := W.on c hc p (by rw [hL]; simp)
      refine .go _ (Stp.load W hin) (by rw [en]; simp) ?_
      rw [en]
      exact ⟨rfl, by simp, by simp, fun _ => ⟨p, E.V c, hp.1, hp.2.1, rfl, Nat.le_refl _, fun _ => ⟨r, hL, fun h => by simp at h⟩⟩⟩
  · obtain ⟨p, v, p1, p2, p3, p4, p5⟩ := h4 (by omega)
    have pb := p1.bd W.jn W.n4
    have pin := (W.inC p1 (Int.le_refl _) (by omega)).1
    have z1 : t0 seen = ad n E.kl p := by rw [p3]; exact t0_small (by omega) pb.2.2.2 _
    refine .go { E with s := E.s.load (ad n E.kl p) } (by have := Stp.load (k := k) W pin; simpa only [PopS.mem, z1] using this) (by simp [PopS.next]) ⟨rfl, by simp [PopS.next], by simp [PopS.next], fun _ => ⟨p, v, p1, p2, p3, p4, fun e => ?_⟩⟩
    obtain ⟨r, r1, _⟩ := p5 e
    refine ⟨r, r1, fun _ => ?_⟩
    have lk := W.lnk c hc
    rw [r1] at lk
    simp only [PopS.next, z1, pin.got]
    exact lk.1
  · obtain ⟨p, v, p1, p2, p3, p4, p5⟩ := h4 (by omega)
    have pb := p1.bd W.jn W.n4
    by_cases e : E.s.word (3 + (c : Nat)) = seen
    · have e' := e
      rw [hh, p3] at e'
      obtain ⟨i1, i2⟩ := tw_inj bd.1 bd.2.1 (by omega) pb.2.2.2 (by omega) (by omega) e'
      obtain ⟨r, r1, r2⟩ := p5 i2.symm
      have r2 := r2 rfl
      subst i2
      have hP := W.popd (k := k) hR hc r1
      have ok : E.s.ok1 (3 + (c : Nat)) seen = true := by rw [St.ok1_iff' hin, e]; simp
      have em : PopS.mem ⟨3 + (c : Nat), link, seen, 3⟩ E.s = E.s.cas (3 + (c : Nat)) (tw (ad n E.kl p) (E.V c)) (nx (tw (ad n E.kl p) (E.V c)) (hdA n E.kl r)) := by simp only [PopS.mem, p3, r2]
      have pon := W.on c hc p (by rw [r1]; simp)
      refine .got _ ⟨em.symm, hP.1, hP.2, fun q => ?_⟩ (by simp only [PopS.next, ok, if_true]) p ?_ (updC_eq _ _ _) p2
      · simp only
        by_cases eq : q = p
        · rw [eq, updC_eq, pon.2.2]; omega
        · rw [updC_ne _ _ eq]
      · simp only [PopS.next, p3]
        exact t0_small (by omega) pb.2.2.2 _
    · have ok : E.s.ok1 (3 + (c : Nat)) seen = false := by rw [St.ok1_iff' hin]; simpa using e
      refine .go _ (Stp.same W (by simp only [PopS.mem, St.n_cas]) (by simp only [PopS.mem]; exact St.t_cas' hin) (fun b => by simp only [PopS.mem]; exact St.word_cas_no' hin e)) (by simp [PopS.next, ok]) ?_
      simp only [PopS.next, ok]
      exact ⟨rfl, by simp, by simp, fun h => by simp at h⟩
end
end Go.Proofs.YtbojljkdpebheaaDoor
