/-
  What the three swaps make of the world: a cell is popped, a block is taken, cells are pushed. No program in sight.
-/
import Derived.Test.YtbojljkdpebheaaDoorGm
namespace Go.Proofs.YtbojljkdpebheaaDoor
set_option linter.unusedVariables false
open S.Plain (t0 t1 tw nx bw b0 b1 b2 b3)
open H.Plain (hw pL)
def upd {α : Type} (f : Nat → α) (k : Nat) (v : α) : Nat → α := fun i => if i = k then v else f i
theorem upd_eq {α : Type} (f : Nat → α) (k : Nat) (v : α) : upd f k v k = v := if_pos rfl
theorem upd_ne {α : Type} (f : Nat → α) {k i : Nat} (v : α) (h : i ≠ k) : upd f k v i = f i := if_neg h
def updC (f : Cl → Nat) (p : Cl) (v : Nat) : Cl → Nat := fun q => if q = p then v else f q
theorem updC_eq (f : Cl → Nat) (p : Cl) (v : Nat) : updC f p v p = v := if_pos rfl
theorem updC_ne (f : Cl → Nat) {p q : Cl} (v : Nat) (h : q ≠ p) : updC f p v q = f q := if_neg h
section
variable {n R k c : Nat} {E : Env}
theorem Wld.hdA_bd (W : Wld n E R) {l : List Cl} (h : ∀ p ∈ l, IsC n E.j E.kl p) : 0 ≤ hdA n E.kl l ∧ hdA n E.kl l ≤ 4095 ∧ (hdA n E.kl l = 0 ↔ l = []) := by
  cases l with
  | nil => simp [hdA]
  | cons p r =>
    have := (h p (by simp)).bd W.jn W.n4
    simp only [hdA]
    exact ⟨by omega, by omega, by simp; omega⟩
/-- the words behind a swap of a list's head that is done -/
theorem cas_words (W : Wld n E R) (hc : c < 2) {o x : Int} (ho : E.s.word (3 + (c : Nat)) = o) : (∀ b, E.s.In b → (E.s.cas (3 + (c : Nat)) o x).word b = if 3 + (c : Int) = b then x else E.s.word b) ∧ E.s.ok1 (3 + (c : Nat)) o = true := by
  have hin : E.s.In (3 + (c : Nat)) := W.inL (by omega) (by omega)
  exact ⟨fun b hb => St.word_cas_ok' hin hb ho, by rw [St.ok1_iff' hin, ho]; simp⟩
theorem Wld.popd (W : Wld n E R) (hR : R < 1000000) (hc : c < 2) {p : Cl} {r : List Cl} (hL : E.L c = p :: r) :
    Wld n ⟨E.s.cas (3 + (c : Nat)) (tw (ad n E.kl p) (E.V c)) (nx (tw (ad n E.kl p) (E.V c)) (hdA n E.kl r)), E.j, upd E.V c (E.V c + 1), upd E.L c r, E.kl, updC E.ow p (2 + k)⟩ (R + 1) ∧
    Turn n k E ⟨E.s.cas (3 + (c : Nat)) (tw (ad n E.kl p) (E.V c)) (nx (tw (ad n E.kl p) (E.V c)) (hdA n E.kl r)), E.j, upd E.V c (E.V c + 1), upd E.L c r, E.kl, updC E.ow p (2 + k)⟩ := by
  have hv := W.ver c hc
  have hh := W.head c hc
  rw [hL] at hh
  have hh' : E.s.word (3 + (c : Nat)) = tw (ad n E.kl p) (E.V c) := hh
  obtain ⟨hw1, _⟩ := cas_words W hc (x := nx (tw (ad n E.kl p) (E.V c)) (hdA n E.kl r)) hh'
  rw [nx_small (by omega)] at hw1 ⊢
  have hin : E.s.In (3 + (c : Nat)) := W.inL (by omega) (by omega)
  have pon := W.on c hc p (by rw [hL]; simp)
  have nd := W.nodup c hc
  rw [hL] at nd
  have nd' := List.nodup_cons.1 nd
  have lk := W.lnk c hc
  rw [hL] at lk
  have wC : ∀ b, 32 ≤ b → E.s.In b → (E.s.cas (3 + (c : Nat)) (tw (ad n E.kl p) (E.V c)) (tw (hdA n E.kl r) ((E.V c + 1 : Nat) : Int))).word b = E.s.word b := fun b hb hi => by rw [hw1 b hi, if_neg (by omega)]
  have inq : ∀ q, IsC n E.j E.kl q → E.s.In (ad n E.kl q) ∧ 32 ≤ ad n E.kl q := fun q hq => W.inC hq (Int.le_refl _) (by have := (hq.bd W.jn W.n4).2.2.1; omega)
  refine ⟨⟨W.fr.cas hin (by omega) (fun i hi => by omega), W.n4, W.jn, fun d hd => ?_, fun d hd => ?_, fun d hd q hq => ?_, fun d hd => ?_, fun q hq => ?_, fun d hd => ?_⟩,
    ⟨St.n_cas _ _ _ _, Nat.le_refl _, fun _ _ => rfl, fun d hd => ?_, fun k' hk q hq => ?_, fun k' hk q hq b h0 h1 => ?_⟩⟩
  · simp only
    rw [hw1 _ (W.inL (by omega) (by omega))]
    by_cases e : d = c
    · subst e; rw [if_pos rfl, upd_eq, upd_eq]
    · rw [if_neg (by omega), upd_ne _ _ e, upd_ne _ _ e]; exact W.head d hd
  · simp only
    by_cases e : d = c
    · subst e
      rw [upd_eq]
      exact lk.2.keep (fun _ _ => rfl) (fun q hq => by have := inq q (W.on d hd q (by rw [hL]; simp [hq])).1; exact wC _ this.2 this.1)
    · rw [upd_ne _ _ e]
      exact (W.lnk d hd).keep (fun _ _ => rfl) (fun q hq => by have := inq q (W.on d hd q hq).1; exact wC _ this.2 this.1)
  · simp only at hq ⊢
    by_cases e : d = c
    · subst e
      rw [upd_eq] at hq
      obtain ⟨q1, q2, q3⟩ := W.on d hd q (by rw [hL]; simp [hq])
      exact ⟨q1, q2, by rw [updC_ne _ _ (fun e => nd'.1 (by rw [← e]; exact hq))]; exact q3⟩
    · rw [upd_ne _ _ e] at hq
      obtain ⟨q1, q2, q3⟩ := W.on d hd q hq
      exact ⟨q1, q2, by rw [updC_ne _ _ (fun e' => by rw [e', pon.2.1] at q2; exact e q2.symm)]; exact q3⟩
  · simp only
    by_cases e : d = c
    · subst e; rw [upd_eq]; exact nd'.2
    · rw [upd_ne _ _ e]; exact W.nodup d hd
  · simp only at hq ⊢
    by_cases e : q = p
    · rw [e]; exact pon.1
    · rw [updC_ne _ _ e] at hq; exact W.dom q hq
  · simp only
    by_cases e : d = c
    · subst e; rw [upd_eq]; omega
    · rw [upd_ne _ _ e]; have := W.ver d hd; omega
  · simp only
    by_cases e : d = c
    · subst e; rw [upd_eq]; exact .inr (by omega)
    · rw [upd_ne _ _ e, upd_ne _ _ e]; exact .inl ⟨rfl, rfl⟩
  · simp only
    rw [updC_ne _ _ (fun e => by rw [e, pon.2.2] at hq; omega)]; exact hq
  · have := W.inC (W.dom q (by omega)) h0 h1
    exact wC b this.2 this.1
/-- the cells of a block that go onto a list: from i on, so many -/
def runC (a : Nat) : Nat → Nat → List Cl
  | _, 0 => []
  | i, m + 1 => (a, i) :: runC a (i + 1) m
theorem mem_run {a i m : Nat} {q : Cl} : q ∈ runC a i m ↔ q.1 = a ∧ i ≤ q.2 ∧ q.2 < i + m := by
  induction m generalizing i with
  | zero => simp only [runC, List.not_mem_nil, false_iff]; omega
  | succ m ih =>
    simp only [runC, List.mem_cons, ih]
    constructor
    · rintro (rfl | h)
      · exact ⟨rfl, Nat.le_refl _, by simp only; omega⟩
      · exact ⟨h.1, by omega, by omega⟩
    · rintro ⟨h1, h2, h3⟩
      by_cases e : q.2 = i
      · exact .inl (by rw [← h1, ← e])
      · exact .inr ⟨h1, by omega, by omega⟩
theorem run_nodup (a i m : Nat) : (runC a i m).Nodup := by
  induction m generalizing i with
  | zero => simp [runC]
  | succ m ih =>
    simp only [runC, List.nodup_cons]
    exact ⟨fun h => by have := (mem_run.1 h).2.1; simp at this; omega, ih (i + 1)⟩
theorem run_lnk {kl : Nat → Nat} {s : St} {a m i : Nat} {l : List Cl} (h1 : ∀ t, i ≤ t → t + 1 < i + m → pL (s.word (ad n kl (a, t))) = ad n kl (a, t + 1)) (h2 : 0 < m → pL (s.word (ad n kl (a, i + m - 1))) = hdA n kl l) (hl : Lnk n kl s l) : Lnk n kl s (runC a i m ++ l) := by
  induction m generalizing i with
  | zero => exact hl
  | succ m ih =>
    refine ⟨?_, ih (fun t a1 a2 => h1 t (by omega) (by omega)) (fun hm => by have := h2 (by omega); rwa [show i + (m + 1) - 1 = i + 1 + m - 1 by omega] at this)⟩
    cases m with
    | zero => exact h2 (by omega)
    | succ m => exact h1 i (Nat.le_refl _) (by omega)
theorem Wld.pushd (W : Wld n E R) (hR : R < 1000000) (hc : c < 2) {a m : Nat} (ha : a < E.j) (hk : E.kl a = c) (hm : ((1 + m : Nat) : Int) = P.Plain.cs c) (hm0 : 0 < m) (ho : ∀ i, i < 1 + m → E.ow (a, i) = 2 + k)
    (h1 : ∀ t, 1 ≤ t → t + 1 < 1 + m → pL (E.s.word (ad n E.kl (a, t))) = ad n E.kl (a, t + 1)) (h2 : pL (E.s.word (ad n E.kl (a, m))) = hdA n E.kl (E.L c)) :
    Wld n ⟨E.s.cas (3 + (c : Nat)) (tw (hdA n E.kl (E.L c)) (E.V c)) (nx (tw (hdA n E.kl (E.L c)) (E.V c)) (ad n E.kl (a, 1))), E.j, upd E.V c (E.V c + 1), upd E.L c (runC a 1 m ++ E.L c), E.kl, fun q => if q.1 = a ∧ 1 ≤ q.2 ∧ q.2 < 1 + m then 1 else E.ow q⟩ (R + 1) ∧
    Turn n k E ⟨E.s.cas (3 + (c : Nat)) (tw (hdA n E.kl (E.L c)) (E.V c)) (nx (tw (hdA n E.kl (E.L c)) (E.V c)) (ad n E.kl (a, 1))), E.j, upd E.V c (E.V c + 1), upd E.L c (runC a 1 m ++ E.L c), E.kl, fun q => if q.1 = a ∧ 1 ≤ q.2 ∧ q.2 < 1 + m then 1 else E.ow q⟩ := by
  have hv := W.ver c hc
  obtain ⟨hw1, _⟩ := cas_words W hc (x := nx (tw (hdA n E.kl (E.L c)) (E.V c)) (ad n E.kl (a, 1))) (W.head c hc)
  rw [nx_small (by omega)] at hw1 ⊢
  have hin : E.s.In (3 + (c : Nat)) := W.inL (by omega) (by omega)
  have wC : ∀ b, 32 ≤ b → E.s.In b → (E.s.cas (3 + (c : Nat)) (tw (hdA n E.kl (E.L c)) (E.V c)) (tw (ad n E.kl (a, 1)) ((E.V c + 1 : Nat) : Int))).word b = E.s.word b := fun b hb hi => by rw [hw1 b hi, if_neg (by omega)]
  have inq : ∀ q, IsC n E.j E.kl q → E.s.In (ad n E.kl q) ∧ 32 ≤ ad n E.kl q := fun q hq => W.inC hq (Int.le_refl _) (by have := (hq.bd W.jn W.n4).2.2.1; omega)
  have isA : ∀ i, i < 1 + m → IsC n E.j E.kl (a, i) := fun i hi => W.dom _ (by rw [ho i hi]; omega)
  have old : ∀ d, d < 2 → ∀ q ∈ E.L d, ¬ (q.1 = a ∧ 1 ≤ q.2 ∧ q.2 < 1 + m) := fun d hd q hq h => by
    have h3 := (W.on d hd q hq).2.2
    have h4 := ho q.2 h.2.2
    rw [← h.1] at h4
    have : E.ow q = 2 + k := h4
    omega
  refine ⟨⟨W.fr.cas hin (by omega) (fun i hi => by omega), W.n4, W.jn, fun d hd => ?_, fun d hd => ?_, fun d hd q hq => ?_, fun d hd => ?_, fun q hq => ?_, fun d hd => ?_⟩,
    ⟨St.n_cas _ _ _ _, Nat.le_refl _, fun _ _ => rfl, fun d hd => ?_, fun k' hk' q hq => ?_, fun k' hk' q hq b h0 h1 => ?_⟩⟩
  · simp only
    rw [hw1 _ (W.inL (by omega) (by omega))]
    by_cases e : d = c
    · subst e
      rw [if_pos rfl, upd_eq, upd_eq]
      obtain ⟨m', rfl⟩ : ∃ m', m = m' + 1 := ⟨m - 1, by omega⟩
      rfl
    · rw [if_neg (by omega), upd_ne _ _ e, upd_ne _ _ e]; exact W.head d hd
  · simp only
    by_cases e : d = c
    · subst e
      rw [upd_eq]
      have base : Lnk n E.kl E.s (runC a 1 m ++ E.L d) := run_lnk (fun t t1 t2 => h1 t t1 t2) (fun _ => by rw [show 1 + m - 1 = m by omega]; exact h2) (W.lnk d hd)
      refine base.keep (fun _ _ => rfl) (fun q hq => ?_)
      have hq' : IsC n E.j E.kl q := by
        rcases List.mem_append.1 hq with h | h
        · have := mem_run.1 h
          have h5 := isA q.2 (by omega)
          rwa [← this.1] at h5
        · exact (W.on d hd q h).1
      have := inq q hq'
      exact wC _ this.2 this.1
    · rw [upd_ne _ _ e]
      exact (W.lnk d hd).keep (fun _ _ => rfl) (fun q hq => by have := inq q (W.on d hd q hq).1; exact wC _ this.2 this.1)
  · simp only at hq ⊢
    by_cases e : d = c
    · subst e
      rw [upd_eq] at hq
      rcases List.mem_append.1 hq with h | h
      · have hr := mem_run.1 h
        have h5 := isA q.2 (by omega)
        rw [← hr.1] at h5
        exact ⟨h5, by rw [hr.1]; exact hk, if_pos ⟨hr.1, hr.2.1, by omega⟩⟩
      · obtain ⟨q1, q2, q3⟩ := W.on d hd q h
        exact ⟨q1, q2, by rw [if_neg (old d hd q h)]; exact q3⟩
    · rw [upd_ne _ _ e] at hq
      obtain ⟨q1, q2, q3⟩ := W.on d hd q hq
      exact ⟨q1, q2, by rw [if_neg (old d hd q hq)]; exact q3⟩
  · simp only
    by_cases e : d = c
    · subst e
      rw [upd_eq]
      refine List.nodup_append.2 ⟨run_nodup _ _ _, W.nodup d hd, fun p hp q hq e => ?_⟩
      subst e
      have hr := mem_run.1 hp
      exact old d hd p hq ⟨hr.1, hr.2.1, by omega⟩
    · rw [upd_ne _ _ e]; exact W.nodup d hd
  · simp only at hq ⊢
    by_cases e : q.1 = a ∧ 1 ≤ q.2 ∧ q.2 < 1 + m
    · have h5 := isA q.2 e.2.2
      rwa [← e.1] at h5
    · rw [if_neg e] at hq; exact W.dom q hq
  · simp only
    by_cases e : d = c
    · subst e; rw [upd_eq]; omega
    · rw [upd_ne _ _ e]; have := W.ver d hd; omega
  · simp only
    by_cases e : d = c
    · subst e; rw [upd_eq]; exact .inr (by omega)
    · rw [upd_ne _ _ e, upd_ne _ _ e]; exact .inl ⟨rfl, rfl⟩
  · simp only
    rw [if_neg fun h => ?_]
    · exact hq
    · have h4 := ho q.2 h.2.2
      rw [← h.1] at h4
      have : E.ow q = 2 + k := h4
      omega
  · have := W.inC (W.dom q (by omega)) h0 h1
    exact wC b this.2 this.1
/-- a block is taken, for cells of a class -/
theorem Wld.taken (W : Wld n E R) (hj : E.j < n) (hc : c < 2) :
    Wld n ⟨E.s.cas 2 (tw ((E.j : Int) + 1) E.j) (tw (hd1 (upto (E.j + 1) n)) ((E.j + 1 : Nat) : Int)), E.j + 1, E.V, E.L, upd E.kl E.j c, fun q => if q.1 = E.j ∧ (q.2 : Int) < P.Plain.cs c then 2 + k else E.ow q⟩ R ∧
    Turn n k E ⟨E.s.cas 2 (tw ((E.j : Int) + 1) E.j) (tw (hd1 (upto (E.j + 1) n)) ((E.j + 1 : Nat) : Int)), E.j + 1, E.V, E.L, upd E.kl E.j c, fun q => if q.1 = E.j ∧ (q.2 : Int) < P.Plain.cs c then 2 + k else E.ow q⟩ := by
  have F := W.fr
  have n4 := W.n4
  rw [upto_cons hj] at F
  have hb := hd1_bounds (fl := upto (E.j + 1) n) (fun i hi => (mem_upto.1 hi).2) F.n64
  obtain ⟨c1, c2, F', Wd⟩ := take3 (x := ⟨⟨0, 0, 0, 0, 0⟩, tw ((E.j : Int) + 1) E.j, 3, 0, 0, bw 0 0 0 (hd1 (upto (E.j + 1) n)), 0, ⟨0, 0, 0, 0, 0, 0⟩, false⟩) F (by omega) rfl rfl rfl
  rw [c2] at F' Wd
  have klo : ∀ q, IsC n E.j E.kl q → upd E.kl E.j c q.1 = E.kl q.1 := fun q hq => upd_ne _ _ (by have := hq.lt; omega)
  have ado : ∀ q, IsC n E.j E.kl q → ad n (upd E.kl E.j c) q = ad n E.kl q := fun q hq => by unfold ad; rw [klo q hq]
  have iso : ∀ q, IsC n E.j E.kl q → IsC n (E.j + 1) (upd E.kl E.j c) q := fun q hq => ⟨by have := hq.lt; omega, by rw [klo q hq]; exact hq.c, by rw [klo q hq]; exact hq.m⟩
  have inq : ∀ q, IsC n E.j E.kl q → E.s.In (ad n E.kl q) ∧ 32 ≤ ad n E.kl q := fun q hq => W.inC hq (Int.le_refl _) (by have := (hq.bd W.jn W.n4).2.2.1; omega)
  have nw : ∀ q, E.ow q ≠ 0 → ¬ (q.1 = E.j ∧ (q.2 : Int) < P.Plain.cs c) := fun q hq h => by have := (W.dom q hq).lt; omega
  refine ⟨⟨F', W.n4, hj, fun d hd => ?_, fun d hd => ?_, fun d hd q hq => ?_, W.nodup, fun q hq => ?_, W.ver⟩,
    ⟨St.n_cas _ _ _ _, by simp only; omega, fun i hi => upd_ne _ _ (by omega), fun d hd => .inl ⟨rfl, rfl⟩, fun k' hk' q hq => ?_, fun k' hk' q hq b h0 h1 => ?_⟩⟩
  · simp only
    rw [Wd _ (W.inL (by omega) (by omega)) (by omega), W.head d hd]
    congr 1
    cases hL : E.L d with
    | nil => rfl
    | cons q r => exact (ado q (W.on d hd q (by rw [hL]; simp)).1).symm
  · exact (W.lnk d hd).keep (fun q hq => ado q (W.on d hd q hq).1) (fun q hq => by have := inq q (W.on d hd q hq).1; exact Wd _ this.1 (by omega))
  · obtain ⟨q1, q2, q3⟩ := W.on d hd q hq
    exact ⟨iso q q1, by simp only; rw [klo q q1]; exact q2, by simp only; rw [if_neg (nw q (by omega))]; exact q3⟩
  · simp only at hq ⊢
    by_cases e : q.1 = E.j ∧ (q.2 : Int) < P.Plain.cs c
    · exact ⟨by omega, by rw [e.1, upd_eq]; exact hc, by rw [e.1, upd_eq]; exact e.2⟩
    · rw [if_neg e] at hq; exact iso q (W.dom q hq)
  · simp only
    rw [if_neg (nw q (by omega))]; exact hq
  · have := W.inC (W.dom q (by omega)) h0 h1
    exact Wd b this.1 (by omega)
end
end Go.Proofs.YtbojljkdpebheaaDoor
