/-
  Four threads that make objects, said plainly: which cell is whose. No program in sight.
-/
import Derived.Test.YtbojljkdpebheaaDoorKu
import Derived.Test.YtbojljkdpebheaaDoorAp
namespace Go.Proofs.YtbojljkdpebheaaDoor
set_option linter.unusedVariables false
open S.Plain (t0 t1 tw nx bw b0 b1 b2 b3)
open H.Plain (hw pL)

/-- a cell: its block, and its number in it -/
abbrev Cl := Nat × Nat
def ad (n : Nat) (kl : Nat → Nat) (p : Cl) : Int := cel 4 n p.1 (kl p.1) p.2
/-- the memory; how many blocks were taken; of each class the version and the cells of its list; of each block the class; of each cell who has it (0: nobody, 1: its list, 2 and k: thread k, 6: it was told) -/
structure Env where
  s : St
  j : Nat
  V : Nat → Nat
  L : Nat → List Cl
  kl : Nat → Nat
  ow : Cl → Nat
/-- it is a cell of a block that was taken -/
structure IsC (n j : Nat) (kl : Nat → Nat) (p : Cl) : Prop where
  lt : p.1 < j
  c : kl p.1 < 2
  m : (p.2 : Int) < P.Plain.cs (kl p.1)
theorem wc {c : Nat} (h : c < 2) : (c = 0 ∧ P.Plain.wd c = 4 ∧ P.Plain.cs c = 8) ∨ (c = 1 ∧ P.Plain.wd c = 8 ∧ P.Plain.cs c = 4) := by
  match c, h with
  | 0, _ => exact .inl ⟨rfl, rfl, rfl⟩
  | 1, _ => exact .inr ⟨rfl, rfl, rfl⟩
theorem hp32 {n : Nat} (h : n ≤ 4) : hpN 4 n = 32 := by unfold hpN; omega
section
variable {n j : Nat} {kl : Nat → Nat} {p q : Cl}
theorem ad_eq (n4 : n ≤ 4) (p : Cl) : ad n kl p = 32 + 32 * p.1 + p.2 * P.Plain.wd (kl p.1) := by
  unfold ad cel
  rw [hp32 n4]
  rfl
theorem IsC.bd (h : IsC n j kl p) (hj : j ≤ n) (n4 : n ≤ 4) : 32 ≤ ad n kl p ∧ ad n kl p + P.Plain.wd (kl p.1) ≤ 32 + 32 * n ∧ 4 ≤ P.Plain.wd (kl p.1) ∧ ad n kl p ≤ 4095 := by
  have h1 := h.lt
  have h3 := h.m
  rw [ad_eq n4]
  rcases wc h.c with ⟨e1, e2, e3⟩ | ⟨e1, e2, e3⟩
  · rw [e2]; rw [e3] at h3; omega
  · rw [e2]; rw [e3] at h3; omega
theorem ad_apart (n4 : n ≤ 4) (hp : IsC n j kl p) (hq : IsC n j kl q) (hne : p ≠ q) : ad n kl p + P.Plain.wd (kl p.1) ≤ ad n kl q ∨ ad n kl q + P.Plain.wd (kl q.1) ≤ ad n kl p := by
  obtain ⟨i, m⟩ := p
  obtain ⟨i', m'⟩ := q
  have h1 := hp.m
  have h2 := hq.m
  have c1 := hp.c
  have c2 := hq.c
  simp only at h1 h2 c1 c2
  rw [ad_eq n4, ad_eq n4]
  simp only
  by_cases e : i = i'
  · subst e
    have : m ≠ m' := fun h => hne (by rw [h])
    rcases wc c1 with ⟨e1, e2, e3⟩ | ⟨e1, e2, e3⟩
    · rw [e2]; omega
    · rw [e2]; omega
  · rcases wc c1 with ⟨e1, e2, e3⟩ | ⟨e1, e2, e3⟩ <;> rcases wc c2 with ⟨f1, f2, f3⟩ | ⟨f1, f2, f3⟩ <;> rw [e2, f2] <;> rw [e3] at h1 <;> rw [f3] at h2 <;> omega
theorem ad_ne (n4 : n ≤ 4) (hp : IsC n j kl p) (hq : IsC n j kl q) (hj : j ≤ n) (hne : p ≠ q) {b : Int} (h0 : ad n kl p ≤ b) (h1 : b < ad n kl p + P.Plain.wd (kl p.1)) : b ≠ ad n kl q := fun e => by
  have b1 := (hq.bd hj n4).2.2.1
  rcases ad_apart n4 hp hq hne with h | h <;> omega
end
def hdA (n : Nat) (kl : Nat → Nat) : List Cl → Int
  | [] => 0
  | p :: _ => ad n kl p
def Lnk (n : Nat) (kl : Nat → Nat) (s : St) : List Cl → Prop
  | [] => True
  | p :: r => pL (s.word (ad n kl p)) = hdA n kl r ∧ Lnk n kl s r
theorem Lnk.keep {n : Nat} {kl kl' : Nat → Nat} {s s' : St} : ∀ {l : List Cl}, Lnk n kl s l → (∀ p ∈ l, ad n kl' p = ad n kl p) → (∀ p ∈ l, s'.word (ad n kl p) = s.word (ad n kl p)) → Lnk n kl' s' l
  | [], _, _, _ => trivial
  | p :: r, h, k, w => by
    refine ⟨?_, Lnk.keep h.2 (fun q hq => k q (by simp [hq])) (fun q hq => w q (by simp [hq]))⟩
    rw [k p (by simp), w p (by simp), h.1]
    cases r with
    | nil => rfl
    | cons q r => exact (k q (by simp)).symm
structure Wld (n : Nat) (E : Env) (R : Nat) : Prop where
  fr : Fr 4 n E.s (upto E.j n) E.j
  n4 : n ≤ 4
  jn : E.j ≤ n
  head : ∀ c, c < 2 → E.s.word (3 + (c : Nat)) = tw (hdA n E.kl (E.L c)) (E.V c)
  lnk : ∀ c, c < 2 → Lnk n E.kl E.s (E.L c)
  on : ∀ c, c < 2 → ∀ p ∈ E.L c, IsC n E.j E.kl p ∧ E.kl p.1 = c ∧ E.ow p = 1
  nodup : ∀ c, c < 2 → (E.L c).Nodup
  dom : ∀ p, E.ow p ≠ 0 → IsC n E.j E.kl p
  ver : ∀ c, c < 2 → E.V c ≤ R
/-- what a turn of thread k leaves to the others -/
structure Turn (n k : Nat) (E E' : Env) : Prop where
  len : E'.s.ws.length = E.s.ws.length
  j : E.j ≤ E'.j
  kl : ∀ i, i < E.j → E'.kl i = E.kl i
  V : ∀ c, c < 2 → (E'.V c = E.V c ∧ E'.L c = E.L c) ∨ E.V c < E'.V c
  ow : ∀ k', k' ≠ k → ∀ p, E.ow p = 2 + k' → E'.ow p = 2 + k'
  word : ∀ k', k' ≠ k → ∀ p, E.ow p = 2 + k' → ∀ b, ad n E.kl p ≤ b → b < ad n E.kl p + P.Plain.wd (E.kl p.1) → E'.s.word b = E.s.word b
section
variable {n R k : Nat} {E : Env}
theorem Wld.hp (W : Wld n E R) : (E.s.ws.length : Int) = 32 + 32 * n ∧ 1 ≤ n := by
  have h := W.fr.sz
  rw [hp32 W.n4] at h
  exact ⟨by omega, W.fr.n1⟩
theorem Wld.inC (W : Wld n E R) {p : Cl} (h : IsC n E.j E.kl p) {b : Int} (h0 : ad n E.kl p ≤ b) (h1 : b < ad n E.kl p + P.Plain.wd (E.kl p.1)) : E.s.In b ∧ 32 ≤ b := by
  have := h.bd W.jn W.n4
  have := W.hp
  exact ⟨⟨by omega, by omega⟩, by omega⟩
theorem Wld.inL (W : Wld n E R) {b : Int} (h0 : 0 ≤ b) (h1 : b < 14 + n) : E.s.In b := W.fr.in_low h0 (by omega)
/-- only the memory turns, and no word of it -/
theorem Wld.same (W : Wld n E R) {s' : St} (hl : s'.ws.length = E.s.ws.length) (ht : s'.t = E.s.t) (hw : ∀ b, s'.word b = E.s.word b) : Wld n { E with s := s' } R ∧ Turn n k E { E with s := s' } := by
  refine ⟨⟨W.fr.keep hl ht (hw 2) (fun _ _ => hw _), W.n4, W.jn, fun c hc => (hw _).trans (W.head c hc), fun c hc => (W.lnk c hc).keep (fun _ _ => rfl) (fun _ _ => hw _), W.on, W.nodup, W.dom, W.ver⟩, ⟨hl, Nat.le_refl _, fun _ _ => rfl, fun _ _ => .inl ⟨rfl, rfl⟩, fun _ _ _ h => h, fun _ _ _ _ b _ _ => hw b⟩⟩
/-- a word of a cell that thread k has is written -/
theorem Wld.own (W : Wld n E R) {p : Cl} (ho : E.ow p = 2 + k) {b x : Int} (h0 : ad n E.kl p ≤ b) (h1 : b < ad n E.kl p + P.Plain.wd (E.kl p.1)) : Wld n { E with s := E.s.store b x } R ∧ Turn n k E { E with s := E.s.store b x } := by
  have hp := W.dom p (by omega)
  have hin := W.inC hp h0 h1
  have hn := W.hp.2
  have n4 := W.n4
  refine ⟨⟨W.fr.store hin.1 (by omega) (fun i hi => by have := (mem_upto.1 hi).2; omega), W.n4, W.jn, fun c hc => ?_, fun c hc => (W.lnk c hc).keep (fun _ _ => rfl) (fun q hq => ?_), W.on, W.nodup, W.dom, W.ver⟩,
    ⟨St.n_store _ _ _, Nat.le_refl _, fun _ _ => rfl, fun _ _ => .inl ⟨rfl, rfl⟩, fun _ _ _ h => h, fun k' hk q hq a a0 a1 => ?_⟩⟩
  · exact (word_other hin.1 (W.inL (by omega) (by omega)) (by omega)).trans (W.head c hc)
  · obtain ⟨q1, q2, q3⟩ := W.on c hc q hq
    have hpq : p ≠ q := fun e => by rw [e, q3] at ho; omega
    exact word_other hin.1 (W.inC q1 (Int.le_refl _) (by have := (q1.bd W.jn W.n4).2.2.1; omega)).1 (ad_ne W.n4 hp q1 W.jn hpq h0 h1)
  · have hq' := W.dom q (by omega)
    have hpq : p ≠ q := fun e => by rw [e, hq] at ho; omega
    refine word_other hin.1 (W.inC hq' a0 a1).1 fun e => ?_
    rcases ad_apart W.n4 hp hq' hpq with h | h <;> omega
/-- a table's word of a block that was taken is written -/
theorem Wld.tab (W : Wld n E R) {i : Nat} (hi : i < E.j) (x : Int) : Wld n { E with s := E.s.store (10 + (4 : Nat) + i) x } R ∧ Turn n k E { E with s := E.s.store (10 + (4 : Nat) + i) x } := by
  have jn := W.jn
  have n4 := W.n4
  have hin : E.s.In (10 + (4 : Nat) + i) := W.inL (by omega) (by omega)
  refine ⟨⟨W.fr.store hin (by omega) (fun i' hi' => by have := (mem_upto.1 hi').1; omega), W.n4, W.jn, fun c hc => ?_, fun c hc => (W.lnk c hc).keep (fun _ _ => rfl) (fun q hq => ?_), W.on, W.nodup, W.dom, W.ver⟩,
    ⟨St.n_store _ _ _, Nat.le_refl _, fun _ _ => rfl, fun _ _ => .inl ⟨rfl, rfl⟩, fun _ _ _ h => h, fun k' hk q hq a a0 a1 => ?_⟩⟩
  · exact (word_other hin (W.inL (by omega) (by omega)) (by omega)).trans (W.head c hc)
  · obtain ⟨q1, q2, q3⟩ := W.on c hc q hq
    have := W.inC q1 (Int.le_refl _) (by have := (q1.bd W.jn W.n4).2.2.1; omega)
    exact word_other hin this.1 (by omega)
  · have := W.inC (W.dom q (by omega)) a0 a1
    exact word_other hin this.1 (by omega)
end
end Go.Proofs.YtbojljkdpebheaaDoor
