/-
  What comes of a step of a Reserve and of an Alloc; the game of four, said plainly. No program in sight.
-/
import Derived.Test.YtbojljkdpebheaaDoorGn2
namespace Go.Proofs.YtbojljkdpebheaaDoor
set_option linter.unusedVariables false
open S.Plain (t0 t1 tw nx bw b0 b1 b2 b3)
open H.Plain (hw pL)
section
variable {n R k c a : Nat} {E : Env}
inductive ROut (n R k c : Nat) (E : Env) (x : ResS) : Prop
  | go (E' : Env) (S : Stp n R k E E' (x.mem E.s)) (p : (x.next E.s).pc ≠ 0) (J : RJ n E' c k (x.next E.s)) : ROut n R k c E x
  | no (E' : Env) (S : Stp n R k E E' (x.mem E.s)) (p : (x.next E.s).pc = 0) (z : (x.next E.s).cell = 0) (z1 : t0 (E'.s.word (3 + (c : Nat))) = 0) (z2 : t0 (E'.s.word 2) = 0) : ROut n R k c E x
  | got (E' : Env) (S : Stp n R k E E' (x.mem E.s)) (p : (x.next E.s).pc = 0) (q : Cl) (z : (x.next E.s).cell = ad n E'.kl q) (o : E'.ow q = 2 + k) (kc : E'.kl q.1 = c) : ROut n R k c E x
theorem res_step {x : ResS} (W : Wld n E R) (hR : R < 1000000) (hc : c < 2) (hk : k < 4) (J : RJ n E c k x) : ROut n R k c E x := by
  have hp1 := J.p1
  have hp3 := J.p3
  have : x.pc = 1 ∨ x.pc = 2 ∨ x.pc = 3 := by omega
  rcases this with hp | hp | hp
  · have em : x.mem E.s = x.pop.mem E.s := by simp only [ResS.mem, hp]
    cases pop_step W hR hc hk (J.pop hp) with
    | go E' S p P' =>
      have en : x.next E.s = { x with pop := x.pop.next E.s } := by simp only [ResS.next, hp, if_neg p]
      refine .go E' (em ▸ S) (by rw [en]; simp only; omega) ?_
      rw [en]
      exact ⟨J.pl, J.cls, J.set, J.cel, hp1, hp3, fun _ => P', fun h => by simp only at h; omega, fun h => by simp only at h; omega, fun h => by simp only at h; omega⟩
    | no E' S p z =>
      have en : x.next E.s = { x with pop := x.pop.next E.s, cell := 0, seen := (x.pop.next E.s).seen, take := TakeS.new x.pl x.cls x.set, pc := 2 } := by simp only [ResS.next, hp, if_pos p, if_pos z]
      refine .go E' (em ▸ S) (by rw [en]; simp) ?_
      rw [en]
      exact ⟨J.pl, J.cls, J.set, rfl, by simp, by simp, fun h => by simp at h, fun _ => ⟨⟨J.pl, J.cls, J.set⟩, by simp [TakeS.new], by simp [TakeS.new], fun h => by simp [TakeS.new] at h⟩, fun _ => z, fun h => by simp at h⟩
    | got E' S p q z o kc =>
      have hq := (S.W.dom q (by omega)).bd S.W.jn S.W.n4
      have hne : t0 (x.pop.next E.s).seen ≠ 0 := by rw [z]; omega
      have en : x.next E.s = { x with pop := x.pop.next E.s, cell := t0 (x.pop.next E.s).seen, seen := (x.pop.next E.s).seen, pc := 0 } := by simp only [ResS.next, hp, if_pos p, if_neg hne]
      exact .got E' (em ▸ S) (by rw [en]) q (by rw [en]; exact z) o kc
  · have em : x.mem E.s = x.take.mem E.s := by simp only [ResS.mem, hp]
    cases take_step W hR hc hk (J.take hp) with
    | go E' S p P' =>
      have en : x.next E.s = { x with take := x.take.next E.s } := by simp only [ResS.next, hp, if_neg p]
      refine .go E' (em ▸ S) (by rw [en]; simp only; omega) ?_
      rw [en]
      exact ⟨J.pl, J.cls, J.set, J.cel, hp1, hp3, fun h => by simp only at h; omega, fun _ => P', fun _ => J.seen (by omega), fun h => by simp only at h; omega⟩
    | no E' S p z ej =>
      have en : x.next E.s = { x with take := x.take.next E.s, cell := (x.take.next E.s).cell, pc := 3 } := by simp only [ResS.next, hp, if_pos p, if_pos z]
      refine .go E' (em ▸ S) (by rw [en]; simp) ?_
      rw [en]
      exact ⟨J.pl, J.cls, J.set, z, by simp, by simp, fun h => by simp at h, fun h => by simp at h, fun _ => J.seen (by omega), fun _ => ej⟩
    | got E' S p q z o kc =>
      have hq := (S.W.dom q (by omega)).bd S.W.jn S.W.n4
      have hne : (x.take.next E.s).cell ≠ 0 := by rw [z]; omega
      have en : x.next E.s = { x with take := x.take.next E.s, cell := (x.take.next E.s).cell, pc := 0 } := by simp only [ResS.next, hp, if_pos p, if_neg hne]
      exact .got E' (em ▸ S) (by rw [en]) q (by rw [en]; exact z) o kc
  · have hhd : x.hd = 3 + (c : Nat) := by unfold ResS.hd; rw [J.cls, J.set]; omega
    have em : x.mem E.s = E.s.load (3 + (c : Nat)) := by simp only [ResS.mem, hp, hhd]
    have hin : E.s.In (3 + (c : Nat)) := W.inL (by omega) (by omega)
    have S0 : Stp n R k E { E with s := E.s.load (3 + (c : Nat)) } (x.mem E.s) := by rw [em]; exact Stp.load W hin
    have ej := J.all hp
    have ez := J.seen (by omega)
    by_cases hz : E.s.got x.hd = x.seen
    · have en : x.next E.s = { x with pc := 0 } := by simp only [ResS.next, hp, if_pos hz]
      refine .no _ S0 (by rw [en]) (by rw [en]; exact J.cel) ?_ ?_
      · rw [hhd, hin.got] at hz
        show t0 (E.s.word (3 + (c : Nat))) = 0
        rw [hz]; exact ez
      · show t0 (E.s.word 2) = 0
        have := W.fr.head
        rw [ej, upto_nil] at this
        rw [this]
        exact t0_small (by simp [hd1]) (by simp [hd1]) _
    · have en : x.next E.s = { x with pop := PopS.new x.hd, pc := 1 } := by simp only [ResS.next, hp, if_neg hz]
      refine .go _ S0 (by rw [en]; simp) ?_
      rw [en]
      exact ⟨J.pl, J.cls, J.set, J.cel, by simp, by simp, fun _ => ⟨hhd, by simp [PopS.new], by simp [PopS.new], fun h => by simp [PopS.new] at h⟩, fun h => by simp at h, fun h => by simp at h, fun h => by simp at h⟩
/-- a cell that thread k has is told -/
theorem Wld.tell (W : Wld n E R) {q : Cl} (ho : E.ow q = 2 + k) : Wld n { E with ow := updC E.ow q 6 } R ∧ Turn n k E { E with ow := updC E.ow q 6 } := by
  refine ⟨⟨W.fr, W.n4, W.jn, W.head, W.lnk, fun c hc p hp => ?_, W.nodup, fun p hp => ?_, W.ver⟩, ⟨rfl, Nat.le_refl _, fun _ _ => rfl, fun _ _ => .inl ⟨rfl, rfl⟩, fun k' hk p hp => ?_, fun _ _ _ _ _ _ _ => rfl⟩⟩
  · obtain ⟨h1, h2, h3⟩ := W.on c hc p hp
    exact ⟨h1, h2, by simp only; rw [updC_ne _ _ (fun e => by rw [e, ho] at h3; omega)]; exact h3⟩
  · simp only at hp
    by_cases e : p = q
    · rw [e]; exact W.dom q (by omega)
    · rw [updC_ne _ _ e] at hp; exact W.dom p hp
  · simp only
    rw [updC_ne _ _ (fun e => by rw [e, ho] at hp; omega)]; exact hp
theorem Turn.trans {E1 E2 : Env} (h : Turn n k E E1) (h' : Turn n k E1 E2) (W : Wld n E R) : Turn n k E E2 := by
  refine ⟨h'.len.trans h.len, Nat.le_trans h.j h'.j, fun i hi => (h'.kl i (Nat.lt_of_lt_of_le hi h.j)).trans (h.kl i hi), fun c hc => ?_, fun k' hk p hp => h'.ow k' hk p (h.ow k' hk p hp), fun k' hk p hp b b0 b1 => ?_⟩
  · rcases h.V c hc with ⟨a1, a2⟩ | a1 <;> rcases h'.V c hc with ⟨b1, b2⟩ | b1
    · exact .inl ⟨by omega, b2.trans a2⟩
    · exact .inr (by omega)
    · exact .inr (by omega)
    · exact .inr (by omega)
  · have is := W.dom p (by omega)
    rw [h'.word k' hk p (h.ow k' hk p hp) b (by rw [h.ad is]; exact b0) (by rw [h.ad is, h.kl' is]; exact b1)]
    exact h.word k' hk p hp b b0 b1
inductive AOut (n R k c : Nat) (E : Env) (x : AllS) : Prop
  | go (E' : Env) (S : Stp n R k E E' (x.mem E.s)) (p : (x.next E.s).pc ≠ 0) (J : AJ n E' k c (x.next E.s)) (hc : (x.next E.s).cnt = x.cnt) : AOut n R k c E x
  | no (E' : Env) (S : Stp n R k E E' (x.mem E.s)) (p : (x.next E.s).pc = 0) (z : (x.next E.s).cell = 0) (z1 : t0 (E'.s.word (3 + (c : Nat))) = 0) (z2 : t0 (E'.s.word 2) = 0) : AOut n R k c E x
  | got (E' : Env) (s : E'.s = x.mem E.s) (W : Wld n E' (R + 1)) (T : Turn n k E E') (p : (x.next E.s).pc = 0) (q : Cl) (six : ∀ p, E'.ow p = 6 ↔ E.ow p = 6 ∨ p = q) (o : E.ow q = 2 + k) (z : (x.next E.s).cell = ad n E'.kl q) (kc : E'.kl q.1 = c)
      (zf : ∀ w : Int, 1 ≤ w → w ≤ x.cnt → E'.s.word (ad n E'.kl q + w) = 0) (zh : E'.s.word (ad n E'.kl q) = hw 1 c x.cnt 1 0 0 0) : AOut n R k c E x
theorem all_step {x : AllS} (W : Wld n E R) (hR : R < 1000000) (hk : k < 4) (J : AJ n E k c x) : AOut n R k c E x := by
  have hc := J.c2
  have hp1 := J.p1
  have hp3 := J.p3
  have n1 := J.n1
  have n0 := J.n0
  have : x.pc = 1 ∨ x.pc = 2 ∨ x.pc = 3 := by omega
  rcases this with hp | hp | hp
  · have em : x.mem E.s = x.res.mem E.s := by simp only [AllS.mem, hp]
    obtain ⟨f0, RJ0⟩ := J.res hp
    cases res_step W hR hc hk RJ0 with
    | go E' S p P' =>
      have en : x.next E.s = { x with res := x.res.next E.s } := by simp only [AllS.next, hp, if_neg p]
      refine .go E' (em ▸ S) (by rw [en]; simp only; omega) ?_ (by rw [en])
      rw [en]
      exact ⟨hc, J.cls, J.cc, J.mrk, J.cel, J.n0, J.n1, hp1, hp3, J.f0, fun _ => ⟨f0, P'⟩, fun h => by simp only at h; omega, fun h => by simp only at h; omega, fun h => by simp only at h; omega⟩
    | no E' S p z z1 z2 =>
      have en : x.next E.s = { x with res := x.res.next E.s, pc := 0 } := by simp only [AllS.next, hp, if_pos p, if_pos z]
      exact .no E' (em ▸ S) (by rw [en]) (by rw [en]; exact J.cel) z1 z2
    | got E' S p q z o kc =>
      have hq := (S.W.dom q (by omega)).bd S.W.jn S.W.n4
      have hne : (x.res.next E.s).cell ≠ 0 := by rw [z]; omega
      have en : x.next E.s = { x with res := x.res.next E.s, pc := if x.fld < x.cnt then 2 else 3 } := by simp only [AllS.next, hp, if_pos p, if_neg hne]
      refine .go E' (em ▸ S) (by rw [en]; simp only; split <;> simp) ?_ (by rw [en])
      rw [en]
      refine ⟨hc, J.cls, J.cc, J.mrk, J.cel, J.n0, J.n1, by simp only; split <;> simp, by simp only; split <;> simp, J.f0, fun h => by simp only at h; split at h <;> omega, fun _ => ⟨q, o, kc, z, fun w w1 w2 => by simp only at w2; omega⟩, fun h => ?_, fun h => ?_⟩
      · simp only at h ⊢; split at h <;> omega
      · simp only at h ⊢; split at h <;> omega
  · obtain ⟨q, q1, q2, q3, q4⟩ := J.hold (by omega)
    have f2 := J.f2 hp
    have f0 := J.f0
    have is := W.dom q (by omega)
    have hwd : P.Plain.wd (E.kl q.1) = P.Plain.wd c := by rw [q2]
    have b0 : ad n E.kl q ≤ ad n E.kl q + (x.fld + 1) := by omega
    have b1 : ad n E.kl q + (x.fld + 1) < ad n E.kl q + P.Plain.wd (E.kl q.1) := by rw [hwd]; omega
    obtain ⟨W1, T1⟩ := W.own (x := 0) q1 b0 b1
    have hin := (W.inC is b0 b1).1
    have em : x.mem E.s = E.s.store (ad n E.kl q + (x.fld + 1)) 0 := by simp only [AllS.mem, hp, q3]
    have en : x.next E.s = { x with fld := x.fld + 1, pc := if x.fld + 1 < x.cnt then 2 else 3 } := by simp only [AllS.next, hp]
    refine .go { E with s := E.s.store (ad n E.kl q + (x.fld + 1)) 0 } ⟨em.symm, W1.mono (Nat.le_succ _), T1, fun _ => Iff.rfl⟩ (by rw [en]; simp only; split <;> simp) ?_ (by rw [en])
    rw [en]
    refine ⟨hc, J.cls, J.cc, J.mrk, J.cel, J.n0, J.n1, by simp only; split <;> simp, by simp only; split <;> simp, by simp only; omega, fun h => by simp only at h; split at h <;> omega, fun _ => ⟨q, q1, q2, q3, fun w w1 w2 => ?_⟩, fun h => ?_, fun h => ?_⟩
    · simp only at w2 ⊢
      by_cases e : w = x.fld + 1
      · rw [e, St.word_store' hin hin, if_pos rfl]
      · rw [word_other hin (W.inC is (by omega) (by rw [hwd]; omega)).1 (by omega)]
        exact q4 w w1 (by omega)
    · simp only at h ⊢; split at h <;> omega
    · simp only at h ⊢; split at h <;> omega
  · obtain ⟨q, q1, q2, q3, q4⟩ := J.hold (by omega)
    have f3 := J.f3 hp
    have is := W.dom q (by omega)
    have bd := is.bd W.jn W.n4
    have hwd : P.Plain.wd (E.kl q.1) = P.Plain.wd c := by rw [q2]
    obtain ⟨W1, T1⟩ := W.own (x := hw 1 c x.cnt 1 0 0 0) q1 (Int.le_refl _) (by omega)
    obtain ⟨W2, T2⟩ := W1.tell (q := q) q1
    have hin := (W.inC is (Int.le_refl _) (by omega)).1
    have em : x.mem E.s = E.s.store (ad n E.kl q) (hw 1 c x.cnt 1 0 0 0) := by simp only [AllS.mem, hp, q3, J.cls, J.mrk]
    have en : x.next E.s = { x with cell := x.res.cell, pc := 0 } := by simp only [AllS.next, hp]
    refine .got _ em.symm (W2.mono (Nat.le_succ _)) (T1.trans T2 W) (by rw [en]) q (fun p => ?_) q1 (by rw [en]; exact q3) q2 (fun w w1 w2 => ?_) ?_
    · simp only
      by_cases e : p = q
      · rw [e, updC_eq]; simp
      · rw [updC_ne _ _ e]; simp [e]
    · simp only
      rw [word_other hin (W.inC is (by omega) (by rw [hwd]; omega)).1 (by omega)]
      exact q4 w w1 (by omega)
    · simp only
      rw [St.word_store' hin hin, if_pos rfl]
/-- one that begins -/
theorem aj_new (W : Wld n E R) {m : Int} (m0 : 0 ≤ m) (m7 : m ≤ 7) (k : Nat) : ∃ c : Nat, P.Plain.cl m = c ∧ AJ n E k c (AllS.new (mkPl 4 n) m 1 0) := by
  have mk : ∀ c : Nat, c < 2 → P.Plain.cl m = c → m + 1 ≤ P.Plain.wd c → AJ n E k c (AllS.new (mkPl 4 n) m 1 0) := fun c hc h1 h2 =>
    ⟨hc, h1, h1, rfl, rfl, m0, h2, by simp [AllS.new], by simp [AllS.new], by simp [AllS.new], fun _ => ⟨rfl, ⟨rfl, h1, rfl, rfl, by simp [AllS.new, ResS.new], by simp [AllS.new, ResS.new], fun _ => ⟨by simp only [AllS.new, ResS.new, PopS.new, h1]; omega, by simp [AllS.new, ResS.new, PopS.new], by simp [AllS.new, ResS.new, PopS.new], fun h => by simp [AllS.new, ResS.new, PopS.new] at h⟩, fun h => by simp [AllS.new, ResS.new] at h, fun h => by simp [AllS.new, ResS.new] at h, fun h => by simp [AllS.new, ResS.new] at h⟩⟩, fun h => by simp [AllS.new] at h, fun h => by simp [AllS.new] at h, fun h => by simp [AllS.new] at h⟩
  by_cases h3 : m ≤ 3
  · exact ⟨0, P.Plain.cl_0 m0 h3, mk 0 (by decide) (P.Plain.cl_0 m0 h3) (by rw [show P.Plain.wd ((0 : Nat) : Int) = 4 from rfl]; omega)⟩
  · exact ⟨1, P.Plain.cl_1 (by omega) m7, mk 1 (by decide) (P.Plain.cl_1 (by omega) m7) (by rw [show P.Plain.wd ((1 : Nat) : Int) = 8 from rfl]; omega)⟩
/-- the four -/
structure Game (n : Nat) (E : Env) (R : Nat) (jb : Nat → Option AllS) : Prop where
  W : Wld n E R
  job : ∀ k, k < 4 → ∀ x, jb k = some x → ∃ c, AJ n E k c x
theorem Game.turn {jb : Nat → Option AllS} (G : Game n E R jb) (hk : k < 4) {E' : Env} {R' : Nat} (W' : Wld n E' R') (T : Turn n k E E') {o : Option AllS} (ho : ∀ x, o = some x → ∃ c, AJ n E' k c x) : Game n E' R' (upd jb k o) := by
  refine ⟨W', fun i hi x hx => ?_⟩
  by_cases e : i = k
  · subst e; rw [upd_eq] at hx; exact ho x hx
  · rw [upd_ne _ _ e] at hx
    obtain ⟨c, J⟩ := G.job i hi x hx
    exact ⟨c, J.keep G.W W' T e⟩
/-- the words that were told -/
def Told (n : Nat) (E : Env) (f : Nat → Bool) : Prop := ∀ x : Nat, f x = true ↔ ∃ p, E.ow p = 6 ∧ ad n E.kl p ≤ x ∧ (x : Int) < ad n E.kl p + P.Plain.wd (E.kl p.1)
theorem Told.keep {f : Nat → Bool} {E' : Env} (h : Told n E f) (W : Wld n E R) (T : Turn n k E E') (six : ∀ p, E'.ow p = 6 ↔ E.ow p = 6) : Told n E' f := by
  intro x
  rw [h x]
  constructor
  · rintro ⟨p, h1, h2, h3⟩
    have is := W.dom p (by omega)
    exact ⟨p, (six p).2 h1, by rw [T.ad is]; exact h2, by rw [T.ad is, T.kl' is]; exact h3⟩
  · rintro ⟨p, h1, h2, h3⟩
    have h1 := (six p).1 h1
    have is := W.dom p (by omega)
    exact ⟨p, h1, by rw [← T.ad is]; exact h2, by rw [← T.ad is, ← T.kl' is]; exact h3⟩
theorem Told.new {f g : Nat → Bool} {E' : Env} {q : Cl} (h : Told n E f) (W : Wld n E R) (T : Turn n k E E') (six : ∀ p, E'.ow p = 6 ↔ E.ow p = 6 ∨ p = q) (hg : ∀ x : Nat, g x = true ↔ f x = true ∨ ad n E'.kl q ≤ x ∧ (x : Int) < ad n E'.kl q + P.Plain.wd (E'.kl q.1)) : Told n E' g := by
  intro x
  rw [hg x, h x]
  constructor
  · rintro (⟨p, h1, h2, h3⟩ | ⟨h2, h3⟩)
    · have is := W.dom p (by omega)
      exact ⟨p, (six p).2 (.inl h1), by rw [T.ad is]; exact h2, by rw [T.ad is, T.kl' is]; exact h3⟩
    · exact ⟨q, (six q).2 (.inr rfl), h2, h3⟩
  · rintro ⟨p, h1, h2, h3⟩
    rcases (six p).1 h1 with h1 | rfl
    · have is := W.dom p (by omega)
      exact .inl ⟨p, h1, by rw [← T.ad is]; exact h2, by rw [← T.ad is, ← T.kl' is]; exact h3⟩
    · exact .inr ⟨h2, h3⟩
/-- no word of a cell that a thread has was told -/
theorem Told.not {f : Nat → Bool} {E' : Env} {q : Cl} (h : Told n E f) (W : Wld n E R) (T : Turn n k E E') (hq : E.ow q = 2 + k) (hk : k < 4) {x : Nat} (h0 : ad n E'.kl q ≤ x) (h1 : (x : Int) < ad n E'.kl q + P.Plain.wd (E'.kl q.1)) : f x = false := by
  have iq := W.dom q (by omega)
  rw [T.ad iq] at h0 h1
  rw [T.kl' iq] at h1
  cases hf : f x with
  | false => rfl
  | true =>
    exfalso
    obtain ⟨p, p1, p2, p3⟩ := (h x).1 hf
    have ip := W.dom p (by omega)
    have hne : p ≠ q := fun e => by rw [e, hq] at p1; omega
    rcases ad_apart W.n4 ip iq hne with h' | h' <;> omega
theorem game_start {s : St} (h1 : 1 ≤ n) (h4 : n ≤ 4) (hw : s.ws = (frSt 4 n).ws) (h0 : s.t = 0) : Game n ⟨s, 0, fun _ => 0, fun _ => [], fun _ => 0, fun _ => 0⟩ 0 (fun _ => none) ∧ Told n ⟨s, 0, fun _ => 0, fun _ => [], fun _ => 0, fun _ => 0⟩ (fun _ => false) := by
  obtain ⟨F, hz⟩ := fresh_fr (t := 4) (n := n) (by decide) h1 (by omega) hw h0
  refine ⟨⟨⟨F, h4, Nat.zero_le _, fun c hc => ?_, fun _ _ => trivial, fun _ _ p hp => by simp at hp, fun _ _ => List.nodup_nil, fun p hp => by simp at hp, fun _ _ => Nat.le_refl _⟩, fun k hk x hx => by simp at hx⟩, fun x => ?_⟩
  · have := hz (3 + c) (by omega) (by omega)
    simp only [hdA]
    rw [show (3 : Int) + (c : Nat) = ((3 + c : Nat) : Int) by omega, this]
    rfl
  · simp
end
end Go.Proofs.YtbojljkdpebheaaDoor
