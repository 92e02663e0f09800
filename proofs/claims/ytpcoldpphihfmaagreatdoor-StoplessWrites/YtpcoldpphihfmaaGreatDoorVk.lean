/-
  A write, a read, two Swaps beside the one that moves, in any order: games, plainly.
-/
import Derived.Test.YtpcoldpphihfmaaGreatDoorVg
namespace Go.Proofs.YtpcoldpphihfmaaGreatDoor
set_option linter.unusedVariables false
set_option linter.unusedSimpArgs false
set_option maxRecDepth 100000
open H.Plain (hw pS pC pN pM pG pT pL mv)

/-- who moves: which field, at which step, on which way; the word that it saw -/
structure Mo where
  f : Nat
  pc : Nat
  wd : Bool
  w : Int
namespace Mo
def S (m : Mo) : Int := 106 + 2 * (m.f : Int)
def O (m : Mo) : Int := 97 + (m.f : Int)
def next (m : Mo) (s : St) : Mo :=
  if m.f = 3 then m else
  match m.pc with
  | 0 => if (m.wd = true ∧ s.got m.S ≠ 0) ∨ s.got m.S = 3 then ⟨m.f + 1, 0, m.wd, m.w⟩ else if m.wd = false ∧ s.got m.S = 2 then ⟨m.f, 5, m.wd, m.w⟩ else if m.wd = false then ⟨m.f, 3, m.wd, m.w⟩ else ⟨m.f, 1, m.wd, m.w⟩
  | 1 => ⟨m.f, if F.Plain.froz (s.got m.O) then 7 else 2, m.wd, s.got m.O⟩
  | 2 => ⟨m.f, 1, m.wd, m.w⟩
  | 3 => ⟨m.f, 4, m.wd, s.got (m.S + 1)⟩
  | 5 => ⟨m.f, 6, m.wd, s.got (m.S + 1)⟩
  | 6 => ⟨m.f, 8, m.wd, m.w⟩
  | _ => ⟨m.f, 0, m.wd, m.w⟩
def mem (m : Mo) (s : St) : St :=
  if m.f = 3 then s else
  match m.pc with
  | 0 => s.load m.S
  | 1 => s.load m.O
  | 2 => s.cas m.O m.w (F.Plain.fz m.w)
  | 3 => s.load (m.S + 1)
  | 4 => s.cas2 m.S 1 m.w 2 m.w
  | 5 => s.load (m.S + 1)
  | 6 => s.cas (113 + (m.f : Int)) 2 m.w
  | 7 => s.cas2 m.S 0 0 1 (F.Plain.th m.w)
  | _ => s.cas2 m.S 2 m.w 3 m.w
end Mo
structure Mo.Ok (m : Mo) : Prop where
  f : m.f ≤ 3
  pc : m.pc ≤ 8
  w : U64 m.w
/-- what it knows -/
structure Km (g : Nat → Int) (m : Mo) : Prop where
  ok : m.Ok
  k2 : m.f < 3 → m.pc = 2 → F.Plain.froz m.w = false
  k5 : m.f < 3 → m.pc = 5 → 2 ≤ g (10 + 2 * m.f)
  k6 : m.f < 3 → m.pc = 6 → 2 ≤ g (10 + 2 * m.f) ∧ g (11 + 2 * m.f) = m.w
  k7 : m.f < 3 → m.pc = 7 → F.Plain.froz m.w = true ∧ g (1 + m.f) = m.w
  k8 : m.f < 3 → m.pc = 8 → g (17 + m.f) ≠ 2
section
variable {P P' : Int → Prop} {q : Wq} {k : Nat} {g g' : Nat → Int} {v v' : Nat → Vl} {s s' : St} {x : Cw} {m : Mo}
theorem Km.le (K : Km g m) (L : Le g g') : Km g' m := by
  refine ⟨K.ok, K.k2, fun h e => ?_, fun h e => ?_, fun h e => ?_, fun h e => (L m.f h).2.2.2 (K.k8 h e)⟩
  · exact Int.le_trans (K.k5 h e) (L m.f h).1
  · obtain ⟨a, b⟩ := K.k6 h e
    exact ⟨Int.le_trans a (L m.f h).1, ((L m.f h).2.2.1 a).trans b⟩
  · obtain ⟨a, b⟩ := K.k7 h e
    exact ⟨a, ((L m.f h).2.1 (by rw [b]; exact a)).trans b⟩
/-- it steps -/
theorem mov (O : Ob s g v) (K : Km g m) (r : s.Rng) : ∃ g', Ob (m.mem s) g' v ∧ Le g g' ∧ Km g' (m.next s) := by
  obtain ⟨⟨hf, hpc, hw⟩, k2, k5, k6, k7, k8⟩ := K
  obtain ⟨f, pc, wd, w⟩ := m
  simp only at hf hpc hw k2 k5 k6 k7 k8
  by_cases h3 : f = 3
  · subst h3
    exact ⟨g, O, Le.refl g, ⟨⟨by simp [Mo.next], by simpa [Mo.next] using hpc, by simpa [Mo.next] using hw⟩, fun h => by simp [Mo.next] at h, fun h => by simp [Mo.next] at h, fun h => by simp [Mo.next] at h, fun h => by simp [Mo.next] at h, fun h => by simp [Mo.next] at h⟩⟩
  have hk : f < 3 := by omega
  have R := fun a => O.m.load (x := a)
  have iS : In (106 + 2 * (f : Int)) := in160 (by omega) (by omega)
  have iP : In (106 + 2 * (f : Int) + 1) := in160 (by omega) (by omega)
  have iO : In (97 + (f : Int)) := in160 (by omega) (by omega)
  have kn : ∀ {f' pc' : Nat} {w' : Int}, f' ≤ 3 → pc' ≤ 4 → pc' ≠ 2 → U64 w' → ∀ g', Km g' ⟨f', pc', wd, w'⟩ := fun h1 h2 h3 h4 g' => ⟨⟨h1, by simp only; omega, h4⟩, fun _ e => absurd e h3, fun _ e => by simp only at e; omega, fun _ e => by simp only at e; omega, fun _ e => by simp only at e; omega, fun _ e => by simp only at e; omega⟩
  rcases (show pc = 0 ∨ pc = 1 ∨ pc = 2 ∨ pc = 3 ∨ pc = 4 ∨ pc = 5 ∨ pc = 6 ∨ pc = 7 ∨ pc = 8 by omega) with rfl | rfl | rfl | rfl | rfl | rfl | rfl | rfl | rfl
  · refine ⟨g, by simp only [Mo.mem, if_neg h3, Mo.S]; exact O.load iS, Le.refl g, ?_⟩
    simp only [Mo.next, if_neg h3, Mo.S]
    rw [O.gotS hk]
    split
    · exact kn (by omega) (by omega) (by omega) hw g
    · split
      · rename_i h
        exact ⟨⟨hf, by simp only; omega, hw⟩, fun _ e => by simp only at e; omega, fun _ _ => by simp only; omega, fun _ e => by simp only at e; omega, fun _ e => by simp only at e; omega, fun _ e => by simp only at e; omega⟩
      · split
        · exact kn hf (by omega) (by omega) hw g
        · exact kn hf (by omega) (by omega) hw g
  · refine ⟨g, by simp only [Mo.mem, if_neg h3, Mo.O]; exact O.load iO, Le.refl g, ?_⟩
    have hU : U64 (g (1 + f)) := O.gotO hk ▸ r.got _
    rcases hz : F.Plain.froz (g (1 + f)) with _ | _
    · have en : (Mo.mk f 1 wd w).next s = ⟨f, 2, wd, g (1 + f)⟩ := by simp [Mo.next, h3, Mo.O, O.gotO hk, hz]
      rw [en]
      exact ⟨⟨hf, by simp, hU⟩, fun _ _ => hz, fun _ e => by simp at e, fun _ e => by simp at e, fun _ e => by simp at e, fun _ e => by simp at e⟩
    · have en : (Mo.mk f 1 wd w).next s = ⟨f, 7, wd, g (1 + f)⟩ := by simp [Mo.next, h3, Mo.O, O.gotO hk, hz]
      rw [en]
      exact ⟨⟨hf, by simp, hU⟩, fun _ e => by simp at e, fun _ e => by simp at e, fun _ e => by simp at e, fun _ _ => ⟨hz, rfl⟩, fun _ e => by simp at e⟩
  · obtain ⟨g', O', L, _⟩ := O.oFrz hk (k2 hk rfl)
    exact ⟨g', by simp only [Mo.mem, if_neg h3, Mo.O]; exact O', L, by simp only [Mo.next, if_neg h3]; exact kn hf (by omega) (by omega) hw g'⟩
  · refine ⟨g, by simp only [Mo.mem, if_neg h3, Mo.S]; exact O.load iP, Le.refl g, ?_⟩
    simp only [Mo.next, if_neg h3, Mo.S]
    exact kn hf (by omega) (by omega) (r.got _) g
  · obtain ⟨g', O', L, _⟩ := O.pShut hk w
    exact ⟨g', by simp only [Mo.mem, if_neg h3, Mo.S]; exact O', L, by simp only [Mo.next, if_neg h3]; exact kn hf (by omega) (by omega) hw g'⟩
  · refine ⟨g, by simp only [Mo.mem, if_neg h3, Mo.S]; exact O.load iP, Le.refl g, ?_⟩
    simp only [Mo.next, if_neg h3, Mo.S]
    rw [O.gotP hk]
    exact ⟨⟨hf, by simp only; omega, (O.gotP hk ▸ r.got _)⟩, fun _ e => by simp only at e; omega, fun _ e => by simp only at e; omega, fun _ _ => ⟨k5 hk rfl, rfl⟩, fun _ e => by simp only at e; omega, fun _ e => by simp only at e; omega⟩
  · obtain ⟨a, b⟩ := k6 hk rfl
    obtain ⟨g', O', L, h17, _⟩ := O.fCas hk a b
    refine ⟨g', by simp only [Mo.mem, if_neg h3]; exact O', L, ?_⟩
    simp only [Mo.next, if_neg h3]
    exact ⟨⟨hf, by simp only; omega, hw⟩, fun _ e => by simp only at e; omega, fun _ e => by simp only at e; omega, fun _ e => by simp only at e; omega, fun _ e => by simp only at e; omega, fun _ _ => h17⟩
  · obtain ⟨a, b⟩ := k7 hk rfl
    obtain ⟨g', O', L, _⟩ := O.pIn hk a b
    exact ⟨g', by simp only [Mo.mem, if_neg h3, Mo.S]; exact O', L, by simp only [Mo.next, if_neg h3]; exact kn hf (by omega) (by omega) hw g'⟩
  · obtain ⟨g', O', L, _⟩ := O.fFin hk (k8 hk rfl) w
    exact ⟨g', by simp only [Mo.mem, if_neg h3, Mo.S]; exact O', L, by simp only [Mo.next, if_neg h3]; exact kn hf (by omega) (by omega) hw g'⟩
/-! ### an access's rank, while others step -/
theorem B_mono' {op op' : Bool} {st st' : Int} (h : st ≤ st') (hop : op' = true → op = true) : Bq op' st' ≤ Bq op st := by
  unfold Bq
  rcases op with _ | _ <;> rcases op' with _ | _
  · simp only [Bool.false_eq_true, if_false]; (repeat' split) <;> omega
  · exact absurd (hop rfl) (by decide)
  · simp only [Bool.false_eq_true, if_false, if_true]; (repeat' split) <;> omega
  · simp only [if_true]; (repeat' split) <;> omega
theorem rk_mono {st st' : Int} {op op' : Bool} (h : st ≤ st') (hop : op' = true → op = true) (x : Cw) : rk st' op' x ≤ rk st op x := by
  have b0 := B_mono' h hop
  obtain ⟨_, b1, b2, b3, b4⟩ := B_le op' st'
  obtain ⟨_, _, _, c3, c4⟩ := B_le op st
  have q : (if op' = true then 19 else 17) ≤ (if op = true then 19 else 17) := by
    rcases op with _ | _ <;> rcases op' with _ | _ <;> simp
    exact absurd (hop rfl) (by decide)
  have q1 : (if op = true then 19 else 17) = 19 ∨ (if op = true then 19 else 17) = 17 := by
    rcases op with _ | _ <;> simp
  cases x with
  | dr b x => exact Nat.le_refl _
  | a3 q wd => simp only [rk]; (repeat' split at *) <;> omega
  | _ => simp only [rk] <;> (repeat' split) <;> omega
theorem R_oth (O : Ob s g v) (L : Le g g') (hk : k < 3) (x : Cw) : Rk q k g' v' x ≤ Rk q k g v x + (if v' k = v k then 0 else 3) := by
  obtain ⟨l1, l2, _⟩ := L k hk
  have hop : opn g' k = true → opn g k = true := fun h => by
    unfold opn at h ⊢
    rcases hf : F.Plain.froz (g (1 + k)) with _ | _
    · rfl
    · rw [l2 hf, hf] at h; exact h
  have h1 := rk_mono l1 hop x
  unfold Rk
  by_cases e : v' k = v k
  · rw [if_pos e]
    have h2 : mis q k g' v' x = true → mis q k g v x = true := fun h => by
      cases x with
      | a4 q' wd w => simp only [mis, e, Bool.and_eq_true] at h ⊢; exact ⟨hop h.1, h.2⟩
      | a9 q' wd w => simp only [mis, e, Bool.and_eq_true, decide_eq_true_eq] at h ⊢; exact ⟨Int.le_trans l1 h.1, h.2⟩
      | dr b x => simp only [mis, e] at h ⊢; exact h
      | _ => exact h
    split
    · rename_i h; rw [if_pos (h2 h)]; omega
    · split <;> omega
  · rw [if_neg e]
    split <;> split <;> omega
end
end Go.Proofs.YtpcoldpphihfmaaGreatDoor

namespace Go.Proofs.YtpcoldpphihfmaaGreatDoor
set_option linter.unusedVariables false
set_option linter.unusedSimpArgs false
set_option maxRecDepth 100000
open H.Plain (hw pS pC pN pM pG pT pL mv)

section
variable {q q0 q1 : Wq} {k r r0 r1 : Nat} {g : Nat → Int} {old v : Nat → Vl} {s : St} {x x0 x1 : Cw} {m : Mo}
theorem done_next (h : x.done = true) (s : St) : x.next s = x ∧ x.mem s = s := by
  cases x with
  | fin b o => exact ⟨rfl, rfl⟩
  | _ => cases h
/-! ### a write -/
structure KG (old : Nat → Vl) (q : Wq) (k : Nat) (x : Cw) (m : Mo) (s : St) (r : Nat) : Prop where
  or_ : ∃ g v, Ob s g v ∧ Kn (fun _ => True) q k g x ∧ Km g m ∧ (x.done = false ∧ v = old ∨ x = Cw.wrote q ∧ v = updN old k q.r.y) ∧ Rk q k g v x ≤ r
theorem KG.sx (G : KG old q k x m s r) (A : Abt q k) (h2 : q.r.op = 2) : KG old q k (x.next s) m (x.mem s) (r - 1) := by
  obtain ⟨g, v, O, K, M, h | h, hr⟩ := G
  · obtain ⟨hd, rfl⟩ := h
    obtain ⟨g', v', O', L, K', E, hr', _⟩ := acc A O K hd fun _ => trivial
    refine ⟨g', v', O', K', M.le L, ?_, by omega⟩
    rcases E with ⟨rfl, e⟩ | ⟨_, b, w, e, _⟩ | ⟨rfl, _, _, e⟩
    · exact .inl ⟨e, rfl⟩
    · rcases e with e | e <;> omega
    · exact .inr ⟨e, rfl⟩
  · obtain ⟨rfl, rfl⟩ := h
    obtain ⟨e1, e2⟩ := done_next (x := Cw.wrote q) rfl s
    rw [e1, e2]
    exact ⟨g, _, O, K, M, .inr ⟨rfl, rfl⟩, Nat.zero_le _⟩
theorem KG.sm (G : KG old q k x m s r) (A : Abt q k) (hR : s.Rng) : KG old q k x (m.next s) (m.mem s) r := by
  obtain ⟨g, v, O, K, M, h, hr⟩ := G
  obtain ⟨g', O', L, M'⟩ := mov O M hR
  have := R_oth (q := q) (v' := v) O L A.lt x
  rw [if_pos rfl] at this
  exact ⟨g', v, O', K.le A.lt L fun _ h => h, M', h, by omega⟩
theorem KG.ok (G : KG old q k x m s r) : m.Ok := by obtain ⟨g, v, O, K, M, _⟩ := G; exact M.ok
theorem KG.fin (G : KG old q k x m s 0) : x = Cw.wrote q ∧ ∃ g, Ob s g (updN old k q.r.y) := by
  obtain ⟨g, v, O, K, M, ⟨hd, rfl⟩ | ⟨rfl, rfl⟩, hr⟩ := G
  · have := R_pos (v := v) K hd; omega
  · exact ⟨rfl, g, O⟩
/-! ### a read -/
structure RG (old : Nat → Vl) (q : Wq) (k : Nat) (x : Cw) (m : Mo) (s : St) (r : Nat) : Prop where
  or_ : ∃ g, Ob s g old ∧ Kn (fun w => Vl.of w = old k) q k g x ∧ Km g m ∧ (x.done = false ∨ ∃ b, x = .fin b ⟨0, old k, false⟩) ∧ rr (g (10 + 2 * k)) x ≤ r
theorem RG.sx (G : RG old q k x m s r) (A : Abt q k) (h1 : q.r.op = 1) : RG old q k (x.next s) m (x.mem s) (r - 1) := by
  obtain ⟨g, O, K, M, h, hr⟩ := G
  rcases hd : x.done with _ | _
  · obtain ⟨g', v', O', L, K', E, _, hr'⟩ := acc A O K hd fun _ => (O.ok k A.lt).of
    have hr' := hr' h1
    rcases E with ⟨rfl, e⟩ | ⟨rfl, b, w, e1, e2, e⟩ | ⟨_, h, _⟩
    · exact ⟨g', O', K', M.le L, .inl e, by omega⟩
    · refine ⟨g', O', K', M.le L, .inr ⟨b, ?_⟩, by omega⟩
      rw [e, Cw.tells, if_pos h1, e2]
    · exact absurd h1 h
  · obtain ⟨e1, e2⟩ := done_next hd s
    rw [e1, e2]
    refine ⟨g, O, K, M, h, ?_⟩
    obtain ⟨b, rfl⟩ := h.resolve_left (by rw [hd]; decide)
    exact Nat.zero_le _
theorem RG.sm (G : RG old q k x m s r) (A : Abt q k) (hR : s.Rng) : RG old q k x (m.next s) (m.mem s) r := by
  obtain ⟨g, O, K, M, h, hr⟩ := G
  obtain ⟨g', O', L, M'⟩ := mov O M hR
  exact ⟨g', O', K.le A.lt L fun _ h => h, M', h, Nat.le_trans (rr_mono (L k A.lt).1 x) hr⟩
theorem RG.ok (G : RG old q k x m s r) : m.Ok := by obtain ⟨g, O, K, M, _⟩ := G; exact M.ok
theorem RG.fin (G : RG old q k x m s 0) (h1 : q.r.op = 1) : ∃ b, x = .fin b ⟨0, old k, false⟩ := by
  obtain ⟨g, O, K, M, h | h, hr⟩ := G
  · have : 1 ≤ rr (g (10 + 2 * k)) x := by
      cases x with
      | fin b o => cases h
      | pl x => exact K.elim
      | dr b x =>
        obtain ⟨_, _, D⟩ := K
        rcases D with ⟨_, D⟩ | ⟨_, D⟩ | ⟨_, D | D | ⟨u, T, _, _, _, _, _, D | D⟩⟩ <;> simp [rr, D]
      | a4 q' wd w => exact absurd (.inl h1) K.2.2.2
      | a9 q' wd w => exact absurd (.inl h1) K.2.2.1
      | a12 q' wd w => exact absurd (.inl h1) K.2.2.2.2
      | a13 q' wd w l => exact absurd (.inl h1) K.2.2.2.2.1
      | a14 q' wd w => exact absurd (.inl h1) K.2.2.2.2.1
      | _ => simp only [rr, Br] <;> (repeat' split) <;> omega
    omega
  · exact h
theorem RG.ob (G : RG old q k x m s r) : ∃ g, Ob s g old := by obtain ⟨g, O, _⟩ := G; exact ⟨g, O⟩
/-! ### two Swaps -/
/-- one is done, the other is beaten -/
structure Won (old : Nat → Vl) (q0 q1 : Wq) (x0 x1 : Cw) (m : Mo) (s : St) (r1 : Nat) : Prop where
  or_ : ∃ g v, Ob s g v ∧ v 0 = q0.r.y ∧ Km g m ∧ x0 = Cw.wrote q0 ∧ Kn (fun _ => True) q1 0 g x1 ∧ (x1.done = false ∨ ∃ b, x1 = .fin b Ou.zero) ∧ Rk q1 0 g v x1 ≤ r1
structure Yet (old : Nat → Vl) (q0 q1 : Wq) (x0 x1 : Cw) (m : Mo) (s : St) (r0 r1 : Nat) : Prop where
  or_ : ∃ g, Ob s g old ∧ Km g m ∧ x0.done = false ∧ x1.done = false ∧ Kn (fun _ => False) q0 0 g x0 ∧ Kn (fun _ => False) q1 0 g x1 ∧ Rk q0 0 g old x0 + 3 ≤ r0 ∧ Rk q1 0 g old x1 + 3 ≤ r1
/-- what both are asked -/
structure Both (old : Nat → Vl) (q0 q1 : Wq) : Prop where
  a0 : Abt q0 0
  a1 : Abt q1 0
  o0 : q0.r.op = 3
  o1 : q1.r.op = 3
  x0 : q0.r.x = old 0
  x1 : q1.r.x = old 0
  n0 : q0.r.y ≠ old 0
  n1 : q1.r.y ≠ old 0
theorem Both.flip (B : Both old q0 q1) : Both old q1 q0 := ⟨B.a1, B.a0, B.o1, B.o0, B.x1, B.x0, B.n1, B.n0⟩
theorem Yet.flip (G : Yet old q0 q1 x0 x1 m s r0 r1) : Yet old q1 q0 x1 x0 m s r1 r0 := by
  obtain ⟨g, O, M, d0, d1, K0, K1, h0, h1⟩ := G
  exact ⟨g, O, M, d1, d0, K1, K0, h1, h0⟩
/-- the first one steps, and none is done -/
theorem Yet.sx (G : Yet old q0 q1 x0 x1 m s r0 r1) (B : Both old q0 q1) : Yet old q0 q1 (x0.next s) x1 m (x0.mem s) (r0 - 1) r1 ∨ Won old q0 q1 (x0.next s) x1 m (x0.mem s) r1 := by
  obtain ⟨g, O, M, d0, d1, K0, K1, h0, h1⟩ := G
  obtain ⟨g', v', O', L, K', E, hr, _⟩ := acc B.a0 O K0 d0 fun h => by
    rcases h with h | ⟨_, h⟩
    · have := B.o0; omega
    · exact h (by rw [(O.ok 0 (by decide)).of, B.x0])
  have ho := R_oth (q := q1) (v' := v') O L (show 0 < 3 by decide) x1
  rcases E with ⟨rfl, e⟩ | ⟨_, b, w, _, e, _⟩ | ⟨rfl, _, _, e⟩
  · rw [if_pos rfl] at ho
    exact .inl ⟨g', O', M.le L, e, d1, K', K1.le (by decide) L fun _ h => h, by omega, by omega⟩
  · exact e.elim
  · refine .inr ⟨g', _, O', updN_at _ _ _, M.le L, e, K1.le (by decide) L fun _ h => trivial, .inl d1, ?_⟩
    split at ho <;> omega
theorem Yet.sm (G : Yet old q0 q1 x0 x1 m s r0 r1) (hR : s.Rng) : Yet old q0 q1 x0 x1 (m.next s) (m.mem s) r0 r1 := by
  obtain ⟨g, O, M, d0, d1, K0, K1, h0, h1⟩ := G
  obtain ⟨g', O', L, M'⟩ := mov O M hR
  have e0 := R_oth (q := q0) (v' := old) O L (show 0 < 3 by decide) x0
  have e1 := R_oth (q := q1) (v' := old) O L (show 0 < 3 by decide) x1
  rw [if_pos rfl] at e0 e1
  exact ⟨g', O', M', d0, d1, K0.le (by decide) L fun _ h => h, K1.le (by decide) L fun _ h => h, by omega, by omega⟩
/-- the beaten one steps -/
theorem Won.sx (G : Won old q0 q1 x0 x1 m s r1) (B : Both old q0 q1) : Won old q0 q1 x0 (x1.next s) m (x1.mem s) (r1 - 1) := by
  obtain ⟨g, v, O, hv, M, e0, K, h, hr⟩ := G
  rcases hd : x1.done with _ | _
  · obtain ⟨g', v', O', L, K', E, hr', _⟩ := acc B.a1 O K hd fun _ => trivial
    rcases E with ⟨rfl, e⟩ | ⟨rfl, b, w, _, _, e⟩ | ⟨_, _, e, _⟩
    · exact ⟨g', _, O', hv, M.le L, e0, K', .inl e, by omega⟩
    · refine ⟨g', _, O', hv, M.le L, e0, K', .inr ⟨b, ?_⟩, by omega⟩
      rw [e, Cw.tells, if_neg (by have := B.o1; omega)]
    · exact absurd (hv.symm.trans ((e B.o1).trans B.x1)) B.n0
  · obtain ⟨e1, e2⟩ := done_next hd s
    rw [e1, e2]
    obtain ⟨b, rfl⟩ := h.resolve_left (by rw [hd]; decide)
    exact ⟨g, v, O, hv, M, e0, K, .inr ⟨b, rfl⟩, Nat.zero_le _⟩
theorem Won.w (G : Won old q0 q1 x0 x1 m s r1) : Won old q0 q1 (x0.next s) x1 m (x0.mem s) r1 := by
  obtain ⟨g, v, O, hv, M, e0, K, h, hr⟩ := G
  subst e0
  obtain ⟨e1, e2⟩ := done_next (x := Cw.wrote q0) rfl s
  rw [e1, e2]
  exact ⟨g, v, O, hv, M, rfl, K, h, hr⟩
theorem Won.sm (G : Won old q0 q1 x0 x1 m s r1) (hR : s.Rng) : Won old q0 q1 x0 x1 (m.next s) (m.mem s) r1 := by
  obtain ⟨g, v, O, hv, M, e0, K, h, hr⟩ := G
  obtain ⟨g', O', L, M'⟩ := mov O M hR
  have e1 := R_oth (q := q1) (v' := v) O L (show 0 < 3 by decide) x1
  rw [if_pos rfl] at e1
  exact ⟨g', v, O', hv, M', e0, K.le (by decide) L fun _ h => h, h, by omega⟩
theorem Won.fin (G : Won old q0 q1 x0 x1 m s 0) : x0 = Cw.wrote q0 ∧ (∃ b, x1 = .fin b Ou.zero) ∧ ∃ g v, Ob s g v ∧ v 0 = q0.r.y := by
  obtain ⟨g, v, O, hv, M, e0, K, h | h, hr⟩ := G
  · have := R_pos (v := v) K h; omega
  · exact ⟨e0, h, g, v, O, hv⟩
/-- the game of both -/
def SG (old : Nat → Vl) (q0 q1 : Wq) (x0 x1 : Cw) (m : Mo) (s : St) (r0 r1 : Nat) : Prop :=
  Yet old q0 q1 x0 x1 m s r0 r1 ∨ Won old q0 q1 x0 x1 m s r1 ∨ Won old q1 q0 x1 x0 m s r0
theorem SG.flip (G : SG old q0 q1 x0 x1 m s r0 r1) : SG old q1 q0 x1 x0 m s r1 r0 := by
  rcases G with h | h | h
  · exact .inl h.flip
  · exact .inr (.inr h)
  · exact .inr (.inl h)
theorem SG.sx (G : SG old q0 q1 x0 x1 m s r0 r1) (B : Both old q0 q1) : SG old q0 q1 (x0.next s) x1 m (x0.mem s) (r0 - 1) r1 := by
  rcases G with h | h | h
  · rcases h.sx B with h | h
    · exact .inl h
    · exact .inr (.inl h)
  · exact .inr (.inl h.w)
  · exact .inr (.inr (h.sx B.flip))
theorem SG.sm (G : SG old q0 q1 x0 x1 m s r0 r1) (hR : s.Rng) : SG old q0 q1 x0 x1 (m.next s) (m.mem s) r0 r1 := by
  rcases G with h | h | h
  · exact .inl (h.sm hR)
  · exact .inr (.inl (h.sm hR))
  · exact .inr (.inr (h.sm hR))
theorem SG.fin (G : SG old q0 q1 x0 x1 m s 0 0) : (x0 = Cw.wrote q0 ∧ (∃ b, x1 = .fin b Ou.zero) ∧ ∃ g v, Ob s g v ∧ v 0 = q0.r.y) ∨ (x1 = Cw.wrote q1 ∧ (∃ b, x0 = .fin b Ou.zero) ∧ ∃ g v, Ob s g v ∧ v 0 = q1.r.y) := by
  rcases G with h | h | h
  · obtain ⟨g, O, M, d0, d1, K0, K1, h0, h1⟩ := h; omega
  · exact .inl h.fin
  · exact .inr h.fin
end
end Go.Proofs.YtpcoldpphihfmaaGreatDoor
