/-
  Three that shade and one that takes: that all come to an end. No program in sight.
-/
import Derived.Test.YtkgmfnllhjedpaaDoorGx
namespace Go.Proofs.YtkgmfnllhjedpaaDoor
set_option linter.unusedVariables false
set_option maxRecDepth 100000

def pd (o : Option ShadeS) : Nat := if o.isSome then 1 else 0
/-- how many others are under way -/
def oth (jb : Nat → Option ShadeS) (j : Nat) : Nat := (if 0 = j then 0 else pd (jb 0)) + (if 1 = j then 0 else pd (jb 1)) + (if 2 = j then 0 else pd (jb 2))
theorem pd_le (o : Option ShadeS) : pd o ≤ 1 := by unfold pd; split <;> omega
theorem pd_some {o : Option ShadeS} {y : ShadeS} (h : o = some y) : pd o = 1 := by simp [pd, h]
theorem oth_le (jb : Nat → Option ShadeS) {j : Nat} (hj : j < 3) : oth jb j ≤ 2 := by
  have := pd_le (jb 0)
  have := pd_le (jb 1)
  have := pd_le (jb 2)
  unfold oth
  match j, hj with
  | 0, _ => simp; omega
  | 1, _ => simp; omega
  | 2, _ => simp; omega
/-- one of the others has stepped -/
theorem oth_upd {jb : Nat → Option ShadeS} {j k : Nat} {o : Option ShadeS} (hk : k < 3) (hkj : k ≠ j) : oth (upd jb k o) j + pd (jb k) = oth jb j + pd o := by
  unfold oth
  match k, hk with
  | 0, _ => rw [upd_same, upd_other jb _ (show 1 ≠ 0 by omega), upd_other jb _ (show 2 ≠ 0 by omega), if_neg hkj, if_neg hkj]; omega
  | 1, _ => rw [upd_same, upd_other jb _ (show 0 ≠ 1 by omega), upd_other jb _ (show 2 ≠ 1 by omega), if_neg hkj, if_neg hkj]; omega
  | 2, _ => rw [upd_same, upd_other jb _ (show 0 ≠ 2 by omega), upd_other jb _ (show 1 ≠ 2 by omega), if_neg hkj, if_neg hkj]; omega
theorem oth_self {jb : Nat → Option ShadeS} {j : Nat} {o : Option ShadeS} (hj : j < 3) : oth (upd jb j o) j = oth jb j := by
  unfold oth
  match j, hj with
  | 0, _ => rw [upd_other jb _ (show 1 ≠ 0 by omega), upd_other jb _ (show 2 ≠ 0 by omega)]; simp
  | 1, _ => rw [upd_other jb _ (show 0 ≠ 1 by omega), upd_other jb _ (show 2 ≠ 1 by omega)]; simp
  | 2, _ => rw [upd_other jb _ (show 0 ≠ 2 by omega), upd_other jb _ (show 1 ≠ 2 by omega)]; simp
/-- behind the picks: d rounds are gone, and k's turn it is -/
structure Lv (s : St) (jb : Nat → Option ShadeS) (x : NextS) (ow : Int → Nat) (d k : Nat) : Prop where
  gone : ∀ j, j < 3 → Gone jb ow j
  fin : ∀ j, j < 3 → ∀ y, jb j = some y → rt j (cdS s ow y) (cdN s x) k + 64 * oth jb j + d ≤ 192
  psi : 4 * Psi s ow jb x + (3 - (k : Int)) + d ≤ 303 ∨ (Psi s ow jb x ≤ 21 ∧ d ≤ 192) ∨ Psi s ow jb x ≤ 0
section
variable {s s' : St} {jb : Nat → Option ShadeS} {x x' : NextS} {l l' : List Int} {v v' j d k : Nat} {ow ow' : Int → Nat} {f g g' : Nat → Bool} {y y' : ShadeS}
theorem Lv.start (h : Gi s jb x l v ow f g) (hg : ∀ j, j < 3 → Gone jb ow j) : Lv s jb x ow 0 0 :=
  ⟨hg, fun j hj y e => by have := rt_le j (cdS s ow y) (cdN s x) 0; have := oth_le jb hj; omega, .inl (by have := h.top; omega)⟩
/-- a thread with nothing to do -/
theorem Lv.idle (h : Lv s jb x ow d k) (H : Gi s jb x l v ow f g) (hk : k < 3) (e : jb k = none) : Lv s jb x ow (d + 1) (k + 1) := by
  refine ⟨h.gone, fun j hj y ey => ?_, ?_⟩
  · have hkj : k ≠ j := fun q => by subst q; rw [e] at ey; cases ey
    have := h.fin j hj y ey
    have := (rt_other hj (cdS_b s ow (H.sh j hj y ey).1.pos) (cdN_lt s x) hk hkj).1
    omega
  · rcases h.psi with q | q | q
    · left; omega
    · by_cases d192 : d < 192
      · right; left; exact ⟨q.1, by omega⟩
      · left; omega
    · right; right; exact q
theorem Lv.shade (h : Lv s jb x ow d k) (H : Gi s jb x l v ow f g) (hk : k < 3) (e : jb k = some y) (D : Did s jb x v ow f g k y s' y' l' v' ow') : Lv s' (upd jb k (keepS y')) x ow' (d + 1) (k + 1) := by
  have gk := h.gone k hk
  refine ⟨fun j hj => ?_, fun j hj z ez => ?_, ?_⟩
  · by_cases q : j = k
    · subst q; exact D.gone
    · exact D.gones j q (h.gone j hj)
  · by_cases q : j = k
    · subst q
      rw [upd_same] at ez
      have y0 : y'.pc ≠ 0 := fun k0 => by rw [keepS_none k0] at ez; cases ez
      rw [keepS_some y0] at ez
      obtain rfl := Option.some.inj ez
      obtain ⟨c1, c2⟩ := D.self gk y0
      have hp := (H.sh j hj y e).1.pos
      have cb := cdS_b s ow hp
      have cb' := cdS_b s' ow' (D.gi.sh j hj y' (by rw [upd_same, keepS_some y0])).1.pos
      have := h.fin j hj y e
      have := rt_self hj cb (cdN_lt s x) (by rw [← c1]; omega)
      rw [c1, c2, oth_self hj]
      omega
    · rw [upd_other jb _ q] at ez
      have f0 := h.fin j hj z ez
      have cb := cdS_b s ow (H.sh j hj z ez).1.pos
      have pos := rt_pos hj cb (cdN_lt s x) (show k < 4 by omega)
      have ou := oth_upd (jb := jb) (o := keepS y') hk (Ne.symm q)
      rw [pd_some e] at ou
      rcases D.others j hj q z ez with c0 | ⟨c1, c2⟩
      · rw [keepS_none c0] at ou ⊢
        have : pd (none : Option ShadeS) = 0 := rfl
        have := rt_le j (cdS s' ow' z) (cdN s' x) (k + 1)
        omega
      · have := pd_le (keepS y')
        have ro := rt_other hj cb (cdN_lt s x) hk (Ne.symm q)
        rw [c1]
        rcases c2 with c2 | ⟨c2, c3⟩
        · rw [c2]; have := ro.1; omega
        · rw [c3]; have := ro.2 c2; omega
  · have := D.psi gk
    rcases h.psi with q | q | q
    · left; omega
    · by_cases d192 : d < 192
      · right; left; exact ⟨by omega, by omega⟩
      · left; omega
    · right; right; omega
theorem Lv.took (h : Lv s jb x ow d 3) (H : Gi s jb x l v ow f g) (D : Took s jb x l v ow f g s' x' l' v' ow' g') : Lv s' jb (keepN x') ow' (d + 1) 0 := by
  refine ⟨fun j hj => D.gones j (h.gone j hj), fun j hj z ez => ?_, ?_⟩
  · have f0 := h.fin j hj z ez
    have cb := cdS_b s ow (H.sh j hj z ez).1.pos
    obtain ⟨r0, r1, r2, r3, r4, r5⟩ := rt_next hj cb (cdN_lt s x)
    have cc := D.codes j hj z ez
    rcases D.next with ⟨a, b | b⟩ | ⟨a, b⟩ | ⟨a, b⟩ | ⟨a, b⟩ | ⟨a, b⟩ | ⟨a, b⟩
    · rw [if_neg (by omega)] at cc; rw [cc, b]; have := (r0 a).1; omega
    · rw [if_neg (by omega)] at cc; rw [cc, b]; have := (r0 a).2; omega
    · rw [if_neg (by omega)] at cc; rw [cc, b]; have := r1 a; omega
    · rw [if_neg (by omega)] at cc; rw [cc, b]; have := r2 a; omega
    · rw [if_pos a] at cc; rw [cc, b]; have := r3 a; omega
    · rw [if_neg (by omega)] at cc; rw [cc, b]; have := r4 a; omega
    · rw [if_neg (by omega)] at cc; rw [cc, b]; have := r5 a; omega
  · rcases D.psi with p | ⟨p1, p2⟩
    · rcases h.psi with q | q | q
      · left; omega
      · by_cases d192 : d < 192
        · right; left; exact ⟨by omega, by omega⟩
        · left; omega
      · right; right; omega
    · have hn := D.gi.none_on p1
      have a0 : aN (cdN s' (keepN x')) = 0 := by rw [p2]; rfl
      by_cases d192 : d < 192
      · right; left; unfold Psi; exact ⟨by omega, by omega⟩
      · right; right
        have none : ∀ j, j < 3 → jb j = none := fun j hj => by
          rcases ej : jb j with _ | z
          · rfl
          · have := h.fin j hj z ej
            have := rt_pos hj (cdS_b s ow (H.sh j hj z ej).1.pos) (cdN_lt s x) (show 3 < 4 by omega)
            omega
        have := hn.2 none
        unfold Psi
        omega
/-- at the end all that were asked for are told -/
theorem Lv.end_ (h : Lv s jb x ow d k) (H : Gi s jb x l v ow f g) (hd : 300 ≤ d) (hk : k < 4) : ∀ a, a < 160 → f a = g a := by
  have none : ∀ j, j < 3 → jb j = none := fun j hj => by
    rcases ej : jb j with _ | z
    · rfl
    · have := h.fin j hj z ej
      omega
  have p0 : Psi s ow jb x ≤ 0 := by
    rcases h.psi with q | q | q
    · omega
    · omega
    · exact q
  have nn := Ps_nn ow jb
  have l0 : l = [] := by
    rcases l with _ | ⟨c, r⟩
    · rfl
    · exfalso
      have hc := H.co.objs c (by simp)
      have o1 := (H.co.on c hc).2 (by simp)
      obtain ⟨i, hi, ei⟩ := hdr_ad hc
      have z : ∀ n, sumN (fun _ => (0 : Int)) n = 0 := fun n => by induction n with | zero => rfl | succ n ih => simp [sumN, ih]
      have : sumN (fun _ => (0 : Int)) 16 + 4 ≤ Ps ow jb := sumN_lt (k := i) 16 hi (fun i _ => og_nn _ _ _) (by unfold og; rw [ei, o1, if_pos rfl]; omega)
      rw [z] at this
      have := aN_b (cdN s x)
      unfold Psi at p0
      omega
  have hx := H.nx
  have pcs := hx.pos
  have x1 : x.pc = 1 := by
    rcases (show x.pc = 1 ∨ (2 ≤ x.pc ∧ x.pc ≤ 3) ∨ x.pc = 4 by omega) with q | q | q
    · exact q
    · obtain ⟨c, u, _, _, _, a1, _⟩ := hx.two q.1
      have := (a1 q.2).1
      rw [l0] at this
      simp at this
    · have : cdN s x = 5 := by simp [cdN, q]
      unfold Psi at p0
      rw [this] at p0
      change Ps ow jb + 1 ≤ 0 at p0
      omega
  intro a ha
  have key : f a = true ↔ g a = true := by
    rw [H.asked a ha, H.told a ha]
    constructor
    · rintro ⟨h1, h2⟩
      refine ⟨h1, ?_⟩
      rcases h2 with h2 | ⟨j, hj, z, e, _⟩
      · have := H.le a h1
        have n1 : ow a ≠ 1 := fun e => by have := (H.co.on a h1).1 e; rw [l0] at this; simp at this
        have n5 : ow a ≠ 5 := fun e => by have := (H.hd a h1 e).1; omega
        have n2 : ¬ (2 ≤ ow a ∧ ow a ≤ 4) := fun e => by
          obtain ⟨z, e1, _⟩ := H.cl a h1 (ow a - 2) (by omega) (by omega)
          rw [none _ (by omega)] at e1
          cases e1
        omega
      · rw [none j hj] at e; cases e
    · rintro ⟨h1, h2⟩
      exact ⟨h1, .inl (by omega)⟩
  rcases hf : f a with _ | _
  · rcases hg : g a with _ | _
    · rfl
    · have := key.2 hg; rw [hf] at this; cases this
  · rw [key.1 hf]
end
end Go.Proofs.YtkgmfnllhjedpaaDoor
