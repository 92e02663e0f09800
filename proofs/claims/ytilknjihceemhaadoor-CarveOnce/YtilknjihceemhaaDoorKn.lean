/-
  Three takers on one list of blocks, said plainly: each block that was taken is one taker's, or told; whoever takes comes to an end. No program in sight.
-/
import Derived.Test.YtilknjihceemhaaDoorKu
namespace Go.Proofs.YtilknjihceemhaaDoor
set_option linter.unusedVariables false
open S.Plain (t0 t1 tw nx bw b0 b1 b2 b3)
open H.Plain (hw pL)

def sum3 (f : Nat → Nat) : Nat := f 0 + f 1 + f 2
theorem sum3_one {f g : Nat → Nat} {k : Nat} (hk : k < 3) (h : ∀ j, j < 3 → j ≠ k → f j = g j) : sum3 f + g k = sum3 g + f k := by
  have h0 := h 0 (by omega); have h1 := h 1 (by omega); have h2 := h 2 (by omega)
  unfold sum3
  match k, hk with
  | 0, _ => have := h1 (by omega); have := h2 (by omega); omega
  | 1, _ => have := h0 (by omega); have := h2 (by omega); omega
  | 2, _ => have := h0 (by omega); have := h1 (by omega); omega
theorem sum3_ge {f : Nat → Nat} {k : Nat} (hk : k < 3) : f k ≤ sum3 f := by
  unfold sum3
  match k, hk with
  | 0, _ => omega
  | 1, _ => omega
  | 2, _ => omega
def upd {α : Type} (f : Nat → α) (k : Nat) (v : α) : Nat → α := fun i => if i = k then v else f i
theorem upd_eq {α : Type} (f : Nat → α) (k : Nat) (v : α) : upd f k v k = v := if_pos rfl
theorem upd_ne {α : Type} (f : Nat → α) {k i : Nat} (v : α) (h : i ≠ k) : upd f k v i = f i := if_neg h
def sum8 (f : Nat → Nat) : Nat := f 0 + f 1 + f 2 + f 3 + f 4 + f 5 + f 6 + f 7
theorem sum8_upd {f : Nat → Nat} {a v : Nat} (ha : a < 8) : sum8 (upd f a v) + f a = sum8 f + v := by
  unfold sum8 upd
  match a, ha with
  | 0, _ => simp; omega
  | 1, _ => simp; omega
  | 2, _ => simp; omega
  | 3, _ => simp; omega
  | 4, _ => simp; omega
  | 5, _ => simp; omega
  | 6, _ => simp; omega
  | 7, _ => simp; omega
/-- does a taker have the block a -/
def hold (o : Option TakeS) (a : Nat) : Nat :=
  match o with
  | some x => if 4 ≤ x.pc ∧ t0 x.seen = (a : Int) + 1 then 1 else 0
  | none => 0
/-- a taker under way -/
structure Job (n : Nat) (s : St) (j k : Nat) (x : TakeS) : Prop where
  K : Tk 3 n k 0 x
  p1 : 1 ≤ x.pc
  p6 : x.pc ≤ 6
  see : 2 ≤ x.pc → ∃ a : Nat, a < n ∧ a ≤ j ∧ x.seen = tw ((a : Int) + 1) a ∧ (4 ≤ x.pc → a < j) ∧ (x.pc = 3 → a = j → x.raw = bw 0 0 0 (nextOf n a))
  k5 : x.pc = 5 → 0 ≤ x.k ∧ x.k + 1 < P.Plain.cs k
  pu : x.pc = 6 → x.push.hd = 3 + k ∧ 10 + (3 : Int) + n ≤ x.push.lst ∧ s.In x.push.lst ∧ 1 ≤ x.push.pc ∧ x.push.pc ≤ 3 ∧ (2 ≤ x.push.pc → x.push.seen = s.word (3 + k))
structure Game (n : Nat) (s : St) (j : Nat) (jb : Nat → Option TakeS) (nn : Nat → Bool) (T : Nat → Nat) : Prop where
  fr : Fr 3 n s (upto j n) j
  n8 : n ≤ 8
  jn : j ≤ n
  job : ∀ k, k < 3 → ∀ x, jb k = some x → Job n s j k x
  cnt : ∀ a, a < 8 → T a + sum3 (fun k => hold (jb k) a) = if a < j then 1 else 0
  nn : ∀ k, k < 3 → nn k = true → jb k = none ∧ j = n
/-- how far a taker is from its end, at most -/
def loc (s : St) (k : Nat) (o : Option TakeS) : Nat :=
  match o with
  | none => 4
  | some x => match x.pc with
    | 1 => 4
    | 2 => if x.seen = s.word 2 then 3 else 7
    | 3 => if x.seen = s.word 2 then 2 else 6
    | 4 => 15
    | 5 => (P.Plain.cs k + 6 - x.k).toNat
    | 6 => 8 - x.push.pc
    | _ => 4
def pot (n : Nat) (s : St) (j k : Nat) (o : Option TakeS) : Nat := 20 * (n - j) + loc s k o
section
variable {n : Nat} {s s' : St} {j j' k : Nat} {jb : Nat → Option TakeS} {nn : Nat → Bool} {T : Nat → Nat} {x : TakeS}
theorem cs_k {k : Nat} (hk : k < 3) : 2 ≤ P.Plain.cs k ∧ P.Plain.cs k ≤ 8 := cs_bounds (by omega) (by omega)
theorem loc_le (hk : k < 3) (h : ∀ x, jb k = some x → Job n s j k x) : loc s k (jb k) ≤ 15 := by
  unfold loc
  split
  · omega
  · rename_i x e
    have J := h x e
    have cb := cs_k hk
    split
    · omega
    · split <;> omega
    · split <;> omega
    · omega
    · rename_i h5
      have := (J.k5 h5).1
      omega
    · omega
    · omega
/-- another's job goes on as it was -/
theorem Job.keep (J : Job n s j k x) (hj : j ≤ j') (hl : s'.ws.length = s.ws.length) (hw : s'.word (3 + k) = s.word (3 + k)) : Job n s' j' k x where
  K := J.K
  p1 := J.p1
  p6 := J.p6
  see := fun h => by
    obtain ⟨a, a1, a2, a3, a4, a5⟩ := J.see h
    exact ⟨a, a1, by omega, a3, fun h4 => by have := a4 h4; omega, fun h3 e => a5 h3 (by omega)⟩
  k5 := J.k5
  pu := fun h => by
    obtain ⟨q1, q2, q3, q4, q5, q6⟩ := J.pu h
    exact ⟨q1, q2, q3.len hl, q4, q5, fun h2 => (q6 h2).trans hw.symm⟩
theorem loc_keep (h2 : s'.word 2 = s.word 2) (o : Option TakeS) : loc s' k o = loc s k o := by unfold loc; simp only [h2]
theorem loc_turn (s s' : St) (o : Option TakeS) : loc s' k o ≤ loc s k o + 4 := by
  unfold loc
  split
  · omega
  · split <;> (try split) <;> (try split) <;> omega
/-- a quiet turn: no block is taken -/
theorem Game.quiet (h : Game n s j jb nn T) (hk : k < 3) (hn : nn k = false) {o : Option TakeS} (F : Fr 3 n s' (upto j n) j) (hw : ∀ i, i < 3 → i ≠ k → s'.word (3 + i) = s.word (3 + i)) (h2 : s'.word 2 = s.word 2) (hJ : ∀ y, o = some y → Job n s' j k y)
    (hh : ∀ a, hold o a = hold (jb k) a) (hp : loc s' k o < loc s k (jb k)) :
    Game n s' j (upd jb k o) nn T ∧ pot n s' j k o < pot n s j k (jb k) ∧ ∀ i, i < 3 → i ≠ k → pot n s' j i (jb i) ≤ pot n s j i (jb i) := by
  refine ⟨⟨F, h.n8, h.jn, ?_, ?_, ?_⟩, by unfold pot; omega, fun i _ _ => by unfold pot; rw [loc_keep h2]; exact Nat.le_refl _⟩
  · intro i hi y hy
    by_cases e : i = k
    · subst e; rw [upd_eq] at hy; exact hJ y hy
    · rw [upd_ne _ _ e] at hy
      exact (h.job i hi y hy).keep (Nat.le_refl _) (F.len.trans h.fr.len.symm) (hw i hi e)
  · intro a ha
    rw [← h.cnt a ha]
    have := sum3_one (f := fun i => hold (upd jb k o i) a) (g := fun i => hold (jb i) a) hk fun i _ hik => by simp only [upd_ne _ _ hik]
    simp only [upd_eq, hh] at this
    omega
  · intro i hi he
    by_cases e : i = k
    · subst e; rw [hn] at he; exact absurd he (by decide)
    · rw [upd_ne _ _ e]; exact h.nn i hi he
/-- what comes of a taker's step -/
inductive Out (n : Nat) (s s' : St) (j k : Nat) (jb : Nat → Option TakeS) (nn : Nat → Bool) (T : Nat → Nat) (x' : TakeS) : Prop
  | go (j' : Nat) (p : (x'.pc == 0) = false) (g : Game n s' j' (upd jb k (some x')) nn T) (d : pot n s' j' k (some x') < pot n s j k (jb k)) (o : ∀ i, i < 3 → i ≠ k → pot n s' j' i (jb i) ≤ pot n s j i (jb i)) : Out n s s' j k jb nn T x'
  | no (p : (x'.pc == 0) = true) (c : x'.cell = 0) (g : Game n s' j (upd jb k none) (upd nn k true) T) (o : ∀ i, i < 3 → i ≠ k → pot n s' j i (jb i) ≤ pot n s j i (jb i)) : Out n s s' j k jb nn T x'
  | got (a : Nat) (ha : a < n) (p : (x'.pc == 0) = true) (c : x'.cell = cel 3 n a k 0) (h0 : T a = 0) (g : Game n s' j (upd jb k none) nn (upd T a 1)) (d : pot n s' j k none < pot n s j k (jb k)) (o : ∀ i, i < 3 → i ≠ k → pot n s' j i (jb i) ≤ pot n s j i (jb i)) : Out n s s' j k jb nn T x'
theorem hold_none (a : Nat) : hold none a = 0 := rfl
theorem hold_low {x : TakeS} (h : x.pc < 4) (a : Nat) : hold (some x) a = 0 := if_neg fun h' => by omega
/-- a taker whose next step is the first -/
theorem game1 (h : Game n s j jb nn T) (hk : k < 3) (hn : nn k = false) (K : Tk 3 n k 0 x) (hp : x.pc = 1) (hl : loc s k (jb k) = 4) (hh : ∀ a, hold (jb k) a = 0) :
    Out n s (x.mem s) j k jb nn T (x.next s) := by
  obtain ⟨a1, a2⟩ := take1 h.fr hp
  have F' : Fr 3 n (x.mem s) (upto j n) j := a2 ▸ h.fr.load h.fr.two
  have W : ∀ b, (x.mem s).word b = s.word b := fun b => by rw [a2]; rfl
  have n64 := h.fr.n64
  by_cases e : j < n
  · have hne : upto j n ≠ [] := by rw [upto_cons e]; simp
    rw [if_neg hne] at a1
    have hs : (x.next s).seen = tw ((j : Int) + 1) j := by rw [a1, upto_cons e]; rfl
    have hpc : (x.next s).pc = 2 := by rw [a1]
    obtain ⟨q1, q2, q3⟩ := h.quiet (o := some (x.next s)) hk hn F' (fun i _ _ => W _) (W 2) (fun y hy => by
      obtain rfl := Option.some.inj hy
      exact ⟨by rw [a1]; exact ⟨K.pl, K.cls, K.set⟩, by omega, by omega, fun _ => ⟨j, e, Nat.le_refl _, hs, fun h4 => by omega, fun h3 _ => by omega⟩, fun h5 => by omega, fun h6 => by omega⟩) (fun a => by rw [hh, hold_low (by omega)]) (by
      rw [hl]
      have : loc (x.mem s) k (some (x.next s)) = 3 := by
        unfold loc
        simp only [hpc]
        rw [if_pos (by rw [hs, W, h.fr.head, upto_cons e]; rfl)]
      omega)
    exact .go j (by rw [hpc]; rfl) q1 q2 q3
  · have hjn : j = n := by have := h.jn; omega
    have hnil : upto j n = [] := by rw [hjn, upto_nil]
    rw [if_pos hnil] at a1
    have hpc : (x.next s).pc = 0 := by rw [a1]
    have hc : (x.next s).cell = 0 := by
      unfold TakeS.cell
      refine if_neg fun hh => hh.2 ?_
      rw [a1, hnil]
      exact t0_small (by simp [hd1]) (by simp [hd1]) _
    refine .no (by rw [hpc]; rfl) hc ⟨F', h.n8, h.jn, ?_, ?_, ?_⟩ fun i _ _ => by unfold pot; rw [loc_keep (W 2)]; exact Nat.le_refl _
    · intro i hi y hy
      by_cases e : i = k
      · subst e; rw [upd_eq] at hy; exact absurd hy (by simp)
      · rw [upd_ne _ _ e] at hy
        exact (h.job i hi y hy).keep (Nat.le_refl _) (F'.len.trans h.fr.len.symm) (W _)
    · intro a ha
      rw [← h.cnt a ha]
      have := sum3_one (f := fun i => hold (upd jb k none i) a) (g := fun i => hold (jb i) a) hk fun i _ hik => by simp only [upd_ne _ _ hik]
      simp only [upd_eq, hh, hold_none] at this
      omega
    · intro i hi he
      by_cases e : i = k
      · subst e; exact ⟨upd_eq _ _ _, hjn⟩
      · rw [upd_ne _ _ e] at he ⊢; exact h.nn i hi he
theorem hold_same {x y : TakeS} (hx : 4 ≤ x.pc) (hy : 4 ≤ y.pc) (h : y.seen = x.seen) (a : Nat) : hold (some y) a = hold (some x) a := by simp only [hold, h, hx, hy, true_and]
theorem game2 (h : Game n s j jb nn T) (hk : k < 3) (hn : nn k = false) (hb : jb k = some x) (hp : x.pc = 2) : Out n s (x.mem s) j k jb nn T (x.next s) := by
  have J := h.job k hk x hb
  obtain ⟨a, a1, a2, a3, _, _⟩ := J.see (by omega)
  obtain ⟨e1, e2⟩ := take2 h.fr J.K hp a3 a1
  have F' : Fr 3 n (x.mem s) (upto j n) j := e2 ▸ h.fr.load (h.fr.in_low (by omega) (by omega))
  have W : ∀ b, (x.mem s).word b = s.word b := fun b => by rw [e2]; rfl
  have hpc : (x.next s).pc = 3 := by rw [e1]
  have hse : (x.next s).seen = x.seen := by rw [e1]
  have n64 := h.fr.n64
  obtain ⟨q1, q2, q3⟩ := h.quiet (o := some (x.next s)) hk hn F' (fun i _ _ => W _) (W 2) (fun y hy => by
    obtain rfl := Option.some.inj hy
    refine ⟨by rw [e1]; exact ⟨J.K.pl, J.K.cls, J.K.set⟩, by omega, by omega, fun _ => ⟨a, a1, a2, hse.trans a3, fun h4 => by omega, fun h3 e => ?_⟩, fun h5 => by omega, fun h6 => by omega⟩
    subst e
    have L := h.fr.lkd
    rw [upto_cons a1] at L
    rw [e1, ← hd1_upto a1]
    exact L.1) (fun b => by rw [hb, hold_low (by omega), hold_low (by omega)]) (by
    rw [hb]
    unfold loc
    simp only [hp, hpc, hse, W]
    split <;> omega)
  exact .go j (by rw [hpc]; rfl) q1 q2 q3
theorem game3 (h : Game n s j jb nn T) (hk : k < 3) (hn : nn k = false) (hb : jb k = some x) (hp : x.pc = 3) : Out n s (x.mem s) j k jb nn T (x.next s) := by
  have J := h.job k hk x hb
  obtain ⟨a, a1, a2, a3, _, a5⟩ := J.see (by omega)
  have n64 := h.fr.n64
  have n8 := h.n8
  have jn := h.jn
  by_cases e : x.seen = s.word 2
  · -- the block is the first one still
    have hj : j < n ∧ a = j := by
      rw [a3, h.fr.head] at e
      by_cases hjn : j < n
      · rw [upto_cons hjn] at e
        have := tw_inj (by omega) (by omega) (by simp only [hd1]; omega) (by simp only [hd1]; omega) (by omega) (by omega) e
        exact ⟨hjn, this.2⟩
      · have hjn' : j = n := by omega
        rw [hjn', upto_nil] at e
        have := tw_inj (by omega) (by omega) (by simp only [hd1]; omega) (by simp only [hd1]; omega) (by omega) (by omega) e
        simp only [hd1] at this
        omega
    obtain ⟨hjn, rfl⟩ := hj
    have F := h.fr
    rw [upto_cons hjn] at F
    obtain ⟨c1, c2, F', W⟩ := take3 F (by omega) hp a3 (by rw [a5 hp rfl, hd1_upto hjn])
    have hpc : (x.next s).pc = 4 := by rw [c1]
    have hse : (x.next s).seen = x.seen := by rw [c1]
    have z0 : t0 x.seen = (a : Int) + 1 := by rw [a3]; exact t0_small (by omega) (by omega) _
    refine .go (a + 1) (by rw [hpc]; rfl) ⟨F', h.n8, hjn, ?_, ?_, ?_⟩ ?_ ?_
    · intro i hi y hy
      by_cases ei : i = k
      · subst ei
        rw [upd_eq] at hy
        obtain rfl := Option.some.inj hy
        exact ⟨by rw [c1]; exact ⟨J.K.pl, J.K.cls, J.K.set⟩, by omega, by omega, fun _ => ⟨a, a1, by omega, hse.trans a3, fun _ => by omega, fun h3 => by omega⟩, fun h5 => by omega, fun h6 => by omega⟩
      · rw [upd_ne _ _ ei] at hy
        exact (h.job i hi y hy).keep (by omega) (F'.len.trans h.fr.len.symm) (W _ (h.fr.in_low (by omega) (by omega)) (by omega))
    · intro b hb8
      have c := h.cnt b hb8
      have := sum3_one (f := fun i => hold (upd jb k (some (x.next s)) i) b) (g := fun i => hold (jb i) b) hk fun i _ hik => by simp only [upd_ne _ _ hik]
      simp only [upd_eq, hb] at this
      rw [hold_low (x := x) (by omega)] at this
      have hx' : hold (some (x.next s)) b = if b = a then 1 else 0 := by
        simp only [hold, hpc, hse, z0]
        by_cases eb : b = a
        · subst eb; simp
        · rw [if_neg eb, if_neg (by omega)]
      rw [hx'] at this
      by_cases eb : b = a
      · subst eb
        rw [if_pos rfl] at this
        rw [if_neg (by omega)] at c
        rw [if_pos (by omega)]
        omega
      · rw [if_neg eb] at this
        rw [show (if b < a + 1 then 1 else 0) = (if b < a then 1 else 0) from by
          by_cases hba : b < a
          · rw [if_pos hba, if_pos (by omega)]
          · rw [if_neg hba, if_neg (by omega)]]
        omega
    · intro i hi he
      by_cases ei : i = k
      · subst ei; rw [hn] at he; exact absurd he (by decide)
      · have := (h.nn i hi he).2; omega
    · have l1 : loc s k (jb k) = 2 := by rw [hb]; unfold loc; simp only [hp, e, if_true]
      have l2 : loc (x.mem s) k (some (x.next s)) = 15 := by unfold loc; simp only [hpc]
      unfold pot
      rw [l1, l2]
      omega
    · intro i hi hik
      have := loc_turn (k := i) s (x.mem s) (jb i)
      unfold pot
      omega
  · -- another was faster
    obtain ⟨c1, F', W⟩ := take3n h.fr hp e
    have hpc : (x.next s).pc = 1 := by rw [c1]
    obtain ⟨q1, q2, q3⟩ := h.quiet (o := some (x.next s)) hk hn F' (fun i _ _ => W _) (W 2) (fun y hy => by
      obtain rfl := Option.some.inj hy
      exact ⟨by rw [c1]; exact ⟨J.K.pl, J.K.cls, J.K.set⟩, by omega, by omega, fun h2 => by omega, fun h5 => by omega, fun h6 => by omega⟩) (fun b => by rw [hb, hold_low (by omega), hold_low (by omega)]) (by
      rw [hb]
      unfold loc
      simp only [hp, hpc, if_neg e]
      omega)
    exact .go j (by rw [hpc]; rfl) q1 q2 q3
theorem game4 (h : Game n s j jb nn T) (hk : k < 3) (hn : nn k = false) (hb : jb k = some x) (hp : x.pc = 4) : Out n s (x.mem s) j k jb nn T (x.next s) := by
  have J := h.job k hk x hb
  obtain ⟨a, a1, a2, a3, a4, _⟩ := J.see (by omega)
  have a4 := a4 (by omega)
  have n64 := h.fr.n64
  have cb := cs_k hk
  obtain ⟨c1, c2, F'⟩ := take4 h.fr J.K hp a3 a1 (by rw [mem_upto]; omega)
  have inE : s.In (10 + (3 : Nat) + a) := h.fr.in_low (by omega) (by omega)
  have W : ∀ b, s.In b → b ≠ 10 + (3 : Nat) + a → (x.mem s).word b = s.word b := fun b hb hne => by rw [c2]; exact word_other inE hb (Ne.symm hne)
  have hpc : (x.next s).pc = 5 := by rw [c1]
  have hse : (x.next s).seen = x.seen := by rw [c1]
  have hk0 : (x.next s).k = 0 := by rw [c1]
  obtain ⟨q1, q2, q3⟩ := h.quiet (o := some (x.next s)) hk hn F' (fun i _ _ => W _ (h.fr.in_low (by omega) (by omega)) (by omega)) (W 2 h.fr.two (by omega)) (fun y hy => by
    obtain rfl := Option.some.inj hy
    exact ⟨by rw [c1]; exact ⟨J.K.pl, J.K.cls, J.K.set⟩, by omega, by omega, fun _ => ⟨a, a1, a2, hse.trans a3, fun _ => a4, fun h3 => by omega⟩, fun _ => by rw [hk0]; omega, fun h6 => by omega⟩) (fun b => by rw [hb]; exact hold_same (by omega) (by omega) hse b) (by
    rw [hb]
    unfold loc
    simp only [hp, hpc, hk0]
    omega)
  exact .go j (by rw [hpc]; rfl) q1 q2 q3
theorem game5 (h : Game n s j jb nn T) (hk : k < 3) (hn : nn k = false) (hb : jb k = some x) (hp : x.pc = 5) : Out n s (x.mem s) j k jb nn T (x.next s) := by
  have J := h.job k hk x hb
  obtain ⟨a, a1, a2, a3, a4, _⟩ := J.see (by omega)
  have a4 := a4 (by omega)
  obtain ⟨k0, k1⟩ := J.k5 hp
  have n64 := h.fr.n64
  have cb := cs_k hk
  obtain ⟨c1, c2, F'⟩ := take5 h.fr J.K (by omega) (by omega) hp a3 a1 k0 k1
  have inC := h.fr.in_cel a1 (c := k) (by omega) (by omega) (show 0 ≤ x.k + 1 by omega) k1
  have W : ∀ b, s.In b → b < 13 → (x.mem s).word b = s.word b := fun b hb hlt => by rw [c2]; exact word_other inC.1 hb (by omega)
  by_cases hm : x.k + 2 < P.Plain.cs k
  · rw [if_pos hm] at c1
    have hpc : (x.next s).pc = 5 := by rw [c1]; exact hp
    have hse : (x.next s).seen = x.seen := by rw [c1]
    have hk0 : (x.next s).k = x.k + 1 := by rw [c1]
    obtain ⟨q1, q2, q3⟩ := h.quiet (o := some (x.next s)) hk hn F' (fun i _ _ => W _ (h.fr.in_low (by omega) (by omega)) (by omega)) (W 2 h.fr.two (by omega)) (fun y hy => by
      obtain rfl := Option.some.inj hy
      exact ⟨by rw [c1]; exact ⟨J.K.pl, J.K.cls, J.K.set⟩, by omega, by omega, fun _ => ⟨a, a1, a2, hse.trans a3, fun _ => a4, fun h3 => by omega⟩, fun _ => by rw [hk0]; omega, fun h6 => by omega⟩) (fun b => by rw [hb]; exact hold_same (by omega) (by omega) hse b) (by
      rw [hb]
      unfold loc
      simp only [hp, hpc, hk0]
      omega)
    exact .go j (by rw [hpc]; rfl) q1 q2 q3
  · rw [if_neg hm] at c1
    have hpc : (x.next s).pc = 6 := by rw [c1]
    have hse : (x.next s).seen = x.seen := by rw [c1]
    have hpu : (x.next s).push = PushS.new (3 + 3 * 0 + k) (cel 3 n a k 1) (cel 3 n a k (x.k + 1)) k := by rw [c1]
    obtain ⟨q1, q2, q3⟩ := h.quiet (o := some (x.next s)) hk hn F' (fun i _ _ => W _ (h.fr.in_low (by omega) (by omega)) (by omega)) (W 2 h.fr.two (by omega)) (fun y hy => by
      obtain rfl := Option.some.inj hy
      exact ⟨by rw [c1]; exact ⟨J.K.pl, J.K.cls, J.K.set⟩, by omega, by omega, fun _ => ⟨a, a1, a2, hse.trans a3, fun _ => a4, fun h3 => by omega⟩, fun h5 => by omega, fun _ => by
        rw [hpu]
        exact ⟨by simp only [PushS.new]; omega, inC.2.1, inC.1.len (F'.len.trans h.fr.len.symm), by simp [PushS.new], by simp [PushS.new], fun h2 => by simp [PushS.new] at h2⟩⟩) (fun b => by rw [hb]; exact hold_same (by omega) (by omega) hse b) (by
      rw [hb]
      unfold loc
      simp only [hp, hpc, hpu, PushS.new]
      omega)
    exact .go j (by rw [hpc]; rfl) q1 q2 q3
theorem game6 (h : Game n s j jb nn T) (hk : k < 3) (hn : nn k = false) (hb : jb k = some x) (hp : x.pc = 6) : Out n s (x.mem s) j k jb nn T (x.next s) := by
  have J := h.job k hk x hb
  obtain ⟨a, a1, a2, a3, a4, _⟩ := J.see (by omega)
  have a4 := a4 (by omega)
  have n64 := h.fr.n64
  have n8 := h.n8
  obtain ⟨u1, u2, u3, u4, u5, u6⟩ := J.pu hp
  have c1 : x.next s = { x with push := x.push.next s, pc := if (x.push.next s).pc = 0 then 0 else 6 } := by simp only [TakeS.next, hp]
  have c2 : x.mem s = x.push.mem s := by simp only [TakeS.mem, hp]
  have F' : Fr 3 n (x.mem s) (upto j n) j := by rw [c2]; exact h.fr.push (by omega) (by omega) u2 u3
  have inH : s.In (3 + k) := h.fr.in_low (by omega) (by omega)
  have W : ∀ b, s.In b → b < 13 → b ≠ 3 + k → (x.mem s).word b = s.word b := fun b hb hlt hne => by
    rw [c2]
    unfold PushS.mem
    split
    · rfl
    · exact word_other u3 hb (by omega)
    · rw [u1]; exact cas_other inH hb (Ne.symm hne)
    · rfl
  have hse : (x.next s).seen = x.seen := by rw [c1]
  have go : (x.push.next s).pc ≠ 0 → (x.push.next s).hd = x.push.hd → (x.push.next s).lst = x.push.lst → x.push.pc < (x.push.next s).pc → (x.push.next s).pc ≤ 3 → (2 ≤ (x.push.next s).pc → (x.push.next s).seen = (x.mem s).word (3 + k)) → Out n s (x.mem s) j k jb nn T (x.next s) := by
    intro g0 g1 g2 g3 g4 g5
    have hpc : (x.next s).pc = 6 := by rw [c1]; exact if_neg g0
    have hpu : (x.next s).push = x.push.next s := by rw [c1]
    obtain ⟨q1, q2, q3⟩ := h.quiet (o := some (x.next s)) hk hn F' (fun i hi hik => W _ (h.fr.in_low (by omega) (by omega)) (by omega) (by omega)) (W 2 h.fr.two (by omega) (by omega)) (fun y hy => by
      obtain rfl := Option.some.inj hy
      exact ⟨by rw [c1]; exact ⟨J.K.pl, J.K.cls, J.K.set⟩, by omega, by omega, fun _ => ⟨a, a1, a2, hse.trans a3, fun _ => a4, fun h3 => by omega⟩, fun h5 => by omega, fun _ => by
        rw [hpu]
        exact ⟨g1.trans u1, by rw [g2]; exact u2, by rw [g2]; exact u3.len (F'.len.trans h.fr.len.symm), by omega, g4, g5⟩⟩) (fun b => by rw [hb]; exact hold_same (by omega) (by omega) hse b) (by
      rw [hb]
      unfold loc
      simp only [hp, hpc, hpu]
      omega)
    exact .go j (by rw [hpc]; rfl) q1 q2 q3
  obtain ⟨hd, fs, ls, cl, se, pc, hpush⟩ : ∃ hd fs ls cl se pc, x.push = ⟨hd, fs, ls, cl, se, pc⟩ := ⟨_, _, _, _, _, _, rfl⟩
  rw [hpush] at u1 u2 u3 u4 u5 u6 go c1 c2
  simp only at u1 u2 u3 u4 u5 u6
  subst u1
  have : pc = 1 ∨ pc = 2 ∨ pc = 3 := by omega
  rcases this with rfl | rfl | rfl
  · exact go (by simp [PushS.next]) rfl rfl (by simp [PushS.next]) (by simp [PushS.next]) fun _ => by rw [c2]; exact inH.got
  · exact go (by simp [PushS.next]) rfl rfl (by simp [PushS.next]) (by simp [PushS.next]) fun _ => by
      rw [c2]
      show se = (s.store ls _).word (3 + k)
      rw [word_other u3 inH (by omega)]
      exact u6 (by omega)
  · have ok1 : s.ok1 (3 + k) se = true := by rw [St.ok1_iff' inH, u6 (by omega)]; simp
    have hpc : (x.next s).pc = 0 := by rw [c1]; simp only [PushS.next, ok1, if_true]
    have z0 : t0 x.seen = (a : Int) + 1 := by rw [a3]; exact t0_small (by omega) (by omega) _
    have hK : Tk 3 n k 0 (x.next s) := by rw [c1]; exact ⟨J.K.pl, J.K.cls, J.K.set⟩
    have hc : (x.next s).cell = cel 3 n a k 0 := by
      unfold TakeS.cell
      rw [if_pos ⟨hpc, by rw [hse, z0]; omega⟩, hK.ad (hse.trans a3) (by omega)]
    have hh : hold (jb k) a = 1 := by rw [hb]; simp only [hold, hp, z0]; simp
    have ca := h.cnt a (by omega)
    rw [if_pos a4] at ca
    have g := sum3_ge (f := fun i => hold (jb i) a) hk
    simp only [hh] at g
    have W2 : (x.mem s).word 2 = s.word 2 := W 2 h.fr.two (by omega) (by omega)
    refine .got a a1 (by rw [hpc]; rfl) hc (by omega) ⟨F', h.n8, h.jn, ?_, ?_, ?_⟩ ?_ fun i _ _ => by unfold pot; rw [loc_keep W2]; exact Nat.le_refl _
    · intro i hi y hy
      by_cases e : i = k
      · subst e; rw [upd_eq] at hy; exact absurd hy (by simp)
      · rw [upd_ne _ _ e] at hy
        exact (h.job i hi y hy).keep (Nat.le_refl _) (F'.len.trans h.fr.len.symm) (W _ (h.fr.in_low (by omega) (by omega)) (by omega) (by omega))
    · intro b hb8
      have c := h.cnt b hb8
      have := sum3_one (f := fun i => hold (upd jb k none i) b) (g := fun i => hold (jb i) b) hk fun i _ hik => by simp only [upd_ne _ _ hik]
      simp only [upd_eq, hold_none] at this
      by_cases e : b = a
      · subst e
        rw [upd_eq]
        rw [hh] at this
        omega
      · rw [upd_ne _ _ e]
        have h0 : hold (jb k) b = 0 := by rw [hb]; simp only [hold, hp, z0]; exact if_neg (by omega)
        rw [h0] at this
        omega
    · intro i hi he
      by_cases e : i = k
      · subst e; rw [hn] at he; exact absurd he (by decide)
      · rw [upd_ne _ _ e]; exact h.nn i hi he
    · have l1 : loc s k (jb k) = 5 := by rw [hb]; unfold loc; simp only [hp, hpush]
      have l2 : loc (x.mem s) k none = 4 := rfl
      unfold pot
      rw [l1, l2]
      omega
/-- a turn of a taker that is under way -/
theorem game_step (h : Game n s j jb nn T) (hk : k < 3) (hn : nn k = false) (hb : jb k = some x) : Out n s (x.mem s) j k jb nn T (x.next s) := by
  have J := h.job k hk x hb
  have := J.p1
  have := J.p6
  have : x.pc = 1 ∨ x.pc = 2 ∨ x.pc = 3 ∨ x.pc = 4 ∨ x.pc = 5 ∨ x.pc = 6 := by omega
  rcases this with hp | hp | hp | hp | hp | hp
  · exact game1 h hk hn J.K hp (by rw [hb]; unfold loc; simp only [hp]) (fun a => by rw [hb]; exact hold_low (by omega) a)
  · exact game2 h hk hn hb hp
  · exact game3 h hk hn hb hp
  · exact game4 h hk hn hb hp
  · exact game5 h hk hn hb hp
  · exact game6 h hk hn hb hp
/-- a turn of a taker that begins -/
theorem game_new (h : Game n s j jb nn T) (hk : k < 3) (hn : nn k = false) (hb : jb k = none) : Out n s ((TakeS.new (mkPl 3 n) k 0).mem s) j k jb nn T ((TakeS.new (mkPl 3 n) k 0).next s) :=
  game1 h hk hn ⟨rfl, rfl, rfl⟩ rfl (by rw [hb]; rfl) fun a => by rw [hb]; rfl
theorem pot_le (h : Game n s j jb nn T) (hk : k < 3) : pot n s j k (jb k) ≤ 175 := by
  have := loc_le hk (h.job k hk)
  have := h.n8
  unfold pot
  omega
end
end Go.Proofs.YtilknjihceemhaaDoor
