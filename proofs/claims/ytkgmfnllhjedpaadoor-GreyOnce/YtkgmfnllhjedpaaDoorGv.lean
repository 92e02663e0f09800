/-
  Three that shade and one that takes: how far the game is from its end. No program in sight.
-/
import Derived.Test.YtkgmfnllhjedpaaDoorGn
namespace Go.Proofs.YtkgmfnllhjedpaaDoor
set_option linter.unusedVariables false
set_option maxRecDepth 100000
open S.Plain (t0 t1 tw nx)
open H.Plain (hw pS pC pN pM pG pT pL)

/-! ### a table: how many rounds a thread that shades wants at most, while no other one brings an object onto the list -/
def rtN : Nat := 12409436555956800579466091818292987662737149255834810819302991706943008569132195668142678612016320991604148839627495867624534888067828476874798786802570871813822741829996764667569715917694536045369280778395319122837301800592174258234410150319569678696633076211626527267093900765224974019038700566692707853023554218463996880776565276582081747769142654805764251179879836729036821878058645009529117632107798324810468313689398006186723280783548726192612727701229385481046543405360142234095467174094537786523461727898636482795142861643938976777011278363579194039853392991116666709719274623446688605464845514609258225940117084993745214273031913956716753677484603308043971590554139967994429984791381678696269135195487038359549107093393822793459969819995460972963059716443535244286962670192979134784291112031304697000514882643901671852194340333948021631083385058251538455408000266249186544802535320918693898653374331211016745752562782872217078093066596225879422766724360127276889348973246964948882436231862053264854331397293736570885590147889397963831572762292708871674520997117914952695675684792970453414384389573571797288351924168822281012848531331799384929824704569878026708083447265240356672395869341017915982869168359197678354701126579078925295186554529325671444953042807391347986551517513581960634564608
def rt (j c n k : Nat) : Nat := rtN / 64 ^ (((j * 10 + c) * 6 + n) * 4 + k) % 64
/-- the next step of one that shades, by what is next -/
def selfc : Nat → Nat
  | 3 => 5
  | 4 => 2
  | 5 => 6
  | 6 => 8
  | 7 => 9
  | 9 => 5
  | _ => 0
/-- what it is when the head has changed -/
def stl : Nat → Nat
  | 6 => 7
  | 8 => 9
  | c => c
theorem rt_le (j c n k : Nat) : rt j c n k ≤ 63 := by unfold rt; omega
def le1 (j c n k c' n' k' : Nat) : Bool := decide (rt j c' n' k' + 1 ≤ rt j c n k)
def rchk (j c n k : Nat) : Bool :=
  decide (c < 2) || (decide (1 ≤ rt j c n k) && (k != j || selfc c == 0 || le1 j c n k (selfc c) n (k + 1)) && (k == j || k == 3 || (le1 j c n k c n (k + 1) && (c != 3 || le1 j c n k 4 n (k + 1)))) &&
    (k != 3 || ((n != 0 || (le1 j c n k c 0 0 && le1 j c n k c 1 0)) && (n != 1 || le1 j c n k c 3 0) && (n != 2 || le1 j c n k c 4 0) && (n != 3 || le1 j c n k (stl c) 5 0) && (n != 4 || le1 j c n k c 0 0) && (n != 5 || le1 j c n k c 0 0))))
theorem rchk_all : ((List.range 3).all fun j => (List.range 10).all fun c => (List.range 6).all fun n => (List.range 4).all fun k => rchk j c n k) = true := by decide +kernel
theorem rchk_at {j c n k : Nat} (hj : j < 3) (hc : c < 10) (hn : n < 6) (hk : k < 4) : rchk j c n k = true := by
  have h := rchk_all
  simp only [List.all_eq_true, List.mem_range] at h
  exact h j hj c hc n hn k hk
section
variable {j c n k : Nat} (hj : j < 3) (hc : 2 ≤ c ∧ c < 10) (hn : n < 6)
include hj hc hn
theorem rt_pos (hk : k < 4) : 1 ≤ rt j c n k := by
  have h := rchk_at hj hc.2 hn hk
  have c2 : ¬ c < 2 := by omega
  simp only [rchk, c2, decide_false, Bool.false_or, Bool.and_eq_true, decide_eq_true_eq] at h
  exact h.1.1.1
theorem rt_self (hs : selfc c ≠ 0) : rt j (selfc c) n (j + 1) + 1 ≤ rt j c n j := by
  have h := rchk_at hj hc.2 hn (show j < 4 by omega)
  have c2 : ¬ c < 2 := by omega
  simp only [rchk, c2, decide_false, Bool.false_or, Bool.and_eq_true, Bool.or_eq_true, le1, decide_eq_true_eq] at h
  have := h.1.1.2
  simpa [hs] using this
theorem rt_other (hk : k < 3) (hkj : k ≠ j) : rt j c n (k + 1) + 1 ≤ rt j c n k ∧ (c = 3 → rt j 4 n (k + 1) + 1 ≤ rt j c n k) := by
  have h := rchk_at hj hc.2 hn (show k < 4 by omega)
  have c2 : ¬ c < 2 := by omega
  have k3 : ¬ k = 3 := by omega
  simp only [rchk, c2, decide_false, Bool.false_or, Bool.and_eq_true, Bool.or_eq_true, le1, decide_eq_true_eq, beq_iff_eq, hkj, k3, bne_iff_ne, ne_eq, false_or] at h
  exact ⟨h.1.2.1, fun e => h.1.2.2.resolve_left (fun q => q e)⟩
theorem rt_next : (n = 0 → rt j c 0 0 + 1 ≤ rt j c n 3 ∧ rt j c 1 0 + 1 ≤ rt j c n 3) ∧ (n = 1 → rt j c 3 0 + 1 ≤ rt j c n 3) ∧ (n = 2 → rt j c 4 0 + 1 ≤ rt j c n 3) ∧ (n = 3 → rt j (stl c) 5 0 + 1 ≤ rt j c n 3) ∧ (n = 4 → rt j c 0 0 + 1 ≤ rt j c n 3) ∧ (n = 5 → rt j c 0 0 + 1 ≤ rt j c n 3) := by
  have h := rchk_at hj hc.2 hn (show 3 < 4 by omega)
  have c2 : ¬ c < 2 := by omega
  simp only [rchk, c2, decide_false, Bool.false_or, Bool.and_eq_true, Bool.or_eq_true, le1, decide_eq_true_eq, bne_iff_ne, ne_eq, not_true_eq_false, false_or] at h
  obtain ⟨⟨⟨⟨⟨h0, h1⟩, h2⟩, h3⟩, h4⟩, h5⟩ := h.2
  exact ⟨fun e => h0.resolve_left (fun q => q e), fun e => h1.resolve_left (fun q => q e), fun e => h2.resolve_left (fun q => q e), fun e => h3.resolve_left (fun q => q e), fun e => h4.resolve_left (fun q => q e), fun e => h5.resolve_left (fun q => q e)⟩
end

/-! ### where a machine is -/
def cdS (s : St) (ow : Int → Nat) (y : ShadeS) : Nat :=
  match y.pc with
  | 1 => 2
  | 2 => if ow y.cell = 0 then 3 else 4
  | 3 => 5
  | 4 => if s.word 1 = y.list then 6 else 7
  | 5 => if s.word 1 = y.list then 8 else 9
  | _ => 0
def cdN (s : St) (x : NextS) : Nat :=
  match x.pc with
  | 2 => if s.word 1 = x.list then 1 else 2
  | 3 => if s.word 1 = x.list then 3 else 4
  | 4 => 5
  | _ => 0
def aN : Nat → Int
  | 1 => -1
  | 2 => 2
  | 3 => -2
  | 4 => 1
  | 5 => 1
  | _ => 0
theorem aN_b (n : Nat) : -2 ≤ aN n ∧ aN n ≤ 2 := by unfold aN; split <;> omega
theorem cdN_lt (s : St) (x : NextS) : cdN s x < 6 := by unfold cdN; split <;> (try split) <;> omega
theorem cdS_b (s : St) (ow : Int → Nat) {y : ShadeS} (h : 1 ≤ y.pc ∧ y.pc ≤ 5) : 2 ≤ cdS s ow y ∧ cdS s ow y < 10 := by
  obtain ⟨c, m, pc, z, hd, q⟩ := y
  rcases pc_cases5 h.2 with rfl | rfl | rfl | rfl | rfl | rfl
  · simp at h
  · simp [cdS]
  · simp only [cdS]; split <;> omega
  · simp [cdS]
  · simp only [cdS]; split <;> omega
  · simp only [cdS]; split <;> omega
/-- sums -/
def sumN (f : Nat → Int) : Nat → Int
  | 0 => 0
  | n + 1 => sumN f n + f n
theorem sumN_le {f f' : Nat → Int} : ∀ n, (∀ i, i < n → f' i ≤ f i) → sumN f' n ≤ sumN f n := by
  intro n
  induction n with
  | zero => intro _; exact Int.le_refl _
  | succ n ih => intro h; have := ih (fun i hi => h i (by omega)); have := h n (by omega); simp only [sumN]; omega
theorem sumN_lt {f f' : Nat → Int} {k : Nat} {d : Int} : ∀ n, k < n → (∀ i, i < n → f' i ≤ f i) → f' k + d ≤ f k → sumN f' n + d ≤ sumN f n := by
  intro n
  induction n with
  | zero => intro h; omega
  | succ n ih =>
    intro hk h hd
    by_cases e : k = n
    · subst e; have := sumN_le (f := f) (f' := f') k (fun i hi => h i (by omega)); simp only [sumN]; omega
    · have := ih (by omega) (fun i hi => h i (by omega)) hd; have := h n (by omega); simp only [sumN]; omega
theorem sumN_add (f f' : Nat → Int) : ∀ n, sumN (fun i => f i + f' i) n = sumN f n + sumN f' n := by
  intro n
  induction n with
  | zero => rfl
  | succ n ih => simp only [sumN, ih]; omega
theorem sumN_mul (c : Int) (f : Nat → Int) : ∀ n, sumN (fun i => c * f i) n = c * sumN f n := by
  intro n
  induction n with
  | zero => simp [sumN]
  | succ n ih => simp only [sumN, ih]; rw [Int.mul_add]
/-- is an object what a thread goes for? -/
def t1g : Option ShadeS → Int → Bool
  | some y, a => y.pc == 2 && y.cell == a
  | none, _ => false
def tg (jb : Nat → Option ShadeS) (a : Int) : Bool := t1g (jb 0) a || t1g (jb 1) a || t1g (jb 2) a
def og (ow : Int → Nat) (jb : Nat → Option ShadeS) (a : Int) : Int := if ow a = 1 then 4 else if 2 ≤ ow a ∧ ow a ≤ 4 then 7 else if ow a = 0 ∧ tg jb a = true then 7 else 0
def ad (i : Nat) : Int := 96 + 4 * (i : Int)
def Ps (ow : Int → Nat) (jb : Nat → Option ShadeS) : Int := sumN (fun i => og ow jb (ad i)) 16
def Psi (s : St) (ow : Int → Nat) (jb : Nat → Option ShadeS) (x : NextS) : Int := Ps ow jb + aN (cdN s x)
theorem og_nn (ow : Int → Nat) (jb : Nat → Option ShadeS) (a : Int) : 0 ≤ og ow jb a := by unfold og; split; omega; split; omega; split <;> omega
theorem sumN_nn {f : Nat → Int} : ∀ n, (∀ i, i < n → 0 ≤ f i) → 0 ≤ sumN f n := by
  intro n
  induction n with
  | zero => intro _; exact Int.le_refl _
  | succ n ih => intro h; have := ih (fun i hi => h i (by omega)); have := h n (by omega); simp only [sumN]; omega
theorem Ps_nn (ow : Int → Nat) (jb : Nat → Option ShadeS) : 0 ≤ Ps ow jb := sumN_nn 16 fun i _ => og_nn _ _ _
theorem ad_hdr {i : Nat} (h : i < 16) : Hdr (ad i) := ⟨by unfold ad; omega, by unfold ad; omega, by unfold ad; omega⟩
theorem hdr_ad {a : Int} (h : Hdr a) : ∃ i, i < 16 ∧ ad i = a := by
  obtain ⟨h1, h2, h3⟩ := h
  exact ⟨((a - 96) / 4).toNat, by omega, by unfold ad; omega⟩
theorem tg_upd {jb : Nat → Option ShadeS} {j : Nat} {o : Option ShadeS} {a : Int} (hj : j < 3) : tg (upd jb j o) a = true → t1g o a = true ∨ tg jb a = true := by
  intro h
  unfold tg at h ⊢
  simp only [Bool.or_eq_true] at h ⊢
  have key : ∀ i, t1g (upd jb j o i) a = true → t1g o a = true ∨ t1g (jb i) a = true := fun i hi => by
    by_cases q : i = j
    · subst q; rw [upd_same] at hi; exact .inl hi
    · rw [upd_other jb _ q] at hi; exact .inr hi
  rcases h with (h | h) | h
  · exact (key 0 h).imp id fun k => .inl (.inl k)
  · exact (key 1 h).imp id fun k => .inl (.inr k)
  · exact (key 2 h).imp id fun k => .inr k
theorem tg_of {jb : Nat → Option ShadeS} {j : Nat} {y : ShadeS} (hj : j < 3) (e : jb j = some y) (h2 : y.pc = 2) : tg jb y.cell = true := by
  have k : t1g (jb j) y.cell = true := by rw [e]; simp [t1g, h2]
  unfold tg
  match j, hj with
  | 0, _ => simp [k]
  | 1, _ => simp [k]
  | 2, _ => simp [k]
/-- does a thread have an object under way? -/
def hit (jb : Nat → Option ShadeS) (j : Nat) (a : Int) : Int := match jb j with | some y => if y.cell = a then 1 else 0 | none => 0
theorem hit_nn (jb : Nat → Option ShadeS) (j : Nat) (a : Int) : 0 ≤ hit jb j a := by unfold hit; split; split <;> omega; omega
theorem hit_one (c : Int) : ∀ n, sumN (fun i => if c = ad i then 1 else 0) n ≤ 1 := by
  have key : ∀ n, (sumN (fun i => if c = ad i then 1 else 0) n = 0) ∨ (sumN (fun i => if c = ad i then 1 else 0) n = 1 ∧ ∃ i, i < n ∧ c = ad i) := by
    intro n
    induction n with
    | zero => exact .inl rfl
    | succ n ih =>
      simp only [sumN]
      by_cases e : c = ad n
      · rw [if_pos e]
        rcases ih with ih | ⟨ih, i, hi, ei⟩
        · exact .inr ⟨by omega, n, by omega, e⟩
        · unfold ad at e ei; omega
      · rw [if_neg e]
        rcases ih with ih | ⟨ih, i, hi, ei⟩
        · exact .inl (by omega)
        · exact .inr ⟨by omega, i, by omega, ei⟩
  intro n
  rcases key n with h | ⟨h, _⟩ <;> omega
theorem hit_sum (jb : Nat → Option ShadeS) (j n : Nat) : sumN (fun i => hit jb j (ad i)) n ≤ 1 ∧ (jb j = none → sumN (fun i => hit jb j (ad i)) n ≤ 0) := by
  rcases h : jb j with _ | y
  · have e : (fun i => hit jb j (ad i)) = fun _ => 0 := by funext i; simp [hit, h]
    have z : ∀ n, sumN (fun _ => (0 : Int)) n = 0 := fun n => by induction n with | zero => rfl | succ n ih => simp [sumN, ih]
    rw [e, z]
    exact ⟨by omega, fun _ => by omega⟩
  · have e : (fun i => hit jb j (ad i)) = fun i => if y.cell = ad i then 1 else 0 := by funext i; simp [hit, h]
    rw [e]
    exact ⟨hit_one _ _, fun k => by cases k⟩
def hits (jb : Nat → Option ShadeS) (a : Int) : Int := hit jb 0 a + hit jb 1 a + hit jb 2 a
theorem hits_sum (jb : Nat → Option ShadeS) : sumN (fun i => hits jb (ad i)) 16 ≤ 3 ∧ ((∀ j, j < 3 → jb j = none) → sumN (fun i => hits jb (ad i)) 16 ≤ 0) := by
  have e : sumN (fun i => hits jb (ad i)) 16 = sumN (fun i => hit jb 0 (ad i)) 16 + sumN (fun i => hit jb 1 (ad i)) 16 + sumN (fun i => hit jb 2 (ad i)) 16 := by
    rw [← sumN_add, ← sumN_add]; rfl
  have h0 := hit_sum jb 0 16
  have h1 := hit_sum jb 1 16
  have h2 := hit_sum jb 2 16
  exact ⟨by omega, fun k => by have := h0.2 (k 0 (by omega)); have := h1.2 (k 1 (by omega)); have := h2.2 (k 2 (by omega)); omega⟩
theorem hits_ge {jb : Nat → Option ShadeS} {j : Nat} {y : ShadeS} {a : Int} (hj : j < 3) (e : jb j = some y) (hc : y.cell = a) : 1 ≤ hits jb a := by
  have k : hit jb j a = 1 := by simp [hit, e, hc]
  have := hit_nn jb 0 a
  have := hit_nn jb 1 a
  have := hit_nn jb 2 a
  unfold hits
  match j, hj with
  | 0, _ => omega
  | 1, _ => omega
  | 2, _ => omega
theorem hits_nn (jb : Nat → Option ShadeS) (a : Int) : 0 ≤ hits jb a := by
  have := hit_nn jb 0 a
  have := hit_nn jb 1 a
  have := hit_nn jb 2 a
  unfold hits; omega
theorem tg_hits {jb : Nat → Option ShadeS} {a : Int} (h : tg jb a = true) : 1 ≤ hits jb a := by
  unfold tg at h
  simp only [Bool.or_eq_true] at h
  have key : ∀ i, i < 3 → t1g (jb i) a = true → 1 ≤ hits jb a := fun i hi k => by
    rcases e : jb i with _ | y
    · rw [e] at k; simp [t1g] at k
    · rw [e] at k; simp [t1g] at k; exact hits_ge hi e k.2
  rcases h with (h | h) | h
  · exact key 0 (by omega) h
  · exact key 1 (by omega) h
  · exact key 2 (by omega) h
section
variable {s s' : St} {jb : Nat → Option ShadeS} {x x' : NextS} {l l' : List Int} {v v' j : Nat} {ow ow' : Int → Nat} {f g : Nat → Bool} {y : ShadeS} {o : Option ShadeS}
/-- what an object costs at most -/
theorem Gi.og_le (h : Gi s jb x l v ow f g) {a : Int} (ha : Hdr a) : og ow jb a ≤ (if ow a = 1 then 4 else 7 * hits jb a) := by
  unfold og
  split
  · omega
  · have nn := hits_nn jb a
    split
    · rename_i h1 h2
      obtain ⟨z, e1, e2, _⟩ := h.cl a ha (ow a - 2) (by omega) (by omega)
      have := hits_ge (show ow a - 2 < 3 by omega) e1 e2
      omega
    · split
      · rename_i h3
        have := tg_hits h3.2
        omega
      · omega
theorem Gi.top (h : Gi s jb x l v ow f g) : Psi s ow jb x ≤ 75 := by
  have k : Ps ow jb ≤ sumN (fun i => 4 + 3 * hits jb (ad i)) 16 := sumN_le 16 fun i hi => by
    have := h.og_le (ad_hdr hi)
    have nn := hits_nn jb (ad i)
    by_cases e : ow (ad i) = 1
    · rw [if_pos e] at this; omega
    · rw [if_neg e] at this
      unfold og at this ⊢
      rw [if_neg e] at this ⊢
      split
      · rename_i q
        obtain ⟨z, e1, e2, _⟩ := h.cl (ad i) (ad_hdr hi) (ow (ad i) - 2) (by omega) (by omega)
        have := hits_ge (show ow (ad i) - 2 < 3 by omega) e1 e2
        omega
      · split
        · rename_i q
          have := tg_hits q.2
          omega
        · omega
  have k4 : sumN (fun i => 4 + 3 * hits jb (ad i)) 16 = 64 + 3 * sumN (fun i => hits jb (ad i)) 16 := by
    rw [sumN_add (fun _ => 4) (fun i => 3 * hits jb (ad i)), sumN_mul]
    rfl
  have := (hits_sum jb).1
  have := aN_b (cdN s x)
  unfold Psi
  omega
theorem Gi.none_on (h : Gi s jb x l v ow f g) (hl : l = []) : Ps ow jb ≤ 21 ∧ ((∀ j, j < 3 → jb j = none) → Ps ow jb ≤ 0) := by
  have k : Ps ow jb ≤ sumN (fun i => 7 * hits jb (ad i)) 16 := sumN_le 16 fun i hi => by
    have := h.og_le (ad_hdr hi)
    rw [if_neg (fun e => by have := (h.co.on _ (ad_hdr hi)).1 e; rw [hl] at this; simp at this)] at this
    exact this
  rw [sumN_mul] at k
  have := hits_sum jb
  exact ⟨by omega, fun q => by have := this.2 q; omega⟩
theorem cdN_new (s : St) : cdN s NextS.new = 0 := rfl
/-- the head is the same: so is what is next -/
theorem cdN_same (h : s'.word 1 = s.word 1) (x : NextS) : cdN s' x = cdN s x := by unfold cdN; rw [h]
theorem cdS_same (h : s'.word 1 = s.word 1) {z : ShadeS} (ho : z.pc = 2 → (ow' z.cell = 0 ↔ ow z.cell = 0)) : cdS s' ow' z = cdS s ow z := by
  unfold cdS
  rw [h]
  split <;> try rfl
  rename_i q
  by_cases k : ow z.cell = 0
  · rw [if_pos k, if_pos ((ho q).2 k)]
  · rw [if_neg k, if_neg (fun q' => k ((ho q).1 q'))]
/-- no object costs more: where the owners are the same -/
theorem Ps_le (hj : j < 3) (hn : ∀ a, t1g o a = true → ow a = 0 → tg jb a = true) : Ps ow (upd jb j o) ≤ Ps ow jb := sumN_le 16 fun i hi => by
  unfold og
  split
  · omega
  · split
    · omega
    · split
      · rename_i q
        have : tg jb (ad i) = true := (tg_upd hj q.2).elim (fun k => hn _ k q.1) id
        rw [if_pos ⟨q.1, this⟩]
        omega
      · split <;> omega
theorem cdN_stale (h : x.pc ≤ 4) : aN (cdN s' x) ≤ aN (cdN s x) + 3 := by
  obtain ⟨pc, q, hd, cc, k⟩ := x
  rcases pc_cases4 h with rfl | rfl | rfl | rfl | rfl
  · show aN 0 ≤ aN 0 + 3; decide
  · show aN 0 ≤ aN 0 + 3; decide
  · simp only [cdN]; split <;> split <;> decide
  · simp only [cdN]; split <;> split <;> decide
  · show aN 5 ≤ aN 5 + 3; decide
end
end Go.Proofs.YtkgmfnllhjedpaaDoor

