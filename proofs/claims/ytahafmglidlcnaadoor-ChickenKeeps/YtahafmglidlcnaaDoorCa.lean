/-
  The laws' object, its copy and the one that copies it, plainly: no program in sight.
-/
import Derived.Test.YtahafmglidlcnaaDoorCl
import Derived.Test.YtahafmglidlcnaaDoorCe
import Derived.Test.YtahafmglidlcnaaDoorDr
namespace Go.Proofs.YtahafmglidlcnaaDoor
set_option linter.unusedVariables false
set_option linter.unusedSimpArgs false
set_option maxRecDepth 100000
open H.Plain (hw pS pC pN pM pG pT pL mv)

/-- the header, the fields, the copy's fields; the other headers -/
structure M6 (s : St) (h : Int) (a c : Nat → Int) : Prop where
  len : s.ws.length = 160
  hd : s.word 96 = h
  fa : ∀ k : Nat, k < 3 → s.word (97 + (k : Int)) = a k
  fc : ∀ k : Nat, k < 3 → s.word (113 + (k : Int)) = c k
  o1 : s.word 100 = H0
  o2 : s.word 112 = H0
  t : s.t = 0
section
variable {s : St} {h : Int} {a c : Nat → Int} {k : Nat}
theorem in_a (hk : k < 3) : In (97 + (k : Int)) := ⟨by omega, by omega⟩
theorem in_c (hk : k < 3) : In (113 + (k : Int)) := ⟨by omega, by omega⟩
theorem in96 : In 96 := ⟨by omega, by omega⟩
theorem M6.load (m : M6 s h a c) {x : Int} (hx : In x) : M6 (s.load x) h a c := ⟨m.len, m.hd, m.fa, m.fc, m.o1, m.o2, by rw [t_load m.len hx]; exact m.t⟩
theorem M6.got96 (m : M6 s h a c) : s.got 96 = h := by rw [in96.got m.len]; exact m.hd
theorem M6.gota (m : M6 s h a c) (hk : k < 3) : s.got (97 + (k : Int)) = a k := by rw [(in_a hk).got m.len]; exact m.fa k hk
theorem M6.gotc (m : M6 s h a c) (hk : k < 3) : s.got (113 + (k : Int)) = c k := by rw [(in_c hk).got m.len]; exact m.fc k hk
theorem M6.storeA (m : M6 s h a c) (hk : k < 3) (v : Int) : M6 (s.store (97 + (k : Int)) v) h (updN a k v) c := by
  have I := in_a hk
  have W : ∀ b, In b → (s.store (97 + (k : Int)) v).word b = if 97 + (k : Int) = b then v else s.word b := fun b hb => word_store m.len I hb
  refine ⟨n_store' m.len _ _, ?_, fun j hj => ?_, fun j hj => ?_, ?_, ?_, by rw [t_store m.len I]; exact m.t⟩
  · rw [W _ in96, if_neg (by omega)]; exact m.hd
  · rw [W _ (in_a hj)]; unfold updN
    by_cases e : j = k
    · subst e; rw [if_pos rfl, if_pos rfl]
    · rw [if_neg (by omega), if_neg e]; exact m.fa j hj
  · rw [W _ (in_c hj), if_neg (by omega)]; exact m.fc j hj
  · rw [W _ ⟨by omega, by omega⟩, if_neg (by omega)]; exact m.o1
  · rw [W _ ⟨by omega, by omega⟩, if_neg (by omega)]; exact m.o2
theorem M6.storeC (m : M6 s h a c) (hk : k < 3) (v : Int) : M6 (s.store (113 + (k : Int)) v) h a (updN c k v) := by
  have I := in_c hk
  have W : ∀ b, In b → (s.store (113 + (k : Int)) v).word b = if 113 + (k : Int) = b then v else s.word b := fun b hb => word_store m.len I hb
  refine ⟨n_store' m.len _ _, ?_, fun j hj => ?_, fun j hj => ?_, ?_, ?_, by rw [t_store m.len I]; exact m.t⟩
  · rw [W _ in96, if_neg (by omega)]; exact m.hd
  · rw [W _ (in_a hj), if_neg (by omega)]; exact m.fa j hj
  · rw [W _ (in_c hj)]; unfold updN
    by_cases e : j = k
    · subst e; rw [if_pos rfl, if_pos rfl]
    · rw [if_neg (by omega), if_neg e]; exact m.fc j hj
  · rw [W _ ⟨by omega, by omega⟩, if_neg (by omega)]; exact m.o1
  · rw [W _ ⟨by omega, by omega⟩, if_neg (by omega)]; exact m.o2
theorem M6.cas (m : M6 s h a c) (n : Int) : s.ok1 96 h = true ∧ M6 (s.cas 96 h n) n a c := by
  have W : ∀ b, In b → (s.cas 96 h n).word b = if 96 = b then n else s.word b := fun b hb => word_cas_ok m.len in96 hb m.hd
  refine ⟨by rw [ok1_iff m.len in96, m.hd]; simp, n_cas' m.len _ _ _, ?_, fun j hj => ?_, fun j hj => ?_, ?_, ?_, by rw [t_cas m.len in96]; exact m.t⟩
  · rw [W _ in96, if_pos rfl]
  · rw [W _ (in_a hj), if_neg (by omega)]; exact m.fa j hj
  · rw [W _ (in_c hj), if_neg (by omega)]; exact m.fc j hj
  · rw [W _ ⟨by omega, by omega⟩, if_neg (by omega)]; exact m.o1
  · rw [W _ ⟨by omega, by omega⟩, if_neg (by omega)]; exact m.o2
theorem M6.still {x o n : Int} (m : M6 s h a c) (hx : In x) (ho : s.word x ≠ o) : s.ok1 x o = false ∧ M6 (s.cas x o n) h a c := by
  have W : ∀ b, (s.cas x o n).word b = s.word b := fun b => word_cas_no m.len hx ho
  exact ⟨by rw [ok1_iff m.len hx]; simpa using ho, n_cas' m.len _ _ _, by rw [W]; exact m.hd, fun j hj => by rw [W]; exact m.fa j hj, fun j hj => by rw [W]; exact m.fc j hj, by rw [W]; exact m.o1, by rw [W]; exact m.o2, by rw [t_cas m.len hx]; exact m.t⟩
theorem M6.casA (m : M6 s h a c) (hk : k < 3) (v : Int) : s.ok1 (97 + (k : Int)) (a k) = true ∧ M6 (s.cas (97 + (k : Int)) (a k) v) h (updN a k v) c := by
  have I := in_a hk
  have W : ∀ b, In b → (s.cas (97 + (k : Int)) (a k) v).word b = if 97 + (k : Int) = b then v else s.word b := fun b hb => word_cas_ok m.len I hb (m.fa k hk)
  refine ⟨by rw [ok1_iff m.len I, m.fa k hk]; simp, n_cas' m.len _ _ _, ?_, fun j hj => ?_, fun j hj => ?_, ?_, ?_, by rw [t_cas m.len I]; exact m.t⟩
  · rw [W _ in96, if_neg (by omega)]; exact m.hd
  · rw [W _ (in_a hj)]; unfold updN
    by_cases e : j = k
    · subst e; rw [if_pos rfl, if_pos rfl]
    · rw [if_neg (by omega), if_neg e]; exact m.fa j hj
  · rw [W _ (in_c hj), if_neg (by omega)]; exact m.fc j hj
  · rw [W _ ⟨by omega, by omega⟩, if_neg (by omega)]; exact m.o1
  · rw [W _ ⟨by omega, by omega⟩, if_neg (by omega)]; exact m.o2
theorem M6.casC (m : M6 s h a c) (hk : k < 3) (v : Int) : s.ok1 (113 + (k : Int)) (c k) = true ∧ M6 (s.cas (113 + (k : Int)) (c k) v) h a (updN c k v) := by
  have I := in_c hk
  have W : ∀ b, In b → (s.cas (113 + (k : Int)) (c k) v).word b = if 113 + (k : Int) = b then v else s.word b := fun b hb => word_cas_ok m.len I hb (m.fc k hk)
  refine ⟨by rw [ok1_iff m.len I, m.fc k hk]; simp, n_cas' m.len _ _ _, ?_, fun j hj => ?_, fun j hj => ?_, ?_, ?_, by rw [t_cas m.len I]; exact m.t⟩
  · rw [W _ in96, if_neg (by omega)]; exact m.hd
  · rw [W _ (in_a hj), if_neg (by omega)]; exact m.fa j hj
  · rw [W _ (in_c hj)]; unfold updN
    by_cases e : j = k
    · subst e; rw [if_pos rfl, if_pos rfl]
    · rw [if_neg (by omega), if_neg e]; exact m.fc j hj
  · rw [W _ ⟨by omega, by omega⟩, if_neg (by omega)]; exact m.o1
  · rw [W _ ⟨by omega, by omega⟩, if_neg (by omega)]; exact m.o2
end
/-! ### what is laid -/
theorem laidL_len (t : Int) (l : Nat → Vl) (j : Nat) : (laidL t l j).ws.length = 160 := by
  induction j with
  | zero => simp [laidL, St.new]
  | succ j ih => exact n_store' ih _ _
theorem laidL_word (t : Int) (l : Nat → Vl) (j : Nat) (hj : j ≤ 8) (b : Int) (hb : In b) : (laidL t l j).word b = if 96 ≤ b ∧ b < 96 + (j : Int) then wl t l (b - 96).toNat else 0 := by
  induction j with
  | zero =>
    rw [if_neg (by omega)]
    simp only [laidL, St.word, St.new]
    rw [List.getD_eq_getElem?_getD, List.getElem?_replicate]
    split <;> rfl
  | succ j ih =>
    simp only [laidL]
    rw [word_store (laidL_len t l j) ⟨by omega, by omega⟩ hb, ih (by omega)]
    by_cases e : 96 + (j : Int) = b
    · rw [if_pos e, if_pos (by omega)]
      congr 1
      omega
    · rw [if_neg e]
      by_cases e2 : 96 ≤ b ∧ b < 96 + (j : Int)
      · rw [if_pos e2, if_pos (by omega)]
      · rw [if_neg e2, if_neg (by omega)]
theorem laidL_t (t : Int) (l : Nat → Vl) (j : Nat) (hj : j ≤ 8) : (laidL t l j).t = 0 := by
  induction j with
  | zero => rfl
  | succ j ih => simp only [laidL]; rw [t_store (laidL_len t l j) ⟨by omega, by omega⟩]; exact ih (by omega)
theorem laid_len (t : Int) (l : Nat → Vl) : (laidS t l).ws.length = 160 := n_store' (laidL_len t l 8) _ _
theorem laid_word (t : Int) (l : Nat → Vl) (b : Int) (hb : In b) : (laidS t l).word b = if b = 112 then H0 else if 96 ≤ b ∧ b < 104 then wl t l (b - 96).toNat else 0 := by
  unfold laidS
  rw [word_store (laidL_len t l 8) ⟨by omega, by omega⟩ hb, laidL_word t l 8 (by omega) b hb]
  by_cases e : b = 112
  · rw [if_pos e.symm, if_pos e]
  · rw [if_neg (Ne.symm e), if_neg e]; rfl
theorem laid_fld (t : Int) (l : Nat → Vl) {k : Nat} (hk : k < 3) : (laidS t l).word (97 + (k : Int)) = (l k).w := by
  rw [laid_word t l _ (in_a hk), if_neg (by omega), if_pos (by omega)]
  rcases (show k = 0 ∨ k = 1 ∨ k = 2 by omega) with rfl | rfl | rfl <;> rfl
theorem laid_m6 (t : Int) (l : Nat → Vl) : M6 (laidS t l) (HT t) (fun k => (l k).w) (fun _ => 0) := by
  refine ⟨laid_len t l, ?_, fun k hk => laid_fld t l hk, fun k hk => ?_, ?_, ?_, ?_⟩
  · rw [laid_word t l _ in96, if_neg (by omega), if_pos (by omega)]; rfl
  · rw [laid_word t l _ (in_c hk), if_neg (by omega), if_neg (by omega)]
  · rw [laid_word t l _ ⟨by omega, by omega⟩, if_neg (by omega), if_pos (by omega)]; rfl
  · rw [laid_word t l _ ⟨by omega, by omega⟩, if_pos rfl]
  · unfold laidS; rw [t_store (laidL_len t l 8) ⟨by omega, by omega⟩]; exact laidL_t t l 8 (by omega)
theorem good_fldP (ll : Nat) (zl : Nat → Vl) (j : Nat) : (fldP ll zl j).Good := by
  unfold fldP; split
  · exact good_valP _
  · exact good_zero
/-! ### headers -/
theorem h_T : pN (HT 1) = 3 ∧ pT (HT 1) = 1 ∧ untag (HT 1) = H0 := by decide
theorem h_M : pN (HT 2) = 3 ∧ pT (HT 2) = 2 ∧ pL (HT 2) = 112 := by decide
theorem h_N : pN H0 = 3 ∧ pT H0 = 0 := by decide
theorem h_ne : HT 1 ≠ HT 2 ∧ HT 1 ≠ H0 ∧ HT 2 ≠ H0 := by decide
/-- where an object is, by the first one's header -/
theorem mv_vals : mv (HT 1) 96 = 96 ∧ mv (HT 2) 96 = 112 ∧ mv H0 96 = 96 ∧ mv H0 100 = 100 ∧ mv H0 112 = 112 := by decide
/-! ### who copies -/
structure Mo where
  pc : Nat
  w : Int
def Mo.next (m : Mo) (s : St) : Mo := if m.pc = 7 then m else if m.pc = 6 then ⟨7, m.w⟩ else if m.pc % 2 = 0 then ⟨m.pc + 1, s.got (97 + ((m.pc / 2 : Nat) : Int))⟩ else ⟨m.pc + 1, m.w⟩
def Mo.mem (m : Mo) (s : St) : St := if m.pc = 7 then s else if m.pc = 6 then s.cas 96 (HT 1) (HT 2) else if m.pc % 2 = 0 then s.load (97 + ((m.pc / 2 : Nat) : Int)) else s.store (113 + ((m.pc / 2 : Nat) : Int)) m.w
structure Mo.Ok (m : Mo) : Prop where
  pc : m.pc ≤ 7
  w : U64 m.w
theorem Mo.Ok.next {m : Mo} {s : St} (h : m.Ok) (r : s.Rng) : (m.next s).Ok := by
  have := h.pc
  unfold Mo.next
  split
  · exact h
  · split
    · exact ⟨Nat.le_refl _, h.w⟩
    · split
      · exact ⟨by simp only; omega, r.got _⟩
      · exact ⟨by simp only; omega, h.w⟩
/-- the copy, while the tag is there -/
structure Cop (old : Nat → Int) (m : Mo) (c : Nat → Int) : Prop where
  pc : m.pc ≤ 6
  c : ∀ k : Nat, k < 3 → 2 * k + 2 ≤ m.pc → c k = old k
  w : m.pc % 2 = 1 → m.w = old (m.pc / 2)
section
variable {s : St} {h : Int} {a c old : Nat → Int} {m : Mo}
/-- a step of the copier while there is the tag -/
theorem Cop.step (C : Cop old m c) (M : M6 s (HT 1) a c) (ha : ∀ k, k < 3 → a k = old k) :
    (m.pc < 6 ∧ ∃ c', M6 (m.mem s) (HT 1) a c' ∧ Cop old (m.next s) c') ∨ (m.pc = 6 ∧ M6 (m.mem s) (HT 2) a c ∧ (m.next s).pc = 7 ∧ ∀ k, k < 3 → c k = old k) := by
  have hp := C.pc
  by_cases h6 : m.pc = 6
  · refine .inr ⟨h6, ?_, ?_, fun k hk => C.c k hk (by omega)⟩
    · simp only [Mo.mem, h6]; exact (M.cas (HT 2)).2
    · simp [Mo.next, h6]
  · refine .inl ⟨by omega, ?_⟩
    have h7 : m.pc ≠ 7 := by omega
    have hk : m.pc / 2 < 3 := by omega
    by_cases he : m.pc % 2 = 0
    · refine ⟨c, ?_, ?_⟩
      · simp only [Mo.mem, if_neg h7, if_neg h6, if_pos he]; exact M.load (in_a hk)
      · simp only [Mo.next, if_neg h7, if_neg h6, if_pos he]
        refine ⟨by simp only; omega, fun k hk h => C.c k hk (by simp only at h; omega), fun _ => ?_⟩
        simp only
        rw [M.gota hk, ha _ hk]
        congr 1
        omega
    · refine ⟨updN c (m.pc / 2) m.w, ?_, ?_⟩
      · simp only [Mo.mem, if_neg h7, if_neg h6, if_neg he]; exact M.storeC hk _
      · simp only [Mo.next, if_neg h7, if_neg h6, if_neg he]
        refine ⟨by simp only; omega, fun k hk h => ?_, fun h => by simp only at h; omega⟩
        simp only at h
        unfold updN
        by_cases e : k = m.pc / 2
        · rw [if_pos e, e]; exact C.w (by omega)
        · rw [if_neg e]; exact C.c k hk (by omega)
/-- a step of the copier when there is no tag any more, and none of the copy -/
theorem cop_N (hm : m.Ok) (M : M6 s H0 a c) : ∃ c', M6 (m.mem s) H0 a c' := by
  have hp := hm.pc
  by_cases h7 : m.pc = 7
  · exact ⟨c, by simp only [Mo.mem, if_pos h7]; exact M⟩
  · by_cases h6 : m.pc = 6
    · refine ⟨c, ?_⟩
      simp only [Mo.mem, if_neg h7, if_pos h6]
      exact (M.still in96 (by rw [M.hd]; exact fun e => h_ne.2.1 e.symm)).2
    · have hk : m.pc / 2 < 3 := by omega
      by_cases he : m.pc % 2 = 0
      · exact ⟨c, by simp only [Mo.mem, if_neg h7, if_neg h6, if_pos he]; exact M.load (in_a hk)⟩
      · exact ⟨_, by simp only [Mo.mem, if_neg h7, if_neg h6, if_neg he]; exact M.storeC hk _⟩
/-- when it is done -/
theorem cop_done (h : m.pc = 7) (s : St) : m.mem s = s ∧ m.next s = m := by simp [Mo.mem, Mo.next, h]
end
/-! ### an access alone -/
def runC (x : Cw) (s : St) : Nat → Cw × St
  | 0 => (x, s)
  | j + 1 => ((runC x s j).1.next (runC x s j).2, (runC x s j).1.mem (runC x s j).2)
theorem runC_succ (x : Cw) (s : St) (j : Nat) : runC x s (j + 1) = runC (x.next s) (x.mem s) j := by
  induction j with
  | zero => rfl
  | succ j ih => rw [runC, ih]; rfl
theorem runC_fin (b : Bool) (o : Ou) (s : St) (j : Nat) : runC (.fin b o) s j = (.fin b o, s) := by
  induction j with
  | zero => rfl
  | succ j ih => rw [runC, ih]; rfl
/-- it is done behind d steps, and not ahead -/
structure EndsC (x : Cw) (s : St) (d : Nat) (x' : Cw) (s' : St) : Prop where
  at_ : runC x s d = (x', s')
  done : x'.done = true
  not : ∀ j, j < d → (runC x s j).1.done = false
theorem EndsC.zero {x : Cw} {s : St} (h : x.done = true) : EndsC x s 0 x s := ⟨rfl, h, fun j hj => by omega⟩
theorem EndsC.step {x x1 x' : Cw} {s s1 s' : St} {d : Nat} (h : x.done = false) (q : x.next s = x1) (m : x.mem s = s1) (e : EndsC x1 s1 d x' s') : EndsC x s (d + 1) x' s' := by
  subst q m
  refine ⟨by rw [runC_succ]; exact e.at_, e.done, fun j hj => ?_⟩
  cases j with
  | zero => exact h
  | succ j => rw [runC_succ]; exact e.not j (by omega)
theorem done_fin {x : Cw} (h : x.done = true) : ∃ b o, x = .fin b o := by
  cases x <;> first | exact ⟨_, _, rfl⟩ | cases h
theorem EndsC.past {x x' : Cw} {s s' : St} {d : Nat} (e : EndsC x s d x' s') (j : Nat) : runC x s (d + j) = (x', s') := by
  obtain ⟨b, o, rfl⟩ := done_fin e.done
  induction j with
  | zero => exact e.at_
  | succ j ih => rw [← Nat.add_assoc, runC, ih]; rfl
/-- a Direct within an access -/
theorem EndsC.dr {x x' : Sx} {s s' : St} {d : Nat} (e : Ends x s d x' s') (hd : x.done = false) : EndsC (.dr x) s d (.fin x'.hit x'.o) s' := by
  induction d generalizing x s with
  | zero =>
    have := e.at_
    simp only [runX, Prod.mk.injEq] at this
    rw [this.1, e.done] at hd
    cases hd
  | succ d ih =>
    have e1 : Ends (x.next s) (x.mem s) d x' s' := ⟨by rw [← runX_succ]; exact e.at_, e.done, fun j hj => by rw [← runX_succ]; exact e.not (j + 1) (by omega)⟩
    rcases hn : (x.next s).done with _ | _
    · exact EndsC.step rfl (by simp only [Cw.next, Cw.onD, hn]; rfl) rfl (ih e1 hn)
    · have hd0 : d = 0 := by
        cases d with
        | zero => rfl
        | succ d =>
          have := e1.not 0 (by omega)
          simp only [runX] at this
          rw [hn] at this
          cases this
      subst hd0
      have := e1.at_
      simp only [runX, Prod.mk.injEq] at this
      obtain ⟨q1, q2⟩ := this
      exact EndsC.step rfl (by simp only [Cw.next, Cw.onD]; rw [q1, if_pos e.done]) q2 (EndsC.zero rfl)
end Go.Proofs.YtahafmglidlcnaaDoor
