/-
  The free blocks in a memory, and what the steps of a Take make of them: no program in sight.
-/
import Derived.Test.YtbojljkdpebheaaDoorKa
import Derived.Test.YtbojljkdpebheaaDoorKf
namespace Go.Proofs.YtbojljkdpebheaaDoor
set_option linter.unusedVariables false
open S.Plain (t0 t1 tw nx bw b0 b1 b2 b3)
open H.Plain (hw pL)

/-- a list's first block: its number and 1 -/
def hd1 : List Nat → Int
  | [] => 0
  | i :: _ => i + 1
/-- what the table says of a list's blocks -/
def Lkd (t : Nat) (s : St) : List Nat → Prop
  | [] => True
  | i :: r => s.word (10 + t + i) = bw 0 0 0 (hd1 r) ∧ Lkd t s r
structure Fr (t n : Nat) (s : St) (fl : List Nat) (v : Nat) : Prop where
  ht : t ≤ 64
  n1 : 1 ≤ n
  n64 : n ≤ 64
  len : s.ws.length = szN t n
  trap : s.t = 0
  head : s.word 2 = tw (hd1 fl) v
  lkd : Lkd t s fl
  lt : ∀ i ∈ fl, i < n
  nodup : fl.Nodup
section
variable {t n : Nat} {s s' : St} {fl r : List Nat} {v i : Nat}
theorem Fr.sz (h : Fr t n s fl v) : (s.ws.length : Int) = hpN t n + 32 * n ∧ 10 + (t : Int) + n ≤ hpN t n := by
  have h1 := hpN_bounds h.ht h.n64
  rw [h.len]; unfold szN; omega
theorem Fr.in_low (h : Fr t n s fl v) {a : Int} (h0 : 0 ≤ a) (h1 : a < 10 + t + n) : s.In a := ⟨h0, by have := h.sz; omega⟩
theorem Fr.in_heap (h : Fr t n s fl v) {a : Int} (h0 : (hpN t n : Int) ≤ a) (h1 : a < hpN t n + 32 * n) : s.In a := ⟨by omega, by have := h.sz; omega⟩
theorem Lkd.keep : ∀ {fl : List Nat}, Lkd t s fl → (∀ i ∈ fl, s'.word (10 + t + i) = s.word (10 + t + i)) → Lkd t s' fl
  | [], _, _ => trivial
  | i :: r, h, k => ⟨(k i (by simp)).trans h.1, Lkd.keep h.2 fun j hj => k j (by simp [hj])⟩
theorem Fr.keep (h : Fr t n s fl v) (hl : s'.ws.length = s.ws.length) (ht : s'.t = s.t) (h2 : s'.word 2 = s.word 2) (he : ∀ i ∈ fl, s'.word (10 + t + i) = s.word (10 + t + i)) : Fr t n s' fl v :=
  ⟨h.ht, h.n1, h.n64, hl.trans h.len, ht.trans h.trap, h2.trans h.head, h.lkd.keep he, h.lt, h.nodup⟩
theorem hd1_bounds (h : ∀ i ∈ fl, i < n) (hn : n ≤ 64) : 0 ≤ hd1 fl ∧ hd1 fl ≤ 64 := by
  cases fl with
  | nil => simp [hd1]
  | cons i r => have := h i (by simp); simp only [hd1]; omega
theorem t0_small {a : Int} (h : 0 ≤ a) (h' : a ≤ 4095) (v : Int) : t0 (tw a v) = a := by rw [S.Plain.t0_tw]; omega
theorem nx_small {a : Int} {v : Nat} (hv : v < 1099511627776) (m : Int) : nx (tw a v) m = tw m ((v + 1 : Nat) : Int) := by
  unfold S.Plain.nx
  rw [S.Plain.t1_tw]
  unfold S.Plain.tw
  omega
theorem tw_inj {a b : Int} {u v : Nat} (ha : 0 ≤ a) (ha' : a ≤ 4095) (hb : 0 ≤ b) (hb' : b ≤ 4095) (hu : u < 1099511627776) (hv : v < 1099511627776) (e : tw a u = tw b v) : a = b ∧ u = v := by
  have h0 := congrArg t0 e
  have h1 := congrArg t1 e
  rw [S.Plain.t0_tw, S.Plain.t0_tw] at h0
  rw [S.Plain.t1_tw, S.Plain.t1_tw] at h1
  omega
theorem b3_small {a : Int} (h : 0 ≤ a) (h' : a ≤ 127) : b3 (bw 0 0 0 a) = a := by rw [S.Plain.b3_bw]; omega
theorem Fr.load (h : Fr t n s fl v) {a : Int} (ha : s.In a) : Fr t n (s.load a) fl v := h.keep rfl (St.t_load' ha) rfl fun _ _ => rfl
theorem Fr.store (h : Fr t n s fl v) {a x : Int} (ha : s.In a) (h2 : a ≠ 2) (he : ∀ i ∈ fl, a ≠ 10 + t + i) : Fr t n (s.store a x) fl v :=
  h.keep (St.n_store _ _ _) (St.t_store' ha) (word_other ha (h.in_low (by omega) (by have := h.n1; omega)) h2) fun i hi => word_other ha (h.in_low (by omega) (by have := h.lt i hi; omega)) (he i hi)
theorem Fr.cas (h : Fr t n s fl v) {a o x : Int} (ha : s.In a) (h2 : a ≠ 2) (he : ∀ i ∈ fl, a ≠ 10 + t + i) : Fr t n (s.cas a o x) fl v :=
  h.keep (St.n_cas _ _ _ _) (St.t_cas' ha) (cas_other ha (h.in_low (by omega) (by have := h.n1; omega)) h2) fun i hi => cas_other ha (h.in_low (by omega) (by have := h.lt i hi; omega)) (he i hi)
theorem Fr.two (h : Fr t n s fl v) : s.In 2 := h.in_low (by omega) (by have := h.n1; omega)

/-- where the cells of a block stand -/
theorem wd_mul {c k : Int} (c0 : 0 ≤ c) (c2 : c ≤ 2) (k0 : 0 ≤ k) (k1 : k < P.Plain.cs c) : 0 ≤ k * P.Plain.wd c ∧ k * P.Plain.wd c + P.Plain.wd c ≤ 32 ∧ (0 < k → 4 ≤ k * P.Plain.wd c) := by
  have : c = 0 ∨ c = 1 ∨ c = 2 := by omega
  rcases this with rfl | rfl | rfl
  · have e1 : P.Plain.wd 0 = 4 := rfl
    have e2 : P.Plain.cs 0 = 8 := rfl
    rw [e1]; rw [e2] at k1; omega
  · have e1 : P.Plain.wd 1 = 8 := rfl
    have e2 : P.Plain.cs 1 = 4 := rfl
    rw [e1]; rw [e2] at k1; omega
  · have e1 : P.Plain.wd 2 = 16 := rfl
    have e2 : P.Plain.cs 2 = 2 := rfl
    rw [e1]; rw [e2] at k1; omega
/-- the cell k of the block i -/
def cel (t n : Nat) (i : Nat) (c k : Int) : Int := hpN t n + 32 * i + k * P.Plain.wd c
theorem Fr.in_cel (h : Fr t n s fl v) (hi : i < n) {c k : Int} (c0 : 0 ≤ c) (c2 : c ≤ 2) (k0 : 0 ≤ k) (k1 : k < P.Plain.cs c) : s.In (cel t n i c k) ∧ 10 + (t : Int) + n ≤ cel t n i c k ∧ cel t n i c k ≤ 4095 := by
  have h1 := wd_mul c0 c2 k0 k1
  have h2 := h.sz
  have h3 := (P.Plain.wd_bounds c).1
  have h4 := hpN_bounds h.ht h.n64
  have h5 := h.n64
  unfold cel
  refine ⟨h.in_heap (by omega) ?_, by omega, by omega⟩
  have h6 : 0 < P.Plain.wd c := by
    have : c = 0 ∨ c = 1 ∨ c = 2 := by omega
    rcases this with rfl | rfl | rfl <;> decide
  omega
/-- a Take of the law's plan -/
structure Tk (t n : Nat) (c e : Int) (x : TakeS) : Prop where
  pl : x.pl = mkPl t n
  cls : x.cls = c
  set : x.set = e
theorem Tk.ent {c e : Int} {x : TakeS} (h : Tk t n c e x) {u : Nat} (hs : x.seen = tw ((i : Int) + 1) u) (hi : i < 64) : x.ent = 10 + t + i := by
  unfold TakeS.ent
  rw [h.pl, hs, t0_small (by omega) (by omega)]
  simp only [mkPl]; omega
theorem Tk.ad {c e : Int} {x : TakeS} (h : Tk t n c e x) {u : Nat} (hs : x.seen = tw ((i : Int) + 1) u) (hi : i < 64) (k : Int) : x.ad k = cel t n i c k := by
  unfold TakeS.ad Pl.cell cel
  rw [h.pl, h.cls, hs, t0_small (by omega) (by omega)]
  simp only [mkPl]; omega
section
variable {c e : Int} {x : TakeS}
/-- step 1 -/
theorem take1 (h : Fr t n s fl v) (hp : x.pc = 1) : x.next s = { x with seen := tw (hd1 fl) v, pc := if fl = [] then 0 else 2 } ∧ x.mem s = s.load 2 := by
  have hb := hd1_bounds h.lt h.n64
  have e1 : s.got 2 = tw (hd1 fl) v := h.two.got.trans h.head
  have e2 : (t0 (tw (hd1 fl) v) = 0) ↔ fl = [] := by
    rw [t0_small hb.1 (by omega)]
    cases fl with
    | nil => simp [hd1]
    | cons i r => simp [hd1]; omega
  refine ⟨?_, by simp only [TakeS.mem, hp]⟩
  simp only [TakeS.next, hp, e1, e2]
/-- step 2 -/
theorem take2 (h : Fr t n s fl v) (K : Tk t n c e x) (hp : x.pc = 2) {u : Nat} (hs : x.seen = tw ((i : Int) + 1) u) (hi : i < n) : x.next s = { x with raw := s.word (10 + t + i), pc := 3 } ∧ x.mem s = s.load (10 + t + i) := by
  have e1 := K.ent hs (by have := h.n64; omega)
  have hin : s.In (10 + t + i) := h.in_low (by omega) (by omega)
  refine ⟨?_, by simp only [TakeS.mem, hp, e1]⟩
  simp only [TakeS.next, hp, e1, hin.got]
/-- step 3: the block is the first one still -/
theorem take3 (h : Fr t n s (i :: r) v) (hv : v < 1099511627776) (hp : x.pc = 3) (hs : x.seen = tw ((i : Int) + 1) v) (hr : x.raw = bw 0 0 0 (hd1 r)) :
    x.next s = { x with pc := 4 } ∧ x.mem s = s.cas 2 (tw ((i : Int) + 1) v) (tw (hd1 r) ((v + 1 : Nat) : Int)) ∧ Fr t n (x.mem s) r (v + 1) ∧ (∀ b, s.In b → b ≠ 2 → (x.mem s).word b = s.word b) := by
  have hb := hd1_bounds (fl := r) (fun j hj => h.lt j (List.mem_cons_of_mem _ hj)) h.n64
  have e1 : s.word 2 = x.seen := by rw [hs]; exact h.head
  have e2 : s.ok1 2 x.seen = true := by rw [St.ok1_iff' h.two, e1]; simp
  have e3 : b3 x.raw = hd1 r := by rw [hr]; exact b3_small hb.1 (by omega)
  have e4 : x.mem s = s.cas 2 (tw ((i : Int) + 1) v) (tw (hd1 r) ((v + 1 : Nat) : Int)) := by simp only [TakeS.mem, hp, e3, hs, nx_small hv]
  have e5 : ∀ b, s.In b → (x.mem s).word b = if 2 = b then tw (hd1 r) ((v + 1 : Nat) : Int) else s.word b := fun b hb => by rw [e4]; exact St.word_cas_ok' h.two hb h.head
  refine ⟨by simp only [TakeS.next, hp, e2, if_true], e4, ⟨h.ht, h.n1, h.n64, by rw [e4, St.n_cas]; exact h.len, by rw [e4, St.t_cas' h.two]; exact h.trap, by rw [e5 2 h.two, if_pos rfl], ?_, fun j hj => h.lt j (by simp [hj]), (List.nodup_cons.1 h.nodup).2⟩, fun b hb h2 => by rw [e5 b hb, if_neg (Ne.symm h2)]⟩
  exact h.lkd.2.keep fun j hj => by rw [e5 _ (h.in_low (by omega) (by have := h.lt j (by simp [hj]); omega)), if_neg (by omega)]
/-- step 3: another was faster -/
theorem take3n (h : Fr t n s fl v) (hp : x.pc = 3) (hs : x.seen ≠ s.word 2) : x.next s = { x with pc := 1 } ∧ Fr t n (x.mem s) fl v ∧ (∀ b, (x.mem s).word b = s.word b) := by
  have e2 : s.ok1 2 x.seen = false := by rw [St.ok1_iff' h.two]; simpa using Ne.symm hs
  have e5 : ∀ b, (x.mem s).word b = s.word b := fun b => by simp only [TakeS.mem, hp]; exact St.word_cas_no' h.two (Ne.symm hs)
  exact ⟨by simp only [TakeS.next, hp, e2]; rfl, h.keep (by simp only [TakeS.mem, hp, St.n_cas]) (by simp only [TakeS.mem, hp]; exact St.t_cas' h.two) (e5 2) fun _ _ => e5 _, e5⟩
/-- step 4 -/
theorem take4 (h : Fr t n s fl v) (K : Tk t n c e x) (hp : x.pc = 4) {u : Nat} (hs : x.seen = tw ((i : Int) + 1) u) (hi : i < n) (hf : i ∉ fl) :
    x.next s = { x with k := 0, us := true, pc := 5 } ∧ x.mem s = s.store (10 + t + i) (bw 1 c e 0) ∧ Fr t n (x.mem s) fl v := by
  have e1 := K.ent hs (by have := h.n64; omega)
  have e2 : x.mem s = s.store (10 + t + i) (bw 1 c e 0) := by simp only [TakeS.mem, hp, e1, K.cls, K.set]
  refine ⟨by simp only [TakeS.next, hp], e2, ?_⟩
  rw [e2]
  exact h.store (h.in_low (by omega) (by omega)) (by omega) fun j hj he => hf ((show i = j by omega) ▸ hj)
/-- step 5 -/
theorem take5 (h : Fr t n s fl v) (K : Tk t n c e x) (c0 : 0 ≤ c) (c2 : c ≤ 2) (hp : x.pc = 5) {u : Nat} (hs : x.seen = tw ((i : Int) + 1) u) (hi : i < n) (k0 : 0 ≤ x.k) (k1 : x.k + 1 < P.Plain.cs c) :
    x.next s = (if x.k + 2 < P.Plain.cs c then { x with k := x.k + 1 } else { x with k := x.k + 1, push := PushS.new (3 + 3 * e + c) (cel t n i c 1) (cel t n i c (x.k + 1)) c, pc := 6 }) ∧
    x.mem s = s.store (cel t n i c (x.k + 1)) (hw 0 c 0 0 0 0 (if x.k + 2 < P.Plain.cs c then cel t n i c (x.k + 2) else 0)) ∧ Fr t n (x.mem s) fl v := by
  have hb := h.n64
  have e1 := K.ad hs (by omega)
  have e2 : x.mem s = s.store (cel t n i c (x.k + 1)) (hw 0 c 0 0 0 0 (if x.k + 2 < P.Plain.cs c then cel t n i c (x.k + 2) else 0)) := by simp only [TakeS.mem, hp, e1, K.cls]
  have hin := h.in_cel hi c0 c2 (show 0 ≤ x.k + 1 by omega) k1
  refine ⟨?_, e2, ?_⟩
  · by_cases hk : x.k + 2 < P.Plain.cs c
    · rw [if_pos hk]
      simp only [TakeS.next, hp, K.cls, if_pos hk]
    · rw [if_neg hk]
      simp only [TakeS.next, hp, e1, K.cls, K.set, if_neg hk]
  · rw [e2]
    exact h.store hin.1 (by omega) fun j hj he => by have := h.lt j hj; omega
/-- the steps of the list -/
theorem Fr.push (h : Fr t n s fl v) {u : PushS} (p0 : 3 ≤ u.hd) (p1 : u.hd ≤ 8) (q0 : 10 + (t : Int) + n ≤ u.lst) (q1 : s.In u.lst) : Fr t n (u.mem s) fl v := by
  have hin : s.In u.hd := h.in_low (by omega) (by have := h.n1; omega)
  unfold PushS.mem
  split
  · exact h.load hin
  · exact h.store q1 (by omega) fun j hj he => by have := h.lt j hj; omega
  · exact h.cas hin (by omega) fun j hj he => by have := h.lt j hj; omega
  · exact h
end
end
end Go.Proofs.YtbojljkdpebheaaDoor
