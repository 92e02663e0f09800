/-
  An access alone, of an object that is tagged, or was moved: no program in sight.
-/
import Derived.Test.YtahafmglidlcnaaDoorCa
namespace Go.Proofs.YtahafmglidlcnaaDoor
set_option linter.unusedVariables false
set_option linter.unusedSimpArgs false
set_option maxRecDepth 100000
open H.Plain (hw pS pC pN pM pG pT pL mv)

def rqW (f : Nat) (v : Vl) : Rq := ⟨2, 96, f, Vl.zero, v⟩
def rqR (f : Nat) : Rq := ⟨1, 96, f, Vl.zero, Vl.zero⟩
def rqS (u n : Vl) : Rq := ⟨3, 96, 0, u, n⟩
theorem go_W (f : Nat) (v : Vl) (b : Int) : Cw.go (rqW f v) false b = .dr ⟨some (.store (b + 1 + f) v), false, Ou.zero⟩ := rfl
theorem go_R (f : Nat) (b : Int) : Cw.go (rqR f) false b = .dr ⟨some (.read (b + 1 + f) false), false, Ou.zero⟩ := rfl
theorem go_S (u n : Vl) : Cw.go (rqS u n) false 96 = .dr ⟨some (.swap 97 (rqS u n) (hwC false)), false, Ou.zero⟩ ∧ Cw.go (rqS u n) false 112 = .dr ⟨some (.swap 113 (rqS u n) (hwC false)), false, Ou.zero⟩ := ⟨rfl, rfl⟩
section
variable {s : St} {h : Int} {a c old : Nat → Int} {m : Mo} {x : Cw} {r : Rq} {f : Nat}
/-- step 1 at each header -/
theorem hd_T (M : M6 s (HT 1) a c) (h1 : r.at_ = 96) (h2 : 0 ≤ r.fd) (h3 : r.fd < 3) (fx : Bool) : (Cw.hd r fx).next s = (if r.op = 1 then .rd r fx else .tk r fx (HT 1)) ∧ (Cw.hd r fx).mem s = s.load 96 := by
  constructor
  · simp only [Cw.next, h1, M.got96, h_T]
    rw [if_neg (by omega), if_neg (by decide), if_pos trivial]
  · simp only [Cw.mem, h1]
theorem hd_M (M : M6 s (HT 2) a c) (h1 : r.at_ = 96) (h2 : 0 ≤ r.fd) (h3 : r.fd < 3) (fx : Bool) : (Cw.hd r fx).next s = Cw.go r fx 112 ∧ (Cw.hd r fx).mem s = s.load 96 := by
  constructor
  · simp only [Cw.next, h1, M.got96, h_M]
    rw [if_neg (by omega), if_pos trivial]
  · simp only [Cw.mem, h1]
theorem hd_N (M : M6 s H0 a c) (h1 : r.at_ = 96) (h2 : 0 ≤ r.fd) (h3 : r.fd < 3) (fx : Bool) : (Cw.hd r fx).next s = Cw.go r fx 96 ∧ (Cw.hd r fx).mem s = s.load 96 := by
  constructor
  · simp only [Cw.next, h1, M.got96, h_N]
    rw [if_neg (by omega), if_neg (by decide), if_neg (by decide)]
  · simp only [Cw.mem, h1]
theorem tk_T (M : M6 s (HT 1) a c) (h1 : r.at_ = 96) (fx : Bool) : (Cw.tk r fx (HT 1)).next s = Cw.go r fx 96 ∧ M6 ((Cw.tk r fx (HT 1)).mem s) H0 a c := by
  obtain ⟨q1, q2⟩ := M.cas H0
  simp only [Cw.next, Cw.mem, h1, h_T, q1, if_true]
  exact ⟨trivial, q2⟩
theorem tk_no (M : M6 s h a c) (hh : h ≠ HT 1) (h1 : r.at_ = 96) (fx : Bool) : (Cw.tk r fx (HT 1)).next s = .hd r fx ∧ M6 ((Cw.tk r fx (HT 1)).mem s) h a c := by
  obtain ⟨q1, q2⟩ := M.still (n := H0) in96 (show s.word 96 ≠ HT 1 by rw [M.hd]; exact hh)
  simp only [Cw.next, Cw.mem, h1, h_T, q1, Bool.false_eq_true, if_false]
  exact ⟨trivial, q2⟩
theorem dr_W {v : Vl} (F : Int) (hit : Bool) : (Cw.dr ⟨some (.store F v), hit, Ou.zero⟩).next s = .fin true Ou.zero ∧ (Cw.dr ⟨some (.store F v), hit, Ou.zero⟩).mem s = s.store F v.w := ⟨rfl, rfl⟩
theorem dr_R (F : Int) (hit : Bool) : (Cw.dr ⟨some (.read F false), hit, Ou.zero⟩).next s = .fin true ⟨0, Vl.of (s.got F), false⟩ ∧ (Cw.dr ⟨some (.read F false), hit, Ou.zero⟩).mem s = s.load F := ⟨rfl, rfl⟩
theorem e97 (f : Nat) : (96 : Int) + 1 + (f : Int) = 97 + (f : Int) := by omega
theorem e113 (f : Nat) : (112 : Int) + 1 + (f : Int) = 113 + (f : Int) := by omega
/-! ### a write -/
structure KG (old : Nat → Int) (v : Vl) (f : Nat) (x : Cw) (m : Mo) (s : St) (r : Nat) : Prop where
  ok : m.Ok
  or_ : ∃ a c,
    (M6 s (HT 1) a c ∧ (∀ k, k < 3 → a k = old k) ∧ Cop old m c ∧ (x = .hd (rqW f v) false ∧ r = 3 ∨ x = .tk (rqW f v) false (HT 1) ∧ r = 2)) ∨
    (M6 s H0 a c ∧ (x = .dr ⟨some (.store (97 + (f : Int)) v), false, Ou.zero⟩ ∧ r = 1 ∧ (∀ k, k < 3 → a k = old k) ∨ x = .fin true Ou.zero ∧ r = 0 ∧ ∀ k, k < 3 → a k = updN old f v.w k)) ∨
    (M6 s (HT 2) a c ∧ m.pc = 7 ∧ (((x = .tk (rqW f v) false (HT 1) ∧ r = 3 ∨ x = .hd (rqW f v) false ∧ r = 2 ∨ x = .dr ⟨some (.store (113 + (f : Int)) v), false, Ou.zero⟩ ∧ r = 1) ∧ (∀ k, k < 3 → c k = old k)) ∨ x = .fin true Ou.zero ∧ r = 0 ∧ ∀ k, k < 3 → c k = updN old f v.w k))
theorem upd3 {old a : Nat → Int} (h : ∀ k, k < 3 → a k = old k) (f : Nat) (v : Int) : ∀ k, k < 3 → updN a f v k = updN old f v k := fun k hk => by
  unfold updN; split
  · rfl
  · exact h k hk
variable {v : Vl} {n : Nat}
theorem KG.le (G : KG old v f x m s n) : n ≤ 3 := by
  obtain ⟨ok, a, c, ⟨_, _, _, h | h⟩ | ⟨_, h | h⟩ | ⟨_, _, ⟨h | h | h, _⟩ | h⟩⟩ := G <;> omega
theorem KG.w (G : KG old v f x m s n) (hf : f < 3) : KG old v f (x.next s) m (x.mem s) (n - 1) := by
  refine ⟨G.ok, ?_⟩
  obtain ⟨ok, a, c, ⟨M, ha, C, ⟨rfl, rfl⟩ | ⟨rfl, rfl⟩⟩ | ⟨M, ⟨rfl, rfl, ha⟩ | ⟨rfl, rfl, ha⟩⟩ | ⟨M, h7, ⟨⟨rfl, rfl⟩ | ⟨rfl, rfl⟩ | ⟨rfl, rfl⟩, hc⟩ | ⟨rfl, rfl, hc⟩⟩⟩ := G
  · obtain ⟨e1, e2⟩ := hd_T (r := rqW f v) M rfl (by simp [rqW]) (by simp only [rqW]; omega) false
    rw [e1, e2]
    exact ⟨a, c, .inl ⟨M.load in96, ha, C, .inr ⟨rfl, rfl⟩⟩⟩
  · obtain ⟨e1, e2⟩ := tk_T (r := rqW f v) M rfl false
    rw [e1, go_W, e97]
    exact ⟨a, c, .inr (.inl ⟨e2, .inl ⟨rfl, rfl, ha⟩⟩)⟩
  · obtain ⟨e1, e2⟩ := dr_W (s := s) (v := v) (97 + (f : Int)) false
    rw [e1, e2]
    exact ⟨_, c, .inr (.inl ⟨M.storeA hf v.w, .inr ⟨rfl, rfl, upd3 ha f v.w⟩⟩)⟩
  · exact ⟨a, c, .inr (.inl ⟨M, .inr ⟨rfl, rfl, ha⟩⟩)⟩
  · obtain ⟨e1, e2⟩ := tk_no (r := rqW f v) M (Ne.symm h_ne.1) rfl false
    rw [e1]
    exact ⟨a, c, .inr (.inr ⟨e2, h7, .inl ⟨.inr (.inl ⟨rfl, rfl⟩), hc⟩⟩)⟩
  · obtain ⟨e1, e2⟩ := hd_M (r := rqW f v) M rfl (by simp [rqW]) (by simp only [rqW]; omega) false
    rw [e1, e2, go_W, e113]
    exact ⟨a, c, .inr (.inr ⟨M.load in96, h7, .inl ⟨.inr (.inr ⟨rfl, rfl⟩), hc⟩⟩)⟩
  · obtain ⟨e1, e2⟩ := dr_W (s := s) (v := v) (113 + (f : Int)) false
    rw [e1, e2]
    exact ⟨a, _, .inr (.inr ⟨M.storeC hf v.w, h7, .inr ⟨rfl, rfl, upd3 hc f v.w⟩⟩)⟩
  · exact ⟨a, c, .inr (.inr ⟨M, h7, .inr ⟨rfl, rfl, hc⟩⟩)⟩
theorem KG.mo (G : KG old v f x m s n) (hr : s.Rng) : ∃ n', KG old v f x (m.next s) (m.mem s) n' := by
  have okn := G.ok.next hr
  obtain ⟨ok, a, c, ⟨M, ha, C, hx⟩ | ⟨M, hx⟩ | ⟨M, h7, hx⟩⟩ := G
  · rcases C.step M ha with ⟨_, c', M', C'⟩ | ⟨_, M', p7, hc⟩
    · exact ⟨n, okn, a, c', .inl ⟨M', ha, C', hx⟩⟩
    · rcases hx with ⟨rfl, rfl⟩ | ⟨rfl, rfl⟩
      · exact ⟨2, okn, a, c, .inr (.inr ⟨M', p7, .inl ⟨.inr (.inl ⟨rfl, rfl⟩), hc⟩⟩)⟩
      · exact ⟨3, okn, a, c, .inr (.inr ⟨M', p7, .inl ⟨.inl ⟨rfl, rfl⟩, hc⟩⟩)⟩
  · obtain ⟨c', M'⟩ := cop_N ok M
    exact ⟨n, okn, a, c', .inr (.inl ⟨M', hx⟩)⟩
  · obtain ⟨e1, e2⟩ := cop_done h7 s
    rw [e1, e2]
    exact ⟨n, ok, a, c, .inr (.inr ⟨M, h7, hx⟩)⟩
/-- where the object is, and what its fields have -/
def At3 (s : St) (g : Nat → Int) : Prop := ∃ a c, (M6 s H0 a c ∧ ∀ k, k < 3 → a k = g k) ∨ (M6 s (HT 2) a c ∧ ∀ k, k < 3 → c k = g k)
theorem KG.fin (G : KG old v f x m s 0) : x.done = true ∧ At3 s (updN old f v.w) := by
  obtain ⟨ok, a, c, ⟨M, ha, C, ⟨rfl, h⟩ | ⟨rfl, h⟩⟩ | ⟨M, ⟨rfl, h, ha⟩ | ⟨rfl, h, ha⟩⟩ | ⟨M, h7, ⟨⟨rfl, h⟩ | ⟨rfl, h⟩ | ⟨rfl, h⟩, hc⟩ | ⟨rfl, h, hc⟩⟩⟩ := G
  · omega
  · omega
  · omega
  · exact ⟨rfl, a, c, .inl ⟨M, ha⟩⟩
  · omega
  · omega
  · omega
  · exact ⟨rfl, a, c, .inr ⟨M, hc⟩⟩
theorem KG.done (G : KG old v f x m s n) : x.done = true ↔ n = 0 := by
  obtain ⟨ok, a, c, ⟨M, ha, C, ⟨rfl, rfl⟩ | ⟨rfl, rfl⟩⟩ | ⟨M, ⟨rfl, rfl, ha⟩ | ⟨rfl, rfl, ha⟩⟩ | ⟨M, h7, ⟨⟨rfl, rfl⟩ | ⟨rfl, rfl⟩ | ⟨rfl, rfl⟩, hc⟩ | ⟨rfl, rfl, hc⟩⟩⟩ := G <;> simp [Cw.done]
theorem At3.t {g : Nat → Int} (A : At3 s g) : s.t = 0 := by
  obtain ⟨a, c, ⟨M, _⟩ | ⟨M, _⟩⟩ := A
  · exact M.t
  · exact M.t
/-- what is read of it, alone -/
theorem At3.read {g : Nat → Int} (A : At3 s g) {k : Nat} (hk : k < 3) : ∃ s', EndsC (.hd (rqR k) false) s 2 (.fin true ⟨0, Vl.of (g k), false⟩) s' ∧ At3 s' g := by
  obtain ⟨a, c, ⟨M, ha⟩ | ⟨M, hc⟩⟩ := A
  · obtain ⟨e1, e2⟩ := hd_N (r := rqR k) M rfl (by simp [rqR]) (by simp only [rqR]; omega) false
    rw [go_R, e97] at e1
    obtain ⟨e3, e4⟩ := dr_R (s := s.load 96) (97 + (k : Int)) false
    rw [(M.load in96).gota hk, ha k hk] at e3
    exact ⟨_, EndsC.step rfl e1 e2 (EndsC.step rfl e3 e4 (EndsC.zero rfl)), a, c, .inl ⟨(M.load in96).load (in_a hk), ha⟩⟩
  · obtain ⟨e1, e2⟩ := hd_M (r := rqR k) M rfl (by simp [rqR]) (by simp only [rqR]; omega) false
    rw [go_R, e113] at e1
    obtain ⟨e3, e4⟩ := dr_R (s := s.load 96) (113 + (k : Int)) false
    rw [(M.load in96).gotc hk, hc k hk] at e3
    exact ⟨_, EndsC.step rfl e1 e2 (EndsC.step rfl e3 e4 (EndsC.zero rfl)), a, c, .inr ⟨(M.load in96).load (in_c hk), hc⟩⟩
/-! ### a read -/
structure RG (old : Nat → Int) (f : Nat) (x : Cw) (m : Mo) (s : St) (r : Nat) : Prop where
  ok : m.Ok
  or_ : ∃ a c, (∀ k, k < 3 → a k = old k) ∧
    ((M6 s (HT 1) a c ∧ Cop old m c) ∨ (M6 s (HT 2) a c ∧ m.pc = 7 ∧ ∀ k, k < 3 → c k = old k)) ∧
    (x = .hd (rqR f) false ∧ r = 4 ∨ x = .rd (rqR f) false ∧ r = 3 ∨ x = .ag (rqR f) false (old f) ∧ r = 2 ∨ (M6 s (HT 2) a c ∧ x = .dr ⟨some (.read (113 + (f : Int)) false), false, Ou.zero⟩ ∧ r = 1) ∨ (∃ b, x = .fin b ⟨0, Vl.of (old f), false⟩) ∧ r = 0)
theorem RG.le (G : RG old f x m s n) : n ≤ 4 := by
  obtain ⟨ok, a, c, _, _, h | h | h | h | h⟩ := G <;> omega
theorem RG.rx (G : RG old f x m s n) (hf : f < 3) (h0 : n ≠ 0) : ∃ n', n' < n ∧ RG old f (x.next s) m (x.mem s) n' := by
  obtain ⟨ok, a, c, ha, hM, ⟨rfl, rfl⟩ | ⟨rfl, rfl⟩ | ⟨rfl, rfl⟩ | ⟨M, rfl, rfl⟩ | ⟨_, rfl⟩⟩ := G
  · rcases hM with ⟨M, C⟩ | ⟨M, h7, hc⟩
    · obtain ⟨e1, e2⟩ := hd_T (r := rqR f) M rfl (by simp [rqR]) (by simp only [rqR]; omega) false
      rw [e1, e2]
      exact ⟨3, by omega, ok, a, c, ha, .inl ⟨M.load in96, C⟩, .inr (.inl ⟨rfl, rfl⟩)⟩
    · obtain ⟨e1, e2⟩ := hd_M (r := rqR f) M rfl (by simp [rqR]) (by simp only [rqR]; omega) false
      rw [e1, e2, go_R, e113]
      exact ⟨1, by omega, ok, a, c, ha, .inr ⟨M.load in96, h7, hc⟩, .inr (.inr (.inr (.inl ⟨M.load in96, rfl, rfl⟩)))⟩
  · have e2 : (Cw.rd (rqR f) false).mem s = s.load (97 + (f : Int)) := by simp only [Cw.mem, rqR]; rw [e97]
    have e1 : (Cw.rd (rqR f) false).next s = .ag (rqR f) false (s.got (97 + (f : Int))) := by simp only [Cw.next, rqR]; rw [e97]
    rcases hM with ⟨M, C⟩ | ⟨M, h7, hc⟩
    · rw [e1, e2, M.gota hf, ha f hf]
      exact ⟨2, by omega, ok, a, c, ha, .inl ⟨M.load (in_a hf), C⟩, .inr (.inr (.inl ⟨rfl, rfl⟩))⟩
    · rw [e1, e2, M.gota hf, ha f hf]
      exact ⟨2, by omega, ok, a, c, ha, .inr ⟨M.load (in_a hf), h7, hc⟩, .inr (.inr (.inl ⟨rfl, rfl⟩))⟩
  · rcases hM with ⟨M, C⟩ | ⟨M, h7, hc⟩
    · have e1 : (Cw.ag (rqR f) false (old f)).next s = .fin false ⟨0, Vl.of (old f), false⟩ := by
        simp only [Cw.next, rqR, M.got96, h_T]; rw [if_neg (by decide)]
      rw [e1]
      exact ⟨0, by omega, ok, a, c, ha, .inl ⟨M.load in96, C⟩, .inr (.inr (.inr (.inr ⟨⟨_, rfl⟩, rfl⟩)))⟩
    · have e1 : (Cw.ag (rqR f) false (old f)).next s = Cw.go (rqR f) false 112 := by
        simp only [Cw.next, M.got96, h_M, show (rqR f).at_ = 96 from rfl]; rw [if_pos trivial]
      rw [e1, go_R, e113]
      exact ⟨1, by omega, ok, a, c, ha, .inr ⟨M.load in96, h7, hc⟩, .inr (.inr (.inr (.inl ⟨M.load in96, rfl, rfl⟩)))⟩
  · rcases hM with ⟨M', C⟩ | ⟨M, h7, hc⟩
    · exact absurd (M'.hd.symm.trans M.hd) h_ne.1
    · obtain ⟨e3, e4⟩ := dr_R (s := s) (113 + (f : Int)) false
      rw [e3, e4, M.gotc hf, hc f hf]
      exact ⟨0, by omega, ok, a, c, ha, .inr ⟨M.load (in_c hf), h7, hc⟩, .inr (.inr (.inr (.inr ⟨⟨_, rfl⟩, rfl⟩)))⟩
  · exact absurd rfl h0
theorem RG.mo (G : RG old f x m s n) (hr : s.Rng) : RG old f x (m.next s) (m.mem s) n := by
  have okn := G.ok.next hr
  obtain ⟨ok, a, c, ha, ⟨M, C⟩ | ⟨M, h7, hc⟩, hx⟩ := G
  · rcases C.step M ha with ⟨_, c', M', C'⟩ | ⟨_, M', p7, hc⟩
    · refine ⟨okn, a, c', ha, .inl ⟨M', C'⟩, ?_⟩
      rcases hx with h | h | h | ⟨h, _⟩ | h
      · exact .inl h
      · exact .inr (.inl h)
      · exact .inr (.inr (.inl h))
      · exact absurd (M.hd.symm.trans h.hd) h_ne.1
      · exact .inr (.inr (.inr (.inr h)))
    · refine ⟨okn, a, c, ha, .inr ⟨M', p7, hc⟩, ?_⟩
      rcases hx with h | h | h | ⟨h, _⟩ | h
      · exact .inl h
      · exact .inr (.inl h)
      · exact .inr (.inr (.inl h))
      · exact absurd (M.hd.symm.trans h.hd) h_ne.1
      · exact .inr (.inr (.inr (.inr h)))
  · obtain ⟨e1, e2⟩ := cop_done h7 s
    rw [e1, e2]
    exact ⟨ok, a, c, ha, .inr ⟨M, h7, hc⟩, hx⟩
theorem RG.done (G : RG old f x m s n) : (x.done = true ↔ n = 0) ∧ (n = 0 → x.o.v = Vl.of (old f)) := by
  obtain ⟨ok, a, c, ha, hM, ⟨rfl, rfl⟩ | ⟨rfl, rfl⟩ | ⟨rfl, rfl⟩ | ⟨M, rfl, rfl⟩ | ⟨⟨b, rfl⟩, rfl⟩⟩ := G <;> simp [Cw.done, Cw.o]
end
/-! ### two Swaps -/
def oneP (v : Vl) : Vl := if v.k = 1 ∧ v.n = 112 then ⟨1, 96⟩ else v
/-- where an object is, by where the first one's fields are -/
def plc (F n : Int) : Int := if n = 96 then F - 1 else n
/-- the object is settled: its field stands at F and has w -/
def Here (s : St) (m : Mo) (F w : Int) : Prop := (F = 97 ∧ ∃ a c, M6 s H0 a c ∧ a 0 = w) ∨ (F = 113 ∧ m.pc = 7 ∧ ∃ a c, M6 s (HT 2) a c ∧ c 0 = w)
section
variable {s : St} {m : Mo} {F w : Int} {u n mm : Vl} {x : Cw} {z : Int} {k : Nat}
theorem Here.load (H : Here s m F w) {a : Int} (ha : In a) : Here (s.load a) m F w := by
  obtain ⟨e, a, c, M, h⟩ | ⟨e, h7, a, c, M, h⟩ := H
  · exact .inl ⟨e, a, c, M.load ha, h⟩
  · exact .inr ⟨e, h7, a, c, M.load ha, h⟩
theorem Here.inF (H : Here s m F w) : In F := by
  obtain ⟨e, _⟩ | ⟨e, _⟩ := H <;> (subst e; exact ⟨by omega, by omega⟩)
theorem Here.got (H : Here s m F w) : s.got F = w := by
  obtain ⟨rfl, a, c, M, h⟩ | ⟨rfl, h7, a, c, M, h⟩ := H
  · have := M.gota (k := 0) (by omega); rw [← h, ← this]; rfl
  · have := M.gotc (k := 0) (by omega); rw [← h, ← this]; rfl
theorem Here.hd (H : Here s m F w) (u n : Vl) : (Cw.hd (rqS u n) false).next s = .dr ⟨some (.swap F (rqS u n) (hwC false)), false, Ou.zero⟩ ∧ (Cw.hd (rqS u n) false).mem s = s.load 96 := by
  obtain ⟨rfl, a, c, M, h⟩ | ⟨rfl, h7, a, c, M, h⟩ := H
  · obtain ⟨e1, e2⟩ := hd_N (r := rqS u n) M rfl (by simp [rqS]) (by simp [rqS]) false
    exact ⟨e1.trans (go_S u n).1, e2⟩
  · obtain ⟨e1, e2⟩ := hd_M (r := rqS u n) M rfl (by simp [rqS]) (by simp [rqS]) false
    exact ⟨e1.trans (go_S u n).2, e2⟩
theorem Here.tk (H : Here s m F w) (u n : Vl) : (Cw.tk (rqS u n) false (HT 1)).next s = .hd (rqS u n) false ∧ Here ((Cw.tk (rqS u n) false (HT 1)).mem s) m F w := by
  obtain ⟨e, a, c, M, h⟩ | ⟨e, h7, a, c, M, h⟩ := H
  · obtain ⟨e1, e2⟩ := tk_no (r := rqS u n) M (Ne.symm h_ne.2.1) rfl false
    exact ⟨e1, .inl ⟨e, a, c, e2, h⟩⟩
  · obtain ⟨e1, e2⟩ := tk_no (r := rqS u n) M (Ne.symm h_ne.1) rfl false
    exact ⟨e1, .inr ⟨e, h7, a, c, e2, h⟩⟩
theorem Here.cas (H : Here s m F w) (v : Int) : s.ok1 F w = true ∧ Here (s.cas F w v) m F v := by
  obtain ⟨rfl, a, c, M, rfl⟩ | ⟨rfl, h7, a, c, M, rfl⟩ := H
  · obtain ⟨e1, e2⟩ := M.casA (k := 0) (by omega) v
    exact ⟨e1, .inl ⟨rfl, _, c, e2, by simp [updN]⟩⟩
  · obtain ⟨e1, e2⟩ := M.casC (k := 0) (by omega) v
    exact ⟨e1, .inr ⟨rfl, h7, a, _, e2, by simp [updN]⟩⟩
theorem Here.cas_no (H : Here s m F w) {z : Int} (hz : w ≠ z) (v : Int) : s.ok1 F z = false ∧ Here (s.cas F z v) m F w := by
  have hg := H.got
  have hi := H.inF
  obtain ⟨e, a, c, M, h⟩ | ⟨e, h7, a, c, M, h⟩ := H
  · rw [hi.got M.len] at hg
    obtain ⟨e1, e2⟩ := M.still (n := v) hi (show s.word F ≠ z by rw [hg]; exact hz)
    exact ⟨e1, .inl ⟨e, a, c, e2, h⟩⟩
  · rw [hi.got M.len] at hg
    obtain ⟨e1, e2⟩ := M.still (n := v) hi (show s.word F ≠ z by rw [hg]; exact hz)
    exact ⟨e1, .inr ⟨e, h7, a, c, e2, h⟩⟩
theorem Here.mo (H : Here s m F w) (ok : m.Ok) : Here (m.mem s) (m.next s) F w := by
  obtain ⟨e, a, c, M, h⟩ | ⟨e, h7, a, c, M, h⟩ := H
  · obtain ⟨c', M'⟩ := cop_N ok M
    exact .inl ⟨e, a, c', M', h⟩
  · obtain ⟨e1, e2⟩ := cop_done h7 s
    rw [e1, e2]
    exact .inr ⟨e, h7, a, c, M, h⟩
theorem Here.plc (H : Here s m F w) {n : Int} (hn : n = 96 ∨ n = 100 ∨ n = 112) : mv (s.got n) n = plc F n := by
  have I0 : In 100 := ⟨by omega, by omega⟩
  have I1 : In 112 := ⟨by omega, by omega⟩
  unfold Go.Proofs.YtahafmglidlcnaaDoor.plc
  obtain ⟨rfl, a, c, M, h⟩ | ⟨rfl, h7, a, c, M, h⟩ := H
  · rcases hn with rfl | rfl | rfl
    · rw [M.got96, mv_vals.2.2.1]; rfl
    · rw [I0.got M.len, M.o1, mv_vals.2.2.2.1]; rfl
    · rw [I1.got M.len, M.o2, mv_vals.2.2.2.2]; rfl
  · rcases hn with rfl | rfl | rfl
    · rw [M.got96, mv_vals.2.1]; rfl
    · rw [I0.got M.len, M.o1, mv_vals.2.2.2.1]; rfl
    · rw [I1.got M.len, M.o2, mv_vals.2.2.2.2]; rfl
theorem plc_ne (hF : F = 97 ∨ F = 113) (gm : mm.Good) (gu : u.Good) (f1 : mm.far = true) (f2 : u.far = true) (ho : oneP mm ≠ oneP u) : plc F mm.n ≠ plc F u.n := by
  have k1 : mm.k = 1 := by simp only [Vl.far, Bool.and_eq_true, beq_iff_eq] at f1; exact f1.1
  have k2 : u.k = 1 := by simp only [Vl.far, Bool.and_eq_true, beq_iff_eq] at f2; exact f2.1
  have n1 := gm.far f1
  have n2 := gu.far f2
  obtain ⟨ka, na⟩ := mm
  obtain ⟨kb, nb⟩ := u
  simp only at k1 k2 n1 n2
  subst k1 k2
  rcases hF with rfl | rfl <;> rcases n1 with rfl | rfl | rfl <;> rcases n2 with rfl | rfl | rfl <;> first | decide | exact absurd rfl ho | exact absurd (by decide) ho
theorem Here.hF (H : Here s m F w) : F = 97 ∨ F = 113 := by
  obtain ⟨e, _⟩ | ⟨e, _⟩ := H
  · exact .inl e
  · exact .inr e
/-- it waits for the tag -/
def Wt (u n : Vl) (x : Cw) (r : Nat) : Prop := x = .hd (rqS u n) false ∧ r = 8 ∨ x = .tk (rqS u n) false (HT 1) ∧ r = 7
/-- nobody has swapped -/
def Un (u n : Vl) (z F : Int) (x : Cw) (r : Nat) : Prop := x = .tk (rqS u n) false (HT 1) ∧ r = 7 ∨ x = .hd (rqS u n) false ∧ r = 6 ∨ (∃ b, x = .dr ⟨some (.swap F (rqS u n) (hwC false)), b, Ou.zero⟩) ∧ r = 5 ∨ (∃ b, x = .dr ⟨some (.exch F z (rqS u n) (hwC false)), b, Ou.zero⟩) ∧ r = 4
/-- another one has: mm is what the field has now -/
def Sw (u n : Vl) (z F : Int) (mm : Vl) (x : Cw) (r : Nat) : Prop := x = .tk (rqS u n) false (HT 1) ∧ r = 7 ∨ x = .hd (rqS u n) false ∧ r = 6 ∨ (∃ b, x = .dr ⟨some (.exch F z (rqS u n) (hwC false)), b, Ou.zero⟩) ∧ r = 4 ∨ (∃ b, x = .dr ⟨some (.swap F (rqS u n) (hwC false)), b, Ou.zero⟩) ∧ r = 3 ∨
  (mm.far = true ∧ u.far = true ∧ ((∃ b, x = .dr ⟨some (.compS mm.n u.n (.exch F mm.w (rqS u n) (hwC false))), b, Ou.zero⟩) ∧ r = 2 ∨ (∃ b, x = .dr ⟨some (.comp2S (plc F mm.n) u.n (.exch F mm.w (rqS u n) (hwC false))), b, Ou.zero⟩) ∧ r = 1)) ∨ (∃ b, x = .fin b Ou.zero) ∧ r = 0
theorem behC (F w : Int) (u n : Vl) : behind F w (rqS u n) (hwC false) = .exch F w (rqS u n) (hwC false) := by simp [behind, shadeK, hwC]
theorem Un.step {r : Nat} (h : Un u n z F x r) (H : Here s m F z) (hu : Vl.of z = u) : ∃ r', r' < r ∧ ((Un u n z F (x.next s) r' ∧ Here (x.mem s) m F z) ∨ (r' = 0 ∧ (∃ b, x.next s = .fin b ⟨0, Vl.zero, true⟩) ∧ Here (x.mem s) m F n.w)) := by
  rcases h with ⟨rfl, rfl⟩ | ⟨rfl, rfl⟩ | ⟨⟨b, rfl⟩, rfl⟩ | ⟨⟨b, rfl⟩, rfl⟩
  · obtain ⟨e1, e2⟩ := H.tk u n
    exact ⟨6, by omega, .inl ⟨.inr (.inl ⟨e1, rfl⟩), e2⟩⟩
  · obtain ⟨e1, e2⟩ := H.hd u n
    rw [e1, e2]
    exact ⟨5, by omega, .inl ⟨.inr (.inr (.inl ⟨⟨_, rfl⟩, rfl⟩)), H.load in96⟩⟩
  · have e1 : (Cw.dr ⟨some (.swap F (rqS u n) (hwC false)), b, Ou.zero⟩).next s = .dr ⟨some (.exch F z (rqS u n) (hwC false)), true, Ou.zero⟩ := by
      simp only [Cw.next, Cw.onD, Sx.next, K.next, H.got, hu]
      rw [if_pos (show u = (rqS u n).x from rfl), behC]
      rfl
    rw [e1]
    exact ⟨4, by omega, .inl ⟨.inr (.inr (.inr ⟨⟨_, rfl⟩, rfl⟩)), H.load H.inF⟩⟩
  · obtain ⟨q1, q2⟩ := H.cas n.w
    have e1 : (Cw.dr ⟨some (.exch F z (rqS u n) (hwC false)), b, Ou.zero⟩).next s = .fin true ⟨0, Vl.zero, true⟩ := by
      simp only [Cw.next, Cw.onD, Sx.next, K.next, q1]
      rfl
    rw [e1]
    exact ⟨0, by omega, .inr ⟨rfl, ⟨_, rfl⟩, q2⟩⟩
theorem Un.sw {r : Nat} (h : Un u n z F x r) (mm : Vl) : ∃ r', r' ≤ r ∧ Sw u n z F mm x r' := by
  rcases h with ⟨rfl, rfl⟩ | ⟨rfl, rfl⟩ | ⟨⟨b, rfl⟩, rfl⟩ | ⟨⟨b, rfl⟩, rfl⟩
  · exact ⟨7, by omega, .inl ⟨rfl, rfl⟩⟩
  · exact ⟨6, by omega, .inr (.inl ⟨rfl, rfl⟩)⟩
  · exact ⟨3, by omega, .inr (.inr (.inr (.inl ⟨⟨_, rfl⟩, rfl⟩)))⟩
  · exact ⟨4, by omega, .inr (.inr (.inl ⟨⟨_, rfl⟩, rfl⟩))⟩
theorem Wt.un {r : Nat} (h : Wt u n x r) (z F : Int) : ∃ r', r' ≤ r ∧ Un u n z F x r' := by
  rcases h with ⟨rfl, rfl⟩ | ⟨rfl, rfl⟩
  · exact ⟨6, by omega, .inr (.inl ⟨rfl, rfl⟩)⟩
  · exact ⟨7, by omega, .inl ⟨rfl, rfl⟩⟩
theorem Sw.step {r : Nat} (h : Sw u n z F mm x r) (H : Here s m F mm.w) (hu : Vl.of z = u) (gm : mm.Good) (gu : u.Good) (ho : oneP mm ≠ oneP u) (h0 : r ≠ 0) : ∃ r', r' < r ∧ Sw u n z F mm (x.next s) r' ∧ Here (x.mem s) m F mm.w := by
  have hne : mm ≠ u := fun e => ho (by rw [e])
  rcases h with ⟨rfl, rfl⟩ | ⟨rfl, rfl⟩ | ⟨⟨b, rfl⟩, rfl⟩ | ⟨⟨b, rfl⟩, rfl⟩ | ⟨f1, f2, ⟨⟨b, rfl⟩, rfl⟩ | ⟨⟨b, rfl⟩, rfl⟩⟩ | ⟨⟨b, rfl⟩, rfl⟩
  · obtain ⟨e1, e2⟩ := H.tk u n
    exact ⟨6, by omega, .inr (.inl ⟨e1, rfl⟩), e2⟩
  · obtain ⟨e1, e2⟩ := H.hd u n
    rw [e1, e2]
    exact ⟨3, by omega, .inr (.inr (.inr (.inl ⟨⟨_, rfl⟩, rfl⟩))), H.load in96⟩
  · have ne : mm.w ≠ z := fun e => hne (by rw [← gm.of, e, hu])
    obtain ⟨q1, q2⟩ := H.cas_no ne n.w
    have e1 : (Cw.dr ⟨some (.exch F z (rqS u n) (hwC false)), b, Ou.zero⟩).next s = .dr ⟨some (.swap F (rqS u n) (hwC false)), false, Ou.zero⟩ := by
      simp only [Cw.next, Cw.onD, Sx.next, K.next, q1]
      rfl
    rw [e1]
    exact ⟨3, by omega, .inr (.inr (.inr (.inl ⟨⟨_, rfl⟩, rfl⟩))), q2⟩
  · rcases hf : (mm.far && u.far) with _ | _
    · have e1 : (Cw.dr ⟨some (.swap F (rqS u n) (hwC false)), b, Ou.zero⟩).next s = .fin true Ou.zero := by
        simp only [Cw.next, Cw.onD, Sx.next, K.next, H.got, gm.of]
        rw [if_neg (show ¬ mm = (rqS u n).x from hne), if_neg (show ¬ ((hwC false).ca && mm.far && (rqS u n).x.far) = true by simpa [hwC, rqS] using hf)]
        rfl
      rw [e1]
      exact ⟨0, by omega, .inr (.inr (.inr (.inr (.inr ⟨⟨_, rfl⟩, rfl⟩)))), H.load H.inF⟩
    · have e1 : (Cw.dr ⟨some (.swap F (rqS u n) (hwC false)), b, Ou.zero⟩).next s = .dr ⟨some (.compS mm.n u.n (.exch F mm.w (rqS u n) (hwC false))), true, Ou.zero⟩ := by
        simp only [Cw.next, Cw.onD, Sx.next, K.next, H.got, gm.of]
        rw [if_neg (show ¬ mm = (rqS u n).x from hne), if_pos (show ((hwC false).ca && mm.far && (rqS u n).x.far) = true by simpa [hwC, rqS] using hf), behC]
        rfl
      rw [e1]
      simp only [Bool.and_eq_true] at hf
      exact ⟨2, by omega, .inr (.inr (.inr (.inr (.inl ⟨hf.1, hf.2, .inl ⟨⟨_, rfl⟩, rfl⟩⟩)))), H.load H.inF⟩
  · have I : In mm.n := by rcases gm.far f1 with e | e | e <;> (rw [e]; exact ⟨by omega, by omega⟩)
    have e1 : (Cw.dr ⟨some (.compS mm.n u.n (.exch F mm.w (rqS u n) (hwC false))), b, Ou.zero⟩).next s = .dr ⟨some (.comp2S (plc F mm.n) u.n (.exch F mm.w (rqS u n) (hwC false))), false, Ou.zero⟩ := by
      simp only [Cw.next, Cw.onD, Sx.next, K.next, H.plc (gm.far f1)]
      rfl
    rw [e1]
    exact ⟨1, by omega, .inr (.inr (.inr (.inr (.inl ⟨f1, f2, .inr ⟨⟨_, rfl⟩, rfl⟩⟩)))), H.load I⟩
  · have I : In u.n := by rcases gu.far f2 with e | e | e <;> (rw [e]; exact ⟨by omega, by omega⟩)
    have e1 : (Cw.dr ⟨some (.comp2S (plc F mm.n) u.n (.exch F mm.w (rqS u n) (hwC false))), b, Ou.zero⟩).next s = .fin false Ou.zero := by
      simp only [Cw.next, Cw.onD, Sx.next, K.next, H.plc (gu.far f2)]
      rw [if_neg (plc_ne H.hF gm gu f1 f2 ho)]
      rfl
    rw [e1]
    exact ⟨0, by omega, .inr (.inr (.inr (.inr (.inr ⟨⟨_, rfl⟩, rfl⟩)))), H.load I⟩
  · exact absurd rfl h0
theorem Sw.fin {r : Nat} (h : Sw u n z F mm x r) (h0 : r = 0) : ∃ b, x = .fin b Ou.zero := by
  rcases h with ⟨_, h⟩ | ⟨_, h⟩ | ⟨_, h⟩ | ⟨_, h⟩ | ⟨_, _, ⟨_, h⟩ | ⟨_, h⟩⟩ | ⟨h, _⟩
  all_goals first | omega | exact h
theorem Sw.still {r : Nat} (h : Sw u n z F mm x r) (h0 : r = 0) (s : St) : x.next s = x ∧ x.mem s = s := by
  obtain ⟨b, rfl⟩ := h.fin h0
  exact ⟨rfl, rfl⟩
/-- the game of two and the one that copies -/
structure SG (old : Nat → Int) (u a b : Vl) (z : Int) (x0 x1 : Cw) (m : Mo) (s : St) (r0 r1 : Nat) : Prop where
  ok : m.Ok
  or_ :
    (∃ fa fc, M6 s (HT 1) fa fc ∧ (∀ k, k < 3 → fa k = old k) ∧ Cop old m fc ∧ Wt u a x0 r0 ∧ Wt u b x1 r1) ∨
    (∃ F, Here s m F z ∧ Un u a z F x0 r0 ∧ Un u b z F x1 r1) ∨
    (∃ F, Here s m F a.w ∧ (∃ t, x0 = .fin t ⟨0, Vl.zero, true⟩) ∧ r0 = 0 ∧ Sw u b z F a x1 r1) ∨
    (∃ F, Here s m F b.w ∧ (∃ t, x1 = .fin t ⟨0, Vl.zero, true⟩) ∧ r1 = 0 ∧ Sw u a z F b x0 r0)
/-- the other way round -/
theorem SG.flip {old : Nat → Int} {a b : Vl} {x0 x1 : Cw} {r0 r1 : Nat} (G : SG old u a b z x0 x1 m s r0 r1) : SG old u b a z x1 x0 m s r1 r0 := by
  obtain ⟨ok, ⟨fa, fc, M, h1, C, w0, w1⟩ | ⟨F, H, u0, u1⟩ | ⟨F, H, t, h0, w⟩ | ⟨F, H, t, h0, w⟩⟩ := G
  · exact ⟨ok, .inl ⟨fa, fc, M, h1, C, w1, w0⟩⟩
  · exact ⟨ok, .inr (.inl ⟨F, H, u1, u0⟩)⟩
  · exact ⟨ok, .inr (.inr (.inr ⟨F, H, t, h0, w⟩))⟩
  · exact ⟨ok, .inr (.inr (.inl ⟨F, H, t, h0, w⟩))⟩
theorem SG.le {old : Nat → Int} {a b : Vl} {x0 x1 : Cw} {r0 r1 : Nat} (G : SG old u a b z x0 x1 m s r0 r1) : r0 ≤ 8 ∧ r1 ≤ 8 := by
  obtain ⟨ok, ⟨fa, fc, M, h1, C, w0, w1⟩ | ⟨F, H, u0, u1⟩ | ⟨F, H, t, h0, w⟩ | ⟨F, H, t, h0, w⟩⟩ := G
  · rcases w0 with ⟨_, h⟩ | ⟨_, h⟩ <;> rcases w1 with ⟨_, h'⟩ | ⟨_, h'⟩ <;> omega
  · rcases u0 with ⟨_, h⟩ | ⟨_, h⟩ | ⟨_, h⟩ | ⟨_, h⟩ <;> rcases u1 with ⟨_, h'⟩ | ⟨_, h'⟩ | ⟨_, h'⟩ | ⟨_, h'⟩ <;> omega
  · rcases w with ⟨_, h⟩ | ⟨_, h⟩ | ⟨_, h⟩ | ⟨_, h⟩ | ⟨_, _, ⟨_, h⟩ | ⟨_, h⟩⟩ | ⟨_, h⟩ <;> omega
  · rcases w with ⟨_, h⟩ | ⟨_, h⟩ | ⟨_, h⟩ | ⟨_, h⟩ | ⟨_, _, ⟨_, h⟩ | ⟨_, h⟩⟩ | ⟨_, h⟩ <;> omega
/-- the first one steps -/
theorem SG.step0 {old : Nat → Int} {a b : Vl} {x0 x1 : Cw} {r0 r1 : Nat} (G : SG old u a b z x0 x1 m s r0 r1) (hz : old 0 = z) (hu : Vl.of z = u) (gu : u.Good) (ga : a.Good) (gb : b.Good) (oa : oneP a ≠ oneP u) (ob : oneP b ≠ oneP u) :
    ∃ r0' r1', (r0' < r0 ∨ r0' = 0) ∧ r1' ≤ r1 ∧ SG old u a b z (x0.next s) x1 m (x0.mem s) r0' r1' := by
  obtain ⟨ok, ⟨fa, fc, M, h1, C, w0, w1⟩ | ⟨F, H, u0, u1⟩ | ⟨F, H, ⟨t, rfl⟩, h0, w⟩ | ⟨F, H, t, h0, w⟩⟩ := G
  · rcases w0 with ⟨rfl, rfl⟩ | ⟨rfl, rfl⟩
    · obtain ⟨e1, e2⟩ := hd_T (r := rqS u a) M rfl (by simp [rqS]) (by simp [rqS]) false
      rw [e1, e2]
      exact ⟨7, r1, .inl (by omega), Nat.le_refl _, ok, .inl ⟨fa, fc, M.load in96, h1, C, .inr ⟨rfl, rfl⟩, w1⟩⟩
    · obtain ⟨e1, e2⟩ := tk_T (r := rqS u a) M rfl false
      rw [e1, (go_S u a).1]
      obtain ⟨r1', hr, u1⟩ := w1.un z 97
      exact ⟨5, r1', .inl (by omega), hr, ok, .inr (.inl ⟨97, .inl ⟨rfl, fa, fc, e2, by rw [h1 0 (by omega), hz]⟩, .inr (.inr (.inl ⟨⟨_, rfl⟩, rfl⟩)), u1⟩)⟩
  · obtain ⟨r', hr, ⟨u0', H'⟩ | ⟨h0, t, H'⟩⟩ := u0.step H hu
    · exact ⟨r', r1, .inl hr, Nat.le_refl _, ok, .inr (.inl ⟨F, H', u0', u1⟩)⟩
    · obtain ⟨r1', hr1, w⟩ := u1.sw a
      exact ⟨0, r1', .inr rfl, hr1, ok, .inr (.inr (.inl ⟨F, H', t, rfl, w⟩))⟩
  · exact ⟨0, r1, .inr rfl, Nat.le_refl _, ok, .inr (.inr (.inl ⟨F, H, ⟨t, rfl⟩, rfl, w⟩))⟩
  · by_cases h00 : r0 = 0
    · obtain ⟨q1, q2⟩ := w.still h00 s
      rw [q1, q2]
      exact ⟨r0, r1, .inr h00, Nat.le_refl _, ok, .inr (.inr (.inr ⟨F, H, t, h0, w⟩))⟩
    · obtain ⟨r', hr, w', H'⟩ := w.step H hu gb gu ob h00
      exact ⟨r', r1, .inl hr, Nat.le_refl _, ok, .inr (.inr (.inr ⟨F, H', t, h0, w'⟩))⟩
/-- the copier steps -/
theorem SG.mo {old : Nat → Int} {a b : Vl} {x0 x1 : Cw} {r0 r1 : Nat} (G : SG old u a b z x0 x1 m s r0 r1) (hz : old 0 = z) (hr : s.Rng) : ∃ r0' r1', r0' ≤ r0 ∧ r1' ≤ r1 ∧ SG old u a b z x0 x1 (m.next s) (m.mem s) r0' r1' := by
  have okn := G.ok.next hr
  obtain ⟨ok, ⟨fa, fc, M, h1, C, w0, w1⟩ | ⟨F, H, u0, u1⟩ | ⟨F, H, t, h0, w⟩ | ⟨F, H, t, h0, w⟩⟩ := G
  · rcases C.step M h1 with ⟨_, c', M', C'⟩ | ⟨_, M', p7, hc⟩
    · exact ⟨r0, r1, Nat.le_refl _, Nat.le_refl _, okn, .inl ⟨fa, c', M', h1, C', w0, w1⟩⟩
    · obtain ⟨r0', q0, u0⟩ := w0.un z 113
      obtain ⟨r1', q1, u1⟩ := w1.un z 113
      exact ⟨r0', r1', q0, q1, okn, .inr (.inl ⟨113, .inr ⟨rfl, p7, fa, fc, M', by rw [hc 0 (by omega), hz]⟩, u0, u1⟩)⟩
  · exact ⟨r0, r1, Nat.le_refl _, Nat.le_refl _, okn, .inr (.inl ⟨F, H.mo ok, u0, u1⟩)⟩
  · exact ⟨r0, r1, Nat.le_refl _, Nat.le_refl _, okn, .inr (.inr (.inl ⟨F, H.mo ok, t, h0, w⟩))⟩
  · exact ⟨r0, r1, Nat.le_refl _, Nat.le_refl _, okn, .inr (.inr (.inr ⟨F, H.mo ok, t, h0, w⟩))⟩
theorem Here.at3 (H : Here s m F w) : ∃ g, At3 s g ∧ g 0 = w := by
  obtain ⟨e, a, c, M, h⟩ | ⟨e, h7, a, c, M, h⟩ := H
  · exact ⟨a, ⟨a, c, .inl ⟨M, fun _ _ => rfl⟩⟩, h⟩
  · exact ⟨c, ⟨a, c, .inr ⟨M, fun _ _ => rfl⟩⟩, h⟩
/-- at the end -/
theorem SG.fin {old : Nat → Int} {a b : Vl} {x0 x1 : Cw} (G : SG old u a b z x0 x1 m s 0 0) : ∃ g, At3 s g ∧ ((x0.o.y = true ∧ x1.o.y = false ∧ g 0 = a.w) ∨ (x0.o.y = false ∧ x1.o.y = true ∧ g 0 = b.w)) := by
  obtain ⟨ok, ⟨fa, fc, M, h1, C, w0, w1⟩ | ⟨F, H, u0, u1⟩ | ⟨F, H, ⟨t, rfl⟩, h0, w⟩ | ⟨F, H, ⟨t, rfl⟩, h0, w⟩⟩ := G
  · rcases w0 with ⟨_, h⟩ | ⟨_, h⟩ <;> omega
  · rcases u0 with ⟨_, h⟩ | ⟨_, h⟩ | ⟨_, h⟩ | ⟨_, h⟩ <;> omega
  · obtain ⟨b', rfl⟩ := w.fin rfl
    obtain ⟨g, A, e⟩ := H.at3
    exact ⟨g, A, .inl ⟨rfl, rfl, e⟩⟩
  · obtain ⟨b', rfl⟩ := w.fin rfl
    obtain ⟨g, A, e⟩ := H.at3
    exact ⟨g, A, .inr ⟨rfl, rfl, e⟩⟩
end
end Go.Proofs.YtahafmglidlcnaaDoor

namespace Go.Proofs.YtahafmglidlcnaaDoor
set_option linter.unusedVariables false
set_option linter.unusedSimpArgs false
set_option maxRecDepth 100000
open H.Plain (hw pS pC pN pM pG pT pL mv)

/-- of an object that stands (false), or was moved (true) -/
def hh (b : Bool) : Int := if b then HT 2 else H0
def bas (b : Bool) : Int := if b then 112 else 96
def adr (b : Bool) (f : Nat) : Int := if b then 113 + (f : Int) else 97 + (f : Int)
def fl (b : Bool) (a c : Nat → Int) (f : Nat) : Int := if b then c f else a f
def ua (b : Bool) (a : Nat → Int) (f : Nat) (v : Int) : Nat → Int := if b then a else updN a f v
def uc (b : Bool) (c : Nat → Int) (f : Nat) (v : Int) : Nat → Int := if b then updN c f v else c
def pl (b : Bool) (n : Int) : Int := if n = 96 then bas b else n
def ceP (b : Bool) (u x : Vl) : Bool := decide (u = x) || (u.far && x.far && (pl b u.n == pl b x.n))
def nrm (v : Vl) : Vl := if v.k = 1 ∧ v.n = 96 then ⟨1, 112⟩ else v
section
variable {s : St} {a c : Nat → Int} {f : Nat} {b : Bool} {r : Rq} {u : Vl}
theorem adr_in (b : Bool) (hf : f < 3) : In (adr b f) := by cases b; exact in_a hf; exact in_c hf
theorem adr_bas (b : Bool) (f : Nat) : bas b + 1 + (f : Int) = adr b f := by cases b <;> simp only [bas, adr] <;> simp <;> omega
theorem M6.gotF (M : M6 s (hh b) a c) (hf : f < 3) : s.got (adr b f) = fl b a c f := by cases b; exact M.gota hf; exact M.gotc hf
theorem M6.storeF (M : M6 s (hh b) a c) (hf : f < 3) (v : Int) : M6 (s.store (adr b f) v) (hh b) (ua b a f v) (uc b c f v) := by cases b; exact M.storeA hf v; exact M.storeC hf v
theorem M6.casF (M : M6 s (hh b) a c) (hf : f < 3) (v : Int) : s.ok1 (adr b f) (fl b a c f) = true ∧ M6 (s.cas (adr b f) (fl b a c f) v) (hh b) (ua b a f v) (uc b c f v) := by cases b; exact M.casA hf v; exact M.casC hf v
theorem M6.plF (M : M6 s (hh b) a c) {n : Int} (hn : n = 96 ∨ n = 100 ∨ n = 112) : mv (s.got n) n = pl b n := by
  have I0 : In 100 := ⟨by omega, by omega⟩
  have I1 : In 112 := ⟨by omega, by omega⟩
  cases b <;> rcases hn with rfl | rfl | rfl
  · rw [M.got96, show hh false = H0 from rfl, mv_vals.2.2.1]; rfl
  · rw [I0.got M.len, M.o1, mv_vals.2.2.2.1]; rfl
  · rw [I1.got M.len, M.o2, mv_vals.2.2.2.2]; rfl
  · rw [M.got96, show hh true = HT 2 from rfl, mv_vals.2.1]; rfl
  · rw [I0.got M.len, M.o1, mv_vals.2.2.2.1]; rfl
  · rw [I1.got M.len, M.o2, mv_vals.2.2.2.2]; rfl
theorem behF (F w : Int) (r : Rq) (fx : Bool) : behind F w r (hwC fx) = .exch F w r (hwC fx) := by simp [behind, shadeK, hwC]
theorem in_far {v : Vl} (g : v.Good) (h : v.far = true) : In v.n := by rcases g.far h with e | e | e <;> (rw [e]; exact ⟨by omega, by omega⟩)
/-- the last step of a Swap -/
theorem exch_end (M : M6 s (hh b) a c) (hf : f < 3) (fx hit : Bool) (hw : fl b a c f = u.w) : EndsC (.dr ⟨some (.exch (adr b f) u.w r (hwC fx)), hit, Ou.zero⟩) s 1 (.fin true ⟨0, Vl.zero, true⟩) (s.cas (adr b f) (fl b a c f) r.y.w) := by
  obtain ⟨q1, q2⟩ := M.casF hf r.y.w
  rw [hw] at q1 ⊢
  refine EndsC.step rfl ?_ rfl (EndsC.zero rfl)
  simp only [Cw.next, Cw.onD, Sx.next, K.next, q1]
  rfl
theorem swap_ends (M : M6 s (hh b) a c) (hf : f < 3) (h3 : r.op = 3) (hfd : r.fd = (f : Int)) (fx : Bool) (gu : u.Good) (gx : r.x.Good) (hw : fl b a c f = u.w) :
    ∃ d x' s', d ≤ 4 ∧ EndsC (Cw.go r fx (bas b)) s d x' s' ∧ x'.o.y = ceP b u r.x ∧ M6 s' (hh b) (if ceP b u r.x then ua b a f r.y.w else a) (if ceP b u r.x then uc b c f r.y.w else c) := by
  have e0 : Cw.go r fx (bas b) = .dr ⟨some (.swap (adr b f) r (hwC fx)), false, Ou.zero⟩ := by
    simp only [Cw.go, Sx.new, firstK, h3, hfd, adr_bas]
    rfl
  have I := adr_in b hf
  have M1 := M.load I
  rw [e0]
  by_cases hx : u = r.x
  · have ce : ceP b u r.x = true := by unfold ceP; simp [hx]
    have e1 : (Cw.dr ⟨some (.swap (adr b f) r (hwC fx)), false, Ou.zero⟩).next s = .dr ⟨some (.exch (adr b f) u.w r (hwC fx)), true, Ou.zero⟩ := by
      simp only [Cw.next, Cw.onD, Sx.next, K.next, M.gotF hf, hw, gu.of, behF]
      rw [if_pos hx]
      rfl
    rw [ce]
    exact ⟨2, _, _, by omega, EndsC.step rfl e1 rfl (exch_end M1 hf fx true hw), rfl, (M1.casF hf r.y.w).2⟩
  · rcases hf2 : (u.far && r.x.far) with _ | _
    · have ce : ceP b u r.x = false := by unfold ceP; rw [hf2]; simp [hx]
      have e1 : (Cw.dr ⟨some (.swap (adr b f) r (hwC fx)), false, Ou.zero⟩).next s = .fin true Ou.zero := by
        simp only [Cw.next, Cw.onD, Sx.next, K.next, M.gotF hf, hw, gu.of]
        rw [if_neg hx, if_neg (show ¬ ((hwC fx).ca && u.far && r.x.far) = true by simpa [hwC] using hf2)]
        rfl
      rw [ce]
      exact ⟨1, _, _, by omega, EndsC.step rfl e1 rfl (EndsC.zero rfl), rfl, M1⟩
    · have f1 : u.far = true := by simp only [Bool.and_eq_true] at hf2; exact hf2.1
      have f2 : r.x.far = true := by simp only [Bool.and_eq_true] at hf2; exact hf2.2
      have e1 : (Cw.dr ⟨some (.swap (adr b f) r (hwC fx)), false, Ou.zero⟩).next s = .dr ⟨some (.compS u.n r.x.n (.exch (adr b f) u.w r (hwC fx))), true, Ou.zero⟩ := by
        simp only [Cw.next, Cw.onD, Sx.next, K.next, M.gotF hf, hw, gu.of, behF]
        rw [if_neg hx, if_pos (show ((hwC fx).ca && u.far && r.x.far) = true by simpa [hwC] using hf2)]
        rfl
      have e2 : (Cw.dr ⟨some (.compS u.n r.x.n (.exch (adr b f) u.w r (hwC fx))), true, Ou.zero⟩).next (s.load (adr b f)) = .dr ⟨some (.comp2S (pl b u.n) r.x.n (.exch (adr b f) u.w r (hwC fx))), false, Ou.zero⟩ := by
        simp only [Cw.next, Cw.onD, Sx.next, K.next, M1.plF (gu.far f1)]
        rfl
      have M2 := M1.load (in_far gu f1)
      have M3 := M2.load (in_far gx f2)
      by_cases hp : pl b u.n = pl b r.x.n
      · have ce : ceP b u r.x = true := by unfold ceP; rw [hf2]; simp [hp]
        have e3 : (Cw.dr ⟨some (.comp2S (pl b u.n) r.x.n (.exch (adr b f) u.w r (hwC fx))), false, Ou.zero⟩).next ((s.load (adr b f)).load u.n) = .dr ⟨some (.exch (adr b f) u.w r (hwC fx)), false, Ou.zero⟩ := by
          simp only [Cw.next, Cw.onD, Sx.next, K.next, M2.plF (gx.far f2)]
          rw [if_pos hp]
          rfl
        rw [ce]
        exact ⟨4, _, _, by omega, EndsC.step rfl e1 rfl (EndsC.step rfl e2 rfl (EndsC.step rfl e3 rfl (exch_end M3 hf fx false hw))), rfl, (M3.casF hf r.y.w).2⟩
      · have ce : ceP b u r.x = false := by unfold ceP; rw [hf2]; simp [hp, hx]
        have e3 : (Cw.dr ⟨some (.comp2S (pl b u.n) r.x.n (.exch (adr b f) u.w r (hwC fx))), false, Ou.zero⟩).next ((s.load (adr b f)).load u.n) = .fin false Ou.zero := by
          simp only [Cw.next, Cw.onD, Sx.next, K.next, M2.plF (gx.far f2)]
          rw [if_neg hp]
          rfl
        rw [ce]
        exact ⟨3, _, _, by omega, EndsC.step rfl e1 rfl (EndsC.step rfl e2 rfl (EndsC.step rfl e3 rfl (EndsC.zero rfl))), rfl, M3⟩
theorem write_ends (M : M6 s (hh b) a c) (hf : f < 3) (h2 : r.op = 2) (hfd : r.fd = (f : Int)) (fx : Bool) :
    EndsC (Cw.go r fx (bas b)) s 1 (.fin true Ou.zero) (s.store (adr b f) r.y.w) := by
  have e0 : Cw.go r fx (bas b) = .dr ⟨some (.store (adr b f) r.y), false, Ou.zero⟩ := by
    simp only [Cw.go, Sx.new, firstK, h2, hfd, adr_bas]
    rfl
  rw [e0]
  exact EndsC.step rfl rfl rfl (EndsC.zero rfl)
theorem read_ends (M : M6 s (hh b) a c) (hf : f < 3) (h1 : r.op = 1) (hfd : r.fd = (f : Int)) :
    EndsC (Cw.go r false (bas b)) s 1 (.fin true ⟨0, Vl.of (fl b a c f), false⟩) (s.load (adr b f)) := by
  have e0 : Cw.go r false (bas b) = .dr ⟨some (.read (adr b f) false), false, Ou.zero⟩ := by
    simp only [Cw.go, Sx.new, firstK, h1, hfd, adr_bas]
    rfl
  rw [e0, ← M.gotF hf]
  exact EndsC.step rfl rfl rfl (EndsC.zero rfl)
theorem ce_false (gu : u.Good) {x : Vl} (gx : x.Good) : ceP false u x = decide (u = x) := by
  unfold ceP
  by_cases h : u = x
  · simp [h]
  · simp only [h, decide_false, Bool.false_or]
    rw [Bool.eq_false_iff]
    intro h1
    simp only [Bool.and_eq_true, beq_iff_eq] at h1
    obtain ⟨⟨f1, f2⟩, h3⟩ := h1
    have k1 : u.k = 1 := by simp only [Vl.far, Bool.and_eq_true, beq_iff_eq] at f1; exact f1.1
    have k2 : x.k = 1 := by simp only [Vl.far, Bool.and_eq_true, beq_iff_eq] at f2; exact f2.1
    have e : ∀ n, pl false n = n := fun n => by unfold pl bas; split <;> simp_all
    rw [e, e] at h3
    exact h (by obtain ⟨ka, na⟩ := u; obtain ⟨kb, nb⟩ := x; simp only at k1 k2 h3; subst k1 k2 h3; rfl)
theorem ce_true (gu : u.Good) {x : Vl} (gx : x.Good) : ceP true u x = decide (nrm u = nrm x) := by
  have key : ∀ {v : Vl}, v.Good → (v.far = true → v = ⟨1, 96⟩ ∨ v = ⟨1, 100⟩ ∨ v = ⟨1, 112⟩) ∧ (v.far = false → nrm v = v) := by
    intro v g
    constructor
    · intro f1
      have k1 : v.k = 1 := by simp only [Vl.far, Bool.and_eq_true, beq_iff_eq] at f1; exact f1.1
      obtain ⟨k, n⟩ := v
      simp only at k1
      subst k1
      rcases g.far f1 with e | e | e <;> (simp only at e; subst e)
      · exact .inl rfl
      · exact .inr (.inl rfl)
      · exact .inr (.inr rfl)
    · intro f0
      unfold nrm
      rw [if_neg]
      rintro ⟨h1, h2⟩
      simp [Vl.far, h1, h2] at f0
  have nf : ∀ {v : Vl}, v.Good → (nrm v).far = v.far := by
    intro v g
    rcases h : v.far with _ | _
    · rw [(key g).2 h, h]
    · rcases (key g).1 h with e | e | e <;> (subst e; rfl)
  unfold ceP
  rcases h1 : u.far with _ | _
  · rw [(key gu).2 h1]
    rcases h2 : x.far with _ | _
    · rw [(key gx).2 h2]; simp
    · have : u ≠ nrm x := fun e => by have := nf gx; rw [← e, h1, h2] at this; cases this
      have h3 : u ≠ x := fun e => by rw [e, h2] at h1; cases h1
      simp [this, h3]
  · rcases h2 : x.far with _ | _
    · rw [(key gx).2 h2]
      have : nrm u ≠ x := fun e => by have := nf gu; rw [e, h1, h2] at this; cases this
      have h3 : u ≠ x := fun e => by rw [e, h2] at h1; cases h1
      simp [this, h3]
    · rcases (key gu).1 h1 with e | e | e <;> rcases (key gx).1 h2 with e' | e' | e' <;> (subst e e'; decide)
/-- a tagged object -/
theorem abort_ends (M : M6 s (HT 1) a c) (hf : f < 3) (hop : r.op = 1 ∨ r.op = 2 ∨ r.op = 3) (ha : r.at_ = 96) (hfd : r.fd = (f : Int)) (fx : Bool) (gu : u.Good) (gx : r.x.Good) (hw : a f = u.w) :
    ∃ d x' s' a', d ≤ 8 ∧ EndsC (.hd r fx) s d x' s' ∧ M6 s' (if r.op = 1 then HT 1 else H0) a' c ∧ a' f = (if r.op = 2 ∨ (r.op = 3 ∧ u = r.x) then r.y.w else u.w) ∧ (r.op = 1 → x'.o.v = u) := by
  obtain ⟨e1, e2⟩ := hd_T M ha (by omega) (by omega) fx
  have M1 := M.load in96
  rcases hop with h | h | h
  · rw [if_pos h] at e1
    have e3 : (Cw.rd r fx).next (s.load 96) = .ag r fx u.w := by
      simp only [Cw.next, ha, hfd, e97]
      rw [M1.gota hf, hw]
    have e4 : (Cw.rd r fx).mem (s.load 96) = (s.load 96).load (97 + (f : Int)) := by simp only [Cw.mem, ha, hfd, e97]
    have M2 := M1.load (in_a hf)
    have e5 : (Cw.ag r fx u.w).next ((s.load 96).load (97 + (f : Int))) = .fin false ⟨0, u, false⟩ := by
      simp only [Cw.next, ha, M2.got96, h_T, gu.of]
      rw [if_neg (by decide)]
    have e6 : (Cw.ag r fx u.w).mem ((s.load 96).load (97 + (f : Int))) = ((s.load 96).load (97 + (f : Int))).load 96 := by simp only [Cw.mem, ha]
    refine ⟨3, _, _, a, by omega, EndsC.step rfl e1 e2 (EndsC.step rfl e3 e4 (EndsC.step rfl e5 e6 (EndsC.zero rfl))), ?_, ?_, fun _ => rfl⟩
    · rw [if_pos h]; exact M2.load in96
    · rw [if_neg (by omega)]; exact hw
  · rw [if_neg (by omega)] at e1
    obtain ⟨q1, q2⟩ := tk_T M1 ha fx
    have W := write_ends (b := false) (r := r) q2 hf h hfd fx
    refine ⟨3, _, _, updN a f r.y.w, by omega, EndsC.step rfl e1 e2 (EndsC.step rfl q1 rfl W), ?_, ?_, fun h' => by omega⟩
    · rw [if_neg (by omega)]; exact q2.storeA hf r.y.w
    · rw [if_pos (.inl h)]; simp [updN]
  · rw [if_neg (by omega)] at e1
    obtain ⟨q1, q2⟩ := tk_T M1 ha fx
    obtain ⟨d, x', s', hd, E, hy, M'⟩ := swap_ends (b := false) (r := r) q2 hf h hfd fx gu gx hw
    rw [ce_false gu gx] at M'
    refine ⟨d + 2, x', s', _, by omega, EndsC.step rfl e1 e2 (EndsC.step rfl q1 rfl E), by rw [if_neg (by omega)]; simpa [uc, hh] using M', ?_, fun h' => by omega⟩
    by_cases hx : u = r.x
    · have e : (if r.op = 2 ∨ (r.op = 3 ∧ u = r.x) then r.y.w else u.w) = r.y.w := if_pos (.inr ⟨h, hx⟩)
      rw [e]; simp [hx, ua, updN]
    · have e : (if r.op = 2 ∨ (r.op = 3 ∧ u = r.x) then r.y.w else u.w) = u.w := if_neg fun h' => h'.elim (fun h' => by omega) fun h' => hx h'.2
      rw [e]; simp [hx, ua, hw]
/-- one that was moved -/
theorem moved_ends (M : M6 s (HT 2) a c) (hf : f < 3) (hop : r.op = 1 ∨ r.op = 2 ∨ r.op = 3) (ha : r.at_ = 96) (hfd : r.fd = (f : Int)) (gu : u.Good) (gx : r.x.Good) (hw : c f = u.w) :
    ∃ d x' s' c', d ≤ 8 ∧ EndsC (.hd r false) s d x' s' ∧ M6 s' (HT 2) a c' ∧ c' f = (if r.op = 2 ∨ (r.op = 3 ∧ nrm u = nrm r.x) then r.y.w else u.w) ∧ (r.op = 1 → x'.o.v = u) ∧ x'.o.y = decide (r.op = 3 ∧ nrm u = nrm r.x) := by
  obtain ⟨e1, e2⟩ := hd_M M ha (by omega) (by omega) false
  have M1 := M.load in96
  rcases hop with h | h | h
  · have W := read_ends (b := true) (r := r) M1 hf h hfd
    rw [show fl true a c f = u.w from hw, gu.of] at W
    refine ⟨2, _, _, c, by omega, EndsC.step rfl e1 e2 W, M1.load (in_c hf), ?_, fun _ => rfl, ?_⟩
    · rw [if_neg (by omega)]; exact hw
    · simp [Cw.o, h]
  · have W := write_ends (b := true) (r := r) M1 hf h hfd false
    refine ⟨2, _, _, updN c f r.y.w, by omega, EndsC.step rfl e1 e2 W, M1.storeC hf r.y.w, ?_, fun h' => by omega, ?_⟩
    · rw [if_pos (.inl h)]; simp [updN]
    · simp [Cw.o, Ou.zero, h]
  · obtain ⟨d, x', s', hd, E, hy, M'⟩ := swap_ends (b := true) (r := r) M1 hf h hfd false gu gx hw
    rw [ce_true gu gx] at M' hy
    refine ⟨d + 1, x', s', _, by omega, EndsC.step rfl e1 e2 E, by simpa [ua, hh] using M', ?_, fun h' => by omega, by rw [hy]; simp [h]⟩
    by_cases hx : nrm u = nrm r.x
    · have e : (if r.op = 2 ∨ (r.op = 3 ∧ nrm u = nrm r.x) then r.y.w else u.w) = r.y.w := if_pos (.inr ⟨h, hx⟩)
      rw [e]; simp [hx, uc, updN]
    · have e : (if r.op = 2 ∨ (r.op = 3 ∧ nrm u = nrm r.x) then r.y.w else u.w) = u.w := if_neg fun h' => h'.elim (fun h' => by omega) fun h' => hx h'.2
      rw [e]; simp [hx, uc, hw]
end
end Go.Proofs.YtahafmglidlcnaaDoor
