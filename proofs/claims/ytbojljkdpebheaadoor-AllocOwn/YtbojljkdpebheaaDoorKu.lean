/-
  None to take; a Give and a Pop, alone; the blocks of a fresh memory. No program in sight.
-/
import Derived.Test.YtbojljkdpebheaaDoorKr
namespace Go.Proofs.YtbojljkdpebheaaDoor
set_option linter.unusedVariables false
open S.Plain (t0 t1 tw nx bw b0 b1 b2 b3)
open H.Plain (hw pL)
section
variable {t n : Nat} {s s' : St} {fl r : List Nat} {v i b : Nat} {c e : Int}
theorem take_none {x : TakeS} (h : Fr t n s [] v) (hp : x.pc = 1) : (x.next s).pc = 0 ∧ (x.next s).cell = 0 ∧ Fr t n (x.mem s) [] v := by
  obtain ⟨a1, a2⟩ := take1 h hp
  refine ⟨by rw [a1]; rfl, ?_, by rw [a2]; exact h.load h.two⟩
  unfold TakeS.cell
  refine if_neg fun hh => hh.2 ?_
  rw [a1]
  exact t0_small (by simp [hd1]) (by simp [hd1]) _
theorem give_solo (h : Fr t n s fl v) (hv : v < 1099511627776) (hb : b < n) (hf : b ∉ fl) : ∃ y1 y2 y3 s1 s2 s3, (GiveS.new (mkPl t n) b).next s = y1 ∧ (GiveS.new (mkPl t n) b).mem s = s1 ∧ y1.next s1 = y2 ∧ y1.mem s1 = s2 ∧ y2.next s2 = y3 ∧ y2.mem s2 = s3 ∧
    y1.pc = 2 ∧ y2.pc = 3 ∧ y3.pc = 0 ∧ Fr t n s3 (b :: fl) (v + 1) := by
  have hb1 := hd1_bounds h.lt h.n64
  have n64 := h.n64
  have e1 : s.got 2 = tw (hd1 fl) v := h.two.got.trans h.head
  have F1 : Fr t n (s.load 2) fl v := h.load h.two
  have inE : (s.load 2).In (10 + t + b) := F1.in_low (by omega) (by omega)
  have F2 : Fr t n ((s.load 2).store (10 + t + b) (bw 0 0 0 (hd1 fl))) fl v := F1.store inE (by omega) fun j hj he => hf ((show b = j by omega) ▸ hj)
  have e2 : ((s.load 2).store (10 + t + b) (bw 0 0 0 (hd1 fl))).ok1 2 (tw (hd1 fl) v) = true := by rw [St.ok1_iff' F2.two, F2.head]; simp
  have inE2 : ((s.load 2).store (10 + t + b) (bw 0 0 0 (hd1 fl))).In (10 + t + b) := F2.in_low (by omega) (by omega)
  have we : ((s.load 2).store (10 + t + b) (bw 0 0 0 (hd1 fl))).word (10 + t + b) = bw 0 0 0 (hd1 fl) := by rw [St.word_store' inE inE, if_pos rfl]
  have e3 : (mkPl t n).tb + (b : Int) = 10 + t + b := by simp only [mkPl]
  have e4 : (GiveS.new (mkPl t n) b).next s = ⟨mkPl t n, tw (hd1 fl) v, 2, b⟩ := by simp only [GiveS.next, GiveS.new, e1]
  have e5 : GiveS.mem ⟨mkPl t n, tw (hd1 fl) v, 2, b⟩ (s.load 2) = (s.load 2).store (10 + t + b) (bw 0 0 0 (hd1 fl)) := by simp only [GiveS.mem, e3, t0_small hb1.1 (show hd1 fl ≤ 4095 by omega)]
  have e6 : GiveS.next ⟨mkPl t n, tw (hd1 fl) v, 3, b⟩ ((s.load 2).store (10 + t + b) (bw 0 0 0 (hd1 fl))) = ⟨mkPl t n, tw (hd1 fl) v, 0, b⟩ := by simp only [GiveS.next, e2, if_true]
  refine ⟨⟨mkPl t n, tw (hd1 fl) v, 2, b⟩, ⟨mkPl t n, tw (hd1 fl) v, 3, b⟩, ⟨mkPl t n, tw (hd1 fl) v, 0, b⟩, s.load 2, (s.load 2).store (10 + t + b) (bw 0 0 0 (hd1 fl)), _, e4, rfl, rfl, e5, e6, rfl, rfl, rfl, rfl, ?_⟩
  simp only [GiveS.mem, nx_small hv]
  generalize (s.load 2).store (10 + t + b) (bw 0 0 0 (hd1 fl)) = u at F2 e2 inE2 we
  have w3 : ∀ a, u.In a → (u.cas 2 (tw (hd1 fl) v) (tw ((b : Int) + 1) ((v + 1 : Nat) : Int))).word a = if 2 = a then tw ((b : Int) + 1) ((v + 1 : Nat) : Int) else u.word a := fun a ha => St.word_cas_ok' F2.two ha F2.head
  refine ⟨h.ht, h.n1, h.n64, by rw [St.n_cas]; exact F2.len, by rw [St.t_cas' F2.two]; exact F2.trap, by rw [w3 2 F2.two, if_pos rfl]; rfl, ⟨?_, F2.lkd.keep fun j hj => ?_⟩, ?_, List.nodup_cons.2 ⟨hf, h.nodup⟩⟩
  · rw [w3 _ inE2, if_neg (by omega)]; exact we
  · rw [w3 _ (F2.in_low (by omega) (by have := h.lt j hj; omega)), if_neg (by omega)]
  · intro j hj
    rcases List.mem_cons.1 hj with rfl | hj
    · exact hb
    · exact h.lt j hj
/-- a Pop, alone -/
theorem pop_solo {hd a l : Int} (inH : s.In hd) (inA : s.In a) (hv : v < 1099511627776) (h1 : s.word hd = tw a v) (a0 : a ≠ 0) (a1 : a ≤ 4095) (hl : pL (s.word a) = l) : ∃ x1 x2 x3 s1 s2 s3, (PopS.new hd).next s = x1 ∧ (PopS.new hd).mem s = s1 ∧ x1.next s1 = x2 ∧ x1.mem s1 = s2 ∧ x2.next s2 = x3 ∧ x2.mem s2 = s3 ∧
    x1.pc = 2 ∧ x2.pc = 3 ∧ x3.pc = 0 ∧ x3.at_ = a ∧ s3.ws.length = s.ws.length ∧ s3.t = s.t ∧ s3.word hd = tw l ((v + 1 : Nat) : Int) ∧ ∀ b, s.In b → b ≠ hd → s3.word b = s.word b := by
  have g1 : s.got hd = tw a v := inH.got.trans h1
  have z1 : t0 (tw a v) = a := t0_small inA.1 a1 _
  have g2 : (s.load hd).got a = s.word a := (inA.len (s' := s.load hd) rfl).got
  have inH2 : ((s.load hd).load a).In hd := inH.len rfl
  have k2 : ((s.load hd).load a).ok1 hd (tw a v) = true := by rw [St.ok1_iff' inH2, show ((s.load hd).load a).word hd = tw a v from h1]; simp
  have e1 : (PopS.new hd).next s = ⟨hd, 0, tw a v, 2⟩ := by simp only [PopS.next, PopS.new, g1, z1, if_neg a0]
  have e2 : PopS.next ⟨hd, 0, tw a v, 2⟩ (s.load hd) = ⟨hd, l, tw a v, 3⟩ := by simp only [PopS.next, z1, g2, hl]
  have e3 : PopS.mem ⟨hd, 0, tw a v, 2⟩ (s.load hd) = (s.load hd).load a := by simp only [PopS.mem, z1]
  have e4 : PopS.next ⟨hd, l, tw a v, 3⟩ ((s.load hd).load a) = ⟨hd, l, tw a v, 0⟩ := by simp only [PopS.next, k2, if_true]
  have e5 : PopS.mem ⟨hd, l, tw a v, 3⟩ ((s.load hd).load a) = ((s.load hd).load a).cas hd (tw a v) (tw l ((v + 1 : Nat) : Int)) := by simp only [PopS.mem, nx_small hv]
  refine ⟨⟨hd, 0, tw a v, 2⟩, ⟨hd, l, tw a v, 3⟩, ⟨hd, l, tw a v, 0⟩, s.load hd, (s.load hd).load a, _, e1, rfl, e2, e3, e4, e5, rfl, rfl, rfl, ?_, by rw [St.n_cas]; rfl, ?_, ?_, ?_⟩
  · simp only [PopS.at_, if_true, z1]
  · rw [St.t_cas' inH2, St.t_load' (inA.len (s' := s.load hd) rfl), St.t_load' inH]
  · rw [St.word_cas_ok' inH2 inH2 h1, if_pos rfl]
  · intro b hb hne
    rw [St.word_cas_ok' inH2 (hb.len rfl) h1, if_neg (Ne.symm hne)]
    rfl
theorem pop_empty {hd : Int} (inH : s.In hd) (h1 : t0 (s.word hd) = 0) : ∃ x1, (PopS.new hd).next s = x1 ∧ (PopS.new hd).mem s = s.load hd ∧ x1.pc = 0 ∧ x1.at_ = 0 := by
  have e1 : (PopS.new hd).next s = ⟨hd, 0, s.word hd, 0⟩ := by simp only [PopS.next, PopS.new, inH.got, h1, if_true]
  exact ⟨_, e1, rfl, rfl, by simp only [PopS.at_, if_true, h1]⟩
end
/-- a fresh memory's words -/
theorem frW_get (t n j a : Nat) (hj : 10 + t + j ≤ szN t n) : (frW t n j).getD a 0 = if 10 + t ≤ a ∧ a < 10 + t + j then bw 0 0 0 (nextOf n (a - (10 + t))) else 0 := by
  induction j with
  | zero => rw [if_neg (by omega)]; simp only [frW, List.getD_eq_getElem?_getD, List.getElem?_replicate]; split <;> rfl
  | succ j ih =>
    have ih := ih (by omega)
    simp only [frW, List.getD_eq_getElem?_getD, List.getElem?_set] at ih ⊢
    by_cases e : 10 + t + j = a
    · subst e
      rw [if_pos rfl, if_pos (by rw [frW_len]; omega), if_pos (by omega), show 10 + t + j - (10 + t) = j by omega]
      rfl
    · rw [if_neg e, ih]
      by_cases h : 10 + t ≤ a ∧ a < 10 + t + j
      · rw [if_pos h, if_pos (by omega)]
      · rw [if_neg h, if_neg (by omega)]
theorem frSt_word {t n a : Nat} (ht : t ≤ 64) (h1 : 1 ≤ n) (hn : n ≤ 64) : (frSt t n).word (a : Int) = if a = 2 then tw 1 0 else if 10 + t ≤ a ∧ a < 10 + t + n then bw 0 0 0 (nextOf n (a - (10 + t))) else 0 := by
  have sb := szN_bounds ht h1 hn
  have := frW_get t n n a sb.2.2
  simp only [St.word, frSt, Int.toNat_natCast, List.getD_eq_getElem?_getD, List.getElem?_set] at this ⊢
  by_cases e : 2 = a
  · subst e
    rw [if_pos rfl, if_pos (by rw [frW_len]; omega), if_pos rfl]
    rfl
  · rw [if_neg e, if_neg (Ne.symm e), this]
/-- the blocks from j on -/
def upto (j n : Nat) : List Nat := List.range' j (n - j)
theorem upto_cons {j n : Nat} (h : j < n) : upto j n = j :: upto (j + 1) n := by
  unfold upto
  rw [show n - j = (n - (j + 1)) + 1 by omega, List.range'_succ]
theorem upto_nil (n : Nat) : upto n n = [] := by simp [upto]
theorem mem_upto {i j n : Nat} : i ∈ upto j n ↔ j ≤ i ∧ i < n := by unfold upto; rw [List.mem_range'_1]; omega
theorem upto_nodup (j n : Nat) : (upto j n).Nodup := List.nodup_range'
theorem hd1_upto {j n : Nat} (h : j < n) : hd1 (upto (j + 1) n) = nextOf n j := by
  unfold nextOf
  by_cases e : j + 1 = n
  · rw [if_pos e, e, upto_nil]; rfl
  · rw [if_neg e, upto_cons (by omega)]; simp only [hd1]; omega
theorem fresh_fr {t n : Nat} {s : St} (ht : t ≤ 64) (h1 : 1 ≤ n) (hn : n ≤ 64) (hw : s.ws = (frSt t n).ws) (h0 : s.t = 0) : Fr t n s (upto 0 n) 0 ∧ ∀ a : Nat, 3 ≤ a → a ≤ 9 → s.word (a : Int) = 0 := by
  have W : ∀ a : Nat, s.word (a : Int) = (frSt t n).word (a : Int) := fun a => by simp only [St.word, hw]
  refine ⟨⟨ht, h1, hn, by rw [hw]; exact frSt_len t n, h0, ?_, ?_, fun i hi => (mem_upto.1 hi).2, upto_nodup _ _⟩, fun a a0 a1 => ?_⟩
  · have := W 2
    rw [frSt_word ht h1 hn, if_pos rfl] at this
    rw [show (2 : Int) = ((2 : Nat) : Int) from rfl, this, upto_cons (by omega)]
    rfl
  · have key : ∀ k j, j + k = n → Lkd t s (upto j n) := by
      intro k
      induction k with
      | zero => intro j hj; obtain rfl : j = n := by omega
                rw [upto_nil]; trivial
      | succ k ih =>
        intro j hj
        rw [upto_cons (by omega)]
        refine ⟨?_, ih (j + 1) (by omega)⟩
        rw [hd1_upto (by omega), show (10 : Int) + t + j = ((10 + t + j : Nat) : Int) by omega, W, frSt_word ht h1 hn, if_neg (by omega), if_pos (by omega), show 10 + t + j - (10 + t) = j by omega]
    exact key n 0 (by omega)
  · rw [W, frSt_word ht h1 hn, if_neg (by omega), if_neg (by omega)]
end Go.Proofs.YtbojljkdpebheaaDoor
