/-
  A fresh memory of the reference.
-/
import Derived.Test.YtoablodmodnamaaDoorBaq
import Derived.Deep.RegionHeld3
namespace Go.Proofs.YtoablodmodnamaaDoor
set_option linter.unusedVariables false
set_option linter.unusedSimpArgs false
set_option maxRecDepth 100000
open Go.ChangeShapes Go.WideShapes Go.RowKit
open S.Plain (t0 t1 tw nx bw b0 b1 b2 b3)
open H.Plain (hw pS pC pN pM pG pT pL)

def hpN (t n : Nat) : Nat := (10 + t + n + 31) / 32 * 32
def szN (t n : Nat) : Nat := hpN t n + 32 * n
def mkPl (t n : Nat) : Pl := ⟨t, n, 10 + t, hpN t n, szN t n⟩
theorem hp_N (t n : Nat) : P.Plain.hp t n = (hpN t n : Int) := by unfold P.Plain.hp P.Plain.up hpN; omega
theorem hpN_bounds {t n : Nat} (ht : t ≤ 64) (hn : n ≤ 64) : 10 + t + n ≤ hpN t n ∧ hpN t n ≤ 192 := by unfold hpN; omega
theorem mkPl_ok {t n : Nat} (ht : t ≤ 64) (hn : n ≤ 64) : (mkPl t n).Ok := by
  have := hpN_bounds ht hn
  exact ⟨by simp only [mkPl]; omega, by simp only [mkPl]; omega, by simp only [mkPl]; omega, by simp only [mkPl]; omega⟩
/-- which block stands behind the block i: its number and 1 -/
def nextOf (n i : Nat) : Int := if i + 1 = n then 0 else i + 2
def frW (t n : Nat) : Nat → List Int
  | 0 => List.replicate (szN t n) 0
  | j + 1 => (frW t n j).set (10 + t + j) (bw 0 0 0 (nextOf n j))
def frSt (t n : Nat) : St := ⟨(frW t n n).set 2 (tw 1 0), 0, 0, []⟩
theorem frW_len (t n j : Nat) : (frW t n j).length = szN t n := by
  induction j with
  | zero => simp [frW]
  | succ j ih => simp [frW, ih]
theorem frW_rng (t n j : Nat) : ∀ x ∈ frW t n j, U64 x := by
  induction j with
  | zero => intro x hx; simp [frW] at hx; rw [hx.2]; exact U64.zero
  | succ j ih =>
    intro x hx
    rcases List.mem_or_eq_of_mem_set hx with h | rfl
    · exact ih x h
    · exact u64_bw ..
theorem frSt_rng (t n : Nat) : (frSt t n).Rng := by
  intro x hx
  rcases List.mem_or_eq_of_mem_set hx with h | rfl
  · exact frW_rng t n n x h
  · exact ⟨S.Plain.tw_pos _ _, S.Plain.tw_le _ _⟩
theorem frSt_len (t n : Nat) : (frSt t n).ws.length = szN t n := by simp [frSt, frW_len]
theorem szN_bounds {t n : Nat} (ht : t ≤ 64) (h1 : 1 ≤ n) (hn : n ≤ 64) : 1 ≤ szN t n ∧ szN t n ≤ 4096 ∧ 10 + t + n ≤ szN t n := by
  have := hpN_bounds ht hn
  unfold szN; omega
theorem frSt_fit {t n : Nat} (ht : t ≤ 64) (h1 : 1 ≤ n) (hn : n ≤ 64) : (frSt t n).Fit := by
  have := szN_bounds ht h1 hn
  exact ⟨by simp [frSt], by simp [frSt], by simp [frSt], by simp [frSt], by rw [frSt_len]; omega, by rw [frSt_len]; omega⟩
/-- a plan in a box -/
def PBox (w : World) (q : Nat) (p : Pl) : Prop := w.heap[q]? = some (.cells p.cells 32 (0, 0))
section
variable {w w' : World} {q : Nat} {p : Pl}
theorem PBox.c0 (h : PBox w q p) : w.cell? ⟨q, 0, none⟩ = some (.int .i64 p.t) := cell_of_row w _ _ _ _ _ h
theorem PBox.c1 (h : PBox w q p) : w.cell? ⟨q, 1, none⟩ = some (.int .i64 p.b) := cell_of_row w _ _ _ _ _ h
theorem PBox.c2 (h : PBox w q p) : w.cell? ⟨q, 2, none⟩ = some (.int .i64 p.tb) := cell_of_row w _ _ _ _ _ h
theorem PBox.c3 (h : PBox w q p) : w.cell? ⟨q, 3, none⟩ = some (.int .i64 p.hp) := cell_of_row w _ _ _ _ _ h
theorem PBox.c4 (h : PBox w q p) : w.cell? ⟨q, 4, none⟩ = some (.int .i64 p.sz) := cell_of_row w _ _ _ _ _ h
theorem PBox.below (h : PBox w q p) (hb : Below w.heap.size w w') : PBox w' q p := (hb.block q (lt_of_block h)).trans h
theorem PBox.oth {F : List Nat} (h : PBox w q p) (ho : Oth F w w') (hq : q ∉ F) : PBox w' q p := ho.blk _ _ _ _ hq (.inl (by decide)) h
end
theorem kREntry {q : Pl} (ok : q.Ok) {i : Int} (h0 : -10 ≤ i) (h1 : i ≤ 5000) (w : World) :
    Calls Tryd.prog 91 #[.agg #[.int .i64 q.t, .int .i64 q.b, .int .i64 q.tb, .int .i64 q.hp, .int .i64 q.sz], .int .i64 i] w fun e w' => e = .returned (.int .i64 (q.tb + i)) ∧ Below w.heap.size w w' := by
  obtain ⟨x, y, z, u, v⟩ := q
  obtain ⟨q0, q1, _, _⟩ := ok
  simp only at q0 q1
  go_enter Tryd.func91, Tryd.ntmps91
  go_wp2
  go_ret
  exact ⟨rfl, P.bal (Below.refl _ _) _⟩
set_option maxHeartbeats 2000000 in
theorem cFresh {t n : Nat} (ht : t ≤ 64) (h1 : 1 ≤ n) (hn : n ≤ 64) (w : World) :
    Calls Tryd.prog 57 #[.agg #[.int .i64 (mkPl t n).t, .int .i64 (mkPl t n).b, .int .i64 (mkPl t n).tb, .int .i64 (mkPl t n).hp, .int .i64 (mkPl t n).sz]] w fun e w' => ∃ M : Loc, e = .returned (.pointer (some ⟨M.b, 0, none⟩)) ∧ Rm w' M (frSt t n) ∧ Below w.heap.size w w' ∧ ∀ k ∈ M.fp, w.heap.size ≤ k := by
  have sb := szN_bounds ht h1 hn
  have pok := mkPl_ok ht hn
  go_enter Tryd.func57, Tryd.ntmps57
  go_wp2_with (go_at_call 36; refine (cRNew _ (szN t n) sb.1 sb.2.1).mono ?_; rintro e w1 ⟨b, g, cp, rfl, hm, hb1, hl⟩)
  have hbw : Below w.heap.size w w1 := bel_trans (S.bal (Below.refl w.heap.size w) _) hb1
  have hB : PBox w1 w.heap.size (mkPl t n) := (hb1.block _ (by simp)).trans (heap_alloc_new _ _)
  have hg0 : w.heap.size < g := by have := hl g (by simp [Loc.fp]); simp at this; omega
  have hl' : ∀ k ∈ (⟨b, g, cp, .slice none 0 0⟩ : Loc).fp, w.heap.size ≤ k := fun k hk => by have := hl k hk; simp at this; omega
  obtain ⟨o, ho⟩ : ∃ o, w.heap.size = o := ⟨_, rfl⟩
  clear hb1 hl
  rw [ho] at hB hg0 ⊢
  go_loopw [5] (fun i wr => ∃ j : Nat, j ≤ n ∧ i = .int .i64 j ∧ Rm wr ⟨b, g, cp, .slice none 0 0⟩ ⟨frW t n j, 0, 0, []⟩ ∧ PBox wr o (mkPl t n) ∧ Below w.heap.size w wr) (fun i _ => n - (intOf i).toNat)
  case atStart => exact ⟨0, Nat.zero_le _, rfl, hm, hB, hbw⟩
  case round =>
    obtain ⟨j, hj', rfl, q1, q2, q3⟩ := hrel
    have c1 : wr.cell? ⟨o, 1, none⟩ = some (.int .i64 n) := q2.c1
    have hlen := frW_len t n j
    by_cases hjn : j < n
    case pos =>
      obtain ⟨a, ha⟩ : ∃ a, 10 + t + j = a := ⟨_, rfl⟩
      have hj : (mkPl t n).tb + (j : Int) = (a : Int) := by simp only [mkPl]; omega
      have ia0 : (0 : Int) ≤ (a : Int) := by omega
      have ia1 : (a : Int) < ((szN t n : Nat) : Int) := by omega
      have R : (frW t n (j + 1)) = (frW t n j).set a (bw 0 0 0 (nextOf n j)) := by rw [← ha]; rfl
      by_cases hl2 : j + 1 = n
      · have e : nextOf n j = 0 := if_pos hl2
        have hd : ((j : Int) == (n : Int) - 1) = true := by simp; omega
        rw [e] at R
        go_wp2
        have S0 : ∀ w', Below wr.heap.size wr w' → w'.cell? ⟨b, 0, none⟩ = some (.slice (some ⟨g, 0, none⟩) (szN t n) cp) ∧ w'.cell? ⟨o, 0, none⟩ = some (.int .i64 (mkPl t n).t) ∧ w'.cell? ⟨o, 1, none⟩ = some (.int .i64 (mkPl t n).b) ∧ w'.cell? ⟨o, 2, none⟩ = some (.int .i64 (mkPl t n).tb) ∧ w'.cell? ⟨o, 3, none⟩ = some (.int .i64 (mkPl t n).hp) ∧ w'.cell? ⟨o, 4, none⟩ = some (.int .i64 (mkPl t n).sz) := fun w' hb => by
          have B := q2.below hb
          have C := (q1.below hb).cell0
          rw [show (⟨frW t n j, 0, 0, []⟩ : St).ws.length = szN t n from frW_len t n j] at C
          exact ⟨C, B.c0, B.c1, B.c2, B.c3, B.c4⟩
        have hbd : Below wr.heap.size wr wr.drew := (Below.refl wr.heap.size wr).drew
        have RD := S0 _ hbd
        go_region_held3 (fun w' => w'.cell? ⟨b, 0, none⟩ = some (.slice (some ⟨g, 0, none⟩) (szN t n) cp) ∧ w'.cell? ⟨o, 0, none⟩ = some (.int .i64 (mkPl t n).t) ∧ w'.cell? ⟨o, 1, none⟩ = some (.int .i64 (mkPl t n).b) ∧ w'.cell? ⟨o, 2, none⟩ = some (.int .i64 (mkPl t n).tb) ∧ w'.cell? ⟨o, 3, none⟩ = some (.int .i64 (mkPl t n).hp) ∧ w'.cell? ⟨o, 4, none⟩ = some (.int .i64 (mkPl t n).sz)) (first | assumption | exact RD | exact S0 _ (by assumption))
          (first
            | (go_at_call 91; refine (kREntry pok (by omega) (by omega) _).mono ?_; rintro e w2 ⟨rfl, hb2⟩; rw [hj]; have hb2' := bel_trans hbd hb2)
            | (go_at_call 90; refine (S.hBlock 0 0 0 0 _).mono ?_; rintro e w3 ⟨rfl, hb3⟩; have hb3' := bel_trans hb2' hb3; have F3 : w3.cell? ⟨g, a, none⟩ = some (.int .u64 ((frW t n j).getD a 0)) := (q1.below hb3').wcell a (by rw [hlen]; omega); have G3 := (q1.below hb3').wfree a; have q3' := put_cell (q1.below hb3') a (bw 0 0 0 0); have p3 := (q2.below hb3').oth (Oth.kept (F := [g]) (Kept.setCell [g] w3 ⟨g, a, none⟩ (.int .u64 (bw 0 0 0 0)) (by simp))) (by simp; omega); have S3 : (w3.setCell ⟨g, a, none⟩ (.int .u64 (bw 0 0 0 0))).cell? ⟨b, 0, none⟩ = some (.slice (some ⟨g, 0, none⟩) (szN t n) cp) ∧ (w3.setCell ⟨g, a, none⟩ (.int .u64 (bw 0 0 0 0))).cell? ⟨o, 0, none⟩ = some (.int .i64 (mkPl t n).t) ∧ (w3.setCell ⟨g, a, none⟩ (.int .u64 (bw 0 0 0 0))).cell? ⟨o, 1, none⟩ = some (.int .i64 (mkPl t n).b) ∧ (w3.setCell ⟨g, a, none⟩ (.int .u64 (bw 0 0 0 0))).cell? ⟨o, 2, none⟩ = some (.int .i64 (mkPl t n).tb) ∧ (w3.setCell ⟨g, a, none⟩ (.int .u64 (bw 0 0 0 0))).cell? ⟨o, 3, none⟩ = some (.int .i64 (mkPl t n).hp) ∧ (w3.setCell ⟨g, a, none⟩ (.int .u64 (bw 0 0 0 0))).cell? ⟨o, 4, none⟩ = some (.int .i64 (mkPl t n).sz) := (by have C := q3'.cell0; rw [show (St.put ⟨frW t n j, 0, 0, []⟩ a (bw 0 0 0 0)).ws.length = szN t n from (by simp [St.put, frW_len])] at C; exact ⟨C, p3.c0, p3.c1, p3.c2, p3.c3, p3.c4⟩)))
        go_wp2
        go_roundw
        case rel => exact ⟨j + 1, by omega, by go_num, by rw [R]; exact q3', p3, (bel_trans q3 hb3').trans ((Kept.setCell [g] w3 ⟨g, a, none⟩ _ (by simp)).below (fun k hk => by simp at hk; omega) (Nat.le_trans q3.size hb3'.size))⟩
        case measure => simp [intOf]; omega
      · have e : nextOf n j = ((j : Int) + 2) := if_neg hl2
        have hd : ((j : Int) == (n : Int) - 1) = false := by simp; omega
        rw [e] at R
        go_wp2
        have S0 : ∀ w', Below wr.heap.size wr w' → w'.cell? ⟨b, 0, none⟩ = some (.slice (some ⟨g, 0, none⟩) (szN t n) cp) ∧ w'.cell? ⟨o, 0, none⟩ = some (.int .i64 (mkPl t n).t) ∧ w'.cell? ⟨o, 1, none⟩ = some (.int .i64 (mkPl t n).b) ∧ w'.cell? ⟨o, 2, none⟩ = some (.int .i64 (mkPl t n).tb) ∧ w'.cell? ⟨o, 3, none⟩ = some (.int .i64 (mkPl t n).hp) ∧ w'.cell? ⟨o, 4, none⟩ = some (.int .i64 (mkPl t n).sz) := fun w' hb => by
          have B := q2.below hb
          have C := (q1.below hb).cell0
          rw [show (⟨frW t n j, 0, 0, []⟩ : St).ws.length = szN t n from frW_len t n j] at C
          exact ⟨C, B.c0, B.c1, B.c2, B.c3, B.c4⟩
        have hbd : Below wr.heap.size wr wr.drew := (Below.refl wr.heap.size wr).drew
        have RD := S0 _ hbd
        go_region_held3 (fun w' => w'.cell? ⟨b, 0, none⟩ = some (.slice (some ⟨g, 0, none⟩) (szN t n) cp) ∧ w'.cell? ⟨o, 0, none⟩ = some (.int .i64 (mkPl t n).t) ∧ w'.cell? ⟨o, 1, none⟩ = some (.int .i64 (mkPl t n).b) ∧ w'.cell? ⟨o, 2, none⟩ = some (.int .i64 (mkPl t n).tb) ∧ w'.cell? ⟨o, 3, none⟩ = some (.int .i64 (mkPl t n).hp) ∧ w'.cell? ⟨o, 4, none⟩ = some (.int .i64 (mkPl t n).sz)) (first | assumption | exact RD | exact S0 _ (by assumption))
          (first
            | (go_at_call 91; refine (kREntry pok (by omega) (by omega) _).mono ?_; rintro e w2 ⟨rfl, hb2⟩; rw [hj]; have hb2' := bel_trans hbd hb2)
            | (go_at_call 90; refine (S.hBlock 0 0 0 ((j : Int) + 2) _).mono ?_; rintro e w3 ⟨rfl, hb3⟩; have hb3' := bel_trans hb2' hb3; have F3 : w3.cell? ⟨g, a, none⟩ = some (.int .u64 ((frW t n j).getD a 0)) := (q1.below hb3').wcell a (by rw [hlen]; omega); have G3 := (q1.below hb3').wfree a; have q3' := put_cell (q1.below hb3') a (bw 0 0 0 ((j : Int) + 2)); have p3 := (q2.below hb3').oth (Oth.kept (F := [g]) (Kept.setCell [g] w3 ⟨g, a, none⟩ (.int .u64 (bw 0 0 0 ((j : Int) + 2))) (by simp))) (by simp; omega); have S3 : (w3.setCell ⟨g, a, none⟩ (.int .u64 (bw 0 0 0 ((j : Int) + 2)))).cell? ⟨b, 0, none⟩ = some (.slice (some ⟨g, 0, none⟩) (szN t n) cp) ∧ (w3.setCell ⟨g, a, none⟩ (.int .u64 (bw 0 0 0 ((j : Int) + 2)))).cell? ⟨o, 0, none⟩ = some (.int .i64 (mkPl t n).t) ∧ (w3.setCell ⟨g, a, none⟩ (.int .u64 (bw 0 0 0 ((j : Int) + 2)))).cell? ⟨o, 1, none⟩ = some (.int .i64 (mkPl t n).b) ∧ (w3.setCell ⟨g, a, none⟩ (.int .u64 (bw 0 0 0 ((j : Int) + 2)))).cell? ⟨o, 2, none⟩ = some (.int .i64 (mkPl t n).tb) ∧ (w3.setCell ⟨g, a, none⟩ (.int .u64 (bw 0 0 0 ((j : Int) + 2)))).cell? ⟨o, 3, none⟩ = some (.int .i64 (mkPl t n).hp) ∧ (w3.setCell ⟨g, a, none⟩ (.int .u64 (bw 0 0 0 ((j : Int) + 2)))).cell? ⟨o, 4, none⟩ = some (.int .i64 (mkPl t n).sz) := (by have C := q3'.cell0; rw [show (St.put ⟨frW t n j, 0, 0, []⟩ a (bw 0 0 0 ((j : Int) + 2))).ws.length = szN t n from (by simp [St.put, frW_len])] at C; exact ⟨C, p3.c0, p3.c1, p3.c2, p3.c3, p3.c4⟩)))
        go_wp2
        go_roundw
        case rel => exact ⟨j + 1, by omega, by go_num, by rw [R]; exact q3', p3, (bel_trans q3 hb3').trans ((Kept.setCell [g] w3 ⟨g, a, none⟩ _ (by simp)).below (fun k hk => by simp at hk; omega) (Nat.le_trans q3.size hb3'.size))⟩
        case measure => simp [intOf]; omega
    case neg =>
      have e : j = n := by omega
      subst e
      have ia1 : (2 : Int) < ((szN t j : Nat) : Int) := by omega
      go_wp2
      have S0 : ∀ w', Below wr.heap.size wr w' → w'.cell? ⟨b, 0, none⟩ = some (.slice (some ⟨g, 0, none⟩) (szN t j) cp) := fun w' hb => by
        have C := (q1.below hb).cell0
        rw [show (⟨frW t j j, 0, 0, []⟩ : St).ws.length = szN t j from frW_len t j j] at C
        exact C
      have hbd : Below wr.heap.size wr wr.drew := (Below.refl wr.heap.size wr).drew
      have RD := S0 _ hbd
      go_region_held3 (fun w' => w'.cell? ⟨b, 0, none⟩ = some (.slice (some ⟨g, 0, none⟩) (szN t j) cp)) (first | assumption | exact RD | exact S0 _ (by assumption))
        ((go_at_call 92; refine (S.hTop 1 0 _).mono ?_; rintro e w3 ⟨rfl, hb3⟩; have hb3' := bel_trans hbd hb3; have F3 : w3.cell? ⟨g, 2, none⟩ = some (.int .u64 ((frW t j j).getD 2 0)) := (q1.below hb3').wcell 2 (by rw [hlen]; omega); have G3 := (q1.below hb3').wfree 2; have q3' := put_cell (q1.below hb3') 2 (tw 1 0); have S3 : (w3.setCell ⟨g, 2, none⟩ (.int .u64 (tw 1 0))).cell? ⟨b, 0, none⟩ = some (.slice (some ⟨g, 0, none⟩) (szN t j) cp) := (by have C := q3'.cell0; rw [show (St.put ⟨frW t j j, 0, 0, []⟩ ((2 : Nat) : Int) (tw 1 0)).ws.length = szN t j from (by simp [St.put, frW_len])] at C; exact C)))
      go_wp2
      go_ret
      exact ⟨⟨b, g, cp, .slice none 0 0⟩, rfl, q3', (bel_trans q3 hb3').trans ((Kept.setCell [g] w3 ⟨g, 2, none⟩ _ (by simp)).below (fun k hk => by simp at hk; omega) (Nat.le_trans q3.size hb3'.size)), hl'⟩
end Go.Proofs.YtoablodmodnamaaDoor
