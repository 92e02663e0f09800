/-
  The laws' own helpers: a memory that is laid, the document's examples.
-/
import Derived.Test.YteclgafdflmioaaDoorLh
import Derived.Test.YteclgafdflmioaaDoorLq
namespace Go.Proofs.YteclgafdflmioaaDoor
set_option linter.unusedVariables false
set_option maxRecDepth 100000
open Go.ChangeShapes Go.WideShapes Go.RowKit
open S.Plain (t0 t1 tw nx)
open H.Plain (hw pL)

/-- three steps of a Push of one cell -/
def pushed (s : St) (a : Int) : St := ((((PushS.new 3 a a 0).next s).next ((PushS.new 3 a a 0).mem s))).mem (((PushS.new 3 a a 0).next s).mem ((PushS.new 3 a a 0).mem s))
/-- the cells n - 1, n - 2 and so on are laid, j of them -/
def laidTo (n : Nat) : Nat → St
  | 0 => St.new 160
  | j + 1 => pushed (laidTo n j) (96 + 4 * ((n : Int) - 1 - j))
/-- cells from the a-th on, k of them -/
def cel (a : Nat) : Nat → List Int
  | 0 => []
  | k + 1 => (96 + 4 * (a : Int)) :: cel (a + 1) k
theorem cel_mem {c : Int} : ∀ {k a : Nat}, c ∈ cel a k ↔ ∃ i : Nat, a ≤ i ∧ i < a + k ∧ c = 96 + 4 * (i : Int) := by
  intro k
  induction k with
  | zero => intro a; simp [cel]; omega
  | succ k ih =>
    intro a
    simp only [cel, List.mem_cons, ih]
    constructor
    · rintro (rfl | ⟨i, h1, h2, rfl⟩)
      · exact ⟨a, by omega, by omega, rfl⟩
      · exact ⟨i, by omega, by omega, rfl⟩
    · rintro ⟨i, h1, h2, rfl⟩
      by_cases e : i = a
      · exact .inl (by rw [e])
      · exact .inr ⟨i, by omega, by omega, rfl⟩
theorem cel_nodup : ∀ {k a : Nat}, (cel a k).Nodup := by
  intro k
  induction k with
  | zero => intro a; exact List.nodup_nil
  | succ k ih => intro a; exact List.nodup_cons.2 ⟨fun h => by obtain ⟨i, h1, _, h2⟩ := cel_mem.1 h; omega, ih⟩
theorem cel_length : ∀ {k a : Nat}, (cel a k).length = k := by
  intro k
  induction k with
  | zero => intro a; rfl
  | succ k ih => intro a; simp [cel, ih]
theorem pushed_lst {s : St} {l : List Int} {v : Nat} {a : Int} (h : Lst s l v) (hv : v < 1099511627776) (ht : s.t = 0) (ha : Cl a) (hn : a ∉ l) : Lst (pushed s a) (a :: l) (v + 1) ∧ (pushed s a).t = 0 ∧ (pushed s a).c = s.c + 3 := by
  obtain ⟨x1, x2, x3, s1, s2, s3, e1, e2, e3, e4, e5, e6, _, _, _, h1, h2, h3⟩ := push_alone (row := [a]) h hv ht (by simp) ⟨fun e => absurd rfl e, trivial⟩ (fun d hd => by simp at hd; subst hd; exact ha) (by simpa using ⟨hn, h.nodup⟩)
  have e : pushed s a = s3 := by
    unfold pushed
    simp only [List.getLast_singleton, first] at e1 e2
    rw [e1, e2, e3, e4, e6]
  rw [e]
  exact ⟨h1, h2, h3⟩
theorem laid_lst {n : Nat} (hn : n ≤ 12) : ∀ j, j ≤ n → Lst (laidTo n j) (cel (n - j) j) j ∧ (laidTo n j).t = 0 ∧ (laidTo n j).c = 3 * j := by
  intro j
  induction j with
  | zero => intro _; exact ⟨lst_new, rfl, rfl⟩
  | succ j ih =>
    intro hj
    obtain ⟨h1, h2, h3⟩ := ih (by omega)
    have e : (96 : Int) + 4 * ((n : Int) - 1 - j) = 96 + 4 * ((n - (j + 1) : Nat) : Int) := by omega
    have hc : Cl (96 + 4 * ((n - (j + 1) : Nat) : Int)) := ⟨by omega, by omega⟩
    have R := pushed_lst (a := 96 + 4 * ((n - (j + 1) : Nat) : Int)) h1 (by omega) h2 hc (fun hm => by obtain ⟨i, i1, i2, i3⟩ := cel_mem.1 hm; omega)
    have e2 : n - (j + 1) + 1 = n - j := by omega
    refine ⟨?_, ?_, ?_⟩
    · show Lst (pushed _ _) (cel (n - (j + 1)) (j + 1)) (j + 1)
      rw [e, cel, e2]
      exact R.1
    · show (pushed _ _).t = 0
      rw [e]; exact R.2.1
    · show (pushed _ _).c = _
      rw [e, R.2.2, h3]; push_cast; omega

set_option maxHeartbeats 4000000 in
theorem cLaid (n : Nat) (hn : n ≤ 12) (w : World) (W : H.Wid w) :
    Calls Tryd.prog 8 #[.int .i64 n] w fun e w' => ∃ b, e = .returned (.pointer (some ⟨b, 0, none⟩)) ∧ Hand w w' b (laidTo n n) (3 * n) := by
  go_enter Tryd.func8, Tryd.ntmps8
  go_wp2_with (go_at_call 25; refine (hNew _ 160 (by decide) (by decide) (Below.refl _ _) W).mono ?_; rintro e w1 ⟨b, rfl, h1⟩)
  go_loopw [5] (fun i wr => ∃ j : Nat, j ≤ n ∧ i = .int .i64 ((n : Int) - 1 - j) ∧ Hand w wr b (laidTo n j) (3 * j)) (fun i _ => (intOf i + 1).toNat)
  case atStart => exact ⟨0, Nat.zero_le _, by simp, h1⟩
  case round =>
    obtain ⟨j, hj, rfl, q1⟩ := hrel
    by_cases hjn : j < n
    case pos =>
      have ha : (96 : Int) + 4 * ((n : Int) - 1 - j) ≤ 160 ∧ 0 ≤ (n : Int) - 1 - j := by omega
      obtain ⟨a, hae⟩ : ∃ a : Int, 96 + 4 * ((n : Int) - 1 - j) = a := ⟨_, rfl⟩
      have hs : pushed (laidTo n j) a = laidTo n (j + 1) := by rw [← hae]; rfl
      have hr := q1.rng
      have k0 := PushS.ok_new 3 a a 0
      have k1 := k0.next hr
      have k2 := k1.next (PushS.rng k0 hr)
      go_wp2_with (go_at_call 15; refine (cNewPush 3 a a 0 _).mono ?_; rintro e w2 ⟨rfl, hw2⟩; have h2 : Hand w w2 b (laidTo n j) (3 * j) := (hw2 ▸ q1.alloc _); have B2 : Blk w w2 wr.heap.size 82 (PushS.new 3 a a 0).cells := (by rw [hw2]; exact Blk.new q1.bel.size _ (by decide)); obtain ⟨p, hp⟩ : ∃ p, wr.heap.size = p := ⟨_, rfl⟩; rw [hp] at B2 ⊢; clear hp hw2)
      refine wp_loop_rounds 4 ?_
      rw [rounds_succ]
      go_wp2_with (go_at_call 18; refine (oPush h2 B2 k0 (by omega)).mono ?_; rintro e w3 ⟨rfl, h3, B3, o3⟩)
      rw [rounds_succ]
      go_wp2_with (go_at_call 18; refine (oPush h3 B3 k1 (by omega)).mono ?_; rintro e w4 ⟨rfl, h4, B4, o4⟩)
      rw [rounds_succ]
      go_wp2_with (go_at_call 18; refine (oPush h4 B4 k2 (by omega)).mono ?_; rintro e w5 ⟨rfl, h5, B5, o5⟩; have h6 : Hand w w5 b (laidTo n (j + 1)) (3 * (j + 1)) := (hs ▸ h5); clear h5 B5 o5 h4 B4 o4 h3 B3 o3)
      rw [rounds_succ]
      go_wp2
      go_roundw
      case rel => exact ⟨j + 1, by omega, by go_num, h6⟩
      case measure => simp [intOf]; omega
    case neg =>
      have e : j = n := by omega
      subst e
      go_wp2
      go_ret
      exact ⟨b, rfl, q1⟩
end Go.Proofs.YteclgafdflmioaaDoor
