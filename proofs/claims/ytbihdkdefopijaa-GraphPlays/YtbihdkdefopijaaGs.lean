/-
  Contracts: what a Src names: allMayBe, value, named.
-/
import Derived.Test.YtbihdkdefopijaaGc4
namespace Go.Proofs.Ytbihdkdefopijaa
set_option linter.unusedVariables false
set_option linter.unusedSimpArgs false
open Go.ChangeShapes Go.WideShapes Go.ChangeAt Go.RowKit

/-- Srcs that lie in a row -/
def SrcsAt (w : World) (ao : Option Addr) (l : List Src) : Prop := l = [] ∨ ∃ q, ao = some ⟨q, 0, none⟩ ∧ q < w.heap.size ∧ ∀ j, j < l.length → w.cell? ⟨q, j * 2, none⟩ = some (.int .i64 (l.getD j (0, 0)).1) ∧ w.cell? ⟨q, j * 2 + 1, none⟩ = some (.int .i64 (l.getD j (0, 0)).2)
theorem SrcsAt.on {w w' : World} {ao : Option Addr} {l : List Src} (h : SrcsAt w ao l) (hb : Below w.heap.size w w') : SrcsAt w' ao l := by
  rcases h with rfl | ⟨q, rfl, hq, h⟩
  · exact .inl rfl
  · exact .inr ⟨q, rfl, Nat.lt_of_lt_of_le hq hb.size, fun j hj => ⟨(hb.cell hq).trans (h j hj).1, (hb.cell hq).trans (h j hj).2⟩⟩
theorem SrcsAt.pair {w : World} {ao : Option Addr} {l : List Src} (h : SrcsAt w ao l) (k : Nat) (hk : k < l.length) : ∃ q a b, ao = some ⟨q, 0, none⟩ ∧ q < w.heap.size ∧ w.cell? ⟨q, k * 2, none⟩ = some (.int .i64 a) ∧ w.cell? ⟨q, k * 2 + 1, none⟩ = some (.int .i64 b) ∧ l[k]? = some (a, b) := by
  rcases h with rfl | ⟨q, rfl, hq, h⟩
  · simp at hk
  · refine ⟨q, _, _, rfl, hq, (h k hk).1, (h k hk).2, ?_⟩
    simp [List.getD_eq_getElem?_getD, hk]

theorem all_take {l : List Src} {k : Nat} {s : Src} (h : l[k]? = some s) (hs : s.ok = true) (ha : (l.take k).all Src.ok = true) : (l.take (k + 1)).all Src.ok = true := by
  rw [List.take_add_one, h]
  simp [ha, hs]
theorem not_all {l : List Src} {k : Nat} {s : Src} (h : l[k]? = some s) (hs : s.ok = false) : l.all Src.ok = false := by
  rw [List.all_eq_false]
  exact ⟨s, List.mem_of_getElem? h, by simp [hs]⟩

set_option maxRecDepth 100000 in
set_option maxHeartbeats 400000 in
theorem cAllMay (w : World) (ao : Option Addr) (cap : Nat) (l : List Src) (h : SrcsAt w ao l) (h2 : l.length ≤ 2) :
    Calls Try.prog 60 #[.slice ao l.length cap] w fun e w' => e = .returned (.bool (l.all Src.ok)) ∧ Below w.heap.size w w' := by
  go_enter Try.func60, Try.ntmps60
  go_wp2
  go_loopw [7] (fun i wr => ∃ k : Nat, k ≤ l.length ∧ i = .int .i64 k ∧ (l.take k).all Src.ok = true ∧ Below w.heap.size w wr) (fun i _ => l.length - (intOf i).toNat)
  case atStart => exact ⟨0, Nat.zero_le _, rfl, rfl, Below.refl _ _⟩
  case round =>
    obtain ⟨k, hk, rfl, ha, hb⟩ := hrel
    obtain ⟨wo, rfl⟩ : ∃ wo : World, wo = wr := ⟨_, rfl⟩
    by_cases hlt : k < l.length
    case pos =>
      obtain ⟨q, a, b, rfl, hq, c0, c1, hs⟩ := (h.on hb).pair k hlt
      have R : ∀ o, Below w.heap.size w (wo.alloc o) := fun o => bal hb o
      by_cases hok : Src.ok (a, b) = true
      case neg =>
        have hok' : Src.ok (a, b) = false := by simpa using hok
        have eA := not_all hs hok'
        simp only [Src.ok, Bool.and_eq_false_iff, Bool.or_eq_false_iff, Bool.not_eq_false', decide_eq_true_eq, decide_eq_false_iff_not] at hok'
        have : a < 0 ∨ 2 < a ∨ (a = 0 ∧ b < 0) ∨ (a = 0 ∧ 1099511627776 < b) := by omega
        clear hok hok'
        rcases this with h1 | h1 | ⟨rfl, h1⟩ | ⟨rfl, h1⟩
        all_goals
          go_wp2
          go_ret
          exact ⟨by rw [eA]; rfl, R _⟩
      case pos =>
        have hn := all_take hs hok ha
        have hh := hok
        simp only [Src.ok, Bool.and_eq_true, Bool.or_eq_true, Bool.not_eq_true', decide_eq_true_eq, decide_eq_false_iff_not] at hh
        have : (a = 0 ∧ 0 ≤ b ∧ b ≤ 1099511627776) ∨ (0 < a ∧ a ≤ 2) := by omega
        clear hh hok
        rcases this with ⟨rfl, h1, h2⟩ | ⟨h1, h2⟩
        all_goals
          go_wp2
          go_roundw
          case rel => exact ⟨k + 1, by omega, by go_num, hn, R _⟩
          case measure => simp [intOf]; omega
    case neg =>
      have e : l.all Src.ok = true := by rw [List.take_of_length_le (by omega)] at ha; exact ha
      go_wp2
      go_ret
      exact ⟨by rw [e]; rfl, hb⟩

/-- two cells that were made last -/
theorem two_new (w w1 : World) (x y : Value) (hb : Below (w.alloc (.cells #[x, y] 37)).heap.size (w.alloc (.cells #[x, y] 37)) w1) : (w1.cell? ⟨w.heap.size, 0, none⟩ = some x ∧ w1.cell? ⟨w.heap.size, 1, none⟩ = some y) ∧ ∀ j, w1.frozen? ⟨w.heap.size, j, none⟩ = false := by
  have h := (hb.block w.heap.size (by simp)).trans (heap_alloc_new w _)
  exact ⟨⟨by rw [cell_of_row w1 _ _ _ _ _ h]; rfl, by rw [cell_of_row w1 _ _ _ _ _ h]; rfl⟩, fun j => frozen_of_row w1 _ _ _ _ h⟩
/-- what a field has, by value -/
abbrev vv (v : Int × Int) : Value := .agg #[.int .i64 v.1, .int .i64 v.2]
def BX (r : List Int) : Obj := .cells #[.int .i64 r.length, .int .i64 (rl r 0), .int .i64 (rl r 1), .int .i64 (rl r 2), .int .i64 (rl r 3), .int .i64 (rl r 4), .int .i64 (rl r 5), .int .i64 (rl r 6), .int .i64 (rl r 7)] 72
def got (r : List Int) (s : Src) : Int × Int := if Src.lost r s = 0 then s.val r else (0, 0)

set_option maxRecDepth 100000 in
set_option maxHeartbeats 400000 in
theorem cValue (w : World) (r : List Int) (h8 : r.length ≤ 8) (a b : Int) (h : Src.ok (a, b) = true) :
    Calls Try.prog 61 #[rvl r, .agg #[.int .i64 a, .int .i64 b]] w fun e w' => e = .returned (.tuple #[vv (got r (a, b)), .int .i64 (Src.lost r (a, b))]) ∧ Below w.heap.size w w' := by
  simp only [Src.ok, Bool.and_eq_true, Bool.or_eq_true, Bool.not_eq_true', decide_eq_true_eq, decide_eq_false_iff_not] at h
  have : a = 0 ∨ a = 1 ∨ a = 2 := by omega
  have R : ∀ o1 o2 o3, Below w.heap.size w (((w.alloc o1).alloc o2).alloc o3) := fun o1 o2 o3 => bal (bal (bal (Below.refl _ _) o1) o2) o3
  rcases this with rfl | rfl | rfl
  · have e : got r (0, b) = (0, b) ∧ Src.lost r (0, b) = 0 := ⟨by simp [got, Src.lost, Src.val], by simp [Src.lost]⟩
    rw [e.1, e.2]
    go_enter Try.func61, Try.ntmps61
    go_wp2
    exact bodyPost_ret (v := .tuple #[vv (0, b), .int .i64 0]) (by simp [results, Try.results61, go_sem]) rfl ⟨rfl, R _ _ _⟩
  · have hlv : Src.lost r (1, b) = Rw.getE r b := by simp [Src.lost]
    have hG := cGetR r b h8
    by_cases he : Rw.getE r b = 0
    · have e : got r (1, b) = (1, Rw.get r b) := by simp [got, hlv, he, Src.val]
      rw [hlv, e, he]
      rw [he] at hG
      clear e hlv he
      generalize Rw.get r b = x at hG ⊢
      go_enter Try.func61, Try.ntmps61
      go_wp2_with (go_at_call 44; refine (hG _).mono ?_; rintro e w1 ⟨rfl, hb⟩; have hR := two_new _ _ _ _ hb; simp only [World.size_alloc] at hR; obtain ⟨d0, d1⟩ := hR.1; have hf := hR.2; have hB := bt (R _ _ _) hb; clear hb hR)
      exact bodyPost_ret (v := .tuple #[vv (1, x), .int .i64 0]) (by simp [results, Try.results61, go_sem, d0, d1]) rfl ⟨rfl, b1 (by omega) (b1 (by omega) hB)⟩
    · have e : got r (1, b) = (0, 0) := by simp [got, hlv, he]
      rw [hlv, e]
      have he' : (Rw.getE r b != 0) = true := by simpa using he
      clear e hlv he
      generalize Rw.get r b = x at hG
      generalize Rw.getE r b = y at hG he' ⊢
      go_enter Try.func61, Try.ntmps61
      go_wp2_with (go_at_call 44; refine (hG _).mono ?_; rintro e w1 ⟨rfl, hb⟩; have hR := two_new _ _ _ _ hb; simp only [World.size_alloc] at hR; obtain ⟨d0, d1⟩ := hR.1; have hf := hR.2; have hB := bt (R _ _ _) hb; clear hb hR)
      exact bodyPost_ret (v := .tuple #[vv (0, 0), .int .i64 y]) (by simp [results, Try.results61, go_sem, d0, d1]) rfl ⟨rfl, b1 (by omega) (b1 (by omega) hB)⟩
  · have e : got r (2, b) = (1, 0) ∧ Src.lost r (2, b) = 0 := ⟨by simp [got, Src.lost, Src.val], by simp [Src.lost]⟩
    rw [e.1, e.2]
    go_enter Try.func61, Try.ntmps61
    go_wp2
    exact bodyPost_ret (v := .tuple #[vv (1, 0), .int .i64 0]) (by simp [results, Try.results61, go_sem]) rfl ⟨rfl, R _ _ _⟩
end Go.Proofs.Ytbihdkdefopijaa
