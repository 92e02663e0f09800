/-
  Contract of renumberedRoots.
-/
import Derived.Test.YtbihdkdefopijaaSm
namespace Go.Proofs.Ytbihdkdefopijaa
set_option linter.unusedVariables false
set_option linter.unusedSimpArgs false
open Go.ChangeShapes Go.WideShapes Go.ChangeAt Go.RowKit Go.Maps

theorem set_next {α : Type} (a : List α) (z v : α) (n k : Nat) (hk : a.length = k) (hn : k < n) : (a ++ List.replicate (n - k) z).set k v = (a ++ [v]) ++ List.replicate (n - (k + 1)) z := by
  rw [List.set_append_right _ _ (by omega), hk, Nat.sub_self, show n - k = (n - (k + 1)) + 1 by omega, List.replicate_succ]
  simp
theorem ints_set (l : List Int) (k : Nat) (x : Int) : (ints l).set k (.int .i64 x) = ints (l.set k x) := by simp [ints, List.map_set]
theorem take_next {α : Type} {l : List α} {k : Nat} (d : α) (h : k < l.length) : l.take (k + 1) = l.take k ++ [l.getD k d] := by
  rw [List.take_add_one, List.getD_eq_getElem?_getD, List.getElem?_eq_getElem h]
  rfl
/-- the function that meets, as a value -/
abbrev mfun (nb mb : Nat) : Value := .func (.func 52) #[] #[.pointer (some ⟨nb, 0, none⟩), .pointer (some ⟨mb, 0, none⟩)]
theorem RAt.stay {w u : World} {b : Nat} {n : Int} {l : Nat → Int} (h : RAt w b n l) (e : u.heap[b]? = w.heap[b]?) : RAt u b n l := e.trans h

set_option maxRecDepth 100000 in
set_option maxHeartbeats 800000 in
theorem cRoots {w : World} {C : Mt} {m : List Int} {N : Nat} (h : Met w C m) (ok : Sh.Ok N m) (hN : N ≤ 1000) (r : List Int) (h8 : r.length ≤ 8) (hr : ∀ x ∈ r, 0 ≤ x ∧ x ≤ N) :
    Calls Try.prog 53 #[rvl r, mfun C.nb C.mb] w fun e w' => ∃ g C', e = .returned (.slice (some ⟨g, 0, none⟩) r.length r.length) ∧ Met w' C' (Sh.meets m r).1 ∧ StepM w C w' C' ∧ w'.ownsRow 0 3 1 (.slice (some ⟨g, 0, none⟩) r.length r.length) r.length (ints (Sh.meets m r).2) ∧ w.heap.size ≤ g ∧ g ∉ C'.fp := by
  obtain ⟨i0, hi, hz0, hz1, hz2⟩ := info_parts info3
  have hA := RAt.new w r.length (rl r)
  go_enter Try.func53, Try.ntmps53
  go_wp2_with (at_make; refine wpList_make_full _ rfl _ _ 53 rfl 0 3 i0 _ 1 Try.underlying53 hi hz0 hz1 .i64 .i64 r.length r.length r.length rfl rfl rfl rfl (by rw [hz2]; omega) (by unfold maxLen; omega) (by omega) ?_; intro w1 hown hgr)
  rw [show (Value.int .i64 0).cells = #[.int .i64 0] from rfl, toList_madeCells_one, Nat.mul_one] at hown
  obtain ⟨g, hgdef⟩ : ∃ g, g = w.heap.size + 1 := ⟨_, rfl⟩
  have e1 : (w.alloc (.cells #[.int .i64 r.length, .int .i64 (rl r 0), .int .i64 (rl r 1), .int .i64 (rl r 2), .int .i64 (rl r 3), .int .i64 (rl r 4), .int .i64 (rl r 5), .int .i64 (rl r 6), .int .i64 (rl r 7)] 72)).heap.size = w.heap.size + 1 := by simp
  rw [e1] at hown
  rw [← hgdef] at hown ⊢
  have K1 : Kept C.fp w w1 := (Kept.alloc C.fp w (.cells #[.int .i64 r.length, .int .i64 (rl r 0), .int .i64 (rl r 1), .int .i64 (rl r 2), .int .i64 (rl r 3), .int .i64 (rl r 4), .int .i64 (rl r 5), .int .i64 (rl r 6), .int .i64 (rl r 7)] 72)).trans (Kept.grown C.fp hgr fun k hk => by cases hk) fun _ hk => .inl hk
  have hbox : w.heap.size ∉ C.fp := fun e => by have := h.lt _ e; omega
  have hgn : g ∉ C.fp := fun e => by have := h.lt _ e; omega
  have hA1 : RAt w1 w.heap.size r.length (rl r) := hA.stay (hgr.block w.heap.size (by simp) (by simp))
  have M1 : Met w1 C m := (h.alloc (.cells #[.int .i64 r.length, .int .i64 (rl r 0), .int .i64 (rl r 1), .int .i64 (rl r 2), .int .i64 (rl r 3), .int .i64 (rl r 4), .int .i64 (rl r 5), .int .i64 (rl r 6), .int .i64 (rl r 7)] 72)).on (Kept.grown [] hgr fun k hk => by cases hk) fun _ _ => by simp
  have hsz : g < w1.heap.size := (hown.lt g rfl).2
  clear K1
  have K1 : StepM w C w1 C := ⟨(Kept.alloc C.fp w (.cells #[.int .i64 r.length, .int .i64 (rl r 0), .int .i64 (rl r 1), .int .i64 (rl r 2), .int .i64 (rl r 3), .int .i64 (rl r 4), .int .i64 (rl r 5), .int .i64 (rl r 6), .int .i64 (rl r 7)] 72)).trans (Kept.grown C.fp hgr fun k hk => by cases hk) fun _ hk => .inl hk, fun _ h => .inl h, rfl, rfl⟩
  clear hgr
  have hgle : w.heap.size < g := by omega
  clear hgdef e1
  go_loopw [12] (fun i wr => ∃ (k : Nat) (C' : Mt), k ≤ r.length ∧ i = .int .i64 k ∧ Met wr C' (Sh.meets m (r.take k)).1 ∧ StepM w C wr C' ∧ RAt wr w.heap.size r.length (rl r) ∧ w.heap.size ∉ C'.fp ∧ g ∉ C'.fp ∧ wr.ownsRow 0 3 1 (.slice (some ⟨g, 0, none⟩) r.length r.length) r.length (ints ((Sh.meets m (r.take k)).2 ++ List.replicate (r.length - k) 0))) (fun i _ => r.length - (intOf i).toNat)
  case atStart => exact ⟨0, C, Nat.zero_le _, rfl, M1, K1, hA1, hbox, hgn, by simpa [ints, Sh.meets] using hown⟩
  case round =>
    obtain ⟨k, C', hk, rfl, hM, hS, hR, hb1, hg1, hrow⟩ := hrel
    obtain ⟨wo, rfl⟩ : ∃ wo : World, wo = wr := ⟨_, rfl⟩
    by_cases hlt : k < r.length
    case pos =>
      have hc := hR.cell k (by omega)
      have k0 : (0 : Int) ≤ (k : Int) := by omega
      have k8 : (k : Int) < 8 := by omega
      have hkl : (k : Int) < (r.length : Int) := by omega
      have hmem : r.getD k 0 ∈ r := by rw [List.getD_eq_getElem?_getD, List.getElem?_eq_getElem hlt]; exact List.getElem_mem _
      have hx := hr _ hmem
      have okk := Sh.Ok.meets (r.take k) ok fun x hx => hr x (List.mem_of_mem_take hx)
      have hml := okk.len
      have hT := take_next (0 : Int) hlt
      have e2 := Sh.meets_snoc (r.take k) (r.getD k 0) m
      rw [← hT] at e2
      have hlen := Sh.meets_len (r.take k) m
      rw [List.length_take, Nat.min_eq_left hk] at hlen
      have hC := cMeet hM (r.getD k 0) hx.1 (by omega) (by omega)
      rw [hS.nb, hS.mb] at hC
      have hrl : rl r k = r.getD k 0 := rfl
      rw [hrl] at hc
      generalize r.getD k 0 = x at hc hC e2 hx
      generalize hnum : Sh.num (Sh.add (Sh.meets m (r.take k)).1 x) x = y at hC e2
      have hl1 : (Sh.meets m (r.take (k + 1))).1 = Sh.add (Sh.meets m (r.take k)).1 x := by rw [e2]
      have hl2 : ints ((Sh.meets m (r.take k)).2 ++ List.replicate (r.length - k) 0) = ints ((Sh.meets m (r.take k)).2 ++ List.replicate (r.length - k) 0) := rfl
      go_wp2_with (go_at_call 52; refine hC.mono ?_; rintro e w2 ⟨rfl, C2, hM2, hS2⟩; have hbk := hS2.other hR.lt hb1; have hgk := hS2.other (hrow.lt g rfl).2 hg1; have hrow2 := own_kept hrow hS2.kept (fun j hj => by simp [Value.ownBlock] at hj; subst hj; exact hg1); have hcell := hrow2.cellAt k (by simp [ints]; omega); have hfz := hrow2.frozenAt k; rw [ints_at _ k (by simp; omega)] at hcell; obtain ⟨z, hz⟩ : ∃ z, w2.cell? ⟨g, k, none⟩ = some z := ⟨_, hcell⟩; clear hcell; have hst := (hrow2.stored k (.int .i64 y)).1)
      rw [ints_set, set_next _ _ _ _ _ hlen hlt] at hst
      have hKs := Kept.setCell [g] w2 ⟨g, k, none⟩ (.int .i64 y) (by simp)
      have hM3 := hM2.on hKs (fun j hj e => by simp at e; subst e; exact hgk.2.1 hj)
      go_wp2
      go_roundw
      case rel =>
        refine ⟨k + 1, C2, by omega, by go_num, by rw [hl1]; exact hM3, ?_, (hR.stay hbk.1).other ⟨g, k, none⟩ _ (show w.heap.size ≠ g by omega), hbk.2.1, hgk.2.1, by rw [e2]; exact hst⟩
        have := hS.trans hS2
        exact ⟨this.kept.trans hKs fun j hj => .inr (by simp at hj; omega), this.new, this.nb, this.mb⟩
      case measure => simp [intOf]; omega
    case neg =>
      have hkl : k = r.length := by omega
      rw [List.take_of_length_le (by omega)] at hM hrow
      have e0 : r.length - k = 0 := by omega
      rw [e0] at hrow
      simp only [List.replicate_zero, List.append_nil] at hrow
      go_wp2
      go_ret
      exact ⟨g, C', rfl, hM, hS, hrow, by omega, hg1⟩
end Go.Proofs.Ytbihdkdefopijaa
