/-
  The walk of GraphEqual.
-/
import Derived.Test.YtbihdkdefopijaaOg
namespace Go.Proofs.Ytbihdkdefopijaa
set_option linter.unusedVariables false
set_option linter.unusedSimpArgs false
open Go.ChangeShapes Go.WideShapes Go.ChangeAt Go.RowKit

/-- two objects of one field, and roots that name them -/
def ge (r : List Int) (u v : Int × Int) : Gr := ⟨[r], [[u], [v]]⟩
def two12 (r : List Int) : Prop := ∀ x ∈ r, x = 1 ∨ x = 2
theorem at12 {r : List Int} (h : two12 r) {i : Int} (hi : Rw.isAt r i = true) : Rw.get r i = 1 ∨ Rw.get r i = 2 := by
  have hi' := hi
  simp [Rw.isAt] at hi'
  unfold Rw.get
  rw [if_pos hi, List.getD_eq_getElem?_getD, List.getElem?_eq_getElem (by omega : i.toNat < r.length)]
  exact h _ (List.getElem_mem _)
theorem ge_acc (r : List Int) (u v : Int × Int) (h : two12 r) {i : Int} (hi : Rw.isAt r i = true) (l : List Src) (hl : Src.err r l = 0) : (ge r u v).acc 0 i 0 l = 0 := by
  have hid : (ge r u v).id 0 i = Rw.get r i := rfl
  have hrs : (ge r u v).rs 0 = r := rfl
  have hT : (ge r u v).isT 0 = true := rfl
  unfold Gr.acc
  rw [hT, hrs, if_pos rfl, if_pos hl, if_pos hi, hid]
  rcases at12 h hi with e | e <;> rw [e] <;> rfl
theorem ge_field (r : List Int) (u v : Int × Int) (i : Int) : (ge r u v).field 0 i 0 = ((ge r u v).obj (Rw.get r i)).getD 0 (0, 0) := rfl
theorem ge_write (r : List Int) (u v : Int × Int) (h : two12 r) {i : Int} (hi : Rw.isAt r i = true) (x : Int) (h0 : 0 ≤ x) (h1 : x ≤ 1099511627776) :
    (ge r u v).writeE 0 i 0 (0, x) = 0 ∧ (ge r u v).write 0 i 0 (0, x) = if Rw.get r i = 1 then ge r (0, x) v else ge r u (0, x) := by
  have hE : Src.err r [(0, x)] = 0 := by simp [Src.err, Src.ok, Src.errs, Src.lost, h0, h1]
  have hA := ge_acc r u v h hi [(0, x)] hE
  refine ⟨hA, ?_⟩
  unfold Gr.write Gr.writeE
  rw [if_pos hA]
  unfold Gr.setF
  have hid : (ge r u v).id 0 i = Rw.get r i := rfl
  rw [hid]
  rcases at12 h hi with e | e <;> rw [e] <;> rfl
theorem ge_look (r : List Int) (u v : Int × Int) (h : two12 r) {i : Int} (hi : Rw.isAt r i = true) :
    (ge r u v).lookE 0 i 0 = 0 ∧ (ge r u v).lookV 0 i 0 = if Rw.get r i = 1 then u else v := by
  have hA := ge_acc r u v h hi [] rfl
  refine ⟨hA, ?_⟩
  unfold Gr.lookV Gr.lookE
  rw [if_pos hA, ge_field]
  rcases at12 h hi with e | e <;> rw [e] <;> rfl
theorem ge_eq (r : List Int) (u v : Int × Int) {i k : Int} (hi : Rw.isAt r i = true) (hk : Rw.isAt r k = true) :
    (ge r u v).eqE 0 i k = 0 ∧ (ge r u v).eqY 0 i k = decide (Rw.get r i = Rw.get r k) := by
  have hE : (ge r u v).eqE 0 i k = 0 := by
    unfold Gr.eqE
    rw [show (ge r u v).isT 0 = true from rfl, show (ge r u v).rs 0 = r from rfl, if_pos rfl, if_pos ⟨hi, hk⟩]
  refine ⟨hE, ?_⟩
  unfold Gr.eqY
  rw [hE]
  rfl
theorem ge_dup (r : List Int) (u v : Int × Int) (h : two12 r) (h8 : r.length < 8) {i : Int} (hi : Rw.isAt r i = true) :
    (ge r u v).dupE 0 i = 0 ∧ ∃ r', (ge r u v).dup 0 i = ge r' u v ∧ r'.length = r.length + 1 ∧ two12 r' := by
  have hE : (ge r u v).dupE 0 i = 0 := by
    unfold Gr.dupE Rw.dupE Rw.pushE
    rw [show (ge r u v).isT 0 = true from rfl, show (ge r u v).rs 0 = r from rfl, if_pos rfl, if_pos hi, if_pos h8]
  refine ⟨hE, r ++ [Rw.get r i], ?_, by simp, fun x hx => ?_⟩
  · unfold Gr.dup
    rw [if_pos hE]
    have : Rw.dup ((ge r u v).rs 0) i = r ++ [Rw.get r i] := by
      rw [show (ge r u v).rs 0 = r from rfl]
      unfold Rw.dup Rw.push Rw.get
      rw [if_pos hi, if_pos h8, if_pos hi]
    rw [this]
    rfl
  · simp at hx
    rcases hx with hx | rfl
    · exact h x hx
    · exact at12 h hi

set_option maxRecDepth 100000 in
set_option maxHeartbeats 4000000 in
theorem wGraphEqual (ao : Option Addr) (len cap : Nat) (z : Nat → Int) (x0 x1 y : Int) (w : World) (hl : CameI w ao len z) (hx0 : -9223372036854775808 ≤ x0 ∧ x0 ≤ 9223372036854775807) (hx1 : -9223372036854775808 ≤ x1 ∧ x1 ≤ 9223372036854775807) (hy0 : -9223372036854775808 ≤ y) (hy1 : y ≤ 9223372036854775807) :
    Calls Try.prog 6 #[.slice ao len cap, .agg #[.int .i64 x0, .int .i64 x1], .int .i64 y] w fun e w' => e = .returned (.bool true) ∧ Below w.heap.size w w' := by
  have hq0 := heap_alloc_new w (.cells #[.int .i64 x0, .int .i64 x1] 58)
  have hB0 := bal (Below.refl w.heap.size w) (.cells #[.int .i64 x0, .int .i64 x1] 58)
  go_enter Try.func6, Try.ntmps6
  go_wp2_with (first
    | (go_at_call 9; refine (cShown _).mono ?_; rintro e w1 ⟨rfl, hb1⟩; have v1 := (hb1.block w.heap.size (by simp)).trans hq0; have hB1 := bt hB0 hb1)
    | (go_at_call 10; refine (oNew _ 1 (by decide) (by decide) hB1).mono ?_; rintro e w2 ⟨b, rfl, o2, hb2⟩; have v2 := (hb2.block w.heap.size (lt_of_block v1)).trans v1)
    | (go_at_call 13; have q := o3; refine (oAlloc o3 (by decide) 0 1).mono ?_; rintro e w4 ⟨rfl, o4, hO4⟩; have v4 := hO4 _ _ _ _ (by decide) v3; rw [show Gr.alloc (Gr.alloc (Gr.new 1) 0 1) 0 1 = ge [1, 2] (0, 0) (0, 0) from rfl] at o4)
    | (go_at_call 13; refine (oAlloc o2 (by decide) 0 1).mono ?_; rintro e w3 ⟨rfl, o3, hO3⟩; have v3 := hO3 _ _ _ _ (by decide) v2))
  obtain ⟨ob, hob⟩ : ∃ n, n = w.heap.size := ⟨_, rfl⟩
  rw [← hob] at v4 ⊢
  have hob' : w.heap.size ≤ ob := by omega
  clear hob v1 v2 v3 hq0 hB0 hB1 hb1 hb2 o2 o3 hO3 hO4 q
  go_loopw [10, 11] (fun n i wr => ∃ (k : Nat) (r : List Int), k ≤ len ∧ k ≤ 6 ∧ n = .int .i64 ((k : Int) + 2) ∧ i = .int .i64 k ∧ r.length = k + 2 ∧ two12 r ∧ Own w wr b (ge r (0, 0) (0, 0)) 2 ∧ wr.heap[ob]? = some (.cells #[.int .i64 x0, .int .i64 x1] 58 (0, 0))) (fun n i _ => 6 - (intOf i).toNat)
  case atStart => exact ⟨0, [1, 2], Nat.zero_le _, by decide, rfl, rfl, rfl, fun x hx => by simpa using hx, o4, v4⟩
  case round =>
    clear o4 v4
    obtain ⟨k, r, hk, hk6, rfl, rfl, hr, h12, o4, v4⟩ := hrel
    obtain ⟨wo, rfl⟩ : ∃ wo : World, wo = wr := ⟨_, rfl⟩
    have k0 : (0 : Int) ≤ (k : Int) := by omega
    by_cases hlt : k < len ∧ k < 6
    case pos =>
      obtain ⟨hlt, hl6⟩ := hlt
      have kl : (k : Int) < (len : Int) := by omega
      have kl6 : (k : Int) < 6 := by omega
      rcases hl with hl | ⟨lb, off, rfl, hlb, hl⟩
      case inl => omega
      case inr =>
        have hc := (o4.bel.cell hlb).trans (hl k hlt).1
        have hz := (hl k hlt).2
        have hkd := kd_bounds (z k) ((k : Int) + 2) (by omega)
        have hD := ge_dup r (0, 0) (0, 0) h12 (by omega) (i := kd (z k) ((k : Int) + 2)) (by simp [Rw.isAt]; omega)
        obtain ⟨hE, r', hR, hr', h12'⟩ := hD
        go_wp2_with (first
          | (go_at_call 12; refine (cKind _ (z k) ((k : Int) + 2) hz.1 hz.2 (by omega)).mono ?_; rintro e w9 ⟨rfl, hw9⟩; rw [hw9]; clear hw9 w9)
          | (go_at_call 25; refine (oDup o4 0 (kd (z k) ((k : Int) + 2))).mono ?_; rintro e w5 ⟨rfl, o5, hO5⟩; have v5 := hO5 _ _ _ _ (by decide) v4; rw [hE]; rw [hR] at o5))
        go_roundw
        case rel => exact ⟨k + 1, r', by omega, by omega, by go_num, by go_num, by omega, h12', o5, v5⟩
        case measure => simp [intOf]; omega
    case neg =>
      have hd : (decide ((k : Int) < (len : Int)) && decide ((k : Int) < 6)) = false := by simp; omega
      have b0 := kd_bounds x0 ((k : Int) + 2) (by omega)
      have b1 := kd_bounds x1 ((k : Int) + 2) (by omega)
      have b2 := kd_bounds y 1000 (by omega)
      have a0 : Rw.isAt r (kd x0 ((k : Int) + 2)) = true := by simp [Rw.isAt]; omega
      have a1 : Rw.isAt r (kd x1 ((k : Int) + 2)) = true := by simp [Rw.isAt]; omega
      have d0 : wo.cell? ⟨ob, 0, none⟩ = some (.int .i64 x0) := by rw [cell_of_row wo _ _ _ _ _ v4]; rfl
      have d1 : wo.cell? ⟨ob, 1, none⟩ = some (.int .i64 x1) := by rw [cell_of_row wo _ _ _ _ _ v4]; rfl
      have k1 := cKind wo x0 ((k : Int) + 2) hx0.1 hx0.2 (by omega)
      have k2 := cKind wo x1 ((k : Int) + 2) hx1.1 hx1.2 (by omega)
      have k3 := fun u => cKind u y 1000 hy0 hy1 (by decide)
      clear hl
      have hsame : kd x0 ((k : Int) + 2) = kd x1 ((k : Int) + 2) → Rw.get r (kd x0 ((k : Int) + 2)) = Rw.get r (kd x1 ((k : Int) + 2)) := fun h => by rw [h]
      generalize kd x0 ((k : Int) + 2) = i at a0 k1 b0 hsame
      generalize kd x1 ((k : Int) + 2) = j at a1 k2 b1 hsame
      generalize kd y 1000 = c at k3 b2
      have hx5 : (5000 == c) = false := by simp; omega
      have g0 := at12 h12 a0
      have g1 := at12 h12 a1
      rcases g0 with g0 | g0 <;> rcases g1 with g1 | g1
      · by_cases hij : i = j
        case pos =>
          as_aux_lemma =>
            have hij' : (i != j) = false := by simpa using hij
            clear hij hsame
            have hE1 : (ge r (0, 0) (0, 0)).eqE 0 i j = 0 ∧ (ge r (0, 0) (0, 0)).eqY 0 i j = true := by have h := ge_eq r (0, 0) (0, 0) a0 a1; rw [g0, g1] at h; exact h
            have hE2 : (ge r (0, 0) (0, 0)).eqE 0 j i = 0 ∧ (ge r (0, 0) (0, 0)).eqY 0 j i = true := by have h := ge_eq r (0, 0) (0, 0) a1 a0; rw [g0, g1] at h; exact h
            have hW1 : (ge r (0, 0) (0, 0)).write 0 j 0 (0, 5000) = ge r (0, 5000) (0, 0) := by have h := (ge_write r (0, 0) (0, 0) h12 a1 5000 (by decide) (by decide)).2; rw [g1] at h; exact h
            have hW2 : (ge r (0, 5000) (0, 0)).write 0 i 0 (0, c) = ge r (0, c) (0, 0) := by have h := (ge_write r (0, 5000) (0, 0) h12 a0 c (by omega) (by omega)).2; rw [g0] at h; exact h
            have hL : (ge r (0, c) (0, 0)).lookE 0 j 0 = 0 ∧ (ge r (0, c) (0, 0)).lookV 0 j 0 = (0, c) := by have h := ge_look r (0, c) (0, 0) h12 a1; rw [g1] at h; exact h
            go_wp2_with (first
              | (go_at_call_of 12 (Value.int .i64 x0); refine k1.mono ?_; rintro e w9 ⟨rfl, hw9⟩; rw [hw9]; clear hw9 w9)
              | (go_at_call_of 12 (Value.int .i64 x1); refine k2.mono ?_; rintro e w9 ⟨rfl, hw9⟩; rw [hw9]; clear hw9 w9)
              | (go_at_call_of 12 (Value.int .i64 y); refine (k3 _).mono ?_; rintro e w9 ⟨rfl, hw9⟩; rw [hw9]; clear hw9 w9)
              | (go_at_call 23; have q := o5; refine (oEq o5 0 j i).mono ?_; rintro e w6 ⟨rfl, o6, -⟩; rw [hE2.1, hE2.2])
              | (go_at_call 23; refine (oEq o4 0 i j).mono ?_; rintro e w5 ⟨rfl, o5, -⟩; rw [hE1.1, hE1.2])
              | (go_at_call 19; have q := o7; refine (oWrite o7 0 i 0 0 c).mono ?_; rintro e w8 ⟨rfl, o8, -⟩; rw [hW2] at o8)
              | (go_at_call 19; refine (oWrite o6 0 j 0 0 5000).mono ?_; rintro e w7 ⟨rfl, o7, -⟩; rw [hW1] at o7)
              | (go_at_call 15; refine (oLook o8 0 j 0).mono ?_; rintro e wl ⟨rfl, ol, -⟩; rw [hL.1, hL.2]))
            all_goals
              go_quiet ((go_at_call 12; exact Calls.quiet_of_same (k3 _)))
              go_wp2
              go_ret
              exact ⟨by simp, bdr (bal ol.bel _) _⟩
        case neg =>
          as_aux_lemma =>
            have hij' : (i != j) = true := by simpa using hij
            clear hij hsame
            have hE1 : (ge r (0, 0) (0, 0)).eqE 0 i j = 0 ∧ (ge r (0, 0) (0, 0)).eqY 0 i j = true := by have h := ge_eq r (0, 0) (0, 0) a0 a1; rw [g0, g1] at h; exact h
            have hE2 : (ge r (0, 0) (0, 0)).eqE 0 j i = 0 ∧ (ge r (0, 0) (0, 0)).eqY 0 j i = true := by have h := ge_eq r (0, 0) (0, 0) a1 a0; rw [g0, g1] at h; exact h
            have hW1 : (ge r (0, 0) (0, 0)).write 0 j 0 (0, 5000) = ge r (0, 5000) (0, 0) := by have h := (ge_write r (0, 0) (0, 0) h12 a1 5000 (by decide) (by decide)).2; rw [g1] at h; exact h
            have hW2 : (ge r (0, 5000) (0, 0)).write 0 i 0 (0, c) = ge r (0, c) (0, 0) := by have h := (ge_write r (0, 5000) (0, 0) h12 a0 c (by omega) (by omega)).2; rw [g0] at h; exact h
            have hL : (ge r (0, c) (0, 0)).lookE 0 j 0 = 0 ∧ (ge r (0, c) (0, 0)).lookV 0 j 0 = (0, c) := by have h := ge_look r (0, c) (0, 0) h12 a1; rw [g1] at h; exact h
            go_wp2_with (first
              | (go_at_call_of 12 (Value.int .i64 x0); refine k1.mono ?_; rintro e w9 ⟨rfl, hw9⟩; rw [hw9]; clear hw9 w9)
              | (go_at_call_of 12 (Value.int .i64 x1); refine k2.mono ?_; rintro e w9 ⟨rfl, hw9⟩; rw [hw9]; clear hw9 w9)
              | (go_at_call_of 12 (Value.int .i64 y); refine (k3 _).mono ?_; rintro e w9 ⟨rfl, hw9⟩; rw [hw9]; clear hw9 w9)
              | (go_at_call 23; have q := o5; refine (oEq o5 0 j i).mono ?_; rintro e w6 ⟨rfl, o6, -⟩; rw [hE2.1, hE2.2])
              | (go_at_call 23; refine (oEq o4 0 i j).mono ?_; rintro e w5 ⟨rfl, o5, -⟩; rw [hE1.1, hE1.2])
              | (go_at_call 19; have q := o7; refine (oWrite o7 0 i 0 0 c).mono ?_; rintro e w8 ⟨rfl, o8, -⟩; rw [hW2] at o8)
              | (go_at_call 19; refine (oWrite o6 0 j 0 0 5000).mono ?_; rintro e w7 ⟨rfl, o7, -⟩; rw [hW1] at o7)
              | (go_at_call 15; refine (oLook o8 0 j 0).mono ?_; rintro e wl ⟨rfl, ol, -⟩; rw [hL.1, hL.2]))
            all_goals
              go_quiet ((go_at_call 12; exact Calls.quiet_of_same (k3 _)))
              go_wp2
              go_ret
              exact ⟨by simp, bdr (bal ol.bel _) _⟩
      · as_aux_lemma =>
          have hij' : (i != j) = true := by simp; intro h; have := hsame h; omega
          clear hsame
          have hE1 : (ge r (0, 0) (0, 0)).eqE 0 i j = 0 ∧ (ge r (0, 0) (0, 0)).eqY 0 i j = false := by have h := ge_eq r (0, 0) (0, 0) a0 a1; rw [g0, g1] at h; exact h
          have hE2 : (ge r (0, 0) (0, 0)).eqE 0 j i = 0 ∧ (ge r (0, 0) (0, 0)).eqY 0 j i = false := by have h := ge_eq r (0, 0) (0, 0) a1 a0; rw [g0, g1] at h; exact h
          have hW1 : (ge r (0, 0) (0, 0)).write 0 j 0 (0, 5000) = ge r (0, 0) (0, 5000) := by have h := (ge_write r (0, 0) (0, 0) h12 a1 5000 (by decide) (by decide)).2; rw [g1] at h; exact h
          have hW2 : (ge r (0, 0) (0, 5000)).write 0 i 0 (0, c) = ge r (0, c) (0, 5000) := by have h := (ge_write r (0, 0) (0, 5000) h12 a0 c (by omega) (by omega)).2; rw [g0] at h; exact h
          have hL : (ge r (0, c) (0, 5000)).lookE 0 j 0 = 0 ∧ (ge r (0, c) (0, 5000)).lookV 0 j 0 = (0, 5000) := by have h := ge_look r (0, c) (0, 5000) h12 a1; rw [g1] at h; exact h
          go_wp2_with (first
            | (go_at_call_of 12 (Value.int .i64 x0); refine k1.mono ?_; rintro e w9 ⟨rfl, hw9⟩; rw [hw9]; clear hw9 w9)
            | (go_at_call_of 12 (Value.int .i64 x1); refine k2.mono ?_; rintro e w9 ⟨rfl, hw9⟩; rw [hw9]; clear hw9 w9)
            | (go_at_call_of 12 (Value.int .i64 y); refine (k3 _).mono ?_; rintro e w9 ⟨rfl, hw9⟩; rw [hw9]; clear hw9 w9)
            | (go_at_call 23; have q := o5; refine (oEq o5 0 j i).mono ?_; rintro e w6 ⟨rfl, o6, -⟩; rw [hE2.1, hE2.2])
            | (go_at_call 23; refine (oEq o4 0 i j).mono ?_; rintro e w5 ⟨rfl, o5, -⟩; rw [hE1.1, hE1.2])
            | (go_at_call 19; have q := o7; refine (oWrite o7 0 i 0 0 c).mono ?_; rintro e w8 ⟨rfl, o8, -⟩; rw [hW2] at o8)
            | (go_at_call 19; refine (oWrite o6 0 j 0 0 5000).mono ?_; rintro e w7 ⟨rfl, o7, -⟩; rw [hW1] at o7)
            | (go_at_call 15; refine (oLook o8 0 j 0).mono ?_; rintro e wl ⟨rfl, ol, -⟩; rw [hL.1, hL.2]))
          all_goals
            go_quiet ((go_at_call 12; exact Calls.quiet_of_same (k3 _)))
            go_wp2
            go_ret
            exact ⟨by simp, bdr (bal ol.bel _) _⟩
      · as_aux_lemma =>
          have hij' : (i != j) = true := by simp; intro h; have := hsame h; omega
          clear hsame
          have hE1 : (ge r (0, 0) (0, 0)).eqE 0 i j = 0 ∧ (ge r (0, 0) (0, 0)).eqY 0 i j = false := by have h := ge_eq r (0, 0) (0, 0) a0 a1; rw [g0, g1] at h; exact h
          have hE2 : (ge r (0, 0) (0, 0)).eqE 0 j i = 0 ∧ (ge r (0, 0) (0, 0)).eqY 0 j i = false := by have h := ge_eq r (0, 0) (0, 0) a1 a0; rw [g0, g1] at h; exact h
          have hW1 : (ge r (0, 0) (0, 0)).write 0 j 0 (0, 5000) = ge r (0, 5000) (0, 0) := by have h := (ge_write r (0, 0) (0, 0) h12 a1 5000 (by decide) (by decide)).2; rw [g1] at h; exact h
          have hW2 : (ge r (0, 5000) (0, 0)).write 0 i 0 (0, c) = ge r (0, 5000) (0, c) := by have h := (ge_write r (0, 5000) (0, 0) h12 a0 c (by omega) (by omega)).2; rw [g0] at h; exact h
          have hL : (ge r (0, 5000) (0, c)).lookE 0 j 0 = 0 ∧ (ge r (0, 5000) (0, c)).lookV 0 j 0 = (0, 5000) := by have h := ge_look r (0, 5000) (0, c) h12 a1; rw [g1] at h; exact h
          go_wp2_with (first
            | (go_at_call_of 12 (Value.int .i64 x0); refine k1.mono ?_; rintro e w9 ⟨rfl, hw9⟩; rw [hw9]; clear hw9 w9)
            | (go_at_call_of 12 (Value.int .i64 x1); refine k2.mono ?_; rintro e w9 ⟨rfl, hw9⟩; rw [hw9]; clear hw9 w9)
            | (go_at_call_of 12 (Value.int .i64 y); refine (k3 _).mono ?_; rintro e w9 ⟨rfl, hw9⟩; rw [hw9]; clear hw9 w9)
            | (go_at_call 23; have q := o5; refine (oEq o5 0 j i).mono ?_; rintro e w6 ⟨rfl, o6, -⟩; rw [hE2.1, hE2.2])
            | (go_at_call 23; refine (oEq o4 0 i j).mono ?_; rintro e w5 ⟨rfl, o5, -⟩; rw [hE1.1, hE1.2])
            | (go_at_call 19; have q := o7; refine (oWrite o7 0 i 0 0 c).mono ?_; rintro e w8 ⟨rfl, o8, -⟩; rw [hW2] at o8)
            | (go_at_call 19; refine (oWrite o6 0 j 0 0 5000).mono ?_; rintro e w7 ⟨rfl, o7, -⟩; rw [hW1] at o7)
            | (go_at_call 15; refine (oLook o8 0 j 0).mono ?_; rintro e wl ⟨rfl, ol, -⟩; rw [hL.1, hL.2]))
          all_goals
            go_quiet ((go_at_call 12; exact Calls.quiet_of_same (k3 _)))
            go_wp2
            go_ret
            exact ⟨by simp, bdr (bal ol.bel _) _⟩
      · by_cases hij : i = j
        case pos =>
          as_aux_lemma =>
            have hij' : (i != j) = false := by simpa using hij
            clear hij hsame
            have hE1 : (ge r (0, 0) (0, 0)).eqE 0 i j = 0 ∧ (ge r (0, 0) (0, 0)).eqY 0 i j = true := by have h := ge_eq r (0, 0) (0, 0) a0 a1; rw [g0, g1] at h; exact h
            have hE2 : (ge r (0, 0) (0, 0)).eqE 0 j i = 0 ∧ (ge r (0, 0) (0, 0)).eqY 0 j i = true := by have h := ge_eq r (0, 0) (0, 0) a1 a0; rw [g0, g1] at h; exact h
            have hW1 : (ge r (0, 0) (0, 0)).write 0 j 0 (0, 5000) = ge r (0, 0) (0, 5000) := by have h := (ge_write r (0, 0) (0, 0) h12 a1 5000 (by decide) (by decide)).2; rw [g1] at h; exact h
            have hW2 : (ge r (0, 0) (0, 5000)).write 0 i 0 (0, c) = ge r (0, 0) (0, c) := by have h := (ge_write r (0, 0) (0, 5000) h12 a0 c (by omega) (by omega)).2; rw [g0] at h; exact h
            have hL : (ge r (0, 0) (0, c)).lookE 0 j 0 = 0 ∧ (ge r (0, 0) (0, c)).lookV 0 j 0 = (0, c) := by have h := ge_look r (0, 0) (0, c) h12 a1; rw [g1] at h; exact h
            go_wp2_with (first
              | (go_at_call_of 12 (Value.int .i64 x0); refine k1.mono ?_; rintro e w9 ⟨rfl, hw9⟩; rw [hw9]; clear hw9 w9)
              | (go_at_call_of 12 (Value.int .i64 x1); refine k2.mono ?_; rintro e w9 ⟨rfl, hw9⟩; rw [hw9]; clear hw9 w9)
              | (go_at_call_of 12 (Value.int .i64 y); refine (k3 _).mono ?_; rintro e w9 ⟨rfl, hw9⟩; rw [hw9]; clear hw9 w9)
              | (go_at_call 23; have q := o5; refine (oEq o5 0 j i).mono ?_; rintro e w6 ⟨rfl, o6, -⟩; rw [hE2.1, hE2.2])
              | (go_at_call 23; refine (oEq o4 0 i j).mono ?_; rintro e w5 ⟨rfl, o5, -⟩; rw [hE1.1, hE1.2])
              | (go_at_call 19; have q := o7; refine (oWrite o7 0 i 0 0 c).mono ?_; rintro e w8 ⟨rfl, o8, -⟩; rw [hW2] at o8)
              | (go_at_call 19; refine (oWrite o6 0 j 0 0 5000).mono ?_; rintro e w7 ⟨rfl, o7, -⟩; rw [hW1] at o7)
              | (go_at_call 15; refine (oLook o8 0 j 0).mono ?_; rintro e wl ⟨rfl, ol, -⟩; rw [hL.1, hL.2]))
            all_goals
              go_quiet ((go_at_call 12; exact Calls.quiet_of_same (k3 _)))
              go_wp2
              go_ret
              exact ⟨by simp, bdr (bal ol.bel _) _⟩
        case neg =>
          as_aux_lemma =>
            have hij' : (i != j) = true := by simpa using hij
            clear hij hsame
            have hE1 : (ge r (0, 0) (0, 0)).eqE 0 i j = 0 ∧ (ge r (0, 0) (0, 0)).eqY 0 i j = true := by have h := ge_eq r (0, 0) (0, 0) a0 a1; rw [g0, g1] at h; exact h
            have hE2 : (ge r (0, 0) (0, 0)).eqE 0 j i = 0 ∧ (ge r (0, 0) (0, 0)).eqY 0 j i = true := by have h := ge_eq r (0, 0) (0, 0) a1 a0; rw [g0, g1] at h; exact h
            have hW1 : (ge r (0, 0) (0, 0)).write 0 j 0 (0, 5000) = ge r (0, 0) (0, 5000) := by have h := (ge_write r (0, 0) (0, 0) h12 a1 5000 (by decide) (by decide)).2; rw [g1] at h; exact h
            have hW2 : (ge r (0, 0) (0, 5000)).write 0 i 0 (0, c) = ge r (0, 0) (0, c) := by have h := (ge_write r (0, 0) (0, 5000) h12 a0 c (by omega) (by omega)).2; rw [g0] at h; exact h
            have hL : (ge r (0, 0) (0, c)).lookE 0 j 0 = 0 ∧ (ge r (0, 0) (0, c)).lookV 0 j 0 = (0, c) := by have h := ge_look r (0, 0) (0, c) h12 a1; rw [g1] at h; exact h
            go_wp2_with (first
              | (go_at_call_of 12 (Value.int .i64 x0); refine k1.mono ?_; rintro e w9 ⟨rfl, hw9⟩; rw [hw9]; clear hw9 w9)
              | (go_at_call_of 12 (Value.int .i64 x1); refine k2.mono ?_; rintro e w9 ⟨rfl, hw9⟩; rw [hw9]; clear hw9 w9)
              | (go_at_call_of 12 (Value.int .i64 y); refine (k3 _).mono ?_; rintro e w9 ⟨rfl, hw9⟩; rw [hw9]; clear hw9 w9)
              | (go_at_call 23; have q := o5; refine (oEq o5 0 j i).mono ?_; rintro e w6 ⟨rfl, o6, -⟩; rw [hE2.1, hE2.2])
              | (go_at_call 23; refine (oEq o4 0 i j).mono ?_; rintro e w5 ⟨rfl, o5, -⟩; rw [hE1.1, hE1.2])
              | (go_at_call 19; have q := o7; refine (oWrite o7 0 i 0 0 c).mono ?_; rintro e w8 ⟨rfl, o8, -⟩; rw [hW2] at o8)
              | (go_at_call 19; refine (oWrite o6 0 j 0 0 5000).mono ?_; rintro e w7 ⟨rfl, o7, -⟩; rw [hW1] at o7)
              | (go_at_call 15; refine (oLook o8 0 j 0).mono ?_; rintro e wl ⟨rfl, ol, -⟩; rw [hL.1, hL.2]))
            all_goals
              go_quiet ((go_at_call 12; exact Calls.quiet_of_same (k3 _)))
              go_wp2
              go_ret
              exact ⟨by simp, bdr (bal ol.bel _) _⟩
end Go.Proofs.Ytbihdkdefopijaa
