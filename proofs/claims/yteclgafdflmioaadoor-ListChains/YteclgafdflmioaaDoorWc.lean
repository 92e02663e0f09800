/-
  The walk of the law on rows of cells.
-/
import Derived.Test.YteclgafdflmioaaDoorWo
namespace Go.Proofs.YteclgafdflmioaaDoor
set_option linter.unusedVariables false
set_option maxRecDepth 100000
open Go.ChangeShapes Go.WideShapes Go.RowKit
open S.Plain (t0 t1 tw nx)
open H.Plain (hw pL)

theorem rowOk_cel {s : St} : ∀ {k a : Nat}, (∀ i : Nat, a ≤ i → i + 1 < a + k → pL (s.word (96 + 4 * (i : Int))) = 96 + 4 * ((i + 1 : Nat) : Int)) → RowOk s (cel a k) := by
  intro k
  induction k with
  | zero => intro a _; trivial
  | succ k ih =>
    intro a h
    refine ⟨fun hr => ?_, ih fun i h1 h2 => h i (by omega) (by omega)⟩
    cases k with
    | zero => exact absurd rfl hr
    | succ k => exact h a (by omega) (by omega)
theorem cel_last : ∀ {k a : Nat} (h : cel a (k + 1) ≠ []), (cel a (k + 1)).getLast h = 96 + 4 * ((a + k : Nat) : Int) := by
  intro k
  induction k with
  | zero => intro a h; rfl
  | succ k ih =>
    intro a h
    have := ih (a := a + 1) (by simp [cel])
    simp only [cel] at this ⊢
    rw [List.getLast_cons (by simp), this]
    omega
theorem cel_get : ∀ {k a i : Nat}, i < k → (cel a k)[i]? = some (96 + 4 * ((a + i : Nat) : Int)) := by
  intro k
  induction k with
  | zero => intro a i h; omega
  | succ k ih =>
    intro a i h
    cases i with
    | zero => rfl
    | succ i => simp only [cel, List.getElem?_cons_succ]; rw [ih (by omega)]; congr 2; omega
/-- what is popped i-th -/
def want (m q i : Nat) : Int := if i ≤ q then 124 + 4 * (i : Int) else 96 + 4 * ((i : Int) - (1 + q))
theorem both_get {m q i : Nat} (h : i < q + 1 + m) : (cel 7 (q + 1) ++ cel 0 m)[i]? = some (want m q i) := by
  unfold want
  split
  · rw [List.getElem?_append_left (by rw [cel_length]; omega), cel_get (by omega)]; congr 1; omega
  · rw [List.getElem?_append_right (by rw [cel_length]; omega), cel_length, cel_get (by omega)]; congr 1; omega
theorem drop_cons {l : List Int} {i : Nat} {a : Int} (h : l[i]? = some a) : l.drop i = a :: l.drop (i + 1) := by
  obtain ⟨hi, e⟩ := List.getElem?_eq_some_iff.1 h
  rw [List.drop_eq_getElem_cons hi, e]
theorem both_nodup {m k : Nat} (hm : m ≤ 6) : (cel 7 k ++ cel 0 m).Nodup := by
  refine List.nodup_append.2 ⟨cel_nodup, cel_nodup, fun a ha b hb e => ?_⟩
  obtain ⟨i, i1, i2, i3⟩ := cel_mem.1 ha
  obtain ⟨j, j1, j2, j3⟩ := cel_mem.1 hb
  omega

set_option maxHeartbeats 4000000 in
theorem wListChains (n r : Int) (hn : -9223372036854775808 ≤ n) (hn' : n ≤ 9223372036854775807) (hr : -9223372036854775808 ≤ r) (hr' : r ≤ 9223372036854775807) (w : World) (W : H.Wid w) :
    Calls Tryd.prog 6 #[.int .i64 n, .int .i64 r] w fun e w' => e = .returned (.bool true) ∧ Below w.heap.size w w' := by
  obtain ⟨m, hm, hm7⟩ : ∃ m : Nat, kd n 7 = m ∧ m < 7 := kd_nat n 7 (by decide)
  obtain ⟨q, hq, hq6⟩ : ∃ m : Nat, kd r 6 = m ∧ m < 6 := kd_nat r 6 (by decide)
  obtain ⟨hL, hT, hC⟩ := laid_lst (n := m) (by omega) m (Nat.le_refl _)
  rw [Nat.sub_self] at hL
  have k0 := PopS.ok_new 3
  go_enter Tryd.func6, Tryd.ntmps6
  go_wp2_with (first
    | (go_at_call 7; refine (cShown w W).mono ?_; rintro e w1 ⟨rfl, hb1⟩)
    | (go_at_call_of 9 (Value.int .i64 n); refine (cKind _ n 7 hn hn' (by decide)).mono ?_; rintro e w2 ⟨rfl, hw2⟩; rw [hw2, hm]; clear hw2 w2)
    | (go_at_call_of 9 (Value.int .i64 r); refine (cKind _ r 6 hr hr' (by decide)).mono ?_; rintro e w2 ⟨rfl, hw2⟩; rw [hw2, hq]; clear hw2 w2)
    | (go_at_call 8; refine (cLaid m (by omega) w1 (W.on hb1)).mono ?_; rintro e w3 ⟨b, rfl, h3⟩; have h3' := h3.lift hb1 W; clear h3))
  go_loopw [9] (fun i wr => ∃ j : Nat, j ≤ q ∧ i = .int .i64 j ∧ ∃ s, Hand w wr b s (36 + j) ∧ Lst s (cel 0 m) m ∧ s.t = 0 ∧ ∀ k : Nat, k < j → pL (s.word (96 + 4 * ((7 + k : Nat) : Int))) = 96 + 4 * ((7 + k + 1 : Nat) : Int)) (fun i _ => q - (intOf i).toNat)
  case atStart => exact ⟨0, Nat.zero_le _, rfl, _, h3'.mono (by omega), hL, hT, fun k hk => by omega⟩
  case round =>
    obtain ⟨j, hj, rfl, s, q1, q2, q3, q4⟩ := hrel
    clear hL hT hC h3' hb1
    by_cases hjq : j < q
    case pos =>
      obtain ⟨a, ha⟩ : ∃ a : Int, 124 + 4 * (j : Int) = a := ⟨_, rfl⟩
      obtain ⟨l, hl⟩ : ∃ l : Int, 128 + 4 * (j : Int) = l := ⟨_, rfl⟩
      have hca : Cl a := ⟨by omega, by omega⟩
      have han : a ∉ cel 0 m := fun h => by obtain ⟨i, _, i2, i3⟩ := cel_mem.1 h; omega
      have q5 := q2.store (x := hw 0 0 0 0 0 0 l) hca han
      have q6 : (s.store a (hw 0 0 0 0 0 0 l)).t = 0 := by rw [t_store q2.len hca.in_, q3]
      have q7 : ∀ k : Nat, k < j + 1 → pL ((s.store a (hw 0 0 0 0 0 0 l)).word (96 + 4 * ((7 + k : Nat) : Int))) = 96 + 4 * ((7 + k + 1 : Nat) : Int) := by
        intro k hk
        rw [word_store q2.len hca.in_ (⟨by omega, by omega⟩ : In _)]
        by_cases e : k = j
        · rw [if_pos (by omega), pL_hw (by omega) (by omega) (by omega) (by omega)]; omega
        · rw [if_neg (by omega)]; exact q4 k (by omega)
      have hu := u64_hw 0 0 0 0 0 0 l
      go_wp2_with (first
        | (go_at_call 23; refine (H.rWord 0 0 0 0 0 0 l _).mono ?_; rintro e w4 ⟨rfl, hw4⟩; have h4 : Hand w w4 b s (36 + j) := (hw4 ▸ q1.alloc _); clear hw4)
        | (go_at_call 22; refine (hStore h4 (by omega) a hu).mono ?_; rintro e w5 ⟨rfl, h5, _⟩))
      go_roundw
      case rel => exact ⟨j + 1, by omega, by go_num, _, h5, q5, q6, q7⟩
      case measure => simp [intOf]; omega
    case neg =>
      obtain rfl : j = q := by omega
      have hrow : RowOk s (cel 7 (j + 1)) := rowOk_cel fun i h1 h2 => by
        have := q4 (i - 7) (by omega)
        rw [show 7 + (i - 7) = i by omega] at this
        exact this
      have hne : cel 7 (j + 1) ≠ [] := List.cons_ne_nil _ _
      obtain ⟨x1, x2, x3, s1, s2, s3, e1, e2, e3, e4, e5, e6, p1, p2, p3, q5, q6, _⟩ := push_alone (row := cel 7 (j + 1)) q2 (by omega) q3 hne hrow (fun c hc => by obtain ⟨i, i1, i2, rfl⟩ := cel_mem.1 hc; exact ⟨by omega, by omega⟩) (both_nodup (by omega))
      obtain ⟨a, ha⟩ : ∃ a : Int, 120 + 4 * (1 + (j : Int)) = a := ⟨_, rfl⟩
      have hla : (cel 7 (j + 1)).getLast hne = a := (cel_last hne).trans (by omega)
      rw [hla, show first (cel 7 (j + 1)) = 124 from rfl] at e1 e2
      have u0 := PushS.ok_new 3 124 a 0
      have u1 := u0.next q1.rng
      have r1 := PushS.rng u0 q1.rng
      rw [e1] at u1
      rw [e2] at r1
      have u2 := u1.next r1
      rw [e3] at u2
      have y3 : (x3.pc == 0) = true := by rw [p3]; rfl
      clear q2 q3 q4 hrow hla r1
      go_wp2_with (go_at_call 15; refine (cNewPush 3 124 a 0 wr).mono ?_; rintro e w4 ⟨rfl, hw4⟩; have h4 : Hand w w4 b s (36 + j) := (hw4 ▸ q1.alloc _); have B4 : Blk w w4 wr.heap.size 82 (PushS.new 3 124 a 0).cells := (by rw [hw4]; exact Blk.new q1.bel.size _ (by decide)); obtain ⟨p, hp⟩ : ∃ p, wr.heap.size = p := ⟨_, rfl⟩; rw [hp] at B4 ⊢; clear hp hw4)
      go_wp2_with (go_at_call 18; refine (oPush h4 B4 u0 (by omega)).mono ?_; rintro e w5 ⟨rfl, h5, B5, _⟩; rw [e1] at B5 ⊢; rw [e2] at h5)
      go_wp2_with (go_at_call 18; refine (oPush h5 B5 u1 (by omega)).mono ?_; rintro e w6 ⟨rfl, h6, B6, _⟩; rw [e3] at B6 ⊢; rw [e4] at h6)
      go_wp2_with (go_at_call 18; refine (oPush h6 B6 u2 (by omega)).mono ?_; rintro e w7 ⟨rfl, h7, B7, _⟩; rw [e5, y3]; rw [e6] at h7)
      clear h4 h5 h6 B4 B5 B6 B7 e1 e2 e3 e4 e5 e6 u0 u1 u2 q1 y3 p1 p2 p3
      go_loopw [12] (fun i wr => ∃ i' : Nat, i' ≤ j + 1 + m ∧ i = .int .i64 i' ∧ ∃ s, Hand w wr b s (50 + 3 * i') ∧ Lst s ((cel 7 (j + 1) ++ cel 0 m).drop i') (m + 1 + i') ∧ s.t = 0) (fun i _ => j + 1 + m - (intOf i).toNat)
      case atStart => exact ⟨0, Nat.zero_le _, rfl, _, h7.mono (by omega), q5, q6⟩
      case round =>
        obtain ⟨i, hi, rfl, s, q1, q2, q3⟩ := hrel
        clear h7 q5 q6 ha
        by_cases him : i < j + 1 + m
        case pos =>
          have hw0 := both_get (m := m) (q := j) him
          rw [drop_cons hw0] at q2
          obtain ⟨c, hc⟩ : ∃ c, want m j i = c := ⟨_, rfl⟩
          rw [hc] at q2
          unfold want at hc
          obtain ⟨x1, x2, x3, s1, s2, s3, e1, e2, e3, e4, e5, e6, p1, p2, p3, a1, a2, a3, _, q5, q6, _⟩ := pop_alone q2 (by omega) q3
          have k1 := k0.next q1.rng
          rw [e1] at k1
          have r1 := PopS.rng k0 q1.rng
          rw [e2] at r1
          have k2 := k1.next r1
          rw [e3] at k2
          have r2 := PopS.rng k1 r1
          rw [e4] at r2
          have k3 := k2.next r2
          rw [e5] at k3
          clear q2 r1 r2 hw0
          go_wp2_with (go_at_call 14; refine (cNewPop 3 wr).mono ?_; rintro e w4 ⟨rfl, hw4⟩; have h4 : Hand w w4 b s (50 + 3 * i) := (hw4 ▸ q1.alloc _); have B4 : Blk w w4 wr.heap.size 79 (PopS.new 3).cells := (by rw [hw4]; exact Blk.new q1.bel.size _ (by decide)); obtain ⟨p, hp⟩ : ∃ p, wr.heap.size = p := ⟨_, rfl⟩; rw [hp] at B4 ⊢; clear hp hw4)
          go_wp2_with (go_at_call 16; refine (oPop h4 B4 k0 (by omega)).mono ?_; rintro e w5 ⟨rfl, h5, B5, _⟩; rw [e1] at B5 ⊢; rw [e2] at h5)
          go_wp2_with (go_at_call 16; refine (oPop h5 B5 k1 (by omega)).mono ?_; rintro e w6 ⟨rfl, h6, B6, _⟩; rw [e3] at B6 ⊢; rw [e4] at h6)
          go_wp2_with (go_at_call 16; refine (oPop h6 B6 k2 (by omega)).mono ?_; rintro e w7 ⟨rfl, h7, B7, _⟩; rw [e5] at B7 ⊢; rw [e6] at h7)
          by_cases hij : i ≤ j
          · rw [if_pos hij] at hc
            go_wp2_with (go_at_call 17; refine (oResult B7 k3).mono ?_; rintro e w8 ⟨rfl, hb8⟩; rw [a3]; have h8 := h7.below hb8; clear hb8)
            go_roundw
            case rel => exact ⟨i + 1, by omega, by go_num, s3, h8, q5, q6⟩
            case measure => simp [intOf]; omega
          · rw [if_neg hij] at hc
            go_wp2_with (go_at_call 17; refine (oResult B7 k3).mono ?_; rintro e w8 ⟨rfl, hb8⟩; rw [a3]; have h8 := h7.below hb8; clear hb8)
            go_roundw
            case rel => exact ⟨i + 1, by omega, by go_num, s3, h8, q5, q6⟩
            case measure => simp [intOf]; omega
        case neg =>
          have he : (cel 7 (j + 1) ++ cel 0 m).drop i = [] := List.drop_eq_nil_of_le (by simp only [List.length_append, cel_length]; omega)
          rw [he] at q2
          have g3 : s.got 3 = tw 0 ((m + 1 + i : Nat) : Int) := (In3.got q2.len).trans q2.head
          have e0 : t0 (tw 0 ((m + 1 + i : Nat) : Int)) = 0 := t0_tw' (by omega) (by omega)
          obtain ⟨v, hv⟩ : ∃ v, tw 0 ((m + 1 + i : Nat) : Int) = v := ⟨_, rfl⟩
          have hu : U64 v := hv ▸ ⟨S.Plain.tw_pos _ _, S.Plain.tw_le _ _⟩
          rw [hv] at g3 e0
          have f0 := ftop0 (t0 v) (t1 v)
          rw [e0] at f0
          clear hv he
          go_wp2_with (first
            | (go_at_call 21; refine (hLoad q1 (by omega) 3).mono ?_; rintro e w8 ⟨rfl, h8, _⟩; rw [g3])
            | (go_at_call 24; refine (S.rOfTop v hu.1 hu.2 _).mono ?_; rintro e w9 ⟨rfl, hw9⟩; rw [e0]; have h9 : Hand w w9 b (s.load 3) (50 + 3 * i + 1) := (hw9 ▸ h8.alloc _); clear hw9))
          go_ret
          exact ⟨by simp, h9.bel⟩
end Go.Proofs.YteclgafdflmioaaDoor
