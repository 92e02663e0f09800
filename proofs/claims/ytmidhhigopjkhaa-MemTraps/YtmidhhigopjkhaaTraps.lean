/-
  The walk of the law on traps.
-/
import Derived.Test.YtmidhhigopjkhaaPair
namespace Go.Proofs.Ytmidhhigopjkhaa
set_option linter.unusedVariables false
open Go.ChangeShapes Go.WideShapes Go.RowKit

theorem tt_got {s : St} {a : Int} (h : s.is1 a = false) : s.got a = 0 := by simp [St.got, h]
theorem tt_load {s : St} {a : Int} (h : s.is1 a = false) : s.load a = s.tell 1 a false false := by simp [St.load, h]
theorem tt_store {s : St} {a x : Int} (h : s.is1 a = false) : s.store a x = s.tell 2 a false false := by simp [St.store, h]
theorem tt_ok1 {s : St} {a o : Int} (h : s.is1 a = false) : s.ok1 a o = false := by simp [St.ok1, h]
theorem tt_cas {s : St} {a o x : Int} (h : s.is1 a = false) : s.cas a o x = s.tell 3 a false false := by simp [St.cas, St.ok1, h]
theorem tt_ok2 {s : St} {a o p : Int} (h : s.is2 a = false) : s.ok2 a o p = false := by simp [St.ok2, h]
theorem tt_cas2 {s : St} {a o p x y : Int} (h : s.is2 a = false) : s.cas2 a o p x y = s.tell 4 a false false := by simp [St.cas2, St.ok2, h]
section
variable {w0 w : World} {b1 b2 N1 N2 : Nat} {s1 s2 : St} {T : TypeId}
theorem pbLoad (h : Pair w0 w b1 s1 N1 T b2 s2 N2) (hN : N1 < 1000000) (a : Int) (hb : s1.is1 a = false) :
    Calls Try.prog 12 #[.pointer (some ⟨b1, 0, none⟩), .int .i64 a] w fun e w' => e = .returned (.int .u64 0) ∧ Pair w0 w' b1 (s1.tell 1 a false false) (N1 + 1) T b2 s2 N2 ∧ Others w w' := by
  have := p1Load h hN a
  rwa [tt_got hb, tt_load hb] at this
theorem pbStore (h : Pair w0 w b1 s1 N1 T b2 s2 N2) (hN : N1 < 1000000) (a x : Int) (hb : s1.is1 a = false) :
    Calls Try.prog 14 #[.pointer (some ⟨b1, 0, none⟩), .int .i64 a, .int .u64 x] w fun e w' => e = .returned (.tuple #[]) ∧ Pair w0 w' b1 (s1.tell 2 a false false) (N1 + 1) T b2 s2 N2 ∧ Others w w' := by
  have := p1Store h hN a x
  rwa [tt_store hb] at this
theorem pbCAS (h : Pair w0 w b1 s1 N1 T b2 s2 N2) (hN : N1 < 1000000) (a o x : Int) (hb : s1.is1 a = false) :
    Calls Try.prog 16 #[.pointer (some ⟨b1, 0, none⟩), .int .i64 a, .int .u64 o, .int .u64 x] w fun e w' => e = .returned (.bool false) ∧ Pair w0 w' b1 (s1.tell 3 a false false) (N1 + 1) T b2 s2 N2 ∧ Others w w' := by
  have := p1CAS h hN a o x
  rwa [tt_ok1 hb, tt_cas hb] at this
theorem pbCAS2 (h : Pair w0 w b1 s1 N1 T b2 s2 N2) (hN : N1 < 1000000) (a o0 o1 x0 x1 : Int) (hb : s1.is2 a = false) :
    Calls Try.prog 18 #[.pointer (some ⟨b1, 0, none⟩), .int .i64 a, .int .u64 o0, .int .u64 o1, .int .u64 x0, .int .u64 x1] w fun e w' => e = .returned (.bool false) ∧ Pair w0 w' b1 (s1.tell 4 a false false) (N1 + 1) T b2 s2 N2 ∧ Others w w' := by
  have := p1CAS2 h hN a o0 o1 x0 x1
  rwa [tt_ok2 hb, tt_cas2 hb] at this
theorem pbTake (h : Pair w0 w b1 s1 N1 T b2 s2 N2) {l : List (Int × Int × Bool)} (hl : s1.l = l) (h5 : l.length = 5) :
    Calls Try.prog 21 #[.pointer (some ⟨b1, 0, none⟩)] w fun e w' => ∃ ao cp, e = .returned (.slice ao 5 cp) ∧ Pair w0 w' b1 s1.took N1 T b2 s2 N2 ∧ Others w w' ∧ Taken w' ao l := by
  have := p1Take h
  rwa [hl, h5] at this
end
theorem oTraps' {w0 w : World} {b N : Nat} {s : St} (h : Own w0 w b s N) {x : Int} (hx : s.t = x) : Calls Try.prog 25 #[.pointer (some ⟨b, 0, none⟩)] w fun e w' => e = .returned (.int .i64 x) ∧ w' = w := by
  have := oTraps h
  rwa [hx] at this
theorem oNew' (w : World) (n : Nat) (h1 : 1 ≤ n) (h4 : n ≤ 4096) {w0 : World} (hb : Below w0.heap.size w0 w) :
    Calls Try.prog 9 #[.int .i64 n] w fun e w' => ∃ b, e = .returned (.tuple #[.pointer (some ⟨b, 0, none⟩), .int .i64 0]) ∧ Own w0 w' b (St.new n) 0 ∧ Others w w' := by
  refine (cNew w n h1 h4).mono ?_
  rintro e w' ⟨b, g, cp, rfl, hm, hb', hl⟩
  exact ⟨b, rfl, ⟨⟨_, rfl, hm, fun k hk => Nat.le_trans hb.size (hl k hk)⟩, hb.trans (hb'.mono hb.size), St.Fit.new h1 h4, by simp [St.new]⟩, others_below hb'⟩
theorem got_ws {s s' : St} {l : List Int} (h : s.ws = l) (h' : s'.ws = l) (a : Int) : s'.got a = s.got a := by simp [St.got, St.is1, St.word, h, h']
/-- five traps behind a Take -/
def fiveOf (a b : Int) : List (Int × Int × Bool) := [(1, a, false), (2, a, false), (3, a, false), (4, a, false), (4, b, false)]
theorem five_of {w : World} {ao : Option Addr} {a b : Int} (h : Taken w ao (fiveOf a b)) : ∃ g, ao = some ⟨g, 0, none⟩ ∧ ∀ j : Nat, j < 4 → w.cell? ⟨g, j * 3, none⟩ = some (.int .i64 ((j : Int) + 1)) ∧ w.cell? ⟨g, j * 3 + 1, none⟩ = some (.int .i64 a) ∧ w.cell? ⟨g, j * 3 + 2, none⟩ = some (.bool false) := by
  obtain ⟨g, rfl, h0⟩ := h.cells 0 _ rfl
  refine ⟨g, rfl, fun j hj => ?_⟩
  obtain ⟨g', e, h1⟩ := h.cells j ((j : Int) + 1, a, false) (by
    have : j = 0 ∨ j = 1 ∨ j = 2 ∨ j = 3 := by omega
    rcases this with rfl | rfl | rfl | rfl <;> rfl)
  simp at e
  subst e
  exact h1

set_option maxHeartbeats 2000000 in
set_option maxRecDepth 100000 in
theorem wMemTraps (n : Int) (ao : Option Addr) (len cap : Nat) (z : Nat → Op6) (q : Op6) (hn : -9223372036854775808 ≤ n) (hn' : n ≤ 9223372036854775807) (w : World) (hl : Came w ao len z) (hq : q.Fit) :
    Calls Try.prog 7 #[.int .i64 n, .slice ao len cap, .agg #[.int .i64 q.k, .int .i64 q.a, .int .u64 q.x, .int .u64 q.x1, .int .u64 q.y, .int .u64 q.y1]] w fun e w' => e = .returned (.bool true) ∧ Below w.heap.size w w' := by
  obtain ⟨m0, hm0, hm57⟩ : ∃ m : Nat, kd n 57 = m ∧ m < 57 := ⟨(kd n 57).toNat, by have := kd_bounds n 57 (by decide); omega, by have := kd_bounds n 57 (by decide); omega⟩
  have hstart : ∀ e w1, e = Ending.returned (.bool true) ∧ Below (w.alloc (.cells #[.int .i64 q.k, .int .i64 q.a, .int .u64 q.x, .int .u64 q.x1, .int .u64 q.y, .int .u64 q.y1] 33)).heap.size (w.alloc (.cells #[.int .i64 q.k, .int .i64 q.a, .int .u64 q.x, .int .u64 q.x1, .int .u64 q.y, .int .u64 q.y1] 33)) w1 →
      e = .returned (.bool true) ∧ Below w.heap.size w w1 ∧ w1.heap[w.heap.size]? = some (.cells (opv q) 33 (0, 0)) := fun e w1 ⟨he, hb⟩ => ⟨he, ((Below.refl _ _).alloc (Nat.le_refl _) _).trans (hb.mono (by simp)), (hb.block _ (by simp)).trans (heap_alloc_new _ _)⟩
  go_enter Try.func7, Try.ntmps7
  by_cases hin : 0 ≤ q.a ∧ q.a < 8 + m0
  · obtain ⟨hin0, hin1⟩ := hin
    go_wp2_with (first
      | (go_at_call 8; refine ((cShown _).mono hstart).mono ?_; rintro e w1 ⟨rfl, hb1, v1⟩)
      | (go_at_call 11; refine (cKind w1 n 57 hn hn' (by decide)).mono ?_; rintro e w2 ⟨rfl, hw2⟩; rw [hw2, hm0]; clear hw2 w2)
      | (go_at_call 9; refine (oNew' w1 (8 + m0) (by omega) (by omega) hb1).mono ?_; rintro e w2 ⟨mb, rfl, h2, t2⟩; have v2 := t2 _ _ _ _ (by decide) v1)
      | (go_at_call 27; refine (oSome h2 (by decide) ao len cap z hl).mono ?_; rintro e w3 ⟨rfl, s, h3, hs8, t3⟩; have v3 := t3 _ _ _ _ (by decide) v2)
      | (go_at_call 20; refine (oClone h3).mono ?_; rintro e w5 ⟨cb, rfl, q5, t5, hne⟩; have v5 := t5 _ _ _ _ (by decide) v3)
      | (go_at_call 21; refine (p1Take q5).mono ?_; rintro e w6 ⟨ao6, cp6, rfl, q6, t6, k6⟩; have v6 := t6 _ _ _ _ (by decide) v5; have c6 := opv_cells v6; obtain ⟨d0, d1, d2, d3, d4, d5⟩ := c6)
      | (go_at_call 25; refine (oTraps q6.one).mono ?_; rintro e w4 ⟨rfl, hw4⟩; rw [hw4]; clear hw4 w4))
    go_ret
    exact ⟨rfl, q6.bel⟩
  · have ho1 : ∀ s : St, s.ws.length = 8 + m0 → s.is1 q.a = false := fun s h => by simp [St.is1]; omega
    have ho2 : ∀ s : St, s.ws.length = 8 + m0 → s.is2 q.a = false := fun s h => by simp [St.is2]; omega
    have ho3 : ∀ s : St, s.ws.length = 8 + m0 → ∀ a : Int, a = 7 + m0 → s.is2 a = false := fun s h a ha => by simp [St.is2]; omega
    have hin' : q.a < 0 ∨ (0 ≤ q.a ∧ 8 + (m0 : Int) ≤ q.a) := by omega
    clear hin
    have hu : ∀ s : St, s.took.l = [] := fun _ => rfl
    rcases hin' with hin0 | ⟨hin0, hin1⟩
    all_goals
      go_wp2_with (first
        | (go_at_call 8; refine ((cShown _).mono hstart).mono ?_; rintro e w1 ⟨rfl, hb1, v1⟩)
        | (go_at_call 11; refine (cKind w1 n 57 hn hn' (by decide)).mono ?_; rintro e w2 ⟨rfl, hw2⟩; rw [hw2, hm0]; clear hw2 w2)
        | (go_at_call 9; refine (oNew' w1 (8 + m0) (by omega) (by omega) hb1).mono ?_; rintro e w2 ⟨mb, rfl, h2, t2⟩; have v2 := t2 _ _ _ _ (by decide) v1)
        | (go_at_call 27; refine (oSome h2 (by decide) ao len cap z hl).mono ?_; rintro e w3 ⟨rfl, s, h3, hs8, t3⟩; have v3 := t3 _ _ _ _ (by decide) v2; have h8 : s.ws.length = 8 + m0 := hs8.trans (by simp [St.new]); obtain ⟨tr, htr⟩ : ∃ tr : Int, s.t = tr := ⟨_, rfl⟩; have htr0 : 0 ≤ tr := (htr ▸ h3.fit.t0); have htr1 : tr ≤ 40 := (by have := h3.fit.tc; have := h3.top; omega))
        | (go_at_call 20; refine (oClone h3).mono ?_; rintro e w5 ⟨cb, rfl, q5, t5, hne⟩; have v5 := t5 _ _ _ _ (by decide) v3)
        | (go_at_call 21; have hq12 := q12; refine (pbTake q12 (l := fiveOf q.a (8 + m0 - 1)) (by rfl) rfl).mono ?_; rintro e w13 ⟨ao13, cp13, rfl, q13, t13, k13⟩; have v13 := t13 _ _ _ _ (by decide) v12)
        | (go_at_call 21; refine (p1Take q5).mono ?_; rintro e w6 ⟨ao6, cp6, rfl, q6, t6, k6⟩; have v6 := t6 _ _ _ _ (by decide) v5; have c6 := opv_cells v6; obtain ⟨d0, d1, d2, d3, d4, d5⟩ := c6)
        | (go_at_call 25; have hq13 := q13; refine (oTraps' q13.one (x := tr + 5) (by show s.t + 1 + 1 + 1 + 1 + 1 = tr + 5; omega)).mono ?_; rintro e w4 ⟨rfl, hw4⟩; rw [hw4]; clear hw4 w4)
        | (go_at_call 25; refine (oTraps' q6.one (x := tr) htr).mono ?_; rintro e w4 ⟨rfl, hw4⟩; rw [hw4]; clear hw4 w4)
        | (go_at_call 12; have hq10 := q10; refine (p2Load q10 (by decide) _).mono ?_; rintro e w11 ⟨rfl, q11, t11⟩; have v11 := t11 _ _ _ _ (by decide) v10)
        | (go_at_call 12; refine (pbLoad q6 (by decide) _ (ho1 _ h8)).mono ?_; rintro e w7 ⟨rfl, q7, t7⟩; have v7 := t7 _ _ _ _ (by decide) v6; have c7 := opv_cells v7; obtain ⟨d0, d1, d2, d3, d4, d5⟩ := c7)
        | (go_at_call 14; refine (pbStore q7 (by decide) _ _ (ho1 _ h8)).mono ?_; rintro e w8 ⟨rfl, q8, t8⟩; have v8 := t8 _ _ _ _ (by decide) v7; have c8 := opv_cells v8; obtain ⟨d0, d1, d2, d3, d4, d5⟩ := c8)
        | (go_at_call 16; refine (pbCAS q8 (by decide) _ _ _ (ho1 _ h8)).mono ?_; rintro e w9 ⟨rfl, q9, t9⟩; have v9 := t9 _ _ _ _ (by decide) v8; have c9 := opv_cells v9; obtain ⟨d0, d1, d2, d3, d4, d5⟩ := c9)
        | (go_at_call 18; have hq11 := q11; refine (pbCAS2 q11 (by decide) _ _ _ _ _ (ho3 _ h8 _ (by omega))).mono ?_; rintro e w12 ⟨rfl, q12, t12⟩; have v12 := t12 _ _ _ _ (by decide) v11)
        | (go_at_call 18; refine (pbCAS2 q9 (by decide) _ _ _ _ _ (ho2 _ h8)).mono ?_; rintro e w10 ⟨rfl, q10, t10⟩; have v10 := t10 _ _ _ _ (by decide) v9; have c10 := opv_cells v10; obtain ⟨d0, d1, d2, d3, d4, d5⟩ := c10))
      obtain ⟨g, rfl, k14⟩ := five_of k13
      have c13 := (opv_cells v13).2.1
      generalize hs1 : (((((s.took.tell 1 q.a false false).tell 2 q.a false false).tell 3 q.a false false).tell 4 q.a false false).tell 4 (8 + (m0 : Int) - 1) false false).took = s1 at q13
      generalize hs2 : s.load (8 + (m0 : Int) - 1) = s2 at q13
      have e1 : s1.ws = s.ws := by rw [← hs1]; rfl
      have e2 : s2.ws = s.ws := by rw [← hs2]; rfl
      obtain ⟨l, hl8⟩ : ∃ l, s.ws = l := ⟨_, rfl⟩
      rw [hl8] at e1 e2 h8
      go_loopw [18] (fun i wr => ∃ j : Nat, j ≤ 4 ∧ i = .int .i64 j ∧ Pair w wr mb s1 (0 + 40 + 1 + 1 + 1 + 1 + 1) 56 cb s2 (0 + 40 + 1) ∧ wr.cell? ⟨w.heap.size, 1, none⟩ = some (.int .i64 q.a) ∧ ∀ j : Nat, j < 4 → wr.cell? ⟨g, j * 3, none⟩ = some (.int .i64 ((j : Int) + 1)) ∧ wr.cell? ⟨g, j * 3 + 1, none⟩ = some (.int .i64 q.a) ∧ wr.cell? ⟨g, j * 3 + 2, none⟩ = some (.bool false)) (fun i _ => 4 - (intOf i).toNat)
      case atStart => exact ⟨0, Nat.zero_le _, rfl, q13, c13, k14⟩
      case round =>
        obtain ⟨j, hj, rfl, p1, p2, p3⟩ := hrel
        clear q5 q6 q7 q8 q9 q10 q11 q12 q13 hq10 hq11 hq12 hq13 k13 k14 c13 t2 t3 t5 t6 t7 t8 t9 t10 t11 t12 t13 v1 v2 v3 v5 v6 v7 v8 v9 v10 v11 v12 v13 h2 h3 k6 hs8 ho1 ho2 ho3 hu hs1 hs2
        by_cases hj4 : j < 4
        case pos =>
          obtain ⟨y0, y1, y2⟩ := p3 j hj4
          go_wp2
          have hq1 := wrap_small ((j : Int) + 1) (by omega) (by omega)
          have hq2 := wrap_small (j : Int) (by omega) (by omega)
          have hq3 : (0 : Int) ≤ j := by omega
          have hq4 : (j : Int) < 5 := by omega
          have hq6 : ¬ (j : Int) < 0 := by omega
          have S0 : wr.drew.cell? ⟨g, j * 3, none⟩ = some (.int .i64 ((j : Int) + 1)) ∧ wr.drew.cell? ⟨g, j * 3 + 1, none⟩ = some (.int .i64 q.a) ∧ wr.drew.cell? ⟨g, j * 3 + 2, none⟩ = some (.bool false) ∧ wr.drew.cell? ⟨w.heap.size, 1, none⟩ = some (.int .i64 q.a) := ⟨y0, y1, y2, p2⟩
          go_region_held3 (fun w' => w'.cell? ⟨g, j * 3, none⟩ = some (.int .i64 ((j : Int) + 1)) ∧ w'.cell? ⟨g, j * 3 + 1, none⟩ = some (.int .i64 q.a) ∧ w'.cell? ⟨g, j * 3 + 2, none⟩ = some (.bool false) ∧ w'.cell? ⟨w.heap.size, 1, none⟩ = some (.int .i64 q.a)) (first | assumption) (first | fail)
          clear hq1 hq2 hq3 hq4 hq6 S0
          go_wp2
          go_roundw
          case rel => exact ⟨j + 1, by omega, by go_num, p1.drew, p2, p3⟩
          case measure => simp [intOf]; omega
        case neg =>
          go_wp2
          clear p2 p3
          go_loopw [19] (fun i wr => ∃ j : Nat, j ≤ 7 + m0 ∧ i = .int .i64 j ∧ ∃ s1 s2 : St, Pair w wr mb s1 (50 + j) 56 cb s2 (50 + j) ∧ s1.ws = l ∧ s2.ws = l) (fun i _ => 7 + m0 - (intOf i).toNat)
          case atStart => exact ⟨0, Nat.zero_le _, rfl, s1, s2, p1.mono (by omega) (by omega), e1, e2⟩
          case round =>
            obtain ⟨i, hi, rfl, s3, s4, r1, r2, r3⟩ := hrel
            clear p1 e1 e2
            by_cases hi7 : i < 7 + m0
            case pos =>
              go_wp2_with (first
                | (go_at_call 12; have hr5 := r5; refine (p2Load r5 (by omega) i).mono ?_; rintro e w22 ⟨rfl, r6, _⟩; rw [got_ws r2 r3])
                | (go_at_call 12; refine (p1Load r1 (by omega) i).mono ?_; rintro e w21 ⟨rfl, r5, _⟩))
              go_roundw
              case rel => exact ⟨i + 1, by omega, by go_num, _, _, r6, r2, r3⟩
              case measure => simp [intOf]; omega
            case neg =>
              go_wp2
              go_ret
              exact ⟨rfl, r1.bel⟩
end Go.Proofs.Ytmidhhigopjkhaa
