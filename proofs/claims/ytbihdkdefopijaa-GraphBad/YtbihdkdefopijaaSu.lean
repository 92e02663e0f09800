/-
  Contract of SameShape, of any two shapes: it answers.
-/
import Derived.Test.YtbihdkdefopijaaSt
namespace Go.Proofs.Ytbihdkdefopijaa
set_option linter.unusedVariables false
set_option linter.unusedSimpArgs false
open Go.ChangeShapes Go.WideShapes Go.ChangeAt Go.RowKit Go.Maps

/-- two shapes, in two boxes -/
structure Twos (w0 w : World) (ba bb : Nat) (ar al br bl : Value) (rr : List (List Int)) (ll : List (List (Int × Int))) (ss : List (List Int)) (mm : List (List (Int × Int))) : Prop where
  a0 : w.cell? ⟨ba, 0, none⟩ = some ar
  a1 : w.cell? ⟨ba, 1, none⟩ = some al
  b0 : w.cell? ⟨bb, 0, none⟩ = some br
  b1 : w.cell? ⟨bb, 1, none⟩ = some bl
  h1 : RowsI w ar rr fun _ => True
  h2 : RowsV w al ll fun _ => True
  h3 : RowsI w br ss fun _ => True
  h4 : RowsV w bl mm fun _ => True
  bel : Below w0.heap.size w0 w
theorem Twos.drewN {w0 w : World} {ba bb : Nat} {ar al br bl : Value} {rr ss : List (List Int)} {ll mm : List (List (Int × Int))} (h : Twos w0 w ba bb ar al br bl rr ll ss mm) (n : Nat) : Twos w0 (w.drewN n) ba bb ar al br bl rr ll ss mm :=
  ⟨h.a0, h.a1, h.b0, h.b1, h.h1.on fun _ _ _ _ _ h => ⟨rfl, h⟩, h.h2.on fun _ _ _ _ _ h => ⟨rfl, h⟩, h.h3.on fun _ _ _ _ _ h => ⟨rfl, h⟩, h.h4.on fun _ _ _ _ _ h => ⟨rfl, h⟩, bdr h.bel n⟩

set_option maxRecDepth 100000 in
set_option maxHeartbeats 1600000 in
theorem cSameAny {w : World} {p q p' q' : Nat → Prop} (ar al br bl : Value) (rr ss : List (List Int)) (ll mm : List (List (Int × Int))) (h1 : RowsI w ar rr p) (h2 : RowsV w al ll p') (h3 : RowsI w br ss q) (h4 : RowsV w bl mm q') (hr : rr.length ≤ 1000) (hl : ll.length ≤ 10000) (hri : ∀ r ∈ rr, r.length ≤ 1000) (hli : ∀ r ∈ ll, r.length ≤ 1000) (hs : ss.length ≤ 1000) (hm : mm.length ≤ 10000) (hsi : ∀ r ∈ ss, r.length ≤ 1000) (hmi : ∀ r ∈ mm, r.length ≤ 1000) :
    Calls Try.prog 30 #[.agg #[ar, al], .agg #[br, bl]] w fun e w' => ∃ x, e = .returned (.bool x) ∧ Below w.heap.size w w' := by
  have hw : ∀ o1 o2, Below w.heap.size w ((w.alloc o1).alloc o2) := fun o1 o2 => bal (bal (Below.refl _ _) _) _
  have keep : ∀ (o1 o2 : Obj) (k : Nat) (cs : Array Value) (T : TypeId), w.heap[k]? = some (.cells cs T (0, 0)) → ((w.alloc o1).alloc o2).heap[k]? = w.heap[k]? := fun o1 o2 k cs T hk => (hw o1 o2).block k (lt_of_block hk)
  have e1 : ((w.alloc (.cells #[ar, al] 50)).alloc (.cells #[br, bl] 50)).heap[w.heap.size]? = some (.cells #[ar, al] 50 (0, 0)) := (Below.heap_alloc _ _ _ (by simp)).trans (heap_alloc_new w _)
  have e2 := heap_alloc_new (w.alloc (.cells #[ar, al] 50)) (.cells #[br, bl] 50)
  rw [World.size_alloc] at e2
  have T0 : Twos w ((w.alloc (.cells #[ar, al] 50)).alloc (.cells #[br, bl] 50)) w.heap.size (w.heap.size + 1) ar al br bl rr ll ss mm := by
    refine ⟨?_, ?_, ?_, ?_, ?_, ?_, ?_, ?_, hw _ _⟩
    · rw [cell_of_row _ _ _ _ _ _ e1]; rfl
    · rw [cell_of_row _ _ _ _ _ _ e1]; rfl
    · rw [cell_of_row _ _ _ _ _ _ e2]; rfl
    · rw [cell_of_row _ _ _ _ _ _ e2]; rfl
    · exact h1.on fun k cs T hk _ _ => ⟨keep _ _ k cs T hk, trivial⟩
    · exact h2.on fun k cs T hk _ _ => ⟨keep _ _ k cs T hk, trivial⟩
    · exact h3.on fun k cs T hk _ _ => ⟨keep _ _ k cs T hk, trivial⟩
    · exact h4.on fun k cs T hk _ _ => ⟨keep _ _ k cs T hk, trivial⟩
  clear e1 e2 keep hw
  obtain ⟨aor, car, rfl⟩ := h1.slice
  obtain ⟨aol, cal, rfl⟩ := h2.slice
  obtain ⟨bor, cbr, rfl⟩ := h3.slice
  obtain ⟨bol, cbl, rfl⟩ := h4.slice
  clear h1 h2 h3 h4
  have er : (rr.map irow).length = rr.length := by simp
  have el : (ll.map vrw).length = ll.length := by simp
  have es : (ss.map irow).length = ss.length := by simp
  have em : (mm.map vrw).length = mm.length := by simp
  rw [er, el, es, em] at T0 ⊢
  clear er el es em
  by_cases hA : rr.length = ss.length
  case neg =>
    have hA' : ((rr.length : Int) != (ss.length : Int)) = true := by simp; omega
    go_enter Try.func30, Try.ntmps30
    go_wp2
    go_ret
    exact ⟨false, rfl, T0.bel⟩
  rw [← hA] at T0 ⊢
  have hA1 : rr.length ≤ ss.length := by omega
  have hA2 : ss.length ≤ rr.length := by omega
  clear hA
  by_cases hB : ll.length = mm.length
  case neg =>
    have hB' : ((ll.length : Int) != (mm.length : Int)) = true := by simp; omega
    go_enter Try.func30, Try.ntmps30
    go_wp2
    go_ret
    exact ⟨false, rfl, T0.bel⟩
  rw [← hB] at T0 ⊢
  have hB1 : ll.length ≤ mm.length := by omega
  have hB2 : mm.length ≤ ll.length := by omega
  clear hB
  go_enter Try.func30, Try.ntmps30
  go_wp2
  obtain ⟨n1, hn1⟩ : ∃ n, n = w.heap.size := ⟨_, rfl⟩
  rw [← hn1] at T0 ⊢
  go_loopw [5] (fun i wr => ∃ k : Nat, k ≤ rr.length ∧ i = .int .i64 k ∧ Twos w wr n1 (n1 + 1) (.slice aor rr.length car) (.slice aol ll.length cal) (.slice bor rr.length cbr) (.slice bol ll.length cbl) rr ll ss mm) (fun i _ => rr.length - (intOf i).toNat)
  case atStart => exact ⟨0, Nat.zero_le _, rfl, T0⟩
  case round =>
    clear T0 hn1
    obtain ⟨k, hk, rfl, hT⟩ := hrel
    obtain ⟨wo, rfl⟩ : ∃ wo : World, wo = wr := ⟨_, rfl⟩
    obtain ⟨a0, a1, b0, b1, h1, h2, h3, h4, hb⟩ := id hT
    have k0 : (0 : Int) ≤ (k : Int) := by omega
    by_cases hlt : k < rr.length
    case pos =>
      have kl : (k : Int) < (rr.length : Int) := by omega
      obtain ⟨g1, u1, rfl, c1, o1⟩ := h1.at rfl k (irow_at hlt)
      obtain ⟨g3, u3, rfl, c3, o3⟩ := h3.at rfl k (irow_at (by omega))
      have hrl : (rr.getD k []).length ≤ 1000 := hri _ (by rw [List.getD_eq_getElem?_getD, List.getElem?_eq_getElem hlt]; exact List.getElem_mem _)
      have hsl : (ss.getD k []).length ≤ 1000 := hsi _ (by rw [List.getD_eq_getElem?_getD, List.getElem?_eq_getElem (by omega)]; exact List.getElem_mem _)
      generalize rr.getD k [] = r at o1 hrl
      generalize ss.getD k [] = s at o3 hsl
      obtain ⟨ao1, cp1, rfl, hp1⟩ := own_slice o1
      obtain ⟨ao3, cp3, rfl, hp3⟩ := own_slice o3
      simp only [irow] at o1 o3 c1 c3 hp1 hp3
      by_cases hrs : r.length = s.length
      case neg =>
        have hrs' : ((r.length : Int) != (s.length : Int)) = true := by simp; omega
        go_wp2
        go_quiet (fail)
        go_wp2
        go_ret
        exact ⟨false, rfl, bdr hb _⟩
      rw [← hrs] at o3 c3 hp3
      have hrs1 : r.length ≤ s.length := by omega
      have hrs2 : s.length ≤ r.length := by omega
      clear hrs
      go_wp2
      go_quiet (fail)
      go_wp2
      go_loopw [6] (fun i wr => ∃ j : Nat, j ≤ r.length ∧ i = .int .i64 j ∧ (Twos w wr n1 (n1 + 1) (.slice (some ⟨g1, 0, none⟩) rr.length car) (.slice aol ll.length cal) (.slice (some ⟨g3, 0, none⟩) rr.length cbr) (.slice bol ll.length cbl) rr ll ss mm) ∧ wr.cell? ⟨g1, k, none⟩ = some (.slice ao1 r.length cp1) ∧ wr.cell? ⟨g3, k, none⟩ = some (.slice ao3 r.length cp3) ∧ wr.ownsRow 0 3 1 (.slice ao1 r.length cp1) r.length (ints r) ∧ wr.ownsRow 0 3 1 (.slice ao3 r.length cp3) r.length (ints s)) (fun i _ => r.length - (intOf i).toNat)
      case atStart => exact ⟨0, Nat.zero_le _, rfl, hT.drewN _, c1, c3, o1, o3⟩
      case round =>
        clear hT a0 a1 b0 b1 h1 h2 h3 h4 hb c1 c3 o1 o3
        obtain ⟨j, hj, rfl, hT, c1, c3, o1, o3⟩ := hrel
        obtain ⟨wp, rfl⟩ : ∃ wp : World, wp = wr := ⟨_, rfl⟩
        obtain ⟨a0, a1, b0, b1, h1, h2, h3, h4, hb⟩ := id hT
        have j0 : (0 : Int) ≤ (j : Int) := by omega
        by_cases hjl : j < r.length
        case pos =>
          have jl : (j : Int) < (r.length : Int) := by omega
          obtain ⟨v1, rfl⟩ := hp1 (by omega)
          obtain ⟨v3, rfl⟩ := hp3 (by omega)
          have d1 := o1.cellAt j (by omega)
          have d3 := o3.cellAt j (by omega)
          rw [ints_at r j hjl] at d1
          rw [ints_at s j (by omega)] at d3
          generalize r.getD j 0 = x at d1
          generalize s.getD j 0 = y at d3
          by_cases hxy : x = y
          case neg =>
            have hxy' : (x != y) = true := by simpa using hxy
            clear hxy
            go_wp2
            go_quiet (fail)
            go_wp2
            go_ret
            exact ⟨false, rfl, bdr hb _⟩
          subst hxy
          go_wp2
          go_quiet (fail)
          go_wp2
          go_roundw
          case rel => exact ⟨j + 1, by omega, by go_num, hT.drewN _, c1, c3, o1, o3⟩
          case measure => simp [intOf]; omega
        case neg =>
          go_wp2
          go_roundw
          case rel => exact ⟨k + 1, by omega, by go_num, hT⟩
          case measure => simp [intOf]; omega
    case neg =>
      go_wp2
      go_loopw [7] (fun i wr => ∃ k : Nat, k ≤ ll.length ∧ i = .int .i64 k ∧ Twos w wr n1 (n1 + 1) (.slice aor rr.length car) (.slice aol ll.length cal) (.slice bor rr.length cbr) (.slice bol ll.length cbl) rr ll ss mm) (fun i _ => ll.length - (intOf i).toNat)
      case atStart => exact ⟨0, Nat.zero_le _, rfl, hT⟩
      case round =>
        clear hT a0 a1 b0 b1 h1 h2 h3 h4 hb
        obtain ⟨k, hk, rfl, hT⟩ := hrel
        obtain ⟨wo, rfl⟩ : ∃ wo : World, wo = wr := ⟨_, rfl⟩
        obtain ⟨a0, a1, b0, b1, h1, h2, h3, h4, hb⟩ := id hT
        have k0 : (0 : Int) ≤ (k : Int) := by omega
        by_cases hlt : k < ll.length
        case pos =>
          have kl : (k : Int) < (ll.length : Int) := by omega
          obtain ⟨g1, u1, rfl, c1, o1⟩ := h2.at rfl k (vrw_at hlt)
          obtain ⟨g3, u3, rfl, c3, o3⟩ := h4.at rfl k (vrw_at (by omega))
          have hrl : (ll.getD k []).length ≤ 1000 := hli _ (by rw [List.getD_eq_getElem?_getD, List.getElem?_eq_getElem hlt]; exact List.getElem_mem _)
          have hsl : (mm.getD k []).length ≤ 1000 := hmi _ (by rw [List.getD_eq_getElem?_getD, List.getElem?_eq_getElem (by omega)]; exact List.getElem_mem _)
          generalize ll.getD k [] = r at o1 hrl
          generalize mm.getD k [] = s at o3 hsl
          obtain ⟨ao1, cp1, rfl, hp1⟩ := own_slice o1
          obtain ⟨ao3, cp3, rfl, hp3⟩ := own_slice o3
          simp only [vrw] at o1 o3 c1 c3 hp1 hp3
          by_cases hrs : r.length = s.length
          case neg =>
            have hrs' : ((r.length : Int) != (s.length : Int)) = true := by simp; omega
            go_wp2
            go_quiet (fail)
            go_wp2
            go_ret
            exact ⟨false, rfl, bdr hb _⟩
          rw [← hrs] at o3 c3 hp3
          have hrs1 : r.length ≤ s.length := by omega
          have hrs2 : s.length ≤ r.length := by omega
          clear hrs
          go_wp2
          go_quiet (fail)
          go_wp2
          go_loopw [8] (fun i wr => ∃ j : Nat, j ≤ r.length ∧ i = .int .i64 j ∧ (Twos w wr n1 (n1 + 1) (.slice aor rr.length car) (.slice (some ⟨g1, 0, none⟩) ll.length cal) (.slice bor rr.length cbr) (.slice (some ⟨g3, 0, none⟩) ll.length cbl) rr ll ss mm) ∧ wr.cell? ⟨g1, k, none⟩ = some (.slice ao1 r.length cp1) ∧ wr.cell? ⟨g3, k, none⟩ = some (.slice ao3 r.length cp3) ∧ wr.ownsRow 0 37 2 (.slice ao1 r.length cp1) r.length (vcells r) ∧ wr.ownsRow 0 37 2 (.slice ao3 r.length cp3) r.length (vcells s)) (fun i _ => r.length - (intOf i).toNat)
          case atStart => exact ⟨0, Nat.zero_le _, rfl, hT.drewN _, c1, c3, o1, o3⟩
          case round =>
            clear hT a0 a1 b0 b1 h1 h2 h3 h4 hb c1 c3 o1 o3
            obtain ⟨j, hj, rfl, hT, c1, c3, o1, o3⟩ := hrel
            obtain ⟨wp, rfl⟩ : ∃ wp : World, wp = wr := ⟨_, rfl⟩
            obtain ⟨a0, a1, b0, b1, h1, h2, h3, h4, hb⟩ := id hT
            have j0 : (0 : Int) ≤ (j : Int) := by omega
            by_cases hjl : j < r.length
            case pos =>
              have jl : (j : Int) < (r.length : Int) := by omega
              obtain ⟨v1, rfl⟩ := hp1 (by omega)
              obtain ⟨v3, rfl⟩ := hp3 (by omega)
              have hv := vcells_at r j (r.getD j (0, 0)) (by rw [List.getD_eq_getElem?_getD, List.getElem?_eq_getElem hjl]; rfl)
              have hu := vcells_at s j (s.getD j (0, 0)) (by rw [List.getD_eq_getElem?_getD, List.getElem?_eq_getElem (show j < s.length by omega)]; rfl)
              have d1 := o1.cellAt (j * 2) (by omega)
              have d3 := o3.cellAt (j * 2) (by omega)
              have e1 := o1.cellAt (j * 2 + 1) (by omega)
              have e3 := o3.cellAt (j * 2 + 1) (by omega)
              rw [hv.1] at d1
              rw [hu.1] at d3
              rw [hv.2] at e1
              rw [hu.2] at e3
              obtain ⟨⟨x, y⟩, hxy⟩ : ∃ v : Int × Int, r.getD j (0, 0) = v := ⟨_, rfl⟩
              obtain ⟨⟨x', y'⟩, hxy'⟩ : ∃ v : Int × Int, s.getD j (0, 0) = v := ⟨_, rfl⟩
              rw [hxy] at d1 e1
              rw [hxy'] at d3 e3
              have hN := neqV (x, y) (x', y') _ rfl
              generalize decide ((x, y) = (x', y')) = fl at hN
              clear hxy hxy'
              clear hv hu
              cases fl
              case false =>
                go_wp2
                go_quiet (fail)
                go_wp2
                go_ret
                exact ⟨false, rfl, bdr hb _⟩
              go_wp2
              go_quiet (fail)
              go_wp2
              go_roundw
              case rel => exact ⟨j + 1, by omega, by go_num, hT.drewN _, c1, c3, o1, o3⟩
              case measure => simp [intOf]; omega
            case neg =>
              go_wp2
              go_roundw
              case rel => exact ⟨k + 1, by omega, by go_num, hT⟩
              case measure => simp [intOf]; omega
        case neg =>
          go_wp2
          go_ret
          exact ⟨true, rfl, hb⟩
end Go.Proofs.Ytbihdkdefopijaa
