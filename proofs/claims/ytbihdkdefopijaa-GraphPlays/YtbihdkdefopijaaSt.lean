/-
  Contract of SameShape, of two shapes that are the same.
-/
import Derived.Test.YtbihdkdefopijaaSr
import Derived.Test.YtbihdkdefopijaaGs4
namespace Go.Proofs.Ytbihdkdefopijaa
set_option linter.unusedVariables false
set_option linter.unusedSimpArgs false
open Go.ChangeShapes Go.WideShapes Go.ChangeAt Go.RowKit Go.Maps

theorem RowR.slice {w : World} {T e : TypeId} {size : Nat} {v : Value} {rows : List (Nat × List Value)} {p : Nat → Prop} (h : RowR w T e size v rows p) : ∃ ao cp, v = .slice ao rows.length cp := by
  obtain ⟨_, vs, _, hv, _⟩ := h
  rcases hv.2 with ⟨h', h0⟩ | ⟨g, cp, cur, h', _⟩
  · exact ⟨none, 0, by rw [h', h0]⟩
  · exact ⟨_, _, h'⟩
theorem own_slice {w : World} {e : TypeId} {size n : Nat} {v : Value} {xs : List Value} (h : w.ownsRow 0 e size v n xs) : ∃ ao cp, v = .slice ao n cp ∧ (0 < n → ∃ g, ao = some ⟨g, 0, none⟩) := by
  rcases h.2 with ⟨h', h0⟩ | ⟨g, cp, cur, h', _⟩
  · exact ⟨none, 0, by rw [h', h0], fun h => by omega⟩
  · exact ⟨_, _, h', fun _ => ⟨g, rfl⟩⟩
theorem RowR.at {w : World} {T e : TypeId} {size : Nat} {v : Value} {rows : List (Nat × List Value)} {p : Nat → Prop} (h : RowR w T e size v rows p) {ao : Option Addr} {cp n : Nat} (hv : v = .slice ao n cp) (i : Nat) {x : Nat × List Value} (hi : rows[i]? = some x) :
    ∃ g u, ao = some ⟨g, 0, none⟩ ∧ w.cell? ⟨g, i, none⟩ = some u ∧ w.ownsRow 0 e size u x.1 x.2 := by
  obtain ⟨_, vs, hl, hv', hu⟩ := h
  obtain ⟨u, h1, h2, _⟩ := hu i x hi
  have hlt : i < rows.length := (List.getElem?_eq_some_iff.1 hi).1
  rcases hv'.2 with ⟨_, h0⟩ | ⟨g, cp', cur, e1, _⟩
  · omega
  · rw [hv] at e1
    simp at e1
    obtain ⟨rfl, rfl, rfl⟩ := e1
    rw [hv] at hv'
    exact ⟨g, u, rfl, by rw [hv'.cellAt i (by omega)]; exact h1, h2⟩
theorem irow_at {rr : List (List Int)} {i : Nat} (h : i < rr.length) : (rr.map irow)[i]? = some (irow (rr.getD i [])) := by
  rw [List.getElem?_map, List.getElem?_eq_getElem h, List.getD_eq_getElem?_getD, List.getElem?_eq_getElem h]
  rfl
theorem vrw_at {ll : List (List (Int × Int))} {i : Nat} (h : i < ll.length) : (ll.map vrw)[i]? = some (vrw (ll.getD i [])) := by
  rw [List.getElem?_map, List.getElem?_eq_getElem h, List.getD_eq_getElem?_getD, List.getElem?_eq_getElem h]
  rfl

/-- two shapes that are the same, in two boxes -/
structure Two (w0 w : World) (ba bb : Nat) (ar al br bl : Value) (rr : List (List Int)) (ll : List (List (Int × Int))) : Prop where
  a0 : w.cell? ⟨ba, 0, none⟩ = some ar
  a1 : w.cell? ⟨ba, 1, none⟩ = some al
  b0 : w.cell? ⟨bb, 0, none⟩ = some br
  b1 : w.cell? ⟨bb, 1, none⟩ = some bl
  h1 : RowsI w ar rr fun _ => True
  h2 : RowsV w al ll fun _ => True
  h3 : RowsI w br rr fun _ => True
  h4 : RowsV w bl ll fun _ => True
  bel : Below w0.heap.size w0 w
theorem Two.drewN {w0 w : World} {ba bb : Nat} {ar al br bl : Value} {rr : List (List Int)} {ll : List (List (Int × Int))} (h : Two w0 w ba bb ar al br bl rr ll) (n : Nat) : Two w0 (w.drewN n) ba bb ar al br bl rr ll :=
  ⟨h.a0, h.a1, h.b0, h.b1, h.h1.on fun _ _ _ _ _ h => ⟨rfl, h⟩, h.h2.on fun _ _ _ _ _ h => ⟨rfl, h⟩, h.h3.on fun _ _ _ _ _ h => ⟨rfl, h⟩, h.h4.on fun _ _ _ _ _ h => ⟨rfl, h⟩, bdr h.bel n⟩

set_option maxRecDepth 100000 in
set_option maxHeartbeats 1600000 in
theorem cSame {w : World} {p q p' q' : Nat → Prop} (ar al br bl : Value) (rr : List (List Int)) (ll : List (List (Int × Int))) (h1 : RowsI w ar rr p) (h2 : RowsV w al ll p') (h3 : RowsI w br rr q) (h4 : RowsV w bl ll q') (hr : rr.length ≤ 1000) (hl : ll.length ≤ 10000) (hri : ∀ r ∈ rr, r.length ≤ 1000) (hli : ∀ r ∈ ll, r.length ≤ 1000) :
    Calls Try.prog 30 #[.agg #[ar, al], .agg #[br, bl]] w fun e w' => e = .returned (.bool true) ∧ Below w.heap.size w w' := by
  have hw : ∀ o1 o2, Below w.heap.size w ((w.alloc o1).alloc o2) := fun o1 o2 => bal (bal (Below.refl _ _) _) _
  have keep : ∀ (o1 o2 : Obj) (k : Nat) (cs : Array Value) (T : TypeId), w.heap[k]? = some (.cells cs T (0, 0)) → ((w.alloc o1).alloc o2).heap[k]? = w.heap[k]? := fun o1 o2 k cs T hk => (hw o1 o2).block k (lt_of_block hk)
  have e1 : ((w.alloc (.cells #[ar, al] 50)).alloc (.cells #[br, bl] 50)).heap[w.heap.size]? = some (.cells #[ar, al] 50 (0, 0)) := (Below.heap_alloc _ _ _ (by simp)).trans (heap_alloc_new w _)
  have e2 := heap_alloc_new (w.alloc (.cells #[ar, al] 50)) (.cells #[br, bl] 50)
  rw [World.size_alloc] at e2
  have T0 : Two w ((w.alloc (.cells #[ar, al] 50)).alloc (.cells #[br, bl] 50)) w.heap.size (w.heap.size + 1) ar al br bl rr ll := by
    refine ⟨?_, ?_, ?_, ?_, ?_, ?_, ?_, ?_, hw _ _⟩
    · rw [cell_of_row _ _ _ _ _ _ e1]; rfl
    · rw [cell_of_row _ _ _ _ _ _ e1]; rfl
    · rw [cell_of_row _ _ _ _ _ _ e2]; rfl
    · rw [cell_of_row _ _ _ _ _ _ e2]; rfl
    · exact h1.on fun k cs T hk _ _ => ⟨keep _ _ k cs T hk, trivial⟩
    · exact h2.on fun k cs T hk _ _ => ⟨keep _ _ k cs T hk, trivial⟩
    · exact h3.on fun k cs T hk _ _ => ⟨keep _ _ k cs T hk, trivial⟩
    · exact h4.on fun k cs T hk _ _ => ⟨keep _ _ k cs T hk, trivial⟩
  clear e1 e2 keep hw
  obtain ⟨aor, car, rfl⟩ := h1.slice
  obtain ⟨aol, cal, rfl⟩ := h2.slice
  obtain ⟨bor, cbr, rfl⟩ := h3.slice
  obtain ⟨bol, cbl, rfl⟩ := h4.slice
  clear h1 h2 h3 h4
  have er : (rr.map irow).length = rr.length := by simp
  have el : (ll.map vrw).length = ll.length := by simp
  rw [er, el] at T0 ⊢
  clear er el
  go_enter Try.func30, Try.ntmps30
  go_wp2
  obtain ⟨n1, hn1⟩ : ∃ n, n = w.heap.size := ⟨_, rfl⟩
  rw [← hn1] at T0 ⊢
  go_loopw [5] (fun i wr => ∃ k : Nat, k ≤ rr.length ∧ i = .int .i64 k ∧ Two w wr n1 (n1 + 1) (.slice aor rr.length car) (.slice aol ll.length cal) (.slice bor rr.length cbr) (.slice bol ll.length cbl) rr ll) (fun i _ => rr.length - (intOf i).toNat)
  case atStart => exact ⟨0, Nat.zero_le _, rfl, T0⟩
  case round =>
    clear T0 hn1
    obtain ⟨k, hk, rfl, hT⟩ := hrel
    obtain ⟨wo, rfl⟩ : ∃ wo : World, wo = wr := ⟨_, rfl⟩
    obtain ⟨a0, a1, b0, b1, h1, h2, h3, h4, hb⟩ := id hT
    have k0 : (0 : Int) ≤ (k : Int) := by omega
    by_cases hlt : k < rr.length
    case pos =>
      have kl : (k : Int) < (rr.length : Int) := by omega
      obtain ⟨g1, u1, rfl, c1, o1⟩ := h1.at rfl k (irow_at hlt)
      obtain ⟨g3, u3, rfl, c3, o3⟩ := h3.at rfl k (irow_at hlt)
      have hrl : (rr.getD k []).length ≤ 1000 := hri _ (by rw [List.getD_eq_getElem?_getD, List.getElem?_eq_getElem hlt]; exact List.getElem_mem _)
      generalize rr.getD k [] = r at o1 o3 hrl
      obtain ⟨ao1, cp1, rfl, hp1⟩ := own_slice o1
      obtain ⟨ao3, cp3, rfl, hp3⟩ := own_slice o3
      simp only [irow] at o1 o3 c1 c3 hp1 hp3
      go_wp2
      go_quiet (fail)
      go_wp2
      go_loopw [6] (fun i wr => ∃ j : Nat, j ≤ r.length ∧ i = .int .i64 j ∧ (Two w wr n1 (n1 + 1) (.slice (some ⟨g1, 0, none⟩) rr.length car) (.slice aol ll.length cal) (.slice (some ⟨g3, 0, none⟩) rr.length cbr) (.slice bol ll.length cbl) rr ll) ∧ wr.cell? ⟨g1, k, none⟩ = some (.slice ao1 r.length cp1) ∧ wr.cell? ⟨g3, k, none⟩ = some (.slice ao3 r.length cp3) ∧ wr.ownsRow 0 3 1 (.slice ao1 r.length cp1) r.length (ints r) ∧ wr.ownsRow 0 3 1 (.slice ao3 r.length cp3) r.length (ints r)) (fun i _ => r.length - (intOf i).toNat)
      case atStart => exact ⟨0, Nat.zero_le _, rfl, hT.drewN _, c1, c3, o1, o3⟩
      case round =>
        clear hT a0 a1 b0 b1 h1 h2 h3 h4 hb c1 c3 o1 o3
        obtain ⟨j, hj, rfl, hT, c1, c3, o1, o3⟩ := hrel
        obtain ⟨wp, rfl⟩ : ∃ wp : World, wp = wr := ⟨_, rfl⟩
        obtain ⟨a0, a1, b0, b1, h1, h2, h3, h4, hb⟩ := id hT
        have j0 : (0 : Int) ≤ (j : Int) := by omega
        by_cases hjl : j < r.length
        case pos =>
          have jl : (j : Int) < (r.length : Int) := by omega
          obtain ⟨v1, rfl⟩ := hp1 (by omega)
          obtain ⟨v3, rfl⟩ := hp3 (by omega)
          have d1 := o1.cellAt j (by omega)
          have d3 := o3.cellAt j (by omega)
          rw [ints_at r j hjl] at d1 d3
          generalize r.getD j 0 = x at d1 d3
          go_wp2
          go_quiet (fail)
          go_wp2
          go_roundw
          case rel => exact ⟨j + 1, by omega, by go_num, hT.drewN _, c1, c3, o1, o3⟩
          case measure => simp [intOf]; omega
        case neg =>
          go_wp2
          go_roundw
          case rel => exact ⟨k + 1, by omega, by go_num, hT⟩
          case measure => simp [intOf]; omega
    case neg =>
      go_wp2
      go_loopw [7] (fun i wr => ∃ k : Nat, k ≤ ll.length ∧ i = .int .i64 k ∧ Two w wr n1 (n1 + 1) (.slice aor rr.length car) (.slice aol ll.length cal) (.slice bor rr.length cbr) (.slice bol ll.length cbl) rr ll) (fun i _ => ll.length - (intOf i).toNat)
      case atStart => exact ⟨0, Nat.zero_le _, rfl, hT⟩
      case round =>
        clear hT a0 a1 b0 b1 h1 h2 h3 h4 hb
        obtain ⟨k, hk, rfl, hT⟩ := hrel
        obtain ⟨wo, rfl⟩ : ∃ wo : World, wo = wr := ⟨_, rfl⟩
        obtain ⟨a0, a1, b0, b1, h1, h2, h3, h4, hb⟩ := id hT
        have k0 : (0 : Int) ≤ (k : Int) := by omega
        by_cases hlt : k < ll.length
        case pos =>
          have kl : (k : Int) < (ll.length : Int) := by omega
          obtain ⟨g1, u1, rfl, c1, o1⟩ := h2.at rfl k (vrw_at hlt)
          obtain ⟨g3, u3, rfl, c3, o3⟩ := h4.at rfl k (vrw_at hlt)
          have hrl : (ll.getD k []).length ≤ 1000 := hli _ (by rw [List.getD_eq_getElem?_getD, List.getElem?_eq_getElem hlt]; exact List.getElem_mem _)
          generalize ll.getD k [] = r at o1 o3 hrl
          obtain ⟨ao1, cp1, rfl, hp1⟩ := own_slice o1
          obtain ⟨ao3, cp3, rfl, hp3⟩ := own_slice o3
          simp only [vrw] at o1 o3 c1 c3 hp1 hp3
          go_wp2
          go_quiet (fail)
          go_wp2
          go_loopw [8] (fun i wr => ∃ j : Nat, j ≤ r.length ∧ i = .int .i64 j ∧ (Two w wr n1 (n1 + 1) (.slice aor rr.length car) (.slice (some ⟨g1, 0, none⟩) ll.length cal) (.slice bor rr.length cbr) (.slice (some ⟨g3, 0, none⟩) ll.length cbl) rr ll) ∧ wr.cell? ⟨g1, k, none⟩ = some (.slice ao1 r.length cp1) ∧ wr.cell? ⟨g3, k, none⟩ = some (.slice ao3 r.length cp3) ∧ wr.ownsRow 0 37 2 (.slice ao1 r.length cp1) r.length (vcells r) ∧ wr.ownsRow 0 37 2 (.slice ao3 r.length cp3) r.length (vcells r)) (fun i _ => r.length - (intOf i).toNat)
          case atStart => exact ⟨0, Nat.zero_le _, rfl, hT.drewN _, c1, c3, o1, o3⟩
          case round =>
            clear hT a0 a1 b0 b1 h1 h2 h3 h4 hb c1 c3 o1 o3
            obtain ⟨j, hj, rfl, hT, c1, c3, o1, o3⟩ := hrel
            obtain ⟨wp, rfl⟩ : ∃ wp : World, wp = wr := ⟨_, rfl⟩
            obtain ⟨a0, a1, b0, b1, h1, h2, h3, h4, hb⟩ := id hT
            have j0 : (0 : Int) ≤ (j : Int) := by omega
            by_cases hjl : j < r.length
            case pos =>
              have jl : (j : Int) < (r.length : Int) := by omega
              obtain ⟨v1, rfl⟩ := hp1 (by omega)
              obtain ⟨v3, rfl⟩ := hp3 (by omega)
              have hv := vcells_at r j (r.getD j (0, 0)) (by rw [List.getD_eq_getElem?_getD, List.getElem?_eq_getElem hjl]; rfl)
              have d1 := o1.cellAt (j * 2) (by omega)
              have d3 := o3.cellAt (j * 2) (by omega)
              have e1 := o1.cellAt (j * 2 + 1) (by omega)
              have e3 := o3.cellAt (j * 2 + 1) (by omega)
              rw [hv.1] at d1 d3
              rw [hv.2] at e1 e3
              have hN := neqV (r.getD j (0, 0)) (r.getD j (0, 0)) true (by simp)
              generalize (r.getD j (0, 0)).1 = x at d1 d3 hN
              generalize (r.getD j (0, 0)).2 = y at e1 e3 hN
              clear hv
              go_wp2
              go_quiet (fail)
              go_wp2
              go_roundw
              case rel => exact ⟨j + 1, by omega, by go_num, hT.drewN _, c1, c3, o1, o3⟩
              case measure => simp [intOf]; omega
            case neg =>
              go_wp2
              go_roundw
              case rel => exact ⟨k + 1, by omega, by go_num, hT⟩
              case measure => simp [intOf]; omega
        case neg =>
          go_wp2
          go_ret
          exact ⟨rfl, hb⟩
end Go.Proofs.Ytbihdkdefopijaa
