/-
  Contracts of the reference: number.
-/
import Derived.Test.YtbihdkdefopijaaYc6
import Derived.Test.YtbihdkdefopijaaSg
namespace Go.Proofs.Ytbihdkdefopijaa
set_option linter.unusedVariables false
set_option linter.unusedSimpArgs false
open Go.ChangeShapes Go.WideShapes Go.ChangeAt Go.RowKit

theorem idx_le (x : Int) : ∀ (m : List Int) (i : Nat), m[i]? = some x → m.idxOf x ≤ i
  | [], i, h => by simp at h
  | y :: m, 0, h => by simp at h; subst h; simp
  | y :: m, i + 1, h => by
    have ih := idx_le x m i (by simpa using h)
    cases hh : (y == x) <;> simp [List.idxOf_cons, hh]
    exact ih
theorem num_at {m : List Int} {x : Int} (h0 : x ≠ 0) {i : Nat} (hi : i < m.length) (hx : m.getD i 0 = x) (hz : ∀ j, j < i → m.getD j 0 ≠ x) : Sh.add m x = m ∧ Sh.num m x = (i : Int) + 1 := by
  have e : m[i] = x := by rw [← hx, List.getD_eq_getElem?_getD, List.getElem?_eq_getElem hi]; rfl
  have hm : x ∈ m := e ▸ List.getElem_mem _
  refine ⟨Sh.add_of_mem (.inr hm), ?_⟩
  unfold Sh.num
  rw [if_neg h0]
  have : m.idxOf x = i := by
    have h1 : m.idxOf x ≤ i := idx_le x m i (by rw [List.getElem?_eq_getElem hi, e])
    have h2 : m.idxOf x < m.length := List.idxOf_lt_length_of_mem hm
    rcases Nat.lt_or_ge (m.idxOf x) i with h | h
    · have := hz _ h
      rw [List.getD_eq_getElem?_getD, List.getElem?_eq_getElem h2] at this
      exact absurd (List.getElem_idxOf h2) this
    · omega
  rw [this]
theorem not_met {m : List Int} {x : Int} (hz : ∀ j, j < m.length → m.getD j 0 ≠ x) : x ∉ m := fun h => by
  obtain ⟨i, hi, e⟩ := List.getElem_of_mem h
  exact hz i hi (by rw [List.getD_eq_getElem?_getD, List.getElem?_eq_getElem hi]; exact e)

section
variable {P : Program} (w : World)
/-- nothing is appended -/
theorem wpList_append_none {ops : Array Oper} {rest : List Oper} {o : Oper} {a : Act} {Q : Exit → Act → World → Prop} (hgd : o.guard = none) (s x : Operand) (t : TypeId)
    (ho : o.op = .call { callee := .builtin .append, args := #[s, x], argTypes := #[t, t] })
    (e : TypeId) (i : TypeInfo) (ht : P.underlying t = some (.slice e)) (hi : P.info? e = some i)
    (base : Option Addr) (n cap : Nat) (hle : n ≤ cap) (ao : Option Addr) (c : Nat) (hs : a.eval s = .slice base n cap) (hx : a.eval x = .slice ao 0 c)
    (h : wpList P ops Q rest (a.put o.dst (.slice base n cap)) w) : wpList P ops Q (o :: rest) a w := by
  refine wpList_plain hgd fun K hK => ?_
  have hr : (Builtin.append_ #[t, t] o.type #[.slice base n cap, .slice ao 0 c]).run P w = .ok (.slice base n cap) w := by
    cases base <;> cases ao <;> simp [Builtin.append_, run_underlying ht, sizeOf, typeInfo, hi, hle, storeCells, loadCells, Builtin.lenOf, Builtin.firstCells, loadCellsFrom]
  unfold Oper.wp execOp
  simp only [ho, resolve, invoke, builtin, Sem.run_bind, Sem.run_pure, Result.andThen_ok, List.map_toArray, List.map_cons, List.map_nil, hs, hx, hr]
  exact hK _ _ h
end
theorem yNumber0 (w : World) (m : List Int) (ao : Option Addr) (cp : Nat) :
    Calls Try.prog 55 #[.slice ao m.length cp, .int .i64 0] w fun e w' => e = .returned (.tuple #[.slice ao m.length cp, .int .i64 0]) ∧ w' = w := by
  go_enter Try.func55, Try.ntmps55
  go_wp2
  go_ret2
  exact ⟨rfl, rfl⟩

set_option maxRecDepth 100000 in
set_option maxHeartbeats 400000 in
theorem yNumber1 (w : World) (m : List Int) (ao : Option Addr) (cp : Nat) (hm : m.length ≤ 1001) (hown : w.ownsRow 0 3 1 (.slice ao m.length cp) m.length (ints m)) (x : Int) (hx0 : (x == 0) = false) (hne : x ≠ 0) :
    Calls Try.prog 55 #[.slice ao m.length cp, .int .i64 x] w fun e w' => ∃ v', e = .returned (.tuple #[v', .int .i64 (Sh.num (Sh.add m x) x)]) ∧ w'.ownsRow 0 3 1 v' (Sh.add m x).length (ints (Sh.add m x)) ∧ Below w.heap.size w w' ∧ (v' = .slice ao m.length cp ∨ ∀ k, v'.ownBlock = some k → w.heap.size ≤ k) := by
  go_enter Try.func55, Try.ntmps55
  go_wp2
  go_loop [6] (fun i => ∃ k : Nat, k ≤ m.length ∧ i = .int .i64 k ∧ ∀ j, j < k → m.getD j 0 ≠ x) (fun i => m.length - (intOf i).toNat)
  case atStart => exact ⟨0, Nat.zero_le _, rfl, fun j hj => by omega⟩
  case round =>
    obtain ⟨k, hk, rfl, hz⟩ := hrel
    have k0 : (0 : Int) ≤ (k : Int) := by omega
    by_cases hlt : k < m.length
    case pos =>
      have kl : (k : Int) < (m.length : Int) := by omega
      have hc : ∃ b, ao = some ⟨b, 0, none⟩ := by
        obtain ⟨a, c, e1, e2⟩ := own_slice hown
        injection e1 with e1 _ _
        obtain ⟨g, hg⟩ := e2 (by omega)
        exact ⟨g, by rw [e1, hg]⟩
      obtain ⟨b, rfl⟩ := hc
      have d1 := hown.cellAt k (by omega)
      rw [ints_at _ k hlt] at d1
      by_cases hy : m.getD k 0 = x
      · have R := num_at hne hlt hy hz
        rw [hy] at d1
        have HZ : Hid (∀ j, j < k → m.getD j 0 ≠ x) := hz
        clear hz
        go_wp2
        go_ret2
        exact ⟨_, rfl, hown, Below.refl _ _, .inl rfl⟩
      · have hz' : ∀ j, j < k + 1 → m.getD j 0 ≠ x := fun j hj => by
          by_cases e : j = k
          · rw [e]; exact hy
          · exact hz j (by omega)
        have HZ : Hid (∀ j, j < k + 1 → m.getD j 0 ≠ x) := hz'
        have hy' : (m.getD k 0 == x) = false := by simpa using hy
        clear hz hz' hy
        generalize m.getD k 0 = y at d1 hy'
        go_wp2
        go_round
        case rel => exact ⟨k + 1, by omega, by go_num, HZ.out⟩
        case measure => simp [intOf]; omega
    case neg =>
      have hn := not_met (m := m) (x := x) fun j hj => hz j (by omega)
      have eA := Sh.add_of_not hne hn
      have eN := Sh.num_new hne hn
      have eL : ints (m ++ [x]) = ints m ++ [.int .i64 x] := by simp [ints]
      obtain ⟨i0, hi, hz0, hz1, hz2⟩ := info_parts info3
      have HE : (w.alloc (.cells #[] 3)).ownsRow 0 3 1 (.slice (some ⟨w.heap.size, 0, none⟩) 0 0) 0 [] := ⟨rfl, .inr ⟨w.heap.size, 0, #[], rfl, Nat.zero_le _, heap_alloc_new w _, Nat.le_refl _, Nat.zero_le _, rfl, rfl⟩⟩
      clear hz
      by_cases h0 : m.length = 0
      case pos =>
        obtain rfl : m = [] := List.eq_nil_of_length_eq_zero h0
        simp only [List.length_nil] at hown ⊢
        go_wp2_with (first
          | (at_builtin; refine wpList_append_none _ rfl _ _ 53 rfl 3 i0 Try.underlying53 hi (some ⟨w.heap.size, 0, none⟩) 0 0 (Nat.le_refl _) ao cp rfl rfl ?_)
          | (at_builtin; refine wpList_append_mine _ rfl _ _ 53 rfl 3 i0 _ 1 8 Try.underlying53 hi hz0 hz1 hz2 rfl (by decide) (.slice (some ⟨w.heap.size, 0, none⟩) 0 0) 0 [] rfl (HE.alloc _) ⟨w.heap.size + 1, 0, none⟩ 1 1 [.int .i64 x] rfl rfl (new1 _ _ (by simp) _ _) (by intro u hu; simp at hu; rw [hu]; rfl) (by unfold maxLen; omega) (by omega) (by decide) ?_; intro g2 cp2 w3 hrow2 hgr2 hn2))
        go_ret2
        have B0 := bal (bal (Below.refl w.heap.size w) (.cells #[] 3)) (.cells #[.int .i64 x] 3)
        have B4 := B0.grown hgr2 B0.size fun k hk => by simp [Value.ownBlock] at hk; omega
        have e2 : w.heap.size ≤ g2 := by
          rcases hn2 with h | h
          · simp [Value.ownBlock] at h; omega
          · have := B0.size; omega
        have eA' : Sh.add [] x = [x] := by unfold Sh.add; rw [if_neg (by simp [hne])]; rfl
        have eN' : Sh.num [x] x = 1 := by unfold Sh.num; rw [if_neg hne]; simp
        refine ⟨.slice (some ⟨g2, 0, none⟩) 1 cp2, ?_, ?_, B4, .inr fun k hk => by simp [Value.ownBlock] at hk; omega⟩
        · first
          | rfl
          | (rw [eA', eN']; rfl)
          | (rw [eN']; rfl)
          | (simp only [List.nil_append, eN']; rfl)
        · first
          | exact hrow2
          | (rw [eA']; exact hrow2)
      case neg =>
        have hc : ∃ b, ao = some ⟨b, 0, none⟩ := by
          obtain ⟨a, c, e1, e2⟩ := own_slice hown
          injection e1 with e1 _ _
          obtain ⟨g, hg⟩ := e2 (by omega)
          exact ⟨g, by rw [e1, hg]⟩
        obtain ⟨b, rfl⟩ := hc
        have HC : ∀ j u, (ints m)[j]? = some u → (w.alloc (.cells #[] 3)).cell? ((⟨b, 0, none⟩ : Addr).add j) = some u := fun j u hu => by
          have hj := (List.getElem?_eq_some_iff.1 hu).1
          rw [Addr.add_lit, Nat.zero_add, (hown.alloc _).cellAt j (by have := hown.1; omega)]
          exact hu
        have h1c : ∀ u ∈ ints m, u.oneCell' = true := by
          intro u hu
          simp [ints] at hu
          obtain ⟨y, _, rfl⟩ := hu
          rfl
        have hl1 : (ints m).length = m.length * 1 := hown.1
        have hpos : 0 < m.length := by omega
        have hl2 : m.length ≤ maxLen := by unfold maxLen; omega
        go_wp2_with (first
          | (at_builtin; refine wpList_append_mine _ rfl _ _ 53 rfl 3 i0 _ 1 8 Try.underlying53 hi hz0 hz1 hz2 rfl (by decide) (.slice (some ⟨g1, 0, none⟩) m.length cp1) _ _ rfl (hrow1.alloc _) ⟨w2.heap.size, 0, none⟩ 1 1 [.int .i64 x] rfl rfl (new1 _ _ rfl _ _) (by intro u hu; simp at hu; rw [hu]; rfl) (by unfold maxLen; omega) (by omega) (by decide) ?_; intro g2 cp2 w3 hrow2 hgr2 hn2)
          | (at_builtin; refine wpList_append_mine _ rfl _ _ 53 rfl 3 i0 _ 1 8 Try.underlying53 hi hz0 hz1 hz2 rfl (by decide) (.slice (some ⟨w.heap.size, 0, none⟩) 0 0) 0 [] rfl HE ⟨b, 0, none⟩ m.length cp (ints m) rfl hl1 HC h1c (by omega) (by omega) hpos ?_; intro g1 cp1 w2 hrow1 hgr1 hn1; rw [Nat.zero_add] at hrow1 ⊢; rw [List.nil_append] at hrow1))
        go_ret2
        have B0 := bal (Below.refl w.heap.size w) (.cells #[] 3)
        have e1 : w.heap.size ≤ g1 := by
          rcases hn1 with h | h
          · simp [Value.ownBlock] at h; omega
          · simp at h; omega
        have B2 := B0.grown hgr1 (by simp) fun k hk => by simp [Value.ownBlock] at hk; omega
        have B3 := bal B2 (.cells #[.int .i64 x] 3)
        have B4 := B3.grown hgr2 B3.size fun k hk => by simp [Value.ownBlock] at hk; omega
        have e2 : w.heap.size ≤ g2 := by
          rcases hn2 with h | h
          · simp [Value.ownBlock] at h; omega
          · have := B3.size; omega
        exact ⟨_, rfl, hrow2, B4, .inr fun k hk => by simp [Value.ownBlock] at hk; omega⟩
end Go.Proofs.Ytbihdkdefopijaa
