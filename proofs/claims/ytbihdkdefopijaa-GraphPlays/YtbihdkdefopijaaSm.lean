/-
  Objects as they are met: a map of numbers, a row of identities, and the function that meets.
-/
import Derived.Test.YtbihdkdefopijaaSh
import Derived.Test.YtbihdkdefopijaaGc4
import Derived.Maps.Own
import Derived.Maps.OwnOps
import Derived.Maps.OwnSet
import Derived.WalkArith
namespace Go.Proofs.Ytbihdkdefopijaa
set_option linter.unusedVariables false
set_option linter.unusedSimpArgs false
open Go.ChangeShapes Go.WideShapes Go.ChangeAt Go.RowKit Go.Maps

theorem law3 : Keyed Try.prog 3 := int_keyed Try.underlying3
theorem zero3 (w : World) : (zeroValue 3).run Try.prog w = .ok (.int .i64 0) w := by kernel_rfl
theorem info3 : (Try.prog.info? 3).map (fun i => (i.zero, i.size, i.bytes)) = some (some (.int .i64 0), 1, 8) := by kernel_rfl

/-- numbers as cells -/
def ints (m : List Int) : List Value := m.map (.int .i64)
theorem ints_append (a b : List Int) : ints (a ++ b) = ints a ++ ints b := by simp [ints]
theorem ints_at (m : List Int) (k : Nat) (h : k < m.length) : (ints m)[k]? = some (.int .i64 (m.getD k 0)) := by simp [ints, h]
theorem ints_one (m : List Int) : ∀ u ∈ ints m, u.oneCell' = true := fun u hu => by simp [ints] at hu; obtain ⟨_, _, rfl⟩ := hu; rfl

theorem keyLit (x : Int) : WideAt.IsKeyLit (Lit.int .i64 x) := trivial
/-- a map holds just the numbers of what was met -/
def Nums (D : DataW Unit) (m : List Int) : Prop := ∀ x : Int, Maps.has D (.int .i64 x) = decide (x = 0 ∨ x ∈ m) ∧ ((x = 0 ∨ x ∈ m) → D.atKey (.int .i64 x) (.lit (.int .i64 0)) = .lit (.int .i64 (Sh.num m x)))
theorem Nums.add {D : DataW Unit} {m : List Int} (h : Nums D m) (hD : IsMap D) {x : Int} (h0 : x ≠ 0) (hx : x ∉ m) : Nums (D.put (.int .i64 x) (.lit (.int .i64 ((m.length : Int) + 1)))) (m ++ [x]) := by
  intro y
  by_cases e : y = x
  · subst e
    refine ⟨?_, fun _ => ?_⟩
    · rw [has_put_same hD (keyLit _)]; simp
    · rw [atKey_put_same hD (keyLit _), Sh.num_new h0 hx]
  · have hne : Lit.int .i64 y ≠ Lit.int .i64 x := by simp [e]
    refine ⟨?_, fun hy => ?_⟩
    · rw [has_put_other hne, (h y).1]; simp [e]
    · have hy' : y = 0 ∨ y ∈ m := by simpa [e] using hy
      rw [atKey_put_other hne, (h y).2 hy', Sh.num_old hy']
theorem Nums.start : Nums ((DataW.map []).put (.int .i64 0) (.lit (.int .i64 0))) [] := by
  intro y
  have hD : IsMap (DataW.map [] : DataW Unit) := isMap_empty
  by_cases e : y = 0
  · subst e
    refine ⟨?_, fun _ => ?_⟩
    · rw [has_put_same hD (keyLit _)]; simp
    · rw [atKey_put_same hD (keyLit _)]; rfl
  · have hne : Lit.int .i64 y ≠ Lit.int .i64 0 := by simp [e]
    refine ⟨?_, fun hy => ?_⟩
    · rw [has_put_other hne]; simp [e]; rfl
    · simp [e] at hy

structure Mt where
  nb : Nat
  mb : Nat
  B : Nat
  v : Value
def Mt.fp (C : Mt) : List Nat := C.nb :: C.mb :: C.B :: C.v.ownBlock.toList
structure Met (w : World) (C : Mt) (m : List Int) : Prop where
  nbx : w.heap[C.nb]? = some (.cells #[.map (some C.B)] 86 (0, 0))
  mbx : w.heap[C.mb]? = some (.cells #[C.v] 53 (0, 0))
  row : w.ownsRow 0 3 1 C.v m.length (ints m)
  mp : ∃ D : DataW Unit, w.ownsMap Try.prog 3 (plainElem Try.prog 3) C.B (m.length + 1) D ∧ Nums D m
theorem map_kept {H : Type} {w w' : World} {F : List Nat} {P : Program} {k : TypeId} {R : Value → Option (DataW H × List MemPlace)} {b n : Nat} {D : DataW H} (h : w.ownsMap P k R b n D) (K : Kept F w w') (hb : b ∉ F) : w'.ownsMap P k R b n D := by
  have hlt := h.lt
  obtain ⟨es, clock, h1, r⟩ := h
  exact ⟨es, clock, (K.block b hlt hb).trans h1, r⟩
section
variable {w w' : World} {C : Mt} {m : List Int}
theorem Met.on {F : List Nat} (h : Met w C m) (k : Kept F w w') (d : ∀ k ∈ C.fp, k ∉ F) : Met w' C m where
  nbx := (k.block _ (lt_of_block h.nbx) (d _ (by simp [Mt.fp]))).trans h.nbx
  mbx := (k.block _ (lt_of_block h.mbx) (d _ (by simp [Mt.fp]))).trans h.mbx
  row := own_kept h.row k fun j hj => d _ (by simp [Mt.fp, hj])
  mp := by
    obtain ⟨D, h1, h2⟩ := h.mp
    exact ⟨D, map_kept h1 k (d _ (by simp [Mt.fp])), h2⟩
theorem Met.below (h : Met w C m) (k : Below w.heap.size w w') : Met w' C m := h.on (Kept.of_below (F := []) k) fun _ _ => by simp
theorem Met.alloc (h : Met w C m) (o : Obj) : Met (w.alloc o) C m := h.on (Kept.alloc [] w o) fun _ _ => by simp
theorem Met.drew (h : Met w C m) : Met w.drew C m := h.on (Kept.drew [] w) fun _ _ => by simp
theorem Met.vblk (h : Met w C m) (k : Nat) (hk : C.v.ownBlock = some k) : ∃ cur, w.heap[k]? = some (.cells cur 3 (0, 0)) := by
  rcases h.row.2 with ⟨h', _⟩ | ⟨g, cp, cur, h', _, hg, _⟩
  · rw [h'] at hk; simp [Value.ownBlock] at hk
  · rw [h'] at hk; simp [Value.ownBlock] at hk; subst hk; exact ⟨cur, hg⟩
theorem Met.mblk (h : Met w C m) : ∃ es cl, w.heap[C.B]? = some (.map es cl) := by
  obtain ⟨D, ⟨es, cl, h1, _⟩, _⟩ := h.mp
  exact ⟨es, cl, h1⟩
theorem Met.lt (h : Met w C m) : ∀ k ∈ C.fp, k < w.heap.size := fun k hk => by
  simp only [Mt.fp, List.mem_cons, Option.mem_toList] at hk
  rcases hk with rfl | rfl | rfl | hk
  · exact lt_of_block h.nbx
  · exact lt_of_block h.mbx
  · obtain ⟨D, h1, _⟩ := h.mp
    exact h1.lt
  · obtain ⟨cur, e⟩ := h.vblk k hk
    exact lt_of_block e
theorem Met.nm (h : Met w C m) : C.nb ≠ C.mb := fun e => by
  have h1 := h.nbx
  rw [e, h.mbx] at h1
  simp at h1
theorem Met.Bn (h : Met w C m) : C.B ≠ C.nb := fun e => by
  obtain ⟨es, cl, h1⟩ := h.mblk
  rw [e, h.nbx] at h1
  simp at h1
theorem Met.Bm (h : Met w C m) : C.B ≠ C.mb := fun e => by
  obtain ⟨es, cl, h1⟩ := h.mblk
  rw [e, h.mbx] at h1
  simp at h1
theorem Met.vn (h : Met w C m) : C.v.ownBlock ≠ some C.nb := fun e => by
  obtain ⟨cur, h1⟩ := h.vblk _ e
  rw [h.nbx] at h1
  simp at h1
theorem Met.vm (h : Met w C m) : C.v.ownBlock ≠ some C.mb := fun e => by
  obtain ⟨cur, h1⟩ := h.vblk _ e
  rw [h.mbx] at h1
  simp at h1
theorem Met.vB (h : Met w C m) : C.v.ownBlock ≠ some C.B := fun e => by
  obtain ⟨cur, h1⟩ := h.vblk _ e
  obtain ⟨es, cl, h2⟩ := h.mblk
  rw [h2] at h1
  simp at h1
theorem Met.cellN (h : Met w C m) : w.cell? ⟨C.nb, 0, none⟩ = some (.map (some C.B)) := cell_of_one h.nbx
theorem Met.cellM (h : Met w C m) : w.cell? ⟨C.mb, 0, none⟩ = some C.v := cell_of_one h.mbx
theorem Met.freeM (h : Met w C m) : w.frozen? ⟨C.mb, 0, none⟩ = false := free_of_one h.mbx
theorem Met.slice (h : Met w C m) : ∃ ao cp, C.v = .slice ao m.length cp := by
  rcases h.row.2 with ⟨h', h0⟩ | ⟨g, cp, cur, h', _⟩
  · exact ⟨none, 0, by rw [h', h0]⟩
  · exact ⟨_, _, h'⟩
end
/-- from one place of what was met to the next -/
structure StepM (w : World) (C : Mt) (w' : World) (C' : Mt) : Prop where
  kept : Kept C.fp w w'
  new : ∀ k ∈ C'.fp, k ∈ C.fp ∨ w.heap.size ≤ k
  nb : C'.nb = C.nb
  mb : C'.mb = C.mb
theorem StepM.refl (w : World) (C : Mt) : StepM w C w C := ⟨Kept.refl _ _, fun _ h => .inl h, rfl, rfl⟩
theorem StepM.trans {w w1 w2 : World} {C C1 C2 : Mt} (h : StepM w C w1 C1) (h1 : StepM w1 C1 w2 C2) : StepM w C w2 C2 :=
  ⟨h.kept.trans h1.kept h.new, fun k hk => (h1.new k hk).elim (h.new k) fun hk' => .inr (Nat.le_trans h.kept.size hk'), h1.nb.trans h.nb, h1.mb.trans h.mb⟩
/-- a block that is none of them stays, and stays none of them -/
theorem StepM.other {w w1 : World} {C C1 : Mt} (h : StepM w C w1 C1) {k : Nat} (hk : k < w.heap.size) (hn : k ∉ C.fp) : w1.heap[k]? = w.heap[k]? ∧ k ∉ C1.fp ∧ k < w1.heap.size :=
  ⟨h.kept.block k hk hn, fun h' => (h.new k h').elim hn fun h2 => by omega, Nat.lt_of_lt_of_le hk h.kept.size⟩

theorem new1 (W : World) (k : Nat) (hk : W.heap.size = k) (x : Value) (T : TypeId) : ∀ j u, [x][j]? = some u → (W.alloc (.cells #[x] T)).cell? ((⟨k, 0, none⟩ : Addr).add j) = some u := by
  subst hk
  intro j u hu
  rw [Addr.add_lit, Nat.zero_add, cell_of_row _ _ _ _ _ _ (heap_alloc_new W _)]
  simpa using hu
theorem wf64 {x : Int} (h0 : -9223372036854775808 ≤ x) (h1 : x ≤ 9223372036854775807) : (Lit.int .i64 x).wf = true := WalkArith.wf_i64 ⟨h0, h1⟩

set_option maxRecDepth 100000 in
set_option maxHeartbeats 400000 in
theorem cMeetOld {w : World} {C : Mt} {m : List Int} (h : Met w C m) (x : Int) (hx0 : 0 ≤ x) (hx1 : x ≤ 1000) (hx : x = 0 ∨ x ∈ m) :
    Calls Try.prog 52 #[.int .i64 x, .pointer (some ⟨C.nb, 0, none⟩), .pointer (some ⟨C.mb, 0, none⟩)] w fun e w' => e = .returned (.int .i64 (Sh.num m x)) ∧ w' = w := by
  obtain ⟨D, hown, hN⟩ := h.mp
  have hkey : keyOf Try.prog 3 (.int .i64 x) = some (.int .i64 x) := keyOf_int_mk Try.underlying3 (wf64 (by omega) (by omega))
  have c0 := h.cellN
  have hh : Maps.has D (.int .i64 x) = true := by rw [(hN x).1]; simpa using hx
  have ha := (hN x).2 hx
  go_enter Try.func52, Try.ntmps52
  go_wp2_with (first
    | (at_lookup; refine wpList_lookup_own_ok_int _ rfl _ _ 86 rfl 3 3 .i64 law3 Try.underlying86 Try.underlying3 (zero3 _) C.B (m.length + 1) D rfl hown _ _ rfl hkey ?_; intro c hat hwc; rw [hh]; rw [ha] at hat; obtain rfl : Sh.num m x = c := by simpa using hat))
  go_ret
  exact ⟨rfl, rfl⟩

theorem meet_end {w w2 w3 : World} {C : Mt} {m : List Int} (h : Met w C m) {x : Int} {g cp : Nat} {o : Obj} {D : DataW Unit} (hx0 : x ≠ 0) (hx : x ∉ m) (hN : Nums D m) (hD : IsMap D)
    (hrow : w2.ownsRow 0 3 1 (.slice (some ⟨g, 0, none⟩) (m.length + 1) cp) (m.length + 1) (ints m ++ [.int .i64 x])) (hgr : (w.alloc o).grownBy w2 C.v.ownBlock) (hn : C.v.ownBlock = some g ∨ w.heap.size ≤ g)
    (hown : w3.ownsMap Try.prog 3 (plainElem Try.prog 3) C.B (m.length + 1 + 1) (D.put (.int .i64 x) (.lit (.int .i64 ((m.length : Int) + 1))))) (hg3 : (w2.setCell ⟨C.mb, 0, none⟩ (.slice (some ⟨g, 0, none⟩) (m.length + 1) cp)).grownBy w3 (some C.B)) :
    Met w3 ⟨C.nb, C.mb, C.B, .slice (some ⟨g, 0, none⟩) (m.length + 1) cp⟩ (m ++ [x]) ∧ StepM w C w3 ⟨C.nb, C.mb, C.B, .slice (some ⟨g, 0, none⟩) (m.length + 1) cp⟩ := by
  have K1 : Kept C.fp w w2 := (Kept.alloc C.fp w o).trans (Kept.grown C.fp hgr fun k hk => by simp [Mt.fp, hk]) fun _ hk => .inl hk
  have K2 : Kept C.fp w (w2.setCell ⟨C.mb, 0, none⟩ (.slice (some ⟨g, 0, none⟩) (m.length + 1) cp)) := K1.trans (Kept.setCell C.fp w2 ⟨C.mb, 0, none⟩ _ (by simp [Mt.fp])) fun _ hk => .inl hk
  have K3 : Kept C.fp w w3 := K2.trans (Kept.grown C.fp hg3 fun k hk => by simp at hk; subst hk; simp [Mt.fp]) fun _ hk => .inl hk
  have hm2 : w2.heap[C.mb]? = some (.cells #[C.v] 53 (0, 0)) := by
    rw [hgr.block C.mb (Nat.lt_of_lt_of_le (lt_of_block h.mbx) (Kept.alloc [] w o).size) (fun e => h.vm e.symm)]
    exact (h.alloc o).mbx
  have hn2 : w2.heap[C.nb]? = some (.cells #[.map (some C.B)] 86 (0, 0)) := by
    rw [hgr.block C.nb (Nat.lt_of_lt_of_le (lt_of_block h.nbx) (Kept.alloc [] w o).size) (fun e => h.vn e.symm)]
    exact (h.alloc o).nbx
  have hgm : g ≠ C.mb := by
    rintro rfl
    rcases hn with hn | hn
    · exact h.vm hn
    · have := lt_of_block h.mbx; omega
  have hgB : g ≠ C.B := by
    rintro rfl
    rcases hn with hn | hn
    · exact h.vB hn
    · have := h.lt C.B (by simp [Mt.fp]); omega
  refine ⟨⟨?_, ?_, ?_, ⟨_, ?_, hN.add hD hx0 hx⟩⟩, ⟨K3, ?_, rfl, rfl⟩⟩
  · rw [hg3.block C.nb (by simp; exact lt_of_block hn2) (by simp; exact fun e => h.Bn e.symm), Below.heap_setCell _ _ _ _ h.nm]
    exact hn2
  · rw [hg3.block C.mb (by simp; exact lt_of_block hm2) (by simp; exact fun e => h.Bm e.symm), heap_setCell_same w2 _ 0 _ _ _ hm2]
    rfl
  · have r := (ownsRow_setCell_other hrow (a := ⟨C.mb, 0, none⟩) (by simp [Value.ownBlock]; exact hgm) (.slice (some ⟨g, 0, none⟩) (m.length + 1) cp)).kept hg3 (.inr (by simp [Value.ownBlock]; exact hgB))
    rw [ints_append, show ints [x] = [.int .i64 x] from rfl]
    simpa using r
  · simpa using hown
  · intro k hk
    simp only [Mt.fp, Value.ownBlock, Option.toList_some, List.mem_cons, List.not_mem_nil, or_false] at hk
    rcases hk with rfl | rfl | rfl | rfl
    · exact .inl (by simp [Mt.fp])
    · exact .inl (by simp [Mt.fp])
    · exact .inl (by simp [Mt.fp])
    · rcases hn with hn | hn
      · exact .inl (by simp [Mt.fp, hn])
      · exact .inr hn

set_option maxRecDepth 100000 in
set_option maxHeartbeats 400000 in
theorem cMeetNew {w : World} {C : Mt} {m : List Int} (h : Met w C m) (x : Int) (hx0 : 0 < x) (hx1 : x ≤ 1000) (hm : m.length ≤ 1000) (hx : x ∉ m) :
    Calls Try.prog 52 #[.int .i64 x, .pointer (some ⟨C.nb, 0, none⟩), .pointer (some ⟨C.mb, 0, none⟩)] w fun e w' => e = .returned (.int .i64 ((m.length : Int) + 1)) ∧ ∃ C', Met w' C' (m ++ [x]) ∧ StepM w C w' C' := by
  obtain ⟨D, hown, hN⟩ := h.mp
  obtain ⟨i0, hi, hz0, hz1, hz2⟩ := info_parts info3
  have hkey : keyOf Try.prog 3 (.int .i64 x) = some (.int .i64 x) := keyOf_int_mk Try.underlying3 (wf64 (by omega) (by omega))
  have c0 := h.cellN
  have c1 := h.cellM
  have f1 := h.freeM
  have hh : Maps.has D (.int .i64 x) = false := by rw [(hN x).1]; simp [hx]; omega
  have hD := hown.isMap
  have hbm := h.Bm
  have hbv := h.vB
  go_enter Try.func52, Try.ntmps52
  go_wp2_with (first
    | (at_lookup; refine wpList_lookup_own_ok_int _ rfl _ _ 86 rfl 3 3 .i64 law3 Try.underlying86 Try.underlying3 (zero3 _) C.B (m.length + 1) D rfl hown _ _ rfl hkey ?_; intro c hat hwc; rw [hh])
    | (at_builtin; refine wpList_append_mine _ rfl _ _ 53 rfl 3 i0 _ 1 8 Try.underlying53 hi hz0 hz1 hz2 rfl (by decide) C.v _ _ rfl (h.row.alloc _) ⟨w.heap.size, 0, none⟩ 1 1 [.int .i64 x] rfl rfl (new1 _ _ rfl _ _) (by intro u hu; simp at hu; rw [hu]; rfl) (by unfold maxLen; omega) (by omega) (by decide) ?_; intro g cp w2 hrow hgr hn; have hn2 : w2.heap[C.nb]? = some (.cells #[.map (some C.B)] 86 (0, 0)) := (by rw [hgr.block C.nb (Nat.lt_of_lt_of_le (lt_of_block h.nbx) (Kept.alloc [] w _).size) (fun e => h.vn e.symm)]; exact (h.alloc _).nbx); have hm2 : w2.heap[C.mb]? = some (.cells #[C.v] 53 (0, 0)) := (by rw [hgr.block C.mb (Nat.lt_of_lt_of_le (lt_of_block h.mbx) (Kept.alloc [] w _).size) (fun e => h.vm e.symm)]; exact (h.alloc _).mbx); have q0 := cell_of_one hn2; have q1 := cell_of_one hm2; have q2 := free_of_one hm2; have hnm := h.nm; have hown2 := (hown.alloc (.cells #[.int .i64 x] 3)).kept hgr (fun e => hbv e.symm))
    | (at_mapUpdate; refine wpList_mapUpdate_own _ rfl _ _ _ 86 rfl 3 3 law3 Try.underlying86 _ C.B (m.length + 1) D rfl (hown2.setCell hbm _) (by unfold maxLen; omega) _ _ _ rfl rfl hkey _ [] (plainElem_int Try.underlying3 (wf64 (by omega) (by omega))) ?_; intro w3 hown3 hg3))
  go_ret
  exact ⟨rfl, _, meet_end h (by omega) hx hN hD hrow hgr (hn.imp id fun h => by simp at h; omega) hown3 hg3⟩
/-- an object is met -/
theorem cMeet {w : World} {C : Mt} {m : List Int} (h : Met w C m) (x : Int) (hx0 : 0 ≤ x) (hx1 : x ≤ 1000) (hm : m.length ≤ 1000) :
    Calls Try.prog 52 #[.int .i64 x, .pointer (some ⟨C.nb, 0, none⟩), .pointer (some ⟨C.mb, 0, none⟩)] w fun e w' => e = .returned (.int .i64 (Sh.num (Sh.add m x) x)) ∧ ∃ C', Met w' C' (Sh.add m x) ∧ StepM w C w' C' := by
  by_cases hx : x = 0 ∨ x ∈ m
  · rw [Sh.add_of_mem hx]
    refine (cMeetOld h x hx0 hx1 hx).mono ?_
    rintro e w' ⟨rfl, rfl⟩
    exact ⟨rfl, C, h, StepM.refl _ _⟩
  · simp only [not_or] at hx
    rw [Sh.add_of_not hx.1 hx.2, Sh.num_new hx.1 hx.2]
    exact cMeetNew h x (by omega) hx1 hm hx.2
end Go.Proofs.Ytbihdkdefopijaa
