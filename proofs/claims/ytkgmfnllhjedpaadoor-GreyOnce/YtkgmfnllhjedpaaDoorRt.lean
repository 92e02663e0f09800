/-
  Three threads that shade and one that takes, the program's and the reference's: where their machines lie.
-/
import Derived.Test.YtkgmfnllhjedpaaDoorGs
namespace Go.Proofs.YtkgmfnllhjedpaaDoor
set_option linter.unusedVariables false
set_option maxRecDepth 100000
open Go.ChangeShapes Go.WideShapes Go.RowKit

def ptr (p : Nat) : Value := .pointer (some ⟨p, 0, none⟩)
def sc (jb : Nat → Option ShadeS) (pp : Nat → Nat) (j : Nat) : Value := match jb j with | some _ => ptr (pp j) | none => .pointer none
theorem sc_some {jb : Nat → Option ShadeS} {pp : Nat → Nat} {j : Nat} {y : ShadeS} (h : jb j = some y) : sc jb pp j = .pointer (some ⟨pp j, 0, none⟩) := by unfold sc; rw [h]; rfl
theorem sc_none {jb : Nat → Option ShadeS} {pp : Nat → Nat} {j : Nat} (h : jb j = none) : sc jb pp j = .pointer none := by unfold sc; rw [h]
def upd {α : Type} (f : Nat → α) (k : Nat) (v : α) : Nat → α := fun j => if j = k then v else f j
theorem upd_same {α : Type} (f : Nat → α) (k : Nat) (v : α) : upd f k v k = v := by simp [upd]
theorem upd_other {α : Type} (f : Nat → α) {k j : Nat} (v : α) (h : j ≠ k) : upd f k v j = f j := by simp [upd, h]
/-- the threads that shade -/
structure Sq (w0 w : World) (SB TB : Nat) (jb : Nat → Option ShadeS) (pp rr : Nat → Nat) : Prop where
  sb : ∃ cs, Blk w0 w SB 29 cs ∧ cs.size = 3 ∧ ∀ j, j < 3 → cs[j]? = some (sc jb pp j)
  tb : ∃ cs, Blk w0 w TB 31 cs ∧ cs.size = 3 ∧ ∀ j, j < 3 → ∀ y, jb j = some y → cs[j]? = some (ptr (rr j))
  mach : ∀ j, j < 3 → ∀ y, jb j = some y → Blk w0 w (pp j) 76 y.cells ∧ y.Ok ∧ ∃ h z, Blk w0 w (rr j) 78 (y.rcells h z) ∧ y.Rf h z
  apart : ∀ i, i < 3 → ∀ j, j < 3 → i ≠ j → ∀ y y', jb i = some y → jb j = some y' → pp i ≠ pp j ∧ rr i ≠ rr j
/-- the one that takes -/
structure Nq (w0 w : World) (pn rn : Nat) (x : NextS) : Prop where
  p : Blk w0 w pn 68 x.cells
  r : Blk w0 w rn 45 x.cells
  ok : x.Ok
theorem ShadeS.len {x : ShadeS} {s : St} (h : x.Ok) : (x.mem s).ws.length = s.ws.length := by
  obtain ⟨c, m, pc, z, hd, l⟩ := x
  rcases pc_cases5 h.pc with rfl | rfl | rfl | rfl | rfl | rfl
  · rfl
  · rfl
  · exact St.n_cas _ _ _ _
  · rfl
  · exact St.n_store _ _ _
  · exact St.n_cas _ _ _ _
theorem NextS.len {x : NextS} {s : St} (h : x.Ok) : (x.mem s).ws.length = s.ws.length := by
  obtain ⟨pc, l, hd, c, k⟩ := x
  rcases pc_cases4 h.pc with rfl | rfl | rfl | rfl | rfl
  · rfl
  · rfl
  · rfl
  · exact St.n_cas _ _ _ _
  · exact St.n_store _ _ _
section
variable {w0 w w' w1 w2 : World} {SB TB pn rn j q : Nat} {jb : Nat → Option ShadeS} {pp rr : Nat → Nat} {x : NextS} {T : TypeId} {cs : Array Value} {y y' : ShadeS}
theorem Blk.off (h : Blk w0 w q T cs) {p : Nat} {T' : TypeId} {cs' : Array Value} (h' : Blk w0 w p T' cs') (hT : T' ≠ T) : p ∉ [q] := by simpa using h'.ne h hT
theorem Sq.oth1 (h : Sq w0 w SB TB jb pp rr) (o : Oth [q] w w') (hq : Blk w0 w q T cs) (hT : T ∉ [29, 31, 76, 78]) : Sq w0 w' SB TB jb pp rr := by
  simp only [List.mem_cons, List.not_mem_nil, or_false, not_or] at hT
  obtain ⟨n1, n2, n3, n4⟩ := hT
  obtain ⟨⟨c1, h1, s1, e1⟩, ⟨c2, h2, s2, e2⟩, h3, h4⟩ := h
  refine ⟨⟨c1, h1.oth o (hq.off h1 (Ne.symm n1)), s1, e1⟩, ⟨c2, h2.oth o (hq.off h2 (Ne.symm n2)), s2, e2⟩, fun j hj y e => ?_, h4⟩
  obtain ⟨a, b, g, z, c, d⟩ := h3 j hj y e
  exact ⟨a.oth o (hq.off a (Ne.symm n3)), b, g, z, c.oth o (hq.off c (Ne.symm n4)), d⟩
theorem Sq.below (h : Sq w0 w SB TB jb pp rr) (hb : Below w.heap.size w w') : Sq w0 w' SB TB jb pp rr := by
  obtain ⟨⟨c1, h1, s1, e1⟩, ⟨c2, h2, s2, e2⟩, h3, h4⟩ := h
  refine ⟨⟨c1, h1.below hb, s1, e1⟩, ⟨c2, h2.below hb, s2, e2⟩, fun j hj y e => ?_, h4⟩
  obtain ⟨a, b, g, z, c, d⟩ := h3 j hj y e
  exact ⟨a.below hb, b, g, z, c.below hb, d⟩
theorem Nq.oth1 (h : Nq w0 w pn rn x) (o : Oth [q] w w') (hq : Blk w0 w q T cs) (hT : T ∉ [68, 45]) : Nq w0 w' pn rn x := by
  simp only [List.mem_cons, List.not_mem_nil, or_false, not_or] at hT
  exact ⟨h.p.oth o (hq.off h.p (Ne.symm hT.1)), h.r.oth o (hq.off h.r (Ne.symm hT.2)), h.ok⟩
theorem Nq.below (h : Nq w0 w pn rn x) (hb : Below w.heap.size w w') : Nq w0 w' pn rn x := ⟨h.p.below hb, h.r.below hb, h.ok⟩
theorem Sq.cell (h : Sq w0 w SB TB jb pp rr) (hj : j < 3) : w.cell? ⟨SB, j, none⟩ = some (sc jb pp j) ∧ w.frozen? ⟨SB, j, none⟩ = false := by
  obtain ⟨c1, h1, s1, e1⟩ := h.sb
  exact ⟨(h1.cell j).trans (e1 j hj), h1.free j⟩
theorem Sq.tcell (h : Sq w0 w SB TB jb pp rr) (hj : j < 3) (e : jb j = some y) : w.cell? ⟨TB, j, none⟩ = some (.pointer (some ⟨rr j, 0, none⟩)) := by
  obtain ⟨c2, h2, s2, e2⟩ := h.tb
  exact (h2.cell j).trans (e2 j hj y e)
theorem Sq.tany (h : Sq w0 w SB TB jb pp rr) (hj : j < 3) : ∃ v, w.cell? ⟨TB, j, none⟩ = some v ∧ w.frozen? ⟨TB, j, none⟩ = false := by
  obtain ⟨c2, h2, s2, e2⟩ := h.tb
  exact ⟨c2[j]'(by omega), (h2.cell j).trans (Array.getElem?_eq_getElem (by omega)), h2.free j⟩
/-- one of them has stepped, here and there -/
theorem Sq.half (h : Sq w0 w SB TB jb pp rr) (hj : j < 3) (e : jb j = some y) (o1 : Oth [pp j] w w1) : w1.cell? ⟨TB, j, none⟩ = some (.pointer (some ⟨rr j, 0, none⟩)) ∧ ∃ g z, Blk w0 w1 (rr j) 78 (y.rcells g z) ∧ y.Rf g z := by
  obtain ⟨a, b, g, z, c, d⟩ := h.mach j hj y e
  obtain ⟨c2, h2, s2, e2⟩ := h.tb
  exact ⟨((h2.oth o1 (a.off h2 (by decide))).cell j).trans (e2 j hj y e), g, z, c.oth o1 (a.off c (by decide)), d⟩
theorem Sq.step (h : Sq w0 w SB TB jb pp rr) (hj : j < 3) (e : jb j = some y) (o1 : Oth [pp j] w w1) (X1 : Blk w0 w1 (pp j) 76 y'.cells) (o2 : Oth [rr j] w1 w2) {g : Hd} {z : Int} (Y2 : Blk w0 w2 (rr j) 78 (y'.rcells g z)) (ok : y'.Ok) (rf : y'.Rf g z) : Sq w0 w2 SB TB (upd jb j (some y')) pp rr := by
  obtain ⟨a, b, g0, z0, c, d⟩ := h.mach j hj y e
  obtain ⟨c1, h1, s1, e1⟩ := h.sb
  obtain ⟨c2, h2, s2, e2⟩ := h.tb
  have R1 := c.oth o1 (a.off c (by decide))
  have k1 := h1.oth o1 (a.off h1 (by decide))
  have k2 := h2.oth o1 (a.off h2 (by decide))
  refine ⟨⟨c1, k1.oth o2 (R1.off k1 (by decide)), s1, fun i hi => ?_⟩, ⟨c2, k2.oth o2 (R1.off k2 (by decide)), s2, fun i hi u hu => ?_⟩, fun i hi u hu => ?_, fun i hi k hk hik u u' hu hu' => ?_⟩
  · rw [e1 i hi]
    by_cases q : i = j
    · subst q; rw [sc_some e, sc_some (upd_same jb i (some y'))]
    · unfold sc; rw [upd_other jb _ q]
  · by_cases q : i = j
    · subst q; exact e2 i hi y e
    · rw [upd_other jb _ q] at hu; exact e2 i hi u hu
  · by_cases q : i = j
    · subst q
      rw [upd_same] at hu
      obtain rfl := Option.some.inj hu
      exact ⟨X1.oth o2 (R1.off X1 (by decide)), ok, g, z, Y2, rf⟩
    · rw [upd_other jb _ q] at hu
      obtain ⟨a', b', g', z', c', d'⟩ := h.mach i hi u hu
      have ap := h.apart i hi j hj q u y hu e
      have a1 := a'.oth o1 (by simpa using ap.1)
      have c1' := c'.oth o1 (a.off c' (by decide))
      exact ⟨a1.oth o2 (R1.off a1 (by decide)), b', g', z', c1'.oth o2 (by simpa using ap.2), d'⟩
  · have f : ∀ i u, i < 3 → upd jb j (some y') i = some u → ∃ u0, jb i = some u0 := fun i u hi hu => by
      by_cases q : i = j
      · subst q; exact ⟨y, e⟩
      · rw [upd_other jb _ q] at hu; exact ⟨u, hu⟩
    obtain ⟨u0, e0⟩ := f i u hi hu
    obtain ⟨u1, e1'⟩ := f k u' hk hu'
    exact h.apart i hi k hk hik u0 u1 e0 e1'
/-- one of them is done -/
theorem Sq.clear (h : Sq w0 w SB TB jb pp rr) (hj : j < 3) : Sq w0 (w.setCell ⟨SB, j, none⟩ (.pointer none)) SB TB (upd jb j none) pp rr := by
  obtain ⟨c1, h1, s1, e1⟩ := h.sb
  obtain ⟨c2, h2, s2, e2⟩ := h.tb
  have o : Oth [SB] w (w.setCell ⟨SB, j, none⟩ (.pointer none)) := Oth.set _ _ _ _ (by simp)
  have f : ∀ i u, upd jb j none i = some u → i ≠ j ∧ jb i = some u := fun i u hu => by
    by_cases q : i = j
    · subst q; rw [upd_same] at hu; cases hu
    · rw [upd_other jb _ q] at hu; exact ⟨q, hu⟩
  refine ⟨⟨_, h1.set j _, by simp [s1], fun i hi => ?_⟩, ⟨c2, h2.oth o (h1.off h2 (by decide)), s2, fun i hi u hu => e2 i hi u (f i u hu).2⟩, fun i hi u hu => ?_, fun i hi k hk hik u u' hu hu' => h.apart i hi k hk hik u u' (f i u hu).2 (f k u' hu').2⟩
  · rw [Array.getElem?_setIfInBounds]
    by_cases q : i = j
    · subst q; rw [sc_none (upd_same jb i none)]; simp [s1, hi]
    · rw [if_neg (Ne.symm q), e1 i hi]; unfold sc; rw [upd_other jb _ q]
  · obtain ⟨a', b', g', z', c', d'⟩ := h.mach i hi u (f i u hu).2
    exact ⟨a'.oth o (h1.off a' (by decide)), b', g', z', c'.oth o (h1.off c' (by decide)), d'⟩
/-- one of them begins: the machine here -/
theorem Sq.begin1 (h : Sq w0 w SB TB jb pp rr) (hj : j < 3) (M : Made w w1 76 y.cells) (hs : w0.heap.size ≤ w.heap.size) :
    ∃ c1 c2, Blk w0 w1 SB 29 c1 ∧ Blk w0 w1 TB 31 c2 ∧ w1.cell? ⟨SB, j, none⟩ = some (sc jb pp j) ∧ w1.frozen? ⟨SB, j, none⟩ = false := by
  have h' := h.below M.bel
  obtain ⟨c1, h1, s1, e1⟩ := h'.sb
  obtain ⟨c2, h2, s2, e2⟩ := h'.tb
  exact ⟨c1, c2, h1, h2, (h1.cell j).trans (e1 j hj), h1.free j⟩
theorem Sq.start (h : Sq w0 w SB TB jb pp rr) (hj : j < 3) (e : jb j = none) (hs : w0.heap.size ≤ w.heap.size) {a m : Int} {p q : Nat} (hp : w.heap.size = p) (M1 : Made w w1 76 (ShadeS.new a m).cells) (hq : (w1.setCell ⟨SB, j, none⟩ (ptr p)).heap.size = q)
    (M2 : Made (w1.setCell ⟨SB, j, none⟩ (ptr p)) w2 78 ((ShadeS.new a m).rcells Hd.zero 0)) :
    Sq w0 (w2.setCell ⟨TB, j, none⟩ (ptr q)) SB TB (upd jb j (some (ShadeS.new a m))) (upd pp j p) (upd rr j q) := by
  have X1 := M1.blk' hs (by decide)
  have h1' := h.below M1.bel
  have lt : ∀ i, i < 3 → ∀ u, jb i = some u → pp i < w.heap.size ∧ rr i < w.heap.size := fun i hi u hu => by
    obtain ⟨a', b', g', z', c', d'⟩ := h.mach i hi u hu
    exact ⟨a'.lt, c'.lt⟩
  rw [hp] at X1 hs lt
  obtain ⟨c1, h1, s1, e1⟩ := h1'.sb
  obtain ⟨c2, h2, s2, e2⟩ := h1'.tb
  have o : Oth [SB] w1 (w1.setCell ⟨SB, j, none⟩ (ptr p)) := Oth.set _ _ _ _ (by simp)
  have X2 := X1.oth o (h1.off X1 (by decide))
  have B1 := h1.set j (ptr p)
  have B2 := h2.oth o (h1.off h2 (by decide))
  have sz1 : (w1.setCell ⟨SB, j, none⟩ (ptr p)).heap.size = w1.heap.size := by simp [go_sem]
  have le1 := M1.bel.size
  have old : ∀ i, i < 3 → ∀ u, jb i = some u → Blk w0 (w1.setCell ⟨SB, j, none⟩ (ptr p)) (pp i) 76 u.cells ∧ u.Ok ∧ ∃ g z, Blk w0 (w1.setCell ⟨SB, j, none⟩ (ptr p)) (rr i) 78 (u.rcells g z) ∧ u.Rf g z := fun i hi u hu => by
    obtain ⟨a', b', g', z', c', d'⟩ := h1'.mach i hi u hu
    exact ⟨a'.oth o (h1.off a' (by decide)), b', g', z', c'.oth o (h1.off c' (by decide)), d'⟩
  have ok := ShadeS.ok_new a m
  have X1lt := X1.lt
  have hs1 : w0.heap.size ≤ (w1.setCell ⟨SB, j, none⟩ (ptr p)).heap.size := by rw [sz1]; exact Nat.le_trans hs (by rw [← hp]; exact le1)
  generalize w1.setCell ⟨SB, j, none⟩ (ptr p) = wa at M2 X2 B1 B2 sz1 old hs1 hq ⊢
  have Y1 := M2.blk' hs1 (by decide)
  have C1 := B1.below M2.bel
  have C2 := B2.below M2.bel
  have X3 := X2.below M2.bel
  have old2 := fun i hi u hu => (old i hi u hu)
  rw [hq] at Y1
  have o2 : Oth [TB] w2 (w2.setCell ⟨TB, j, none⟩ (ptr q)) := Oth.set _ _ _ _ (by simp)
  refine ⟨⟨_, C1.oth o2 (C2.off C1 (by decide)), by simp [s1], fun i hi => ?_⟩, ⟨_, C2.set j (ptr q), by simp [s2], fun i hi u hu => ?_⟩, fun i hi u hu => ?_, fun i hi k hk hik u u' hu hu' => ?_⟩
  · rw [Array.getElem?_setIfInBounds]
    by_cases r : i = j
    · subst r; rw [sc_some (upd_same jb i _), upd_same]; simp [s1, hi]; rfl
    · rw [if_neg (Ne.symm r), e1 i hi]; unfold sc; rw [upd_other jb _ r, upd_other pp _ r]
  · rw [Array.getElem?_setIfInBounds]
    by_cases r : i = j
    · subst r; rw [upd_same]; simp [s2, hi]
    · rw [if_neg (Ne.symm r), upd_other rr _ r]; rw [upd_other jb _ r] at hu; exact e2 i hi u hu
  · by_cases r : i = j
    · subst r
      rw [upd_same] at hu
      obtain rfl := Option.some.inj hu
      rw [upd_same, upd_same]
      exact ⟨X3.oth o2 (C2.off X3 (by decide)), ok, _, _, Y1.oth o2 (C2.off Y1 (by decide)), ⟨U64.zero, fun h => by simp only [ShadeS.new] at h; split at h <;> omega, fun h => by simp only [ShadeS.new] at h; split at h <;> omega, fun h => by simp only [ShadeS.new] at h; split at h <;> omega⟩⟩
    · rw [upd_other jb _ r] at hu
      rw [upd_other pp _ r, upd_other rr _ r]
      obtain ⟨a', b', g', z', c', d'⟩ := old i hi u hu
      have a2 := a'.below M2.bel
      have c2' := c'.below M2.bel
      exact ⟨a2.oth o2 (C2.off a2 (by decide)), b', g', z', c2'.oth o2 (C2.off c2' (by decide)), d'⟩
  · by_cases r : i = j
    · by_cases r2 : k = j
      · omega
      · subst r
        rw [upd_other jb _ r2] at hu'
        rw [upd_same, upd_same, upd_other pp _ r2, upd_other rr _ r2]
        have := lt k hk u' hu'
        omega
    · by_cases r2 : k = j
      · subst r2
        rw [upd_other jb _ r] at hu
        rw [upd_same, upd_same, upd_other pp _ r, upd_other rr _ r]
        have := lt i hi u hu
        omega
      · rw [upd_other jb _ r] at hu
        rw [upd_other jb _ r2] at hu'
        rw [upd_other pp _ r, upd_other rr _ r, upd_other pp _ r2, upd_other rr _ r2]
        exact h.apart i hi k hk hik u u' hu hu'
/-- what is written on the way -/
theorem Sq.begin2 (h : Sq w0 w SB TB jb pp rr) (hj : j < 3) {p : Nat} (M1 : Made w w1 T cs) {T2 : TypeId} {cs2 : Array Value} (M2 : Made (w1.setCell ⟨SB, j, none⟩ (ptr p)) w2 T2 cs2) : ∃ c1 c2 v, Blk w0 w1 SB 29 c1 ∧ Blk w0 w2 TB 31 c2 ∧ w2.cell? ⟨TB, j, none⟩ = some v ∧ w2.frozen? ⟨TB, j, none⟩ = false := by
  have h' := h.below M1.bel
  obtain ⟨c1, h1, s1, e1⟩ := h'.sb
  obtain ⟨c2, h2, s2, e2⟩ := h'.tb
  have o : Oth [SB] w1 (w1.setCell ⟨SB, j, none⟩ (ptr p)) := Oth.set _ _ _ _ (by simp)
  have B2 := (h2.oth o (h1.off h2 (by decide))).below M2.bel
  exact ⟨c1, c2, _, h1, B2, (B2.cell j).trans (Array.getElem?_eq_getElem (by omega)), B2.free j⟩
end
end Go.Proofs.YtkgmfnllhjedpaaDoor
