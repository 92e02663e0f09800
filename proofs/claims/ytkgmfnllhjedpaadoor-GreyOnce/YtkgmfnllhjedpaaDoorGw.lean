/-
  Three threads that shade and one that takes, as GreyOnce has them: where their machines lie.
-/
import Derived.Test.YtkgmfnllhjedpaaDoorGy
import Derived.Test.YtkgmfnllhjedpaaDoorWf
namespace Go.Proofs.YtkgmfnllhjedpaaDoor
set_option linter.unusedVariables false
set_option maxRecDepth 100000
open Go.ChangeShapes Go.WideShapes Go.RowKit

structure Sp (w0 w : World) (SB : Nat) (jb : Nat → Option ShadeS) (pp : Nat → Nat) : Prop where
  sb : ∃ cs, Blk w0 w SB 29 cs ∧ cs.size = 3 ∧ ∀ j, j < 3 → cs[j]? = some (sc jb pp j)
  mach : ∀ j, j < 3 → ∀ y, jb j = some y → Blk w0 w (pp j) 76 y.cells
  apart : ∀ i, i < 3 → ∀ j, j < 3 → i ≠ j → ∀ y y', jb i = some y → jb j = some y' → pp i ≠ pp j
section
variable {w0 w w' w1 w2 : World} {SB j q : Nat} {jb : Nat → Option ShadeS} {pp : Nat → Nat} {T : TypeId} {cs : Array Value} {y y' : ShadeS} {o : Option ShadeS}
theorem Sp.oth1 (h : Sp w0 w SB jb pp) (o : Oth [q] w w') (hq : Blk w0 w q T cs) (hT : T ∉ [29, 76]) : Sp w0 w' SB jb pp := by
  simp only [List.mem_cons, List.not_mem_nil, or_false, not_or] at hT
  obtain ⟨n1, n3⟩ := hT
  obtain ⟨⟨c1, h1, s1, e1⟩, h3, h4⟩ := h
  exact ⟨⟨c1, h1.oth o (hq.off h1 (Ne.symm n1)), s1, e1⟩, fun j hj y e => (h3 j hj y e).oth o (hq.off (h3 j hj y e) (Ne.symm n3)), h4⟩
theorem Sp.below (h : Sp w0 w SB jb pp) (hb : Below w.heap.size w w') : Sp w0 w' SB jb pp := by
  obtain ⟨⟨c1, h1, s1, e1⟩, h3, h4⟩ := h
  exact ⟨⟨c1, h1.below hb, s1, e1⟩, fun j hj y e => (h3 j hj y e).below hb, h4⟩
theorem Sp.cell (h : Sp w0 w SB jb pp) (hj : j < 3) : w.cell? ⟨SB, j, none⟩ = some (sc jb pp j) ∧ w.frozen? ⟨SB, j, none⟩ = false := by
  obtain ⟨c1, h1, s1, e1⟩ := h.sb
  exact ⟨(h1.cell j).trans (e1 j hj), h1.free j⟩
/-- one has stepped, and goes on -/
theorem Sp.step (h : Sp w0 w SB jb pp) (hj : j < 3) (e : jb j = some y) (o1 : Oth [pp j] w w1) (X1 : Blk w0 w1 (pp j) 76 y'.cells) : Sp w0 w1 SB (upd jb j (some y')) pp := by
  have a := h.mach j hj y e
  obtain ⟨c1, h1, s1, e1⟩ := h.sb
  have f : ∀ i u, upd jb j (some y') i = some u → ∃ u0, jb i = some u0 := fun i u hu => by
    by_cases q : i = j
    · subst q; exact ⟨y, e⟩
    · rw [upd_other jb _ q] at hu; exact ⟨u, hu⟩
  refine ⟨⟨c1, h1.oth o1 (a.off h1 (by decide)), s1, fun i hi => ?_⟩, fun i hi u hu => ?_, fun i hi k hk hik u u' hu hu' => ?_⟩
  · rw [e1 i hi]
    by_cases q : i = j
    · subst q; rw [sc_some e, sc_some (upd_same jb i (some y'))]
    · unfold sc; rw [upd_other jb _ q]
  · by_cases q : i = j
    · subst q
      rw [upd_same] at hu
      obtain rfl := Option.some.inj hu
      exact X1
    · rw [upd_other jb _ q] at hu
      exact (h.mach i hi u hu).oth o1 (by simpa using h.apart i hi j hj q u y hu e)
  · obtain ⟨u0, e0⟩ := f i u hu
    obtain ⟨u1, e1'⟩ := f k u' hu'
    exact h.apart i hi k hk hik u0 u1 e0 e1'
/-- one is done: its place is cleared -/
theorem Sp.clear (h : Sp w0 w SB jb pp) (hj : j < 3) : Sp w0 (w.setCell ⟨SB, j, none⟩ (.pointer none)) SB (upd jb j none) pp := by
  obtain ⟨c1, h1, s1, e1⟩ := h.sb
  have o : Oth [SB] w (w.setCell ⟨SB, j, none⟩ (.pointer none)) := Oth.set _ _ _ _ (by simp)
  have f : ∀ i u, upd jb j none i = some u → i ≠ j ∧ jb i = some u := fun i u hu => by
    by_cases q : i = j
    · subst q; rw [upd_same] at hu; cases hu
    · rw [upd_other jb _ q] at hu; exact ⟨q, hu⟩
  refine ⟨⟨_, h1.set j _, by simp [s1], fun i hi => ?_⟩, fun i hi u hu => ?_, fun i hi k hk hik u u' hu hu' => h.apart i hi k hk hik u u' (f i u hu).2 (f k u' hu').2⟩
  · rw [Array.getElem?_setIfInBounds]
    by_cases q : i = j
    · subst q; rw [sc_none (upd_same jb i none)]; simp [s1, hi]
    · rw [if_neg (Ne.symm q), e1 i hi]; unfold sc; rw [upd_other jb _ q]
  · have a' := h.mach i hi u (f i u hu).2
    exact a'.oth o (h1.off a' (by decide))
theorem upd_upd {α : Type} (f : Nat → α) (k : Nat) (a b : α) : upd (upd f k a) k b = upd f k b := by
  funext i
  by_cases q : i = k
  · subst q; rw [upd_same, upd_same]
  · rw [upd_other _ _ q, upd_other _ _ q, upd_other _ _ q]
/-- one begins -/
theorem Sp.start (h : Sp w0 w SB jb pp) (hj : j < 3) (e : jb j = none) (hs : w0.heap.size ≤ w.heap.size) {p : Nat} (hp : w.heap.size = p) (M : Made w w1 76 y.cells) :
    Sp w0 (w1.setCell ⟨SB, j, none⟩ (ptr p)) SB (upd jb j (some y)) (upd pp j p) := by
  have X1 := M.blk' hs (by decide)
  have h1' := h.below M.bel
  have lt : ∀ i, i < 3 → ∀ u, jb i = some u → pp i < w.heap.size := fun i hi u hu => (h.mach i hi u hu).lt
  rw [hp] at X1 lt
  obtain ⟨c1, h1, s1, e1⟩ := h1'.sb
  have o : Oth [SB] w1 (w1.setCell ⟨SB, j, none⟩ (ptr p)) := Oth.set _ _ _ _ (by simp)
  refine ⟨⟨_, h1.set j (ptr p), by simp [s1], fun i hi => ?_⟩, fun i hi u hu => ?_, fun i hi k hk hik u u' hu hu' => ?_⟩
  · rw [Array.getElem?_setIfInBounds]
    by_cases r : i = j
    · subst r; rw [sc_some (upd_same jb i _), upd_same]; simp [s1, hi]; rfl
    · rw [if_neg (Ne.symm r), e1 i hi]; unfold sc; rw [upd_other jb _ r, upd_other pp _ r]
  · by_cases r : i = j
    · subst r
      rw [upd_same] at hu
      obtain rfl := Option.some.inj hu
      rw [upd_same]
      exact X1.oth o (h1.off X1 (by decide))
    · rw [upd_other jb _ r] at hu
      rw [upd_other pp _ r]
      have a' := h1'.mach i hi u hu
      exact a'.oth o (h1.off a' (by decide))
  · by_cases r : i = j
    · by_cases r2 : k = j
      · omega
      · subst r
        rw [upd_other jb _ r2] at hu'
        rw [upd_same, upd_other pp _ r2]
        have := lt k hk u' hu'
        omega
    · by_cases r2 : k = j
      · subst r2
        rw [upd_other jb _ r] at hu
        rw [upd_same, upd_other pp _ r]
        have := lt i hi u hu
        omega
      · rw [upd_other jb _ r] at hu
        rw [upd_other jb _ r2] at hu'
        rw [upd_other pp _ r, upd_other pp _ r2]
        exact h.apart i hi k hk hik u u' hu hu'
end
/-- the two rows of truths -/
structure Rows2 (w0 w : World) (AB TL : Nat) (f g : Nat → Bool) : Prop where
  a : Blk w0 w AB 50 (bl 160 f)
  t : Blk w0 w TL 50 (bl 160 g)
  ne : AB ≠ TL
section
variable {w0 w w' : World} {AB TL q i : Nat} {f g : Nat → Bool} {T : TypeId} {cs : Array Value}
theorem Rows2.oth1 (h : Rows2 w0 w AB TL f g) (o : Oth [q] w w') (hq : Blk w0 w q T cs) (hT : T ≠ 50) : Rows2 w0 w' AB TL f g := ⟨h.a.oth o (hq.off h.a (Ne.symm hT)), h.t.oth o (hq.off h.t (Ne.symm hT)), h.ne⟩
theorem Rows2.below (h : Rows2 w0 w AB TL f g) (hb : Below w.heap.size w w') : Rows2 w0 w' AB TL f g := ⟨h.a.below hb, h.t.below hb, h.ne⟩
theorem Rows2.setA (h : Rows2 w0 w AB TL f g) (i : Nat) : Rows2 w0 (w.setCell ⟨AB, i, none⟩ (.bool true)) AB TL (fun k => if k = i then true else f k) g :=
  ⟨by rw [← bl_set]; exact h.a.set i _, h.t.oth (Oth.set _ _ _ _ (by simp : AB ∈ [AB])) (by simpa using (Ne.symm h.ne)), h.ne⟩
theorem Rows2.setT (h : Rows2 w0 w AB TL f g) (i : Nat) : Rows2 w0 (w.setCell ⟨TL, i, none⟩ (.bool true)) AB TL f (fun k => if k = i then true else g k) :=
  ⟨h.a.oth (Oth.set _ _ _ _ (by simp : TL ∈ [TL])) (by simpa using h.ne), by rw [← bl_set]; exact h.t.set i _, h.ne⟩
theorem Rows2.ca (h : Rows2 w0 w AB TL f g) (hi : i < 160) : w.cell? ⟨AB, i, none⟩ = some (.bool (f i)) ∧ w.frozen? ⟨AB, i, none⟩ = false := ⟨(h.a.cell i).trans (bl_at f hi), h.a.free i⟩
theorem Rows2.ct (h : Rows2 w0 w AB TL f g) (hi : i < 160) : w.cell? ⟨TL, i, none⟩ = some (.bool (g i)) ∧ w.frozen? ⟨TL, i, none⟩ = false := ⟨(h.t.cell i).trans (bl_at g hi), h.t.free i⟩
end
/-- when the picks are over, and it is the first one's turn -/
def over (len : Nat) : Nat := if len < 300 then 4 * ((len + 3) / 4) else 300
theorem over_b (len : Nat) : over len ≤ 300 ∧ over len % 4 = 0 ∧ ∀ i, over len ≤ i → ¬ (i < len ∧ i < 300) := by
  unfold over
  split
  · exact ⟨by omega, by omega, fun i hi h => by omega⟩
  · exact ⟨by omega, by omega, fun i hi h => by omega⟩
structure Ph (len i : Nat) (s : St) (jb : Nat → Option ShadeS) (x : NextS) (ow : Int → Nat) : Prop where
  gone : ∀ j, j < 3 → Gone jb ow j
  lv : over len ≤ i → Lv s jb x ow (i - over len) (i % 4)
section
variable {len i : Nat} {s s' : St} {jb jb' : Nat → Option ShadeS} {x x' : NextS} {l l' : List Int} {v v' : Nat} {ow ow' : Int → Nat} {f g f' g' : Nat → Bool} {y y' : ShadeS} {k : Nat}
theorem Ph.next (h' : Gi s' jb' x' l' v' ow' f' g') (hg : ∀ j, j < 3 → Gone jb' ow' j) (hl : over len ≤ i → ∃ k', (i + 1) % 4 = k' ∧ Lv s' jb' x' ow' (i - over len + 1) k') : Ph len (i + 1) s' jb' x' ow' := by
  refine ⟨hg, fun hi => ?_⟩
  by_cases e : over len ≤ i
  · obtain ⟨k', hk, hv⟩ := hl e
    rw [hk, show i + 1 - over len = i - over len + 1 by omega]
    exact hv
  · have e1 : i + 1 = over len := by omega
    have := (over_b len).2.1
    rw [e1, Nat.sub_self, this]
    exact Lv.start h' hg
/-- a thread with nothing to do, behind the picks -/
theorem Ph.idle (h : Ph len i s jb x ow) (H : Gi s jb x l v ow f g) (hk : i % 4 = k) (hk3 : k < 3) (e : jb k = none) : Ph len (i + 1) s jb x ow :=
  Ph.next H h.gone fun hi => ⟨k + 1, by omega, (by have := h.lv hi; rw [hk] at this; exact this.idle H hk3 e)⟩
theorem Ph.shade (h : Ph len i s jb x ow) (H : Gi s jb x l v ow f g) (hk : over len ≤ i → i % 4 = k) (hk3 : k < 3) (e : jb k = some y) (D : Did s jb x v ow f g k y s' y' l' v' ow') : Ph len (i + 1) s' (upd jb k (keepS y')) x ow' :=
  Ph.next D.gi (fun j hj => by
    by_cases q : j = k
    · subst q; exact D.gone
    · exact D.gones j q (h.gone j hj)) fun hi => ⟨k + 1, by have := hk hi; omega, (by have := h.lv hi; rw [hk hi] at this; exact this.shade H hk3 e D)⟩
theorem Ph.took (h : Ph len i s jb x ow) (H : Gi s jb x l v ow f g) (hk : over len ≤ i → i % 4 = 3) (D : Took s jb x l v ow f g s' x' l' v' ow' g') : Ph len (i + 1) s' jb (keepN x') ow' :=
  Ph.next D.gi (fun j hj => D.gones j (h.gone j hj)) fun hi => ⟨0, by have := hk hi; omega, (by have := h.lv hi; rw [hk hi] at this; exact this.took H D)⟩
/-- one begins and steps, among the picks -/
theorem Ph.begin (h : Ph len i s jb x ow) (hi : i < len ∧ i < 300) (hk3 : k < 3) (D : Did s (upd jb k (some y)) x v ow f g k y s' y' l' v' ow') : Ph len (i + 1) s' (upd jb k (keepS y')) x ow' := by
  have e : upd (upd jb k (some y)) k (keepS y') = upd jb k (keepS y') := upd_upd _ _ _ _
  have gi := D.gi
  have go := D.gone
  rw [e] at gi go
  refine Ph.next gi (fun j hj => ?_) fun hi' => absurd hi ((over_b len).2.2 i hi')
  by_cases q : j = k
  · subst q; exact go
  · have := D.gones j q (fun z hz => h.gone j hj z (by rw [upd_other jb _ q] at hz; exact hz))
    rw [e] at this
    exact this
end
theorem gi_zero : Gi (laidSt 16) (fun _ => none) NextS.new [] 0 (fun _ => 0) (fun _ => false) (fun _ => false) where
  co := ⟨laid_len, laid_t, by rw [laid_one]; rfl, trivial, fun _ h => by simp at h, List.nodup_nil, fun a _ => by simp, fun a ha _ => laid_base.objs a ha, fun a _ h => absurd rfl h⟩
  sh := fun j _ y e => by cases e
  nx := Nx.new _ _ _ _
  nok := NextS.ok_new
  cl := fun a _ j _ e => by omega
  hd := fun a _ e => by omega
  le := fun a _ => by omega
  asked := fun a _ => by simp
  told := fun a _ => by simp
theorem ph_zero (len : Nat) : Ph len 0 (laidSt 16) (fun _ => none) NextS.new (fun _ => 0) := ⟨(fun j _ y e => by cases e), fun h => by rw [Nat.zero_sub]; exact Lv.start gi_zero (fun j _ y e => by cases e)⟩
end Go.Proofs.YtkgmfnllhjedpaaDoor
