/-
  The reference's heap while its fields are written.
-/
import Derived.Test.YtoablodmodnamaaDoorKpq
import Derived.Test.YtoablodmodnamaaDoorUbq
namespace Go.Proofs.YtoablodmodnamaaDoor
set_option linter.unusedVariables false
set_option linter.unusedSimpArgs false
set_option maxRecDepth 100000
open Go.ChangeShapes Go.WideShapes Go.RowKit
open S.Plain (t0 t1 tw nx)
open H.Plain (hw pS pC pN pM pG pT pL)
open F.Plain (kind num)

/-- objects that nobody shaded, whose fields refer to objects alone -/
structure FI (n : Nat) (l : List Ob) (f : Int → Int) : Prop where
  hdr : ∀ o ∈ l, f o.at = hw 1 o.c o.m 0 0 0 0
  fd : Fd l f
  z : Zr f
  z1 : f 1 = 0
section
variable {n e : Nat} {l : List Ob} {f : Int → Int} {o : Ob}
theorem FI.new (h : Heap n e f l) (hg : ∀ o ∈ l, o.g = 0) : FI (32 + 32 * n) l f := by
  obtain ⟨nb, fb, fk, cb, H⟩ := h
  obtain ⟨a0, a1, a9, a10, a11⟩ := H.low
  refine ⟨fun o ho => by rw [H.hdr o ho, hg o ho], fun o ho j hj h1 _ => ?_, ⟨a0, a10, a11⟩, a1⟩
  rw [H.fld o ho j hj] at h1
  exact absurd h1 (by decide)
theorem FI.put (h : FI n l f) (lo : Lo n l) (ho : o ∈ l) {j : Nat} (hj : j < o.m) {x : Int} (hx : kind x = 1 → num x ≠ 0 → ∃ r ∈ l, num x = r.at) : FI n l (upd f (o.at + 1 + j) x) := by
  have hb := lo.b o ho
  refine ⟨fun r hr => ?_, fun r hr k hk => ?_, ⟨?_, ?_, ?_⟩, ?_⟩
  · rw [upd_ne _ _ (lo.fld_ne ho hr hj).symm]; exact h.hdr r hr
  · by_cases e : r.at + 1 + (k : Int) = o.at + 1 + j
    · rw [e, upd_at]; exact hx
    · rw [upd_ne _ _ e]; exact h.fd r hr k hk
  · rw [upd_ne _ _ (by omega)]; exact h.z.1
  · rw [upd_ne _ _ (by omega)]; exact h.z.2.1
  · rw [upd_ne _ _ (by omega)]; exact h.z.2.2
  · rw [upd_ne _ _ (by omega)]; exact h.z1
end
theorem word_plain (z : Int) : kind (F.Plain.word 0 z) ≠ 1 := by unfold F.Plain.word F.Plain.kind; omega
theorem word_ref {a : Int} (h : 0 ≤ a) (h' : a ≤ 10000) : num (F.Plain.word 1 a) = a := by unfold F.Plain.word F.Plain.num; omega
theorem u64_word (k n : Int) : U64 (F.Plain.word k n) := by unfold F.Plain.word; constructor <;> omega
theorem Vw.put {n : Nat} {s : St} {f : Int → Int} (h : Vw n s f) {a : Nat} (ha : a < n) (x : Int) : Vw n (s.put a x) (upd f a x) := ⟨by simp [St.put, h.len], h.t, fun b h0 h1 => by
  rw [St.word_put (h.in_ (by omega) (by omega)) (h.in_ h0 h1)]
  unfold upd
  by_cases e : (a : Int) = b
  · rw [if_pos e, if_pos e.symm]
  · rw [if_neg e, if_neg (Ne.symm e), h.word b h0 h1]⟩
section
variable {w0 w w' : World} {y : Nat} {s s' : St} {N N' x2 p4 p7 : Nat} {c2 c4 c7 : Array Value} {v : Value} {l : List Ob} {F : List Nat}
/-- where the row of the objects lies -/
theorem Bu.rows (h : Bu w0 w y s N x2 p4 p7 c2 c4 c7 v l) : ∃ ao cap, v = .slice ao l.length cap ∧ (0 < l.length → ∃ g, ao = some ⟨g, 0, none⟩) := by
  rcases h.row.2 with ⟨h1, h2⟩ | ⟨g, cap, cur, h1, _⟩
  · exact ⟨none, 0, by rw [h1, h2], fun h => by omega⟩
  · exact ⟨_, cap, h1, fun _ => ⟨g, rfl⟩⟩
theorem Bu.rowAt (h : Bu w0 w y s N x2 p4 p7 c2 c4 c7 v l) {g cap : Nat} (hv : v = .slice (some ⟨g, 0, none⟩) l.length cap) {i : Nat} {o : Ob} (hi : l[i]? = some o) (hb : Below w.heap.size w w') : w'.cell? ⟨g, i, none⟩ = some (.int .i64 o.at) := by
  subst hv
  have hr := own_oth h.row (Oth.below hb (F := [])) (by decide) (by simp)
  obtain ⟨hlt, he⟩ := List.getElem?_eq_some_iff.1 hi
  have := hr.cellAt i (by omega)
  rw [this]
  simp [ats, he, hlt]
/-- where the words lie, and what a store straight into them does -/
theorem Bu.lies (h : Bu w0 w y s N x2 p4 p7 c2 c4 c7 v l) : ∃ g cp : Nat, (∀ w', Below w.heap.size w w' → w'.cell? ⟨y, 0, none⟩ = some (.slice (some ⟨g, 0, none⟩) s.ws.length cp) ∧ (∀ a : Nat, a < s.ws.length → w'.cell? ⟨g, a, none⟩ = some (.int .u64 (s.word a)) ∧ w'.frozen? ⟨g, a, none⟩ = false) ∧
    ∀ (a : Nat) (x : Int), U64 x → Bu w0 (w'.setCell ⟨g, a, none⟩ (.int .u64 x)) y (s.put a x) N x2 p4 p7 c2 c4 c7 v l ∧ Oth [] w' (w'.setCell ⟨g, a, none⟩ (.int .u64 x)) ∧ (w'.setCell ⟨g, a, none⟩ (.int .u64 x)).cell? ⟨y, 0, none⟩ = some (.slice (some ⟨g, 0, none⟩) s.ws.length cp)) := by
  obtain ⟨M, e, hm, hl⟩ := h.mem.at_
  refine ⟨M.g, M.cp, fun w' hb => ?_⟩
  have R : Rm w' M s := hm.below hb
  have B := h.below hb
  have c0 := R.cell0
  rw [e] at c0
  refine ⟨c0, fun a ha => ⟨?_, R.wfree a⟩, fun a x hx => ?_⟩
  · have := R.wcell a ha
    rw [this]
    simp [St.word]
  · have R' := put_cell R a x
    have st : Step w' M (w'.setCell ⟨M.g, a, none⟩ (.int .u64 x)) M := ⟨Kept.setCell M.fp _ _ _ (by simp [Loc.fp]), fun k hk => .inl hk, rfl⟩
    have o := Oth.step (F := []) R (t2m false) h.mem.fit2 st
    have Y : Y1 w0 (w'.setCell ⟨M.g, a, none⟩ (.int .u64 x)) y (s.put a x) N := ⟨⟨M, e, R', hl⟩, B.mem.bel.trans (st.kept.below hl B.mem.bel.size), h.mem.fit2.put _ _, h.mem.top2, h.mem.rng2.put _ hx, h.mem.wid⟩
    refine ⟨B.oth (F := []) Y o (by simp), o, ?_⟩
    have c1 := R'.cell0
    rw [e] at c1
    rw [c1]
    simp [St.put]
/-- the count and the rest are cleared -/
theorem Bu.reset (h : Bu w0 w y s N x2 p4 p7 c2 c4 c7 v l) (ht : s.t = 0) : (∀ i : Nat, i < 4 → (∃ u, w.cell? ⟨y, i, none⟩ = some u) ∧ w.frozen? ⟨y, i, none⟩ = false) ∧ Bu w0 ((w.setCell ⟨y, 1, none⟩ (.int .i64 0)).setCell ⟨y, 3, none⟩ (.slice none 0 0)) y ⟨s.ws, 0, 0, []⟩ N x2 p4 p7 c2 c4 c7 v l := by
  obtain ⟨M, e, hm, hl⟩ := h.mem.at_
  subst e
  refine ⟨fun i hi => ⟨?_, frozen_of_row w _ _ _ _ hm.blk⟩, ?_⟩
  · rw [cell_of_row w _ _ _ _ _ hm.blk]
    obtain rfl | rfl | rfl | rfl : i = 0 ∨ i = 1 ∨ i = 2 ∨ i = 3 := by omega
    all_goals exact ⟨_, rfl⟩
  have b1 := Go.Joins.block_setCell (i := 1) hm.blk (.int .i64 0)
  have b2 := Go.Joins.block_setCell (i := 3) b1 (.slice none 0 0)
  have k0 : ∀ (w1 : World) (i : Nat) (u : Value), Kept M.fp w1 (w1.setCell ⟨M.b, i, none⟩ u) := fun w1 i u => Kept.setCell M.fp _ _ _ (by simp [Loc.fp])
  have kk : Kept M.fp w ((w.setCell ⟨M.b, 1, none⟩ (.int .i64 0)).setCell ⟨M.b, 3, none⟩ (.slice none 0 0)) := (k0 _ _ _).trans (k0 _ _ _) fun k hk => .inl hk
  have R' : Rm ((w.setCell ⟨M.b, 1, none⟩ (.int .i64 0)).setCell ⟨M.b, 3, none⟩ (.slice none 0 0)) ⟨M.b, M.g, M.cp, .slice none 0 0⟩ ⟨s.ws, 0, 0, []⟩ := by
    refine ⟨?_, ?_, World.ownsRow_nil _ _ _ _, fun _ => rfl, hm.ht⟩
    · rw [b2]; simp [ht]
    · exact ownsRow_setCell_other (ownsRow_setCell_other hm.row (by simpa [Value.ownBlock] using Ne.symm hm.bg) _) (by simpa [Value.ownBlock] using Ne.symm hm.bg) _
  have st : Step w M ((w.setCell ⟨M.b, 1, none⟩ (.int .i64 0)).setCell ⟨M.b, 3, none⟩ (.slice none 0 0)) ⟨M.b, M.g, M.cp, .slice none 0 0⟩ := ⟨kk, fun k hk => .inl (by simp [Loc.fp, Value.ownBlock] at hk ⊢; rcases hk with h | h <;> simp [h]), rfl⟩
  have o := Oth.step (F := []) hm (t2m false) h.mem.fit2 st
  have f := h.mem.fit2
  have Y : Y1 w0 _ M.b ⟨s.ws, 0, 0, []⟩ N := ⟨⟨(⟨M.b, M.g, M.cp, .slice none 0 0⟩ : Loc), rfl, R', fun k hk => hl k (by simp [Loc.fp, Value.ownBlock] at hk ⊢; rcases hk with h | h <;> simp [h])⟩, h.mem.bel.trans (st.kept.below hl h.mem.bel.size), ⟨by simp, by simp, by simp, by simp, f.n1, f.n4⟩, by simp, h.mem.rng2, h.mem.wid⟩
  exact h.oth (F := []) Y o (by simp)
theorem Bu.ylt (h : Bu w0 w y s N x2 p4 p7 c2 c4 c7 v l) : y < w.heap.size := by
  obtain ⟨M, rfl, hm, hl⟩ := h.mem.at_
  exact hm.lt _ (by simp [Loc.fp])
theorem Vw.reset {n : Nat} {f : Int → Int} (h : Vw n s f) : Vw n ⟨s.ws, 0, 0, []⟩ f := ⟨h.len, rfl, fun a a0 a1 => h.word a a0 a1⟩
end
/-- the plan is laid down as the answer -/
abbrev puts5 (w : World) (p : Nat) (a b c d e : Value) : World := ((((w.setCell ⟨p, 0, none⟩ a).setCell ⟨p, 1, none⟩ b).setCell ⟨p, 2, none⟩ c).setCell ⟨p, 3, none⟩ d).setCell ⟨p, 4, none⟩ e
section
variable {w0 w : World} {y : Nat} {s : St} {N x2 p4 p7 : Nat} {c2 c4 c7 : Array Value} {v : Value} {l : List Ob}
theorem Bu.oth5 (h : Bu w0 w y s N x2 p4 p7 c2 c4 c7 v l) (a b c d e : Value) : Oth [p4] w (puts5 w p4 a b c d e) := ((((Oth.set _ _ _ _ (by simp)).trans (Oth.set _ _ _ _ (by simp))).trans (Oth.set _ _ _ _ (by simp))).trans (Oth.set _ _ _ _ (by simp))).trans (Oth.set _ _ _ _ (by simp))
theorem built_end (h : Bu w0 w y s N x2 p4 p7 c2 c4 c7 v l) {a b c d e : Value} : Y1 w0 (puts5 w p4 a b c d e) y s N := by
  have k : Kept [p4] w (puts5 w p4 a b c d e) := ((((Kept.setCell [p4] _ _ _ (by simp)).trans (Kept.setCell [p4] _ _ _ (by simp)) fun k hk => .inl hk).trans (Kept.setCell [p4] _ _ _ (by simp)) fun k hk => .inl hk).trans (Kept.setCell [p4] _ _ _ (by simp)) fun k hk => .inl hk).trans (Kept.setCell [p4] _ _ _ (by simp)) fun k hk => .inl hk
  exact h.mem.kept k fun k hk => by simp at hk; subst hk; exact ⟨h.b4.old, _, _, _, h.b4.hT, h.b4.at_⟩
theorem built_row (h : Bu w0 w y s N x2 p4 p7 c2 c4 c7 v l) {a b c d e : Value} : (puts5 w p4 a b c d e).ownsRow 0 3 1 v l.length (ats l) := own_oth h.row (h.oth5 a b c d e) (by decide) fun k hk hz => by
  simp only [List.mem_singleton] at hz
  subst hz
  rcases h.row.2 with ⟨rfl, _⟩ | ⟨g, cap, cur, rfl, _, hg, _⟩
  · simp [Value.ownBlock] at hk
  · simp only [Value.ownBlock, Option.some.injEq] at hk
    subst hk
    have := h.b4.at_
    rw [this] at hg
    simp at hg
end
end Go.Proofs.YtoablodmodnamaaDoor
