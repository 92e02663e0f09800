/-
  One access alone, plainly: who has to wait; an access where the field is elsewhere.
-/
import Derived.Test.YtmlgohknbjfciaaDoorD2
import Derived.Test.YtmlgohknbjfciaaDoorCo
import Derived.Test.YtmlgohknbjfciaaDoorPCalls2
import Derived.Test.YtmlgohknbjfciaaDoorSRefs
import Derived.Deep.Cut
import Derived.Test.YtmlgohknbjfciaaDoorDt
import Derived.Test.YtmlgohknbjfciaaDoorCe
namespace Go.Proofs.YtmlgohknbjfciaaDoor
set_option linter.unusedVariables false
set_option linter.unusedSimpArgs false
set_option maxRecDepth 100000
open Go.ChangeShapes Go.WideShapes Go.RowKit
open H.Plain (hw pS pC pN pM pG pT pL mv)

/-- two memories, and a row of words beside them that is none of theirs -/
structure TwoX (w0 w : World) (b y : Nat) (s1 s2 : St) (N X : Nat) (cs : Array Value) : Prop where
  at_ : ∃ L M : Loc, L.b = b ∧ M.b = y ∧ Mm w L s1 ∧ Rm w M s2 ∧ (∀ k ∈ L.fp, w0.heap.size ≤ k ∧ k ∉ M.fp) ∧ (∀ k ∈ M.fp, w0.heap.size ≤ k) ∧ X ∉ L.fp ∧ X ∉ M.fp
  bel : Below w0.heap.size w0 w
  fit1 : s1.Fit
  fit2 : s2.Fit
  top1 : s1.c ≤ N
  top2 : s2.c ≤ N
  rng1 : s1.Rng
  rng2 : s2.Rng
  wid : H.Wid w0
  blk : w.heap[X]? = some (.cells cs 51 (0, 0))
  old : w0.heap.size ≤ X
section
variable {w0 w w' : World} {b y p X : Nat} {s1 s2 : St} {N : Nat} {T : TypeId} {cs ds : Array Value} {F : List Nat}
theorem TwoX.two (h : TwoX w0 w b y s1 s2 N X cs) : Two w0 w b y s1 s2 N := by
  obtain ⟨⟨L, M, e1, e2, hm, hr, hl, hl2, _, _⟩, hb, f1, f2, t1, t2, r1, r2, wd, _, _⟩ := h
  exact ⟨⟨L, M, e1, e2, hm, hr, hl, hl2⟩, hb, f1, f2, t1, t2, r1, r2, wd⟩
theorem TwoX.new (h : Two w0 w b y s1 s2 N) (cs : Array Value) : TwoX w0 (w.alloc (.cells cs 51)) b y s1 s2 N w.heap.size cs := by
  have hs := h.bel.size
  have ha := h.alloc (.cells cs 51)
  obtain ⟨⟨L, M, e1, e2, hm, hr, hl, hl2⟩, hb, f1, f2, t1, t2, r1, r2, wd⟩ := h
  exact ⟨⟨L, M, e1, e2, hm.alloc _, hr.alloc _, hl, hl2, fun h => by have := hm.lt _ h; omega, fun h => by have := hr.lt _ h; omega⟩, ha.bel, f1, f2, t1, t2, r1, r2, wd, heap_alloc_new _ _, hs⟩
theorem TwoX.kept (h : TwoX w0 w b y s1 s2 N X cs) (k : Kept F w w') (hF : ∀ k ∈ F, w0.heap.size ≤ k ∧ ∃ cs T fz, T ∉ MTs ∧ w.heap[k]? = some (.cells cs T fz)) : TwoX w0 w' b y s1 s2 N X cs := by
  have h2 := h.two.kept k hF
  obtain ⟨⟨L, M, e1, e2, hm, hr, hl, hl2, x1, x2⟩, hb, f1, f2, t1, t2, r1, r2, wd, bk, od⟩ := h
  refine ⟨⟨L, M, e1, e2, hm.on k fun j hj hjF => ?_, hr.on k fun j hj hjF => ?_, hl, hl2, x1, x2⟩, h2.bel, f1, f2, t1, t2, r1, r2, wd, (k.block X (lt_of_block bk) fun hX => ?_).trans bk, od⟩
  · obtain ⟨_, _, _, _, hT, hk⟩ := hF j hjF
    exact notin_fp hm (by simp [MTs]) f1 (.inl hT) hk hj
  · obtain ⟨_, _, _, _, hT, hk⟩ := hF j hjF
    exact notin_fp hr (by simp [MTs]) f2 (.inl hT) hk hj
  · obtain ⟨_, _, _, _, hT, hk⟩ := hF X hX
    rw [bk] at hk
    simp at hk
    rw [← hk.2.1] at hT
    exact hT (by decide)
theorem TwoX.below (h : TwoX w0 w b y s1 s2 N X cs) (hb : Below w.heap.size w w') : TwoX w0 w' b y s1 s2 N X cs := h.kept (F := []) (Kept.of_below hb) fun _ h => by simp at h
theorem TwoX.alloc (h : TwoX w0 w b y s1 s2 N X cs) (o : Obj) : TwoX w0 (w.alloc o) b y s1 s2 N X cs := h.below ((Below.refl _ _).alloc (Nat.le_refl _) o)
theorem TwoX.set (h : TwoX w0 w b y s1 s2 N X cs) (hp : Blk w0 w p T ds) (i : Nat) (u : Value) : TwoX w0 (w.setCell ⟨p, i, none⟩ u) b y s1 s2 N X cs :=
  h.kept (Kept.setCell [p] _ _ _ (by simp)) fun k hk => by simp at hk; subst hk; exact ⟨hp.old, _, _, _, hp.hT, hp.at_⟩
theorem TwoX.cell (h : TwoX w0 w b y s1 s2 N X cs) (i : Nat) : w.cell? ⟨X, i, none⟩ = cs[i]? := cell_of_row w _ _ _ _ _ h.blk
theorem TwoX.free (h : TwoX w0 w b y s1 s2 N X cs) (i : Nat) : w.frozen? ⟨X, i, none⟩ = false := frozen_of_row w _ _ _ _ h.blk
theorem TwoX.lt (h : TwoX w0 w b y s1 s2 N X cs) : X < w.heap.size := lt_of_block h.blk
theorem TwoX.setX (h : TwoX w0 w b y s1 s2 N X cs) (i : Nat) (u : Value) : TwoX w0 (w.setCell ⟨X, i, none⟩ u) b y s1 s2 N X (cs.setIfInBounds i u) := by
  obtain ⟨⟨L, M, e1, e2, hm, hr, hl, hl2, x1, x2⟩, hb, f1, f2, t1, t2, r1, r2, wd, bk, od⟩ := h
  have k : Kept [X] w (w.setCell ⟨X, i, none⟩ u) := Kept.setCell [X] _ _ _ (by simp)
  exact ⟨⟨L, M, e1, e2, hm.on k fun j hj e => by simp at e; subst e; exact x1 hj, hr.on k fun j hj e => by simp at e; subst e; exact x2 hj, hl, hl2, x1, x2⟩, hb.trans (k.below (fun j hj => by simp at hj; subst hj; exact od) hb.size), f1, f2, t1, t2, r1, r2, wd, Go.Joins.block_setCell bk u, od⟩
theorem TwoX.mono (h : TwoX w0 w b y s1 s2 N X cs) {N' : Nat} (hN : N ≤ N') : TwoX w0 w b y s1 s2 N' X cs := ⟨h.at_, h.bel, h.fit1, h.fit2, by have := h.top1; omega, by have := h.top2; omega, h.rng1, h.rng2, h.wid, h.blk, h.old⟩
theorem xStore (h : TwoX w0 w b y s1 s2 N X cs) (hN : N < 1000000) (a : Int) {x : Int} (hx : U64 x) :
    Calls Tryd.prog 18 #[.pointer (some ⟨b, 0, none⟩), .int .i64 a, .int .u64 x] w fun e w' => e = .returned (.tuple #[]) ∧ TwoX w0 w' b y (s1.store a x) s2 (N + 1) X cs ∧ Oth [] w w' := by
  have ht := h.top1
  have hc : s1.c < 1000000 := by omega
  obtain ⟨⟨L, M, rfl, e2, hm, hr, hl, hl2, x1, x2⟩, hb, f1, f2, t1, t2, r1, r2, wd, bk, od⟩ := h
  refine (cStore hm f1 hc a x).mono ?_
  rintro e w' ⟨rfl, L', hm', st⟩
  have hl' : ∀ k ∈ L'.fp, w0.heap.size ≤ k ∧ k ∉ M.fp := fun k hk => (st.new k hk).elim (hl k) fun h' => ⟨Nat.le_trans hb.size h', fun hkM => by have := hr.lt k hkM; omega⟩
  exact ⟨rfl, ⟨⟨L', M, st.b, e2, hm', hr.on st.kept fun k hk hm' => (hl k hm').2 hk, hl', hl2, fun h' => (st.new X h').elim x1 fun h' => by have := lt_of_block bk; omega, x2⟩, hb.trans (st.kept.below (fun k hk => (hl k hk).1) hb.size), f1.store hc a x, f2, by rw [St.c_store]; omega, by omega, r1.store a hx, r2, wd, (st.kept.block X (lt_of_block bk) x1).trans bk, od⟩, Oth.step hm (by simp [MTs]) f1 st⟩
theorem xyStore (h : TwoX w0 w b y s1 s2 N X cs) (hN : N < 1000000) (a : Int) {x : Int} (hx : U64 x) :
    Calls Tryd.prog 24 #[.pointer (some ⟨y, 0, none⟩), .int .i64 a, .int .u64 x] w fun e w' => e = .returned (.tuple #[]) ∧ TwoX w0 w' b y s1 (s2.store a x) (N + 1) X cs ∧ Oth [] w w' := by
  have ht := h.top2
  have hc : s2.c < 1000000 := by omega
  obtain ⟨⟨L, M, e1, rfl, hm, hr, hl, hl2, x1, x2⟩, hb, f1, f2, t1, t2, r1, r2, wd, bk, od⟩ := h
  refine (rStore hr f2 hc a x).mono ?_
  rintro e w' ⟨rfl, M', hr', st⟩
  have hl' : ∀ k ∈ M'.fp, w0.heap.size ≤ k := fun k hk => (st.new k hk).elim (hl2 k) fun h' => Nat.le_trans hb.size h'
  exact ⟨rfl, ⟨⟨L, M', e1, st.b, hm.on st.kept fun k hk hm' => (hl k hk).2 hm', hr', fun k hk => ⟨(hl k hk).1, fun hkM => (st.new k hkM).elim (hl k hk).2 fun h' => by have := hm.lt k hk; omega⟩, hl', x1, fun h' => (st.new X h').elim x2 fun h' => by have := lt_of_block bk; omega⟩, hb.trans (st.kept.below (fun k hk => hl2 k hk) hb.size), f1, f2.store hc a x, by omega, by rw [St.c_store]; omega, r1, r2.store a hx, wd, (st.kept.block X (lt_of_block bk) x2).trans bk, od⟩, Oth.step hr (by simp [MTs]) f2 st⟩
end
/-- eight words in a row -/
def arr8 (z : Nat → Int) : Array Value := #[.int .u64 (z 0), .int .u64 (z 1), .int .u64 (z 2), .int .u64 (z 3), .int .u64 (z 4), .int .u64 (z 5), .int .u64 (z 6), .int .u64 (z 7)]
def updN {α : Type} (f : Nat → α) (k : Nat) (v : α) : Nat → α := fun j => if j = k then v else f j
theorem nat8 {i : Nat} (h : i < 8) : i = 0 ∨ i = 1 ∨ i = 2 ∨ i = 3 ∨ i = 4 ∨ i = 5 ∨ i = 6 ∨ i = 7 := by omega
theorem arr8_set (z : Nat → Int) {i : Nat} (h : i < 8) (v : Int) : (arr8 z).setIfInBounds i (.int .u64 v) = arr8 (updN z i v) := by
  rcases nat8 h with rfl | rfl | rfl | rfl | rfl | rfl | rfl | rfl <;> simp [arr8, updN]
theorem arr8_get (z : Nat → Int) {i : Nat} (h : i < 8) : (arr8 z)[i]? = some (.int .u64 (z i)) := by
  rcases nat8 h with rfl | rfl | rfl | rfl | rfl | rfl | rfl | rfl <;> rfl
/-- a header without a tag; the first object's -/
def H0 : Int := hw 1 0 3 0 0 0 0
def HT (t : Int) : Int := hw 1 0 3 0 0 t 112
def fldP (ll : Nat) (zl : Nat → Vl) (j : Nat) : Vl := if j < ll then valP (zl j) else Vl.zero
/-- the words that are laid -/
def wl (t : Int) (l : Nat → Vl) : Nat → Int
  | 0 => HT t
  | 4 => H0
  | 1 => (l 0).w
  | 2 => (l 1).w
  | 3 => (l 2).w
  | 5 => (l 3).w
  | 6 => (l 4).w
  | 7 => (l 5).w
  | _ => 0
/-- behind g fields -/
def wg (t : Int) (l : Nat → Vl) (g : Nat) (i : Nat) : Int := if i = 0 ∨ i = 4 ∨ (i < 4 ∧ i ≤ g) ∨ (4 < i ∧ i ≤ g + 1) then wl t l i else 0
theorem wg_step (t : Int) (l : Nat → Vl) {g : Nat} (hg : g < 6) : ∀ i, i < 8 → updN (wg t l g) (1 + g + g / 3) (l g).w i = wg t l (g + 1) i := by
  intro i hi
  rcases (show g = 0 ∨ g = 1 ∨ g = 2 ∨ g = 3 ∨ g = 4 ∨ g = 5 by omega) with rfl | rfl | rfl | rfl | rfl | rfl <;> rcases nat8 hi with rfl | rfl | rfl | rfl | rfl | rfl | rfl | rfl <;> simp [updN, wg, wl]
theorem wg_end (t : Int) (l : Nat → Vl) {i : Nat} (hi : i < 8) : wg t l 6 i = wl t l i := by
  rcases nat8 hi with rfl | rfl | rfl | rfl | rfl | rfl | rfl | rfl <;> simp [wg]
theorem u64_wl (t : Int) (l : Nat → Vl) (i : Nat) : U64 (wl t l i) := by
  unfold wl
  split <;> first | exact u64_hw _ _ _ _ _ _ _ | exact Vl.u64 _ | exact U64.zero
theorem arr8_congr {z z' : Nat → Int} (h : ∀ i, i < 8 → z i = z' i) : arr8 z = arr8 z' := by
  simp only [arr8, h 0 (by omega), h 1 (by omega), h 2 (by omega), h 3 (by omega), h 4 (by omega), h 5 (by omega), h 6 (by omega), h 7 (by omega)]
def laidL (t : Int) (l : Nat → Vl) : Nat → St
  | 0 => St.new 160
  | i + 1 => (laidL t l i).store (96 + (i : Int)) (wl t l i)
def laidS (t k : Int) (l : Nat → Vl) : St := ((laidL t l 8).store 112 H0).store 16 (S.Plain.bw k 0 0 0)
section
set_option maxHeartbeats 2000000
theorem cAt (w : World) : Calls Tryd.prog 12 #[] w fun e w' => e = .returned (.agg #[.int .i64 4, .int .i64 4, .int .i64 14, .int .i64 32, .int .i64 160]) ∧ Below w.heap.size w w' := by
  have a0 : Below w.heap.size w (w.alloc (.cells #[.int .i64 0, .int .i64 0, .int .i64 0, .int .i64 0, .int .i64 0] 45)) := (Below.refl _ _).alloc (Nat.le_refl _) _
  have R0 : Blk w (w.alloc (.cells #[.int .i64 0, .int .i64 0, .int .i64 0, .int .i64 0, .int .i64 0] 45)) w.heap.size 45 #[.int .i64 0, .int .i64 0, .int .i64 0, .int .i64 0, .int .i64 0] := Blk.new (Nat.le_refl _) _ (by decide)
  go_enter Tryd.func12, Tryd.ntmps12
  go_upto_region 1 with (fail)
  obtain ⟨rb, hrb⟩ : ∃ rb, w.heap.size = rb := ⟨_, rfl⟩
  rw [hrb] at R0 ⊢
  generalize w.alloc (.cells #[.int .i64 0, .int .i64 0, .int .i64 0, .int .i64 0, .int .i64 0] 45) = w1 at a0 R0 ⊢
  have rl := R0.lt
  go_upto_region 2 with (go_at_call 30; refine (P.rNew 4 4 (by decide) (by decide) (by decide) (by decide) _).mono ?_; rintro e w2 ⟨rfl, hb2⟩; rw [show P.Plain.hp 4 4 = 32 by decide]; have R2 := R0.below hb2; have a2 := bel_trans a0 hb2)
  have a3 : Below w2.heap.size w2 (w2.alloc (.cells #[.int .i64 4, .int .i64 4, .int .i64 14, .int .i64 32, .int .i64 160] 45)) := (Below.refl _ _).alloc (Nat.le_refl _) _
  have R3 := R2.below a3
  have Q3 : Blk w (w2.alloc (.cells #[.int .i64 4, .int .i64 4, .int .i64 14, .int .i64 32, .int .i64 160] 45)) w2.heap.size 45 #[.int .i64 4, .int .i64 4, .int .i64 14, .int .i64 32, .int .i64 160] := Blk.new a2.size _ (by decide)
  have np : w2.heap.size ≠ rb := by have := R2.lt; omega
  have a4 := bel_trans a2 a3
  generalize w2.alloc (.cells #[.int .i64 4, .int .i64 4, .int .i64 14, .int .i64 32, .int .i64 160] 45) = w3 at Q3 R3 a4 ⊢
  generalize w2.heap.size = pb at Q3 np ⊢
  have c0 : w3.cell? ⟨pb, 0, none⟩ = some (.int .i64 4) := Q3.cell 0
  have c1 : w3.cell? ⟨pb, 1, none⟩ = some (.int .i64 4) := Q3.cell 1
  have c2 : w3.cell? ⟨pb, 2, none⟩ = some (.int .i64 14) := Q3.cell 2
  have c3 : w3.cell? ⟨pb, 3, none⟩ = some (.int .i64 32) := Q3.cell 3
  have c4 : w3.cell? ⟨pb, 4, none⟩ = some (.int .i64 160) := Q3.cell 4
  have ql := Q3.lt
  have r0 : w3.cell? ⟨rb, 0, none⟩ = some (.int .i64 0) := R3.cell 0
  have rf0 := R3.free 0
  have r1 : w3.cell? ⟨rb, 1, none⟩ = some (.int .i64 0) := R3.cell 1
  have rf1 := R3.free 1
  have r2 : w3.cell? ⟨rb, 2, none⟩ = some (.int .i64 0) := R3.cell 2
  have rf2 := R3.free 2
  have r3 : w3.cell? ⟨rb, 3, none⟩ = some (.int .i64 0) := R3.cell 3
  have rf3 := R3.free 3
  have r4 : w3.cell? ⟨rb, 4, none⟩ = some (.int .i64 0) := R3.cell 4
  have rf4 := R3.free 4
  go_wp2
  have R4 := ((((R3.set 0 (.int .i64 4)).set 1 (.int .i64 4)).set 2 (.int .i64 14)).set 3 (.int .i64 32)).set 4 (.int .i64 160)
  have K4 : Kept [rb] w3 (((((w3.setCell ⟨rb, 0, none⟩ (.int .i64 4)).setCell ⟨rb, 1, none⟩ (.int .i64 4)).setCell ⟨rb, 2, none⟩ (.int .i64 14)).setCell ⟨rb, 3, none⟩ (.int .i64 32)).setCell ⟨rb, 4, none⟩ (.int .i64 160)) := ((((Kept.setCell [rb] _ _ _ (by simp)).trans (Kept.setCell [rb] _ _ _ (by simp)) fun _ h => .inl h).trans (Kept.setCell [rb] _ _ _ (by simp)) fun _ h => .inl h).trans (Kept.setCell [rb] _ _ _ (by simp)) fun _ h => .inl h).trans (Kept.setCell [rb] _ _ _ (by simp)) fun _ h => .inl h
  have u0 := R4.cell 0
  have u1 := R4.cell 1
  have u2 := R4.cell 2
  have u3 := R4.cell 3
  have u4 := R4.cell 4
  simp at u0 u1 u2 u3 u4
  exact bodyPost_ret (v := .agg #[.int .i64 4, .int .i64 4, .int .i64 14, .int .i64 32, .int .i64 160]) (by simp [results, Tryd.results12, go_sem, u0, u1, u2, u3, u4]) rfl ⟨rfl, a4.trans (K4.below (fun j hj => by simp at hj; omega) a4.size)⟩
/-- the two memories -/
theorem cLaid (w : World) (W : H.Wid w) {tg bk : Int} {av : Option Addr} {ll cv' : Nat} {zl : Nat → Vl} (cv : CameV w av ll zl) (g0 : -9223372036854775808 ≤ tg) (g1 : tg ≤ 9223372036854775807) (g2 : -9223372036854775808 ≤ bk) (g3 : bk ≤ 9223372036854775807) :
    Calls Tryd.prog 7 #[.agg #[.int .i64 tg, .int .i64 bk, .slice av ll cv']] w fun e w' => ∃ b y, e = .returned (.tuple #[.pointer (some ⟨b, 0, none⟩), .pointer (some ⟨y, 0, none⟩)]) ∧ Two w w' b y (laidS (kd tg 6) (kd bk 3) (fldP ll zl)) (laidS (kd tg 6) (kd bk 3) (fldP ll zl)) 20 := by
  obtain ⟨l, hl⟩ : ∃ l, fldP ll zl = l := ⟨_, rfl⟩
  obtain ⟨t, htk⟩ : ∃ t, kd tg 6 = t := ⟨_, rfl⟩
  obtain ⟨k3, hk3⟩ : ∃ t, kd bk 3 = t := ⟨_, rfl⟩
  rw [hl, htk, hk3]
  obtain ⟨h0, hh0⟩ : ∃ h0, hw 1 0 3 0 0 0 0 = h0 := ⟨_, rfl⟩
  obtain ⟨ht, hht⟩ : ∃ ht, hw 1 0 3 0 0 t 112 = ht := ⟨_, rfl⟩
  obtain ⟨bw', hbw⟩ : ∃ q, S.Plain.bw k3 0 0 0 = q := ⟨_, rfl⟩
  have a0 : Below w.heap.size w (w.alloc (.cells #[.int .i64 tg, .int .i64 bk, .slice av ll cv'] 31)) := (Below.refl _ _).alloc (Nat.le_refl _) _
  have X0 : Blk w (w.alloc (.cells #[.int .i64 tg, .int .i64 bk, .slice av ll cv'] 31)) w.heap.size 31 #[.int .i64 tg, .int .i64 bk, .slice av ll cv'] := Blk.new (Nat.le_refl _) _ (by decide)
  go_enter Tryd.func7, Tryd.ntmps7
  go_upto_region 1 with (fail)
  generalize w.alloc (.cells #[.int .i64 tg, .int .i64 bk, .slice av ll cv'] 31) = wa at a0 X0 ⊢
  generalize w.heap.size = xb at X0 ⊢
  go_upto_region 2 with (go_at_call 12; refine (cAt _).mono ?_; rintro e wb ⟨rfl, hbb⟩; have X1 := X0.below hbb; have a1 := bel_trans a0 hbb; clear hbb)
  have hs1 := a1.size
  have ac : Below wb.heap.size wb (wb.alloc (.cells #[.int .i64 4, .int .i64 4, .int .i64 14, .int .i64 32, .int .i64 160] 45)) := (Below.refl _ _).alloc (Nat.le_refl _) _
  have X2 := X1.below ac
  have Q2 : Blk wb (wb.alloc (.cells #[.int .i64 4, .int .i64 4, .int .i64 14, .int .i64 32, .int .i64 160] 45)) wb.heap.size 45 #[.int .i64 4, .int .i64 4, .int .i64 14, .int .i64 32, .int .i64 160] := Blk.new (Nat.le_refl _) _ (by decide)
  have bel2 := bel_trans a1 ac
  generalize wb.alloc (.cells #[.int .i64 4, .int .i64 4, .int .i64 14, .int .i64 32, .int .i64 160] 45) = w2 at X2 Q2 bel2 ⊢
  generalize wb.heap.size = pb at Q2 ⊢
  have cv2 := cv.on bel2
  have W2 := W.on bel2
  have x0 : w2.cell? ⟨xb, 0, none⟩ = some (.int .i64 tg) := X2.cell 0
  have x1 : w2.cell? ⟨xb, 1, none⟩ = some (.int .i64 bk) := X2.cell 1
  have x2 : w2.cell? ⟨xb, 2, none⟩ = some (.slice av ll cv') := X2.cell 2
  have hx := X2.lt
  have hpb := Q2.lt
  have pc0 : w2.cell? ⟨pb, 0, none⟩ = some (.int .i64 4) := Q2.cell 0
  have pc1 : w2.cell? ⟨pb, 1, none⟩ = some (.int .i64 4) := Q2.cell 1
  have pc2 : w2.cell? ⟨pb, 2, none⟩ = some (.int .i64 14) := Q2.cell 2
  have pc3 : w2.cell? ⟨pb, 3, none⟩ = some (.int .i64 32) := Q2.cell 3
  have pc4 : w2.cell? ⟨pb, 4, none⟩ = some (.int .i64 160) := Q2.cell 4
  clear a0 X0 X1 a1 ac hs1
  go_upto_region 7 with (first
    | (go_at_call 21; refine (hNew _ 160 (by decide) (by decide) (Below.refl _ _) W2).mono ?_; rintro e wc ⟨b, rfl, h1⟩; have y4 : wc.cell? ⟨pb, 4, none⟩ = some (.int .i64 160) := (h1.bel.cell hpb).trans pc4; have yl : pb < wc.heap.size := Nat.lt_of_lt_of_le hpb h1.bel.size)
    | (go_at_call 22; refine (yNew h1 160 (by decide) (by decide)).mono ?_; rintro e w2' ⟨y, rfl, h2⟩))
  have h3 := h2.alloc (.cells #[.int .i64 1, .int .i64 0, .int .i64 3, .int .i64 0, .int .i64 0, .int .i64 0, .int .i64 0] 26)
  have B3 : Blk w2 (w2'.alloc (.cells #[.int .i64 1, .int .i64 0, .int .i64 3, .int .i64 0, .int .i64 0, .int .i64 0, .int .i64 0] 26)) w2'.heap.size 26 #[.int .i64 1, .int .i64 0, .int .i64 3, .int .i64 0, .int .i64 0, .int .i64 0, .int .i64 0] := Blk.new h2.bel.size _ (by decide)
  generalize w2'.alloc (.cells #[.int .i64 1, .int .i64 0, .int .i64 3, .int .i64 0, .int .i64 0, .int .i64 0, .int .i64 0] 26) = w3 at h3 B3 ⊢
  generalize w2'.heap.size = hb at B3 ⊢
  have c0 : w3.cell? ⟨hb, 0, none⟩ = some (.int .i64 1) := B3.cell 0
  have c1 : w3.cell? ⟨hb, 1, none⟩ = some (.int .i64 0) := B3.cell 1
  have c2 : w3.cell? ⟨hb, 2, none⟩ = some (.int .i64 3) := B3.cell 2
  have c3 : w3.cell? ⟨hb, 3, none⟩ = some (.int .i64 0) := B3.cell 3
  have c4 : w3.cell? ⟨hb, 4, none⟩ = some (.int .i64 0) := B3.cell 4
  have c5 : w3.cell? ⟨hb, 5, none⟩ = some (.int .i64 0) := B3.cell 5
  have c6 : w3.cell? ⟨hb, 6, none⟩ = some (.int .i64 0) := B3.cell 6
  have cl := B3.lt
  go_upto_region 8 with (go_at_call 23; refine (H.rWord _ _ _ _ _ _ _ _).mono ?_; rintro e w4 ⟨rfl, hw4⟩; rw [hh0]; have hb4 : Below w3.heap.size w3 w4 := (by rw [hw4]; go_grown); have h4 := h3.below hb4; have B4 := B3.below hb4; clear hw4 hb4)
  have x5 := TwoX.new h4 #[.int .u64 0, .int .u64 0, .int .u64 0, .int .u64 0, .int .u64 h0, .int .u64 0, .int .u64 0, .int .u64 0]
  have B5 := B4.below ((Below.refl _ w4).alloc (Nat.le_refl _) (.cells #[.int .u64 0, .int .u64 0, .int .u64 0, .int .u64 0, .int .u64 h0, .int .u64 0, .int .u64 0, .int .u64 0] 51))
  clear c0 c1 c2 c3 c4 c5 c6 cl
  generalize w4.alloc (.cells #[.int .u64 0, .int .u64 0, .int .u64 0, .int .u64 0, .int .u64 h0, .int .u64 0, .int .u64 0, .int .u64 0] 51) = w5 at x5 B5 ⊢
  generalize w4.heap.size = X at x5 ⊢
  have c0 : w5.cell? ⟨hb, 0, none⟩ = some (.int .i64 1) := B5.cell 0
  have c1 : w5.cell? ⟨hb, 1, none⟩ = some (.int .i64 0) := B5.cell 1
  have c2 : w5.cell? ⟨hb, 2, none⟩ = some (.int .i64 3) := B5.cell 2
  have c3 : w5.cell? ⟨hb, 3, none⟩ = some (.int .i64 0) := B5.cell 3
  have c4 : w5.cell? ⟨hb, 4, none⟩ = some (.int .i64 0) := B5.cell 4
  have c5 : w5.cell? ⟨hb, 5, none⟩ = some (.int .i64 0) := B5.cell 5
  have c6 : w5.cell? ⟨hb, 6, none⟩ = some (.int .i64 0) := B5.cell 6
  have cl := B5.lt
  have f5 := B5.free 5
  have f6 := B5.free 6
  have xa : w5.cell? ⟨xb, 0, none⟩ = some (.int .i64 tg) := (x5.bel.cell hx).trans x0
  have xal : xb < w5.heap.size := Nat.lt_of_lt_of_le hx x5.bel.size
  go_upto_region 10 with (go_at_call 8; refine (cKind _ tg 6 g0 g1 (by decide)).mono ?_; rintro e wk ⟨rfl, hwk⟩; rw [hwk, htk]; clear hwk wk)
  have x6 := (x5.set B5 5 (.int .i64 t)).set (B5.set 5 (.int .i64 t)) 6 (.int .i64 112)
  have B6 : Blk w2 ((w5.setCell ⟨hb, 5, none⟩ (.int .i64 t)).setCell ⟨hb, 6, none⟩ (.int .i64 112)) hb 26 #[.int .i64 1, .int .i64 0, .int .i64 3, .int .i64 0, .int .i64 0, .int .i64 t, .int .i64 112] := (B5.set 5 _).set 6 _
  clear c0 c1 c2 c3 c4 c5 c6 cl f5 f6 xa xal
  generalize (w5.setCell ⟨hb, 5, none⟩ (.int .i64 t)).setCell ⟨hb, 6, none⟩ (.int .i64 112) = w6 at x6 B6 ⊢
  have c0 : w6.cell? ⟨hb, 0, none⟩ = some (.int .i64 1) := B6.cell 0
  have c1 : w6.cell? ⟨hb, 1, none⟩ = some (.int .i64 0) := B6.cell 1
  have c2 : w6.cell? ⟨hb, 2, none⟩ = some (.int .i64 3) := B6.cell 2
  have c3 : w6.cell? ⟨hb, 3, none⟩ = some (.int .i64 0) := B6.cell 3
  have c4 : w6.cell? ⟨hb, 4, none⟩ = some (.int .i64 0) := B6.cell 4
  have c5 : w6.cell? ⟨hb, 5, none⟩ = some (.int .i64 t) := B6.cell 5
  have c6 : w6.cell? ⟨hb, 6, none⟩ = some (.int .i64 112) := B6.cell 6
  have cl := B6.lt
  go_wp2_with (go_at_call 23; refine (H.rWord _ _ _ _ _ _ _ _).mono ?_; rintro e w7 ⟨rfl, hw7⟩; rw [hht]; have hb7 : Below w6.heap.size w6 w7 := (by rw [hw7]; go_grown); have x7 := x6.below hb7; clear hw7 hb7; have z0 : w7.cell? ⟨X, 0, none⟩ = some (.int .u64 0) := x7.cell 0; have zf0 := x7.free 0)
  have x8 := x7.setX 0 (.int .u64 ht)
  rw [show (#[Value.int .u64 0, .int .u64 0, .int .u64 0, .int .u64 0, .int .u64 h0, .int .u64 0, .int .u64 0, .int .u64 0].setIfInBounds 0 (.int .u64 ht)) = arr8 (wg t l 0) by simp [arr8, wg, wl, HT, H0, hh0, hht]] at x8
  go_loopw [11] (fun i wr => ∃ g : Nat, g ≤ 6 ∧ i = .int .i64 g ∧ TwoX w2 wr b y (St.new 160) (St.new 160) 0 X (arr8 (wg t l g))) (fun i _ => 6 - (intOf i).toNat)
  case atStart => exact ⟨0, Nat.zero_le _, rfl, x8⟩
  case round =>
    obtain ⟨g, hg, rfl, p1⟩ := hrel
    by_cases hg6 : g < 6
    case pos =>
      have cv1 := cv2.on p1.bel
      have xs : wr.cell? ⟨xb, 2, none⟩ = some (.slice av ll cv') := (p1.bel.cell hx).trans x2
      have xlt : xb < wr.heap.size := Nat.lt_of_lt_of_le hx p1.bel.size
      have hgi : (g : Int) < 6 := by omega
      by_cases hin : g < ll
      · obtain ⟨vb', off, rfl, hvb, hz⟩ : ∃ b off, av = some ⟨b, off, none⟩ ∧ b < wr.heap.size ∧ ∀ j, j < ll → wr.cell? ⟨b, off + j * 2, none⟩ = some (.int .i64 (zl j).k) ∧ wr.cell? ⟨b, off + (j * 2 + 1), none⟩ = some (.int .i64 (zl j).n) ∧ (zl j).Fit := (cv1.resolve_left (by omega))
        obtain ⟨d0, d1, df⟩ := hz g hin
        obtain ⟨qv, hqv⟩ : ∃ qv, zl g = qv := ⟨_, rfl⟩
        rw [hqv] at d0 d1 df
        have hlx : l g = valP qv := by rw [← hl, fldP, if_pos hin, hqv]
        obtain ⟨u, hu⟩ : ∃ u, valP qv = u := ⟨_, rfl⟩
        rw [hu] at hlx
        have hini : (g : Int) < (ll : Int) := by omega
        rw [← Nat.add_assoc] at d1
        clear hz hqv
        go_upto_region 17 with (go_at_call 10; refine (cVal qv df _).mono ?_; rintro e w7 ⟨rfl, hb7⟩; rw [hu]; have p7 := (p1.alloc (.cells #[.int .i64 0, .int .i64 0] 24)).below hb7; have B7 : Blk w2 w7 wr.heap.size 24 #[.int .i64 0, .int .i64 0] := (Blk.new p1.bel.size _ (by decide)).below hb7; have e0 : w7.cell? ⟨wr.heap.size, 0, none⟩ = some (.int .i64 0) := B7.cell 0; have e1 : w7.cell? ⟨wr.heap.size, 1, none⟩ = some (.int .i64 0) := B7.cell 1; have f0 := B7.free 0; have f1 := B7.free 1)
        have B8 : Blk w2 ((w7.setCell ⟨wr.heap.size, 0, none⟩ (.int .i64 u.k)).setCell ⟨wr.heap.size, 1, none⟩ (.int .i64 u.n)) wr.heap.size 24 #[.int .i64 u.k, .int .i64 u.n] := (B7.set 0 _).set 1 _
        have p8 := (p7.set B7 0 (.int .i64 u.k)).set (B7.set 0 (.int .i64 u.k)) 1 (.int .i64 u.n)
        clear e0 e1 f0 f1
        generalize (w7.setCell ⟨wr.heap.size, 0, none⟩ (.int .i64 u.k)).setCell ⟨wr.heap.size, 1, none⟩ (.int .i64 u.n) = w8 at B8 p8 ⊢
        generalize wr.heap.size = vb at B8 ⊢
        have x0 : w8.cell? ⟨vb, 0, none⟩ = some (.int .i64 u.k) := B8.cell 0
        have x1 : w8.cell? ⟨vb, 1, none⟩ = some (.int .i64 u.n) := B8.cell 1
        have xl := B8.lt
        obtain ⟨ix, hix⟩ : ∃ ix, 1 + g + g / 3 = ix := ⟨_, rfl⟩
        have hix8 : ix < 8 := by omega
        have i1 : 1 + (g : Int) + (g : Int) / 3 = (ix : Int) := by omega
        have i2 : IntKind.i64.wrap (1 + (g : Int)) = 1 + (g : Int) := by rw [IntKind.wrap_i64]; omega
        have i3 : (g : Int).tdiv 3 = (g : Int) / 3 := Int.tdiv_eq_ediv_of_nonneg (by omega)
        have i4 : IntKind.i64.wrap ((g : Int) / 3) = (g : Int) / 3 := by rw [IntKind.wrap_i64]; omega
        have i5 : IntKind.i64.wrap (ix : Int) = (ix : Int) := by rw [IntKind.wrap_i64]; omega
        have hU2 := u64_word u.k u.n
        obtain ⟨wd2, hwd2⟩ : ∃ wd2, F.Plain.word u.k u.n = wd2 := ⟨_, rfl⟩
        rw [hwd2] at hU2
        have hixi : (ix : Int) < 8 := by omega
        go_wp2_with (go_at_call 19; refine (F.rWord u.k u.n _).mono ?_; rintro e w10 ⟨rfl, m10, hw10⟩; rw [hwd2]; have hb10 : Below w8.heap.size w8 w10 := (by rw [hw10]; exact F.bdr ((Below.refl _ _).alloc (Nat.le_refl _) _) _); have p10 := p8.below hb10; clear hw10 hb10; have xz : w10.cell? ⟨X, ix, none⟩ = some (.int .u64 (wg t l g ix)) := (p10.cell ix).trans (arr8_get _ hix8); have xf := p10.free ix)
        go_roundw
        case rel => exact ⟨g + 1, by omega, by go_num, (by have q := p10.setX ix (.int .u64 wd2); rw [arr8_set _ hix8] at q; have e : ∀ i, i < 8 → updN (wg t l g) ix wd2 i = wg t l (g + 1) i := (by rw [← hix, ← hwd2]; rw [show F.Plain.word u.k u.n = (l g).w by rw [hlx]; rfl]; exact wg_step t l hg6); rw [arr8_congr e] at q; exact q)⟩
        case measure => simp [intOf]; omega
      · have hlx : l g = Vl.zero := by rw [← hl, fldP, if_neg hin]
        have hini : ¬ (g : Int) < (ll : Int) := by omega
        obtain ⟨u, hu⟩ : ∃ u, Vl.zero = u := ⟨_, rfl⟩
        rw [hu] at hlx
        have p8 := p1.alloc (.cells #[.int .i64 0, .int .i64 0] 24)
        have B8 : Blk w2 (wr.alloc (.cells #[.int .i64 0, .int .i64 0] 24)) wr.heap.size 24 #[.int .i64 u.k, .int .i64 u.n] := (by rw [← hu]; exact Blk.new p1.bel.size _ (by decide))
        go_upto_region 17 with (fail)
        generalize wr.alloc (.cells #[.int .i64 0, .int .i64 0] 24) = w8 at B8 p8 ⊢
        generalize wr.heap.size = vb at B8 ⊢
        have x0 : w8.cell? ⟨vb, 0, none⟩ = some (.int .i64 u.k) := B8.cell 0
        have x1 : w8.cell? ⟨vb, 1, none⟩ = some (.int .i64 u.n) := B8.cell 1
        have xl := B8.lt
        obtain ⟨ix, hix⟩ : ∃ ix, 1 + g + g / 3 = ix := ⟨_, rfl⟩
        have hix8 : ix < 8 := by omega
        have i1 : 1 + (g : Int) + (g : Int) / 3 = (ix : Int) := by omega
        have i2 : IntKind.i64.wrap (1 + (g : Int)) = 1 + (g : Int) := by rw [IntKind.wrap_i64]; omega
        have i3 : (g : Int).tdiv 3 = (g : Int) / 3 := Int.tdiv_eq_ediv_of_nonneg (by omega)
        have i4 : IntKind.i64.wrap ((g : Int) / 3) = (g : Int) / 3 := by rw [IntKind.wrap_i64]; omega
        have i5 : IntKind.i64.wrap (ix : Int) = (ix : Int) := by rw [IntKind.wrap_i64]; omega
        have hU2 := u64_word u.k u.n
        obtain ⟨wd2, hwd2⟩ : ∃ wd2, F.Plain.word u.k u.n = wd2 := ⟨_, rfl⟩
        rw [hwd2] at hU2
        have hixi : (ix : Int) < 8 := by omega
        go_wp2_with (go_at_call 19; refine (F.rWord u.k u.n _).mono ?_; rintro e w10 ⟨rfl, m10, hw10⟩; rw [hwd2]; have hb10 : Below w8.heap.size w8 w10 := (by rw [hw10]; exact F.bdr ((Below.refl _ _).alloc (Nat.le_refl _) _) _); have p10 := p8.below hb10; clear hw10 hb10; have xz : w10.cell? ⟨X, ix, none⟩ = some (.int .u64 (wg t l g ix)) := (p10.cell ix).trans (arr8_get _ hix8); have xf := p10.free ix)
        go_roundw
        case rel => exact ⟨g + 1, by omega, by go_num, (by have q := p10.setX ix (.int .u64 wd2); rw [arr8_set _ hix8] at q; have e : ∀ i, i < 8 → updN (wg t l g) ix wd2 i = wg t l (g + 1) i := (by rw [← hix, ← hwd2]; rw [show F.Plain.word u.k u.n = (l g).w by rw [hlx]; rfl]; exact wg_step t l hg6); rw [arr8_congr e] at q; exact q)⟩
        case measure => simp [intOf]; omega
    case neg =>
      have hge : g = 6 := by omega
      have hgi : ¬ (g : Int) < 6 := by omega
      rw [arr8_congr (z := wg t l g) (z' := wl t l) (fun i hi => by rw [hge]; exact wg_end t l hi)] at p1
      go_wp2_with (fail)
      go_loopw [13] (fun i wr => ∃ j : Nat, j ≤ 8 ∧ i = .int .i64 j ∧ TwoX w2 wr b y (laidL t l j) (laidL t l j) (2 * j) X (arr8 (wl t l))) (fun i _ => 8 - (intOf i).toNat)
      case atStart => exact ⟨0, Nat.zero_le _, rfl, p1⟩
      case round =>
        obtain ⟨j, hj, rfl, q1⟩ := hrel
        by_cases hj8 : j < 8
        case pos =>
          have hji : (j : Int) < 8 := by omega
          have xj : wr.cell? ⟨X, j, none⟩ = some (.int .u64 (wl t l j)) := (q1.cell j).trans (arr8_get _ hj8)
          have hU := u64_wl t l j
          obtain ⟨v, hv⟩ : ∃ v, wl t l j = v := ⟨_, rfl⟩
          rw [hv] at xj hU
          have xl := q1.lt
          go_wp2_with (first
            | (go_at_call 18; refine (xStore q1 (by omega) (96 + (j : Int)) hU).mono ?_; rintro e w11 ⟨rfl, q2, o2⟩; have xk : w11.cell? ⟨X, j, none⟩ = some (.int .u64 v) := hv ▸ (q2.cell j).trans (arr8_get _ hj8))
            | (go_at_call 24; refine (xyStore q2 (by omega) (96 + (j : Int)) hU).mono ?_; rintro e w12 ⟨rfl, q3, o3⟩))
          go_roundw
          case rel => exact ⟨j + 1, by omega, by go_num, (by simp only [laidL, hv]; exact q3.mono (by omega))⟩
          case measure => simp [intOf]; omega
        case neg =>
          obtain rfl : j = 8 := by omega
          have hU := u64_hw 1 0 3 0 0 0 0
          rw [hh0] at hU
          have hV : U64 bw' := by rw [← hbw]; unfold S.Plain.bw; exact ⟨by omega, by omega⟩
          go_upto_region 24 with (go_at_call 23; refine (H.rWord _ _ _ _ _ _ _ _).mono ?_; rintro e w9 ⟨rfl, hw9⟩; rw [hh0]; have hb9 : Below wr.heap.size wr w9 := (by rw [hw9]; go_grown); have t1 := q1.two.below hb9; clear hw9 hb9)
          have xc : w9.cell? ⟨xb, 1, none⟩ = some (.int .i64 bk) := (t1.bel.cell hx).trans x1
          have xcl : xb < w9.heap.size := Nat.lt_of_lt_of_le hx t1.bel.size
          go_upto_region 27 with (first
            | (go_at_call 8; refine (cKind _ bk 3 g2 g3 (by decide)).mono ?_; rintro e wk ⟨rfl, hwk⟩; rw [hwk, hk3]; clear hwk wk)
            | (go_at_call 25; refine (S.hBlock _ _ _ _ _).mono ?_; rintro e w10 ⟨rfl, hb10⟩; rw [hbw]; have t2 := t1.below hb10; clear hb10)
            | (go_at_call 18; refine (tStore t2 (by omega) 112 hU).mono ?_; rintro e w11 ⟨rfl, t3, o3⟩)
            | (go_at_call 24; refine (yStore t3 (by omega) 112 hU).mono ?_; rintro e w12 ⟨rfl, t4, o4⟩))
          have pd0 : w12.cell? ⟨pb, 0, none⟩ = some (.int .i64 4) := (t4.bel.cell hpb).trans pc0
          have pd1 : w12.cell? ⟨pb, 1, none⟩ = some (.int .i64 4) := (t4.bel.cell hpb).trans pc1
          have pd2 : w12.cell? ⟨pb, 2, none⟩ = some (.int .i64 14) := (t4.bel.cell hpb).trans pc2
          have pd3 : w12.cell? ⟨pb, 3, none⟩ = some (.int .i64 32) := (t4.bel.cell hpb).trans pc3
          have pd4 : w12.cell? ⟨pb, 4, none⟩ = some (.int .i64 160) := (t4.bel.cell hpb).trans pc4
          have pdl : pb < w12.heap.size := Nat.lt_of_lt_of_le hpb t4.bel.size
          go_upto_region 28 with (first
            | (go_at_call 26; refine (P.rEntry 4 4 14 32 160 2 (by decide) (by decide) (by decide) (by decide) _).mono ?_; rintro e w13 ⟨rfl, hw13⟩; rw [show ((14 : Int) + 2) = 16 from rfl]; have hb13 : Below w12.heap.size w12 w13 := (by rw [hw13]; exact (Below.refl _ _).alloc (Nat.le_refl _) _); have t5 := t4.below hb13; clear hw13 hb13)
            | (go_at_call 18; refine (tStore t5 (by omega) 16 hV).mono ?_; rintro e w14 ⟨rfl, t6, o6⟩))
          have pe0 : w14.cell? ⟨pb, 0, none⟩ = some (.int .i64 4) := (t6.bel.cell hpb).trans pc0
          have pe1 : w14.cell? ⟨pb, 1, none⟩ = some (.int .i64 4) := (t6.bel.cell hpb).trans pc1
          have pe2 : w14.cell? ⟨pb, 2, none⟩ = some (.int .i64 14) := (t6.bel.cell hpb).trans pc2
          have pe3 : w14.cell? ⟨pb, 3, none⟩ = some (.int .i64 32) := (t6.bel.cell hpb).trans pc3
          have pe4 : w14.cell? ⟨pb, 4, none⟩ = some (.int .i64 160) := (t6.bel.cell hpb).trans pc4
          have pel : pb < w14.heap.size := Nat.lt_of_lt_of_le hpb t6.bel.size
          go_wp2_with (first
            | (go_at_call 26; refine (P.rEntry 4 4 14 32 160 2 (by decide) (by decide) (by decide) (by decide) _).mono ?_; rintro e w15 ⟨rfl, hw15⟩; rw [show ((14 : Int) + 2) = 16 from rfl]; have hb15 : Below w14.heap.size w14 w15 := (by rw [hw15]; exact (Below.refl _ _).alloc (Nat.le_refl _) _); have t7 := t6.below hb15; clear hw15 hb15)
            | (go_at_call 24; refine (yStore t7 (by omega) 16 hV).mono ?_; rintro e w16 ⟨rfl, t8, o8⟩))
          exact bodyPost_ret (v := .tuple #[.pointer (some ⟨b, 0, none⟩), .pointer (some ⟨y, 0, none⟩)]) (by simp [results, Tryd.results7, go_sem]) rfl ⟨b, y, rfl, (by unfold laidS; rw [show H0 = h0 from hh0, hbw]; exact (t8.mono (by omega)).lift bel2 W)⟩
end
end Go.Proofs.YtmlgohknbjfciaaDoor

namespace Go.Proofs.YtmlgohknbjfciaaDoor
set_option linter.unusedVariables false
set_option maxRecDepth 100000
open H.Plain (hw pS pC pN pM pG pT pL mv)

/-- behind j steps -/
def runX (x : Sx) (s : St) : Nat → Sx × St
  | 0 => (x, s)
  | j + 1 => ((runX x s j).1.next (runX x s j).2, (runX x s j).1.mem (runX x s j).2)
/-- it is done behind d steps, and not ahead -/
structure Ends (x : Sx) (s : St) (d : Nat) (x' : Sx) (s' : St) : Prop where
  at_ : runX x s d = (x', s')
  done : x'.done = true
  not : ∀ j, j < d → (runX x s j).1.done = false
theorem runX_succ (x : Sx) (s : St) (j : Nat) : runX x s (j + 1) = runX (x.next s) (x.mem s) j := by
  induction j with
  | zero => rfl
  | succ j ih => rw [runX, ih]; rfl
theorem Ends.zero {x : Sx} {s : St} (h : x.done = true) : Ends x s 0 x s := ⟨rfl, h, fun j hj => by omega⟩
theorem Ends.more {x x' : Sx} {s s' : St} {d : Nat} (h : x.done = false) (e : Ends (x.next s) (x.mem s) d x' s') : Ends x s (d + 1) x' s' := by
  refine ⟨by rw [runX_succ]; exact e.at_, e.done, fun j hj => ?_⟩
  cases j with
  | zero => exact h
  | succ j => rw [runX_succ]; exact e.not j (by omega)
theorem Ends.step {x x1 x' : Sx} {s s1 s' : St} {d : Nat} (h : x.done = false) (q : x.next s = x1) (m : x.mem s = s1) (e : Ends x1 s1 d x' s') : Ends x s (d + 1) x' s' := Ends.more h (by rw [q, m]; exact e)
theorem got_load (s : St) (a b : Int) : (s.load a).got b = s.got b := rfl
/-- what is expected, wherever either stands -/
def canonP (s : St) (u x : Vl) : Bool := if u.far && x.far then movP s u.n == movP s x.n else decide (u = x)
theorem got_cas {s : St} (hl : s.ws.length = 160) {a : Int} (ha : In a) (x : Int) : (s.cas a (s.got a) x).got a = x := by
  rw [In.got (by rw [St.n_cas]; exact hl) ha, In.got hl ha, word_cas_ok hl ha ha rfl, if_pos rfl]
theorem ok1_got {s : St} (hl : s.ws.length = 160) {a : Int} (ha : In a) : s.ok1 a (s.got a) = true := by
  rw [ok1_iff hl ha, In.got hl ha]; simp
/-- the last step of a Swap whose field is as it was -/
theorem exch_ends {s s0 : St} (hl : s.ws.length = 160) (hs : s.ws = s0.ws) {f : Int} (hf : In f) (r : Rq) (h : Hw) (hit : Bool) :
    Ends ⟨some (.exch f (s0.got f) r h), hit, Ou.zero⟩ s 1 ⟨none, true, ⟨0, Vl.zero, true⟩⟩ (s.cas f (s.got f) r.y.w) := by
  have e : s0.got f = s.got f := (got_ws hs f).symm
  rw [e]
  refine Ends.more rfl ?_
  have q : (Sx.mk (some (.exch f (s.got f) r h)) hit Ou.zero).next s = ⟨none, true, ⟨0, Vl.zero, true⟩⟩ := by simp [Sx.next, K.next, ok1_got hl hf]
  rw [q]
  exact Ends.zero rfl
/-- a Swap that knows of moved objects, without a Shade -/
theorem canon_ends {s : St} (hl : s.ws.length = 160) {f : Int} (hf : In f) (r : Rq) (h3 : r.op = 3) {u : Vl} (hu : Vl.of (s.got f) = u) : ∃ d x' s', d ≤ 4 ∧ Ends (Sx.new f r ⟨false, true, false, 0⟩) s d x' s' ∧
    x'.o.y = canonP s u r.x ∧ Vl.of (s'.got f) = (if canonP s u r.x then Vl.of r.y.w else u) ∧ s'.ws.length = 160 := by
  have e0 : Sx.new f r ⟨false, true, false, 0⟩ = ⟨some (.swap f r ⟨false, true, false, 0⟩), false, Ou.zero⟩ := by simp [Sx.new, firstK, h3]
  have eb : ∀ z, behind f z r ⟨false, true, false, 0⟩ = .exch f z r ⟨false, true, false, 0⟩ := fun z => by simp [behind, shadeK]
  rw [e0]
  by_cases hx : u = r.x
  · have q : (Sx.mk (some (.swap f r ⟨false, true, false, 0⟩)) false Ou.zero).next s = ⟨some (.exch f (s.got f) r ⟨false, true, false, 0⟩), true, Ou.zero⟩ := by simp only [Sx.next, K.next, hu, if_pos hx, eb]
    have c : canonP s u r.x = true := by unfold canonP; rw [← hx]; split <;> simp
    refine ⟨2, _, _, by omega, Ends.step rfl q rfl (exch_ends (s := s.load f) hl rfl hf r _ true), by rw [c], ?_, by rw [St.n_cas]; exact hl⟩
    rw [c, got_cas (s := s.load f) hl hf]; rfl
  · by_cases hf2 : (u.far && r.x.far) = true
    · have q : (Sx.mk (some (.swap f r ⟨false, true, false, 0⟩)) false Ou.zero).next s = ⟨some (.compS u.n r.x.n (.exch f (s.got f) r ⟨false, true, false, 0⟩)), true, Ou.zero⟩ := by
        simp only [Sx.next, K.next, hu, if_neg hx, eb]
        rw [if_pos (by simpa using hf2)]
      have c : canonP s u r.x = (movP s u.n == movP s r.x.n) := by rw [canonP, if_pos hf2]
      have q2 : (Sx.mk (some (.compS u.n r.x.n (.exch f (s.got f) r ⟨false, true, false, 0⟩))) true Ou.zero).next (s.load f) = ⟨some (.comp2S (movP s u.n) r.x.n (.exch f (s.got f) r ⟨false, true, false, 0⟩)), false, Ou.zero⟩ := rfl
      rcases hm : (movP s u.n == movP s r.x.n) with _ | _
      · have hm' : ¬ movP s u.n = movP s r.x.n := by simpa using hm
        have q3 : (Sx.mk (some (.comp2S (movP s u.n) r.x.n (.exch f (s.got f) r ⟨false, true, false, 0⟩))) false Ou.zero).next ((s.load f).load u.n) = ⟨none, false, Ou.zero⟩ := by
          simp only [Sx.next, K.next, got_load]
          exact if_neg hm'
        exact ⟨3, ⟨none, false, Ou.zero⟩, ((s.load f).load u.n).load r.x.n, by omega, Ends.step rfl q rfl (Ends.step rfl q2 rfl (Ends.step rfl q3 rfl (Ends.zero rfl))), by rw [c, hm]; rfl, by rw [c, hm]; exact hu, hl⟩
      · have hm' : movP s u.n = movP s r.x.n := by simpa using hm
        have q3 : (Sx.mk (some (.comp2S (movP s u.n) r.x.n (.exch f (s.got f) r ⟨false, true, false, 0⟩))) false Ou.zero).next ((s.load f).load u.n) = ⟨some (.exch f (s.got f) r ⟨false, true, false, 0⟩), false, Ou.zero⟩ := by
          simp only [Sx.next, K.next, got_load]
          exact if_pos hm'
        refine ⟨4, ⟨none, true, ⟨0, Vl.zero, true⟩⟩, (((s.load f).load u.n).load r.x.n).cas f ((((s.load f).load u.n).load r.x.n).got f) r.y.w, by omega, Ends.step rfl q rfl (Ends.step rfl q2 rfl (Ends.step rfl q3 rfl (exch_ends (s := ((s.load f).load u.n).load r.x.n) hl rfl hf r _ false))), by rw [c, hm], ?_, by rw [St.n_cas]; exact hl⟩
        rw [c, hm, got_cas (s := ((s.load f).load u.n).load r.x.n) hl hf]; rfl
    · have q : (Sx.mk (some (.swap f r ⟨false, true, false, 0⟩)) false Ou.zero).next s = ⟨none, true, Ou.zero⟩ := by
        simp only [Sx.next, K.next, hu, if_neg hx]
        rw [if_neg (by simpa using hf2)]
      have c : canonP s u r.x = false := by rw [canonP, if_neg hf2]; simpa using hx
      refine ⟨1, ⟨none, true, Ou.zero⟩, s.load f, by omega, Ends.step rfl q rfl (Ends.zero rfl), by rw [c]; rfl, by rw [c]; exact hu, hl⟩
end Go.Proofs.YtmlgohknbjfciaaDoor

namespace Go.Proofs.YtmlgohknbjfciaaDoor
set_option linter.unusedVariables false
set_option linter.unusedSimpArgs false
set_option maxRecDepth 100000
open H.Plain (hw pS pC pN pM pG pT pL mv)

/-- the header, the fields, the copy's fields; the other headers -/
structure M6 (s : St) (h : Int) (a c : Nat → Int) : Prop where
  len : s.ws.length = 160
  hd : s.word 96 = h
  fa : ∀ k : Nat, k < 3 → s.word (97 + (k : Int)) = a k
  fc : ∀ k : Nat, k < 3 → s.word (113 + (k : Int)) = c k
  o1 : s.word 100 = H0
  o2 : s.word 112 = H0
  t : s.t = 0
section
variable {s : St} {h : Int} {a c : Nat → Int} {k : Nat}
theorem in_a (hk : k < 3) : In (97 + (k : Int)) := ⟨by omega, by omega⟩
theorem in_c (hk : k < 3) : In (113 + (k : Int)) := ⟨by omega, by omega⟩
theorem in96 : In 96 := ⟨by omega, by omega⟩
theorem M6.load (m : M6 s h a c) {x : Int} (hx : In x) : M6 (s.load x) h a c := ⟨m.len, m.hd, m.fa, m.fc, m.o1, m.o2, by rw [t_load m.len hx]; exact m.t⟩
theorem M6.got96 (m : M6 s h a c) : s.got 96 = h := by rw [in96.got m.len]; exact m.hd
theorem M6.gota (m : M6 s h a c) (hk : k < 3) : s.got (97 + (k : Int)) = a k := by rw [(in_a hk).got m.len]; exact m.fa k hk
theorem M6.gotc (m : M6 s h a c) (hk : k < 3) : s.got (113 + (k : Int)) = c k := by rw [(in_c hk).got m.len]; exact m.fc k hk
theorem M6.storeA (m : M6 s h a c) (hk : k < 3) (v : Int) : M6 (s.store (97 + (k : Int)) v) h (updN a k v) c := by
  have I := in_a hk
  have W : ∀ b, In b → (s.store (97 + (k : Int)) v).word b = if 97 + (k : Int) = b then v else s.word b := fun b hb => word_store m.len I hb
  refine ⟨n_store' m.len _ _, ?_, fun j hj => ?_, fun j hj => ?_, ?_, ?_, by rw [t_store m.len I]; exact m.t⟩
  · rw [W _ in96, if_neg (by omega)]; exact m.hd
  · rw [W _ (in_a hj)]; unfold updN
    by_cases e : j = k
    · subst e; rw [if_pos rfl, if_pos rfl]
    · rw [if_neg (by omega), if_neg e]; exact m.fa j hj
  · rw [W _ (in_c hj), if_neg (by omega)]; exact m.fc j hj
  · rw [W _ ⟨by omega, by omega⟩, if_neg (by omega)]; exact m.o1
  · rw [W _ ⟨by omega, by omega⟩, if_neg (by omega)]; exact m.o2
theorem M6.storeC (m : M6 s h a c) (hk : k < 3) (v : Int) : M6 (s.store (113 + (k : Int)) v) h a (updN c k v) := by
  have I := in_c hk
  have W : ∀ b, In b → (s.store (113 + (k : Int)) v).word b = if 113 + (k : Int) = b then v else s.word b := fun b hb => word_store m.len I hb
  refine ⟨n_store' m.len _ _, ?_, fun j hj => ?_, fun j hj => ?_, ?_, ?_, by rw [t_store m.len I]; exact m.t⟩
  · rw [W _ in96, if_neg (by omega)]; exact m.hd
  · rw [W _ (in_a hj), if_neg (by omega)]; exact m.fa j hj
  · rw [W _ (in_c hj)]; unfold updN
    by_cases e : j = k
    · subst e; rw [if_pos rfl, if_pos rfl]
    · rw [if_neg (by omega), if_neg e]; exact m.fc j hj
  · rw [W _ ⟨by omega, by omega⟩, if_neg (by omega)]; exact m.o1
  · rw [W _ ⟨by omega, by omega⟩, if_neg (by omega)]; exact m.o2
theorem M6.cas (m : M6 s h a c) (n : Int) : s.ok1 96 h = true ∧ M6 (s.cas 96 h n) n a c := by
  have W : ∀ b, In b → (s.cas 96 h n).word b = if 96 = b then n else s.word b := fun b hb => word_cas_ok m.len in96 hb m.hd
  refine ⟨by rw [ok1_iff m.len in96, m.hd]; simp, n_cas' m.len _ _ _, ?_, fun j hj => ?_, fun j hj => ?_, ?_, ?_, by rw [t_cas m.len in96]; exact m.t⟩
  · rw [W _ in96, if_pos rfl]
  · rw [W _ (in_a hj), if_neg (by omega)]; exact m.fa j hj
  · rw [W _ (in_c hj), if_neg (by omega)]; exact m.fc j hj
  · rw [W _ ⟨by omega, by omega⟩, if_neg (by omega)]; exact m.o1
  · rw [W _ ⟨by omega, by omega⟩, if_neg (by omega)]; exact m.o2
theorem M6.still {x o n : Int} (m : M6 s h a c) (hx : In x) (ho : s.word x ≠ o) : s.ok1 x o = false ∧ M6 (s.cas x o n) h a c := by
  have W : ∀ b, (s.cas x o n).word b = s.word b := fun b => word_cas_no m.len hx ho
  exact ⟨by rw [ok1_iff m.len hx]; simpa using ho, n_cas' m.len _ _ _, by rw [W]; exact m.hd, fun j hj => by rw [W]; exact m.fa j hj, fun j hj => by rw [W]; exact m.fc j hj, by rw [W]; exact m.o1, by rw [W]; exact m.o2, by rw [t_cas m.len hx]; exact m.t⟩
theorem M6.casA (m : M6 s h a c) (hk : k < 3) (v : Int) : s.ok1 (97 + (k : Int)) (a k) = true ∧ M6 (s.cas (97 + (k : Int)) (a k) v) h (updN a k v) c := by
  have I := in_a hk
  have W : ∀ b, In b → (s.cas (97 + (k : Int)) (a k) v).word b = if 97 + (k : Int) = b then v else s.word b := fun b hb => word_cas_ok m.len I hb (m.fa k hk)
  refine ⟨by rw [ok1_iff m.len I, m.fa k hk]; simp, n_cas' m.len _ _ _, ?_, fun j hj => ?_, fun j hj => ?_, ?_, ?_, by rw [t_cas m.len I]; exact m.t⟩
  · rw [W _ in96, if_neg (by omega)]; exact m.hd
  · rw [W _ (in_a hj)]; unfold updN
    by_cases e : j = k
    · subst e; rw [if_pos rfl, if_pos rfl]
    · rw [if_neg (by omega), if_neg e]; exact m.fa j hj
  · rw [W _ (in_c hj), if_neg (by omega)]; exact m.fc j hj
  · rw [W _ ⟨by omega, by omega⟩, if_neg (by omega)]; exact m.o1
  · rw [W _ ⟨by omega, by omega⟩, if_neg (by omega)]; exact m.o2
theorem M6.casC (m : M6 s h a c) (hk : k < 3) (v : Int) : s.ok1 (113 + (k : Int)) (c k) = true ∧ M6 (s.cas (113 + (k : Int)) (c k) v) h a (updN c k v) := by
  have I := in_c hk
  have W : ∀ b, In b → (s.cas (113 + (k : Int)) (c k) v).word b = if 113 + (k : Int) = b then v else s.word b := fun b hb => word_cas_ok m.len I hb (m.fc k hk)
  refine ⟨by rw [ok1_iff m.len I, m.fc k hk]; simp, n_cas' m.len _ _ _, ?_, fun j hj => ?_, fun j hj => ?_, ?_, ?_, by rw [t_cas m.len I]; exact m.t⟩
  · rw [W _ in96, if_neg (by omega)]; exact m.hd
  · rw [W _ (in_a hj), if_neg (by omega)]; exact m.fa j hj
  · rw [W _ (in_c hj)]; unfold updN
    by_cases e : j = k
    · subst e; rw [if_pos rfl, if_pos rfl]
    · rw [if_neg (by omega), if_neg e]; exact m.fc j hj
  · rw [W _ ⟨by omega, by omega⟩, if_neg (by omega)]; exact m.o1
  · rw [W _ ⟨by omega, by omega⟩, if_neg (by omega)]; exact m.o2
end
/-! ### what is laid -/
theorem laidL_len (t : Int) (l : Nat → Vl) (j : Nat) : (laidL t l j).ws.length = 160 := by
  induction j with
  | zero => simp [laidL, St.new]
  | succ j ih => exact n_store' ih _ _
theorem laidL_word (t : Int) (l : Nat → Vl) (j : Nat) (hj : j ≤ 8) (b : Int) (hb : In b) : (laidL t l j).word b = if 96 ≤ b ∧ b < 96 + (j : Int) then wl t l (b - 96).toNat else 0 := by
  induction j with
  | zero =>
    rw [if_neg (by omega)]
    simp only [laidL, St.word, St.new]
    rw [List.getD_eq_getElem?_getD, List.getElem?_replicate]
    split <;> rfl
  | succ j ih =>
    simp only [laidL]
    rw [word_store (laidL_len t l j) ⟨by omega, by omega⟩ hb, ih (by omega)]
    by_cases e : 96 + (j : Int) = b
    · rw [if_pos e, if_pos (by omega)]
      congr 1
      omega
    · rw [if_neg e]
      by_cases e2 : 96 ≤ b ∧ b < 96 + (j : Int)
      · rw [if_pos e2, if_pos (by omega)]
      · rw [if_neg e2, if_neg (by omega)]
theorem laidL_t (t : Int) (l : Nat → Vl) (j : Nat) (hj : j ≤ 8) : (laidL t l j).t = 0 := by
  induction j with
  | zero => rfl
  | succ j ih => simp only [laidL]; rw [t_store (laidL_len t l j) ⟨by omega, by omega⟩]; exact ih (by omega)
theorem laid_len (t k : Int) (l : Nat → Vl) : (laidS t k l).ws.length = 160 := n_store' (n_store' (laidL_len t l 8) _ _) _ _
theorem laid_word (t k : Int) (l : Nat → Vl) (b : Int) (hb : In b) : (laidS t k l).word b = if b = 16 then S.Plain.bw k 0 0 0 else if b = 112 then H0 else if 96 ≤ b ∧ b < 104 then wl t l (b - 96).toNat else 0 := by
  unfold laidS
  rw [word_store (n_store' (laidL_len t l 8) _ _) ⟨by omega, by omega⟩ hb, word_store (laidL_len t l 8) ⟨by omega, by omega⟩ hb, laidL_word t l 8 (by omega) b hb]
  by_cases e0 : b = 16
  · rw [if_pos e0.symm, if_pos e0]
  · rw [if_neg (Ne.symm e0), if_neg e0]
    by_cases e : b = 112
    · rw [if_pos e.symm, if_pos e]
    · rw [if_neg (Ne.symm e), if_neg e]; rfl
theorem laid_fld (t k : Int) (l : Nat → Vl) {j : Nat} (hk : j < 3) : (laidS t k l).word (97 + (j : Int)) = (l j).w := by
  rw [laid_word t k l _ (in_a hk), if_neg (by omega), if_neg (by omega), if_pos (by omega)]
  rcases (show j = 0 ∨ j = 1 ∨ j = 2 by omega) with rfl | rfl | rfl <;> rfl
theorem laid_m6 (t k : Int) (l : Nat → Vl) : M6 (laidS t k l) (HT t) (fun j => (l j).w) (fun _ => 0) := by
  refine ⟨laid_len t k l, ?_, fun j hk => laid_fld t k l hk, fun j hk => ?_, ?_, ?_, ?_⟩
  · rw [laid_word t k l _ in96, if_neg (by omega), if_neg (by omega), if_pos (by omega)]; rfl
  · rw [laid_word t k l _ (in_c hk), if_neg (by omega), if_neg (by omega), if_neg (by omega)]
  · rw [laid_word t k l _ ⟨by omega, by omega⟩, if_neg (by omega), if_neg (by omega), if_pos (by omega)]; rfl
  · rw [laid_word t k l _ ⟨by omega, by omega⟩, if_neg (by omega), if_pos rfl]
  · unfold laidS; rw [t_store (n_store' (laidL_len t l 8) _ _) ⟨by omega, by omega⟩, t_store (laidL_len t l 8) ⟨by omega, by omega⟩]; exact laidL_t t l 8 (by omega)
theorem good_fldP (ll : Nat) (zl : Nat → Vl) (j : Nat) : (fldP ll zl j).Good := by
  unfold fldP; split
  · exact good_valP _
  · exact good_zero
/-- a claimed object's fields: none has the sentinel -/
def clP (ll : Nat) (zl : Nat → Vl) (j : Nat) : Vl := if j < ll ∧ j < 3 then (if valP (zl j) = nine then ⟨0, 8⟩ else valP (zl j)) else Vl.zero
theorem good_clP (ll : Nat) (zl : Nat → Vl) (j : Nat) : (clP ll zl j).Good ∧ clP ll zl j ≠ nine := by
  unfold clP; split
  · split
    · exact ⟨⟨.inl rfl, by decide, by decide, fun h => by simp [Vl.far] at h⟩, by decide⟩
    · exact ⟨good_valP _, by assumption⟩
  · exact ⟨good_zero, by decide⟩
theorem good_w72 {v : Vl} (h : v.Good) : v.w = 72 ↔ v = nine := by
  constructor
  · intro e
    rw [← h.of, e]
    decide
  · intro e
    rw [e]
    decide
/-! ### headers -/
theorem h_C : pN (HT 4) = 3 ∧ pT (HT 4) = 4 ∧ pL (HT 4) = 112 := by decide
theorem h_M : pN (HT 2) = 3 ∧ pT (HT 2) = 2 ∧ pL (HT 2) = 112 := by decide
theorem h_ne : HT 4 ≠ HT 2 := by decide
/-- where an object is, by the first one's header -/
theorem mv_vals : mv (HT 4) 96 = 96 ∧ mv (HT 2) 96 = 112 ∧ mv H0 96 = 96 ∧ mv H0 100 = 100 ∧ mv H0 112 = 112 := by decide
/-! ### who copies -/
structure Mo where
  pc : Nat
  w : Int
def Mo.next (m : Mo) (s : St) : Mo :=
  if m.pc = 10 then m else if m.pc = 9 then ⟨10, m.w⟩
  else if m.pc % 3 = 0 then (if s.got (97 + ((m.pc / 3 : Nat) : Int)) = 72 then ⟨m.pc + 3, 72⟩ else ⟨m.pc + 1, s.got (97 + ((m.pc / 3 : Nat) : Int))⟩)
  else if m.pc % 3 = 1 then ⟨m.pc + 1, m.w⟩
  else if s.ok1 (97 + ((m.pc / 3 : Nat) : Int)) m.w then ⟨m.pc + 1, m.w⟩ else ⟨m.pc - 2, m.w⟩
def Mo.mem (m : Mo) (s : St) : St :=
  if m.pc = 10 then s else if m.pc = 9 then s.store 96 (HT 2)
  else if m.pc % 3 = 0 then s.load (97 + ((m.pc / 3 : Nat) : Int))
  else if m.pc % 3 = 1 then s.store (113 + ((m.pc / 3 : Nat) : Int)) m.w
  else s.cas (97 + ((m.pc / 3 : Nat) : Int)) m.w 72
structure Mo.Ok (m : Mo) : Prop where
  pc : m.pc ≤ 10
  w : U64 m.w
theorem u72 : U64 72 := ⟨by decide, by decide⟩
theorem Mo.Ok.next {m : Mo} {s : St} (h : m.Ok) (r : s.Rng) : (m.next s).Ok := by
  have := h.pc
  unfold Mo.next
  split
  · exact h
  · split
    · exact ⟨Nat.le_refl _, h.w⟩
    · split
      · split
        · exact ⟨by simp only; omega, u72⟩
        · exact ⟨by simp only; omega, r.got _⟩
      · split
        · exact ⟨by simp only; omega, h.w⟩
        · split
          · exact ⟨by simp only; omega, h.w⟩
          · exact ⟨by simp only; omega, h.w⟩
/-- what a field has, wherever it is -/
def cur (a c : Nat → Int) (k : Nat) : Int := if a k = 72 then c k else a k
/-- the object while it is copied -/
structure Mv (m : Mo) (a c : Nat → Int) : Prop where
  pc : m.pc ≤ 9
  lo : ∀ k : Nat, k < 3 → 3 * k + 3 ≤ m.pc → a k = 72
  hi : ∀ k : Nat, k < 3 → m.pc < 3 * k + 3 → a k ≠ 72
  w : m.pc % 3 ≠ 0 → m.w ≠ 72
  c : m.pc % 3 = 2 → c (m.pc / 3) = m.w
/-- the object and its copy, and the one that copies -/
def Ob (s : St) (m : Mo) (a c : Nat → Int) : Prop := (M6 s (HT 4) a c ∧ Mv m a c) ∨ (M6 s (HT 2) a c ∧ m.pc = 10 ∧ ∀ k, k < 3 → a k = 72)
section
variable {s : St} {h : Int} {a c : Nat → Int} {m : Mo} {k : Nat}
theorem M6.storeH (M : M6 s h a c) (n : Int) : M6 (s.store 96 n) n a c := by
  have W : ∀ b, In b → (s.store 96 n).word b = if 96 = b then n else s.word b := fun b hb => word_store M.len in96 hb
  refine ⟨n_store' M.len _ _, ?_, fun j hj => ?_, fun j hj => ?_, ?_, ?_, by rw [t_store M.len in96]; exact M.t⟩
  · rw [W _ in96, if_pos rfl]
  · rw [W _ (in_a hj), if_neg (by omega)]; exact M.fa j hj
  · rw [W _ (in_c hj), if_neg (by omega)]; exact M.fc j hj
  · rw [W _ ⟨by omega, by omega⟩, if_neg (by omega)]; exact M.o1
  · rw [W _ ⟨by omega, by omega⟩, if_neg (by omega)]; exact M.o2
theorem Ob.m6 (O : Ob s m a c) : ∃ h, M6 s h a c := by
  obtain ⟨M, _⟩ | ⟨M, _⟩ := O
  · exact ⟨_, M⟩
  · exact ⟨_, M⟩
theorem Ob.t (O : Ob s m a c) : s.t = 0 := by obtain ⟨h, M⟩ := O.m6; exact M.t
theorem Ob.load (O : Ob s m a c) {x : Int} (hx : In x) : Ob (s.load x) m a c := by
  obtain ⟨M, V⟩ | ⟨M, h⟩ := O
  · exact .inl ⟨M.load hx, V⟩
  · exact .inr ⟨M.load hx, h⟩
theorem Ob.gota (O : Ob s m a c) (hk : k < 3) : s.got (97 + (k : Int)) = a k := by obtain ⟨h, M⟩ := O.m6; exact M.gota hk
theorem Ob.gotc (O : Ob s m a c) (hk : k < 3) : s.got (113 + (k : Int)) = c k := by obtain ⟨h, M⟩ := O.m6; exact M.gotc hk
/-- a write where the field is -/
theorem Ob.casA (O : Ob s m a c) (hk : k < 3) {v : Int} (h72 : a k ≠ 72) (hv : v ≠ 72) : s.ok1 (97 + (k : Int)) (a k) = true ∧ Ob (s.cas (97 + (k : Int)) (a k) v) m (updN a k v) c := by
  obtain ⟨M, V⟩ | ⟨M, h, h'⟩ := O
  · obtain ⟨q1, q2⟩ := M.casA hk v
    refine ⟨q1, .inl ⟨q2, V.pc, fun j hj h => ?_, fun j hj h => ?_, V.w, V.c⟩⟩
    · unfold updN
      by_cases e : j = k
      · subst e; exact absurd (V.lo j hj h) h72
      · rw [if_neg e]; exact V.lo j hj h
    · unfold updN
      by_cases e : j = k
      · rw [if_pos e]; exact hv
      · rw [if_neg e]; exact V.hi j hj h
  · exact absurd (h' k hk) h72
theorem Ob.still (O : Ob s m a c) {x o n : Int} (hx : In x) (ho : s.got x ≠ o) : s.ok1 x o = false ∧ Ob (s.cas x o n) m a c := by
  obtain ⟨M, V⟩ | ⟨M, h⟩ := O
  · obtain ⟨q1, q2⟩ := M.still (n := n) hx (by rw [← hx.got M.len]; exact ho)
    exact ⟨q1, .inl ⟨q2, V⟩⟩
  · obtain ⟨q1, q2⟩ := M.still (n := n) hx (by rw [← hx.got M.len]; exact ho)
    exact ⟨q1, .inr ⟨q2, h⟩⟩
/-- the copy's field is written, when the field is there -/
theorem Ob.updC (O : Ob s m a c) (hk : k < 3) (h72 : a k = 72) {s' : St} {v : Int} (hs : ∀ h, M6 s h a c → M6 s' h a (updN c k v)) : Ob s' m a (updN c k v) := by
  obtain ⟨M, V⟩ | ⟨M, h⟩ := O
  · refine .inl ⟨hs _ M, V.pc, V.lo, V.hi, V.w, fun h => ?_⟩
    have hp := V.pc
    unfold updN
    rw [if_neg (fun e => V.hi k hk (by omega) h72)]
    exact V.c h
  · exact .inr ⟨hs _ M, h⟩
theorem Ob.storeC (O : Ob s m a c) (hk : k < 3) (h72 : a k = 72) (v : Int) : Ob (s.store (113 + (k : Int)) v) m a (updN c k v) := O.updC hk h72 fun _ M => M.storeC hk v
theorem Ob.casC (O : Ob s m a c) (hk : k < 3) (h72 : a k = 72) (v : Int) : s.ok1 (113 + (k : Int)) (c k) = true ∧ Ob (s.cas (113 + (k : Int)) (c k) v) m a (updN c k v) := by
  refine ⟨?_, O.updC hk h72 fun _ M => (M.casC hk v).2⟩
  obtain ⟨h, M⟩ := O.m6
  exact (M.casC hk v).1
/-- how far the one that copies is from its end -/
def Mo.far (m : Mo) (a : Nat → Int) : Nat := if m.pc = 10 then 0 else if m.pc = 9 then 1 else 13 - m.pc + (if m.pc % 3 ≠ 0 ∧ m.w ≠ a (m.pc / 3) then 3 else 0)
theorem Mo.far_le (m : Mo) (a : Nat → Int) : m.far a ≤ 15 := by
  unfold Mo.far
  split
  · omega
  · split
    · omega
    · split <;> omega
theorem Mo.far0 {m : Mo} (h : m.pc ≤ 10) (h0 : m.far a = 0) : m.pc = 10 := by
  unfold Mo.far at h0
  split at h0
  · assumption
  · split at h0
    · omega
    · split at h0 <;> omega
/-- the one that copies steps -/
theorem Ob.mo (O : Ob s m a c) : ∃ a' c', Ob (m.mem s) (m.next s) a' c' ∧ (∀ k, k < 3 → cur a' c' k = cur a c k) ∧ (∀ k, k < 3 → a k = 72 → a' k = 72) ∧ (m.next s).far a' ≤ m.far a - 1 := by
  obtain ⟨M, V⟩ | ⟨M, h, h'⟩ := O
  · have hp := V.pc
    by_cases h9 : m.pc = 9
    · refine ⟨a, c, .inr ?_, fun _ _ => rfl, fun _ _ h => h, ?_⟩
      · simp only [Mo.mem, Mo.next, h9]
        exact ⟨M.storeH _, rfl, fun k hk => V.lo k hk (by omega)⟩
      · simp [Mo.next, Mo.far, h9]
    · have h10 : m.pc ≠ 10 := by omega
      have hk : m.pc / 3 < 3 := by omega
      have hi : a (m.pc / 3) ≠ 72 := V.hi _ hk (by omega)
      have hg := M.gota hk
      by_cases h0 : m.pc % 3 = 0
      · refine ⟨a, c, .inl ⟨?_, ?_⟩, fun _ _ => rfl, fun _ _ h => h, ?_⟩
        · simp only [Mo.mem, if_neg h10, if_neg h9, if_pos h0]
          exact M.load (in_a hk)
        · simp only [Mo.next, if_neg h10, if_neg h9, if_pos h0, hg, if_neg hi]
          refine ⟨by simp only; omega, fun k hk' h => V.lo k hk' (by simp only at h; omega), fun k hk' h => V.hi k hk' (by simp only at h; omega), fun _ => hi, fun h => by simp only at h; omega⟩
        · simp only [Mo.next, if_neg h10, if_neg h9, if_pos h0, hg, if_neg hi, Mo.far]
          rw [if_neg (by omega), if_neg (by omega), if_neg (by rw [show (m.pc + 1) / 3 = m.pc / 3 by omega]; simp), if_neg (by omega)]
          omega
      · by_cases h1 : m.pc % 3 = 1
        · refine ⟨a, updN c (m.pc / 3) m.w, .inl ⟨?_, ?_⟩, fun k hk' => ?_, fun _ _ h => h, ?_⟩
          · simp only [Mo.mem, if_neg h10, if_neg h9, if_neg h0, if_pos h1]
            exact M.storeC hk _
          · simp only [Mo.next, if_neg h10, if_neg h9, if_neg h0, if_pos h1]
            refine ⟨by simp only; omega, fun k hk' h => V.lo k hk' (by simp only at h; omega), fun k hk' h => V.hi k hk' (by simp only at h; omega), fun _ => V.w h0, fun h => ?_⟩
            simp only
            rw [show (m.pc + 1) / 3 = m.pc / 3 by omega]
            simp [updN]
          · unfold cur updN
            by_cases e : k = m.pc / 3
            · subst e; rw [if_neg hi, if_neg hi]
            · rw [if_neg e]
          · simp only [Mo.next, if_neg h10, if_neg h9, if_neg h0, if_pos h1, Mo.far]
            rw [if_neg (by omega), if_neg (by omega), show (m.pc + 1) / 3 = m.pc / 3 by omega]
            by_cases hw : m.w = a (m.pc / 3)
            · rw [if_neg (by simp [hw]), if_neg (by simp [hw])]; omega
            · rw [if_pos ⟨by omega, hw⟩, if_pos ⟨h0, hw⟩]; omega
        · have h2 : m.pc % 3 = 2 := by omega
          have hn : ∀ P : Prop, [Decidable P] → True := fun _ _ => trivial
          by_cases hw : a (m.pc / 3) = m.w
          · obtain ⟨q1, q2⟩ := M.casA hk 72
            rw [hw] at q1 q2
            refine ⟨updN a (m.pc / 3) 72, c, .inl ⟨?_, ?_⟩, fun k hk' => ?_, fun k _ h => ?_, ?_⟩
            · simp only [Mo.mem, if_neg h10, if_neg h9, if_neg h0, if_neg h1]
              exact q2
            · simp only [Mo.next, if_neg h10, if_neg h9, if_neg h0, if_neg h1, q1, if_true]
              refine ⟨by simp only; omega, fun k hk' h => ?_, fun k hk' h => ?_, fun h => by simp only at h; omega, fun h => by simp only at h; omega⟩
              · unfold updN
                split
                · rfl
                · exact V.lo k hk' (by simp only at h; omega)
              · unfold updN
                simp only at h
                rw [if_neg (by omega)]
                exact V.hi k hk' (by omega)
            · unfold cur updN
              by_cases e : k = m.pc / 3
              · subst e; rw [if_pos rfl, if_pos rfl, if_neg hi, V.c h2, hw]
              · rw [if_neg e]
            · unfold updN
              split
              · rfl
              · exact h
            · simp only [Mo.next, if_neg h10, if_neg h9, if_neg h0, if_neg h1, q1, if_true, Mo.far]
              rw [if_neg (by omega), if_neg (show ¬ (m.pc % 3 ≠ 0 ∧ m.w ≠ a (m.pc / 3)) by rw [hw]; simp)]
              by_cases e9 : m.pc + 1 = 9
              · rw [if_pos e9]; omega
              · rw [if_neg e9, if_neg (show ¬ ((m.pc + 1) % 3 ≠ 0 ∧ _) by omega)]; omega
          · obtain ⟨q1, q2⟩ := M.still (n := 72) (in_a hk) (show s.word (97 + ((m.pc / 3 : Nat) : Int)) ≠ m.w by rw [M.fa _ hk]; exact hw)
            refine ⟨a, c, .inl ⟨?_, ?_⟩, fun _ _ => rfl, fun _ _ h => h, ?_⟩
            · simp only [Mo.mem, if_neg h10, if_neg h9, if_neg h0, if_neg h1]
              exact q2
            · simp only [Mo.next, if_neg h10, if_neg h9, if_neg h0, if_neg h1, q1, Bool.false_eq_true, if_false]
              refine ⟨by simp only; omega, fun k hk' h => V.lo k hk' (by simp only at h; omega), fun k hk' h => V.hi k hk' (by simp only at h; omega), fun h => by simp only at h; omega, fun h => by simp only at h; omega⟩
            · simp only [Mo.next, if_neg h10, if_neg h9, if_neg h0, if_neg h1, q1, Bool.false_eq_true, if_false, Mo.far]
              rw [if_neg (by omega), if_neg (by omega), if_neg (show ¬ ((m.pc - 2) % 3 ≠ 0 ∧ _) by omega), if_pos ⟨h0, fun e => hw e.symm⟩]
              omega
  · refine ⟨a, c, .inr ?_, fun _ _ => rfl, fun _ _ h => h, ?_⟩
    · simp only [Mo.mem, Mo.next, h]
      exact ⟨M, h, h'⟩
    · simp [Mo.next, Mo.far, h]
theorem Ob.done (O : Ob s m a c) (h : m.pc = 10) : ∀ k, k < 3 → a k = 72 := by
  obtain ⟨M, V⟩ | ⟨M, _, h'⟩ := O
  · have := V.pc; omega
  · exact h'
end
/-! ### an access alone -/
def runC (x : Cw) (s : St) : Nat → Cw × St
  | 0 => (x, s)
  | j + 1 => ((runC x s j).1.next (runC x s j).2, (runC x s j).1.mem (runC x s j).2)
theorem runC_succ (x : Cw) (s : St) (j : Nat) : runC x s (j + 1) = runC (x.next s) (x.mem s) j := by
  induction j with
  | zero => rfl
  | succ j ih => rw [runC, ih]; rfl
theorem runC_fin (b : Bool) (o : Ou) (s : St) (j : Nat) : runC (.fin b o) s j = (.fin b o, s) := by
  induction j with
  | zero => rfl
  | succ j ih => rw [runC, ih]; rfl
/-- it is done behind d steps, and not ahead -/
structure EndsC (x : Cw) (s : St) (d : Nat) (x' : Cw) (s' : St) : Prop where
  at_ : runC x s d = (x', s')
  done : x'.done = true
  not : ∀ j, j < d → (runC x s j).1.done = false
theorem EndsC.zero {x : Cw} {s : St} (h : x.done = true) : EndsC x s 0 x s := ⟨rfl, h, fun j hj => by omega⟩
theorem EndsC.step {x x1 x' : Cw} {s s1 s' : St} {d : Nat} (h : x.done = false) (q : x.next s = x1) (m : x.mem s = s1) (e : EndsC x1 s1 d x' s') : EndsC x s (d + 1) x' s' := by
  subst q m
  refine ⟨by rw [runC_succ]; exact e.at_, e.done, fun j hj => ?_⟩
  cases j with
  | zero => exact h
  | succ j => rw [runC_succ]; exact e.not j (by omega)
theorem done_fin {x : Cw} (h : x.done = true) : ∃ b o, x = .fin b o := by
  cases x <;> first | exact ⟨_, _, rfl⟩ | cases h
theorem EndsC.past {x x' : Cw} {s s' : St} {d : Nat} (e : EndsC x s d x' s') (j : Nat) : runC x s (d + j) = (x', s') := by
  obtain ⟨b, o, rfl⟩ := done_fin e.done
  induction j with
  | zero => exact e.at_
  | succ j ih => rw [← Nat.add_assoc, runC, ih]; rfl
/-- a Direct within an access -/
theorem EndsC.dr {x x' : Sx} {s s' : St} {d : Nat} (e : Ends x s d x' s') (hd : x.done = false) (b : Bool) : EndsC (.dr b x) s d (.fin x'.hit x'.o) s' := by
  induction d generalizing x s b with
  | zero =>
    have := e.at_
    simp only [runX, Prod.mk.injEq] at this
    rw [this.1, e.done] at hd
    cases hd
  | succ d ih =>
    have e1 : Ends (x.next s) (x.mem s) d x' s' := ⟨by rw [← runX_succ]; exact e.at_, e.done, fun j hj => by rw [← runX_succ]; exact e.not (j + 1) (by omega)⟩
    rcases hn : (x.next s).done with _ | _
    · exact EndsC.step rfl (by simp only [Cw.next, Cw.onD, hn]; rfl) rfl (ih e1 hn _)
    · have hd0 : d = 0 := by
        cases d with
        | zero => rfl
        | succ d =>
          have := e1.not 0 (by omega)
          simp only [runX] at this
          rw [hn] at this
          cases this
      subst hd0
      have := e1.at_
      simp only [runX, Prod.mk.injEq] at this
      obtain ⟨q1, q2⟩ := this
      exact EndsC.step rfl (by simp only [Cw.next, Cw.onD]; rw [q1, if_pos e.done]) q2 (EndsC.zero rfl)
end Go.Proofs.YtmlgohknbjfciaaDoor

namespace Go.Proofs.YtmlgohknbjfciaaDoor
set_option linter.unusedVariables false
set_option linter.unusedSimpArgs false
set_option maxRecDepth 100000
open H.Plain (hw pS pC pN pM pG pT pL mv)

def rqW (f : Nat) (v : Vl) : Rq := ⟨2, 96, f, Vl.zero, v⟩
def rqR (f : Nat) : Rq := ⟨1, 96, f, Vl.zero, Vl.zero⟩
def rqS (u n : Vl) : Rq := ⟨3, 96, 0, u, n⟩
theorem e97 (f : Nat) : (96 : Int) + 1 + (f : Int) = 97 + (f : Int) := by omega
theorem e113 (f : Nat) : (112 : Int) + 1 + (f : Int) = 113 + (f : Int) := by omega
theorem go_W (b : Bool) (f : Nat) (v : Vl) : Cw.go b (rqW f v) false 112 = .dr b ⟨some (.store (113 + (f : Int)) v), false, Ou.zero⟩ := by rw [← e113]; rfl
theorem go_R (b : Bool) (f : Nat) : Cw.go b (rqR f) false 112 = .dr b ⟨some (.read (113 + (f : Int)) false), false, Ou.zero⟩ := by rw [← e113]; rfl
theorem go_S (b : Bool) (u n : Vl) : Cw.go b (rqS u n) false 112 = .dr b ⟨some (.swap 113 (rqS u n) (hwC false)), false, Ou.zero⟩ := rfl
section
variable {s : St} {h : Int} {a c old : Nat → Int} {m : Mo} {x : Cw} {r : Rq} {f : Nat} {sh : Bool}
theorem cur_upA (a c : Nat → Int) {f : Nat} {v : Int} (h : a f ≠ 72) (hv : v ≠ 72) (k : Nat) : cur (updN a f v) c k = updN (cur a c) f v k := by
  unfold cur updN
  by_cases e : k = f
  · rw [if_pos e, if_pos e, if_neg hv]
  · rw [if_neg e, if_neg e]
theorem cur_upC (a c : Nat → Int) {f : Nat} {v : Int} (h : a f = 72) (k : Nat) : cur a (updN c f v) k = updN (cur a c) f v k := by
  unfold cur updN
  by_cases e : k = f
  · subst e; rw [if_pos h, if_pos rfl, if_pos rfl]
  · rw [if_neg e, if_neg e]
/-- step 1 at each header -/
theorem Ob.hd (O : Ob s m a c) (h1 : r.at_ = 96) (h2 : 0 ≤ r.fd) (h3 : r.fd < 3) (sh fx : Bool) :
    (Cw.hd r sh fx).mem s = s.load 96 ∧ Ob (s.load 96) m a c ∧ (m.pc ≠ 10 ∧ (Cw.hd r sh fx).next s = .rd r sh fx 112 ∨ m.pc = 10 ∧ (∀ k, k < 3 → a k = 72) ∧ (Cw.hd r sh fx).next s = Cw.go false r fx 112) := by
  refine ⟨by simp only [Cw.mem, h1], O.load in96, ?_⟩
  obtain ⟨M, V⟩ | ⟨M, h, h'⟩ := O
  · left
    refine ⟨by have := V.pc; omega, ?_⟩
    simp only [Cw.next, h1, M.got96, h_C]
    rw [if_neg (by omega), if_neg (by decide), if_pos trivial]
  · right
    refine ⟨h, h', ?_⟩
    simp only [Cw.next, h1, M.got96, h_M]
    rw [if_neg (by omega), if_pos trivial]
theorem rd_next (h1 : r.at_ = 96) (h2 : r.fd = (f : Int)) (sh fx : Bool) (s : St) : (Cw.rd r sh fx 112).next s = Cw.seen r sh fx 112 (s.got (97 + (f : Int))) ∧ (Cw.rd r sh fx 112).mem s = s.load (97 + (f : Int)) := by
  simp only [Cw.next, Cw.mem, h1, h2, e97]
  exact ⟨trivial, trivial⟩
theorem sw_next (h1 : r.at_ = 96) (h2 : r.fd = (f : Int)) (sh fx : Bool) (z : Int) (s : St) : (Cw.sw r sh fx 112 z).next s = (if s.ok1 (97 + (f : Int)) z then .fin true ⟨0, Vl.zero, r.op == 3⟩ else .rd r sh fx 112) ∧ (Cw.sw r sh fx 112 z).mem s = s.cas (97 + (f : Int)) z r.y.w := by
  simp only [Cw.next, Cw.mem, h1, h2, e97]
  exact ⟨trivial, trivial⟩
theorem dr_W {v : Vl} (F : Int) (b hit : Bool) : (Cw.dr b ⟨some (.store F v), hit, Ou.zero⟩).next s = .fin true Ou.zero ∧ (Cw.dr b ⟨some (.store F v), hit, Ou.zero⟩).mem s = s.store F v.w := ⟨rfl, rfl⟩
theorem dr_R (F : Int) (b hit : Bool) : (Cw.dr b ⟨some (.read F false), hit, Ou.zero⟩).next s = .fin true ⟨0, Vl.of (s.got F), false⟩ ∧ (Cw.dr b ⟨some (.read F false), hit, Ou.zero⟩).mem s = s.load F := ⟨rfl, rfl⟩
/-! ### a write -/
/-- where the write stands; r: how many of its steps are left, when the copier is done -/
def KW (old : Nat → Int) (v : Vl) (f : Nat) (a c : Nat → Int) (x : Cw) (r : Nat) : Prop :=
  (∀ k, k < 3 → cur a c k = old k) ∧ (x = .hd (rqW f v) false false ∧ r = 2 ∨ x = .rd (rqW f v) false false 112 ∧ r = 2 ∨ v ≠ nine ∧ (∃ z, z ≠ 72 ∧ x = .sw (rqW f v) false false 112 z) ∧ r = 3 ∨ a f = 72 ∧ (∃ b, x = .dr b ⟨some (.store (113 + (f : Int)) v), false, Ou.zero⟩) ∧ r = 1) ∨
  (∀ k, k < 3 → cur a c k = updN old f v.w k) ∧ x = .fin true Ou.zero ∧ r = 0
structure KG (old : Nat → Int) (v : Vl) (f : Nat) (x : Cw) (m : Mo) (s : St) (r q : Nat) : Prop where
  ok : m.Ok
  or_ : ∃ a c, Ob s m a c ∧ KW old v f a c x r ∧ m.far a ≤ q
theorem upd3 {old a : Nat → Int} (h : ∀ k, k < 3 → a k = old k) (f : Nat) (v : Int) : ∀ k, k < 3 → updN a f v k = updN old f v k := fun k hk => by
  unfold updN; split
  · rfl
  · exact h k hk
variable {v : Vl} {n q : Nat}
theorem KG.le (G : KG old v f x m s n q) : n ≤ 3 := by
  obtain ⟨ok, a, c, O, ⟨_, h | h | h | h⟩ | h, _⟩ := G <;> omega
theorem KG.wide (G : KG old v f x m s n q) : KG old v f x m s n 15 := by
  obtain ⟨ok, a, c, O, K, _⟩ := G
  exact ⟨ok, a, c, O, K, Mo.far_le m a⟩
/-- it steps: on, or it has to wait and begins anew -/
theorem KG.w (G : KG old v f x m s n q) (hf : f < 3) (gv : v.Good) :
    ((x.next s).o.c ≠ 3 ∧ (∃ n', KG old v f (x.next s) m (x.mem s) n' 15 ∧ (m.pc = 10 → n' ≤ n - 1))) ∨
    ((x.next s).done = true ∧ (x.next s).o.c = 3 ∧ m.pc ≠ 10 ∧ KG old v f (.hd (rqW f v) false false) m (x.mem s) 2 15) := by
  have H1 : (rqW f v).at_ = 96 := rfl
  have H2 : (rqW f v).fd = (f : Int) := rfl
  obtain ⟨ok, a, c, O, ⟨hc, ⟨rfl, rfl⟩ | ⟨rfl, rfl⟩ | ⟨hv, ⟨z, hz, rfl⟩, rfl⟩ | ⟨ha, ⟨b, rfl⟩, rfl⟩⟩ | ⟨hc, rfl, rfl⟩, _⟩ := G
  · obtain ⟨e1, O', ⟨hm, e2⟩ | ⟨hm, ha, e2⟩⟩ := O.hd (r := rqW f v) H1 (by rw [H2]; omega) (by rw [H2]; omega) false false
    · rw [e1, e2]
      exact .inl ⟨by simp [Cw.o, Ou.zero], 2, ⟨ok, a, c, O', .inl ⟨hc, .inr (.inl ⟨rfl, rfl⟩)⟩, Mo.far_le _ _⟩, fun h => absurd h hm⟩
    · rw [e1, e2, go_W]
      exact .inl ⟨by simp [Cw.o, Ou.zero], 1, ⟨ok, a, c, O', .inl ⟨hc, .inr (.inr (.inr ⟨ha f hf, ⟨_, rfl⟩, rfl⟩))⟩, Mo.far_le _ _⟩, fun _ => by omega⟩
  · obtain ⟨e1, e2⟩ := rd_next H1 H2 false false s
    rw [e1, e2, O.gota hf]
    have O' := O.load (in_a hf)
    unfold Cw.seen
    by_cases h72 : a f = 72
    · rw [if_pos h72, go_W]
      exact .inl ⟨by simp [Cw.o, Ou.zero], 1, ⟨ok, a, c, O', .inl ⟨hc, .inr (.inr (.inr ⟨h72, ⟨_, rfl⟩, rfl⟩))⟩, Mo.far_le _ _⟩, fun _ => by omega⟩
    · have hm : m.pc ≠ 10 := fun h => h72 (O.done h f hf)
      rw [if_neg h72, if_neg (by simp [rqW]), if_neg (by simp [rqW])]
      by_cases h9 : v = nine
      · rw [if_pos (.inr h9)]
        exact .inr ⟨rfl, rfl, hm, ok, a, c, O', .inl ⟨hc, .inl ⟨rfl, rfl⟩⟩, Mo.far_le _ _⟩
      · rw [if_neg (by simpa [rqW] using h9)]
        exact .inl ⟨by simp [Cw.o, Ou.zero], 3, ⟨ok, a, c, O', .inl ⟨hc, .inr (.inr (.inl ⟨h9, ⟨_, h72, rfl⟩, rfl⟩))⟩, Mo.far_le _ _⟩, fun h => absurd h hm⟩
  · obtain ⟨e1, e2⟩ := sw_next H1 H2 false false z s
    rw [e1, e2]
    by_cases hz2 : a f = z
    · subst hz2
      obtain ⟨q1, O'⟩ := O.casA hf hz (v := v.w) (fun e => hv ((good_w72 gv).1 e))
      rw [q1, if_pos rfl]
      refine .inl ⟨by simp [Cw.o], 0, ⟨ok, _, c, O', .inr ⟨fun k hk => ?_, rfl, rfl⟩, Mo.far_le _ _⟩, fun _ => by omega⟩
      rw [cur_upA a c hz (fun e => hv ((good_w72 gv).1 e)), upd3 hc f v.w k hk]
    · obtain ⟨q1, O'⟩ := O.still (n := v.w) (in_a hf) (show s.got (97 + (f : Int)) ≠ z by rw [O.gota hf]; exact hz2)
      rw [q1, if_neg (by simp)]
      exact .inl ⟨by simp [Cw.o, Ou.zero], 2, ⟨ok, a, c, O', .inl ⟨hc, .inr (.inl ⟨rfl, rfl⟩)⟩, Mo.far_le _ _⟩, fun _ => by omega⟩
  · obtain ⟨e1, e2⟩ := dr_W (s := s) (v := v) (113 + (f : Int)) b false
    rw [e1, e2]
    refine .inl ⟨by simp [Cw.o, Ou.zero], 0, ⟨ok, a, _, O.storeC hf ha v.w, .inr ⟨fun k hk => ?_, rfl, rfl⟩, Mo.far_le _ _⟩, fun _ => by omega⟩
    rw [cur_upC a c ha, upd3 hc f v.w k hk]
  · exact .inl ⟨by simp [Cw.o, Cw.next, Ou.zero], 0, ⟨ok, a, c, O, .inr ⟨hc, rfl, rfl⟩, Mo.far_le _ _⟩, fun _ => by omega⟩
theorem KW.mo {a' c' : Nat → Int} (K : KW old v f a c x n) (hf : f < 3) (h1 : ∀ k, k < 3 → cur a' c' k = cur a c k) (h2 : ∀ k, k < 3 → a k = 72 → a' k = 72) : KW old v f a' c' x n := by
  obtain ⟨hc, h | h | h | ⟨h, hh⟩⟩ | ⟨hc, h⟩ := K
  · exact .inl ⟨fun k hk => (h1 k hk).trans (hc k hk), .inl h⟩
  · exact .inl ⟨fun k hk => (h1 k hk).trans (hc k hk), .inr (.inl h)⟩
  · exact .inl ⟨fun k hk => (h1 k hk).trans (hc k hk), .inr (.inr (.inl h))⟩
  · exact .inl ⟨fun k hk => (h1 k hk).trans (hc k hk), .inr (.inr (.inr ⟨h2 f hf h, hh⟩))⟩
  · exact .inr ⟨fun k hk => (h1 k hk).trans (hc k hk), h⟩
theorem KG.mo (G : KG old v f x m s n q) (hf : f < 3) (hr : s.Rng) : KG old v f x (m.next s) (m.mem s) n (q - 1) := by
  have okn := G.ok.next hr
  obtain ⟨ok, a, c, O, K, hq⟩ := G
  obtain ⟨a', c', O', h1, h2, h3⟩ := O.mo
  exact ⟨okn, a', c', O', K.mo hf h1 h2, by omega⟩
theorem KG.pc10 (G : KG old v f x m s n 0) : m.pc = 10 := by
  obtain ⟨ok, a, c, O, K, hq⟩ := G
  exact Mo.far0 (a := a) ok.pc (by omega)
/-- where the object is, and what its fields have -/
def At3 (s : St) (g : Nat → Int) : Prop := ∃ m a c, Ob s m a c ∧ ∀ k, k < 3 → cur a c k = g k
theorem KG.fin (G : KG old v f x m s 0 q) : x.done = true ∧ At3 s (updN old f v.w) := by
  obtain ⟨ok, a, c, O, ⟨_, ⟨_, h⟩ | ⟨_, h⟩ | ⟨_, _, h⟩ | ⟨_, _, h⟩⟩ | ⟨hc, rfl, _⟩, _⟩ := G
  · omega
  · omega
  · omega
  · omega
  · exact ⟨rfl, m, a, c, O, hc⟩
theorem At3.t {g : Nat → Int} (A : At3 s g) : s.t = 0 := by
  obtain ⟨m, a, c, O, _⟩ := A
  exact O.t
/-- what is read of it, alone -/
theorem At3.read {g : Nat → Int} (A : At3 s g) {k : Nat} (hk : k < 3) : ∃ d s', d ≤ 3 ∧ EndsC (.hd (rqR k) false false) s d (.fin true ⟨0, Vl.of (g k), false⟩) s' ∧ At3 s' g := by
  obtain ⟨m, a, c, O, hg⟩ := A
  have H1 : (rqR k).at_ = 96 := rfl
  have H2 : (rqR k).fd = (k : Int) := rfl
  have far : ∀ {s : St} (b : Bool), Ob s m a c → a k = 72 → EndsC (.dr b ⟨some (.read (113 + (k : Int)) false), false, Ou.zero⟩) s 1 (.fin true ⟨0, Vl.of (g k), false⟩) (s.load (113 + (k : Int))) := by
    intro s b O ha
    obtain ⟨e3, e4⟩ := dr_R (s := s) (113 + (k : Int)) b false
    rw [O.gotc hk, show c k = g k by rw [← hg k hk, cur, if_pos ha]] at e3
    exact EndsC.step rfl e3 e4 (EndsC.zero rfl)
  obtain ⟨e1, O', ⟨hm, e2⟩ | ⟨hm, ha, e2⟩⟩ := O.hd (r := rqR k) H1 (by rw [H2]; omega) (by rw [H2]; omega) false false
  · obtain ⟨e3, e4⟩ := rd_next H1 H2 false false (s.load 96)
    rw [O'.gota hk] at e3
    by_cases h72 : a k = 72
    · rw [Cw.seen, if_pos h72, go_R] at e3
      exact ⟨3, _, by omega, EndsC.step rfl e2 e1 (EndsC.step rfl e3 e4 (far _ (O'.load (in_a hk)) h72)), m, a, c, (O'.load (in_a hk)).load (in_c hk), hg⟩
    · rw [Cw.seen, if_neg h72, if_pos (show (rqR k).op = 1 from rfl), show a k = g k by rw [← hg k hk, cur, if_neg h72]] at e3
      exact ⟨2, _, by omega, EndsC.step rfl e2 e1 (EndsC.step rfl e3 e4 (EndsC.zero rfl)), m, a, c, O'.load (in_a hk), hg⟩
  · rw [go_R] at e2
    exact ⟨2, _, by omega, EndsC.step rfl e2 e1 (far _ O' (ha k hk)), m, a, c, O'.load (in_c hk), hg⟩
/-- the write's game at a round of the law: sixty that are picked, fifty of the copier, thirty of the write -/
def KJ (old : Nat → Int) (v : Vl) (f : Nat) (x : Cw) (m : Mo) (s : St) (j : Nat) : Prop := ∃ r q, KG old v f x m s r q ∧ (60 ≤ j → j ≤ 110 → q ≤ 75 - j) ∧ (110 ≤ j → m.pc = 10 ∧ r ≤ 113 - j)
theorem KJ.ok {j : Nat} (G : KJ old v f x m s j) : m.Ok := by obtain ⟨r, q, G, _⟩ := G; exact G.ok
theorem KJ.mo {j : Nat} (G : KJ old v f x m s j) (hf : f < 3) (hr : s.Rng) (hj : j < 110) : KJ old v f x (m.next s) (m.mem s) (j + 1) := by
  obtain ⟨r, q, G, h1, h2⟩ := G
  have G' := G.mo hf hr
  rcases Nat.lt_or_ge j 60 with h | h
  · exact ⟨r, 15, G'.wide, fun _ _ => by omega, fun _ => by omega⟩
  · have hq := h1 h (by omega)
    refine ⟨r, q - 1, G', fun _ _ => by omega, fun h' => ?_⟩
    have hq0 : q - 1 = 0 := by omega
    rw [hq0] at G'
    exact ⟨G'.pc10, by have := G'.le; omega⟩
theorem KJ.w {j : Nat} (G : KJ old v f x m s j) (hf : f < 3) (gv : v.Good) (hj : j < 60 ∨ 110 ≤ j) :
    ((x.next s).o.c ≠ 3 ∧ KJ old v f (x.next s) m (x.mem s) (j + 1)) ∨ ((x.next s).done = true ∧ (x.next s).o.c = 3 ∧ j < 60 ∧ KJ old v f (.hd (rqW f v) false false) m (x.mem s) (j + 1)) := by
  obtain ⟨r, q, G, h1, h2⟩ := G
  rcases G.w hf gv with ⟨hc, n', G', hn⟩ | ⟨hd, hc, hm, G'⟩
  · exact .inl ⟨hc, n', 15, G', fun _ _ => by omega, fun _ => by
      obtain ⟨h3, h4⟩ := h2 (by omega)
      have := hn h3
      exact ⟨h3, by omega⟩⟩
  · refine .inr ⟨hd, hc, ?_, 2, 15, G', fun _ _ => ?_, fun _ => ?_⟩
    · rcases hj with h | h
      · exact h
      · exact absurd (h2 h).1 hm
    · omega
    · rcases hj with h | h
      · omega
      · exact absurd (h2 h).1 hm
theorem KJ.fin (G : KJ old v f x m s 140) : x.done = true ∧ At3 s (updN old f v.w) := by
  obtain ⟨r, q, G, h1, h2⟩ := G
  obtain rfl : r = 0 := by have := (h2 (by omega)).2; omega
  exact G.fin
/-- how a law begins -/
theorem claimed_ob (ll : Nat) (zl : Nat → Vl) : Ob (laidS 4 2 (clP ll zl)) ⟨0, 0⟩ (fun k => (clP ll zl k).w) (fun _ => 0) ∧ ∀ k, cur (fun k => (clP ll zl k).w) (fun _ => 0) k = (clP ll zl k).w := by
  have h72 : ∀ k, (clP ll zl k).w ≠ 72 := fun k e => (good_clP ll zl k).2 ((good_w72 (good_clP ll zl k).1).1 e)
  refine ⟨.inl ⟨laid_m6 4 2 _, by simp, fun k _ h => by simp only at h; omega, fun k _ _ => h72 k, fun h => by simp at h, fun h => by simp at h⟩, fun k => ?_⟩
  unfold cur
  rw [if_neg (h72 k)]
/-! ### a read -/
structure RG (old : Nat → Int) (f : Nat) (x : Cw) (m : Mo) (s : St) (r : Nat) : Prop where
  ok : m.Ok
  or_ : ∃ a c, Ob s m a c ∧ (∀ k, k < 3 → cur a c k = old k) ∧
    (x = .hd (rqR f) false false ∧ r = 3 ∨ x = .rd (rqR f) false false 112 ∧ r = 2 ∨ a f = 72 ∧ (∃ b, x = .dr b ⟨some (.read (113 + (f : Int)) false), false, Ou.zero⟩) ∧ r = 1 ∨ x = .fin true ⟨0, Vl.of (old f), false⟩ ∧ r = 0)
theorem RG.le (G : RG old f x m s n) : n ≤ 3 := by
  obtain ⟨ok, a, c, _, _, h | h | h | h⟩ := G <;> omega
theorem RG.rx (G : RG old f x m s n) (hf : f < 3) (h0 : n ≠ 0) : ∃ n', n' < n ∧ RG old f (x.next s) m (x.mem s) n' := by
  have H1 : (rqR f).at_ = 96 := rfl
  have H2 : (rqR f).fd = (f : Int) := rfl
  obtain ⟨ok, a, c, O, hc, ⟨rfl, rfl⟩ | ⟨rfl, rfl⟩ | ⟨ha, ⟨b, rfl⟩, rfl⟩ | ⟨rfl, rfl⟩⟩ := G
  · obtain ⟨e1, O', ⟨hm, e2⟩ | ⟨hm, ha, e2⟩⟩ := O.hd (r := rqR f) H1 (by rw [H2]; omega) (by rw [H2]; omega) false false
    · rw [e1, e2]
      exact ⟨2, by omega, ok, a, c, O', hc, .inr (.inl ⟨rfl, rfl⟩)⟩
    · rw [e1, e2, go_R]
      exact ⟨1, by omega, ok, a, c, O', hc, .inr (.inr (.inl ⟨ha f hf, ⟨_, rfl⟩, rfl⟩))⟩
  · obtain ⟨e1, e2⟩ := rd_next H1 H2 false false s
    rw [e1, e2, O.gota hf]
    have O' := O.load (in_a hf)
    unfold Cw.seen
    by_cases h72 : a f = 72
    · rw [if_pos h72, go_R]
      exact ⟨1, by omega, ok, a, c, O', hc, .inr (.inr (.inl ⟨h72, ⟨_, rfl⟩, rfl⟩))⟩
    · rw [if_neg h72, if_pos (show (rqR f).op = 1 from rfl), show a f = old f by rw [← hc f hf, cur, if_neg h72]]
      exact ⟨0, by omega, ok, a, c, O', hc, .inr (.inr (.inr ⟨rfl, rfl⟩))⟩
  · obtain ⟨e1, e2⟩ := dr_R (s := s) (113 + (f : Int)) b false
    rw [e1, e2, O.gotc hf, show c f = old f by rw [← hc f hf, cur, if_pos ha]]
    exact ⟨0, by omega, ok, a, c, O.load (in_c hf), hc, .inr (.inr (.inr ⟨rfl, rfl⟩))⟩
  · exact absurd rfl h0
theorem RG.mo (G : RG old f x m s n) (hf : f < 3) (hr : s.Rng) : RG old f x (m.next s) (m.mem s) n := by
  have okn := G.ok.next hr
  obtain ⟨ok, a, c, O, hc, hx⟩ := G
  obtain ⟨a', c', O', h1, h2, h3⟩ := O.mo
  refine ⟨okn, a', c', O', fun k hk => (h1 k hk).trans (hc k hk), ?_⟩
  rcases hx with h | h | ⟨h, hh⟩ | h
  · exact .inl h
  · exact .inr (.inl h)
  · exact .inr (.inr (.inl ⟨h2 f hf h, hh⟩))
  · exact .inr (.inr (.inr h))
theorem RG.done (G : RG old f x m s n) : (x.done = true ↔ n = 0) ∧ (n = 0 → x.o.v = Vl.of (old f)) := by
  obtain ⟨ok, a, c, O, hc, ⟨rfl, rfl⟩ | ⟨rfl, rfl⟩ | ⟨ha, ⟨b, rfl⟩, rfl⟩ | ⟨rfl, rfl⟩⟩ := G <;> simp [Cw.done, Cw.o]
end
/-! ### two Swaps -/
def oneP (v : Vl) : Vl := if v.k = 1 ∧ v.n = 112 then ⟨1, 96⟩ else v
section
variable {s : St} {m : Mo} {w : Int} {u n mm : Vl} {x : Cw} {z : Int} {k : Nat} {a c : Nat → Int}
theorem Ob.mv (O : Ob s m a c) {n : Int} (hn : n = 96 ∨ n = 100 ∨ n = 112) : (n = 100 → mv (s.got n) n = 100) ∧ (n ≠ 100 → mv (s.got n) n ≠ 100) := by
  have I0 : In 100 := ⟨by omega, by omega⟩
  have I1 : In 112 := ⟨by omega, by omega⟩
  obtain ⟨M, V⟩ | ⟨M, h⟩ := O
  · rcases hn with rfl | rfl | rfl
    · rw [M.got96, mv_vals.1]; decide
    · rw [I0.got M.len, M.o1, mv_vals.2.2.2.1]; decide
    · rw [I1.got M.len, M.o2, mv_vals.2.2.2.2]; decide
  · rcases hn with rfl | rfl | rfl
    · rw [M.got96, mv_vals.2.1]; decide
    · rw [I0.got M.len, M.o1, mv_vals.2.2.2.1]; decide
    · rw [I1.got M.len, M.o2, mv_vals.2.2.2.2]; decide
theorem one_100 (gm : mm.Good) (gu : u.Good) (f1 : mm.far = true) (f2 : u.far = true) (ho : oneP mm ≠ oneP u) : mm.n = 100 ↔ u.n ≠ 100 := by
  have k1 : mm.k = 1 := by simp only [Vl.far, Bool.and_eq_true, beq_iff_eq] at f1; exact f1.1
  have k2 : u.k = 1 := by simp only [Vl.far, Bool.and_eq_true, beq_iff_eq] at f2; exact f2.1
  have n1 := gm.far f1
  have n2 := gu.far f2
  obtain ⟨ka, na⟩ := mm
  obtain ⟨kb, nb⟩ := u
  simp only at k1 k2 n1 n2
  subst k1 k2
  rcases n1 with rfl | rfl | rfl <;> rcases n2 with rfl | rfl | rfl <;> first | decide | exact absurd rfl ho | exact absurd (by decide) ho
abbrev DS (b : Bool) (u n : Vl) (k : K) (hit : Bool) : Cw := .dr b ⟨some k, hit, Ou.zero⟩
/-- nobody has swapped -/
def Un (u n : Vl) (z : Int) (a : Nat → Int) (x : Cw) (r : Nat) : Prop :=
  x = .hd (rqS u n) false false ∧ r = 12 ∨ x = .rd (rqS u n) false false 112 ∧ r = 11 ∨ x = .sw (rqS u n) false false 112 z ∧ r = 10 ∨
  x = .rd (rqS u n) false false 112 ∧ r = 9 ∧ a 0 = 72 ∨
  (a 0 = 72 ∧ ∃ b b', x = DS b u n (.swap 113 (rqS u n) (hwC false)) b') ∧ r = 8 ∨ (a 0 = 72 ∧ ∃ b b', x = DS b u n (.exch 113 z (rqS u n) (hwC false)) b') ∧ r = 7
/-- another one has: mm is what the field has now -/
def Sw (u n : Vl) (z : Int) (mm : Vl) (a : Nat → Int) (x : Cw) (r : Nat) : Prop :=
  x = .hd (rqS u n) false false ∧ r = 6 ∨ x = .rd (rqS u n) false false 112 ∧ r = 5 ∨ x = .sw (rqS u n) false false 112 z ∧ r = 6 ∨
  (a 0 = 72 ∧ ∃ b b', x = DS b u n (.exch 113 z (rqS u n) (hwC false)) b') ∧ r = 5 ∨ (a 0 = 72 ∧ ∃ b b', x = DS b u n (.swap 113 (rqS u n) (hwC false)) b') ∧ r = 4 ∨
  (a 0 = 72 ∧ mm.far = true ∧ u.far = true ∧ ((∃ b b', x = DS b u n (.compS mm.n u.n (.exch 113 mm.w (rqS u n) (hwC false))) b') ∧ r = 2 ∨ (∃ b b' c', (c' = 100 ↔ mm.n = 100) ∧ x = DS b u n (.comp2S c' u.n (.exch 113 mm.w (rqS u n) (hwC false))) b') ∧ r = 1)) ∨ (∃ b, x = .fin b Ou.zero) ∧ r = 0
theorem behC (F w : Int) (u n : Vl) : behind F w (rqS u n) (hwC false) = .exch F w (rqS u n) (hwC false) := by simp [behind, shadeK, hwC]
theorem in113 : In 113 := ⟨by omega, by omega⟩
theorem in97 : In 97 := ⟨by omega, by omega⟩
theorem Ob.g97 (O : Ob s m a c) : s.got 97 = a 0 := by have := O.gota (k := 0) (by omega); simpa using this
theorem Ob.g113 (O : Ob s m a c) : s.got 113 = c 0 := by have := O.gotc (k := 0) (by omega); simpa using this
theorem Ob.casA0 (O : Ob s m a c) {v : Int} (h72 : a 0 ≠ 72) (hv : v ≠ 72) : s.ok1 97 (a 0) = true ∧ Ob (s.cas 97 (a 0) v) m (updN a 0 v) c := by simpa using O.casA (k := 0) (by omega) h72 hv
theorem Ob.casC0 (O : Ob s m a c) (h72 : a 0 = 72) (v : Int) : s.ok1 113 (c 0) = true ∧ Ob (s.cas 113 (c 0) v) m a (updN c 0 v) := by simpa using O.casC (k := 0) (by omega) h72 v
theorem rdS (u n : Vl) (s : St) : (Cw.rd (rqS u n) false false 112).next s = Cw.seen (rqS u n) false false 112 (s.got 97) ∧ (Cw.rd (rqS u n) false false 112).mem s = s.load 97 := rd_next (f := 0) rfl rfl false false s
theorem swS (u n : Vl) (z : Int) (s : St) : (Cw.sw (rqS u n) false false 112 z).next s = (if s.ok1 97 z then .fin true ⟨0, Vl.zero, true⟩ else .rd (rqS u n) false false 112) ∧ (Cw.sw (rqS u n) false false 112 z).mem s = s.cas 97 z n.w := sw_next (f := 0) rfl rfl false false z s
theorem Un.step {r : Nat} (h : Un u n z a x r) (O : Ob s m a c) (hcur : cur a c 0 = z) (hz : z ≠ 72) (hu : Vl.of z = u) (hn : n.w ≠ 72) (h9 : n ≠ nine) :
    (∃ r', r' < r ∧ 6 < r' ∧ Un u n z a (x.next s) r' ∧ Ob (x.mem s) m a c) ∨ ((∃ b, x.next s = .fin b ⟨0, Vl.zero, true⟩) ∧ ∃ a' c', Ob (x.mem s) m a' c' ∧ cur a' c' 0 = n.w ∧ (a 0 = 72 → a' 0 = 72)) := by
  rcases h with ⟨rfl, rfl⟩ | ⟨rfl, rfl⟩ | ⟨rfl, rfl⟩ | ⟨rfl, rfl, ha⟩ | ⟨⟨ha, b, b', rfl⟩, rfl⟩ | ⟨⟨ha, b, b', rfl⟩, rfl⟩
  · obtain ⟨e1, O', ⟨hm, e2⟩ | ⟨hm, ha, e2⟩⟩ := O.hd (r := rqS u n) rfl (by simp [rqS]) (by simp [rqS]) false false
    · rw [e1, e2]
      exact .inl ⟨11, by omega, by omega, .inr (.inl ⟨rfl, rfl⟩), O'⟩
    · rw [e1, e2, go_S]
      exact .inl ⟨8, by omega, by omega, .inr (.inr (.inr (.inr (.inl ⟨⟨ha 0 (by omega), _, _, rfl⟩, rfl⟩)))), O'⟩
  · obtain ⟨e1, e2⟩ := rdS u n s
    rw [e1, e2, O.g97]
    have O' := O.load in97
    unfold Cw.seen
    by_cases h72 : a 0 = 72
    · rw [if_pos h72, go_S]
      exact .inl ⟨8, by omega, by omega, .inr (.inr (.inr (.inr (.inl ⟨⟨h72, _, _, rfl⟩, rfl⟩)))), O'⟩
    · have hz' : a 0 = z := by rw [← hcur, cur, if_neg h72]
      rw [if_neg h72, if_neg (by simp [rqS]), hz', if_neg (by simp [rqS, hu]), if_neg (by simpa [rqS] using h9)]
      exact .inl ⟨10, by omega, by omega, .inr (.inr (.inl ⟨rfl, rfl⟩)), O'⟩
  · obtain ⟨e1, e2⟩ := swS u n z s
    rw [e1, e2]
    by_cases h72 : a 0 = 72
    · obtain ⟨q1, O'⟩ := O.still (n := n.w) in97 (show s.got 97 ≠ z by rw [O.g97, h72]; exact fun e => hz e.symm)
      rw [q1, if_neg (by simp)]
      exact .inl ⟨9, by omega, by omega, .inr (.inr (.inr (.inl ⟨rfl, rfl, h72⟩))), O'⟩
    · have hz' : a 0 = z := by rw [← hcur, cur, if_neg h72]
      obtain ⟨q1, O'⟩ := O.casA0 h72 hn
      rw [hz'] at q1 O'
      rw [q1, if_pos rfl]
      exact .inr ⟨⟨_, rfl⟩, _, c, O', by simp [cur, updN, hn], fun e => absurd e h72⟩
  · obtain ⟨e1, e2⟩ := rdS u n s
    rw [e1, e2, O.g97, Cw.seen, if_pos ha, go_S]
    exact .inl ⟨8, by omega, by omega, .inr (.inr (.inr (.inr (.inl ⟨⟨ha, _, _, rfl⟩, rfl⟩)))), O.load in97⟩
  · have hc' : c 0 = z := by rw [← hcur, cur, if_pos ha]
    have e1 : (DS b u n (.swap 113 (rqS u n) (hwC false)) b').next s = DS true u n (.exch 113 z (rqS u n) (hwC false)) true := by
      simp only [DS, Cw.next, Cw.onD, Sx.next, K.next, O.g113, hc', hu]
      rw [if_pos (show u = (rqS u n).x from rfl), behC]
      rfl
    rw [e1]
    exact .inl ⟨7, by omega, by omega, .inr (.inr (.inr (.inr (.inr ⟨⟨ha, _, _, rfl⟩, rfl⟩)))), O.load in113⟩
  · have hc' : c 0 = z := by rw [← hcur, cur, if_pos ha]
    obtain ⟨q1, O'⟩ := O.casC0 ha n.w
    rw [hc'] at q1 O'
    have e1 : (DS b u n (.exch 113 z (rqS u n) (hwC false)) b').next s = .fin true ⟨0, Vl.zero, true⟩ := by
      simp only [DS, Cw.next, Cw.onD, Sx.next, K.next, q1]
      rfl
    rw [e1]
    exact .inr ⟨⟨_, rfl⟩, a, _, O', by simp [cur, updN, ha], fun e => e⟩
theorem Un.sw {r : Nat} {a' : Nat → Int} (h : Un u n z a x r) (mm : Vl) (ha : a 0 = 72 → a' 0 = 72) : ∃ r', r' ≤ 6 ∧ Sw u n z mm a' x r' := by
  rcases h with ⟨rfl, rfl⟩ | ⟨rfl, rfl⟩ | ⟨rfl, rfl⟩ | ⟨rfl, rfl, h⟩ | ⟨⟨h, hx⟩, rfl⟩ | ⟨⟨h, hx⟩, rfl⟩
  · exact ⟨6, by omega, .inl ⟨rfl, rfl⟩⟩
  · exact ⟨5, by omega, .inr (.inl ⟨rfl, rfl⟩)⟩
  · exact ⟨6, by omega, .inr (.inr (.inl ⟨rfl, rfl⟩))⟩
  · exact ⟨5, by omega, .inr (.inl ⟨rfl, rfl⟩)⟩
  · exact ⟨4, by omega, .inr (.inr (.inr (.inr (.inl ⟨⟨ha h, hx⟩, rfl⟩))))⟩
  · exact ⟨5, by omega, .inr (.inr (.inr (.inl ⟨⟨ha h, hx⟩, rfl⟩)))⟩
theorem Un.mo {r : Nat} {a' : Nat → Int} (h : Un u n z a x r) (ha : a 0 = 72 → a' 0 = 72) : Un u n z a' x r := by
  rcases h with h | h | h | ⟨h, h', h''⟩ | ⟨⟨h, hx⟩, hr⟩ | ⟨⟨h, hx⟩, hr⟩
  · exact .inl h
  · exact .inr (.inl h)
  · exact .inr (.inr (.inl h))
  · exact .inr (.inr (.inr (.inl ⟨h, h', ha h''⟩)))
  · exact .inr (.inr (.inr (.inr (.inl ⟨⟨ha h, hx⟩, hr⟩))))
  · exact .inr (.inr (.inr (.inr (.inr ⟨⟨ha h, hx⟩, hr⟩))))
theorem Un.bnd {r : Nat} (h : Un u n z a x r) : 6 < r ∧ r ≤ 12 := by
  rcases h with ⟨_, h⟩ | ⟨_, h⟩ | ⟨_, h⟩ | ⟨_, h, _⟩ | ⟨_, h⟩ | ⟨_, h⟩ <;> omega
theorem Sw.bnd {r : Nat} (h : Sw u n z mm a x r) : r ≤ 6 := by
  rcases h with ⟨_, h⟩ | ⟨_, h⟩ | ⟨_, h⟩ | ⟨_, h⟩ | ⟨_, h⟩ | ⟨_, _, _, ⟨_, h⟩ | ⟨_, h⟩⟩ | ⟨_, h⟩ <;> omega
theorem Sw.mo {r : Nat} {a' : Nat → Int} (h : Sw u n z mm a x r) (ha : a 0 = 72 → a' 0 = 72) : Sw u n z mm a' x r := by
  rcases h with h | h | h | ⟨⟨h, hx⟩, hr⟩ | ⟨⟨h, hx⟩, hr⟩ | ⟨h, hx⟩ | h
  · exact .inl h
  · exact .inr (.inl h)
  · exact .inr (.inr (.inl h))
  · exact .inr (.inr (.inr (.inl ⟨⟨ha h, hx⟩, hr⟩)))
  · exact .inr (.inr (.inr (.inr (.inl ⟨⟨ha h, hx⟩, hr⟩))))
  · exact .inr (.inr (.inr (.inr (.inr (.inl ⟨ha h, hx⟩)))))
  · exact .inr (.inr (.inr (.inr (.inr (.inr h)))))
theorem Sw.step {r : Nat} (h : Sw u n z mm a x r) (O : Ob s m a c) (hcur : cur a c 0 = mm.w) (hm72 : mm.w ≠ 72) (hz : z ≠ 72) (hu : Vl.of z = u) (gm : mm.Good) (gu : u.Good) (ho : oneP mm ≠ oneP u) (h0 : r ≠ 0) : ∃ r', r' < r ∧ Sw u n z mm a (x.next s) r' ∧ Ob (x.mem s) m a c := by
  have hne : mm ≠ u := fun e => ho (by rw [e])
  have ne : mm.w ≠ z := fun e => hne (by rw [← gm.of, e, hu])
  rcases h with ⟨rfl, rfl⟩ | ⟨rfl, rfl⟩ | ⟨rfl, rfl⟩ | ⟨⟨ha, b, b', rfl⟩, rfl⟩ | ⟨⟨ha, b, b', rfl⟩, rfl⟩ | ⟨ha, f1, f2, ⟨⟨b, b', rfl⟩, rfl⟩ | ⟨⟨b, b', c', hc', rfl⟩, rfl⟩⟩ | ⟨⟨b, rfl⟩, rfl⟩
  · obtain ⟨e1, O', ⟨hm, e2⟩ | ⟨hm, ha, e2⟩⟩ := O.hd (r := rqS u n) rfl (by simp [rqS]) (by simp [rqS]) false false
    · rw [e1, e2]
      exact ⟨5, by omega, .inr (.inl ⟨rfl, rfl⟩), O'⟩
    · rw [e1, e2, go_S]
      exact ⟨4, by omega, .inr (.inr (.inr (.inr (.inl ⟨⟨ha 0 (by omega), _, _, rfl⟩, rfl⟩)))), O'⟩
  · obtain ⟨e1, e2⟩ := rdS u n s
    rw [e1, e2, O.g97]
    have O' := O.load in97
    unfold Cw.seen
    by_cases h72 : a 0 = 72
    · rw [if_pos h72, go_S]
      exact ⟨4, by omega, .inr (.inr (.inr (.inr (.inl ⟨⟨h72, _, _, rfl⟩, rfl⟩)))), O'⟩
    · have hz' : a 0 = mm.w := by rw [← hcur, cur, if_neg h72]
      rw [if_neg h72, if_neg (by simp [rqS]), hz', gm.of, if_pos ⟨rfl, hne⟩]
      exact ⟨0, by omega, .inr (.inr (.inr (.inr (.inr (.inr ⟨⟨_, rfl⟩, rfl⟩))))), O'⟩
  · obtain ⟨e1, e2⟩ := swS u n z s
    rw [e1, e2]
    have hg : s.got 97 ≠ z := by
      rw [O.g97]
      by_cases h72 : a 0 = 72
      · rw [h72]; exact fun e => hz e.symm
      · rw [show a 0 = mm.w by rw [← hcur, cur, if_neg h72]]; exact ne
    obtain ⟨q1, O'⟩ := O.still (n := n.w) in97 hg
    rw [q1, if_neg (by simp)]
    exact ⟨5, by omega, .inr (.inl ⟨rfl, rfl⟩), O'⟩
  · have hc' : c 0 = mm.w := by rw [← hcur, cur, if_pos ha]
    obtain ⟨q1, O'⟩ := O.still (n := n.w) in113 (show s.got 113 ≠ z by rw [O.g113, hc']; exact ne)
    have e1 : (DS b u n (.exch 113 z (rqS u n) (hwC false)) b').next s = DS false u n (.swap 113 (rqS u n) (hwC false)) false := by
      simp only [DS, Cw.next, Cw.onD, Sx.next, K.next, q1]
      rfl
    rw [e1]
    exact ⟨4, by omega, .inr (.inr (.inr (.inr (.inl ⟨⟨ha, _, _, rfl⟩, rfl⟩)))), O'⟩
  · have hc' : c 0 = mm.w := by rw [← hcur, cur, if_pos ha]
    rcases hf : (mm.far && u.far) with _ | _
    · have e1 : (DS b u n (.swap 113 (rqS u n) (hwC false)) b').next s = .fin true Ou.zero := by
        simp only [DS, Cw.next, Cw.onD, Sx.next, K.next, O.g113, hc', gm.of]
        rw [if_neg (show ¬ mm = (rqS u n).x from hne), if_neg (show ¬ ((hwC false).ca && mm.far && (rqS u n).x.far) = true by simpa [hwC, rqS] using hf)]
        rfl
      rw [e1]
      exact ⟨0, by omega, .inr (.inr (.inr (.inr (.inr (.inr ⟨⟨_, rfl⟩, rfl⟩))))), O.load in113⟩
    · have e1 : (DS b u n (.swap 113 (rqS u n) (hwC false)) b').next s = DS true u n (.compS mm.n u.n (.exch 113 mm.w (rqS u n) (hwC false))) true := by
        simp only [DS, Cw.next, Cw.onD, Sx.next, K.next, O.g113, hc', gm.of]
        rw [if_neg (show ¬ mm = (rqS u n).x from hne), if_pos (show ((hwC false).ca && mm.far && (rqS u n).x.far) = true by simpa [hwC, rqS] using hf), behC]
        rfl
      rw [e1]
      simp only [Bool.and_eq_true] at hf
      exact ⟨2, by omega, .inr (.inr (.inr (.inr (.inr (.inl ⟨ha, hf.1, hf.2, .inl ⟨⟨_, _, rfl⟩, rfl⟩⟩))))), O.load in113⟩
  · have I : In mm.n := by rcases gm.far f1 with e | e | e <;> (rw [e]; exact ⟨by omega, by omega⟩)
    obtain ⟨v1, v2⟩ := O.mv (gm.far f1)
    have e1 : (DS b u n (.compS mm.n u.n (.exch 113 mm.w (rqS u n) (hwC false))) b').next s = DS false u n (.comp2S (mv (s.got mm.n) mm.n) u.n (.exch 113 mm.w (rqS u n) (hwC false))) false := rfl
    rw [e1]
    refine ⟨1, by omega, .inr (.inr (.inr (.inr (.inr (.inl ⟨ha, f1, f2, .inr ⟨⟨_, _, _, ?_, rfl⟩, rfl⟩⟩))))), O.load I⟩
    constructor
    · intro h
      by_cases e : mm.n = 100
      · exact e
      · exact absurd h (v2 e)
    · exact v1
  · have I : In u.n := by rcases gu.far f2 with e | e | e <;> (rw [e]; exact ⟨by omega, by omega⟩)
    obtain ⟨v1, v2⟩ := O.mv (gu.far f2)
    have h100 := one_100 gm gu f1 f2 ho
    have hn : c' ≠ mv (s.got u.n) u.n := by
      intro e
      by_cases e1 : u.n = 100
      · have := hc'.1 (e.trans (v1 e1))
        exact h100.1 this e1
      · exact v2 e1 (e ▸ hc'.2 (h100.2 e1))
    have e1 : (DS b u n (.comp2S c' u.n (.exch 113 mm.w (rqS u n) (hwC false))) b').next s = .fin false Ou.zero := by
      simp only [DS, Cw.next, Cw.onD, Sx.next, K.next, if_neg hn]
      rfl
    rw [e1]
    exact ⟨0, by omega, .inr (.inr (.inr (.inr (.inr (.inr ⟨⟨_, rfl⟩, rfl⟩))))), O.load I⟩
  · exact absurd rfl h0
theorem Sw.fin {r : Nat} (h : Sw u n z mm a x r) (h0 : r = 0) : ∃ b, x = .fin b Ou.zero := by
  rcases h with ⟨_, h⟩ | ⟨_, h⟩ | ⟨_, h⟩ | ⟨_, h⟩ | ⟨_, h⟩ | ⟨_, _, _, ⟨_, h⟩ | ⟨_, h⟩⟩ | ⟨h, _⟩
  all_goals first | omega | exact h
theorem Sw.still {r : Nat} (h : Sw u n z mm a x r) (h0 : r = 0) (s : St) : x.next s = x ∧ x.mem s = s := by
  obtain ⟨b, rfl⟩ := h.fin h0
  exact ⟨rfl, rfl⟩
/-- the game of two and the one that copies -/
structure SG (u a b : Vl) (z : Int) (x0 x1 : Cw) (m : Mo) (s : St) (r0 r1 : Nat) : Prop where
  ok : m.Ok
  or_ : ∃ fa fc, Ob s m fa fc ∧ (
    (cur fa fc 0 = z ∧ Un u a z fa x0 r0 ∧ Un u b z fa x1 r1) ∨
    (cur fa fc 0 = a.w ∧ (∃ t, x0 = .fin t ⟨0, Vl.zero, true⟩) ∧ r0 = 0 ∧ Sw u b z a fa x1 r1) ∨
    (cur fa fc 0 = b.w ∧ (∃ t, x1 = .fin t ⟨0, Vl.zero, true⟩) ∧ r1 = 0 ∧ Sw u a z b fa x0 r0))
/-- the other way round -/
theorem SG.flip {a b : Vl} {x0 x1 : Cw} {r0 r1 : Nat} (G : SG u a b z x0 x1 m s r0 r1) : SG u b a z x1 x0 m s r1 r0 := by
  obtain ⟨ok, fa, fc, O, ⟨h, u0, u1⟩ | h | h⟩ := G
  · exact ⟨ok, fa, fc, O, .inl ⟨h, u1, u0⟩⟩
  · exact ⟨ok, fa, fc, O, .inr (.inr h)⟩
  · exact ⟨ok, fa, fc, O, .inr (.inl h)⟩
theorem SG.le {a b : Vl} {x0 x1 : Cw} {r0 r1 : Nat} (G : SG u a b z x0 x1 m s r0 r1) : r0 ≤ 12 ∧ r1 ≤ 12 := by
  obtain ⟨ok, fa, fc, O, ⟨h, u0, u1⟩ | ⟨_, _, h, w⟩ | ⟨_, _, h, w⟩⟩ := G
  · exact ⟨u0.bnd.2, u1.bnd.2⟩
  · have := w.bnd; omega
  · have := w.bnd; omega
/-- the first one steps -/
theorem SG.step0 {a b : Vl} {x0 x1 : Cw} {r0 r1 : Nat} (G : SG u a b z x0 x1 m s r0 r1) (hz : z ≠ 72) (hu : Vl.of z = u) (gu : u.Good) (ga : a.Good) (gb : b.Good) (a9 : a ≠ nine) (b9 : b ≠ nine) (oa : oneP a ≠ oneP u) (ob : oneP b ≠ oneP u) :
    ∃ r0' r1', (r0' < r0 ∨ r0' = 0) ∧ r1' ≤ r1 ∧ SG u a b z (x0.next s) x1 m (x0.mem s) r0' r1' := by
  have wa : a.w ≠ 72 := fun e => a9 ((good_w72 ga).1 e)
  have wb : b.w ≠ 72 := fun e => b9 ((good_w72 gb).1 e)
  obtain ⟨ok, fa, fc, O, ⟨h, u0, u1⟩ | ⟨h, ⟨t, rfl⟩, h0, w⟩ | ⟨h, t, h0, w⟩⟩ := G
  · rcases u0.step O h hz hu wa a9 with ⟨r', q1, _, u0', O'⟩ | ⟨t, fa', fc', O', h', ha⟩
    · exact ⟨r', r1, .inl q1, Nat.le_refl _, ok, fa, fc, O', .inl ⟨h, u0', u1⟩⟩
    · obtain ⟨r1', hr1, w⟩ := u1.sw a ha
      exact ⟨0, r1', .inr rfl, by have := u1.bnd; omega, ok, fa', fc', O', .inr (.inl ⟨h', t, rfl, w⟩)⟩
  · exact ⟨0, r1, .inr rfl, Nat.le_refl _, ok, fa, fc, O, .inr (.inl ⟨h, ⟨t, rfl⟩, rfl, w⟩)⟩
  · by_cases h00 : r0 = 0
    · obtain ⟨q1, q2⟩ := w.still h00 s
      rw [q1, q2]
      exact ⟨r0, r1, .inr h00, Nat.le_refl _, ok, fa, fc, O, .inr (.inr ⟨h, t, h0, w⟩)⟩
    · obtain ⟨r', hr, w', O'⟩ := w.step O h wb hz hu gb gu ob h00
      exact ⟨r', r1, .inl hr, Nat.le_refl _, ok, fa, fc, O', .inr (.inr ⟨h, t, h0, w'⟩)⟩
/-- the copier steps -/
theorem SG.mo {a b : Vl} {x0 x1 : Cw} {r0 r1 : Nat} (G : SG u a b z x0 x1 m s r0 r1) (hr : s.Rng) : SG u a b z x0 x1 (m.next s) (m.mem s) r0 r1 := by
  have okn := G.ok.next hr
  obtain ⟨ok, fa, fc, O, hx⟩ := G
  obtain ⟨fa', fc', O', h1, h2, h3⟩ := O.mo
  have c0 := h1 0 (by omega)
  have a0 := h2 0 (by omega)
  rcases hx with ⟨h, u0, u1⟩ | ⟨h, t, h0, w⟩ | ⟨h, t, h0, w⟩
  · exact ⟨okn, fa', fc', O', .inl ⟨c0.trans h, u0.mo a0, u1.mo a0⟩⟩
  · exact ⟨okn, fa', fc', O', .inr (.inl ⟨c0.trans h, t, h0, w.mo a0⟩)⟩
  · exact ⟨okn, fa', fc', O', .inr (.inr ⟨c0.trans h, t, h0, w.mo a0⟩)⟩
/-- at the end -/
theorem SG.fin {a b : Vl} {x0 x1 : Cw} (G : SG u a b z x0 x1 m s 0 0) : ∃ g, At3 s g ∧ ((x0.o.y = true ∧ x1.o.y = false ∧ g 0 = a.w) ∨ (x0.o.y = false ∧ x1.o.y = true ∧ g 0 = b.w)) := by
  obtain ⟨ok, fa, fc, O, ⟨h, u0, u1⟩ | ⟨h, ⟨t, rfl⟩, h0, w⟩ | ⟨h, ⟨t, rfl⟩, h0, w⟩⟩ := G
  · have := u0.bnd; omega
  · obtain ⟨b', rfl⟩ := w.fin rfl
    exact ⟨cur fa fc, ⟨m, fa, fc, O, fun _ _ => rfl⟩, .inl ⟨rfl, rfl, h⟩⟩
  · obtain ⟨b', rfl⟩ := w.fin rfl
    exact ⟨cur fa fc, ⟨m, fa, fc, O, fun _ _ => rfl⟩, .inr ⟨rfl, rfl, h⟩⟩
end
end Go.Proofs.YtmlgohknbjfciaaDoor

namespace Go.Proofs.YtmlgohknbjfciaaDoor
set_option linter.unusedVariables false
set_option linter.unusedSimpArgs false
set_option maxRecDepth 100000
open H.Plain (hw pS pC pN pM pG pT pL mv)

section
variable {s : St} {a c : Nat → Int} {m : Mo} {f : Nat} {v : Vl} {sh fx : Bool} {r : Rq} {u : Vl}
/-- it has to wait -/
theorem waits_ends (O : Ob s m a c) (hm : m.pc ≠ 10) (hf : f < 3) (h72 : a f ≠ 72) (hw : sh = true ∨ v = nine) :
    ∃ s', EndsC (.hd (rqW f v) sh fx) s 2 (.fin true ⟨3, Vl.zero, false⟩) s' ∧ Ob s' m a c := by
  have H1 : (rqW f v).at_ = 96 := rfl
  have H2 : (rqW f v).fd = (f : Int) := rfl
  obtain ⟨e1, O', ⟨_, e2⟩ | ⟨h, _⟩⟩ := O.hd (r := rqW f v) H1 (by rw [H2]; omega) (by rw [H2]; omega) sh fx
  · obtain ⟨e3, e4⟩ := rd_next H1 H2 sh fx (s.load 96)
    rw [O'.gota hf, Cw.seen, if_neg h72, if_neg (by simp [rqW]), if_neg (by simp [rqW]), if_pos (show sh = true ∨ (rqW f v).y = nine from hw)] at e3
    exact ⟨_, EndsC.step rfl e2 e1 (EndsC.step rfl e3 e4 (EndsC.zero rfl)), O'.load (in_a hf)⟩
  · exact absurd h hm
/-- it writes -/
theorem writes_ends (O : Ob s m a c) (hm : m.pc ≠ 10) (hf : f < 3) (h72 : a f ≠ 72) (hw : ¬ (sh = true ∨ v = nine)) (gv : v.Good) :
    ∃ s', EndsC (.hd (rqW f v) sh fx) s 3 (.fin true Ou.zero) s' ∧ Ob s' m (updN a f v.w) c := by
  have H1 : (rqW f v).at_ = 96 := rfl
  have H2 : (rqW f v).fd = (f : Int) := rfl
  have h9 : v.w ≠ 72 := fun e => hw (.inr ((good_w72 gv).1 e))
  obtain ⟨e1, O', ⟨_, e2⟩ | ⟨h, _⟩⟩ := O.hd (r := rqW f v) H1 (by rw [H2]; omega) (by rw [H2]; omega) sh fx
  · obtain ⟨e3, e4⟩ := rd_next H1 H2 sh fx (s.load 96)
    rw [O'.gota hf, Cw.seen, if_neg h72, if_neg (by simp [rqW]), if_neg (by simp [rqW]), if_neg (show ¬ (sh = true ∨ (rqW f v).y = nine) from hw)] at e3
    have O2 := O'.load (in_a hf)
    obtain ⟨q1, O3⟩ := O2.casA hf h72 h9
    obtain ⟨e5, e6⟩ := sw_next H1 H2 sh fx (a f) ((s.load 96).load (97 + (f : Int)))
    rw [q1, if_pos rfl] at e5
    exact ⟨_, EndsC.step rfl e2 e1 (EndsC.step rfl e3 e4 (EndsC.step rfl e5 e6 (EndsC.zero rfl))), O3⟩
  · exact absurd h hm
/-! ### elsewhere -/
/-- the headers of a claimed object: every object is where it is -/
theorem M6.mv4 (M : M6 s (HT 4) a c) {n : Int} (hn : n = 96 ∨ n = 100 ∨ n = 112) : mv (s.got n) n = n := by
  have I0 : In 100 := ⟨by omega, by omega⟩
  have I1 : In 112 := ⟨by omega, by omega⟩
  rcases hn with rfl | rfl | rfl
  · rw [M.got96, mv_vals.1]
  · rw [I0.got M.len, M.o1, mv_vals.2.2.2.1]
  · rw [I1.got M.len, M.o2, mv_vals.2.2.2.2]
/-- a Direct of the copy's field, alone -/
theorem dir_ends (M : M6 s (HT 4) a c) (hf : f < 3) (hop : r.op = 1 ∨ r.op = 2 ∨ r.op = 3) (gu : u.Good) (gx : r.x.Good) (hu : c f = u.w) (fx : Bool) :
    ∃ d x' s' c', d ≤ 4 ∧ Ends (Sx.new (113 + (f : Int)) r (hwC fx)) s d x' s' ∧ M6 s' (HT 4) a c' ∧ c' f = (if r.op = 2 ∨ r.op = 3 ∧ u = r.x then r.y.w else u.w) ∧ x'.o.c = 0 ∧ x'.o.y = decide (r.op = 3 ∧ u = r.x) := by
  have hg : s.got (113 + (f : Int)) = u.w := by rw [M.gotc hf, hu]
  have I := in_c hf
  rcases hop with h1 | h1 | h1
  · have e0 : Sx.new (113 + (f : Int)) r (hwC fx) = ⟨some (.read (113 + (f : Int)) fx), false, Ou.zero⟩ := by simp [Sx.new, firstK, h1, hwC]
    rw [e0]
    by_cases hq : (fx && u.far) = true
    · have e1 : (Sx.mk (some (.read (113 + (f : Int)) fx)) false Ou.zero).next s = ⟨some (.follow u.n), true, Ou.zero⟩ := by
        simp only [Sx.next, K.next, hg, gu.of]
        rw [if_pos hq]
      have hfar : u.far = true := by simp only [Bool.and_eq_true] at hq; exact hq.2
      have Iu : In u.n := by rcases gu.far hfar with e | e | e <;> (rw [e]; exact ⟨by omega, by omega⟩)
      exact ⟨2, _, _, c, by omega, Ends.step rfl e1 rfl (Ends.step rfl rfl rfl (Ends.zero rfl)), (M.load I).load Iu, by rw [if_neg (by omega)]; exact hu, rfl, by rw [decide_eq_false (by omega)]; rfl⟩
    · have e1 : (Sx.mk (some (.read (113 + (f : Int)) fx)) false Ou.zero).next s = ⟨none, true, ⟨0, u, false⟩⟩ := by
        simp only [Sx.next, K.next, hg, gu.of]
        rw [if_neg hq]
      exact ⟨1, _, _, c, by omega, Ends.step rfl e1 rfl (Ends.zero rfl), M.load I, by rw [if_neg (by omega)]; exact hu, rfl, by simp [h1]⟩
  · have e0 : Sx.new (113 + (f : Int)) r (hwC fx) = ⟨some (.store (113 + (f : Int)) r.y), false, Ou.zero⟩ := by simp [Sx.new, firstK, h1, hwC]
    rw [e0]
    exact ⟨1, _, _, _, by omega, Ends.step rfl rfl rfl (Ends.zero rfl), M.storeC hf r.y.w, by rw [if_pos (.inl h1)]; simp [updN], rfl, by rw [decide_eq_false (by omega)]; rfl⟩
  · have e0 : Sx.new (113 + (f : Int)) r (hwC fx) = ⟨some (.swap (113 + (f : Int)) r (hwC fx)), false, Ou.zero⟩ := by simp [Sx.new, firstK, h1]
    rw [e0]
    have beh : behind (113 + (f : Int)) u.w r (hwC fx) = .exch (113 + (f : Int)) u.w r (hwC fx) := by simp [behind, shadeK, hwC]
    by_cases hx : u = r.x
    · have e1 : (Sx.mk (some (.swap (113 + (f : Int)) r (hwC fx))) false Ou.zero).next s = ⟨some (.exch (113 + (f : Int)) u.w r (hwC fx)), true, Ou.zero⟩ := by
        simp only [Sx.next, K.next, hg, gu.of]
        rw [if_pos hx, beh]
      obtain ⟨q1, q2⟩ := (M.load I).casC hf r.y.w
      rw [hu] at q1 q2
      have e2 : (Sx.mk (some (.exch (113 + (f : Int)) u.w r (hwC fx))) true Ou.zero).next (s.load (113 + (f : Int))) = ⟨none, true, ⟨0, Vl.zero, true⟩⟩ := by
        simp only [Sx.next, K.next, q1, if_true]
      exact ⟨2, _, _, _, by omega, Ends.step rfl e1 rfl (Ends.step rfl e2 rfl (Ends.zero rfl)), q2, by rw [if_pos (.inr ⟨h1, hx⟩)]; simp [updN], rfl, by simp [h1, hx]⟩
    · rcases hq : (u.far && r.x.far) with _ | _
      · have e1 : (Sx.mk (some (.swap (113 + (f : Int)) r (hwC fx))) false Ou.zero).next s = ⟨none, true, Ou.zero⟩ := by
          simp only [Sx.next, K.next, hg, gu.of]
          rw [if_neg hx, if_neg (by simpa [hwC] using hq)]
        exact ⟨1, _, _, c, by omega, Ends.step rfl e1 rfl (Ends.zero rfl), M.load I, by rw [if_neg (fun h => h.elim (fun h => by omega) (fun h => hx h.2))]; exact hu, rfl, by simp [hx, Ou.zero]⟩
      · have e1 : (Sx.mk (some (.swap (113 + (f : Int)) r (hwC fx))) false Ou.zero).next s = ⟨some (.compS u.n r.x.n (.exch (113 + (f : Int)) u.w r (hwC fx))), true, Ou.zero⟩ := by
          simp only [Sx.next, K.next, hg, gu.of]
          rw [if_neg hx, if_pos (by simpa [hwC] using hq), beh]
        simp only [Bool.and_eq_true] at hq
        have n1 := gu.far hq.1
        have n2 := gx.far hq.2
        have I1 : In u.n := by rcases n1 with e | e | e <;> (rw [e]; exact ⟨by omega, by omega⟩)
        have I2 : In r.x.n := by rcases n2 with e | e | e <;> (rw [e]; exact ⟨by omega, by omega⟩)
        have M1 := M.load I
        have e2 : (Sx.mk (some (.compS u.n r.x.n (.exch (113 + (f : Int)) u.w r (hwC fx)))) true Ou.zero).next (s.load (113 + (f : Int))) = ⟨some (.comp2S u.n r.x.n (.exch (113 + (f : Int)) u.w r (hwC fx))), false, Ou.zero⟩ := by
          simp only [Sx.next, K.next, M1.mv4 n1]
        have M2 := M1.load I1
        have hne : u.n ≠ r.x.n := by
          intro e
          apply hx
          have k1 : u.k = 1 := by have := hq.1; simp only [Vl.far, Bool.and_eq_true, beq_iff_eq] at this; exact this.1
          have k2 : r.x.k = 1 := by have := hq.2; simp only [Vl.far, Bool.and_eq_true, beq_iff_eq] at this; exact this.1
          revert k1 k2 e
          generalize r.x = y
          intro e k1 k2
          obtain ⟨uk, un⟩ := u
          obtain ⟨yk, yn⟩ := y
          simp only at e k1 k2
          rw [e, k1, k2]
        have e3 : (Sx.mk (some (.comp2S u.n r.x.n (.exch (113 + (f : Int)) u.w r (hwC fx)))) false Ou.zero).next ((s.load (113 + (f : Int))).load u.n) = ⟨none, false, Ou.zero⟩ := by
          simp only [Sx.next, K.next, M2.mv4 n2]
          rw [if_neg hne]
        exact ⟨3, _, _, c, by omega, Ends.step rfl e1 rfl (Ends.step rfl e2 rfl (Ends.step rfl e3 rfl (Ends.zero rfl))), M2.load I2, by rw [if_neg (fun h => h.elim (fun h => by omega) (fun h => hx h.2))]; exact hu, rfl, by simp [hx, Ou.zero]⟩
/-- an access of a field that is elsewhere -/
theorem else_ends (M : M6 s (HT 4) a c) (hf : f < 3) (h1 : r.at_ = 96) (h2 : r.fd = (f : Int)) (hop : r.op = 1 ∨ r.op = 2 ∨ r.op = 3) (h72 : a f = 72) (gu : u.Good) (gx : r.x.Good) (hu : c f = u.w) (sh fx : Bool) :
    ∃ d x' s' c', d ≤ 6 ∧ EndsC (.hd r sh fx) s d x' s' ∧ M6 s' (HT 4) a c' ∧ c' f = (if r.op = 2 ∨ r.op = 3 ∧ u = r.x then r.y.w else u.w) ∧ x'.o.c = 0 ∧ x'.o.y = decide (r.op = 3 ∧ u = r.x) := by
  have M1 := (M.load in96).load (in_a hf)
  obtain ⟨d, x', s', c', hd, E, M', q1, q2, q3⟩ := dir_ends M1 hf hop gu gx hu fx
  have e1 : (Cw.hd r sh fx).next s = .rd r sh fx 112 := by
    simp only [Cw.next, h1, M.got96, h_C]
    rw [if_neg (by omega), if_neg (by decide), if_pos trivial]
  have e2 : (Cw.hd r sh fx).mem s = s.load 96 := by simp only [Cw.mem, h1]
  obtain ⟨e3, e4⟩ := rd_next h1 h2 sh fx (s.load 96)
  rw [(M.load in96).gota hf, Cw.seen, if_pos h72, Cw.go, h2, e113] at e3
  exact ⟨d + 1 + 1, _, _, c', by omega, EndsC.step rfl e1 e2 (EndsC.step rfl e3 e4 (EndsC.dr E (new_notdone hop) true)), M', q1, q2, q3⟩
end
end Go.Proofs.YtmlgohknbjfciaaDoor
