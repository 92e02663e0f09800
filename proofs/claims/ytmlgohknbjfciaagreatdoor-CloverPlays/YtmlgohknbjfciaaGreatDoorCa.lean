/-
  The laws' object, its copy and the one that copies it, plainly: no program in sight.
-/
import Derived.Test.YtmlgohknbjfciaaGreatDoorD2
import Derived.Test.YtmlgohknbjfciaaGreatDoorCo
import Derived.Test.YtmlgohknbjfciaaGreatDoorPCalls2
import Derived.Test.YtmlgohknbjfciaaGreatDoorSRefs
import Derived.Deep.Cut
import Derived.Test.YtmlgohknbjfciaaGreatDoorCe
import Derived.Test.YtmlgohknbjfciaaGreatDoorDr
namespace Go.Proofs.YtmlgohknbjfciaaGreatDoor
set_option linter.unusedVariables false
set_option linter.unusedSimpArgs false
set_option maxRecDepth 100000
open Go.ChangeShapes Go.WideShapes Go.RowKit
open H.Plain (hw pS pC pN pM pG pT pL mv)

/-- two memories, and a row of words beside them that is none of theirs -/
structure TwoX (w0 w : World) (b y : Nat) (s1 s2 : St) (N X : Nat) (cs : Array Value) : Prop where
  at_ : ∃ L M : Loc, L.b = b ∧ M.b = y ∧ Mm w L s1 ∧ Rm w M s2 ∧ (∀ k ∈ L.fp, w0.heap.size ≤ k ∧ k ∉ M.fp) ∧ (∀ k ∈ M.fp, w0.heap.size ≤ k) ∧ X ∉ L.fp ∧ X ∉ M.fp
  bel : Below w0.heap.size w0 w
  fit1 : s1.Fit
  fit2 : s2.Fit
  top1 : s1.c ≤ N
  top2 : s2.c ≤ N
  rng1 : s1.Rng
  rng2 : s2.Rng
  wid : H.Wid w0
  blk : w.heap[X]? = some (.cells cs 43 (0, 0))
  old : w0.heap.size ≤ X
section
variable {w0 w w' : World} {b y p X : Nat} {s1 s2 : St} {N : Nat} {T : TypeId} {cs ds : Array Value} {F : List Nat}
theorem TwoX.two (h : TwoX w0 w b y s1 s2 N X cs) : Two w0 w b y s1 s2 N := by
  obtain ⟨⟨L, M, e1, e2, hm, hr, hl, hl2, _, _⟩, hb, f1, f2, t1, t2, r1, r2, wd, _, _⟩ := h
  exact ⟨⟨L, M, e1, e2, hm, hr, hl, hl2⟩, hb, f1, f2, t1, t2, r1, r2, wd⟩
theorem TwoX.new (h : Two w0 w b y s1 s2 N) (cs : Array Value) : TwoX w0 (w.alloc (.cells cs 43)) b y s1 s2 N w.heap.size cs := by
  have hs := h.bel.size
  have ha := h.alloc (.cells cs 43)
  obtain ⟨⟨L, M, e1, e2, hm, hr, hl, hl2⟩, hb, f1, f2, t1, t2, r1, r2, wd⟩ := h
  exact ⟨⟨L, M, e1, e2, hm.alloc _, hr.alloc _, hl, hl2, fun h => by have := hm.lt _ h; omega, fun h => by have := hr.lt _ h; omega⟩, ha.bel, f1, f2, t1, t2, r1, r2, wd, heap_alloc_new _ _, hs⟩
theorem TwoX.kept (h : TwoX w0 w b y s1 s2 N X cs) (k : Kept F w w') (hF : ∀ k ∈ F, w0.heap.size ≤ k ∧ ∃ cs T fz, T ∉ MTs ∧ w.heap[k]? = some (.cells cs T fz)) : TwoX w0 w' b y s1 s2 N X cs := by
  have h2 := h.two.kept k hF
  obtain ⟨⟨L, M, e1, e2, hm, hr, hl, hl2, x1, x2⟩, hb, f1, f2, t1, t2, r1, r2, wd, bk, od⟩ := h
  refine ⟨⟨L, M, e1, e2, hm.on k fun j hj hjF => ?_, hr.on k fun j hj hjF => ?_, hl, hl2, x1, x2⟩, h2.bel, f1, f2, t1, t2, r1, r2, wd, (k.block X (lt_of_block bk) fun hX => ?_).trans bk, od⟩
  · obtain ⟨_, _, _, _, hT, hk⟩ := hF j hjF
    exact notin_fp hm (by simp [MTs]) f1 (.inl hT) hk hj
  · obtain ⟨_, _, _, _, hT, hk⟩ := hF j hjF
    exact notin_fp hr (by simp [MTs]) f2 (.inl hT) hk hj
  · obtain ⟨_, _, _, _, hT, hk⟩ := hF X hX
    rw [bk] at hk
    simp at hk
    rw [← hk.2.1] at hT
    exact hT (by decide)
theorem TwoX.below (h : TwoX w0 w b y s1 s2 N X cs) (hb : Below w.heap.size w w') : TwoX w0 w' b y s1 s2 N X cs := h.kept (F := []) (Kept.of_below hb) fun _ h => by simp at h
theorem TwoX.alloc (h : TwoX w0 w b y s1 s2 N X cs) (o : Obj) : TwoX w0 (w.alloc o) b y s1 s2 N X cs := h.below ((Below.refl _ _).alloc (Nat.le_refl _) o)
theorem TwoX.set (h : TwoX w0 w b y s1 s2 N X cs) (hp : Blk w0 w p T ds) (i : Nat) (u : Value) : TwoX w0 (w.setCell ⟨p, i, none⟩ u) b y s1 s2 N X cs :=
  h.kept (Kept.setCell [p] _ _ _ (by simp)) fun k hk => by simp at hk; subst hk; exact ⟨hp.old, _, _, _, hp.hT, hp.at_⟩
theorem TwoX.cell (h : TwoX w0 w b y s1 s2 N X cs) (i : Nat) : w.cell? ⟨X, i, none⟩ = cs[i]? := cell_of_row w _ _ _ _ _ h.blk
theorem TwoX.free (h : TwoX w0 w b y s1 s2 N X cs) (i : Nat) : w.frozen? ⟨X, i, none⟩ = false := frozen_of_row w _ _ _ _ h.blk
theorem TwoX.lt (h : TwoX w0 w b y s1 s2 N X cs) : X < w.heap.size := lt_of_block h.blk
theorem TwoX.setX (h : TwoX w0 w b y s1 s2 N X cs) (i : Nat) (u : Value) : TwoX w0 (w.setCell ⟨X, i, none⟩ u) b y s1 s2 N X (cs.setIfInBounds i u) := by
  obtain ⟨⟨L, M, e1, e2, hm, hr, hl, hl2, x1, x2⟩, hb, f1, f2, t1, t2, r1, r2, wd, bk, od⟩ := h
  have k : Kept [X] w (w.setCell ⟨X, i, none⟩ u) := Kept.setCell [X] _ _ _ (by simp)
  exact ⟨⟨L, M, e1, e2, hm.on k fun j hj e => by simp at e; subst e; exact x1 hj, hr.on k fun j hj e => by simp at e; subst e; exact x2 hj, hl, hl2, x1, x2⟩, hb.trans (k.below (fun j hj => by simp at hj; subst hj; exact od) hb.size), f1, f2, t1, t2, r1, r2, wd, Go.Joins.block_setCell bk u, od⟩
theorem TwoX.mono (h : TwoX w0 w b y s1 s2 N X cs) {N' : Nat} (hN : N ≤ N') : TwoX w0 w b y s1 s2 N' X cs := ⟨h.at_, h.bel, h.fit1, h.fit2, by have := h.top1; omega, by have := h.top2; omega, h.rng1, h.rng2, h.wid, h.blk, h.old⟩
theorem xStore (h : TwoX w0 w b y s1 s2 N X cs) (hN : N < 1000000) (a : Int) {x : Int} (hx : U64 x) :
    Calls Tryz.prog 11 #[.pointer (some ⟨b, 0, none⟩), .int .i64 a, .int .u64 x] w fun e w' => e = .returned (.tuple #[]) ∧ TwoX w0 w' b y (s1.store a x) s2 (N + 1) X cs ∧ Oth [] w w' := by
  have ht := h.top1
  have hc : s1.c < 1000000 := by omega
  obtain ⟨⟨L, M, rfl, e2, hm, hr, hl, hl2, x1, x2⟩, hb, f1, f2, t1, t2, r1, r2, wd, bk, od⟩ := h
  refine (cStore hm f1 hc a x).mono ?_
  rintro e w' ⟨rfl, L', hm', st⟩
  have hl' : ∀ k ∈ L'.fp, w0.heap.size ≤ k ∧ k ∉ M.fp := fun k hk => (st.new k hk).elim (hl k) fun h' => ⟨Nat.le_trans hb.size h', fun hkM => by have := hr.lt k hkM; omega⟩
  exact ⟨rfl, ⟨⟨L', M, st.b, e2, hm', hr.on st.kept fun k hk hm' => (hl k hm').2 hk, hl', hl2, fun h' => (st.new X h').elim x1 fun h' => by have := lt_of_block bk; omega, x2⟩, hb.trans (st.kept.below (fun k hk => (hl k hk).1) hb.size), f1.store hc a x, f2, by rw [St.c_store]; omega, by omega, r1.store a hx, r2, wd, (st.kept.block X (lt_of_block bk) x1).trans bk, od⟩, Oth.step hm (by simp [MTs]) f1 st⟩
theorem xyStore (h : TwoX w0 w b y s1 s2 N X cs) (hN : N < 1000000) (a : Int) {x : Int} (hx : U64 x) :
    Calls Tryz.prog 12 #[.pointer (some ⟨y, 0, none⟩), .int .i64 a, .int .u64 x] w fun e w' => e = .returned (.tuple #[]) ∧ TwoX w0 w' b y s1 (s2.store a x) (N + 1) X cs ∧ Oth [] w w' := by
  have ht := h.top2
  have hc : s2.c < 1000000 := by omega
  obtain ⟨⟨L, M, e1, rfl, hm, hr, hl, hl2, x1, x2⟩, hb, f1, f2, t1, t2, r1, r2, wd, bk, od⟩ := h
  refine (rStore hr f2 hc a x).mono ?_
  rintro e w' ⟨rfl, M', hr', st⟩
  have hl' : ∀ k ∈ M'.fp, w0.heap.size ≤ k := fun k hk => (st.new k hk).elim (hl2 k) fun h' => Nat.le_trans hb.size h'
  exact ⟨rfl, ⟨⟨L, M', e1, st.b, hm.on st.kept fun k hk hm' => (hl k hk).2 hm', hr', fun k hk => ⟨(hl k hk).1, fun hkM => (st.new k hkM).elim (hl k hk).2 fun h' => by have := hm.lt k hk; omega⟩, hl', x1, fun h' => (st.new X h').elim x2 fun h' => by have := lt_of_block bk; omega⟩, hb.trans (st.kept.below (fun k hk => hl2 k hk) hb.size), f1, f2.store hc a x, by omega, by rw [St.c_store]; omega, r1, r2.store a hx, wd, (st.kept.block X (lt_of_block bk) x2).trans bk, od⟩, Oth.step hr (by simp [MTs]) f2 st⟩
end
/-- eight words in a row -/
def arr8 (z : Nat → Int) : Array Value := #[.int .u64 (z 0), .int .u64 (z 1), .int .u64 (z 2), .int .u64 (z 3), .int .u64 (z 4), .int .u64 (z 5), .int .u64 (z 6), .int .u64 (z 7)]
def updN {α : Type} (f : Nat → α) (k : Nat) (v : α) : Nat → α := fun j => if j = k then v else f j
theorem nat8 {i : Nat} (h : i < 8) : i = 0 ∨ i = 1 ∨ i = 2 ∨ i = 3 ∨ i = 4 ∨ i = 5 ∨ i = 6 ∨ i = 7 := by omega
theorem arr8_set (z : Nat → Int) {i : Nat} (h : i < 8) (v : Int) : (arr8 z).setIfInBounds i (.int .u64 v) = arr8 (updN z i v) := by
  rcases nat8 h with rfl | rfl | rfl | rfl | rfl | rfl | rfl | rfl <;> simp [arr8, updN]
theorem arr8_get (z : Nat → Int) {i : Nat} (h : i < 8) : (arr8 z)[i]? = some (.int .u64 (z i)) := by
  rcases nat8 h with rfl | rfl | rfl | rfl | rfl | rfl | rfl | rfl <;> rfl
/-- a header without a tag; the first object's -/
def H0 : Int := hw 1 0 3 0 0 0 0
def HT (t : Int) : Int := hw 1 0 3 0 0 t 112
def fldP (ll : Nat) (zl : Nat → Vl) (j : Nat) : Vl := if j < ll then valP (zl j) else Vl.zero
/-- the words that are laid -/
def wl (t : Int) (l : Nat → Vl) : Nat → Int
  | 0 => HT t
  | 4 => H0
  | 1 => (l 0).w
  | 2 => (l 1).w
  | 3 => (l 2).w
  | 5 => (l 3).w
  | 6 => (l 4).w
  | 7 => (l 5).w
  | _ => 0
/-- behind g fields -/
def wg (t : Int) (l : Nat → Vl) (g : Nat) (i : Nat) : Int := if i = 0 ∨ i = 4 ∨ (i < 4 ∧ i ≤ g) ∨ (4 < i ∧ i ≤ g + 1) then wl t l i else 0
theorem wg_step (t : Int) (l : Nat → Vl) {g : Nat} (hg : g < 6) : ∀ i, i < 8 → updN (wg t l g) (1 + g + g / 3) (l g).w i = wg t l (g + 1) i := by
  intro i hi
  rcases (show g = 0 ∨ g = 1 ∨ g = 2 ∨ g = 3 ∨ g = 4 ∨ g = 5 by omega) with rfl | rfl | rfl | rfl | rfl | rfl <;> rcases nat8 hi with rfl | rfl | rfl | rfl | rfl | rfl | rfl | rfl <;> simp [updN, wg, wl]
theorem wg_end (t : Int) (l : Nat → Vl) {i : Nat} (hi : i < 8) : wg t l 6 i = wl t l i := by
  rcases nat8 hi with rfl | rfl | rfl | rfl | rfl | rfl | rfl | rfl <;> simp [wg]
theorem u64_wl (t : Int) (l : Nat → Vl) (i : Nat) : U64 (wl t l i) := by
  unfold wl
  split <;> first | exact u64_hw _ _ _ _ _ _ _ | exact Vl.u64 _ | exact U64.zero
theorem arr8_congr {z z' : Nat → Int} (h : ∀ i, i < 8 → z i = z' i) : arr8 z = arr8 z' := by
  simp only [arr8, h 0 (by omega), h 1 (by omega), h 2 (by omega), h 3 (by omega), h 4 (by omega), h 5 (by omega), h 6 (by omega), h 7 (by omega)]
def laidL (t : Int) (l : Nat → Vl) : Nat → St
  | 0 => St.new 160
  | i + 1 => (laidL t l i).store (96 + (i : Int)) (wl t l i)
def laidS (t k : Int) (l : Nat → Vl) : St := ((laidL t l 8).store 112 H0).store 16 (S.Plain.bw k 0 0 0)
section
set_option maxHeartbeats 2000000
theorem cAt (w : World) : Calls Tryz.prog 14 #[] w fun e w' => e = .returned (.agg #[.int .i64 4, .int .i64 4, .int .i64 14, .int .i64 32, .int .i64 160]) ∧ Below w.heap.size w w' := by
  have a0 : Below w.heap.size w (w.alloc (.cells #[.int .i64 0, .int .i64 0, .int .i64 0, .int .i64 0, .int .i64 0] 48)) := (Below.refl _ _).alloc (Nat.le_refl _) _
  have R0 : Blk w (w.alloc (.cells #[.int .i64 0, .int .i64 0, .int .i64 0, .int .i64 0, .int .i64 0] 48)) w.heap.size 48 #[.int .i64 0, .int .i64 0, .int .i64 0, .int .i64 0, .int .i64 0] := Blk.new (Nat.le_refl _) _ (by decide)
  go_enter Tryz.func14, Tryz.ntmps14
  go_upto_region 1 with (fail)
  obtain ⟨rb, hrb⟩ : ∃ rb, w.heap.size = rb := ⟨_, rfl⟩
  rw [hrb] at R0 ⊢
  generalize w.alloc (.cells #[.int .i64 0, .int .i64 0, .int .i64 0, .int .i64 0, .int .i64 0] 48) = w1 at a0 R0 ⊢
  have rl := R0.lt
  go_upto_region 2 with (go_at_call 45; refine (P.rNew 4 4 (by decide) (by decide) (by decide) (by decide) _).mono ?_; rintro e w2 ⟨rfl, hb2⟩; rw [show P.Plain.hp 4 4 = 32 by decide]; have R2 := R0.below hb2; have a2 := bel_trans a0 hb2)
  have a3 : Below w2.heap.size w2 (w2.alloc (.cells #[.int .i64 4, .int .i64 4, .int .i64 14, .int .i64 32, .int .i64 160] 48)) := (Below.refl _ _).alloc (Nat.le_refl _) _
  have R3 := R2.below a3
  have Q3 : Blk w (w2.alloc (.cells #[.int .i64 4, .int .i64 4, .int .i64 14, .int .i64 32, .int .i64 160] 48)) w2.heap.size 48 #[.int .i64 4, .int .i64 4, .int .i64 14, .int .i64 32, .int .i64 160] := Blk.new a2.size _ (by decide)
  have np : w2.heap.size ≠ rb := by have := R2.lt; omega
  have a4 := bel_trans a2 a3
  generalize w2.alloc (.cells #[.int .i64 4, .int .i64 4, .int .i64 14, .int .i64 32, .int .i64 160] 48) = w3 at Q3 R3 a4 ⊢
  generalize w2.heap.size = pb at Q3 np ⊢
  have c0 : w3.cell? ⟨pb, 0, none⟩ = some (.int .i64 4) := Q3.cell 0
  have c1 : w3.cell? ⟨pb, 1, none⟩ = some (.int .i64 4) := Q3.cell 1
  have c2 : w3.cell? ⟨pb, 2, none⟩ = some (.int .i64 14) := Q3.cell 2
  have c3 : w3.cell? ⟨pb, 3, none⟩ = some (.int .i64 32) := Q3.cell 3
  have c4 : w3.cell? ⟨pb, 4, none⟩ = some (.int .i64 160) := Q3.cell 4
  have ql := Q3.lt
  have r0 : w3.cell? ⟨rb, 0, none⟩ = some (.int .i64 0) := R3.cell 0
  have rf0 := R3.free 0
  have r1 : w3.cell? ⟨rb, 1, none⟩ = some (.int .i64 0) := R3.cell 1
  have rf1 := R3.free 1
  have r2 : w3.cell? ⟨rb, 2, none⟩ = some (.int .i64 0) := R3.cell 2
  have rf2 := R3.free 2
  have r3 : w3.cell? ⟨rb, 3, none⟩ = some (.int .i64 0) := R3.cell 3
  have rf3 := R3.free 3
  have r4 : w3.cell? ⟨rb, 4, none⟩ = some (.int .i64 0) := R3.cell 4
  have rf4 := R3.free 4
  go_wp2
  have R4 := ((((R3.set 0 (.int .i64 4)).set 1 (.int .i64 4)).set 2 (.int .i64 14)).set 3 (.int .i64 32)).set 4 (.int .i64 160)
  have K4 : Kept [rb] w3 (((((w3.setCell ⟨rb, 0, none⟩ (.int .i64 4)).setCell ⟨rb, 1, none⟩ (.int .i64 4)).setCell ⟨rb, 2, none⟩ (.int .i64 14)).setCell ⟨rb, 3, none⟩ (.int .i64 32)).setCell ⟨rb, 4, none⟩ (.int .i64 160)) := ((((Kept.setCell [rb] _ _ _ (by simp)).trans (Kept.setCell [rb] _ _ _ (by simp)) fun _ h => .inl h).trans (Kept.setCell [rb] _ _ _ (by simp)) fun _ h => .inl h).trans (Kept.setCell [rb] _ _ _ (by simp)) fun _ h => .inl h).trans (Kept.setCell [rb] _ _ _ (by simp)) fun _ h => .inl h
  have u0 := R4.cell 0
  have u1 := R4.cell 1
  have u2 := R4.cell 2
  have u3 := R4.cell 3
  have u4 := R4.cell 4
  simp at u0 u1 u2 u3 u4
  exact bodyPost_ret (v := .agg #[.int .i64 4, .int .i64 4, .int .i64 14, .int .i64 32, .int .i64 160]) (by simp [results, Tryz.results14, go_sem, u0, u1, u2, u3, u4]) rfl ⟨rfl, a4.trans (K4.below (fun j hj => by simp at hj; omega) a4.size)⟩
/-- the two memories -/
theorem cLaid (w : World) (W : H.Wid w) {tg bk : Int} {av : Option Addr} {ll cv' : Nat} {zl : Nat → Vl} (cv : CameV w av ll zl) (g0 : -9223372036854775808 ≤ tg) (g1 : tg ≤ 9223372036854775807) (g2 : -9223372036854775808 ≤ bk) (g3 : bk ≤ 9223372036854775807) :
    Calls Tryz.prog 8 #[.agg #[.int .i64 tg, .int .i64 bk, .slice av ll cv']] w fun e w' => ∃ b y, e = .returned (.tuple #[.pointer (some ⟨b, 0, none⟩), .pointer (some ⟨y, 0, none⟩)]) ∧ Two w w' b y (laidS (kd tg 6) (kd bk 3) (fldP ll zl)) (laidS (kd tg 6) (kd bk 3) (fldP ll zl)) 20 := by
  obtain ⟨l, hl⟩ : ∃ l, fldP ll zl = l := ⟨_, rfl⟩
  obtain ⟨t, htk⟩ : ∃ t, kd tg 6 = t := ⟨_, rfl⟩
  obtain ⟨k3, hk3⟩ : ∃ t, kd bk 3 = t := ⟨_, rfl⟩
  rw [hl, htk, hk3]
  obtain ⟨h0, hh0⟩ : ∃ h0, hw 1 0 3 0 0 0 0 = h0 := ⟨_, rfl⟩
  obtain ⟨ht, hht⟩ : ∃ ht, hw 1 0 3 0 0 t 112 = ht := ⟨_, rfl⟩
  obtain ⟨bw', hbw⟩ : ∃ q, S.Plain.bw k3 0 0 0 = q := ⟨_, rfl⟩
  have a0 : Below w.heap.size w (w.alloc (.cells #[.int .i64 tg, .int .i64 bk, .slice av ll cv'] 24)) := (Below.refl _ _).alloc (Nat.le_refl _) _
  have X0 : Blk w (w.alloc (.cells #[.int .i64 tg, .int .i64 bk, .slice av ll cv'] 24)) w.heap.size 24 #[.int .i64 tg, .int .i64 bk, .slice av ll cv'] := Blk.new (Nat.le_refl _) _ (by decide)
  go_enter Tryz.func8, Tryz.ntmps8
  go_upto_region 1 with (fail)
  generalize w.alloc (.cells #[.int .i64 tg, .int .i64 bk, .slice av ll cv'] 24) = wa at a0 X0 ⊢
  generalize w.heap.size = xb at X0 ⊢
  go_upto_region 2 with (go_at_call 14; refine (cAt _).mono ?_; rintro e wb ⟨rfl, hbb⟩; have X1 := X0.below hbb; have a1 := bel_trans a0 hbb; clear hbb)
  have hs1 := a1.size
  have ac : Below wb.heap.size wb (wb.alloc (.cells #[.int .i64 4, .int .i64 4, .int .i64 14, .int .i64 32, .int .i64 160] 48)) := (Below.refl _ _).alloc (Nat.le_refl _) _
  have X2 := X1.below ac
  have Q2 : Blk wb (wb.alloc (.cells #[.int .i64 4, .int .i64 4, .int .i64 14, .int .i64 32, .int .i64 160] 48)) wb.heap.size 48 #[.int .i64 4, .int .i64 4, .int .i64 14, .int .i64 32, .int .i64 160] := Blk.new (Nat.le_refl _) _ (by decide)
  have bel2 := bel_trans a1 ac
  generalize wb.alloc (.cells #[.int .i64 4, .int .i64 4, .int .i64 14, .int .i64 32, .int .i64 160] 48) = w2 at X2 Q2 bel2 ⊢
  generalize wb.heap.size = pb at Q2 ⊢
  have cv2 := cv.on bel2
  have W2 := W.on bel2
  have x0 : w2.cell? ⟨xb, 0, none⟩ = some (.int .i64 tg) := X2.cell 0
  have x1 : w2.cell? ⟨xb, 1, none⟩ = some (.int .i64 bk) := X2.cell 1
  have x2 : w2.cell? ⟨xb, 2, none⟩ = some (.slice av ll cv') := X2.cell 2
  have hx := X2.lt
  have hpb := Q2.lt
  have pc0 : w2.cell? ⟨pb, 0, none⟩ = some (.int .i64 4) := Q2.cell 0
  have pc1 : w2.cell? ⟨pb, 1, none⟩ = some (.int .i64 4) := Q2.cell 1
  have pc2 : w2.cell? ⟨pb, 2, none⟩ = some (.int .i64 14) := Q2.cell 2
  have pc3 : w2.cell? ⟨pb, 3, none⟩ = some (.int .i64 32) := Q2.cell 3
  have pc4 : w2.cell? ⟨pb, 4, none⟩ = some (.int .i64 160) := Q2.cell 4
  clear a0 X0 X1 a1 ac hs1
  go_upto_region 7 with (first
    | (go_at_call 32; refine (hNew _ 160 (by decide) (by decide) (Below.refl _ _) W2).mono ?_; rintro e wc ⟨b, rfl, h1⟩; have y4 : wc.cell? ⟨pb, 4, none⟩ = some (.int .i64 160) := (h1.bel.cell hpb).trans pc4; have yl : pb < wc.heap.size := Nat.lt_of_lt_of_le hpb h1.bel.size)
    | (go_at_call 33; refine (yNew h1 160 (by decide) (by decide)).mono ?_; rintro e w2' ⟨y, rfl, h2⟩))
  have h3 := h2.alloc (.cells #[.int .i64 1, .int .i64 0, .int .i64 3, .int .i64 0, .int .i64 0, .int .i64 0, .int .i64 0] 40)
  have B3 : Blk w2 (w2'.alloc (.cells #[.int .i64 1, .int .i64 0, .int .i64 3, .int .i64 0, .int .i64 0, .int .i64 0, .int .i64 0] 40)) w2'.heap.size 40 #[.int .i64 1, .int .i64 0, .int .i64 3, .int .i64 0, .int .i64 0, .int .i64 0, .int .i64 0] := Blk.new h2.bel.size _ (by decide)
  generalize w2'.alloc (.cells #[.int .i64 1, .int .i64 0, .int .i64 3, .int .i64 0, .int .i64 0, .int .i64 0, .int .i64 0] 40) = w3 at h3 B3 ⊢
  generalize w2'.heap.size = hb at B3 ⊢
  have c0 : w3.cell? ⟨hb, 0, none⟩ = some (.int .i64 1) := B3.cell 0
  have c1 : w3.cell? ⟨hb, 1, none⟩ = some (.int .i64 0) := B3.cell 1
  have c2 : w3.cell? ⟨hb, 2, none⟩ = some (.int .i64 3) := B3.cell 2
  have c3 : w3.cell? ⟨hb, 3, none⟩ = some (.int .i64 0) := B3.cell 3
  have c4 : w3.cell? ⟨hb, 4, none⟩ = some (.int .i64 0) := B3.cell 4
  have c5 : w3.cell? ⟨hb, 5, none⟩ = some (.int .i64 0) := B3.cell 5
  have c6 : w3.cell? ⟨hb, 6, none⟩ = some (.int .i64 0) := B3.cell 6
  have cl := B3.lt
  go_upto_region 8 with (go_at_call 10; refine (H.rWord _ _ _ _ _ _ _ _).mono ?_; rintro e w4 ⟨rfl, hw4⟩; rw [hh0]; have hb4 : Below w3.heap.size w3 w4 := (by rw [hw4]; go_grown); have h4 := h3.below hb4; have B4 := B3.below hb4; clear hw4 hb4)
  have x5 := TwoX.new h4 #[.int .u64 0, .int .u64 0, .int .u64 0, .int .u64 0, .int .u64 h0, .int .u64 0, .int .u64 0, .int .u64 0]
  have B5 := B4.below ((Below.refl _ w4).alloc (Nat.le_refl _) (.cells #[.int .u64 0, .int .u64 0, .int .u64 0, .int .u64 0, .int .u64 h0, .int .u64 0, .int .u64 0, .int .u64 0] 43))
  clear c0 c1 c2 c3 c4 c5 c6 cl
  generalize w4.alloc (.cells #[.int .u64 0, .int .u64 0, .int .u64 0, .int .u64 0, .int .u64 h0, .int .u64 0, .int .u64 0, .int .u64 0] 43) = w5 at x5 B5 ⊢
  generalize w4.heap.size = X at x5 ⊢
  have c0 : w5.cell? ⟨hb, 0, none⟩ = some (.int .i64 1) := B5.cell 0
  have c1 : w5.cell? ⟨hb, 1, none⟩ = some (.int .i64 0) := B5.cell 1
  have c2 : w5.cell? ⟨hb, 2, none⟩ = some (.int .i64 3) := B5.cell 2
  have c3 : w5.cell? ⟨hb, 3, none⟩ = some (.int .i64 0) := B5.cell 3
  have c4 : w5.cell? ⟨hb, 4, none⟩ = some (.int .i64 0) := B5.cell 4
  have c5 : w5.cell? ⟨hb, 5, none⟩ = some (.int .i64 0) := B5.cell 5
  have c6 : w5.cell? ⟨hb, 6, none⟩ = some (.int .i64 0) := B5.cell 6
  have cl := B5.lt
  have f5 := B5.free 5
  have f6 := B5.free 6
  have xa : w5.cell? ⟨xb, 0, none⟩ = some (.int .i64 tg) := (x5.bel.cell hx).trans x0
  have xal : xb < w5.heap.size := Nat.lt_of_lt_of_le hx x5.bel.size
  go_upto_region 10 with (go_at_call 9; refine (cKind _ tg 6 g0 g1 (by decide)).mono ?_; rintro e wk ⟨rfl, hwk⟩; rw [hwk, htk]; clear hwk wk)
  have x6 := (x5.set B5 5 (.int .i64 t)).set (B5.set 5 (.int .i64 t)) 6 (.int .i64 112)
  have B6 : Blk w2 ((w5.setCell ⟨hb, 5, none⟩ (.int .i64 t)).setCell ⟨hb, 6, none⟩ (.int .i64 112)) hb 40 #[.int .i64 1, .int .i64 0, .int .i64 3, .int .i64 0, .int .i64 0, .int .i64 t, .int .i64 112] := (B5.set 5 _).set 6 _
  clear c0 c1 c2 c3 c4 c5 c6 cl f5 f6 xa xal
  generalize (w5.setCell ⟨hb, 5, none⟩ (.int .i64 t)).setCell ⟨hb, 6, none⟩ (.int .i64 112) = w6 at x6 B6 ⊢
  have c0 : w6.cell? ⟨hb, 0, none⟩ = some (.int .i64 1) := B6.cell 0
  have c1 : w6.cell? ⟨hb, 1, none⟩ = some (.int .i64 0) := B6.cell 1
  have c2 : w6.cell? ⟨hb, 2, none⟩ = some (.int .i64 3) := B6.cell 2
  have c3 : w6.cell? ⟨hb, 3, none⟩ = some (.int .i64 0) := B6.cell 3
  have c4 : w6.cell? ⟨hb, 4, none⟩ = some (.int .i64 0) := B6.cell 4
  have c5 : w6.cell? ⟨hb, 5, none⟩ = some (.int .i64 t) := B6.cell 5
  have c6 : w6.cell? ⟨hb, 6, none⟩ = some (.int .i64 112) := B6.cell 6
  have cl := B6.lt
  go_wp2_with (go_at_call 10; refine (H.rWord _ _ _ _ _ _ _ _).mono ?_; rintro e w7 ⟨rfl, hw7⟩; rw [hht]; have hb7 : Below w6.heap.size w6 w7 := (by rw [hw7]; go_grown); have x7 := x6.below hb7; clear hw7 hb7; have z0 : w7.cell? ⟨X, 0, none⟩ = some (.int .u64 0) := x7.cell 0; have zf0 := x7.free 0)
  have x8 := x7.setX 0 (.int .u64 ht)
  rw [show (#[Value.int .u64 0, .int .u64 0, .int .u64 0, .int .u64 0, .int .u64 h0, .int .u64 0, .int .u64 0, .int .u64 0].setIfInBounds 0 (.int .u64 ht)) = arr8 (wg t l 0) by simp [arr8, wg, wl, HT, H0, hh0, hht]] at x8
  go_loopw [11] (fun i wr => ∃ g : Nat, g ≤ 6 ∧ i = .int .i64 g ∧ TwoX w2 wr b y (St.new 160) (St.new 160) 0 X (arr8 (wg t l g))) (fun i _ => 6 - (intOf i).toNat)
  case atStart => exact ⟨0, Nat.zero_le _, rfl, x8⟩
  case round =>
    obtain ⟨g, hg, rfl, p1⟩ := hrel
    by_cases hg6 : g < 6
    case pos =>
      have cv1 := cv2.on p1.bel
      have xs : wr.cell? ⟨xb, 2, none⟩ = some (.slice av ll cv') := (p1.bel.cell hx).trans x2
      have xlt : xb < wr.heap.size := Nat.lt_of_lt_of_le hx p1.bel.size
      have hgi : (g : Int) < 6 := by omega
      by_cases hin : g < ll
      · obtain ⟨vb', off, rfl, hvb, hz⟩ : ∃ b off, av = some ⟨b, off, none⟩ ∧ b < wr.heap.size ∧ ∀ j, j < ll → wr.cell? ⟨b, off + j * 2, none⟩ = some (.int .i64 (zl j).k) ∧ wr.cell? ⟨b, off + (j * 2 + 1), none⟩ = some (.int .i64 (zl j).n) ∧ (zl j).Fit := (cv1.resolve_left (by omega))
        obtain ⟨d0, d1, df⟩ := hz g hin
        obtain ⟨qv, hqv⟩ : ∃ qv, zl g = qv := ⟨_, rfl⟩
        rw [hqv] at d0 d1 df
        have hlx : l g = valP qv := by rw [← hl, fldP, if_pos hin, hqv]
        obtain ⟨u, hu⟩ : ∃ u, valP qv = u := ⟨_, rfl⟩
        rw [hu] at hlx
        have hini : (g : Int) < (ll : Int) := by omega
        rw [← Nat.add_assoc] at d1
        clear hz hqv
        go_upto_region 17 with (go_at_call 25; refine (cVal qv df _).mono ?_; rintro e w7 ⟨rfl, hb7⟩; rw [hu]; have p7 := (p1.alloc (.cells #[.int .i64 0, .int .i64 0] 38)).below hb7; have B7 : Blk w2 w7 wr.heap.size 38 #[.int .i64 0, .int .i64 0] := (Blk.new p1.bel.size _ (by decide)).below hb7; have e0 : w7.cell? ⟨wr.heap.size, 0, none⟩ = some (.int .i64 0) := B7.cell 0; have e1 : w7.cell? ⟨wr.heap.size, 1, none⟩ = some (.int .i64 0) := B7.cell 1; have f0 := B7.free 0; have f1 := B7.free 1)
        have B8 : Blk w2 ((w7.setCell ⟨wr.heap.size, 0, none⟩ (.int .i64 u.k)).setCell ⟨wr.heap.size, 1, none⟩ (.int .i64 u.n)) wr.heap.size 38 #[.int .i64 u.k, .int .i64 u.n] := (B7.set 0 _).set 1 _
        have p8 := (p7.set B7 0 (.int .i64 u.k)).set (B7.set 0 (.int .i64 u.k)) 1 (.int .i64 u.n)
        clear e0 e1 f0 f1
        generalize (w7.setCell ⟨wr.heap.size, 0, none⟩ (.int .i64 u.k)).setCell ⟨wr.heap.size, 1, none⟩ (.int .i64 u.n) = w8 at B8 p8 ⊢
        generalize wr.heap.size = vb at B8 ⊢
        have x0 : w8.cell? ⟨vb, 0, none⟩ = some (.int .i64 u.k) := B8.cell 0
        have x1 : w8.cell? ⟨vb, 1, none⟩ = some (.int .i64 u.n) := B8.cell 1
        have xl := B8.lt
        obtain ⟨ix, hix⟩ : ∃ ix, 1 + g + g / 3 = ix := ⟨_, rfl⟩
        have hix8 : ix < 8 := by omega
        have i1 : 1 + (g : Int) + (g : Int) / 3 = (ix : Int) := by omega
        have i2 : IntKind.i64.wrap (1 + (g : Int)) = 1 + (g : Int) := by rw [IntKind.wrap_i64]; omega
        have i3 : (g : Int).tdiv 3 = (g : Int) / 3 := Int.tdiv_eq_ediv_of_nonneg (by omega)
        have i4 : IntKind.i64.wrap ((g : Int) / 3) = (g : Int) / 3 := by rw [IntKind.wrap_i64]; omega
        have i5 : IntKind.i64.wrap (ix : Int) = (ix : Int) := by rw [IntKind.wrap_i64]; omega
        have hU2 := u64_word u.k u.n
        obtain ⟨wd2, hwd2⟩ : ∃ wd2, F.Plain.word u.k u.n = wd2 := ⟨_, rfl⟩
        rw [hwd2] at hU2
        have hixi : (ix : Int) < 8 := by omega
        go_wp2_with (go_at_call 34; refine (F.rWord u.k u.n _).mono ?_; rintro e w10 ⟨rfl, m10, hw10⟩; rw [hwd2]; have hb10 : Below w8.heap.size w8 w10 := (by rw [hw10]; exact F.bdr ((Below.refl _ _).alloc (Nat.le_refl _) _) _); have p10 := p8.below hb10; clear hw10 hb10; have xz : w10.cell? ⟨X, ix, none⟩ = some (.int .u64 (wg t l g ix)) := (p10.cell ix).trans (arr8_get _ hix8); have xf := p10.free ix)
        go_roundw
        case rel => exact ⟨g + 1, by omega, by go_num, (by have q := p10.setX ix (.int .u64 wd2); rw [arr8_set _ hix8] at q; have e : ∀ i, i < 8 → updN (wg t l g) ix wd2 i = wg t l (g + 1) i := (by rw [← hix, ← hwd2]; rw [show F.Plain.word u.k u.n = (l g).w by rw [hlx]; rfl]; exact wg_step t l hg6); rw [arr8_congr e] at q; exact q)⟩
        case measure => simp [intOf]; omega
      · have hlx : l g = Vl.zero := by rw [← hl, fldP, if_neg hin]
        have hini : ¬ (g : Int) < (ll : Int) := by omega
        obtain ⟨u, hu⟩ : ∃ u, Vl.zero = u := ⟨_, rfl⟩
        rw [hu] at hlx
        have p8 := p1.alloc (.cells #[.int .i64 0, .int .i64 0] 38)
        have B8 : Blk w2 (wr.alloc (.cells #[.int .i64 0, .int .i64 0] 38)) wr.heap.size 38 #[.int .i64 u.k, .int .i64 u.n] := (by rw [← hu]; exact Blk.new p1.bel.size _ (by decide))
        go_upto_region 17 with (fail)
        generalize wr.alloc (.cells #[.int .i64 0, .int .i64 0] 38) = w8 at B8 p8 ⊢
        generalize wr.heap.size = vb at B8 ⊢
        have x0 : w8.cell? ⟨vb, 0, none⟩ = some (.int .i64 u.k) := B8.cell 0
        have x1 : w8.cell? ⟨vb, 1, none⟩ = some (.int .i64 u.n) := B8.cell 1
        have xl := B8.lt
        obtain ⟨ix, hix⟩ : ∃ ix, 1 + g + g / 3 = ix := ⟨_, rfl⟩
        have hix8 : ix < 8 := by omega
        have i1 : 1 + (g : Int) + (g : Int) / 3 = (ix : Int) := by omega
        have i2 : IntKind.i64.wrap (1 + (g : Int)) = 1 + (g : Int) := by rw [IntKind.wrap_i64]; omega
        have i3 : (g : Int).tdiv 3 = (g : Int) / 3 := Int.tdiv_eq_ediv_of_nonneg (by omega)
        have i4 : IntKind.i64.wrap ((g : Int) / 3) = (g : Int) / 3 := by rw [IntKind.wrap_i64]; omega
        have i5 : IntKind.i64.wrap (ix : Int) = (ix : Int) := by rw [IntKind.wrap_i64]; omega
        have hU2 := u64_word u.k u.n
        obtain ⟨wd2, hwd2⟩ : ∃ wd2, F.Plain.word u.k u.n = wd2 := ⟨_, rfl⟩
        rw [hwd2] at hU2
        have hixi : (ix : Int) < 8 := by omega
        go_wp2_with (go_at_call 34; refine (F.rWord u.k u.n _).mono ?_; rintro e w10 ⟨rfl, m10, hw10⟩; rw [hwd2]; have hb10 : Below w8.heap.size w8 w10 := (by rw [hw10]; exact F.bdr ((Below.refl _ _).alloc (Nat.le_refl _) _) _); have p10 := p8.below hb10; clear hw10 hb10; have xz : w10.cell? ⟨X, ix, none⟩ = some (.int .u64 (wg t l g ix)) := (p10.cell ix).trans (arr8_get _ hix8); have xf := p10.free ix)
        go_roundw
        case rel => exact ⟨g + 1, by omega, by go_num, (by have q := p10.setX ix (.int .u64 wd2); rw [arr8_set _ hix8] at q; have e : ∀ i, i < 8 → updN (wg t l g) ix wd2 i = wg t l (g + 1) i := (by rw [← hix, ← hwd2]; rw [show F.Plain.word u.k u.n = (l g).w by rw [hlx]; rfl]; exact wg_step t l hg6); rw [arr8_congr e] at q; exact q)⟩
        case measure => simp [intOf]; omega
    case neg =>
      have hge : g = 6 := by omega
      have hgi : ¬ (g : Int) < 6 := by omega
      rw [arr8_congr (z := wg t l g) (z' := wl t l) (fun i hi => by rw [hge]; exact wg_end t l hi)] at p1
      go_wp2_with (fail)
      go_loopw [13] (fun i wr => ∃ j : Nat, j ≤ 8 ∧ i = .int .i64 j ∧ TwoX w2 wr b y (laidL t l j) (laidL t l j) (2 * j) X (arr8 (wl t l))) (fun i _ => 8 - (intOf i).toNat)
      case atStart => exact ⟨0, Nat.zero_le _, rfl, p1⟩
      case round =>
        obtain ⟨j, hj, rfl, q1⟩ := hrel
        by_cases hj8 : j < 8
        case pos =>
          have hji : (j : Int) < 8 := by omega
          have xj : wr.cell? ⟨X, j, none⟩ = some (.int .u64 (wl t l j)) := (q1.cell j).trans (arr8_get _ hj8)
          have hU := u64_wl t l j
          obtain ⟨v, hv⟩ : ∃ v, wl t l j = v := ⟨_, rfl⟩
          rw [hv] at xj hU
          have xl := q1.lt
          go_wp2_with (first
            | (go_at_call 11; refine (xStore q1 (by omega) (96 + (j : Int)) hU).mono ?_; rintro e w11 ⟨rfl, q2, o2⟩; have xk : w11.cell? ⟨X, j, none⟩ = some (.int .u64 v) := hv ▸ (q2.cell j).trans (arr8_get _ hj8))
            | (go_at_call 12; refine (xyStore q2 (by omega) (96 + (j : Int)) hU).mono ?_; rintro e w12 ⟨rfl, q3, o3⟩))
          go_roundw
          case rel => exact ⟨j + 1, by omega, by go_num, (by simp only [laidL, hv]; exact q3.mono (by omega))⟩
          case measure => simp [intOf]; omega
        case neg =>
          obtain rfl : j = 8 := by omega
          have hU := u64_hw 1 0 3 0 0 0 0
          rw [hh0] at hU
          have hV : U64 bw' := by rw [← hbw]; unfold S.Plain.bw; exact ⟨by omega, by omega⟩
          go_upto_region 24 with (go_at_call 10; refine (H.rWord _ _ _ _ _ _ _ _).mono ?_; rintro e w9 ⟨rfl, hw9⟩; rw [hh0]; have hb9 : Below wr.heap.size wr w9 := (by rw [hw9]; go_grown); have t1 := q1.two.below hb9; clear hw9 hb9)
          have xc : w9.cell? ⟨xb, 1, none⟩ = some (.int .i64 bk) := (t1.bel.cell hx).trans x1
          have xcl : xb < w9.heap.size := Nat.lt_of_lt_of_le hx t1.bel.size
          go_upto_region 27 with (first
            | (go_at_call 9; refine (cKind _ bk 3 g2 g3 (by decide)).mono ?_; rintro e wk ⟨rfl, hwk⟩; rw [hwk, hk3]; clear hwk wk)
            | (go_at_call 35; refine (S.hBlock _ _ _ _ _).mono ?_; rintro e w10 ⟨rfl, hb10⟩; rw [hbw]; have t2 := t1.below hb10; clear hb10)
            | (go_at_call 11; refine (tStore t2 (by omega) 112 hU).mono ?_; rintro e w11 ⟨rfl, t3, o3⟩)
            | (go_at_call 12; refine (yStore t3 (by omega) 112 hU).mono ?_; rintro e w12 ⟨rfl, t4, o4⟩))
          have pd0 : w12.cell? ⟨pb, 0, none⟩ = some (.int .i64 4) := (t4.bel.cell hpb).trans pc0
          have pd1 : w12.cell? ⟨pb, 1, none⟩ = some (.int .i64 4) := (t4.bel.cell hpb).trans pc1
          have pd2 : w12.cell? ⟨pb, 2, none⟩ = some (.int .i64 14) := (t4.bel.cell hpb).trans pc2
          have pd3 : w12.cell? ⟨pb, 3, none⟩ = some (.int .i64 32) := (t4.bel.cell hpb).trans pc3
          have pd4 : w12.cell? ⟨pb, 4, none⟩ = some (.int .i64 160) := (t4.bel.cell hpb).trans pc4
          have pdl : pb < w12.heap.size := Nat.lt_of_lt_of_le hpb t4.bel.size
          go_upto_region 28 with (first
            | (go_at_call 36; refine (P.rEntry 4 4 14 32 160 2 (by decide) (by decide) (by decide) (by decide) _).mono ?_; rintro e w13 ⟨rfl, hw13⟩; rw [show ((14 : Int) + 2) = 16 from rfl]; have hb13 : Below w12.heap.size w12 w13 := (by rw [hw13]; exact (Below.refl _ _).alloc (Nat.le_refl _) _); have t5 := t4.below hb13; clear hw13 hb13)
            | (go_at_call 11; refine (tStore t5 (by omega) 16 hV).mono ?_; rintro e w14 ⟨rfl, t6, o6⟩))
          have pe0 : w14.cell? ⟨pb, 0, none⟩ = some (.int .i64 4) := (t6.bel.cell hpb).trans pc0
          have pe1 : w14.cell? ⟨pb, 1, none⟩ = some (.int .i64 4) := (t6.bel.cell hpb).trans pc1
          have pe2 : w14.cell? ⟨pb, 2, none⟩ = some (.int .i64 14) := (t6.bel.cell hpb).trans pc2
          have pe3 : w14.cell? ⟨pb, 3, none⟩ = some (.int .i64 32) := (t6.bel.cell hpb).trans pc3
          have pe4 : w14.cell? ⟨pb, 4, none⟩ = some (.int .i64 160) := (t6.bel.cell hpb).trans pc4
          have pel : pb < w14.heap.size := Nat.lt_of_lt_of_le hpb t6.bel.size
          go_wp2_with (first
            | (go_at_call 36; refine (P.rEntry 4 4 14 32 160 2 (by decide) (by decide) (by decide) (by decide) _).mono ?_; rintro e w15 ⟨rfl, hw15⟩; rw [show ((14 : Int) + 2) = 16 from rfl]; have hb15 : Below w14.heap.size w14 w15 := (by rw [hw15]; exact (Below.refl _ _).alloc (Nat.le_refl _) _); have t7 := t6.below hb15; clear hw15 hb15)
            | (go_at_call 12; refine (yStore t7 (by omega) 16 hV).mono ?_; rintro e w16 ⟨rfl, t8, o8⟩))
          exact bodyPost_ret (v := .tuple #[.pointer (some ⟨b, 0, none⟩), .pointer (some ⟨y, 0, none⟩)]) (by simp [results, Tryz.results8, go_sem]) rfl ⟨b, y, rfl, (by unfold laidS; rw [show H0 = h0 from hh0, hbw]; exact (t8.mono (by omega)).lift bel2 W)⟩
end
end Go.Proofs.YtmlgohknbjfciaaGreatDoor

namespace Go.Proofs.YtmlgohknbjfciaaGreatDoor
set_option linter.unusedVariables false
set_option linter.unusedSimpArgs false
set_option maxRecDepth 100000
open H.Plain (hw pS pC pN pM pG pT pL mv)

/-- the header, the fields, the copy's fields; the other headers -/
structure M6 (s : St) (h : Int) (a c : Nat → Int) : Prop where
  len : s.ws.length = 160
  hd : s.word 96 = h
  fa : ∀ k : Nat, k < 3 → s.word (97 + (k : Int)) = a k
  fc : ∀ k : Nat, k < 3 → s.word (113 + (k : Int)) = c k
  o1 : s.word 100 = H0
  o2 : s.word 112 = H0
  t : s.t = 0
section
variable {s : St} {h : Int} {a c : Nat → Int} {k : Nat}
theorem M6.load (m : M6 s h a c) {x : Int} (hx : In x) : M6 (s.load x) h a c := ⟨m.len, m.hd, m.fa, m.fc, m.o1, m.o2, by rw [t_load m.len hx]; exact m.t⟩
end
/-! ### what is laid -/
theorem laidL_len (t : Int) (l : Nat → Vl) (j : Nat) : (laidL t l j).ws.length = 160 := by
  induction j with
  | zero => simp [laidL, St.new]
  | succ j ih => exact n_store' ih _ _
theorem laid_len (t k : Int) (l : Nat → Vl) : (laidS t k l).ws.length = 160 := n_store' (n_store' (laidL_len t l 8) _ _) _ _
/-! ### headers -/
/-! ### who copies -/
structure Mo where
  pc : Nat
  w : Int
def Mo.next (m : Mo) (s : St) : Mo :=
  if m.pc = 10 then m else if m.pc = 9 then ⟨10, m.w⟩
  else if m.pc % 3 = 0 then (if s.got (97 + ((m.pc / 3 : Nat) : Int)) = 72 then ⟨m.pc + 3, 72⟩ else ⟨m.pc + 1, s.got (97 + ((m.pc / 3 : Nat) : Int))⟩)
  else if m.pc % 3 = 1 then ⟨m.pc + 1, m.w⟩
  else if s.ok1 (97 + ((m.pc / 3 : Nat) : Int)) m.w then ⟨m.pc + 1, m.w⟩ else ⟨m.pc - 2, m.w⟩
def Mo.mem (m : Mo) (s : St) : St :=
  if m.pc = 10 then s else if m.pc = 9 then s.store 96 (HT 2)
  else if m.pc % 3 = 0 then s.load (97 + ((m.pc / 3 : Nat) : Int))
  else if m.pc % 3 = 1 then s.store (113 + ((m.pc / 3 : Nat) : Int)) m.w
  else s.cas (97 + ((m.pc / 3 : Nat) : Int)) m.w 72
structure Mo.Ok (m : Mo) : Prop where
  pc : m.pc ≤ 10
  w : U64 m.w
/-- what a field has, wherever it is -/
def cur (a c : Nat → Int) (k : Nat) : Int := if a k = 72 then c k else a k
/-- the object while it is copied -/
structure Mv (m : Mo) (a c : Nat → Int) : Prop where
  pc : m.pc ≤ 9
  lo : ∀ k : Nat, k < 3 → 3 * k + 3 ≤ m.pc → a k = 72
  hi : ∀ k : Nat, k < 3 → m.pc < 3 * k + 3 → a k ≠ 72
  w : m.pc % 3 ≠ 0 → m.w ≠ 72
  c : m.pc % 3 = 2 → c (m.pc / 3) = m.w
/-- the object and its copy, and the one that copies -/
def Ob (s : St) (m : Mo) (a c : Nat → Int) : Prop := (M6 s (HT 4) a c ∧ Mv m a c) ∨ (M6 s (HT 2) a c ∧ m.pc = 10 ∧ ∀ k, k < 3 → a k = 72)
section
variable {s : St} {h : Int} {a c : Nat → Int} {m : Mo} {k : Nat}
theorem Ob.m6 (O : Ob s m a c) : ∃ h, M6 s h a c := by
  obtain ⟨M, _⟩ | ⟨M, _⟩ := O
  · exact ⟨_, M⟩
  · exact ⟨_, M⟩
theorem Ob.t (O : Ob s m a c) : s.t = 0 := by obtain ⟨h, M⟩ := O.m6; exact M.t
theorem Ob.load (O : Ob s m a c) {x : Int} (hx : In x) : Ob (s.load x) m a c := by
  obtain ⟨M, V⟩ | ⟨M, h⟩ := O
  · exact .inl ⟨M.load hx, V⟩
  · exact .inr ⟨M.load hx, h⟩
/-- how far the one that copies is from its end -/
def Mo.far (m : Mo) (a : Nat → Int) : Nat := if m.pc = 10 then 0 else if m.pc = 9 then 1 else 13 - m.pc + (if m.pc % 3 ≠ 0 ∧ m.w ≠ a (m.pc / 3) then 3 else 0)
theorem Ob.done (O : Ob s m a c) (h : m.pc = 10) : ∀ k, k < 3 → a k = 72 := by
  obtain ⟨M, V⟩ | ⟨M, _, h'⟩ := O
  · have := V.pc; omega
  · exact h'
end
/-! ### an access alone -/
def runC (x : Cw) (s : St) : Nat → Cw × St
  | 0 => (x, s)
  | j + 1 => ((runC x s j).1.next (runC x s j).2, (runC x s j).1.mem (runC x s j).2)
/-- it is done behind d steps, and not ahead -/
structure EndsC (x : Cw) (s : St) (d : Nat) (x' : Cw) (s' : St) : Prop where
  at_ : runC x s d = (x', s')
  done : x'.done = true
  not : ∀ j, j < d → (runC x s j).1.done = false
theorem EndsC.zero {x : Cw} {s : St} (h : x.done = true) : EndsC x s 0 x s := ⟨rfl, h, fun j hj => by omega⟩
end Go.Proofs.YtmlgohknbjfciaaGreatDoor
