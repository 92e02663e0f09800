/-
  The program's memory and the reference's side by side, with machines of both.
-/
import Derived.Test.YtbojljkdpebheaaDoorKf
namespace Go.Proofs.YtbojljkdpebheaaDoor
set_option linter.unusedVariables false
set_option maxRecDepth 100000
open Go.ChangeShapes Go.WideShapes Go.RowKit
open S.Plain (t0 t1 tw nx)
open H.Plain (hw pL)

structure Two (w0 w : World) (b y : Nat) (s1 s2 : St) (N : Nat) : Prop where
  at_ : ∃ L M : Loc, L.b = b ∧ M.b = y ∧ Mm w L s1 ∧ Rm w M s2 ∧ (∀ k ∈ L.fp, w0.heap.size ≤ k ∧ k ∉ M.fp) ∧ ∀ k ∈ M.fp, w0.heap.size ≤ k
  bel : Below w0.heap.size w0 w
  fit1 : s1.Fit
  fit2 : s2.Fit
  top1 : s1.c ≤ N
  top2 : s2.c ≤ N
  rng1 : s1.Rng
  rng2 : s2.Rng
  wid : Laid w0
section
variable {w0 w w' : World} {b y p : Nat} {s1 s2 : St} {N : Nat} {T : TypeId} {cs : Array Value} {F : List Nat}
theorem Two.kept (h : Two w0 w b y s1 s2 N) (k : Kept F w w') (hF : ∀ k ∈ F, w0.heap.size ≤ k ∧ ∃ cs T fz, T ∉ MTs ∧ w.heap[k]? = some (.cells cs T fz)) : Two w0 w' b y s1 s2 N := by
  obtain ⟨⟨L, M, e1, e2, hm, hr, hl, hl2⟩, hb, f1, f2, t1, t2, r1, r2, wd⟩ := h
  refine ⟨⟨L, M, e1, e2, hm.on k fun j hj hjF => ?_, hr.on k fun j hj hjF => ?_, hl, hl2⟩, hb.trans (k.below (fun j hj => (hF j hj).1) hb.size), f1, f2, t1, t2, r1, r2, wd⟩
  · obtain ⟨_, _, _, _, hT, hk⟩ := hF j hjF
    exact notin_fp hm (by simp [MTs]) hT hk hj
  · obtain ⟨_, _, _, _, hT, hk⟩ := hF j hjF
    exact notin_fp hr (by simp [MTs]) hT hk hj
theorem Two.below (h : Two w0 w b y s1 s2 N) (hb : Below w.heap.size w w') : Two w0 w' b y s1 s2 N := h.kept (F := []) (Kept.of_below hb) fun _ h => by simp at h
theorem Two.alloc (h : Two w0 w b y s1 s2 N) (o : Obj) : Two w0 (w.alloc o) b y s1 s2 N := h.below ((Below.refl _ _).alloc (Nat.le_refl _) o)
theorem Two.drew (h : Two w0 w b y s1 s2 N) : Two w0 w.drew b y s1 s2 N := h.below (Below.refl _ _).drew
theorem Two.set (h : Two w0 w b y s1 s2 N) (hp : Blk w0 w p T cs) (i : Nat) (u : Value) : Two w0 (w.setCell ⟨p, i, none⟩ u) b y s1 s2 N :=
  h.kept (Kept.setCell [p] _ _ _ (by simp)) fun k hk => by simp at hk; subst hk; exact ⟨hp.old, _, _, _, hp.hT, hp.at_⟩
theorem Two.mono (h : Two w0 w b y s1 s2 N) {N' : Nat} (hN : N ≤ N') : Two w0 w b y s1 s2 N' := ⟨h.at_, h.bel, h.fit1, h.fit2, by have := h.top1; omega, by have := h.top2; omega, h.rng1, h.rng2, h.wid⟩
theorem Two.widw (h : Two w0 w b y s1 s2 N) : Laid w := h.wid.on h.bel
theorem Two.one (h : Two w0 w b y s1 s2 N) : Hand w0 w b s1 N := by
  obtain ⟨⟨L, M, e1, e2, hm, hr, hl, hl2⟩, hb, f1, f2, t1, t2, r1, r2, wd⟩ := h
  exact ⟨⟨L, e1, hm, fun k hk => (hl k hk).1⟩, hb, f1, t1, r1, wd⟩
theorem Two.went1 (h : Two w0 w b y s1 s2 N) (hp : Blk w0 w p T cs) : ∃ L : Loc, L.b = b ∧ At 89 w L s1 p T cs ∧ ∀ {w' : World} {L' : Loc} {s' : St} {cs' : Array Value} {N' : Nat}, At 89 w' L' s' p T cs' → Went w L p w' L' → s'.Fit → s'.Rng → s'.c ≤ N' → N ≤ N' →
    Two w0 w' b y s' s2 N' ∧ Blk w0 w' p T cs' ∧ Oth [p] w w' := by
  have hwd := h.widw
  obtain ⟨⟨L, M, e1, e2, hm, hr, hl, hl2⟩, hb, f1, f2, t1, t2, r1, r2, wd⟩ := h
  have h0 := wd.two
  have hT := hp.hT
  have hpM : p ∉ M.fp := notin_fp hr (by simp [MTs]) hp.hT hp.at_
  simp only [MTs, List.mem_cons, List.not_mem_nil, or_false, not_or] at hT
  refine ⟨L, e1, ⟨hm, hp.at_, ⟨hT.1, hT.2.2.1, hT.2.2.2⟩, hwd, fun j hj hz => by have := (hl j hz).1; omega, by have := hp.old; omega⟩, ?_⟩
  intro w' L' s' cs' N' A' g f' r' t' hN
  have hl' : ∀ k ∈ L'.fp, w0.heap.size ≤ k ∧ k ∉ M.fp := fun k hk => (g.new k hk).elim (hl k) fun h' => ⟨Nat.le_trans hb.size h', fun hkM => by have := hr.lt k hkM; omega⟩
  have hr' : Rm w' M s2 := hr.on g.kept fun k hk hm' => by
    simp only [List.mem_cons] at hm'
    rcases hm' with rfl | hm'
    · exact hpM hk
    · exact (hl k hm').2 hk
  refine ⟨⟨⟨L', M, g.b.trans e1, e2, A'.mem, hr', hl', hl2⟩, hb.trans (g.kept.below (fun k hk => ?_) hb.size), f', f2, t', by omega, r', r2, wd⟩, ⟨A'.blk, hp.old, hp.hT⟩, Oth.went hm (by simp [MTs]) g⟩
  simp only [List.mem_cons] at hk
  rcases hk with rfl | hk
  · exact hp.old
  · exact (hl k hk).1
theorem Two.went2 (h : Two w0 w b y s1 s2 N) (hp : Blk w0 w p T cs) : ∃ M : Loc, M.b = y ∧ At 70 w M s2 p T cs ∧ ∀ {w' : World} {M' : Loc} {s' : St} {cs' : Array Value} {N' : Nat}, At 70 w' M' s' p T cs' → Went w M p w' M' → s'.Fit → s'.Rng → s'.c ≤ N' → N ≤ N' →
    Two w0 w' b y s1 s' N' ∧ Blk w0 w' p T cs' ∧ Oth [p] w w' := by
  have hwd := h.widw
  obtain ⟨⟨L, M, e1, e2, hm, hr, hl, hl2⟩, hb, f1, f2, t1, t2, r1, r2, wd⟩ := h
  have h0 := wd.two
  have hT := hp.hT
  have hpL : p ∉ L.fp := notin_fp hm (by simp [MTs]) hp.hT hp.at_
  simp only [MTs, List.mem_cons, List.not_mem_nil, or_false, not_or] at hT
  refine ⟨M, e2, ⟨hr, hp.at_, ⟨hT.2.1, hT.2.2.1, hT.2.2.2⟩, hwd, fun j hj hz => by have := hl2 j hz; omega, by have := hp.old; omega⟩, ?_⟩
  intro w' M' s' cs' N' A' g f' r' t' hN
  have hl2' : ∀ k ∈ M'.fp, w0.heap.size ≤ k := fun k hk => (g.new k hk).elim (hl2 k) fun h' => Nat.le_trans hb.size h'
  have hl' : ∀ k ∈ L.fp, w0.heap.size ≤ k ∧ k ∉ M'.fp := fun k hk => ⟨(hl k hk).1, fun hkM => (g.new k hkM).elim (hl k hk).2 fun h' => by have := hm.lt k hk; omega⟩
  have hm' : Mm w' L s1 := hm.on g.kept fun k hk hm' => by
    simp only [List.mem_cons] at hm'
    rcases hm' with rfl | hm'
    · exact hpL hk
    · exact (hl k hk).2 hm'
  refine ⟨⟨⟨L, M', e1, g.b.trans e2, hm', A'.mem, hl', hl2'⟩, hb.trans (g.kept.below (fun k hk => ?_) hb.size), f1, f', by omega, t', r1, r', wd⟩, ⟨A'.blk, hp.old, hp.hT⟩, Oth.went hr (by simp [MTs]) g⟩
  simp only [List.mem_cons] at hk
  rcases hk with rfl | hk
  · exact hp.old
  · exact hl2 k hk
theorem Two.store1 (h : Two w0 w b y s1 s2 N) (hN : N < 1000000) (a : Int) {x : Int} (hx : U64 x) :
    Calls Tryd.prog 27 #[.pointer (some ⟨b, 0, none⟩), .int .i64 a, .int .u64 x] w fun e w' => e = .returned (.tuple #[]) ∧ Two w0 w' b y (s1.store a x) s2 (N + 1) ∧ Oth [] w w' := by
  have ht := h.top1
  have hc : s1.c < 1000000 := by omega
  obtain ⟨⟨L, M, rfl, e2, hm, hr, hl, hl2⟩, hb, f1, f2, t1, t2, r1, r2, wd⟩ := h
  refine (cStore hm f1 hc a x).mono ?_
  rintro e w' ⟨rfl, L', hm', st⟩
  have hr' : Rm w' M s2 := hr.on st.kept fun k hk hk' => (hl k hk').2 hk
  have hl' : ∀ k ∈ L'.fp, w0.heap.size ≤ k ∧ k ∉ M.fp := fun k hk => (st.new k hk).elim (hl k) fun h' => ⟨Nat.le_trans hb.size h', fun hkM => by have := hr.lt k hkM; omega⟩
  exact ⟨rfl, ⟨⟨L', M, st.b, e2, hm', hr', hl', hl2⟩, hb.trans (st.kept.below (fun k hk => (hl k hk).1) hb.size), f1.store hc a x, f2, by rw [St.c_store]; omega, by omega, r1.store a hx, r2, wd⟩, Oth.step hm (by decide) st⟩
end
/-- what is read of the reference's memory -/
structure Seen2 (w : World) (y g cp : Nat) (s : St) : Prop where
  c0 : w.cell? ⟨y, 0, none⟩ = some (.slice (some ⟨g, 0, none⟩) s.ws.length cp)
  c2 : w.cell? ⟨y, 2, none⟩ = some (.int .i64 s.t)
  cw : ∀ j, j < s.ws.length → w.cell? ⟨g, j, none⟩ = some (.int .u64 (s.ws.getD j 0))
  ly : y < w.heap.size
  lg : g < w.heap.size
theorem Seen2.below {w w' : World} {y g cp : Nat} {s : St} (h : Seen2 w y g cp s) (hb : Below w.heap.size w w') : Seen2 w' y g cp s :=
  ⟨(hb.cell h.ly).trans h.c0, (hb.cell h.ly).trans h.c2, fun j hj => (hb.cell h.lg).trans (h.cw j hj), Nat.lt_of_lt_of_le h.ly hb.size, Nat.lt_of_lt_of_le h.lg hb.size⟩
theorem Two.seen {w0 w : World} {b y : Nat} {s1 s2 : St} {N : Nat} (h : Two w0 w b y s1 s2 N) : ∃ g cp, Seen2 w y g cp s2 := by
  obtain ⟨⟨L, M, e1, rfl, hm, hr, hl, hl2⟩, _⟩ := h
  exact ⟨M.g, M.cp, hr.cell0, hr.cell2, fun j hj => hr.wcell j hj, hr.lt _ (by simp [Loc.fp]), hr.lt _ (by simp [Loc.fp])⟩
/-- the program's memory, as far as it is laid: the words of the reference's -/
def laidTo (l : List Int) : Nat → St
  | 0 => St.new l.length
  | j + 1 => (laidTo l j).store j (l.getD j 0)
theorem laidTo_len (l : List Int) (j : Nat) : (laidTo l j).ws.length = l.length := by
  induction j with
  | zero => simp [laidTo, St.new]
  | succ j ih => simp only [laidTo, St.n_store, ih]
theorem laidTo_ws (l : List Int) (j : Nat) (hj : j ≤ l.length) : (∀ i, i < j → (laidTo l j).ws[i]? = l[i]?) ∧ (laidTo l j).t = 0 ∧ (laidTo l j).c = j := by
  induction j with
  | zero => simp [laidTo, St.new]
  | succ j ih =>
    obtain ⟨h1, h2, h3⟩ := ih (by omega)
    have hi : (laidTo l j).is1 (j : Int) = true := by simp only [St.is1, laidTo_len, Bool.and_eq_true, decide_eq_true_eq]; omega
    refine ⟨?_, ?_, ?_⟩
    · intro i hij
      simp only [laidTo, St.store, hi, if_true, St.tell, St.put, Int.toNat_natCast]
      rw [List.getElem?_set]
      by_cases e : j = i
      · subst e
        rw [if_pos rfl, if_pos (by rw [laidTo_len]; omega), List.getD_eq_getElem?_getD, List.getElem?_eq_getElem (by omega)]
        rfl
      · rw [if_neg e]
        exact h1 i (by omega)
    · simp only [laidTo, St.store, hi, if_true, St.tell, St.put, h2]
    · rw [laidTo, St.c_store, h3]; omega
theorem laidTo_all (l : List Int) : (laidTo l l.length).ws = l ∧ (laidTo l l.length).t = 0 ∧ (laidTo l l.length).c = l.length := by
  have h := laidTo_ws l l.length (Nat.le_refl _)
  refine ⟨List.ext_getElem? fun i => ?_, h.2⟩
  by_cases e : i < l.length
  · exact h.1 i e
  · rw [List.getElem?_eq_none (by rw [laidTo_len]; omega), List.getElem?_eq_none (by omega)]
set_option maxHeartbeats 2000000 in
theorem cFr {t n : Nat} (ht : t ≤ 64) (h1 : 1 ≤ n) (hn : n ≤ 64) (w : World) (wd : Laid w) :
    Calls Tryd.prog 10 #[.agg #[.int .i64 (mkPl t n).t, .int .i64 (mkPl t n).b, .int .i64 (mkPl t n).tb, .int .i64 (mkPl t n).hp, .int .i64 (mkPl t n).sz]] w fun e w' => ∃ b y, e = .returned (.tuple #[.pointer (some ⟨b, 0, none⟩), .pointer (some ⟨y, 0, none⟩)]) ∧ Two w w' b y (laidTo (frSt t n).ws (szN t n)) (frSt t n) (szN t n) := by
  have sb := szN_bounds ht h1 hn
  have hlen := frSt_len t n
  go_enter Tryd.func10, Tryd.ntmps10
  go_wp2_with (first
    | (go_at_call 32; refine (cFresh ht h1 hn _).mono ?_; rintro e w1 ⟨M, rfl, hm, hb1, hl⟩; have hB : PBox w1 w.heap.size (mkPl t n) := ((hb1.block _ (by simp)).trans (heap_alloc_new _ _)); have hbw : Below w.heap.size w w1 := bel_trans (S.bal (Below.refl w.heap.size w) _) hb1; have hl' : ∀ k ∈ M.fp, w.heap.size < k := (fun k hk => by have := hl k hk; simp at this; omega); obtain ⟨o, ho⟩ : ∃ o, w.heap.size = o := ⟨_, rfl⟩; rw [ho] at hB ⊢; have c4 : w1.cell? ⟨o, 4, none⟩ = some (.int .i64 (szN t n)) := hB.c4; clear hb1 hl)
    | (go_at_call 33; refine (cNew _ (szN t n) sb.1 sb.2.1).mono ?_; rintro e w2 ⟨b, g, cp, rfl, hm2, hb2, hl2⟩))
  have h0 : Two w w2 b M.b (St.new (szN t n)) (frSt t n) 0 := ⟨⟨_, M, rfl, rfl, hm2, hm.below hb2, fun k hk => ⟨Nat.le_trans hbw.size (hl2 k hk), fun hk' => by have h1 := hm.lt k hk'; have h2 := hl2 k hk; omega⟩, fun k hk => Nat.le_of_lt (hl' k hk)⟩, hbw.trans (hb2.mono hbw.size), St.Fit.new sb.1 sb.2.1, frSt_fit ht h1 hn, by simp [St.new], by simp [frSt], St.Rng.new _, frSt_rng t n, wd⟩
  have hB2 := hB.below hb2
  obtain ⟨y, hy⟩ : ∃ y, M.b = y := ⟨_, rfl⟩
  rw [hy] at h0 ⊢
  clear hm hm2 hl2 hB c4 hbw hb2 hl'
  go_loopw [7] (fun i wr => ∃ j : Nat, j ≤ szN t n ∧ i = .int .i64 j ∧ Two w wr b y (laidTo (frSt t n).ws j) (frSt t n) j ∧ PBox wr o (mkPl t n)) (fun i _ => szN t n - (intOf i).toNat)
  case atStart => exact ⟨0, Nat.zero_le _, rfl, by rw [laidTo, hlen]; exact h0, hB2⟩
  case round =>
    obtain ⟨j, hj, rfl, q1, q2⟩ := hrel
    have c4 : wr.cell? ⟨o, 4, none⟩ = some (.int .i64 (szN t n)) := q2.c4
    by_cases hjn : j < szN t n
    case pos =>
      obtain ⟨g', cp', hS⟩ := q1.seen
      have x0 := hS.c0
      rw [hlen] at x0
      have xj := hS.cw j (by omega)
      have hu : U64 ((frSt t n).ws.getD j 0) := by
        have := (frSt_rng t n).word (j : Int)
        simpa [St.word] using this
      have hL : laidTo (frSt t n).ws (j + 1) = (laidTo (frSt t n).ws j).store j ((frSt t n).ws.getD j 0) := rfl
      obtain ⟨v, hv⟩ : ∃ v, (frSt t n).ws.getD j 0 = v := ⟨_, rfl⟩
      rw [hv] at xj hu hL
      clear hS hv
      go_wp2_with (go_at_call 27; refine (q1.store1 (by omega) j hu).mono ?_; rintro e w3 ⟨rfl, q3, o3⟩)
      go_roundw
      case rel => exact ⟨j + 1, by omega, by go_num, by rw [hL]; exact q3, q2.oth o3 (by simp)⟩
      case measure => simp [intOf]; omega
    case neg =>
      have e : j = szN t n := by omega
      go_wp2
      go_ret2
      exact ⟨b, y, rfl, e ▸ q1⟩
end Go.Proofs.YtbojljkdpebheaaDoor
