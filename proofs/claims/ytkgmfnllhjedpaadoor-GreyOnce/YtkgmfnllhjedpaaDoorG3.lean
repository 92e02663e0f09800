/-
  Two memories of the program side by side: one and its clone.
-/
import Derived.Test.YtkgmfnllhjedpaaDoorG2
import Derived.Test.YtkgmfnllhjedpaaDoorGt
namespace Go.Proofs.YtkgmfnllhjedpaaDoor
set_option linter.unusedVariables false
set_option maxRecDepth 100000
open Go.ChangeShapes Go.WideShapes Go.RowKit
open S.Plain (t0 t1 tw nx)
open H.Plain (hw pS pC pN pM pG pT pL)

structure Duo (w0 w : World) (b y : Nat) (s1 s2 : St) (N : Nat) : Prop where
  at_ : ∃ L M : Loc, L.b = b ∧ M.b = y ∧ Mm w L s1 ∧ Mm w M s2 ∧ (∀ k ∈ L.fp, w0.heap.size ≤ k ∧ k ∉ M.fp) ∧ ∀ k ∈ M.fp, w0.heap.size ≤ k
  bel : Below w0.heap.size w0 w
  fit1 : s1.Fit
  fit2 : s2.Fit
  top1 : s1.c ≤ N
  top2 : s2.c ≤ N
  rng1 : s1.Rng
  rng2 : s2.Rng
  wid : H.Wid w0
section
variable {w0 w w' : World} {b y p : Nat} {s1 s2 : St} {N : Nat} {T : TypeId} {cs : Array Value} {F : List Nat}
theorem Duo.kept (h : Duo w0 w b y s1 s2 N) (k : Kept F w w') (hF : ∀ k ∈ F, w0.heap.size ≤ k ∧ ∃ cs T fz, T ∉ MTs ∧ w.heap[k]? = some (.cells cs T fz)) : Duo w0 w' b y s1 s2 N := by
  obtain ⟨⟨L, M, e1, e2, hm, hr, hl, hl2⟩, hb, f1, f2, t1, t2, r1, r2, wd⟩ := h
  refine ⟨⟨L, M, e1, e2, hm.on k fun j hj hjF => ?_, hr.on k fun j hj hjF => ?_, hl, hl2⟩, hb.trans (k.below (fun j hj => (hF j hj).1) hb.size), f1, f2, t1, t2, r1, r2, wd⟩
  · obtain ⟨_, _, _, _, hT, hk⟩ := hF j hjF
    exact notin_fp hm (by simp [MTs]) hT hk hj
  · obtain ⟨_, _, _, _, hT, hk⟩ := hF j hjF
    exact notin_fp hr (by simp [MTs]) hT hk hj
theorem Duo.below (h : Duo w0 w b y s1 s2 N) (hb : Below w.heap.size w w') : Duo w0 w' b y s1 s2 N := h.kept (F := []) (Kept.of_below hb) fun _ h => by simp at h
theorem Duo.alloc (h : Duo w0 w b y s1 s2 N) (o : Obj) : Duo w0 (w.alloc o) b y s1 s2 N := h.below ((Below.refl _ _).alloc (Nat.le_refl _) o)
theorem Duo.drew (h : Duo w0 w b y s1 s2 N) : Duo w0 w.drew b y s1 s2 N := h.below (Below.refl _ _).drew
theorem Duo.set (h : Duo w0 w b y s1 s2 N) (hp : Blk w0 w p T cs) (i : Nat) (u : Value) : Duo w0 (w.setCell ⟨p, i, none⟩ u) b y s1 s2 N :=
  h.kept (Kept.setCell [p] _ _ _ (by simp)) fun k hk => by simp at hk; subst hk; exact ⟨hp.old, _, _, _, hp.hT, hp.at_⟩
theorem Duo.mono (h : Duo w0 w b y s1 s2 N) {N' : Nat} (hN : N ≤ N') : Duo w0 w b y s1 s2 N' := ⟨h.at_, h.bel, h.fit1, h.fit2, by have := h.top1; omega, by have := h.top2; omega, h.rng1, h.rng2, h.wid⟩
theorem Duo.widw (h : Duo w0 w b y s1 s2 N) : H.Wid w := h.wid.on h.bel
theorem Duo.one (h : Duo w0 w b y s1 s2 N) : Hand w0 w b s1 N := by
  obtain ⟨⟨L, M, e1, e2, hm, hr, hl, hl2⟩, hb, f1, f2, t1, t2, r1, r2, wd⟩ := h
  exact ⟨⟨L, e1, hm, fun k hk => (hl k hk).1⟩, hb, f1, t1, r1, wd⟩
theorem Duo.went1 (h : Duo w0 w b y s1 s2 N) (hp : Blk w0 w p T cs) : ∃ L : Loc, L.b = b ∧ At 83 w L s1 p T cs ∧ ∀ {w' : World} {L' : Loc} {s' : St} {cs' : Array Value} {N' : Nat}, At 83 w' L' s' p T cs' → Went w L p w' L' → s'.Fit → s'.Rng → s'.c ≤ N' → N ≤ N' →
    Duo w0 w' b y s' s2 N' ∧ Blk w0 w' p T cs' ∧ Oth [p] w w' := by
  have hwd := h.widw
  obtain ⟨⟨L, M, e1, e2, hm, hr, hl, hl2⟩, hb, f1, f2, t1, t2, r1, r2, wd⟩ := h
  have h0 := wd.1
  have hT := hp.hT
  have hpM : p ∉ M.fp := notin_fp hr (by simp [MTs]) hp.hT hp.at_
  simp only [MTs, List.mem_cons, List.not_mem_nil, or_false, not_or] at hT
  refine ⟨L, e1, ⟨hm, hp.at_, ⟨hT.1, hT.2.2.1, hT.2.2.2⟩, hwd, fun hz => by have := (hl 0 hz).1; omega, by have := hp.old; omega⟩, ?_⟩
  intro w' L' s' cs' N' A' g f' r' t' hN
  have hl' : ∀ k ∈ L'.fp, w0.heap.size ≤ k ∧ k ∉ M.fp := fun k hk => (g.new k hk).elim (hl k) fun h' => ⟨Nat.le_trans hb.size h', fun hkM => by have := hr.lt k hkM; omega⟩
  have hr' : Mm w' M s2 := hr.on g.kept fun k hk hm' => by
    simp only [List.mem_cons] at hm'
    rcases hm' with rfl | hm'
    · exact hpM hk
    · exact (hl k hm').2 hk
  refine ⟨⟨⟨L', M, g.b.trans e1, e2, A'.mem, hr', hl', hl2⟩, hb.trans (g.kept.below (fun k hk => ?_) hb.size), f', f2, t', by omega, r', r2, wd⟩, ⟨A'.blk, hp.old, hp.hT⟩, Oth.went hm (by simp [MTs]) g⟩
  simp only [List.mem_cons] at hk
  rcases hk with rfl | hk
  · exact hp.old
  · exact (hl k hk).1
theorem Duo.went2 (h : Duo w0 w b y s1 s2 N) (hp : Blk w0 w p T cs) : ∃ M : Loc, M.b = y ∧ At 83 w M s2 p T cs ∧ ∀ {w' : World} {M' : Loc} {s' : St} {cs' : Array Value} {N' : Nat}, At 83 w' M' s' p T cs' → Went w M p w' M' → s'.Fit → s'.Rng → s'.c ≤ N' → N ≤ N' →
    Duo w0 w' b y s1 s' N' ∧ Blk w0 w' p T cs' ∧ Oth [p] w w' := by
  have hwd := h.widw
  obtain ⟨⟨L, M, e1, e2, hm, hr, hl, hl2⟩, hb, f1, f2, t1, t2, r1, r2, wd⟩ := h
  have h0 := wd.1
  have hT := hp.hT
  have hpL : p ∉ L.fp := notin_fp hm (by simp [MTs]) hp.hT hp.at_
  simp only [MTs, List.mem_cons, List.not_mem_nil, or_false, not_or] at hT
  refine ⟨M, e2, ⟨hr, hp.at_, ⟨hT.1, hT.2.2.1, hT.2.2.2⟩, hwd, fun hz => by have := hl2 0 hz; omega, by have := hp.old; omega⟩, ?_⟩
  intro w' M' s' cs' N' A' g f' r' t' hN
  have hl2' : ∀ k ∈ M'.fp, w0.heap.size ≤ k := fun k hk => (g.new k hk).elim (hl2 k) fun h' => Nat.le_trans hb.size h'
  have hl' : ∀ k ∈ L.fp, w0.heap.size ≤ k ∧ k ∉ M'.fp := fun k hk => ⟨(hl k hk).1, fun hkM => (g.new k hkM).elim (hl k hk).2 fun h' => by have := hm.lt k hk; omega⟩
  have hm' : Mm w' L s1 := hm.on g.kept fun k hk hm' => by
    simp only [List.mem_cons] at hm'
    rcases hm' with rfl | hm'
    · exact hpL hk
    · exact (hl k hk).2 hm'
  refine ⟨⟨⟨L, M', e1, g.b.trans e2, hm', A'.mem, hl', hl2'⟩, hb.trans (g.kept.below (fun k hk => ?_) hb.size), f1, f', by omega, t', r1, r', wd⟩, ⟨A'.blk, hp.old, hp.hT⟩, Oth.went hr (by simp [MTs]) g⟩
  simp only [List.mem_cons] at hk
  rcases hk with rfl | hk
  · exact hp.old
  · exact hl2 k hk
theorem Duo.step1 (h : Duo w0 w b y s1 s2 N) : ∃ L : Loc, L.b = b ∧ Mm w L s1 ∧ ∀ {w' : World} {L' : Loc} {s' : St} {N' : Nat}, Mm w' L' s' → Step w L w' L' → s'.Fit → s'.Rng → s'.c ≤ N' → N ≤ N' →
    Duo w0 w' b y s' s2 N' ∧ Oth [] w w' := by
  obtain ⟨⟨L, M, e1, e2, hm, hr, hl, hl2⟩, hb, f1, f2, t1, t2, r1, r2, wd⟩ := h
  refine ⟨L, e1, hm, ?_⟩
  intro w' L' s' N' hm' st f' r' t' hN
  have hl' : ∀ k ∈ L'.fp, w0.heap.size ≤ k ∧ k ∉ M.fp := fun k hk => (st.new k hk).elim (hl k) fun h' => ⟨Nat.le_trans hb.size h', fun hkM => by have := hr.lt k hkM; omega⟩
  have hr' : Mm w' M s2 := hr.on st.kept fun k hk hm' => (hl k hm').2 hk
  exact ⟨⟨⟨L', M, st.b.trans e1, e2, hm', hr', hl', hl2⟩, hb.trans (st.kept.below (fun k hk => (hl k hk).1) hb.size), f', f2, t', by omega, r', r2, wd⟩, Oth.step hm (by simp [MTs]) st⟩
theorem Duo.step2 (h : Duo w0 w b y s1 s2 N) : ∃ M : Loc, M.b = y ∧ Mm w M s2 ∧ ∀ {w' : World} {M' : Loc} {s' : St} {N' : Nat}, Mm w' M' s' → Step w M w' M' → s'.Fit → s'.Rng → s'.c ≤ N' → N ≤ N' →
    Duo w0 w' b y s1 s' N' ∧ Oth [] w w' := by
  obtain ⟨⟨L, M, e1, e2, hm, hr, hl, hl2⟩, hb, f1, f2, t1, t2, r1, r2, wd⟩ := h
  refine ⟨M, e2, hr, ?_⟩
  intro w' M' s' N' hr' st f' r' t' hN
  have hl2' : ∀ k ∈ M'.fp, w0.heap.size ≤ k := fun k hk => (st.new k hk).elim (hl2 k) fun h' => Nat.le_trans hb.size h'
  have hl' : ∀ k ∈ L.fp, w0.heap.size ≤ k ∧ k ∉ M'.fp := fun k hk => ⟨(hl k hk).1, fun hkM => (st.new k hkM).elim (hl k hk).2 fun h' => by have := hm.lt k hk; omega⟩
  have hm' : Mm w' L s1 := hm.on st.kept fun k hk hm' => (hl k hk).2 hm'
  exact ⟨⟨⟨L, M', e1, st.b.trans e2, hm', hr', hl', hl2'⟩, hb.trans (st.kept.below (fun k hk => hl2 k hk) hb.size), f1, f', by omega, t', r1, r', wd⟩, Oth.step hr (by simp [MTs]) st⟩

theorem d1Load (h : Duo w0 w b y s1 s2 N) (hN : N < 1000000) (a : Int) :
    Calls Tryd.prog 26 #[.pointer (some ⟨b, 0, none⟩), .int .i64 a] w fun e w' => e = .returned (.int .u64 (s1.got a)) ∧ Duo w0 w' b y (s1.load a) s2 (N + 1) ∧ Oth [] w w' := by
  have ht := h.top1
  have hc : s1.c < 1000000 := by omega
  have f := h.fit1
  have r := h.rng1
  obtain ⟨L, rfl, A, k⟩ := h.step1
  refine (cLoad A f hc a).mono ?_
  rintro e w' ⟨rfl, L', A', g⟩
  exact ⟨rfl, k A' g (f.load hc a) (r.load a) (by rw [St.c_load]; omega) (by omega)⟩
theorem d2Load (h : Duo w0 w b y s1 s2 N) (hN : N < 1000000) (a : Int) :
    Calls Tryd.prog 26 #[.pointer (some ⟨y, 0, none⟩), .int .i64 a] w fun e w' => e = .returned (.int .u64 (s2.got a)) ∧ Duo w0 w' b y s1 (s2.load a) (N + 1) ∧ Oth [] w w' := by
  have ht := h.top2
  have hc : s2.c < 1000000 := by omega
  have f := h.fit2
  have r := h.rng2
  obtain ⟨L, rfl, A, k⟩ := h.step2
  refine (cLoad A f hc a).mono ?_
  rintro e w' ⟨rfl, L', A', g⟩
  exact ⟨rfl, k A' g (f.load hc a) (r.load a) (by rw [St.c_load]; omega) (by omega)⟩
theorem duoClone (h : Hand w0 w b s1 N) : Calls Tryd.prog 27 #[.pointer (some ⟨b, 0, none⟩)] w fun e w' => ∃ c, e = .returned (.pointer (some ⟨c, 0, none⟩)) ∧ Duo w0 w' b c s1 s1 N := by
  obtain ⟨⟨L, rfl, hm, hl⟩, hb, f, t, r, wd⟩ := h
  refine (cClone hm f).mono ?_
  rintro e w' ⟨L', rfl, hm', hb', hl'⟩
  exact ⟨_, rfl, ⟨⟨L, L', rfl, rfl, hm.below hb', hm', fun k hk => ⟨hl k hk, fun hk' => by have := hl' k hk'; have := hm.lt k hk; omega⟩, fun k hk => Nat.le_trans hb.size (hl' k hk)⟩, hb.trans (hb'.mono hb.size), f, f, t, t, r, r, wd⟩⟩
/-- a step that leaves all in order -/
theorem dShade {x : ShadeS} {s0 : St} (h : Duo w0 w b y s1 s2 N) (hp : Blk w0 w p 76 x.cells) (ok : x.Ok) (hN : N < 1000000) (hx : x.Tidy) (hs : Tidy s0 s1) :
    Calls Tryd.prog 18 #[.pointer (some ⟨p, 0, none⟩), .pointer (some ⟨b, 0, none⟩)] w fun e w' => ∃ x' : ShadeS, ∃ s1', e = .returned (.bool (x'.pc == 0)) ∧
      Duo w0 w' b y s1' s2 (N + 1) ∧ Blk w0 w' p 76 x'.cells ∧ x'.Ok ∧ x'.Tidy ∧ Tidy s0 s1' ∧ Oth [p] w w' := by
  have ht := h.top1
  have hc : s1.c < 1000000 := by omega
  have f := h.fit1
  have r := h.rng1
  obtain ⟨L, rfl, A, k⟩ := h.went1 hp
  refine (cShade A ok f hc r).mono ?_
  rintro e w' ⟨rfl, L', A', g⟩
  have := ShadeS.count (s := s1) ok
  obtain ⟨R1, R2, R3⟩ := k A' g (ShadeS.fit ok f hc) (ShadeS.rng ok r) (show _ ≤ ((N + 1 : Nat) : Int) by omega) (by omega)
  obtain ⟨T1, T2⟩ := ShadeS.tidy hs hx ok
  exact ⟨_, _, rfl, R1, R2, ok.next r, T2, T1, R3⟩
theorem dNext {x : NextS} {s0 : St} (h : Duo w0 w b y s1 s2 N) (hp : Blk w0 w p 68 x.cells) (ok : x.Ok) (hN : N < 1000000) (hx : x.Tidy) (hs : Tidy s0 s1) :
    Calls Tryd.prog 13 #[.pointer (some ⟨p, 0, none⟩), .pointer (some ⟨b, 0, none⟩)] w fun e w' => ∃ x' : NextS, ∃ s1', e = .returned (.bool (x'.pc == 0)) ∧
      Duo w0 w' b y s1' s2 (N + 1) ∧ Blk w0 w' p 68 x'.cells ∧ x'.Ok ∧ x'.Tidy ∧ Tidy s0 s1' ∧ Oth [p] w w' := by
  have ht := h.top1
  have hc : s1.c < 1000000 := by omega
  have f := h.fit1
  have r := h.rng1
  obtain ⟨L, rfl, A, k⟩ := h.went1 hp
  refine (cNext A ok f hc r).mono ?_
  rintro e w' ⟨rfl, L', A', g⟩
  have := NextS.cnt (s := s1) ok
  obtain ⟨R1, R2, R3⟩ := k A' g (NextS.fit ok f hc) (NextS.rng ok r) (show _ ≤ ((N + 1 : Nat) : Int) by omega) (by omega)
  obtain ⟨T1, T2⟩ := NextS.tidy hs hx ok
  exact ⟨_, _, rfl, R1, R2, ok.next r, T2, T1, R3⟩
end
end Go.Proofs.YtkgmfnllhjedpaaDoor
