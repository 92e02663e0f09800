/-
  The program's memory and the reference's side by side, with machines of both; a machine beside one memory.
-/
import Derived.Test.YtoablodmodnamaaDoorGrq
import Derived.Test.YtoablodmodnamaaDoorGaq
import Derived.Test.YtoablodmodnamaaDoorLhq
namespace Go.Proofs.YtoablodmodnamaaDoor
set_option linter.unusedVariables false
set_option maxRecDepth 100000
open Go.ChangeShapes Go.WideShapes Go.RowKit
open S.Plain (t0 t1 tw nx)
open H.Plain (hw pS pC pN pM pG pT pL)

section
variable {w0 w w' : World} {b p : Nat} {s s' : St} {N : Nat} {T : TypeId} {cs : Array Value} {F : List Nat}
theorem oShade {x : ShadeS} (h : Hand w0 w b s N) (hp : Blk w0 w p 110 x.cells) (ok : x.Ok) (hN : N < 1000000) :
    Calls Tryd.prog 26 #[.pointer (some ⟨p, 0, none⟩), .pointer (some ⟨b, 0, none⟩)] w fun e w' => e = .returned (.bool ((x.next s).pc == 0)) ∧
      Hand w0 w' b (x.mem s) (N + 1) ∧ Blk w0 w' p 110 (x.next s).cells ∧ Oth [p] w w' := by
  have hc : s.c < 1000000 := by have := h.top; omega
  have ht := h.top
  have f := h.fit
  have r := h.rng
  obtain ⟨L, rfl, A, k⟩ := h.went hp
  refine (cShade A ok f hc r).mono ?_
  rintro e w' ⟨rfl, L', A', g⟩
  have := ShadeS.count (s := s) ok
  exact ⟨rfl, k A' g (ShadeS.fit ok f hc) (ShadeS.rng ok r) (by omega)⟩
/-- a machine that was made just now -/
theorem Made.blk' {T : TypeId} {cs : Array Value} (h : Made w w' T cs) (hs : w0.heap.size ≤ w.heap.size) (hT : T ∉ MTs) : Blk w0 w' w.heap.size T cs := ⟨h.blk, hs, hT⟩
theorem made_of {T : TypeId} {cs : Array Value} (h : w' = w.alloc (.cells cs T)) : Made w w' T cs := by subst h; exact ⟨heap_alloc_new _ _, by go_grown⟩
end
/-- whose the second memory is -/
def T2of : Bool → TypeId
  | true => 142
  | false => 80
theorem t2m (ow : Bool) : T2of ow ∈ MTs := by cases ow <;> decide
structure TwoT (ow : Bool) (w0 w : World) (b y : Nat) (s1 s2 : St) (N : Nat) : Prop where
  at_ : ∃ L M : Loc, L.b = b ∧ M.b = y ∧ Mm w L s1 ∧ MemAt (T2of ow) w M s2 ∧ (∀ k ∈ L.fp, w0.heap.size ≤ k ∧ k ∉ M.fp) ∧ ∀ k ∈ M.fp, w0.heap.size ≤ k
  bel : Below w0.heap.size w0 w
  fit1 : s1.Fit
  fit2 : s2.Fit
  top1 : s1.c ≤ N
  top2 : s2.c ≤ N
  rng1 : s1.Rng
  rng2 : s2.Rng
  wid : H.Wid w0
abbrev Two := TwoT false
section
variable {ow : Bool} {w0 w w' : World} {b y p : Nat} {s1 s2 : St} {N : Nat} {T : TypeId} {cs : Array Value} {F : List Nat}
theorem TwoT.kept (h : TwoT ow w0 w b y s1 s2 N) (k : Kept F w w') (hF : ∀ k ∈ F, w0.heap.size ≤ k ∧ ∃ cs T fz, T ∉ MTs ∧ w.heap[k]? = some (.cells cs T fz)) : TwoT ow w0 w' b y s1 s2 N := by
  obtain ⟨⟨L, M, e1, e2, hm, hr, hl, hl2⟩, hb, f1, f2, t1, t2, r1, r2, wd⟩ := h
  refine ⟨⟨L, M, e1, e2, hm.on k fun j hj hjF => ?_, hr.on k fun j hj hjF => ?_, hl, hl2⟩, hb.trans (k.below (fun j hj => (hF j hj).1) hb.size), f1, f2, t1, t2, r1, r2, wd⟩
  · obtain ⟨_, _, _, _, hT, hk⟩ := hF j hjF
    exact notin_fp hm (by simp [MTs]) f1 (.inl hT) hk hj
  · obtain ⟨_, _, _, _, hT, hk⟩ := hF j hjF
    exact notin_fp hr (t2m _) f2 (.inl hT) hk hj
theorem TwoT.below (h : TwoT ow w0 w b y s1 s2 N) (hb : Below w.heap.size w w') : TwoT ow w0 w' b y s1 s2 N := h.kept (F := []) (Kept.of_below hb) fun _ h => by simp at h
theorem TwoT.alloc (h : TwoT ow w0 w b y s1 s2 N) (o : Obj) : TwoT ow w0 (w.alloc o) b y s1 s2 N := h.below ((Below.refl _ _).alloc (Nat.le_refl _) o)
theorem TwoT.drew (h : TwoT ow w0 w b y s1 s2 N) : TwoT ow w0 w.drew b y s1 s2 N := h.below (Below.refl _ _).drew
theorem TwoT.set (h : TwoT ow w0 w b y s1 s2 N) (hp : Blk w0 w p T cs) (i : Nat) (u : Value) : TwoT ow w0 (w.setCell ⟨p, i, none⟩ u) b y s1 s2 N :=
  h.kept (Kept.setCell [p] _ _ _ (by simp)) fun k hk => by simp at hk; subst hk; exact ⟨hp.old, _, _, _, hp.hT, hp.at_⟩
theorem TwoT.mono (h : TwoT ow w0 w b y s1 s2 N) {N' : Nat} (hN : N ≤ N') : TwoT ow w0 w b y s1 s2 N' := ⟨h.at_, h.bel, h.fit1, h.fit2, by have := h.top1; omega, by have := h.top2; omega, h.rng1, h.rng2, h.wid⟩
theorem TwoT.lift {wa : World} (h : TwoT ow wa w b y s1 s2 N) (hb : Below w0.heap.size w0 wa) (hw : H.Wid w0) : TwoT ow w0 w b y s1 s2 N := by
  obtain ⟨⟨L, M, e1, e2, hm, hr, hl, hl2⟩, hb', f1, f2, t1, t2, r1, r2, wd⟩ := h
  exact ⟨⟨L, M, e1, e2, hm, hr, fun k hk => ⟨Nat.le_trans hb.size (hl k hk).1, (hl k hk).2⟩, fun k hk => Nat.le_trans hb.size (hl2 k hk)⟩, hb.trans (hb'.mono hb.size), f1, f2, t1, t2, r1, r2, hw⟩
theorem TwoT.widw (h : TwoT ow w0 w b y s1 s2 N) : H.Wid w := h.wid.on h.bel
theorem TwoT.one (h : TwoT ow w0 w b y s1 s2 N) : Hand w0 w b s1 N := by
  obtain ⟨⟨L, M, e1, e2, hm, hr, hl, hl2⟩, hb, f1, f2, t1, t2, r1, r2, wd⟩ := h
  exact ⟨⟨L, e1, hm, fun k hk => (hl k hk).1⟩, hb, f1, t1, r1, wd⟩
theorem TwoT.went1 (h : TwoT ow w0 w b y s1 s2 N) (hp : Blk w0 w p T cs) : ∃ L : Loc, L.b = b ∧ At 142 w L s1 p T cs ∧ ∀ {w' : World} {L' : Loc} {s' : St} {cs' : Array Value} {N' : Nat}, At 142 w' L' s' p T cs' → Went w L p w' L' → s'.Fit → s'.Rng → s'.c ≤ N' → N ≤ N' →
    TwoT ow w0 w' b y s' s2 N' ∧ Blk w0 w' p T cs' ∧ Oth [p] w w' := by
  have hwd := h.widw
  obtain ⟨⟨L, M, e1, e2, hm, hr, hl, hl2⟩, hb, f1, f2, t1, t2, r1, r2, wd⟩ := h
  have h0 := wd.1
  have hT := hp.hT
  have hpM : p ∉ M.fp := notin_fp hr (t2m _) f2 (.inl hp.hT) hp.at_
  simp only [MTs, List.mem_cons, List.not_mem_nil, or_false, not_or] at hT
  refine ⟨L, e1, ⟨hm, hp.at_, ⟨hT.1, hT.2.2.1, hT.2.2.2⟩, hwd, fun hz => by have := (hl 0 hz).1; omega, by have := hp.old; omega⟩, ?_⟩
  intro w' L' s' cs' N' A' g f' r' t' hN
  have hl' : ∀ k ∈ L'.fp, w0.heap.size ≤ k ∧ k ∉ M.fp := fun k hk => (g.new k hk).elim (hl k) fun h' => ⟨Nat.le_trans hb.size h', fun hkM => by have := hr.lt k hkM; omega⟩
  have hr' : MemAt (T2of ow) w' M s2 := hr.on g.kept fun k hk hm' => by
    simp only [List.mem_cons] at hm'
    rcases hm' with rfl | hm'
    · exact hpM hk
    · exact (hl k hm').2 hk
  refine ⟨⟨⟨L', M, g.b.trans e1, e2, A'.mem, hr', hl', hl2⟩, hb.trans (g.kept.below (fun k hk => ?_) hb.size), f', f2, t', by omega, r', r2, wd⟩, ⟨A'.blk, hp.old, hp.hT⟩, Oth.went hm (by simp [MTs]) f1 g⟩
  simp only [List.mem_cons] at hk
  rcases hk with rfl | hk
  · exact hp.old
  · exact (hl k hk).1
theorem Two.went2 (h : Two w0 w b y s1 s2 N) (hp : Blk w0 w p T cs) : ∃ M : Loc, M.b = y ∧ At 80 w M s2 p T cs ∧ ∀ {w' : World} {M' : Loc} {s' : St} {cs' : Array Value} {N' : Nat}, At 80 w' M' s' p T cs' → Went w M p w' M' → s'.Fit → s'.Rng → s'.c ≤ N' → N ≤ N' →
    Two w0 w' b y s1 s' N' ∧ Blk w0 w' p T cs' ∧ Oth [p] w w' := by
  have hwd := h.widw
  obtain ⟨⟨L, M, e1, e2, hm, hr, hl, hl2⟩, hb, f1, f2, t1, t2, r1, r2, wd⟩ := h
  have h0 := wd.1
  have hT := hp.hT
  have hpL : p ∉ L.fp := notin_fp hm (by simp [MTs]) f1 (.inl hp.hT) hp.at_
  simp only [MTs, List.mem_cons, List.not_mem_nil, or_false, not_or] at hT
  refine ⟨M, e2, ⟨hr, hp.at_, ⟨hT.2.1, hT.2.2.1, hT.2.2.2⟩, hwd, fun hz => by have := hl2 0 hz; omega, by have := hp.old; omega⟩, ?_⟩
  intro w' M' s' cs' N' A' g f' r' t' hN
  have hl2' : ∀ k ∈ M'.fp, w0.heap.size ≤ k := fun k hk => (g.new k hk).elim (hl2 k) fun h' => Nat.le_trans hb.size h'
  have hl' : ∀ k ∈ L.fp, w0.heap.size ≤ k ∧ k ∉ M'.fp := fun k hk => ⟨(hl k hk).1, fun hkM => (g.new k hkM).elim (hl k hk).2 fun h' => by have := hm.lt k hk; omega⟩
  have hm' : Mm w' L s1 := hm.on g.kept fun k hk hm' => by
    simp only [List.mem_cons] at hm'
    rcases hm' with rfl | hm'
    · exact hpL hk
    · exact (hl k hk).2 hm'
  refine ⟨⟨⟨L, M', e1, g.b.trans e2, hm', A'.mem, hl', hl2'⟩, hb.trans (g.kept.below (fun k hk => ?_) hb.size), f1, f', by omega, t', r1, r', wd⟩, ⟨A'.blk, hp.old, hp.hT⟩, Oth.went hr (t2m _) f2 g⟩
  simp only [List.mem_cons] at hk
  rcases hk with rfl | hk
  · exact hp.old
  · exact hl2 k hk
theorem tShade {x : ShadeS} (h : TwoT ow w0 w b y s1 s2 N) (hp : Blk w0 w p 110 x.cells) (ok : x.Ok) (hN : N < 1000000) :
    Calls Tryd.prog 26 #[.pointer (some ⟨p, 0, none⟩), .pointer (some ⟨b, 0, none⟩)] w fun e w' => e = .returned (.bool ((x.next s1).pc == 0)) ∧
      TwoT ow w0 w' b y (x.mem s1) s2 (N + 1) ∧ Blk w0 w' p 110 (x.next s1).cells ∧ Oth [p] w w' := by
  have ht := h.top1
  have hc : s1.c < 1000000 := by omega
  have f := h.fit1
  have r := h.rng1
  obtain ⟨L, rfl, A, k⟩ := h.went1 hp
  refine (cShade A ok f hc r).mono ?_
  rintro e w' ⟨rfl, L', A', g⟩
  have := ShadeS.count (s := s1) ok
  exact ⟨rfl, k A' g (ShadeS.fit ok f hc) (ShadeS.rng ok r) (by omega) (by omega)⟩
theorem yShade {x : ShadeS} {q : Hd} {z : Int} (h : Two w0 w b y s1 s2 N) (hp : Blk w0 w p 150 (x.rcells q z)) (rf : x.Rf q z) (ok : x.Ok) (hN : N < 1000000) :
    Calls Tryd.prog 53 #[.pointer (some ⟨p, 0, none⟩), .pointer (some ⟨y, 0, none⟩)] w fun e w' => e = .returned (.bool ((x.next s2).pc == 0)) ∧
      Two w0 w' b y s1 (x.mem s2) (N + 1) ∧ (∃ q' z', Blk w0 w' p 150 ((x.next s2).rcells q' z') ∧ (x.next s2).Rf q' z') ∧ Oth [p] w w' := by
  have ht := h.top2
  have hc : s2.c < 1000000 := by omega
  have f := h.fit2
  have r := h.rng2
  obtain ⟨M, rfl, A, k⟩ := h.went2 hp
  refine (rShade A rf ok f hc r).mono ?_
  rintro e w' ⟨rfl, L', q', z', A', rf', g⟩
  have := ShadeS.count (s := s2) ok
  obtain ⟨R1, R2, R3⟩ := k A' g (ShadeS.fit ok f hc) (ShadeS.rng ok r) (show _ ≤ ((N + 1 : Nat) : Int) by omega) (by omega)
  exact ⟨rfl, R1, ⟨q', z', R2, rf'⟩, R3⟩
theorem TwoT.step1 (h : TwoT ow w0 w b y s1 s2 N) : ∃ L : Loc, L.b = b ∧ Mm w L s1 ∧ ∀ {w' : World} {L' : Loc} {s' : St} {N' : Nat}, Mm w' L' s' → Step w L w' L' → s'.Fit → s'.Rng → s'.c ≤ N' → N ≤ N' →
    TwoT ow w0 w' b y s' s2 N' ∧ Oth [] w w' := by
  obtain ⟨⟨L, M, e1, e2, hm, hr, hl, hl2⟩, hb, f1, f2, t1, t2, r1, r2, wd⟩ := h
  refine ⟨L, e1, hm, ?_⟩
  intro w' L' s' N' hm' st f' r' t' hN
  have hl' : ∀ k ∈ L'.fp, w0.heap.size ≤ k ∧ k ∉ M.fp := fun k hk => (st.new k hk).elim (hl k) fun h' => ⟨Nat.le_trans hb.size h', fun hkM => by have := hr.lt k hkM; omega⟩
  have hr' : MemAt (T2of ow) w' M s2 := hr.on st.kept fun k hk hm' => (hl k hm').2 hk
  exact ⟨⟨⟨L', M, st.b.trans e1, e2, hm', hr', hl', hl2⟩, hb.trans (st.kept.below (fun k hk => (hl k hk).1) hb.size), f', f2, t', by omega, r', r2, wd⟩, Oth.step hm (by simp [MTs]) f1 st⟩
/-- two memories of the program, the other way round -/
theorem TwoT.flip (h : TwoT true w0 w b y s1 s2 N) : TwoT true w0 w y b s2 s1 N := by
  obtain ⟨⟨L, M, e1, e2, hm, hr, hl, hl2⟩, hb, f1, f2, t1, t2, r1, r2, wd⟩ := h
  exact ⟨⟨M, L, e2, e1, hr, hm, fun k hk => ⟨hl2 k hk, fun h => (hl k h).2 hk⟩, fun k hk => (hl k hk).1⟩, hb, f2, f1, t2, t1, r2, r1, wd⟩
/-- a second one beside one -/
theorem Hand.duo {N' : Nat} (h : Hand w0 w b s1 N) (h' : Hand w w' y s2 N') (hN : N' ≤ N) : TwoT true w0 w' b y s1 s2 N := by
  have h2 := h.below h'.bel
  obtain ⟨⟨L, e1, hm, hl⟩, hb, f1, t1, r1, wd⟩ := h
  obtain ⟨⟨M, e2, hr, hl2⟩, hb', f2, t2, r2, wd'⟩ := h'
  exact ⟨⟨L, M, e1, e2, hm.below hb', hr, fun k hk => ⟨hl k hk, fun hM => by have := hm.lt k hk; have := hl2 k hM; omega⟩, fun k hk => Nat.le_trans hb.size (hl2 k hk)⟩, h2.bel, f1, f2, t1, by omega, r1, r2, wd⟩
theorem Two.step2 (h : Two w0 w b y s1 s2 N) : ∃ M : Loc, M.b = y ∧ Rm w M s2 ∧ ∀ {w' : World} {M' : Loc} {s' : St} {N' : Nat}, Rm w' M' s' → Step w M w' M' → s'.Fit → s'.Rng → s'.c ≤ N' → N ≤ N' →
    Two w0 w' b y s1 s' N' ∧ Oth [] w w' := by
  obtain ⟨⟨L, M, e1, e2, hm, hr, hl, hl2⟩, hb, f1, f2, t1, t2, r1, r2, wd⟩ := h
  refine ⟨M, e2, hr, ?_⟩
  intro w' M' s' N' hr' st f' r' t' hN
  have hl2' : ∀ k ∈ M'.fp, w0.heap.size ≤ k := fun k hk => (st.new k hk).elim (hl2 k) fun h' => Nat.le_trans hb.size h'
  have hl' : ∀ k ∈ L.fp, w0.heap.size ≤ k ∧ k ∉ M'.fp := fun k hk => ⟨(hl k hk).1, fun hkM => (st.new k hkM).elim (hl k hk).2 fun h' => by have := hm.lt k hk; omega⟩
  have hm' : Mm w' L s1 := hm.on st.kept fun k hk hm' => (hl k hk).2 hm'
  exact ⟨⟨⟨L, M', e1, st.b.trans e2, hm', hr', hl', hl2'⟩, hb.trans (st.kept.below (fun k hk => hl2 k hk) hb.size), f1, f', by omega, t', r1, r', wd⟩, Oth.step hr (t2m _) f2 st⟩
theorem tStore (h : TwoT ow w0 w b y s1 s2 N) (hN : N < 1000000) (a : Int) {x : Int} (hx : U64 x) :
    Calls Tryd.prog 37 #[.pointer (some ⟨b, 0, none⟩), .int .i64 a, .int .u64 x] w fun e w' => e = .returned (.tuple #[]) ∧ TwoT ow w0 w' b y (s1.store a x) s2 (N + 1) ∧ Oth [] w w' := by
  have ht := h.top1
  have hc : s1.c < 1000000 := by omega
  have f := h.fit1
  have r := h.rng1
  obtain ⟨L, rfl, A, k⟩ := h.step1
  refine (cStore A f hc a x).mono ?_
  rintro e w' ⟨rfl, L', A', g⟩
  exact ⟨rfl, k A' g (f.store hc a x) (r.store a hx) (by rw [St.c_store]; omega) (by omega)⟩
theorem yStore (h : Two w0 w b y s1 s2 N) (hN : N < 1000000) (a : Int) {x : Int} (hx : U64 x) :
    Calls Tryd.prog 39 #[.pointer (some ⟨y, 0, none⟩), .int .i64 a, .int .u64 x] w fun e w' => e = .returned (.tuple #[]) ∧ Two w0 w' b y s1 (s2.store a x) (N + 1) ∧ Oth [] w w' := by
  have ht := h.top2
  have hc : s2.c < 1000000 := by omega
  have f := h.fit2
  have r := h.rng2
  obtain ⟨M, rfl, A, k⟩ := h.step2
  refine (rStore A f hc a x).mono ?_
  rintro e w' ⟨rfl, L', A', g⟩
  exact ⟨rfl, k A' g (f.store hc a x) (r.store a hx) (by rw [St.c_store]; omega) (by omega)⟩
end

theorem yNew {w w0 : World} {b N : Nat} {s : St} (h : Hand w0 w b s N) (n : Nat) (h1 : 2 ≤ n) (h4 : n ≤ 4096) :
    Calls Tryd.prog 36 #[.int .i64 n] w fun e w' => ∃ y, e = .returned (.tuple #[.pointer (some ⟨y, 0, none⟩), .int .i64 0]) ∧ Two w0 w' b y s (St.new n) N := by
  refine (cRNew w n (by omega) h4).mono ?_
  rintro e w' ⟨y, g, cp, rfl, hm, hb', hl⟩
  obtain ⟨⟨L, e1, hm1, hl1⟩, hb, f, t, r, wd⟩ := h
  refine ⟨y, rfl, ⟨⟨L, _, e1, rfl, hm1.below hb', hm, fun k hk => ⟨hl1 k hk, fun hk' => ?_⟩, fun k hk => Nat.le_trans hb.size (hl k hk)⟩, hb.trans (hb'.mono hb.size), f, St.Fit.new h1 h4, t, by simp [St.new], r, St.Rng.new n, wd⟩⟩
  have h1 := hm1.lt k hk
  have h2 := hl k hk'
  omega
/-- what is read of the reference's memory -/
structure Seen2 (w : World) (y g cp : Nat) (s : St) : Prop where
  c0 : w.cell? ⟨y, 0, none⟩ = some (.slice (some ⟨g, 0, none⟩) s.ws.length cp)
  c2 : w.cell? ⟨y, 2, none⟩ = some (.int .i64 s.t)
  cw : ∀ j, j < s.ws.length → w.cell? ⟨g, j, none⟩ = some (.int .u64 (s.ws.getD j 0))
  ly : y < w.heap.size
  lg : g < w.heap.size
theorem Seen2.below {w w' : World} {y g cp : Nat} {s : St} (h : Seen2 w y g cp s) (hb : Below w.heap.size w w') : Seen2 w' y g cp s :=
  ⟨(hb.cell h.ly).trans h.c0, (hb.cell h.ly).trans h.c2, fun j hj => (hb.cell h.lg).trans (h.cw j hj), Nat.lt_of_lt_of_le h.ly hb.size, Nat.lt_of_lt_of_le h.lg hb.size⟩
theorem hLen {w0 w : World} {b N : Nat} {s : St} (h : Hand w0 w b s N) : Calls Tryd.prog 56 #[.pointer (some ⟨b, 0, none⟩)] w fun e w' => e = .returned (.int .i64 s.ws.length) ∧ w' = w := by
  obtain ⟨⟨L, rfl, hm, _⟩, _⟩ := h
  exact cLen hm
theorem hClone {w0 w : World} {b N : Nat} {s : St} (h : Hand w0 w b s N) : Calls Tryd.prog 55 #[.pointer (some ⟨b, 0, none⟩)] w fun e w' => ∃ c, e = .returned (.pointer (some ⟨c, 0, none⟩)) ∧ Hand w w' c s N := by
  have hwd := h.widw
  obtain ⟨⟨L, rfl, hm, _⟩, _, f, t, r, _⟩ := h
  refine (cClone hm f).mono ?_
  rintro e w' ⟨L', rfl, hm', hb', hl'⟩
  exact ⟨_, rfl, ⟨⟨L', rfl, hm', hl'⟩, hb', f, t, r, hwd⟩⟩
theorem words_load (s : St) (a : Int) : (s.load a).ws = s.ws := rfl
set_option maxHeartbeats 4000000 in
theorem cSame {w w0 : World} {b y N : Nat} {s : St} (h : Two w0 w b y s s N) (h160 : s.ws.length = 160) (hN : N ≤ 100000) :
    Calls Tryd.prog 20 #[.pointer (some ⟨b, 0, none⟩), .pointer (some ⟨y, 0, none⟩)] w fun e w' => e = .returned (.bool true) ∧ Below w.heap.size w w' := by
  obtain ⟨g, cp, hS⟩ : ∃ g cp, Seen2 w y g cp s := by
    obtain ⟨⟨L, M, e1, rfl, hm, hr, hl, hl2⟩, _⟩ := h
    exact ⟨M.g, M.cp, hr.cell0, hr.cell2, fun j hj => hr.wcell j hj, hr.lt _ (by simp [Loc.fp]), hr.lt _ (by simp [Loc.fp])⟩
  have h1 := h.one
  have tb := h.fit1.t0
  have tc := h.fit1.tc
  have tc1 := h.fit1.c1
  have c0 := hS.c0
  rw [h160] at c0
  go_enter Tryd.func20, Tryd.ntmps20
  go_wp2_with (go_at_call 55; refine (hClone h1).mono ?_; rintro e w1 ⟨c, rfl, q0⟩)
  have d0 : w1.drew.cell? ⟨y, 0, none⟩ = some (.slice (some ⟨g, 0, none⟩) 160 cp) := (q0.bel.cell hS.ly).trans c0
  go_region_held3 (fun w' => w'.cell? ⟨y, 0, none⟩ = some (.slice (some ⟨g, 0, none⟩) 160 cp)) (first | assumption)
    ((go_at_call 56; refine (hLen q0.drew).mono ?_; rintro e w2 ⟨rfl, hw2⟩; rw [hw2, h160]; clear hw2 w2))
  all_goals go_wp2
  go_loopw [6] (fun i wr => ∃ j : Nat, j ≤ 160 ∧ i = .int .i64 j ∧ ∃ s2, Hand w wr c s2 (N + j) ∧ s2.ws = s.ws) (fun i _ => 160 - (intOf i).toNat)
  case atStart => exact ⟨0, Nat.zero_le _, rfl, s, q0.drew, rfl⟩
  case round =>
    obtain ⟨j, hj, rfl, s2, q1, q2⟩ := hrel
    have hS1 := hS.below q1.bel
    have x0 := hS1.c0
    rw [h160] at x0
    by_cases hj8 : j < 160
    case pos =>
      have xj := hS1.cw j (by omega)
      have gj : s2.got j = s.ws.getD j 0 := by
        rw [In.got (a := (j : Int)) (by rw [q2]; exact h160) ⟨by omega, by omega⟩]
        simp only [St.word, q2, Int.toNat_natCast]
      obtain ⟨v, hv⟩ : ∃ v, s.ws.getD j 0 = v := ⟨_, rfl⟩
      rw [hv] at xj gj
      clear hv d0 c0 hS1
      go_wp2
      have x0d : wr.drew.cell? ⟨y, 0, none⟩ = some (.slice (some ⟨g, 0, none⟩) 160 cp) := x0
      have xjd : wr.drew.cell? ⟨g, j, none⟩ = some (.int .u64 v) := xj
      go_region_held3 (fun w' => w'.cell? ⟨y, 0, none⟩ = some (.slice (some ⟨g, 0, none⟩) 160 cp) ∧ w'.cell? ⟨g, j, none⟩ = some (.int .u64 v)) (first | assumption | exact ⟨x0d, xjd⟩)
        ((go_at_call 31; refine (hLoad q1.drew (by omega) j).mono ?_; rintro e w7 ⟨rfl, h7, _⟩; rw [gj]; have hS7 := hS.below h7.bel; have x7 : w7.cell? ⟨y, 0, none⟩ = some (.slice (some ⟨g, 0, none⟩) 160 cp) ∧ w7.cell? ⟨g, j, none⟩ = some (.int .u64 v) := ⟨(h7.bel.cell hS.ly).trans ((q1.bel.cell hS.ly).symm.trans x0), (h7.bel.cell hS.lg).trans ((q1.bel.cell hS.lg).symm.trans xj)⟩; clear hS7))
      all_goals go_wp2
      all_goals go_roundw
      case rel => exact ⟨j + 1, by omega, by go_num, _, h7, q2⟩
      case measure => simp [intOf]; omega
    case neg =>
      clear d0 c0
      go_wp2
      go_ret
      exact ⟨rfl, q1.bel⟩
end Go.Proofs.YtoablodmodnamaaDoor
