/-
  The program's memory and the reference's side by side, with machines of both.
-/
import Derived.Test.YteclgafdflmioaaDoorLsh
namespace Go.Proofs.YteclgafdflmioaaDoor
set_option linter.unusedVariables false
set_option maxRecDepth 100000
open Go.ChangeShapes Go.WideShapes Go.RowKit
open S.Plain (t0 t1 tw nx)
open H.Plain (hw pL)

structure Two (w0 w : World) (b y : Nat) (s1 s2 : St) (N : Nat) : Prop where
  at_ : ∃ L M : Loc, L.b = b ∧ M.b = y ∧ Mm w L s1 ∧ Rm w M s2 ∧ (∀ k ∈ L.fp, w0.heap.size ≤ k ∧ k ∉ M.fp) ∧ ∀ k ∈ M.fp, w0.heap.size ≤ k
  bel : Below w0.heap.size w0 w
  fit1 : s1.Fit
  fit2 : s2.Fit
  top1 : s1.c ≤ N
  top2 : s2.c ≤ N
  rng1 : s1.Rng
  rng2 : s2.Rng
  wid : H.Wid w0
section
variable {w0 w w' : World} {b y p : Nat} {s1 s2 : St} {N : Nat} {T : TypeId} {cs : Array Value} {F : List Nat}
theorem Two.kept (h : Two w0 w b y s1 s2 N) (k : Kept F w w') (hF : ∀ k ∈ F, w0.heap.size ≤ k ∧ ∃ cs T fz, T ∉ MTs ∧ w.heap[k]? = some (.cells cs T fz)) : Two w0 w' b y s1 s2 N := by
  obtain ⟨⟨L, M, e1, e2, hm, hr, hl, hl2⟩, hb, f1, f2, t1, t2, r1, r2, wd⟩ := h
  refine ⟨⟨L, M, e1, e2, hm.on k fun j hj hjF => ?_, hr.on k fun j hj hjF => ?_, hl, hl2⟩, hb.trans (k.below (fun j hj => (hF j hj).1) hb.size), f1, f2, t1, t2, r1, r2, wd⟩
  · obtain ⟨_, _, _, _, hT, hk⟩ := hF j hjF
    exact notin_fp hm (by simp [MTs]) hT hk hj
  · obtain ⟨_, _, _, _, hT, hk⟩ := hF j hjF
    exact notin_fp hr (by simp [MTs]) hT hk hj
theorem Two.below (h : Two w0 w b y s1 s2 N) (hb : Below w.heap.size w w') : Two w0 w' b y s1 s2 N := h.kept (F := []) (Kept.of_below hb) fun _ h => by simp at h
theorem Two.alloc (h : Two w0 w b y s1 s2 N) (o : Obj) : Two w0 (w.alloc o) b y s1 s2 N := h.below ((Below.refl _ _).alloc (Nat.le_refl _) o)
theorem Two.drew (h : Two w0 w b y s1 s2 N) : Two w0 w.drew b y s1 s2 N := h.below (Below.refl _ _).drew
theorem Two.set (h : Two w0 w b y s1 s2 N) (hp : Blk w0 w p T cs) (i : Nat) (u : Value) : Two w0 (w.setCell ⟨p, i, none⟩ u) b y s1 s2 N :=
  h.kept (Kept.setCell [p] _ _ _ (by simp)) fun k hk => by simp at hk; subst hk; exact ⟨hp.old, _, _, _, hp.hT, hp.at_⟩
theorem Two.mono (h : Two w0 w b y s1 s2 N) {N' : Nat} (hN : N ≤ N') : Two w0 w b y s1 s2 N' := ⟨h.at_, h.bel, h.fit1, h.fit2, by have := h.top1; omega, by have := h.top2; omega, h.rng1, h.rng2, h.wid⟩
theorem Two.widw (h : Two w0 w b y s1 s2 N) : H.Wid w := h.wid.on h.bel
theorem Two.one (h : Two w0 w b y s1 s2 N) : Hand w0 w b s1 N := by
  obtain ⟨⟨L, M, e1, e2, hm, hr, hl, hl2⟩, hb, f1, f2, t1, t2, r1, r2, wd⟩ := h
  exact ⟨⟨L, e1, hm, fun k hk => (hl k hk).1⟩, hb, f1, t1, r1, wd⟩
theorem Two.went1 (h : Two w0 w b y s1 s2 N) (hp : Blk w0 w p T cs) : ∃ L : Loc, L.b = b ∧ At 85 w L s1 p T cs ∧ ∀ {w' : World} {L' : Loc} {s' : St} {cs' : Array Value} {N' : Nat}, At 85 w' L' s' p T cs' → Went w L p w' L' → s'.Fit → s'.Rng → s'.c ≤ N' → N ≤ N' →
    Two w0 w' b y s' s2 N' ∧ Blk w0 w' p T cs' ∧ Oth [p] w w' := by
  have hwd := h.widw
  obtain ⟨⟨L, M, e1, e2, hm, hr, hl, hl2⟩, hb, f1, f2, t1, t2, r1, r2, wd⟩ := h
  have h0 := wd.1
  have hT := hp.hT
  have hpM : p ∉ M.fp := notin_fp hr (by simp [MTs]) hp.hT hp.at_
  simp only [MTs, List.mem_cons, List.not_mem_nil, or_false, not_or] at hT
  refine ⟨L, e1, ⟨hm, hp.at_, ⟨hT.1, hT.2.2.1, hT.2.2.2⟩, hwd, fun hz => by have := (hl 0 hz).1; omega, by have := hp.old; omega⟩, ?_⟩
  intro w' L' s' cs' N' A' g f' r' t' hN
  have hl' : ∀ k ∈ L'.fp, w0.heap.size ≤ k ∧ k ∉ M.fp := fun k hk => (g.new k hk).elim (hl k) fun h' => ⟨Nat.le_trans hb.size h', fun hkM => by have := hr.lt k hkM; omega⟩
  have hr' : Rm w' M s2 := hr.on g.kept fun k hk hm' => by
    simp only [List.mem_cons] at hm'
    rcases hm' with rfl | hm'
    · exact hpM hk
    · exact (hl k hm').2 hk
  refine ⟨⟨⟨L', M, g.b.trans e1, e2, A'.mem, hr', hl', hl2⟩, hb.trans (g.kept.below (fun k hk => ?_) hb.size), f', f2, t', by omega, r', r2, wd⟩, ⟨A'.blk, hp.old, hp.hT⟩, Oth.went hm (by simp [MTs]) g⟩
  simp only [List.mem_cons] at hk
  rcases hk with rfl | hk
  · exact hp.old
  · exact (hl k hk).1
theorem Two.went2 (h : Two w0 w b y s1 s2 N) (hp : Blk w0 w p T cs) : ∃ M : Loc, M.b = y ∧ At 75 w M s2 p T cs ∧ ∀ {w' : World} {M' : Loc} {s' : St} {cs' : Array Value} {N' : Nat}, At 75 w' M' s' p T cs' → Went w M p w' M' → s'.Fit → s'.Rng → s'.c ≤ N' → N ≤ N' →
    Two w0 w' b y s1 s' N' ∧ Blk w0 w' p T cs' ∧ Oth [p] w w' := by
  have hwd := h.widw
  obtain ⟨⟨L, M, e1, e2, hm, hr, hl, hl2⟩, hb, f1, f2, t1, t2, r1, r2, wd⟩ := h
  have h0 := wd.1
  have hT := hp.hT
  have hpL : p ∉ L.fp := notin_fp hm (by simp [MTs]) hp.hT hp.at_
  simp only [MTs, List.mem_cons, List.not_mem_nil, or_false, not_or] at hT
  refine ⟨M, e2, ⟨hr, hp.at_, ⟨hT.2.1, hT.2.2.1, hT.2.2.2⟩, hwd, fun hz => by have := hl2 0 hz; omega, by have := hp.old; omega⟩, ?_⟩
  intro w' M' s' cs' N' A' g f' r' t' hN
  have hl2' : ∀ k ∈ M'.fp, w0.heap.size ≤ k := fun k hk => (g.new k hk).elim (hl2 k) fun h' => Nat.le_trans hb.size h'
  have hl' : ∀ k ∈ L.fp, w0.heap.size ≤ k ∧ k ∉ M'.fp := fun k hk => ⟨(hl k hk).1, fun hkM => (g.new k hkM).elim (hl k hk).2 fun h' => by have := hm.lt k hk; omega⟩
  have hm' : Mm w' L s1 := hm.on g.kept fun k hk hm' => by
    simp only [List.mem_cons] at hm'
    rcases hm' with rfl | hm'
    · exact hpL hk
    · exact (hl k hk).2 hm'
  refine ⟨⟨⟨L, M', e1, g.b.trans e2, hm', A'.mem, hl', hl2'⟩, hb.trans (g.kept.below (fun k hk => ?_) hb.size), f1, f', by omega, t', r1, r', wd⟩, ⟨A'.blk, hp.old, hp.hT⟩, Oth.went hr (by simp [MTs]) g⟩
  simp only [List.mem_cons] at hk
  rcases hk with rfl | hk
  · exact hp.old
  · exact hl2 k hk
theorem tPop {x : PopS} (h : Two w0 w b y s1 s2 N) (hp : Blk w0 w p 79 x.cells) (ok : x.Ok) (hN : N < 1000000) :
    Calls Tryd.prog 16 #[.pointer (some ⟨p, 0, none⟩), .pointer (some ⟨b, 0, none⟩)] w fun e w' => e = .returned (.bool ((x.next s1).pc == 0)) ∧
      Two w0 w' b y (x.mem s1) s2 (N + 1) ∧ Blk w0 w' p 79 (x.next s1).cells ∧ Oth [p] w w' := by
  have ht := h.top1
  have hc : s1.c < 1000000 := by omega
  have f := h.fit1
  have r := h.rng1
  obtain ⟨L, rfl, A, k⟩ := h.went1 hp
  refine (cPop A ok f hc r).mono ?_
  rintro e w' ⟨rfl, L', A', g⟩
  have := PopS.count (s := s1) ok
  exact ⟨rfl, k A' g (PopS.fit ok f hc) (PopS.rng ok r) (by omega) (by omega)⟩
theorem tPush {x : PushS} (h : Two w0 w b y s1 s2 N) (hp : Blk w0 w p 82 x.cells) (ok : x.Ok) (hN : N < 1000000) :
    Calls Tryd.prog 18 #[.pointer (some ⟨p, 0, none⟩), .pointer (some ⟨b, 0, none⟩)] w fun e w' => e = .returned (.bool ((x.next s1).pc == 0)) ∧
      Two w0 w' b y (x.mem s1) s2 (N + 1) ∧ Blk w0 w' p 82 (x.next s1).cells ∧ Oth [p] w w' := by
  have ht := h.top1
  have hc : s1.c < 1000000 := by omega
  have f := h.fit1
  have r := h.rng1
  obtain ⟨L, rfl, A, k⟩ := h.went1 hp
  refine (cPush A ok f hc r).mono ?_
  rintro e w' ⟨rfl, L', A', g⟩
  have := PushS.count (s := s1) ok
  exact ⟨rfl, k A' g (PushS.fit ok f hc) (PushS.rng ok r) (by omega) (by omega)⟩
theorem yPop {x : PopS} {q : Int} (h : Two w0 w b y s1 s2 N) (hp : Blk w0 w p 70 (x.rcells q)) (hq : pL q = x.link) (hh : U64 q) (ok : x.Ok) (hN : N < 1000000) :
    Calls Tryd.prog 30 #[.pointer (some ⟨p, 0, none⟩), .pointer (some ⟨y, 0, none⟩)] w fun e w' => e = .returned (.bool ((x.next s2).pc == 0)) ∧
      Two w0 w' b y s1 (x.mem s2) (N + 1) ∧ (∃ q', Blk w0 w' p 70 ((x.next s2).rcells q') ∧ pL q' = (x.next s2).link ∧ U64 q') ∧ Oth [p] w w' := by
  have ht := h.top2
  have hc : s2.c < 1000000 := by omega
  have f := h.fit2
  have r := h.rng2
  obtain ⟨M, rfl, A, k⟩ := h.went2 hp
  refine (rPop A hq hh ok f hc r).mono ?_
  rintro e w' ⟨rfl, L', q', A', e1, e2, g⟩
  have := PopS.count (s := s2) ok
  obtain ⟨R1, R2, R3⟩ := k A' g (PopS.fit ok f hc) (PopS.rng ok r) (show _ ≤ ((N + 1 : Nat) : Int) by omega) (by omega)
  exact ⟨rfl, R1, ⟨q', R2, e1, e2⟩, R3⟩
theorem yPush {x : PushS} (h : Two w0 w b y s1 s2 N) (hp : Blk w0 w p 92 x.rcells) (ok : x.Ok) (hN : N < 1000000) :
    Calls Tryd.prog 28 #[.pointer (some ⟨p, 0, none⟩), .pointer (some ⟨y, 0, none⟩)] w fun e w' => e = .returned (.bool ((x.next s2).pc == 0)) ∧
      Two w0 w' b y s1 (x.mem s2) (N + 1) ∧ Blk w0 w' p 92 (x.next s2).rcells ∧ Oth [p] w w' := by
  have ht := h.top2
  have hc : s2.c < 1000000 := by omega
  have f := h.fit2
  have r := h.rng2
  obtain ⟨M, rfl, A, k⟩ := h.went2 hp
  refine (rPush A ok f hc r).mono ?_
  rintro e w' ⟨rfl, L', A', g⟩
  have := PushS.count (s := s2) ok
  exact ⟨rfl, k A' g (PushS.fit ok f hc) (PushS.rng ok r) (by omega) (by omega)⟩
end

theorem yNew {w w0 : World} {b N : Nat} {s : St} (h : Hand w0 w b s N) (n : Nat) (h1 : 1 ≤ n) (h4 : n ≤ 4096) :
    Calls Tryd.prog 26 #[.int .i64 n] w fun e w' => ∃ y, e = .returned (.tuple #[.pointer (some ⟨y, 0, none⟩), .int .i64 0]) ∧ Two w0 w' b y s (St.new n) N := by
  refine (cRNew w n h1 h4).mono ?_
  rintro e w' ⟨y, g, cp, rfl, hm, hb', hl⟩
  obtain ⟨⟨L, e1, hm1, hl1⟩, hb, f, t, r, wd⟩ := h
  refine ⟨y, rfl, ⟨⟨L, _, e1, rfl, hm1.below hb', hm, fun k hk => ⟨hl1 k hk, fun hk' => ?_⟩, fun k hk => Nat.le_trans hb.size (hl k hk)⟩, hb.trans (hb'.mono hb.size), f, St.Fit.new h1 h4, t, by simp [St.new], r, St.Rng.new n, wd⟩⟩
  have h1 := hm1.lt k hk
  have h2 := hl k hk'
  omega
set_option maxHeartbeats 4000000 in
theorem cRef {w w0 : World} {b N : Nat} {s : St} (h : Hand w0 w b s N) (n : Nat) (hn : n ≤ 12) (hN : N ≤ 1000) :
    Calls Tryd.prog 10 #[.int .i64 n] w fun e w' => ∃ y, e = .returned (.pointer (some ⟨y, 0, none⟩)) ∧ Two w0 w' b y s (laidTo n n) (N + 3 * n) := by
  go_enter Tryd.func10, Tryd.ntmps10
  go_wp2_with (go_at_call 26; refine (yNew h 160 (by decide) (by decide)).mono ?_; rintro e w1 ⟨y, rfl, h1⟩)
  go_loopw [5] (fun i wr => ∃ j : Nat, j ≤ n ∧ i = .int .i64 ((n : Int) - 1 - j) ∧ Two w0 wr b y s (laidTo n j) (N + 3 * j)) (fun i _ => (intOf i + 1).toNat)
  case atStart => exact ⟨0, Nat.zero_le _, by simp, h1⟩
  case round =>
    obtain ⟨j, hj, rfl, q1⟩ := hrel
    by_cases hjn : j < n
    case pos =>
      have ha : (96 : Int) + 4 * ((n : Int) - 1 - j) ≤ 160 ∧ 0 ≤ (n : Int) - 1 - j := by omega
      obtain ⟨a, hae⟩ : ∃ a : Int, 96 + 4 * ((n : Int) - 1 - j) = a := ⟨_, rfl⟩
      have hs : pushed (laidTo n j) a = laidTo n (j + 1) := by rw [← hae]; rfl
      have hr := q1.rng2
      have k0 := PushS.ok_new 3 a a 0
      have k1 := k0.next hr
      have k2 := k1.next (PushS.rng k0 hr)
      go_wp2_with (go_at_call 27; refine (rNewPush 3 a a 0 _).mono ?_; rintro e w2 ⟨rfl, hw2⟩; have h2 : Two w0 w2 b y s (laidTo n j) (N + 3 * j) := (hw2 ▸ q1.alloc _); have B2 : Blk w0 w2 wr.heap.size 92 (PushS.new 3 a a 0).rcells := (by rw [hw2]; exact Blk.new q1.bel.size _ (by decide)); obtain ⟨p, hp⟩ : ∃ p, wr.heap.size = p := ⟨_, rfl⟩; rw [hp] at B2 ⊢; clear hp hw2)
      go_wp2_with (go_at_call 28; refine (yPush h2 B2 k0 (by omega)).mono ?_; rintro e w3 ⟨rfl, h3, B3, o3⟩)
      go_wp2_with (go_at_call 28; refine (yPush h3 B3 k1 (by omega)).mono ?_; rintro e w4 ⟨rfl, h4, B4, o4⟩)
      go_wp2_with (go_at_call 28; refine (yPush h4 B4 k2 (by omega)).mono ?_; rintro e w5 ⟨rfl, h5, B5, o5⟩; have h6 : Two w0 w5 b y s (laidTo n (j + 1)) (N + 3 * (j + 1)) := (hs ▸ h5); clear h5 B5 o5 h4 B4 o4 h3 B3 o3)
      go_roundw
      case rel => exact ⟨j + 1, by omega, by go_num, h6⟩
      case measure => simp [intOf]; omega
    case neg =>
      have e : j = n := by omega
      subst e
      go_wp2
      go_ret
      exact ⟨y, rfl, q1⟩
/-- what is read of the reference's memory -/
structure Seen2 (w : World) (y g cp : Nat) (s : St) : Prop where
  c0 : w.cell? ⟨y, 0, none⟩ = some (.slice (some ⟨g, 0, none⟩) s.ws.length cp)
  c2 : w.cell? ⟨y, 2, none⟩ = some (.int .i64 s.t)
  cw : ∀ j, j < s.ws.length → w.cell? ⟨g, j, none⟩ = some (.int .u64 (s.ws.getD j 0))
  ly : y < w.heap.size
  lg : g < w.heap.size
theorem Seen2.below {w w' : World} {y g cp : Nat} {s : St} (h : Seen2 w y g cp s) (hb : Below w.heap.size w w') : Seen2 w' y g cp s :=
  ⟨(hb.cell h.ly).trans h.c0, (hb.cell h.ly).trans h.c2, fun j hj => (hb.cell h.lg).trans (h.cw j hj), Nat.lt_of_lt_of_le h.ly hb.size, Nat.lt_of_lt_of_le h.lg hb.size⟩
theorem hLen {w0 w : World} {b N : Nat} {s : St} (h : Hand w0 w b s N) : Calls Tryd.prog 32 #[.pointer (some ⟨b, 0, none⟩)] w fun e w' => e = .returned (.int .i64 s.ws.length) ∧ w' = w := by
  obtain ⟨⟨L, rfl, hm, _⟩, _⟩ := h
  exact cLen hm
theorem hClone {w0 w : World} {b N : Nat} {s : St} (h : Hand w0 w b s N) : Calls Tryd.prog 31 #[.pointer (some ⟨b, 0, none⟩)] w fun e w' => ∃ c, e = .returned (.pointer (some ⟨c, 0, none⟩)) ∧ Hand w w' c s N := by
  have hwd := h.widw
  obtain ⟨⟨L, rfl, hm, _⟩, _, f, t, r, _⟩ := h
  refine (cClone hm f).mono ?_
  rintro e w' ⟨L', rfl, hm', hb', hl'⟩
  exact ⟨_, rfl, ⟨⟨L', rfl, hm', hl'⟩, hb', f, t, r, hwd⟩⟩
theorem words_load (s : St) (a : Int) : (s.load a).ws = s.ws := rfl
set_option maxHeartbeats 4000000 in
theorem cSame {w w0 : World} {b y N : Nat} {s : St} (h : Two w0 w b y s s N) (h160 : s.ws.length = 160) (hN : N ≤ 100000) :
    Calls Tryd.prog 13 #[.pointer (some ⟨b, 0, none⟩), .pointer (some ⟨y, 0, none⟩)] w fun e w' => e = .returned (.bool true) ∧ Below w.heap.size w w' := by
  obtain ⟨g, cp, hS⟩ : ∃ g cp, Seen2 w y g cp s := by
    obtain ⟨⟨L, M, e1, rfl, hm, hr, hl, hl2⟩, _⟩ := h
    exact ⟨M.g, M.cp, hr.cell0, hr.cell2, fun j hj => hr.wcell j hj, hr.lt _ (by simp [Loc.fp]), hr.lt _ (by simp [Loc.fp])⟩
  have h1 := h.one
  have tb := h.fit1.t0
  have tc := h.fit1.tc
  have tc1 := h.fit1.c1
  have c0 := hS.c0
  rw [h160] at c0
  go_enter Tryd.func13, Tryd.ntmps13
  go_wp2_with (go_at_call 31; refine (hClone h1).mono ?_; rintro e w1 ⟨c, rfl, q0⟩)
  have d0 : w1.drew.cell? ⟨y, 0, none⟩ = some (.slice (some ⟨g, 0, none⟩) 160 cp) := (q0.bel.cell hS.ly).trans c0
  go_region_held3 (fun w' => w'.cell? ⟨y, 0, none⟩ = some (.slice (some ⟨g, 0, none⟩) 160 cp)) (first | assumption)
    ((go_at_call 32; refine (hLen q0.drew).mono ?_; rintro e w2 ⟨rfl, hw2⟩; rw [hw2, h160]; clear hw2 w2))
  all_goals go_wp2
  go_loopw [6] (fun i wr => ∃ j : Nat, j ≤ 160 ∧ i = .int .i64 j ∧ ∃ s2, Hand w wr c s2 (N + j) ∧ s2.ws = s.ws ∧ s2.t = s.t) (fun i _ => 160 - (intOf i).toNat)
  case atStart => exact ⟨0, Nat.zero_le _, rfl, s, q0.drew, rfl, rfl⟩
  case round =>
    obtain ⟨j, hj, rfl, s2, q1, q2, q3⟩ := hrel
    have hS1 := hS.below q1.bel
    have x0 := hS1.c0
    rw [h160] at x0
    by_cases hj8 : j < 160
    case pos =>
      have xj := hS1.cw j (by omega)
      have gj : s2.got j = s.ws.getD j 0 := by
        rw [In.got (a := (j : Int)) (by rw [q2]; exact h160) ⟨by omega, by omega⟩]
        simp only [St.word, q2, Int.toNat_natCast]
      obtain ⟨v, hv⟩ : ∃ v, s.ws.getD j 0 = v := ⟨_, rfl⟩
      rw [hv] at xj gj
      clear hv d0 c0 hS1
      go_wp2
      have x0d : wr.drew.cell? ⟨y, 0, none⟩ = some (.slice (some ⟨g, 0, none⟩) 160 cp) := x0
      have xjd : wr.drew.cell? ⟨g, j, none⟩ = some (.int .u64 v) := xj
      go_region_held3 (fun w' => w'.cell? ⟨y, 0, none⟩ = some (.slice (some ⟨g, 0, none⟩) 160 cp) ∧ w'.cell? ⟨g, j, none⟩ = some (.int .u64 v)) (first | assumption | exact ⟨x0d, xjd⟩)
        ((go_at_call 21; refine (hLoad q1.drew (by omega) j).mono ?_; rintro e w7 ⟨rfl, h7, _⟩; rw [gj]; have hS7 := hS.below h7.bel; have x7 : w7.cell? ⟨y, 0, none⟩ = some (.slice (some ⟨g, 0, none⟩) 160 cp) ∧ w7.cell? ⟨g, j, none⟩ = some (.int .u64 v) := ⟨(h7.bel.cell hS.ly).trans ((q1.bel.cell hS.ly).symm.trans x0), (h7.bel.cell hS.lg).trans ((q1.bel.cell hS.lg).symm.trans xj)⟩; clear hS7))
      all_goals go_wp2
      all_goals go_roundw
      case rel => exact ⟨j + 1, by omega, by go_num, _, h7, q2, by rw [t_load (by rw [q2]; exact h160) (⟨by omega, by omega⟩ : In (j : Int))]; exact q3⟩
      case measure => simp [intOf]; omega
    case neg =>
      have x2 := hS1.c2
      clear d0 c0
      go_wp2
      have x2d : wr.drew.cell? ⟨y, 2, none⟩ = some (.int .i64 s.t) := x2
      go_region_held3 (fun w' => w'.cell? ⟨y, 2, none⟩ = some (.int .i64 s.t)) (first | assumption)
        ((go_at_call 19; refine (hTraps q1.drew).mono ?_; rintro e w7 ⟨rfl, hw7⟩; rw [hw7, q3]; clear hw7 w7))
      all_goals go_wp2
      go_ret
      exact ⟨by simp, q1.drew.bel⟩
end Go.Proofs.YteclgafdflmioaaDoor
