/-
  A worker's step.
-/
import Derived.Test.YteclgafdflmioaaDoorLb
namespace Go.Proofs.YteclgafdflmioaaDoor
set_option linter.unusedVariables false
set_option maxRecDepth 100000
open Go.ChangeShapes Go.WideShapes Go.RowKit
open S.Plain (t0 t1 tw nx)
open H.Plain (hw pL)

section
variable {w0 w : World} {b y B o N M pm rm : Nat} {s : St} {cs : Array Value}
theorem sIdle (hB : Blk w0 w B 35 cs) (h0 : cs[o]? = some (.pointer none)) (h1 : cs[o + 1]? = some (.pointer none)) :
    Calls Tryd.prog 12 #[.pointer (some ⟨B, o, none⟩), .pointer (some ⟨b, 0, none⟩), .pointer (some ⟨y, 0, none⟩)] w fun e w' => e = .returned (.bool true) ∧ w' = w := by
  have c0 : w.cell? ⟨B, o, none⟩ = some (.pointer none) := (hB.cell o).trans h0
  have c1 : w.cell? ⟨B, o + 1, none⟩ = some (.pointer none) := (hB.cell (o + 1)).trans h1
  go_enter Tryd.func12, Tryd.ntmps12
  go_wp2
  go_returns
  exact ⟨rfl, rfl⟩
set_option maxHeartbeats 2000000 in
theorem sPopN {x : PopS} {q : Int} {vh : Value} {hs : List Int} (h : Two w0 w b y s s N) (hN : N + 2 ≤ 1000000) (hB : Blk w0 w B 35 cs) (h0 : cs[o]? = some (ptr pm)) (h2 : cs[o + 2]? = some (ptr rm)) (h4 : cs[o + 4]? = some vh)
    (hP : Blk w0 w pm 79 x.cells) (ok : x.Ok) (hQ : Blk w0 w rm 70 (x.rcells q)) (hq : pL q = x.link) (hu : U64 q) (hr : RowI w0 w vh hs) (hd : ((x.next s).pc == 0) = false) :
    Calls Tryd.prog 12 #[.pointer (some ⟨B, o, none⟩), .pointer (some ⟨b, 0, none⟩), .pointer (some ⟨y, 0, none⟩)] w fun e w' => e = .returned (.bool true) ∧ Two w0 w' b y (x.mem s) (x.mem s) (N + 1 + 1) ∧ Blk w0 w' B 35 cs ∧ Blk w0 w' pm 79 (x.next s).cells ∧ (∃ q', Blk w0 w' rm 70 ((x.next s).rcells q') ∧ pL q' = (x.next s).link ∧ U64 q') ∧ RowI w0 w' vh hs ∧ Oth [pm, rm] w w' := by
  have c0 : w.cell? ⟨B, o, none⟩ = some (.pointer (some ⟨pm, 0, none⟩)) := (hB.cell o).trans h0
  have c2 : w.cell? ⟨B, o + 2, none⟩ = some (.pointer (some ⟨rm, 0, none⟩)) := (hB.cell (o + 2)).trans h2
  have nBP : B ∉ [pm] := by simp; exact hB.ne hP (by decide)
  have nBQ : B ∉ [rm] := by simp; exact hB.ne hQ (by decide)
  have nQP : rm ∉ [pm] := by simp; exact hQ.ne hP (by decide)
  have nPQ : pm ∉ [rm] := by simp; exact hP.ne hQ (by decide)
  have nxt : (x.next s).Ok := ok.next h.rng1
  have R' : RowI w0 w vh hs := hr
  have nRP : ∀ k, vh.ownBlock = some k → k ≠ pm ∧ k ≠ rm ∧ k ≠ B := fun k hk => by
    obtain ⟨cr, hc⟩ := hr.blk hk
    have e : ∀ {p : Nat} {T : TypeId} {c : Array Value}, Blk w0 w p T c → T ≠ 3 → k ≠ p := fun hb hT hkp => by
      have := hb.at_
      rw [← hkp, hc] at this
      simp at this
      exact hT this.2.symm
    exact ⟨e hP (by decide), e hQ (by decide), e hB (by decide)⟩
  obtain ⟨x', hx⟩ : ∃ x', x.next s = x' := ⟨_, rfl⟩
  obtain ⟨s', hs'⟩ : ∃ s', x.mem s = s' := ⟨_, rfl⟩
  rw [hx] at nxt hd ⊢
  rw [hs']
  obtain ⟨va, hva⟩ : ∃ v, x'.at_ = v := ⟨_, rfl⟩
  obtain ⟨vs, hvs⟩ : ∃ v, x'.saw = v := ⟨_, rfl⟩
  go_enter Tryd.func12, Tryd.ntmps12
  go_wp2_with (first
    | (go_at_call 16; refine (tPop h hP ok (by omega)).mono ?_; rintro e w1 ⟨rfl, g1, P1, o1⟩; rw [hx] at P1 ⊢; rw [hs'] at g1; rw [hd]; have B1 := hB.oth o1 nBP; have Q1 := hQ.oth o1 nQP; have R1 := hr.oth o1 (fun k hk => by simp; exact (nRP k hk).1); have d2 : w1.cell? ⟨B, o + 2, none⟩ = some (.pointer (some ⟨rm, 0, none⟩)) := (B1.cell _).trans h2)
    | (go_at_call 30; refine (yPop g1 Q1 hq hu ok (by omega)).mono ?_; rintro e w2 ⟨rfl, g2, ⟨q', Q2, hq', hu'⟩, o2⟩; rw [hx] at Q2 hq' ⊢; rw [hs'] at g2; rw [hd]; have B2 := B1.oth o2 nBQ; have P2 := P1.oth o2 nPQ; have R2 := R1.oth o2 (fun k hk => by simp; exact (nRP k hk).2.1); have e0 : w2.cell? ⟨B, o, none⟩ = some (.pointer (some ⟨pm, 0, none⟩)) := (B2.cell _).trans h0)
    | (go_at_call 17; refine (oResult P2 nxt).mono ?_; rintro e w3 ⟨rfl, hb3⟩; have g3 := g2.below hb3; have P3 := P2.below hb3; have Q3 := Q2.below hb3; have B3 := B2.below hb3; have R3 := R2.oth (F := []) (Oth.below hb3) (by simp); have o3 : Oth [pm, rm] w w3 := ((o1.mono (by simp)).trans (o2.mono (by simp))).trans (Oth.below hb3); have q4 : w3.cell? ⟨rm, 4, none⟩ = some (.int .i64 x'.at_) := Q3.cell 4; have q5 : w3.cell? ⟨rm, 5, none⟩ = some (.int .u64 x'.saw) := Q3.cell 5; have k0 : w3.cell? ⟨B, o, none⟩ = some (.pointer (some ⟨pm, 0, none⟩)) := (B3.cell _).trans h0; have k2 : w3.cell? ⟨B, o + 2, none⟩ = some (.pointer (some ⟨rm, 0, none⟩)) := (B3.cell _).trans h2; have kf0 := B3.free o; clear hb3; rw [hva] at q4 ⊢; rw [hvs] at q5 ⊢))
  go_returns
  exact ⟨rfl, g3, B3, P3, ⟨q', Q3, hq', hu'⟩, R3, o3⟩
set_option maxHeartbeats 2000000 in
theorem sPopE {x : PopS} {q : Int} {vh : Value} {hs : List Int} (h : Two w0 w b y s s N) (hN : N + 2 ≤ 1000000) (hB : Blk w0 w B 35 cs) (h0 : cs[o]? = some (ptr pm)) (h2 : cs[o + 2]? = some (ptr rm)) (h4 : cs[o + 4]? = some vh)
    (hP : Blk w0 w pm 79 x.cells) (ok : x.Ok) (hQ : Blk w0 w rm 70 (x.rcells q)) (hq : pL q = x.link) (hu : U64 q) (hr : RowI w0 w vh hs) (hd : ((x.next s).pc == 0) = true) (ha : (x.next s).at_ = 0) :
    Calls Tryd.prog 12 #[.pointer (some ⟨B, o, none⟩), .pointer (some ⟨b, 0, none⟩), .pointer (some ⟨y, 0, none⟩)] w fun e w' => e = .returned (.bool true) ∧ Two w0 w' b y (x.mem s) (x.mem s) (N + 1 + 1) ∧ Blk w0 w' B 35 (cs.setIfInBounds o (.pointer none)) ∧ RowI w0 w' vh hs ∧ Oth [B, pm, rm] w w' := by
  have c0 : w.cell? ⟨B, o, none⟩ = some (.pointer (some ⟨pm, 0, none⟩)) := (hB.cell o).trans h0
  have c2 : w.cell? ⟨B, o + 2, none⟩ = some (.pointer (some ⟨rm, 0, none⟩)) := (hB.cell (o + 2)).trans h2
  have nBP : B ∉ [pm] := by simp; exact hB.ne hP (by decide)
  have nBQ : B ∉ [rm] := by simp; exact hB.ne hQ (by decide)
  have nQP : rm ∉ [pm] := by simp; exact hQ.ne hP (by decide)
  have nPQ : pm ∉ [rm] := by simp; exact hP.ne hQ (by decide)
  have nxt : (x.next s).Ok := ok.next h.rng1
  have R' : RowI w0 w vh hs := hr
  have nRP : ∀ k, vh.ownBlock = some k → k ≠ pm ∧ k ≠ rm ∧ k ≠ B := fun k hk => by
    obtain ⟨cr, hc⟩ := hr.blk hk
    have e : ∀ {p : Nat} {T : TypeId} {c : Array Value}, Blk w0 w p T c → T ≠ 3 → k ≠ p := fun hb hT hkp => by
      have := hb.at_
      rw [← hkp, hc] at this
      simp at this
      exact hT this.2.symm
    exact ⟨e hP (by decide), e hQ (by decide), e hB (by decide)⟩
  obtain ⟨x', hx⟩ : ∃ x', x.next s = x' := ⟨_, rfl⟩
  obtain ⟨s', hs'⟩ : ∃ s', x.mem s = s' := ⟨_, rfl⟩
  rw [hx] at nxt hd ha
  rw [hs']
  obtain ⟨vs, hvs⟩ : ∃ v, x'.saw = v := ⟨_, rfl⟩
  go_enter Tryd.func12, Tryd.ntmps12
  go_wp2_with (first
    | (go_at_call 16; refine (tPop h hP ok (by omega)).mono ?_; rintro e w1 ⟨rfl, g1, P1, o1⟩; rw [hx] at P1 ⊢; rw [hs'] at g1; rw [hd]; have B1 := hB.oth o1 nBP; have Q1 := hQ.oth o1 nQP; have R1 := hr.oth o1 (fun k hk => by simp; exact (nRP k hk).1); have d2 : w1.cell? ⟨B, o + 2, none⟩ = some (.pointer (some ⟨rm, 0, none⟩)) := (B1.cell _).trans h2)
    | (go_at_call 30; refine (yPop g1 Q1 hq hu ok (by omega)).mono ?_; rintro e w2 ⟨rfl, g2, ⟨q', Q2, hq', hu'⟩, o2⟩; rw [hx] at Q2 hq' ⊢; rw [hs'] at g2; rw [hd]; have B2 := B1.oth o2 nBQ; have P2 := P1.oth o2 nPQ; have R2 := R1.oth o2 (fun k hk => by simp; exact (nRP k hk).2.1); have e0 : w2.cell? ⟨B, o, none⟩ = some (.pointer (some ⟨pm, 0, none⟩)) := (B2.cell _).trans h0)
    | (go_at_call 17; refine (oResult P2 nxt).mono ?_; rintro e w3 ⟨rfl, hb3⟩; have g3 := g2.below hb3; have P3 := P2.below hb3; have Q3 := Q2.below hb3; have B3 := B2.below hb3; have R3 := R2.oth (F := []) (Oth.below hb3) (by simp); have o3 : Oth [pm, rm] w w3 := ((o1.mono (by simp)).trans (o2.mono (by simp))).trans (Oth.below hb3); have q4 : w3.cell? ⟨rm, 4, none⟩ = some (.int .i64 x'.at_) := Q3.cell 4; have q5 : w3.cell? ⟨rm, 5, none⟩ = some (.int .u64 x'.saw) := Q3.cell 5; have k0 : w3.cell? ⟨B, o, none⟩ = some (.pointer (some ⟨pm, 0, none⟩)) := (B3.cell _).trans h0; have k2 : w3.cell? ⟨B, o + 2, none⟩ = some (.pointer (some ⟨rm, 0, none⟩)) := (B3.cell _).trans h2; have kf0 := B3.free o; clear hb3; rw [ha] at q4 ⊢; rw [hvs] at q5 ⊢))
  go_returns
  exact ⟨rfl, g3.set B3 _ _, B3.set o _, R3.oth (Oth.set _ _ _ _ (F := [B]) (by simp)) (fun k hk => by simp; exact (nRP k hk).2.2), (o3.mono (by simp)).trans (Oth.set _ _ _ _ (by simp))⟩
set_option maxHeartbeats 4000000 in
theorem sPopA {x : PopS} {q : Int} {vh : Value} {hs : List Int} (h : Two w0 w b y s s N) (hN : N + 2 ≤ 1000000) (hB : Blk w0 w B 35 cs) (h0 : cs[o]? = some (ptr pm)) (h2 : cs[o + 2]? = some (ptr rm)) (h4 : cs[o + 4]? = some vh)
    (hP : Blk w0 w pm 79 x.cells) (ok : x.Ok) (hQ : Blk w0 w rm 70 (x.rcells q)) (hq : pL q = x.link) (hu : U64 q) (hr : RowI w0 w vh hs) (hlen : hs.length ≤ 1000) (hd : ((x.next s).pc == 0) = true) (ha : (x.next s).at_ ≠ 0) :
    Calls Tryd.prog 12 #[.pointer (some ⟨B, o, none⟩), .pointer (some ⟨b, 0, none⟩), .pointer (some ⟨y, 0, none⟩)] w fun e w' => e = .returned (.bool true) ∧ Two w0 w' b y (x.mem s) (x.mem s) (N + 1 + 1) ∧ ∃ vh', Blk w0 w' B 35 ((cs.setIfInBounds (o + 4) vh').setIfInBounds o (.pointer none)) ∧ RowI w0 w' vh' (hs ++ [(x.next s).at_]) ∧ Oth (B :: pm :: rm :: vh.ownBlock.toList) w w' ∧
      ∀ k, vh'.ownBlock = some k → vh.ownBlock = some k ∨ w.heap.size ≤ k := by
  have c0 : w.cell? ⟨B, o, none⟩ = some (.pointer (some ⟨pm, 0, none⟩)) := (hB.cell o).trans h0
  have c2 : w.cell? ⟨B, o + 2, none⟩ = some (.pointer (some ⟨rm, 0, none⟩)) := (hB.cell (o + 2)).trans h2
  have nBP : B ∉ [pm] := by simp; exact hB.ne hP (by decide)
  have nBQ : B ∉ [rm] := by simp; exact hB.ne hQ (by decide)
  have nQP : rm ∉ [pm] := by simp; exact hQ.ne hP (by decide)
  have nPQ : pm ∉ [rm] := by simp; exact hP.ne hQ (by decide)
  have nxt : (x.next s).Ok := ok.next h.rng1
  have R' : RowI w0 w vh hs := hr
  have nRP : ∀ k, vh.ownBlock = some k → k ≠ pm ∧ k ≠ rm ∧ k ≠ B := fun k hk => by
    obtain ⟨cr, hc⟩ := hr.blk hk
    have e : ∀ {p : Nat} {T : TypeId} {c : Array Value}, Blk w0 w p T c → T ≠ 3 → k ≠ p := fun hb hT hkp => by
      have := hb.at_
      rw [← hkp, hc] at this
      simp at this
      exact hT this.2.symm
    exact ⟨e hP (by decide), e hQ (by decide), e hB (by decide)⟩
  obtain ⟨x', hx⟩ : ∃ x', x.next s = x' := ⟨_, rfl⟩
  obtain ⟨s', hs'⟩ : ∃ s', x.mem s = s' := ⟨_, rfl⟩
  rw [hx] at nxt hd ha ⊢
  rw [hs']
  obtain ⟨i0, hi, hz0, hz1, hz2⟩ := info_parts infoInt
  obtain ⟨vs, hvs⟩ : ∃ v, x'.saw = v := ⟨_, rfl⟩
  obtain ⟨va, hva⟩ : ∃ v, x'.at_ = v := ⟨_, rfl⟩
  rw [hva] at ha ⊢
  have ha' : (va != 0) = true := by simpa using ha
  obtain ⟨ao, cp, hvh, _⟩ := hr.slice
  go_enter Tryd.func12, Tryd.ntmps12
  go_wp2_with (first
    | (go_at_call 16; refine (tPop h hP ok (by omega)).mono ?_; rintro e w1 ⟨rfl, g1, P1, o1⟩; rw [hx] at P1 ⊢; rw [hs'] at g1; rw [hd]; have B1 := hB.oth o1 nBP; have Q1 := hQ.oth o1 nQP; have R1 := hr.oth o1 (fun k hk => by simp; exact (nRP k hk).1); have d2 : w1.cell? ⟨B, o + 2, none⟩ = some (.pointer (some ⟨rm, 0, none⟩)) := (B1.cell _).trans h2)
    | (go_at_call 30; refine (yPop g1 Q1 hq hu ok (by omega)).mono ?_; rintro e w2 ⟨rfl, g2, ⟨q', Q2, hq', hu'⟩, o2⟩; rw [hx] at Q2 hq' ⊢; rw [hs'] at g2; rw [hd]; have B2 := B1.oth o2 nBQ; have P2 := P1.oth o2 nPQ; have R2 := R1.oth o2 (fun k hk => by simp; exact (nRP k hk).2.1); have e0 : w2.cell? ⟨B, o, none⟩ = some (.pointer (some ⟨pm, 0, none⟩)) := (B2.cell _).trans h0)
    | (go_at_call 17; refine (oResult P2 nxt).mono ?_; rintro e w3 ⟨rfl, hb3⟩; have g3 := g2.below hb3; have P3 := P2.below hb3; have Q3 := Q2.below hb3; have B3 := B2.below hb3; have R3 := R2.oth (F := []) (Oth.below hb3) (by simp); have o3 : Oth [pm, rm] w w3 := ((o1.mono (by simp)).trans (o2.mono (by simp))).trans (Oth.below hb3); have q4 : w3.cell? ⟨rm, 4, none⟩ = some (.int .i64 x'.at_) := Q3.cell 4; have q5 : w3.cell? ⟨rm, 5, none⟩ = some (.int .u64 x'.saw) := Q3.cell 5; have k0 : w3.cell? ⟨B, o, none⟩ = some (.pointer (some ⟨pm, 0, none⟩)) := (B3.cell _).trans h0; have k2 : w3.cell? ⟨B, o + 2, none⟩ = some (.pointer (some ⟨rm, 0, none⟩)) := (B3.cell _).trans h2; have kf0 := B3.free o; clear hb3; rw [hva] at q4 ⊢; rw [hvs] at q5 ⊢; have k4 : w3.cell? ⟨B, o + 4, none⟩ = some (.slice ao hs.length cp) := ((B3.cell _).trans h4).trans (by rw [hvh]))
    | (at_builtin; refine wpList_append_mine _ rfl _ _ 22 rfl 3 i0 _ 1 8 Tryd.underlying22 hi hz0 hz1 hz2 rfl (by decide) (.slice ao hs.length cp) hs.length (nums hs) rfl (by rw [← hvh]; exact R3.row.alloc _) ⟨w3.heap.size, 0, none⟩ 1 1 [.int .i64 va] rfl rfl (new1 _ _ rfl _ _) (by intro u hu; simp at hu; rw [hu]; rfl) (by unfold maxLen; omega) (by omega) (by decide) ?_; intro g1 cp1 w4 hrow hgr hn; have K4 : Kept vh.ownBlock.toList w3 w4 := ((Kept.alloc _ _ _).trans (Kept.grown vh.ownBlock.toList hgr (fun k hk => by rw [← hvh] at hk; simp [hk])) (fun k hk => .inl hk)); have hF : ∀ k ∈ vh.ownBlock.toList, w0.heap.size ≤ k ∧ ∃ cs T fz, T ∉ MTs ∧ w3.heap[k]? = some (.cells cs T fz) := (fun k hk => by have hk' : vh.ownBlock = some k := (by simpa using hk); obtain ⟨cr, hc⟩ := R3.blk hk'; exact ⟨R3.old k hk', cr, _, _, by decide, hc⟩); have g4 := g3.kept K4 hF; have nB4 : B ∉ vh.ownBlock.toList := (fun hk => (nRP B (by simpa using hk)).2.2 rfl); have o4 : Oth vh.ownBlock.toList w3 w4 := Oth.kept K4; have B4 := B3.oth o4 nB4; have lg1 : vh.ownBlock = some g1 ∨ w.heap.size ≤ g1 := (by rw [← hvh] at hn; exact hn.imp id (fun h' => Nat.le_trans o3.size (Nat.le_trans (by simp) h'))); have R4 : RowI w0 w4 (.slice (some ⟨g1, 0, none⟩) (hs.length + 1) cp1) (hs ++ [va]) := RowI.of_own hrow (by simp) (by rw [nums_append]; rfl) (lg1.elim (fun h' => hr.old g1 h') (fun h' => Nat.le_trans h.bel.size h')); have m4 : w4.cell? ⟨B, o + 4, none⟩ = some (.slice ao hs.length cp) := ((B4.cell _).trans h4).trans (by rw [hvh]); have m0 : w4.cell? ⟨B, o, none⟩ = some (.pointer (some ⟨pm, 0, none⟩)) := (B4.cell _).trans h0; have mf4 := B4.free (o + 4); have mf0 := B4.free o; clear hrow hgr hn))
  go_returns
  have nBg : ∀ k, (Value.slice (some ⟨g1, 0, none⟩) (hs.length + 1) cp1).ownBlock = some k → vh.ownBlock = some k ∨ w.heap.size ≤ k := fun k hk => by
    simp [Value.ownBlock] at hk; subst hk; exact lg1
  have nR : ∀ k, (Value.slice (some ⟨g1, 0, none⟩) (hs.length + 1) cp1).ownBlock = some k → k ∉ [B] := fun k hk => by
    simp
    rcases nBg k hk with h' | h'
    · exact (nRP k h').2.2
    · have := hB.lt; omega
  refine ⟨rfl, (g4.set B4 _ _).set (B4.set _ _) _ _, _, (B4.set (o + 4) _).set o _, (R4.oth (Oth.set _ _ _ _ (by simp)) nR).oth (Oth.set _ _ _ _ (by simp)) nR, ?_, nBg⟩
  exact (((o3.mono (by simp)).trans (o4.mono (by simp; intro a ha; exact .inr (.inr (.inr ha))))).trans (Oth.set _ _ _ _ (by simp))).trans (Oth.set _ _ _ _ (by simp))
set_option maxHeartbeats 2000000 in
theorem sPushN {x : PushS} {vh : Value} {hs : List Int} (h : Two w0 w b y s s N) (hN : N + 2 ≤ 1000000) (hB : Blk w0 w B 35 cs) (h0 : cs[o]? = some (.pointer none)) (h1 : cs[o + 1]? = some (ptr pm)) (h3 : cs[o + 3]? = some (ptr rm)) (h4 : cs[o + 4]? = some vh)
    (hP : Blk w0 w pm 82 x.cells) (ok : x.Ok) (hQ : Blk w0 w rm 92 x.rcells) (hr : RowI w0 w vh hs) (hd : ((x.next s).pc == 0) = false) :
    Calls Tryd.prog 12 #[.pointer (some ⟨B, o, none⟩), .pointer (some ⟨b, 0, none⟩), .pointer (some ⟨y, 0, none⟩)] w fun e w' => e = .returned (.bool true) ∧ Two w0 w' b y (x.mem s) (x.mem s) (N + 1 + 1) ∧ Blk w0 w' B 35 cs ∧ Blk w0 w' pm 82 (x.next s).cells ∧ Blk w0 w' rm 92 (x.next s).rcells ∧ RowI w0 w' vh hs ∧ Oth [pm, rm] w w' := by
  have c0 : w.cell? ⟨B, o, none⟩ = some (.pointer none) := (hB.cell o).trans h0
  have c1 : w.cell? ⟨B, o + 1, none⟩ = some (.pointer (some ⟨pm, 0, none⟩)) := (hB.cell (o + 1)).trans h1
  have c2 : w.cell? ⟨B, o + 3, none⟩ = some (.pointer (some ⟨rm, 0, none⟩)) := (hB.cell (o + 3)).trans h3
  have nBP : B ∉ [pm] := by simp; exact hB.ne hP (by decide)
  have nBQ : B ∉ [rm] := by simp; exact hB.ne hQ (by decide)
  have nQP : rm ∉ [pm] := by simp; exact hQ.ne hP (by decide)
  have nPQ : pm ∉ [rm] := by simp; exact hP.ne hQ (by decide)
  have nxt : (x.next s).Ok := ok.next h.rng1
  have R' : RowI w0 w vh hs := hr
  have nRP : ∀ k, vh.ownBlock = some k → k ≠ pm ∧ k ≠ rm ∧ k ≠ B := fun k hk => by
    obtain ⟨cr, hc⟩ := hr.blk hk
    have e : ∀ {p : Nat} {T : TypeId} {c : Array Value}, Blk w0 w p T c → T ≠ 3 → k ≠ p := fun hb hT hkp => by
      have := hb.at_
      rw [← hkp, hc] at this
      simp at this
      exact hT this.2.symm
    exact ⟨e hP (by decide), e hQ (by decide), e hB (by decide)⟩
  obtain ⟨x', hx⟩ : ∃ x', x.next s = x' := ⟨_, rfl⟩
  obtain ⟨s', hs'⟩ : ∃ s', x.mem s = s' := ⟨_, rfl⟩
  rw [hx] at nxt hd ⊢
  rw [hs']
  go_enter Tryd.func12, Tryd.ntmps12
  go_wp2_with (first
    | (go_at_call 18; refine (tPush h hP ok (by omega)).mono ?_; rintro e w1 ⟨rfl, g1, P1, o1⟩; rw [hx] at P1 ⊢; rw [hs'] at g1; rw [hd]; have B1 := hB.oth o1 nBP; have Q1 := hQ.oth o1 nQP; have R1 := hr.oth o1 (fun k hk => by simp; exact (nRP k hk).1); have d3 : w1.cell? ⟨B, o + 3, none⟩ = some (.pointer (some ⟨rm, 0, none⟩)) := (B1.cell _).trans h3)
    | (go_at_call 28; refine (yPush g1 Q1 ok (by omega)).mono ?_; rintro e w2 ⟨rfl, g2, Q2, o2⟩; rw [hx] at Q2 ⊢; rw [hs'] at g2; rw [hd]; have B2 := B1.oth o2 nBQ; have P2 := P1.oth o2 nPQ; have R2 := R1.oth o2 (fun k hk => by simp; exact (nRP k hk).2.1); have o3 : Oth [pm, rm] w w2 := (o1.mono (by simp)).trans (o2.mono (by simp)); have e1 : w2.cell? ⟨B, o + 1, none⟩ = some (.pointer (some ⟨pm, 0, none⟩)) := (B2.cell _).trans h1; have ef1 := B2.free (o + 1)))
  go_returns
  exact ⟨rfl, g2, B2, P2, Q2, R2, o3⟩
set_option maxHeartbeats 2000000 in
theorem sPushD {x : PushS} {vh : Value} {hs : List Int} (h : Two w0 w b y s s N) (hN : N + 2 ≤ 1000000) (hB : Blk w0 w B 35 cs) (h0 : cs[o]? = some (.pointer none)) (h1 : cs[o + 1]? = some (ptr pm)) (h3 : cs[o + 3]? = some (ptr rm)) (h4 : cs[o + 4]? = some vh)
    (hP : Blk w0 w pm 82 x.cells) (ok : x.Ok) (hQ : Blk w0 w rm 92 x.rcells) (hr : RowI w0 w vh hs) (hd : ((x.next s).pc == 0) = true) :
    Calls Tryd.prog 12 #[.pointer (some ⟨B, o, none⟩), .pointer (some ⟨b, 0, none⟩), .pointer (some ⟨y, 0, none⟩)] w fun e w' => e = .returned (.bool true) ∧ Two w0 w' b y (x.mem s) (x.mem s) (N + 1 + 1) ∧ Blk w0 w' B 35 (cs.setIfInBounds (o + 1) (.pointer none)) ∧ RowI w0 w' vh hs ∧ Oth [B, pm, rm] w w' := by
  have c0 : w.cell? ⟨B, o, none⟩ = some (.pointer none) := (hB.cell o).trans h0
  have c1 : w.cell? ⟨B, o + 1, none⟩ = some (.pointer (some ⟨pm, 0, none⟩)) := (hB.cell (o + 1)).trans h1
  have c2 : w.cell? ⟨B, o + 3, none⟩ = some (.pointer (some ⟨rm, 0, none⟩)) := (hB.cell (o + 3)).trans h3
  have nBP : B ∉ [pm] := by simp; exact hB.ne hP (by decide)
  have nBQ : B ∉ [rm] := by simp; exact hB.ne hQ (by decide)
  have nQP : rm ∉ [pm] := by simp; exact hQ.ne hP (by decide)
  have nPQ : pm ∉ [rm] := by simp; exact hP.ne hQ (by decide)
  have nxt : (x.next s).Ok := ok.next h.rng1
  have R' : RowI w0 w vh hs := hr
  have nRP : ∀ k, vh.ownBlock = some k → k ≠ pm ∧ k ≠ rm ∧ k ≠ B := fun k hk => by
    obtain ⟨cr, hc⟩ := hr.blk hk
    have e : ∀ {p : Nat} {T : TypeId} {c : Array Value}, Blk w0 w p T c → T ≠ 3 → k ≠ p := fun hb hT hkp => by
      have := hb.at_
      rw [← hkp, hc] at this
      simp at this
      exact hT this.2.symm
    exact ⟨e hP (by decide), e hQ (by decide), e hB (by decide)⟩
  obtain ⟨x', hx⟩ : ∃ x', x.next s = x' := ⟨_, rfl⟩
  obtain ⟨s', hs'⟩ : ∃ s', x.mem s = s' := ⟨_, rfl⟩
  rw [hx] at nxt hd
  rw [hs']
  go_enter Tryd.func12, Tryd.ntmps12
  go_wp2_with (first
    | (go_at_call 18; refine (tPush h hP ok (by omega)).mono ?_; rintro e w1 ⟨rfl, g1, P1, o1⟩; rw [hx] at P1 ⊢; rw [hs'] at g1; rw [hd]; have B1 := hB.oth o1 nBP; have Q1 := hQ.oth o1 nQP; have R1 := hr.oth o1 (fun k hk => by simp; exact (nRP k hk).1); have d3 : w1.cell? ⟨B, o + 3, none⟩ = some (.pointer (some ⟨rm, 0, none⟩)) := (B1.cell _).trans h3)
    | (go_at_call 28; refine (yPush g1 Q1 ok (by omega)).mono ?_; rintro e w2 ⟨rfl, g2, Q2, o2⟩; rw [hx] at Q2 ⊢; rw [hs'] at g2; rw [hd]; have B2 := B1.oth o2 nBQ; have P2 := P1.oth o2 nPQ; have R2 := R1.oth o2 (fun k hk => by simp; exact (nRP k hk).2.1); have o3 : Oth [pm, rm] w w2 := (o1.mono (by simp)).trans (o2.mono (by simp)); have e1 : w2.cell? ⟨B, o + 1, none⟩ = some (.pointer (some ⟨pm, 0, none⟩)) := (B2.cell _).trans h1; have ef1 := B2.free (o + 1)))
  go_returns
  exact ⟨rfl, g2.set B2 _ _, B2.set (o + 1) _, R2.oth (Oth.set _ _ _ _ (F := [B]) (by simp)) (fun k hk => by simp; exact (nRP k hk).2.2), (o3.mono (by simp)).trans (Oth.set _ _ _ _ (by simp))⟩
end
end Go.Proofs.YteclgafdflmioaaDoor
