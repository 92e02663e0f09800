/-
  A worker's step.
-/
import Derived.Test.YtilknjihceemhaaGreatDoorRb
import Derived.Test.YtilknjihceemhaaGreatDoorHand
namespace Go.Proofs.YtilknjihceemhaaGreatDoor
set_option linter.unusedVariables false
set_option maxRecDepth 100000
open Go.ChangeShapes Go.WideShapes Go.RowKit
open S.Plain (t0 t1 tw nx bw b3)
open H.Plain (hw pL)
set_option linter.unusedSimpArgs false

section
variable {P : Program}
theorem step_append_mine {ops : Array Oper} {o : Oper} {a : Act} {w : World} {K : Act → World → Prop} {Q : Exit → Act → World → Prop} {E : Prop} (d : Nat) (hd : o.dst = some d) (hgd : o.guard = none) (s x : Operand) (t : TypeId)
    (ho : o.op = .call { callee := .builtin .append, args := #[s, x], argTypes := #[t, t] })
    (e : TypeId) (i : TypeInfo) (z : Value) (size bytes : Nat) (ht : P.underlying t = some (.slice e)) (hi : P.info? e = some i) (hz : i.zero = some z)
    (hsize : i.size = size) (hby : i.bytes = bytes) (hzs : z.cells.size = size) (hsz : 0 < size)
    (v : Value) (n : Nat) (xs : List Value) (hs : a.eval s = v) (hown : w.ownsRow 0 e size v n xs)
    (ad : Addr) (m c : Nat) (news : List Value) (hx : a.eval x = .slice (some ad) m c) (hl : news.length = m * size) (hnews : ∀ j u, news[j]? = some u → w.cell? (ad.add j) = some u) (h1 : ∀ u ∈ news, u.oneCell' = true)
    (h63 : n + m ≤ maxLen) (hbytes : (n + m) * bytes ≤ 140737488355328) (hm : 0 < m)
    (h : ∀ g cp w', w'.ownsRow 0 e size (.slice (some ⟨g, 0, none⟩) (n + m) cp) (n + m) (xs ++ news) → w.grownBy w' v.ownBlock → (v.ownBlock = some g ∨ w.heap.size ≤ g) → K { a with tmps := a.tmps.setIfInBounds d (.slice (some ⟨g, 0, none⟩) (n + m) cp) } w') :
    if Region.wanted o (yielded ops a.tmps) = true then Oper.wp P o a w K Q else E := by
  have hw : Region.wanted o (yielded ops a.tmps) = true := by simp [Region.wanted, hgd]
  rw [if_pos hw]
  obtain ⟨v', w', hr, h2, h3, h4, g, cp, rfl⟩ := run_append_mine (P := P) w t o.type e i z size bytes ht hi hz hsize hby hzs hsz v n xs hown ad m c news hl hnews h1 h63 hbytes hm
  unfold Oper.wp execOp
  simp only [ho, resolve, invoke, builtin, Sem.run_bind, Sem.run_pure, Result.andThen_ok, List.map_toArray, List.map_cons, List.map_nil, hs, hx, hr]
  have hk := h g cp w' h2 h3 (h4 g rfl)
  show K (a.put o.dst _) w'
  unfold Act.put
  rw [hd]
  exact hk
end


theorem RTk.notin {w0 w : World} {rm : Nat} {Q : Option Nat} {x : TakeS} (R : RTk w0 w rm Q x) {p : Nat} {T : TypeId} {c : Array Value} {fz : Nat × Nat} (h : w.heap[p]? = some (.cells c T fz)) (h1 : (T == 68) = false) (h2 : (T == 128) = false) : p ∉ rm :: Q.toList := by
  simp only [List.mem_cons, Option.mem_toList, not_or]
  refine ⟨fun e => ?_, fun e => ?_⟩
  · have := R.blk.at_
    rw [← e, h] at this
    simp at this
    simp [this.2.1] at h1
  · have := (R.psh p e).at_
    rw [h] at this
    simp at this
    simp [this.2.1] at h2
section
variable {w0 w : World} {b y B o n N M pm rm : Nat} {s1 s2 : St} {cs : Array Value}
theorem sIdle (hB : Blk w0 w B 40 cs) (h0 : cs[o]? = some (.pointer none)) (h1 : cs[o + 1]? = some (.pointer none)) :
    Calls Tryz.prog 9 #[.pointer (some ⟨B, o, none⟩), .agg #[.int .i64 (mkPl 4 n).t, .int .i64 (mkPl 4 n).b, .int .i64 (mkPl 4 n).tb, .int .i64 (mkPl 4 n).hp, .int .i64 (mkPl 4 n).sz], .pointer (some ⟨b, 0, none⟩), .pointer (some ⟨y, 0, none⟩)] w fun e w' => e = .returned (.bool true) ∧ Below w.heap.size w w' := by
  have lB := hB.lt
  have c0 : w.cell? ⟨B, o, none⟩ = some (.pointer none) := (hB.cell o).trans h0
  have c1 : w.cell? ⟨B, o + 1, none⟩ = some (.pointer none) := (hB.cell (o + 1)).trans h1
  go_enter Tryz.func9, Tryz.ntmps9
  go_wp2
  go_returns
  exact ⟨rfl, bal1 _⟩
set_option maxHeartbeats 2000000 in
theorem sTakeN {x : TakeS} {Q : Option Nat} {vh : Value} {hs : List Int} (h : Two w0 w b y s1 s2 N) (hws : s1.ws = s2.ws) (hN : N + 2 ≤ 1000000) (hB : Blk w0 w B 40 cs) (h0 : cs[o]? = some (ptr pm)) (h2 : cs[o + 2]? = some (ptr rm)) (h4 : cs[o + 4]? = some vh)
    (hP : Blk w0 w pm 79 x.cells) (ok : x.Ok) (p1 : 1 ≤ x.pc) (R : RTk w0 w rm Q x) (hr : RowI w0 w vh hs) (hd : ((x.next s1).pc == 0) = false) :
    Calls Tryz.prog 9 #[.pointer (some ⟨B, o, none⟩), .agg #[.int .i64 (mkPl 4 n).t, .int .i64 (mkPl 4 n).b, .int .i64 (mkPl 4 n).tb, .int .i64 (mkPl 4 n).hp, .int .i64 (mkPl 4 n).sz], .pointer (some ⟨b, 0, none⟩), .pointer (some ⟨y, 0, none⟩)] w fun e w' => e = .returned (.bool true) ∧ Two w0 w' b y (x.mem s1) (x.mem s2) (N + 1 + 1) ∧ Blk w0 w' B 40 cs ∧ Blk w0 w' pm 79 (x.next s1).cells ∧ (∃ Q', RTk w0 w' rm Q' (x.next s1) ∧ ∀ k, Q' = some k → Q = some k ∨ w.heap.size ≤ k) ∧ RowI w0 w' vh hs ∧ Oth (pm :: rm :: Q.toList) w w' := by
  have lB := hB.lt
  have lP := hP.lt
  have tX := h.alloc (.cells (mkPl 4 n).cells 25)
  have oX : Oth [] w (w.alloc (.cells (mkPl 4 n).cells 25)) := Oth.alloc _ _ _
  have BX := hB.below (bal1 (w := w) (.cells (mkPl 4 n).cells 25))
  have PX := hP.below (bal1 (w := w) (.cells (mkPl 4 n).cells 25))
  have RX := R.oth oX (by simp) (by simp)
  have VX := hr.oth oX (by simp)
  have X0 : PBox (w.alloc (.cells (mkPl 4 n).cells 25)) w.heap.size (mkPl 4 n) := heap_alloc_new _ _
  have c0 : w.cell? ⟨B, o, none⟩ = some (.pointer (some ⟨pm, 0, none⟩)) := (hB.cell o).trans h0
  have nBP : B ∉ [pm] := by simp; exact hB.ne hP (by decide)
  have nBQ : B ∉ rm :: Q.toList := R.notin hB.at_ (by decide) (by decide)
  have nPQ : pm ∉ rm :: Q.toList := R.notin hP.at_ (by decide) (by decide)
  have nQP : rm ∉ [pm] := by simp; exact R.blk.ne hP (by decide)
  have nQP' : ∀ k, Q = some k → k ∉ [pm] := fun k hk => by simp; exact (R.psh k hk).ne hP (by decide)
  have nXP : w.heap.size ∉ [pm] := by simp; omega
  have nXQ : w.heap.size ∉ rm :: Q.toList := RX.notin X0 (by decide) (by decide)
  have nXB : w.heap.size ∉ [B] := by simp; omega
  have nRW : ∀ k, vh.ownBlock = some k → k ≠ pm ∧ k ∉ rm :: Q.toList ∧ k ≠ B ∧ k ≠ w.heap.size := fun k hk => by
    obtain ⟨cr, hc⟩ := hr.blk hk
    have e : ∀ {p : Nat} {T : TypeId} {c : Array Value}, Blk w0 w p T c → T ≠ 3 → k ≠ p := fun hb hT hkp => by
      have := hb.at_
      rw [← hkp, hc] at this
      simp at this
      exact hT this.2.symm
    exact ⟨e hP (by decide), R.notin hc (by decide) (by decide), e hB (by decide), by have := lt_of_block hc; omega⟩
  have nxt : (x.next s1).Ok := ok.next h.rng1
  have hx2 : x.next s2 = x.next s1 := (TakeS.next_ws hws x).symm
  obtain ⟨x', hx⟩ : ∃ x', x.next s1 = x' := ⟨_, rfl⟩
  rw [hx] at hx2
  rw [hx] at nxt hd ⊢
  obtain ⟨va, hva⟩ : ∃ v, x'.cell = v := ⟨_, rfl⟩
  go_enter Tryz.func9, Tryz.ntmps9
  go_wp2_with (first
    | (go_at_call 12; refine (tTakeP tX PX ok (by omega)).mono ?_; rintro e w1 ⟨rfl, g1, P1, o1⟩; rw [hx] at P1 ⊢; rw [hd]; have B1 := BX.oth o1 nBP; have R1 := RX.oth o1 nQP nQP'; have V1 := VX.oth o1 (fun k hk => by simp; exact (nRW k hk).1); have X1 := X0.oth o1 nXP; have d2 : w1.cell? ⟨B, o + 2, none⟩ = some (.pointer (some ⟨rm, 0, none⟩)) := (B1.cell _).trans h2)
    | (go_at_call 24; refine (yTake g1 R1 ok p1 (by omega)).mono ?_; rintro e w2 ⟨rfl, g2, Q', R2, o2, hQ'⟩; rw [hx2] at R2 ⊢; rw [hd]; have B2 := B1.oth o2 nBQ; have P2 := P1.oth o2 nPQ; have V2 := V1.oth o2 (fun k hk => (nRW k hk).2.1); have X2 := X1.oth o2 nXQ; have oA : Oth (pm :: rm :: Q.toList) w w2 := ((oX.mono (by simp)).trans (o1.mono (by simp))).trans (o2.mono (by intro k hk; simp only [List.mem_cons] at hk ⊢; exact .inr hk))))
  have S0 : ∀ w', Below w2.heap.size w2 w' → w'.cell? ⟨B, o, none⟩ = some (.pointer (some ⟨pm, 0, none⟩)) ∧ w'.cell? ⟨B, o + 2, none⟩ = some (.pointer (some ⟨rm, 0, none⟩)) ∧ w'.cell? ⟨rm, 12, none⟩ = some (.int .i64 va) := fun w' hb => ⟨((B2.below hb).cell _).trans h0, ((B2.below hb).cell _).trans h2, ((R2.blk.below hb).cell 12).trans (by rw [← hva]; rfl)⟩
  have hbd : Below w2.heap.size w2 w2.drew := (Below.refl w2.heap.size w2).drew
  have RD := S0 _ hbd
  go_region_held3 (fun w' => w'.cell? ⟨B, o, none⟩ = some (.pointer (some ⟨pm, 0, none⟩)) ∧ w'.cell? ⟨B, o + 2, none⟩ = some (.pointer (some ⟨rm, 0, none⟩)) ∧ w'.cell? ⟨rm, 12, none⟩ = some (.int .i64 va)) (first | assumption | exact RD | exact S0 _ (by assumption))
    ((go_at_call 17; refine (oCell (P2.below hbd) nxt (g2.below hbd).widw).mono ?_; rintro e w3 ⟨rfl, hb3⟩; rw [hva]; have hb3' := bel_trans hbd hb3; have g3 := g2.below hb3'; have P3 := P2.below hb3'; have R3 := R2.oth (F := []) (Oth.below hb3') (by simp) (by simp); have B3 := B2.below hb3'; have V3 := V2.oth (F := []) (Oth.below hb3') (by simp); have X3 := X2.below hb3'; have o3 : Oth (pm :: rm :: Q.toList) w w3 := oA.trans (Oth.below hb3'); have k0 : w3.cell? ⟨B, o, none⟩ = some (.pointer (some ⟨pm, 0, none⟩)) := (B3.cell _).trans h0; have k2 : w3.cell? ⟨B, o + 2, none⟩ = some (.pointer (some ⟨rm, 0, none⟩)) := (B3.cell _).trans h2; have kf0 := B3.free o; have q12 : w3.cell? ⟨rm, 12, none⟩ = some (.int .i64 va) := (R3.blk.cell 12).trans (by rw [← hva]; rfl)))
  go_wp2
  go_returns
  exact ⟨rfl, g3, B3, P3, ⟨Q', R3, fun k hk => (hQ' k hk).imp id fun h' => Nat.le_trans (Nat.le_trans oX.size o1.size) h'⟩, V3, o3⟩
set_option maxHeartbeats 2000000 in
theorem sTakeE {x : TakeS} {Q : Option Nat} {vh : Value} {hs : List Int} (h : Two w0 w b y s1 s2 N) (hws : s1.ws = s2.ws) (hN : N + 2 ≤ 1000000) (hB : Blk w0 w B 40 cs) (h0 : cs[o]? = some (ptr pm)) (h2 : cs[o + 2]? = some (ptr rm)) (h4 : cs[o + 4]? = some vh)
    (hP : Blk w0 w pm 79 x.cells) (ok : x.Ok) (p1 : 1 ≤ x.pc) (R : RTk w0 w rm Q x) (hr : RowI w0 w vh hs) (hd : ((x.next s1).pc == 0) = true) (hva' : (x.next s1).cell = 0) :
    Calls Tryz.prog 9 #[.pointer (some ⟨B, o, none⟩), .agg #[.int .i64 (mkPl 4 n).t, .int .i64 (mkPl 4 n).b, .int .i64 (mkPl 4 n).tb, .int .i64 (mkPl 4 n).hp, .int .i64 (mkPl 4 n).sz], .pointer (some ⟨b, 0, none⟩), .pointer (some ⟨y, 0, none⟩)] w fun e w' => e = .returned (.bool true) ∧ Two w0 w' b y (x.mem s1) (x.mem s2) (N + 1 + 1) ∧ Blk w0 w' B 40 (cs.setIfInBounds o (.pointer none)) ∧ RowI w0 w' vh hs ∧ Oth (B :: pm :: rm :: Q.toList) w w' := by
  have lB := hB.lt
  have lP := hP.lt
  have tX := h.alloc (.cells (mkPl 4 n).cells 25)
  have oX : Oth [] w (w.alloc (.cells (mkPl 4 n).cells 25)) := Oth.alloc _ _ _
  have BX := hB.below (bal1 (w := w) (.cells (mkPl 4 n).cells 25))
  have PX := hP.below (bal1 (w := w) (.cells (mkPl 4 n).cells 25))
  have RX := R.oth oX (by simp) (by simp)
  have VX := hr.oth oX (by simp)
  have X0 : PBox (w.alloc (.cells (mkPl 4 n).cells 25)) w.heap.size (mkPl 4 n) := heap_alloc_new _ _
  have c0 : w.cell? ⟨B, o, none⟩ = some (.pointer (some ⟨pm, 0, none⟩)) := (hB.cell o).trans h0
  have nBP : B ∉ [pm] := by simp; exact hB.ne hP (by decide)
  have nBQ : B ∉ rm :: Q.toList := R.notin hB.at_ (by decide) (by decide)
  have nPQ : pm ∉ rm :: Q.toList := R.notin hP.at_ (by decide) (by decide)
  have nQP : rm ∉ [pm] := by simp; exact R.blk.ne hP (by decide)
  have nQP' : ∀ k, Q = some k → k ∉ [pm] := fun k hk => by simp; exact (R.psh k hk).ne hP (by decide)
  have nXP : w.heap.size ∉ [pm] := by simp; omega
  have nXQ : w.heap.size ∉ rm :: Q.toList := RX.notin X0 (by decide) (by decide)
  have nXB : w.heap.size ∉ [B] := by simp; omega
  have nRW : ∀ k, vh.ownBlock = some k → k ≠ pm ∧ k ∉ rm :: Q.toList ∧ k ≠ B ∧ k ≠ w.heap.size := fun k hk => by
    obtain ⟨cr, hc⟩ := hr.blk hk
    have e : ∀ {p : Nat} {T : TypeId} {c : Array Value}, Blk w0 w p T c → T ≠ 3 → k ≠ p := fun hb hT hkp => by
      have := hb.at_
      rw [← hkp, hc] at this
      simp at this
      exact hT this.2.symm
    exact ⟨e hP (by decide), R.notin hc (by decide) (by decide), e hB (by decide), by have := lt_of_block hc; omega⟩
  have nxt : (x.next s1).Ok := ok.next h.rng1
  have hx2 : x.next s2 = x.next s1 := (TakeS.next_ws hws x).symm
  obtain ⟨x', hx⟩ : ∃ x', x.next s1 = x' := ⟨_, rfl⟩
  rw [hx] at hx2
  rw [hx] at nxt hd hva'
  have hva := hva'
  go_enter Tryz.func9, Tryz.ntmps9
  go_wp2_with (first
    | (go_at_call 12; refine (tTakeP tX PX ok (by omega)).mono ?_; rintro e w1 ⟨rfl, g1, P1, o1⟩; rw [hx] at P1 ⊢; rw [hd]; have B1 := BX.oth o1 nBP; have R1 := RX.oth o1 nQP nQP'; have V1 := VX.oth o1 (fun k hk => by simp; exact (nRW k hk).1); have X1 := X0.oth o1 nXP; have d2 : w1.cell? ⟨B, o + 2, none⟩ = some (.pointer (some ⟨rm, 0, none⟩)) := (B1.cell _).trans h2)
    | (go_at_call 24; refine (yTake g1 R1 ok p1 (by omega)).mono ?_; rintro e w2 ⟨rfl, g2, Q', R2, o2, hQ'⟩; rw [hx2] at R2 ⊢; rw [hd]; have B2 := B1.oth o2 nBQ; have P2 := P1.oth o2 nPQ; have V2 := V1.oth o2 (fun k hk => (nRW k hk).2.1); have X2 := X1.oth o2 nXQ; have oA : Oth (pm :: rm :: Q.toList) w w2 := ((oX.mono (by simp)).trans (o1.mono (by simp))).trans (o2.mono (by intro k hk; simp only [List.mem_cons] at hk ⊢; exact .inr hk))))
  have S0 : ∀ w', Below w2.heap.size w2 w' → w'.cell? ⟨B, o, none⟩ = some (.pointer (some ⟨pm, 0, none⟩)) ∧ w'.cell? ⟨B, o + 2, none⟩ = some (.pointer (some ⟨rm, 0, none⟩)) ∧ w'.cell? ⟨rm, 12, none⟩ = some (.int .i64 0) := fun w' hb => ⟨((B2.below hb).cell _).trans h0, ((B2.below hb).cell _).trans h2, ((R2.blk.below hb).cell 12).trans (by rw [← hva]; rfl)⟩
  have hbd : Below w2.heap.size w2 w2.drew := (Below.refl w2.heap.size w2).drew
  have RD := S0 _ hbd
  go_region_held3 (fun w' => w'.cell? ⟨B, o, none⟩ = some (.pointer (some ⟨pm, 0, none⟩)) ∧ w'.cell? ⟨B, o + 2, none⟩ = some (.pointer (some ⟨rm, 0, none⟩)) ∧ w'.cell? ⟨rm, 12, none⟩ = some (.int .i64 0)) (first | assumption | exact RD | exact S0 _ (by assumption))
    ((go_at_call 17; refine (oCell (P2.below hbd) nxt (g2.below hbd).widw).mono ?_; rintro e w3 ⟨rfl, hb3⟩; rw [hva]; have hb3' := bel_trans hbd hb3; have g3 := g2.below hb3'; have P3 := P2.below hb3'; have R3 := R2.oth (F := []) (Oth.below hb3') (by simp) (by simp); have B3 := B2.below hb3'; have V3 := V2.oth (F := []) (Oth.below hb3') (by simp); have X3 := X2.below hb3'; have o3 : Oth (pm :: rm :: Q.toList) w w3 := oA.trans (Oth.below hb3'); have k0 : w3.cell? ⟨B, o, none⟩ = some (.pointer (some ⟨pm, 0, none⟩)) := (B3.cell _).trans h0; have k2 : w3.cell? ⟨B, o + 2, none⟩ = some (.pointer (some ⟨rm, 0, none⟩)) := (B3.cell _).trans h2; have kf0 := B3.free o; have q12 : w3.cell? ⟨rm, 12, none⟩ = some (.int .i64 0) := (R3.blk.cell 12).trans (by rw [← hva]; rfl)))
  go_wp2
  go_returns
  exact ⟨rfl, g3.set B3 _ _, B3.set o _, V3.oth (Oth.set _ _ _ _ (F := [B]) (by simp)) (fun k hk => by simp; exact (nRW k hk).2.2.1), (o3.mono (by intro k hk; simp only [List.mem_cons] at hk ⊢; exact .inr hk)).trans (Oth.set _ _ _ _ (by simp))⟩
set_option maxHeartbeats 4000000 in
theorem sTakeA {x : TakeS} {Q : Option Nat} {vh : Value} {hs : List Int} (h : Two w0 w b y s1 s2 N) (hws : s1.ws = s2.ws) (hN : N + 2 ≤ 1000000) (hB : Blk w0 w B 40 cs) (h0 : cs[o]? = some (ptr pm)) (h2 : cs[o + 2]? = some (ptr rm)) (h4 : cs[o + 4]? = some vh)
    (hP : Blk w0 w pm 79 x.cells) (ok : x.Ok) (p1 : 1 ≤ x.pc) (R : RTk w0 w rm Q x) (hr : RowI w0 w vh hs) (n64 : n ≤ 64) (hlen : hs.length ≤ 1000) (hd : ((x.next s1).pc == 0) = true) (ha : (x.next s1).cell ≠ 0) :
    Calls Tryz.prog 9 #[.pointer (some ⟨B, o, none⟩), .agg #[.int .i64 (mkPl 4 n).t, .int .i64 (mkPl 4 n).b, .int .i64 (mkPl 4 n).tb, .int .i64 (mkPl 4 n).hp, .int .i64 (mkPl 4 n).sz], .pointer (some ⟨b, 0, none⟩), .pointer (some ⟨y, 0, none⟩)] w fun e w' => e = .returned (.bool true) ∧ Two w0 w' b y (x.mem s1) (x.mem s2) (N + 1 + 1) ∧ ∃ vh', Blk w0 w' B 40 ((cs.setIfInBounds (o + 4) vh').setIfInBounds o (.pointer none)) ∧ RowI w0 w' vh' (hs ++ [P.Plain.bk (hpN 4 n) (szN 4 n) (x.next s1).cell]) ∧ Oth (B :: pm :: rm :: (Q.toList ++ vh.ownBlock.toList)) w w' ∧
      ∀ k, vh'.ownBlock = some k → vh.ownBlock = some k ∨ w.heap.size ≤ k := by
  have lB := hB.lt
  have lP := hP.lt
  have tX := h.alloc (.cells (mkPl 4 n).cells 25)
  have oX : Oth [] w (w.alloc (.cells (mkPl 4 n).cells 25)) := Oth.alloc _ _ _
  have BX := hB.below (bal1 (w := w) (.cells (mkPl 4 n).cells 25))
  have PX := hP.below (bal1 (w := w) (.cells (mkPl 4 n).cells 25))
  have RX := R.oth oX (by simp) (by simp)
  have VX := hr.oth oX (by simp)
  have X0 : PBox (w.alloc (.cells (mkPl 4 n).cells 25)) w.heap.size (mkPl 4 n) := heap_alloc_new _ _
  have c0 : w.cell? ⟨B, o, none⟩ = some (.pointer (some ⟨pm, 0, none⟩)) := (hB.cell o).trans h0
  have nBP : B ∉ [pm] := by simp; exact hB.ne hP (by decide)
  have nBQ : B ∉ rm :: Q.toList := R.notin hB.at_ (by decide) (by decide)
  have nPQ : pm ∉ rm :: Q.toList := R.notin hP.at_ (by decide) (by decide)
  have nQP : rm ∉ [pm] := by simp; exact R.blk.ne hP (by decide)
  have nQP' : ∀ k, Q = some k → k ∉ [pm] := fun k hk => by simp; exact (R.psh k hk).ne hP (by decide)
  have nXP : w.heap.size ∉ [pm] := by simp; omega
  have nXQ : w.heap.size ∉ rm :: Q.toList := RX.notin X0 (by decide) (by decide)
  have nXB : w.heap.size ∉ [B] := by simp; omega
  have nRW : ∀ k, vh.ownBlock = some k → k ≠ pm ∧ k ∉ rm :: Q.toList ∧ k ≠ B ∧ k ≠ w.heap.size := fun k hk => by
    obtain ⟨cr, hc⟩ := hr.blk hk
    have e : ∀ {p : Nat} {T : TypeId} {c : Array Value}, Blk w0 w p T c → T ≠ 3 → k ≠ p := fun hb hT hkp => by
      have := hb.at_
      rw [← hkp, hc] at this
      simp at this
      exact hT this.2.symm
    exact ⟨e hP (by decide), R.notin hc (by decide) (by decide), e hB (by decide), by have := lt_of_block hc; omega⟩
  have nxt : (x.next s1).Ok := ok.next h.rng1
  have hx2 : x.next s2 = x.next s1 := (TakeS.next_ws hws x).symm
  obtain ⟨x', hx⟩ : ∃ x', x.next s1 = x' := ⟨_, rfl⟩
  rw [hx] at hx2
  rw [hx] at nxt hd ha ⊢
  obtain ⟨i0, hi, hz0, hz1, hz2⟩ := info_parts infoInt
  obtain ⟨va, hva⟩ : ∃ v, x'.cell = v := ⟨_, rfl⟩
  rw [hva] at ha ⊢
  have ha' : (va != 0) = true := by simpa using ha
  obtain ⟨bkv, hbk⟩ : ∃ v, P.Plain.bk (hpN 4 n) (szN 4 n) va = v := ⟨_, rfl⟩
  rw [hbk]
  obtain ⟨ao, cp, hvh, _⟩ := hr.slice
  go_enter Tryz.func9, Tryz.ntmps9
  go_wp2_with (first
    | (go_at_call 12; refine (tTakeP tX PX ok (by omega)).mono ?_; rintro e w1 ⟨rfl, g1, P1, o1⟩; rw [hx] at P1 ⊢; rw [hd]; have B1 := BX.oth o1 nBP; have R1 := RX.oth o1 nQP nQP'; have V1 := VX.oth o1 (fun k hk => by simp; exact (nRW k hk).1); have X1 := X0.oth o1 nXP; have d2 : w1.cell? ⟨B, o + 2, none⟩ = some (.pointer (some ⟨rm, 0, none⟩)) := (B1.cell _).trans h2)
    | (go_at_call 24; refine (yTake g1 R1 ok p1 (by omega)).mono ?_; rintro e w2 ⟨rfl, g2, Q', R2, o2, hQ'⟩; rw [hx2] at R2 ⊢; rw [hd]; have B2 := B1.oth o2 nBQ; have P2 := P1.oth o2 nPQ; have V2 := V1.oth o2 (fun k hk => (nRW k hk).2.1); have X2 := X1.oth o2 nXQ; have oA : Oth (pm :: rm :: Q.toList) w w2 := ((oX.mono (by simp)).trans (o1.mono (by simp))).trans (o2.mono (by intro k hk; simp only [List.mem_cons] at hk ⊢; exact .inr hk))))
  have S0 : ∀ w', Below w2.heap.size w2 w' → w'.cell? ⟨B, o, none⟩ = some (.pointer (some ⟨pm, 0, none⟩)) ∧ w'.cell? ⟨B, o + 2, none⟩ = some (.pointer (some ⟨rm, 0, none⟩)) ∧ w'.cell? ⟨rm, 12, none⟩ = some (.int .i64 va) := fun w' hb => ⟨((B2.below hb).cell _).trans h0, ((B2.below hb).cell _).trans h2, ((R2.blk.below hb).cell 12).trans (by rw [← hva]; rfl)⟩
  have hbd : Below w2.heap.size w2 w2.drew := (Below.refl w2.heap.size w2).drew
  have RD := S0 _ hbd
  go_region_held3 (fun w' => w'.cell? ⟨B, o, none⟩ = some (.pointer (some ⟨pm, 0, none⟩)) ∧ w'.cell? ⟨B, o + 2, none⟩ = some (.pointer (some ⟨rm, 0, none⟩)) ∧ w'.cell? ⟨rm, 12, none⟩ = some (.int .i64 va)) (first | assumption | exact RD | exact S0 _ (by assumption))
    ((go_at_call 17; refine (oCell (P2.below hbd) nxt (g2.below hbd).widw).mono ?_; rintro e w3 ⟨rfl, hb3⟩; rw [hva]; have hb3' := bel_trans hbd hb3; have g3 := g2.below hb3'; have P3 := P2.below hb3'; have R3 := R2.oth (F := []) (Oth.below hb3') (by simp) (by simp); have B3 := B2.below hb3'; have V3 := V2.oth (F := []) (Oth.below hb3') (by simp); have X3 := X2.below hb3'; have o3 : Oth (pm :: rm :: Q.toList) w w3 := oA.trans (Oth.below hb3'); have k0 : w3.cell? ⟨B, o, none⟩ = some (.pointer (some ⟨pm, 0, none⟩)) := (B3.cell _).trans h0; have k2 : w3.cell? ⟨B, o + 2, none⟩ = some (.pointer (some ⟨rm, 0, none⟩)) := (B3.cell _).trans h2; have kf0 := B3.free o; have q12 : w3.cell? ⟨rm, 12, none⟩ = some (.int .i64 va) := (R3.blk.cell 12).trans (by rw [← hva]; rfl)))
  obtain ⟨X, hX⟩ : ∃ X, w.heap.size = X := ⟨_, rfl⟩
  have hXle : X ≤ w3.heap.size := hX ▸ o3.size
  rw [hX] at X3 nXB ⊢
  have nRX : ∀ k, vh.ownBlock = some k → k ≠ B ∧ k ≠ X ∧ k ≠ rm := fun k hk => ⟨(nRW k hk).2.2.1, hX ▸ (nRW k hk).2.2.2, fun e => (nRW k hk).2.1 (by simp [e])⟩
  go_wp2
  have cell12 : ∀ {w' : World}, Blk w0 w' rm 68 (x'.rcells (qv Q')) → w'.cell? ⟨rm, 12, none⟩ = some (.int .i64 va) := fun hb => (hb.cell 12).trans (by rw [← hva]; rfl)
  have keep5 : ∀ w', Below w3.heap.size w3 w' → w'.cell? ⟨X, 0, none⟩ = some (.int .i64 (mkPl 4 n).t) ∧ w'.cell? ⟨X, 1, none⟩ = some (.int .i64 (mkPl 4 n).b) ∧ w'.cell? ⟨X, 2, none⟩ = some (.int .i64 (mkPl 4 n).tb) ∧ w'.cell? ⟨X, 3, none⟩ = some (.int .i64 (mkPl 4 n).hp) ∧ w'.cell? ⟨X, 4, none⟩ = some (.int .i64 (mkPl 4 n).sz) ∧ w'.cell? ⟨B, o + 2, none⟩ = some (.pointer (some ⟨rm, 0, none⟩)) ∧ w'.cell? ⟨rm, 12, none⟩ = some (.int .i64 va) := fun w' hb => by
    have B := (X3.below hb)
    exact ⟨B.c0, B.c1, B.c2, B.c3, B.c4, ((B3.below hb).cell _).trans h2, cell12 (R3.blk.below hb)⟩
  have facts : ∀ wb, Below w3.heap.size w3 wb → (wb.cell? ⟨X, 0, none⟩ = some (.int .i64 (mkPl 4 n).t) ∧ wb.cell? ⟨X, 1, none⟩ = some (.int .i64 (mkPl 4 n).b) ∧ wb.cell? ⟨X, 2, none⟩ = some (.int .i64 (mkPl 4 n).tb) ∧ wb.cell? ⟨X, 3, none⟩ = some (.int .i64 (mkPl 4 n).hp) ∧ wb.cell? ⟨X, 4, none⟩ = some (.int .i64 (mkPl 4 n).sz) ∧ wb.cell? ⟨B, o + 2, none⟩ = some (.pointer (some ⟨rm, 0, none⟩)) ∧ wb.cell? ⟨rm, 12, none⟩ = some (.int .i64 va)) ∧ (∀ ob, (wb.alloc ob).cell? ⟨X, 0, none⟩ = some (.int .i64 (mkPl 4 n).t) ∧ (wb.alloc ob).cell? ⟨X, 1, none⟩ = some (.int .i64 (mkPl 4 n).b) ∧ (wb.alloc ob).cell? ⟨X, 2, none⟩ = some (.int .i64 (mkPl 4 n).tb) ∧ (wb.alloc ob).cell? ⟨X, 3, none⟩ = some (.int .i64 (mkPl 4 n).hp) ∧ (wb.alloc ob).cell? ⟨X, 4, none⟩ = some (.int .i64 (mkPl 4 n).sz) ∧ (wb.alloc ob).cell? ⟨B, o + 2, none⟩ = some (.pointer (some ⟨rm, 0, none⟩)) ∧ (wb.alloc ob).cell? ⟨rm, 12, none⟩ = some (.int .i64 va)) ∧ RowI w0 wb vh hs ∧ wb.cell? ⟨B, o + 4, none⟩ = some (.slice ao hs.length cp) ∧ ∀ ob, (wb.alloc ob).cell? ⟨B, o + 4, none⟩ = some (.slice ao hs.length cp) := fun wb hb =>
    ⟨keep5 wb hb, fun ob => keep5 _ (S.bal hb ob), V3.oth (F := []) (Oth.below hb) (by simp), (((B3.below hb).cell _).trans h4).trans (by rw [hvh]), fun ob => (((B3.below (S.bal hb ob)).cell _).trans h4).trans (by rw [hvh])⟩
  have nB4 : B ∉ vh.ownBlock.toList := fun hk => (nRX B (by simpa using hk)).1 rfl
  have fin : ∀ wb, Below w3.heap.size w3 wb → ∀ g1 cp1 w4, w4.ownsRow 0 3 1 (.slice (some ⟨g1, 0, none⟩) (hs.length + 1) cp1) (hs.length + 1) (nums hs ++ [.int .i64 bkv]) → (wb.alloc (.cells #[.int .i64 bkv] 3)).grownBy w4 (Value.slice ao hs.length cp).ownBlock → ((Value.slice ao hs.length cp).ownBlock = some g1 ∨ (wb.alloc (.cells #[.int .i64 bkv] 3)).heap.size ≤ g1) →
      Two w0 w4 b y (x.mem s1) (x.mem s2) (N + 1 + 1) ∧ Blk w0 w4 B 40 cs ∧ RowI w0 w4 (.slice (some ⟨g1, 0, none⟩) (hs.length + 1) cp1) (hs ++ [bkv]) ∧ Oth (pm :: rm :: (Q.toList ++ vh.ownBlock.toList)) w w4 ∧ (w4.cell? ⟨X, 0, none⟩ = some (.int .i64 (mkPl 4 n).t) ∧ w4.cell? ⟨X, 1, none⟩ = some (.int .i64 (mkPl 4 n).b) ∧ w4.cell? ⟨X, 2, none⟩ = some (.int .i64 (mkPl 4 n).tb) ∧ w4.cell? ⟨X, 3, none⟩ = some (.int .i64 (mkPl 4 n).hp) ∧ w4.cell? ⟨X, 4, none⟩ = some (.int .i64 (mkPl 4 n).sz) ∧ w4.cell? ⟨B, o + 2, none⟩ = some (.pointer (some ⟨rm, 0, none⟩)) ∧ w4.cell? ⟨rm, 12, none⟩ = some (.int .i64 va)) ∧ (∀ u, (w4.setCell ⟨B, o + 4, none⟩ u).cell? ⟨X, 0, none⟩ = some (.int .i64 (mkPl 4 n).t) ∧ (w4.setCell ⟨B, o + 4, none⟩ u).cell? ⟨X, 1, none⟩ = some (.int .i64 (mkPl 4 n).b) ∧ (w4.setCell ⟨B, o + 4, none⟩ u).cell? ⟨X, 2, none⟩ = some (.int .i64 (mkPl 4 n).tb) ∧ (w4.setCell ⟨B, o + 4, none⟩ u).cell? ⟨X, 3, none⟩ = some (.int .i64 (mkPl 4 n).hp) ∧ (w4.setCell ⟨B, o + 4, none⟩ u).cell? ⟨X, 4, none⟩ = some (.int .i64 (mkPl 4 n).sz) ∧ (w4.setCell ⟨B, o + 4, none⟩ u).cell? ⟨B, o + 2, none⟩ = some (.pointer (some ⟨rm, 0, none⟩)) ∧ (w4.setCell ⟨B, o + 4, none⟩ u).cell? ⟨rm, 12, none⟩ = some (.int .i64 va)) ∧ (vh.ownBlock = some g1 ∨ w.heap.size ≤ g1) := by
    intro wb hbb g1 cp1 w4 hrow hgr hn
    have gb := g3.below hbb
    have Vb := V3.oth (F := []) (Oth.below hbb) (by simp)
    have Bb := B3.below hbb
    have Xb := X3.below hbb
    have Rb := R3.blk.below hbb
    have K4 : Kept vh.ownBlock.toList wb w4 := (Kept.alloc _ _ _).trans (Kept.grown vh.ownBlock.toList hgr (fun k hk => by rw [← hvh] at hk; simp [hk])) (fun k hk => .inl hk)
    have hF : ∀ k ∈ vh.ownBlock.toList, w0.heap.size ≤ k ∧ ∃ cs T fz, T ∉ MTs ∧ wb.heap[k]? = some (.cells cs T fz) := fun k hk => by
      have hk' : vh.ownBlock = some k := by simpa using hk
      obtain ⟨cr, hc⟩ := Vb.blk hk'
      exact ⟨Vb.old k hk', cr, _, _, by decide, hc⟩
    have o4 : Oth vh.ownBlock.toList wb w4 := Oth.kept K4
    have B4 := Bb.oth o4 nB4
    have X4 := Xb.oth o4 (fun hk => (nRX X (by simpa using hk)).2.1 rfl)
    have R4 := Rb.oth o4 (fun hk => (nRX rm (by simpa using hk)).2.2 rfl)
    have lg1 : vh.ownBlock = some g1 ∨ w.heap.size ≤ g1 := by
      rw [← hvh] at hn
      exact hn.imp id fun h' => Nat.le_trans o3.size (Nat.le_trans hbb.size (Nat.le_trans (by simp) h'))
    refine ⟨gb.kept K4 hF, B4, RowI.of_own hrow (by simp) (by rw [nums_append]; rfl) (lg1.elim (fun h' => hr.old g1 h') fun h' => Nat.le_trans h.bel.size h'), ?_, ⟨X4.c0, X4.c1, X4.c2, X4.c3, X4.c4, (B4.cell _).trans h2, cell12 R4⟩, fun u => ?_, lg1⟩
    · refine ((o3.mono ?_).trans (Oth.below hbb)).trans (o4.mono ?_)
      · intro k hk; simp only [List.mem_cons, List.mem_append] at hk ⊢; rcases hk with hk | hk | hk
        · exact .inl hk
        · exact .inr (.inl hk)
        · exact .inr (.inr (.inl hk))
      · intro k hk; simp only [List.mem_cons, List.mem_append]; exact .inr (.inr (.inr hk))
    · have oo : Oth [B] w4 (w4.setCell ⟨B, o + 4, none⟩ u) := Oth.set _ _ _ _ (by simp)
      have X5 := X4.oth oo nXB
      have R5 := R4.oth oo (by simp; exact R4.ne B4 (by decide))
      refine ⟨X5.c0, X5.c1, X5.c2, X5.c3, X5.c4, ((B4.set (o + 4) u).cell _).trans ?_, cell12 R5⟩
      rw [Array.getElem?_setIfInBounds_ne (by omega)]
      exact h2
  have hbd5 : Below w3.heap.size w3 w3.drew := (Below.refl w3.heap.size w3).drew
  have RD5 := keep5 _ hbd5
  have d4 := (facts _ hbd5).2.2.2.1
  refine wp_region_held_drew (S := fun w' => w'.cell? ⟨X, 0, none⟩ = some (.int .i64 (mkPl 4 n).t) ∧ w'.cell? ⟨X, 1, none⟩ = some (.int .i64 (mkPl 4 n).b) ∧ w'.cell? ⟨X, 2, none⟩ = some (.int .i64 (mkPl 4 n).tb) ∧ w'.cell? ⟨X, 3, none⟩ = some (.int .i64 (mkPl 4 n).hp) ∧ w'.cell? ⟨X, 4, none⟩ = some (.int .i64 (mkPl 4 n).sz) ∧ w'.cell? ⟨B, o + 2, none⟩ = some (.pointer (some ⟨rm, 0, none⟩)) ∧ w'.cell? ⟨rm, 12, none⟩ = some (.int .i64 va)) (by kernel_rfl) RD5 (fun hHeld => ?_)
  refine takeH (i := 0) 57 (.pointer (some ⟨B, o, none⟩)) rfl rfl (by kernel_rfl) (by kernel_rfl) (by kernel_rfl) (fun _ _ _ h => h) (by rfl) ?_ (by assumption) ?_
  · intro w hSw; (try dsimp only at hSw); go_simp
  simp only [List.setIfInBounds_toArray, List.set_cons_zero, List.set_cons_succ]
  refine takeH (i := 1) 58 (.pointer (some ⟨B, o, none⟩)) rfl rfl (by kernel_rfl) (by kernel_rfl) (by kernel_rfl) (fun _ _ _ h => h) (by rfl) ?_ (by assumption) ?_
  · intro w hSw; (try dsimp only at hSw); go_simp
  simp only [List.setIfInBounds_toArray, List.set_cons_zero, List.set_cons_succ]
  refine takeH (i := 2) 59 (.pointer (some ⟨B, o, none⟩)) rfl rfl (by kernel_rfl) (by kernel_rfl) (by kernel_rfl) (fun _ _ _ h => h) (by rfl) ?_ (by assumption) ?_
  · intro w hSw; (try dsimp only at hSw); go_simp
  simp only [List.setIfInBounds_toArray, List.set_cons_zero, List.set_cons_succ]
  refine takeH (i := 3) 60 (.pointer (some ⟨B, o + 4, none⟩)) rfl rfl (by kernel_rfl) (by kernel_rfl) (by kernel_rfl) (fun _ _ _ h => h) (by rfl) ?_ (by assumption) ?_
  · intro w hSw; (try dsimp only at hSw); go_simp
  simp only [List.setIfInBounds_toArray, List.set_cons_zero, List.set_cons_succ]
  refine takeH (i := 5) 62 (.agg #[.int .i64 (mkPl 4 n).t, .int .i64 (mkPl 4 n).b, .int .i64 (mkPl 4 n).tb, .int .i64 (mkPl 4 n).hp, .int .i64 (mkPl 4 n).sz]) rfl rfl (by kernel_rfl) (by kernel_rfl) (by kernel_rfl) (fun _ _ _ h => h) (by rfl) ?_ (by assumption) ?_
  · intro w hSw; (try dsimp only at hSw); go_simp
  simp only [List.setIfInBounds_toArray, List.set_cons_zero, List.set_cons_succ]
  refine takeH (i := 6) 63 (.pointer (some ⟨B, o, none⟩)) rfl rfl (by kernel_rfl) (by kernel_rfl) (by kernel_rfl) (fun _ _ _ h => h) (by rfl) ?_ (by assumption) ?_
  · intro w hSw; (try dsimp only at hSw); go_simp
  simp only [List.setIfInBounds_toArray, List.set_cons_zero, List.set_cons_succ]
  refine takeH (i := 7) 64 (.pointer (some ⟨B, o, none⟩)) rfl rfl (by kernel_rfl) (by kernel_rfl) (by kernel_rfl) (fun _ _ _ h => h) (by rfl) ?_ (by assumption) ?_
  · intro w hSw; (try dsimp only at hSw); go_simp
  simp only [List.setIfInBounds_toArray, List.set_cons_zero, List.set_cons_succ]
  refine takeH (i := 8) 65 (.pointer (some ⟨B, o + 2, none⟩)) rfl rfl (by kernel_rfl) (by kernel_rfl) (by kernel_rfl) (fun _ _ _ h => h) (by rfl) ?_ (by assumption) ?_
  · intro w hSw; (try dsimp only at hSw); go_simp
  simp only [List.setIfInBounds_toArray, List.set_cons_zero, List.set_cons_succ]
  refine takeH (i := 9) 66 (.pointer (some ⟨rm, 0, none⟩)) rfl rfl (by kernel_rfl) (by kernel_rfl) (by kernel_rfl) (fun _ _ _ h => h) (by rfl) ?_ (by assumption) ?_
  · intro w hSw; (try dsimp only at hSw); go_simp
  simp only [List.setIfInBounds_toArray, List.set_cons_zero, List.set_cons_succ]
  refine takeH (i := 10) 67 (.pointer (some ⟨rm, 0, none⟩)) rfl rfl (by kernel_rfl) (by kernel_rfl) (by kernel_rfl) (fun _ _ _ h => h) (by rfl) ?_ (by assumption) ?_
  · intro w hSw; (try dsimp only at hSw); go_simp
  simp only [List.setIfInBounds_toArray, List.set_cons_zero, List.set_cons_succ]
  refine takeH (i := 11) 68 (.pointer (some ⟨rm, 12, none⟩)) rfl rfl (by kernel_rfl) (by kernel_rfl) (by kernel_rfl) (fun _ _ _ h => h) (by rfl) ?_ (by assumption) ?_
  · intro w hSw; (try dsimp only at hSw); go_simp
  simp only [List.setIfInBounds_toArray, List.set_cons_zero, List.set_cons_succ]
  refine takeH (i := 12) 69 (.int .i64 va) rfl rfl (by kernel_rfl) (by kernel_rfl) (by kernel_rfl) (fun _ _ _ h => h) (by rfl) ?_ (by assumption) ?_
  · intro w hSw; (try dsimp only at hSw); go_simp
  simp only [List.setIfInBounds_toArray, List.set_cons_zero, List.set_cons_succ]
  refine wpAnyH_ready (rs := [4, 13]) (by kernel_rfl) (by simp) ?_
  refine AllReadyH.cons rfl (fun K hK => ?_) (AllReadyH.cons rfl (fun K hK => ?_) AllReadyH.nil)
  · go_simp
    refine hK.out _ _ RD5 (fun hHeld => ?_)
    clear hK K
    try simp only [Act.put, List.setIfInBounds_toArray, List.set_cons_zero, List.set_cons_succ]
    refine wpAnyH_ready (rs := [13]) (by kernel_rfl) (by simp) ?_
    refine AllReadyH.cons rfl (fun K hK => ?_) AllReadyH.nil
    go_simp
    refine (kRBlock 4 n (by decide) n64 va _).mono ?_; rintro e wb ⟨rfl, hbb⟩; have hbb' := bel_trans hbd5 hbb; have FB := facts wb hbb'; rw [hbk]
    refine hK.out _ _ (FB.1) (fun hHeld => ?_)
    clear hK K
    try simp only [Act.put, List.setIfInBounds_toArray, List.set_cons_zero, List.set_cons_succ]
    refine wpAnyH_ready (rs := [14]) (by kernel_rfl) (by simp) ?_
    refine AllReadyH.cons rfl (fun K hK => ?_) AllReadyH.nil
    go_simp
    refine hK.out _ _ (FB.2.1 _) (fun hHeld => ?_)
    clear hK K
    try simp only [Act.put, List.setIfInBounds_toArray, List.set_cons_zero, List.set_cons_succ]
    refine wpAnyH_ready (rs := [15]) (by kernel_rfl) (by simp) ?_
    refine AllReadyH.cons rfl (fun K hK => ?_) AllReadyH.nil
    refine step_append_mine 72 rfl rfl _ _ 22 rfl 3 i0 _ 1 8 Tryz.underlying22 hi hz0 hz1 hz2 rfl (by decide) (.slice ao hs.length cp) hs.length (nums hs) rfl (by rw [← hvh]; exact FB.2.2.1.row.alloc _) ⟨wb.heap.size, 0, none⟩ 1 1 [.int .i64 bkv] rfl rfl (new1 _ _ rfl _ _) (by intro u hu; simp at hu; rw [hu]; rfl) (by unfold maxLen; omega) (by omega) (by decide) ?_
    intro g1' cp1 w4 hrow hgr hn
    obtain ⟨E1, E2, E3, E4, E5, E6, E7⟩ := fin wb hbb' g1' cp1 w4 hrow hgr hn
    have m4 : w4.cell? ⟨B, o + 4, none⟩ = some (.slice ao hs.length cp) := ((E2.cell _).trans h4).trans (by rw [hvh])
    have m0 : w4.cell? ⟨B, o, none⟩ = some (.pointer (some ⟨pm, 0, none⟩)) := (E2.cell _).trans h0
    have mf4 := E2.free (o + 4)
    have mf0 := E2.free o
    refine hK.out _ _ E5 (fun hHeld => ?_)
    clear hK K
    try simp only [Act.put, List.setIfInBounds_toArray, List.set_cons_zero, List.set_cons_succ]
    refine takeH (i := 16) 73 (.pointer (some ⟨B, o, none⟩)) rfl rfl (by kernel_rfl) (by kernel_rfl) (by kernel_rfl) (fun _ _ _ h => h) (by rfl) ?_ (by assumption) ?_
    · intro w hSw; (try dsimp only at hSw); go_simp
    simp only [List.setIfInBounds_toArray, List.set_cons_zero, List.set_cons_succ]
    refine takeH (i := 17) 74 (.pointer (some ⟨B, o + 4, none⟩)) rfl rfl (by kernel_rfl) (by kernel_rfl) (by kernel_rfl) (fun _ _ _ h => h) (by rfl) ?_ (by assumption) ?_
    · intro w hSw; (try dsimp only at hSw); go_simp
    simp only [List.setIfInBounds_toArray, List.set_cons_zero, List.set_cons_succ]
    refine wpAnyH_ready (rs := [18]) (by kernel_rfl) (by simp) ?_
    refine AllReadyH.cons rfl (fun K hK => ?_) AllReadyH.nil
    go_simp
    refine hK.out _ _ (E6 _) (fun hHeld => ?_)
    clear hK K
    try simp only [Act.put, List.setIfInBounds_toArray, List.set_cons_zero, List.set_cons_succ]
    refine wpAnyH_done (by kernel_rfl) ?_ _
    go_wp2
    go_returns
    have nBg : ∀ k, (Value.slice (some ⟨g1', 0, none⟩) (hs.length + 1) cp1).ownBlock = some k → vh.ownBlock = some k ∨ w.heap.size ≤ k := fun k hk => by
      simp [Value.ownBlock] at hk; subst hk; exact E7
    have nR : ∀ k, (Value.slice (some ⟨g1', 0, none⟩) (hs.length + 1) cp1).ownBlock = some k → k ∉ [B] := fun k hk => by
      simp
      rcases nBg k hk with h' | h'
      · exact (nRX k h').1
      · omega
    refine ⟨rfl, (E1.set E2 _ _).set (E2.set _ _) _ _, _, (E2.set (o + 4) _).set o _, (E3.oth (Oth.set _ _ _ _ (by simp)) nR).oth (Oth.set _ _ _ _ (by simp)) nR, ?_, hX ▸ nBg⟩
    exact ((E4.mono (by intro k hk; simp only [List.mem_cons] at hk ⊢; exact .inr hk)).trans (Oth.set _ _ _ _ (by simp))).trans (Oth.set _ _ _ _ (by simp))
  · go_simp
    refine (kRBlock 4 n (by decide) n64 va _).mono ?_; rintro e wb ⟨rfl, hbb⟩; have hbb' := bel_trans hbd5 hbb; have FB := facts wb hbb'; rw [hbk]
    refine hK.out _ _ (FB.1) (fun hHeld => ?_)
    clear hK K
    try simp only [Act.put, List.setIfInBounds_toArray, List.set_cons_zero, List.set_cons_succ]
    refine wpAnyH_ready (rs := [4, 14]) (by kernel_rfl) (by simp) ?_
    refine AllReadyH.cons rfl (fun K hK => ?_) (AllReadyH.cons rfl (fun K hK => ?_) AllReadyH.nil)
    · go_simp
      refine hK.out _ _ (FB.1) (fun hHeld => ?_)
      clear hK K
      try simp only [Act.put, List.setIfInBounds_toArray, List.set_cons_zero, List.set_cons_succ]
      refine wpAnyH_ready (rs := [14]) (by kernel_rfl) (by simp) ?_
      refine AllReadyH.cons rfl (fun K hK => ?_) AllReadyH.nil
      go_simp
      refine hK.out _ _ (FB.2.1 _) (fun hHeld => ?_)
      clear hK K
      try simp only [Act.put, List.setIfInBounds_toArray, List.set_cons_zero, List.set_cons_succ]
      refine wpAnyH_ready (rs := [15]) (by kernel_rfl) (by simp) ?_
      refine AllReadyH.cons rfl (fun K hK => ?_) AllReadyH.nil
      refine step_append_mine 72 rfl rfl _ _ 22 rfl 3 i0 _ 1 8 Tryz.underlying22 hi hz0 hz1 hz2 rfl (by decide) (.slice ao hs.length cp) hs.length (nums hs) rfl (by rw [← hvh]; exact FB.2.2.1.row.alloc _) ⟨wb.heap.size, 0, none⟩ 1 1 [.int .i64 bkv] rfl rfl (new1 _ _ rfl _ _) (by intro u hu; simp at hu; rw [hu]; rfl) (by unfold maxLen; omega) (by omega) (by decide) ?_
      intro g1' cp1 w4 hrow hgr hn
      obtain ⟨E1, E2, E3, E4, E5, E6, E7⟩ := fin wb hbb' g1' cp1 w4 hrow hgr hn
      have m4 : w4.cell? ⟨B, o + 4, none⟩ = some (.slice ao hs.length cp) := ((E2.cell _).trans h4).trans (by rw [hvh])
      have m0 : w4.cell? ⟨B, o, none⟩ = some (.pointer (some ⟨pm, 0, none⟩)) := (E2.cell _).trans h0
      have mf4 := E2.free (o + 4)
      have mf0 := E2.free o
      refine hK.out _ _ E5 (fun hHeld => ?_)
      clear hK K
      try simp only [Act.put, List.setIfInBounds_toArray, List.set_cons_zero, List.set_cons_succ]
      refine takeH (i := 16) 73 (.pointer (some ⟨B, o, none⟩)) rfl rfl (by kernel_rfl) (by kernel_rfl) (by kernel_rfl) (fun _ _ _ h => h) (by rfl) ?_ (by assumption) ?_
      · intro w hSw; (try dsimp only at hSw); go_simp
      simp only [List.setIfInBounds_toArray, List.set_cons_zero, List.set_cons_succ]
      refine takeH (i := 17) 74 (.pointer (some ⟨B, o + 4, none⟩)) rfl rfl (by kernel_rfl) (by kernel_rfl) (by kernel_rfl) (fun _ _ _ h => h) (by rfl) ?_ (by assumption) ?_
      · intro w hSw; (try dsimp only at hSw); go_simp
      simp only [List.setIfInBounds_toArray, List.set_cons_zero, List.set_cons_succ]
      refine wpAnyH_ready (rs := [18]) (by kernel_rfl) (by simp) ?_
      refine AllReadyH.cons rfl (fun K hK => ?_) AllReadyH.nil
      go_simp
      refine hK.out _ _ (E6 _) (fun hHeld => ?_)
      clear hK K
      try simp only [Act.put, List.setIfInBounds_toArray, List.set_cons_zero, List.set_cons_succ]
      refine wpAnyH_done (by kernel_rfl) ?_ _
      go_wp2
      go_returns
      have nBg : ∀ k, (Value.slice (some ⟨g1', 0, none⟩) (hs.length + 1) cp1).ownBlock = some k → vh.ownBlock = some k ∨ w.heap.size ≤ k := fun k hk => by
        simp [Value.ownBlock] at hk; subst hk; exact E7
      have nR : ∀ k, (Value.slice (some ⟨g1', 0, none⟩) (hs.length + 1) cp1).ownBlock = some k → k ∉ [B] := fun k hk => by
        simp
        rcases nBg k hk with h' | h'
        · exact (nRX k h').1
        · omega
      refine ⟨rfl, (E1.set E2 _ _).set (E2.set _ _) _ _, _, (E2.set (o + 4) _).set o _, (E3.oth (Oth.set _ _ _ _ (by simp)) nR).oth (Oth.set _ _ _ _ (by simp)) nR, ?_, hX ▸ nBg⟩
      exact ((E4.mono (by intro k hk; simp only [List.mem_cons] at hk ⊢; exact .inr hk)).trans (Oth.set _ _ _ _ (by simp))).trans (Oth.set _ _ _ _ (by simp))
    · go_simp
      refine hK.out _ _ (FB.2.1 _) (fun hHeld => ?_)
      clear hK K
      try simp only [Act.put, List.setIfInBounds_toArray, List.set_cons_zero, List.set_cons_succ]
      refine wpAnyH_ready (rs := [4]) (by kernel_rfl) (by simp) ?_
      refine AllReadyH.cons rfl (fun K hK => ?_) AllReadyH.nil
      go_simp
      refine hK.out _ _ (FB.2.1 _) (fun hHeld => ?_)
      clear hK K
      try simp only [Act.put, List.setIfInBounds_toArray, List.set_cons_zero, List.set_cons_succ]
      refine wpAnyH_ready (rs := [15]) (by kernel_rfl) (by simp) ?_
      refine AllReadyH.cons rfl (fun K hK => ?_) AllReadyH.nil
      refine step_append_mine 72 rfl rfl _ _ 22 rfl 3 i0 _ 1 8 Tryz.underlying22 hi hz0 hz1 hz2 rfl (by decide) (.slice ao hs.length cp) hs.length (nums hs) rfl (by rw [← hvh]; exact FB.2.2.1.row.alloc _) ⟨wb.heap.size, 0, none⟩ 1 1 [.int .i64 bkv] rfl rfl (new1 _ _ rfl _ _) (by intro u hu; simp at hu; rw [hu]; rfl) (by unfold maxLen; omega) (by omega) (by decide) ?_
      intro g1' cp1 w4 hrow hgr hn
      obtain ⟨E1, E2, E3, E4, E5, E6, E7⟩ := fin wb hbb' g1' cp1 w4 hrow hgr hn
      have m4 : w4.cell? ⟨B, o + 4, none⟩ = some (.slice ao hs.length cp) := ((E2.cell _).trans h4).trans (by rw [hvh])
      have m0 : w4.cell? ⟨B, o, none⟩ = some (.pointer (some ⟨pm, 0, none⟩)) := (E2.cell _).trans h0
      have mf4 := E2.free (o + 4)
      have mf0 := E2.free o
      refine hK.out _ _ E5 (fun hHeld => ?_)
      clear hK K
      try simp only [Act.put, List.setIfInBounds_toArray, List.set_cons_zero, List.set_cons_succ]
      refine takeH (i := 16) 73 (.pointer (some ⟨B, o, none⟩)) rfl rfl (by kernel_rfl) (by kernel_rfl) (by kernel_rfl) (fun _ _ _ h => h) (by rfl) ?_ (by assumption) ?_
      · intro w hSw; (try dsimp only at hSw); go_simp
      simp only [List.setIfInBounds_toArray, List.set_cons_zero, List.set_cons_succ]
      refine takeH (i := 17) 74 (.pointer (some ⟨B, o + 4, none⟩)) rfl rfl (by kernel_rfl) (by kernel_rfl) (by kernel_rfl) (fun _ _ _ h => h) (by rfl) ?_ (by assumption) ?_
      · intro w hSw; (try dsimp only at hSw); go_simp
      simp only [List.setIfInBounds_toArray, List.set_cons_zero, List.set_cons_succ]
      refine wpAnyH_ready (rs := [18]) (by kernel_rfl) (by simp) ?_
      refine AllReadyH.cons rfl (fun K hK => ?_) AllReadyH.nil
      go_simp
      refine hK.out _ _ (E6 _) (fun hHeld => ?_)
      clear hK K
      try simp only [Act.put, List.setIfInBounds_toArray, List.set_cons_zero, List.set_cons_succ]
      refine wpAnyH_done (by kernel_rfl) ?_ _
      go_wp2
      go_returns
      have nBg : ∀ k, (Value.slice (some ⟨g1', 0, none⟩) (hs.length + 1) cp1).ownBlock = some k → vh.ownBlock = some k ∨ w.heap.size ≤ k := fun k hk => by
        simp [Value.ownBlock] at hk; subst hk; exact E7
      have nR : ∀ k, (Value.slice (some ⟨g1', 0, none⟩) (hs.length + 1) cp1).ownBlock = some k → k ∉ [B] := fun k hk => by
        simp
        rcases nBg k hk with h' | h'
        · exact (nRX k h').1
        · omega
      refine ⟨rfl, (E1.set E2 _ _).set (E2.set _ _) _ _, _, (E2.set (o + 4) _).set o _, (E3.oth (Oth.set _ _ _ _ (by simp)) nR).oth (Oth.set _ _ _ _ (by simp)) nR, ?_, hX ▸ nBg⟩
      exact ((E4.mono (by intro k hk; simp only [List.mem_cons] at hk ⊢; exact .inr hk)).trans (Oth.set _ _ _ _ (by simp))).trans (Oth.set _ _ _ _ (by simp))
set_option maxHeartbeats 2000000 in
theorem sGiveN {x : GiveS} {vh : Value} {hs : List Int} (h : Two w0 w b y s1 s2 N) (hws : s1.ws = s2.ws) (hN : N + 2 ≤ 1000000) (hB : Blk w0 w B 40 cs) (h0 : cs[o]? = some (.pointer none)) (h1 : cs[o + 1]? = some (ptr pm)) (h3 : cs[o + 3]? = some (ptr rm)) (h4 : cs[o + 4]? = some vh)
    (hP : Blk w0 w pm 101 x.cells) (ok : x.Ok) (p1 : 1 ≤ x.pc) (hQ : Blk w0 w rm 103 x.rcells) (hr : RowI w0 w vh hs) (hd : ((x.next s1).pc == 0) = false) :
    Calls Tryz.prog 9 #[.pointer (some ⟨B, o, none⟩), .agg #[.int .i64 (mkPl 4 n).t, .int .i64 (mkPl 4 n).b, .int .i64 (mkPl 4 n).tb, .int .i64 (mkPl 4 n).hp, .int .i64 (mkPl 4 n).sz], .pointer (some ⟨b, 0, none⟩), .pointer (some ⟨y, 0, none⟩)] w fun e w' => e = .returned (.bool true) ∧ Two w0 w' b y (x.mem s1) (x.mem s2) (N + 1 + 1) ∧ Blk w0 w' B 40 cs ∧ Blk w0 w' pm 101 (x.next s1).cells ∧ Blk w0 w' rm 103 (x.next s1).rcells ∧ RowI w0 w' vh hs ∧ Oth [pm, rm] w w' := by
  have lB := hB.lt
  have tX := h.alloc (.cells (mkPl 4 n).cells 25)
  have oX : Oth [] w (w.alloc (.cells (mkPl 4 n).cells 25)) := Oth.alloc _ _ _
  have BX := hB.below (bal1 (w := w) (.cells (mkPl 4 n).cells 25))
  have PX := hP.below (bal1 (w := w) (.cells (mkPl 4 n).cells 25))
  have QX := hQ.below (bal1 (w := w) (.cells (mkPl 4 n).cells 25))
  have VX := hr.oth oX (by simp)
  have c0 : w.cell? ⟨B, o, none⟩ = some (.pointer none) := (hB.cell o).trans h0
  have c1 : w.cell? ⟨B, o + 1, none⟩ = some (.pointer (some ⟨pm, 0, none⟩)) := (hB.cell (o + 1)).trans h1
  have nBP : B ∉ [pm] := by simp; exact hB.ne hP (by decide)
  have nBQ : B ∉ [rm] := by simp; exact hB.ne hQ (by decide)
  have nQP : rm ∉ [pm] := by simp; exact hQ.ne hP (by decide)
  have nPQ : pm ∉ [rm] := by simp; exact hP.ne hQ (by decide)
  have nRW : ∀ k, vh.ownBlock = some k → k ≠ pm ∧ k ≠ rm ∧ k ≠ B := fun k hk => by
    obtain ⟨cr, hc⟩ := hr.blk hk
    have e : ∀ {p : Nat} {T : TypeId} {c : Array Value}, Blk w0 w p T c → T ≠ 3 → k ≠ p := fun hb hT hkp => by
      have := hb.at_
      rw [← hkp, hc] at this
      simp at this
      exact hT this.2.symm
    exact ⟨e hP (by decide), e hQ (by decide), e hB (by decide)⟩
  have hx2 : x.next s2 = x.next s1 := (GiveS.next_ws hws x).symm
  obtain ⟨x', hx⟩ : ∃ x', x.next s1 = x' := ⟨_, rfl⟩
  rw [hx] at hx2
  rw [hx] at hd ⊢
  go_enter Tryz.func9, Tryz.ntmps9
  go_wp2_with (first
    | (go_at_call 26; refine (tGiveP tX PX ok (by omega)).mono ?_; rintro e w1 ⟨rfl, g1, P1, o1⟩; rw [hx] at P1 ⊢; rw [hd]; have B1 := BX.oth o1 nBP; have Q1 := QX.oth o1 nQP; have V1 := VX.oth o1 (fun k hk => by simp; exact (nRW k hk).1); have d3 : w1.cell? ⟨B, o + 3, none⟩ = some (.pointer (some ⟨rm, 0, none⟩)) := (B1.cell _).trans h3)
    | (go_at_call 27; refine (yGive g1 Q1 ok p1 (by omega)).mono ?_; rintro e w2 ⟨rfl, g2, Q2, o2⟩; rw [hx2] at Q2 ⊢; rw [hd]; have B2 := B1.oth o2 nBQ; have P2 := P1.oth o2 nPQ; have V2 := V1.oth o2 (fun k hk => by simp; exact (nRW k hk).2.1); have o3 : Oth [pm, rm] w w2 := ((oX.mono (by simp)).trans (o1.mono (by simp))).trans (o2.mono (by simp)); have e1 : w2.cell? ⟨B, o + 1, none⟩ = some (.pointer (some ⟨pm, 0, none⟩)) := (B2.cell _).trans h1; have ef1 := B2.free (o + 1)))
  go_returns
  exact ⟨rfl, g2, B2, P2, Q2, V2, o3⟩
set_option maxHeartbeats 2000000 in
theorem sGiveD {x : GiveS} {vh : Value} {hs : List Int} (h : Two w0 w b y s1 s2 N) (hws : s1.ws = s2.ws) (hN : N + 2 ≤ 1000000) (hB : Blk w0 w B 40 cs) (h0 : cs[o]? = some (.pointer none)) (h1 : cs[o + 1]? = some (ptr pm)) (h3 : cs[o + 3]? = some (ptr rm)) (h4 : cs[o + 4]? = some vh)
    (hP : Blk w0 w pm 101 x.cells) (ok : x.Ok) (p1 : 1 ≤ x.pc) (hQ : Blk w0 w rm 103 x.rcells) (hr : RowI w0 w vh hs) (hd : ((x.next s1).pc == 0) = true) :
    Calls Tryz.prog 9 #[.pointer (some ⟨B, o, none⟩), .agg #[.int .i64 (mkPl 4 n).t, .int .i64 (mkPl 4 n).b, .int .i64 (mkPl 4 n).tb, .int .i64 (mkPl 4 n).hp, .int .i64 (mkPl 4 n).sz], .pointer (some ⟨b, 0, none⟩), .pointer (some ⟨y, 0, none⟩)] w fun e w' => e = .returned (.bool true) ∧ Two w0 w' b y (x.mem s1) (x.mem s2) (N + 1 + 1) ∧ Blk w0 w' B 40 (cs.setIfInBounds (o + 1) (.pointer none)) ∧ RowI w0 w' vh hs ∧ Oth [B, pm, rm] w w' := by
  have lB := hB.lt
  have tX := h.alloc (.cells (mkPl 4 n).cells 25)
  have oX : Oth [] w (w.alloc (.cells (mkPl 4 n).cells 25)) := Oth.alloc _ _ _
  have BX := hB.below (bal1 (w := w) (.cells (mkPl 4 n).cells 25))
  have PX := hP.below (bal1 (w := w) (.cells (mkPl 4 n).cells 25))
  have QX := hQ.below (bal1 (w := w) (.cells (mkPl 4 n).cells 25))
  have VX := hr.oth oX (by simp)
  have c0 : w.cell? ⟨B, o, none⟩ = some (.pointer none) := (hB.cell o).trans h0
  have c1 : w.cell? ⟨B, o + 1, none⟩ = some (.pointer (some ⟨pm, 0, none⟩)) := (hB.cell (o + 1)).trans h1
  have nBP : B ∉ [pm] := by simp; exact hB.ne hP (by decide)
  have nBQ : B ∉ [rm] := by simp; exact hB.ne hQ (by decide)
  have nQP : rm ∉ [pm] := by simp; exact hQ.ne hP (by decide)
  have nPQ : pm ∉ [rm] := by simp; exact hP.ne hQ (by decide)
  have nRW : ∀ k, vh.ownBlock = some k → k ≠ pm ∧ k ≠ rm ∧ k ≠ B := fun k hk => by
    obtain ⟨cr, hc⟩ := hr.blk hk
    have e : ∀ {p : Nat} {T : TypeId} {c : Array Value}, Blk w0 w p T c → T ≠ 3 → k ≠ p := fun hb hT hkp => by
      have := hb.at_
      rw [← hkp, hc] at this
      simp at this
      exact hT this.2.symm
    exact ⟨e hP (by decide), e hQ (by decide), e hB (by decide)⟩
  have hx2 : x.next s2 = x.next s1 := (GiveS.next_ws hws x).symm
  obtain ⟨x', hx⟩ : ∃ x', x.next s1 = x' := ⟨_, rfl⟩
  rw [hx] at hx2
  rw [hx] at hd
  go_enter Tryz.func9, Tryz.ntmps9
  go_wp2_with (first
    | (go_at_call 26; refine (tGiveP tX PX ok (by omega)).mono ?_; rintro e w1 ⟨rfl, g1, P1, o1⟩; rw [hx] at P1 ⊢; rw [hd]; have B1 := BX.oth o1 nBP; have Q1 := QX.oth o1 nQP; have V1 := VX.oth o1 (fun k hk => by simp; exact (nRW k hk).1); have d3 : w1.cell? ⟨B, o + 3, none⟩ = some (.pointer (some ⟨rm, 0, none⟩)) := (B1.cell _).trans h3)
    | (go_at_call 27; refine (yGive g1 Q1 ok p1 (by omega)).mono ?_; rintro e w2 ⟨rfl, g2, Q2, o2⟩; rw [hx2] at Q2 ⊢; rw [hd]; have B2 := B1.oth o2 nBQ; have P2 := P1.oth o2 nPQ; have V2 := V1.oth o2 (fun k hk => by simp; exact (nRW k hk).2.1); have o3 : Oth [pm, rm] w w2 := ((oX.mono (by simp)).trans (o1.mono (by simp))).trans (o2.mono (by simp)); have e1 : w2.cell? ⟨B, o + 1, none⟩ = some (.pointer (some ⟨pm, 0, none⟩)) := (B2.cell _).trans h1; have ef1 := B2.free (o + 1)))
  go_returns
  exact ⟨rfl, g2.set B2 _ _, B2.set (o + 1) _, V2.oth (Oth.set _ _ _ _ (F := [B]) (by simp)) (fun k hk => by simp; exact (nRW k hk).2.2), (o3.mono (by simp)).trans (Oth.set _ _ _ _ (by simp))⟩
end
end Go.Proofs.YtilknjihceemhaaGreatDoor
