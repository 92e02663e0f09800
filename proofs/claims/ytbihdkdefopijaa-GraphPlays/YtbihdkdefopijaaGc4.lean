/-
  Contracts: New, Put, Alloc.
-/
import Derived.Test.YtbihdkdefopijaaGc3
namespace Go.Proofs.Ytbihdkdefopijaa
set_option linter.unusedVariables false
set_option linter.unusedSimpArgs false
open Go.ChangeShapes Go.WideShapes Go.ChangeAt Go.RowKit

section
variable {P : Program}
/-- append to a row of the call's own, as one step of a region that draws -/
theorem step_append_mine {ops : Array Oper} {o : Oper} {a : Act} {w : World} {K : Act → World → Prop} {Q : Exit → Act → World → Prop} {E : Prop} (d : Nat) (hd : o.dst = some d) (hgd : o.guard = none) (s x : Operand) (t : TypeId)
    (ho : o.op = .call { callee := .builtin .append, args := #[s, x], argTypes := #[t, t] })
    (e : TypeId) (i : TypeInfo) (z : Value) (size bytes : Nat) (ht : P.underlying t = some (.slice e)) (hi : P.info? e = some i) (hz : i.zero = some z)
    (hsize : i.size = size) (hby : i.bytes = bytes) (hzs : z.cells.size = size) (hsz : 0 < size)
    (v : Value) (n : Nat) (xs : List Value) (hs : a.eval s = v) (hown : w.ownsRow 0 e size v n xs)
    (ad : Addr) (m c : Nat) (news : List Value) (hx : a.eval x = .slice (some ad) m c) (hl : news.length = m * size) (hnews : ∀ j u, news[j]? = some u → w.cell? (ad.add j) = some u) (h1 : ∀ u ∈ news, u.oneCell' = true)
    (h63 : n + m ≤ maxLen) (hbytes : (n + m) * bytes ≤ 140737488355328) (hm : 0 < m)
    (h : ∀ g cp w', w'.ownsRow 0 e size (.slice (some ⟨g, 0, none⟩) (n + m) cp) (n + m) (xs ++ news) → w.grownBy w' v.ownBlock → (v.ownBlock = some g ∨ w.heap.size ≤ g) → K { a with tmps := a.tmps.setIfInBounds d (.slice (some ⟨g, 0, none⟩) (n + m) cp) } w') :
    if Region.wanted o (yielded ops a.tmps) = true then Oper.wp P o a w K Q else E := by
  have hw : Region.wanted o (yielded ops a.tmps) = true := by simp [Region.wanted, hgd]
  rw [if_pos hw]
  obtain ⟨v', w', hr, h2, h3, h4, g, cp, rfl⟩ := run_append_mine (P := P) w t o.type e i z size bytes ht hi hz hsize hby hzs hsz v n xs hown ad m c news hl hnews h1 h63 hbytes hm
  unfold Oper.wp execOp
  simp only [ho, resolve, invoke, builtin, Sem.run_bind, Sem.run_pure, Result.andThen_ok, List.map_toArray, List.map_cons, List.map_nil, hs, hx, hr]
  have hk := h g cp w' h2 h3 (h4 g rfl)
  show K (a.put o.dst _) w'
  unfold Act.put
  rw [hd]
  exact hk
end

theorem infoRoots : (Try.prog.info? 72).map (fun i => (i.zero, i.size, i.bytes)) = some (some (rv 0 Plain.nil), 9, 72) := by kernel_rfl
theorem infoObj : (Try.prog.info? 77).map (fun i => (i.zero, i.size, i.bytes)) = some (some (.agg #[.int .i64 0, .int .i64 0, .int .i64 0, .int .i64 0, .int .i64 0, .int .i64 0, .int .i64 0, .int .i64 0, .int .i64 0, .int .i64 0, .int .i64 0, .int .i64 0, .int .i64 0, .int .i64 0, .int .i64 0]), 15, 120) := by kernel_rfl

theorem made_same (z : Array Value) (v : Value) (m : Nat) (hz : 0 < z.size) (h : ∀ k, k < z.size → z[k]! = v) : (madeCells z m).toList = List.replicate m v := by
  apply List.ext_getElem?
  intro j
  by_cases hj : j < m
  · have := h (j % z.size) (Nat.mod_lt _ hz)
    simpa [madeCells, hj] using this
  · simp [madeCells, hj]
theorem tcells_nils (n : Nat) : tcells (List.replicate n []) = List.replicate (n * 9) (.int .i64 0) := by
  induction n with
  | zero => rfl
  | succ n ih =>
    simp only [List.replicate_succ, tcells, ih]
    rw [show (n + 1) * 9 = n * 9 + 1 + 1 + 1 + 1 + 1 + 1 + 1 + 1 + 1 by omega]
    simp only [List.replicate_succ]
    rfl
theorem tcells_new (n : Nat) : (madeCells (rv 0 Plain.nil).cells (n * 9)).toList = tcells (List.replicate n []) := by
  rw [tcells_nils]
  refine made_same _ _ _ (by decide) fun k hk => ?_
  match k, hk with
  | 0, _ => rfl
  | 1, _ => rfl
  | 2, _ => rfl
  | 3, _ => rfl
  | 4, _ => rfl
  | 5, _ => rfl
  | 6, _ => rfl
  | 7, _ => rfl
  | 8, _ => rfl
/-- a graph that has just been made -/
theorem new_at {w w1 : World} {n : Nat} (hown : w1.ownsRow 0 72 9 (.slice (some ⟨w.heap.size, 0, none⟩) n n) n (madeCells (rv 0 Plain.nil).cells (n * 9)).toList) (hg : w.grownBy w1 none) :
    GAt (w1.alloc (.cells #[.slice (some ⟨w.heap.size, 0, none⟩) n n, .slice none 0 0] 65)) ⟨w1.heap.size, w.heap.size, n, .slice none 0 0⟩ (Gr.new n) ∧
    Below w.heap.size w (w1.alloc (.cells #[.slice (some ⟨w.heap.size, 0, none⟩) n n, .slice none 0 0] 65)) ∧ ∀ k ∈ (⟨w1.heap.size, w.heap.size, n, .slice none 0 0⟩ : Loc).fp, w.heap.size ≤ k := by
  rw [tcells_new] at hown
  have hl : (List.replicate n ([] : List Int)).length = n := by simp
  refine ⟨⟨?_, ?_, World.ownsRow_nil _ _ _ _, fun _ => rfl⟩, ?_, ?_⟩
  · rw [heap_alloc_new]; simp [Gr.new]
  · simp only [Gr.new, hl]; exact hown.alloc _
  · exact ((Below.refl _ _).grown hg (Nat.le_refl _) fun k hk => by cases hk).alloc hg.size _
  · intro k hk
    simp [Loc.fp, Value.ownBlock] at hk
    have := hg.size
    rcases hk with rfl | rfl <;> omega
set_option maxRecDepth 100000 in
theorem cNew (w : World) (n : Nat) (h1 : 1 ≤ n) (h4 : n ≤ 64) :
    Calls Try.prog 10 #[.int .i64 n] w fun e w' => ∃ L : Loc, e = .returned (.tuple #[.pointer (some ⟨L.b, 0, none⟩), .int .i64 0]) ∧ GAt w' L (Gr.new n) ∧ Below w.heap.size w w' ∧ ∀ k ∈ L.fp, w.heap.size ≤ k := by
  obtain ⟨i0, hi, hz0, hz1, hz2⟩ := info_parts infoRoots
  go_enter Try.func10, Try.ntmps10
  go_wp2_with (at_make; refine wpList_make_full _ rfl _ _ 62 rfl 0 72 i0 _ 9 Try.underlying62 hi hz0 hz1 .i64 .i64 n n n rfl rfl rfl rfl ?b2 ?b3 ?b4 ?_)
  case b2 => rw [hz2]; omega
  case b3 => unfold maxLen; omega
  case b4 => omega
  intro w1 hown hg
  have R := new_at hown hg
  clear hown hg
  go_wp2
  go_ret2
  exact ⟨⟨w1.heap.size, w.heap.size, n, .slice none 0 0⟩, rfl, R⟩
theorem cNewBad (w : World) (n : Int) (h : n < 1 ∨ 64 < n) :
    Calls Try.prog 10 #[.int .i64 n] w fun e w' => e = .returned (.tuple #[.pointer none, .int .i64 1]) ∧ w' = w := by
  rcases h with h | h
  all_goals
    go_enter Try.func10, Try.ntmps10
    go_wp2
    go_ret2
    exact ⟨rfl, rfl⟩

theorem Kept.drewN (F : List Nat) (w : World) (n : Nat) : Kept F w (w.drewN n) := ⟨rfl, rfl, rfl, Nat.le_refl _, fun _ _ _ => rfl⟩
theorem GAt.drewN {w : World} {L : Loc} {g : Gr} (h : GAt w L g) (n : Nat) : GAt (w.drewN n) L g := h.on (Kept.drewN [] w n) fun _ _ => by simp
theorem obj_slice {w : World} {L : Loc} {g : Gr} (hg : GAt w L g) : ∃ ao cp, L.vo = .slice ao g.os.length cp := by
  rcases hg.obj.2 with ⟨h', h0⟩ | ⟨a, b, _, h', _⟩
  · exact ⟨_, _, by rw [h', h0]⟩
  · exact ⟨_, _, h'⟩
set_option maxHeartbeats 400000 in
theorem cPutBad0 {w : World} {L : Loc} {g : Gr} (hg : GAt w L g) (f : g.Fit) (t a : Int) (hT : g.isT t = false) :
    Calls Try.prog 17 #[.pointer (some ⟨L.b, 0, none⟩), .int .i64 t, .int .i64 a] w fun e w' => e = .returned (.int .i64 1) ∧ GAt w' L g ∧ Step w L w' L := by
  have hg1 := hg.alloc (.cells #[.int .i64 a] 3)
  go_enter Try.func17, Try.ntmps17
  go_wp2
  go_quiet ((go_at_call 34; exact Calls.quiet_of_same ((cHas (hg1.drewN _) f t).mono fun e w' h => ⟨by rw [h.1, hT], h.2⟩)))
  go_wp2
  go_ret
  have R := bdr (bal (Below.refl w.heap.size w) (.cells #[.int .i64 a] 3))
  exact ⟨rfl, hg.below (R _), Step.of_below (R _)⟩

set_option maxHeartbeats 400000 in
theorem cPutBad1 {w : World} {L : Loc} {g : Gr} (hg : GAt w L g) (f : g.Fit) (t a : Int) (hT : g.isT t = true) (ha : a < 0) :
    Calls Try.prog 17 #[.pointer (some ⟨L.b, 0, none⟩), .int .i64 t, .int .i64 a] w fun e w' => e = .returned (.int .i64 1) ∧ GAt w' L g ∧ Step w L w' L := by
  have hg1 := hg.alloc (.cells #[.int .i64 a] 3)
  have ob := f.ob
  obtain ⟨ao, cp, hv⟩ := obj_slice hg
  have c1 := hg1.cell1
  rw [hv] at c1
  have hd : decide (a < 0) = true := decide_eq_true ha
  clear ha hv
  go_enter Try.func17, Try.ntmps17
  go_wp2
  go_quiet ((go_at_call 34; exact Calls.quiet_of_same ((cHas (hg1.drewN _) f t).mono fun e w' h => ⟨by rw [h.1, hT], h.2⟩)))
  go_wp2
  go_ret
  have R := bdr (bal (Below.refl w.heap.size w) (.cells #[.int .i64 a] 3))
  exact ⟨rfl, hg.below (R _), Step.of_below (R _)⟩

set_option maxHeartbeats 400000 in
theorem cPutBad2 {w : World} {L : Loc} {g : Gr} (hg : GAt w L g) (f : g.Fit) (t a : Int) (hT : g.isT t = true) (ha0 : 0 ≤ a) (ha : (g.os.length : Int) < a) :
    Calls Try.prog 17 #[.pointer (some ⟨L.b, 0, none⟩), .int .i64 t, .int .i64 a] w fun e w' => e = .returned (.int .i64 1) ∧ GAt w' L g ∧ Step w L w' L := by
  have hg1 := hg.alloc (.cells #[.int .i64 a] 3)
  have ob := f.ob
  obtain ⟨ao, cp, hv⟩ := obj_slice hg
  have c1 := hg1.cell1
  rw [hv] at c1
  have hd : decide (a < 0) = false := decide_eq_false (by omega)
  have hd2 : decide ((g.os.length : Int) < a) = true := decide_eq_true ha
  clear ha hv
  go_enter Try.func17, Try.ntmps17
  go_wp2
  go_quiet ((go_at_call 34; exact Calls.quiet_of_same ((cHas (hg1.drewN _) f t).mono fun e w' h => ⟨by rw [h.1, hT], h.2⟩)))
  go_wp2
  go_ret
  have R := bdr (bal (Below.refl w.heap.size w) (.cells #[.int .i64 a] 3))
  exact ⟨rfl, hg.below (R _), Step.of_below (R _)⟩

set_option maxHeartbeats 400000 in
theorem cPutGood {w : World} {L : Loc} {g : Gr} (hg : GAt w L g) (f : g.Fit) (n : Nat) (h : n < g.ts.length) (a : Int) (ha0 : 0 ≤ a) (ha : a ≤ g.os.length) (r : List Int) (hr : g.ts.getD n [] = r) :
    Calls Try.prog 17 #[.pointer (some ⟨L.b, 0, none⟩), .int .i64 n, .int .i64 a] w fun e w' => e = .returned (.int .i64 (Rw.pushE r)) ∧ GAt w' L (g.chg n (Rw.push r a) (Rw.pushE r)) ∧ Step w L w' L := by
  have hT : g.isT n = true := by simp [Gr.isT, h]
  have h8 : r.length ≤ 8 := hr ▸ f.rs8 n
  have hg1 := hg.alloc (.cells #[.int .i64 a] 3)
  have ob := f.ob
  obtain ⟨ao, cp, hv⟩ := obj_slice hg
  have c1 := hg1.cell1
  rw [hv] at c1
  have hd : decide (a < 0) = false := decide_eq_false (by omega)
  have hd2 : decide ((g.os.length : Int) < a) = false := decide_eq_false (by omega)
  have hq : ∀ m, ((w.alloc (.cells #[.int .i64 a] 3)).drewN m).cell? ⟨w.heap.size, 0, none⟩ = some (.int .i64 a) := fun m => cell_of_one (heap_alloc_new w _)
  have hl : ∀ m, w.heap.size < ((w.alloc (.cells #[.int .i64 a] 3)).drewN m).heap.size := fun m => by show w.heap.size < (w.alloc _).heap.size; simp
  clear ha hv
  go_enter Try.func17, Try.ntmps17
  go_wp2
  go_quiet ((go_at_call 34; exact Calls.quiet_of_same ((cHas (hg1.drewN _) f n).mono fun e w' h => ⟨by rw [h.1, hT], h.2⟩)))
  go_wp2_with (go_at_call 35; refine (cChgPut (hg1.drewN _) f n h w.heap.size r _ _ hr (cPut1 r a h8 _ _ (hq _) (hl _))).mono ?_; rintro e w1 ⟨rfl, hR, hS⟩)
  go_ret
  exact ⟨rfl, hR, Step.after ((Kept.alloc _ _ _).trans (Kept.drewN _ _ _) fun _ hk => .inl hk) hS⟩
theorem cPutG {w : World} {L : Loc} {g : Gr} (hg : GAt w L g) (f : g.Fit) (t a : Int) :
    Calls Try.prog 17 #[.pointer (some ⟨L.b, 0, none⟩), .int .i64 t, .int .i64 a] w fun e w' => e = .returned (.int .i64 (g.putE t a)) ∧ ∃ L', GAt w' L' (g.put t a) ∧ Step w L w' L' := by
  by_cases hx : g.isT t = true ∧ 0 ≤ a ∧ a ≤ g.os.length
  · obtain ⟨h, h0, h1⟩ := hx
    obtain ⟨n, rfl, hn⟩ := isT_nat h
    refine (cPutGood hg f n hn a h0 h1 _ rfl).mono ?_
    rintro e w' ⟨rfl, hR, hS⟩
    have eE : g.putE n a = Rw.pushE (g.ts.getD n []) := by unfold Gr.putE; rw [if_pos ⟨h, h0, h1⟩]; rfl
    refine ⟨by rw [eE], L, ?_, hS⟩
    unfold Gr.put
    rw [eE]
    by_cases e0 : Rw.pushE (g.ts.getD n []) = 0
    · rw [if_pos e0]
      unfold Gr.chg at hR
      rw [if_pos e0, c_err e0] at hR
      exact hR
    · rw [if_neg e0]
      unfold Gr.chg at hR
      rw [if_neg e0] at hR
      exact hR
  · have eE : g.putE t a = 1 := by unfold Gr.putE; rw [if_neg hx]
    have eG : g.put t a = g := by unfold Gr.put; rw [eE]; rfl
    rw [eE, eG]
    rcases h : g.isT t with _ | _
    · refine (cPutBad0 hg f t a h).mono ?_
      rintro e w' ⟨rfl, hR, hS⟩
      exact ⟨rfl, L, hR, hS⟩
    · by_cases h0 : a < 0
      · refine (cPutBad1 hg f t a h h0).mono ?_
        rintro e w' ⟨rfl, hR, hS⟩
        exact ⟨rfl, L, hR, hS⟩
      · refine (cPutBad2 hg f t a h (by omega) (by by_cases h2 : (g.os.length : Int) < a; exact h2; exact absurd ⟨h, by omega, by omega⟩ hx)).mono ?_
        rintro e w' ⟨rfl, hR, hS⟩
        exact ⟨rfl, L, hR, hS⟩
end Go.Proofs.Ytbihdkdefopijaa
