/-
  A Reserve and an Alloc are made; what the functions of an Alloc come to when they are called.
-/
import Derived.Test.YtbojljkdpebheaaDoorAr
import Derived.Great.BuildSlice
import Derived.Great.Ranges
import Derived.Laws.Rows
namespace Go.Proofs.YtbojljkdpebheaaDoor
set_option linter.unusedVariables false
set_option maxRecDepth 100000
open Go.ChangeShapes Go.WideShapes Go.RowKit
open S.Plain (t0 t1 tw nx bw b0 b1 b2 b3)
open H.Plain (hw pL)
theorem cNewRes (q : Pl) {c e : Int} (c0 : 0 ≤ c) (c2 : c ≤ 2) (e0 : 0 ≤ e) (e1 : e ≤ 1) (w : World) :
    Calls Tryd.prog 29 #[.agg #[.int .i64 q.t, .int .i64 q.b, .int .i64 q.tb, .int .i64 q.hp, .int .i64 q.sz], .int .i64 c, .int .i64 e] w fun v w' => ∃ p, v = .returned (.pointer (some ⟨p, 0, none⟩)) ∧ w'.heap[p]? = some (.cells (ResS.new q c e).cells 83 (0, 0)) ∧ Below w.heap.size w w' ∧ w.heap.size ≤ p := by
  have hba : Below w.heap.size w ((w.alloc (.cells q.cells 25)).alloc (.cells (ResS.mk q c e 0 ⟨0, 0, 0, 0⟩ TakeS.zero 0 0).cells 83)) := S.bal (S.bal (Below.refl _ _) _) _
  have ka : ((w.alloc (.cells q.cells 25)).alloc (.cells (ResS.mk q c e 0 ⟨0, 0, 0, 0⟩ TakeS.zero 0 0).cells 83)).heap[w.heap.size + 1]? = some (.cells (ResS.mk q c e 0 ⟨0, 0, 0, 0⟩ TakeS.zero 0 0).cells 83 (0, 0)) := by have h := heap_alloc_new (w.alloc (.cells q.cells 25)) (.cells (ResS.mk q c e 0 ⟨0, 0, 0, 0⟩ TakeS.zero 0 0).cells 83); simpa using h
  go_enter Tryd.func29, Tryd.ntmps29
  go_wp2_with (go_at_call 45; refine (rBeginB (x := ResS.mk q c e 0 ⟨0, 0, 0, 0⟩ TakeS.zero 0 0) (bl_of ka) c0 c2 e0 e1).mono ?_; rintro v w1 ⟨rfl, B1, k1⟩; have d7 : w1.cell? ⟨w.heap.size + 1, 0 + 7, none⟩ = some (.int .i64 0) := B1.cell 7; rw [Nat.zero_add] at d7; have df7 := B1.free 7; rw [Nat.zero_add] at df7; have B2 := B1.set 7 (.int .i64 1); have hb1 : Below w.heap.size w w1 := hba.trans (k1.below (fun j hj => by simp at hj; omega) (by simp; omega)))
  go_ret
  exact ⟨_, rfl, bl_out B2, hb1.setCell (by simp) _, by omega⟩
theorem und_struct {P : Program} {t : TypeId} (h : (match P.underlying t with | some (.struct _) => true | _ => false) = true) : ∃ f, P.underlying t = some (.struct f) := by
  revert h
  split
  case h_1 f e => intro _; exact ⟨f, e⟩
  case h_2 => intro h; simp at h
theorem wpList_val {P : Program} {ops : Array Oper} {rest : List Oper} {o : Oper} {a : Act} {w : World} {Q : Exit → Act → World → Prop} (hg : o.guard = none) (d : Option Tmp) (hd : o.dst = d) (v : Value) (hr : (execOp a.eval o).run P w = .ok (.value v) w) (h : wpList P ops Q rest (a.put d v) w) : wpList P ops Q (o :: rest) a w := by
  refine wpList_plain hg fun K hK => ?_
  unfold Oper.wp
  rw [hr, Oper.upon_value, hd]
  exact hK _ _ h
theorem cNewAll (q : Pl) {n m e : Int} (n0 : 0 ≤ n) (n7 : n ≤ 7) (e0 : 0 ≤ e) (e1 : e ≤ 1) (w : World) (W : Laid w) :
    Calls Tryd.prog 11 #[.agg #[.int .i64 q.t, .int .i64 q.b, .int .i64 q.tb, .int .i64 q.hp, .int .i64 q.sz], .int .i64 n, .int .i64 m, .int .i64 e] w fun v w' => ∃ w1, v = .returned (.pointer (some ⟨w1.heap.size, 0, none⟩)) ∧ Below w.heap.size w w1 ∧ w' = w1.alloc (.cells (AllS.new q n m e).cells 85) := by
  have k0 : 0 ≤ P.Plain.cl n ∧ P.Plain.cl n ≤ 2 := by
    have : n ≤ 3 ∨ 4 ≤ n := by omega
    rcases this with h | h
    · rw [P.Plain.cl_0 n0 h]; decide
    · rw [P.Plain.cl_1 h n7]; decide
  have W1 := (W.on (S.bal (Below.refl w.heap.size w) (.cells q.cells 25))).2
  obtain ⟨c, hcl⟩ : ∃ c, P.Plain.cl n = c := ⟨_, rfl⟩
  simp only [AllS.new, hcl]
  rw [hcl] at k0
  obtain ⟨x, hx⟩ : ∃ x, ResS.new q c e = x := ⟨_, rfl⟩
  rw [hx]
  have hba : Below w.heap.size w (w.alloc (.cells q.cells 25)) := S.bal (Below.refl _ _) _
  go_enter Tryd.func11, Tryd.ntmps11
  go_wp2_with (go_at_call 34; refine (P.cClass n _ W1).mono ?_; rintro v w1 ⟨rfl, hw1⟩; rw [hcl]; have kq : w1.heap[w.heap.size]? = some (.cells q.cells 25 (0, 0)) := (by rw [hw1]; exact heap_alloc_new _ _); have hb1 : Below w.heap.size w w1 := (by rw [hw1]; exact hba); clear hw1; obtain ⟨y0, hy0⟩ : ∃ y0, w.heap.size = y0 := ⟨_, rfl⟩; rw [hy0] at kq ⊢; clear hy0; have n0 : w1.cell? ⟨y0, 0, none⟩ = some (.int .i64 q.t) := cell_of_row w1 _ _ _ _ _ kq; have n1 : w1.cell? ⟨y0, 1, none⟩ = some (.int .i64 q.b) := cell_of_row w1 _ _ _ _ _ kq; have n2 : w1.cell? ⟨y0, 2, none⟩ = some (.int .i64 q.tb) := cell_of_row w1 _ _ _ _ _ kq; have n3 : w1.cell? ⟨y0, 3, none⟩ = some (.int .i64 q.hp) := cell_of_row w1 _ _ _ _ _ kq; have n4 : w1.cell? ⟨y0, 4, none⟩ = some (.int .i64 q.sz) := cell_of_row w1 _ _ _ _ _ kq; clear kq)
  go_at_call 29; refine (cNewRes q k0.1 k0.2 e0 e1 _).mono ?_; rintro v w2 ⟨p, rfl, k2, hb2, hp2⟩; have hb2' := bel_trans hb1 hb2; rw [hx] at k2
  rename_i K hK
  refine hK _ _ ?_
  clear hK K n0 n1 n2 n3 n4
  refine wpList_val (by rfl) (some 16) (by rfl) (.pointer (some ⟨p, 0, none⟩)) (by kernel_rfl) ?_
  obtain ⟨fs, hfs⟩ := und_struct (P := Tryd.prog) (t := 83) (by kernel_rfl)
  refine wpList_load_row (by rfl) 83 (.tmp 16) (by rfl) p (by rfl) 83 x.cells (0, 0) (.struct fs) k2 hfs rfl (by kernel_rfl) ?_
  refine wpList_val (by rfl) (some 18) (by rfl) (.int .i64 c) (by kernel_rfl) ?_
  refine wpList_val (by rfl) (some 19) (by rfl) (.int .i64 n) (by kernel_rfl) ?_
  refine wpList_val (by rfl) (some 20) (by rfl) (.int .i64 m) (by kernel_rfl) ?_
  refine Go.wpList_buildTo (by rfl) 85 _ (by rfl) (some 21) (by rfl) (AllS.mk x c n m 1 0 0).cells (by kernel_rfl) ?_
  refine Go.Great.wpList_boxTo (by rfl) 85 (.tmp 21) (by rfl) (some 22) (by rfl) w2.heap.size rfl (AllS.mk x c n m 1 0 0).cells (by kernel_rfl) ?_
  go_wp2
  go_ret
  exact ⟨w2, rfl, hb2', rfl⟩
section
variable {w : World} {L : Loc} {s : St} {p o : Nat} {la lb : List Value} {T : TypeId}
theorem cAllCell {x : AllS} (hb : BlI w p T la lb o x.cells) :
    Calls Tryd.prog 18 #[.pointer (some ⟨p, o, none⟩)] w fun e w' => e = .returned (.int .i64 x.cell) ∧ w' = w := by
  have c36 : w.cell? ⟨p, o + 36, none⟩ = some (.int .i64 x.cell) := hb.cell 36
  go_enter Tryd.func18, Tryd.ntmps18
  go_wp2
  go_ret
  exact ⟨rfl, rfl⟩
theorem aNext {x : AllS} (hb : BlI w p T la lb o x.cells) :
    Calls Tryd.prog 53 #[.pointer (some ⟨p, o, none⟩)] w fun e w' => e = .returned (.int .i64 (if x.fld < x.cnt then 2 else 3)) ∧ Below w.heap.size w w' := by
  have keep : ∀ w', Below w.heap.size w w' → w'.cell? ⟨p, o + 35, none⟩ = some (.int .i64 x.fld) ∧ w'.cell? ⟨p, o + 32, none⟩ = some (.int .i64 x.cnt) := fun w' h => ⟨(hb.below h).cell 35, (hb.below h).cell 32⟩
  have hbd : Below w.heap.size w w.drew := (Below.refl w.heap.size w).drew
  have RD := keep _ hbd
  have c35 : w.cell? ⟨p, o + 35, none⟩ = some (.int .i64 x.fld) := hb.cell 35
  have c32 : w.cell? ⟨p, o + 32, none⟩ = some (.int .i64 x.cnt) := hb.cell 32
  by_cases h : x.fld < x.cnt
  · rw [if_pos h]
    have hd : decide (x.fld < x.cnt) = true := decide_eq_true h
    go_enter Tryd.func53, Tryd.ntmps53
    go_wp2
    go_quiet (fail)
    go_wp2
    go_ret
    exact ⟨rfl, S.bdr (Below.refl _ _) _⟩
  · rw [if_neg h]
    have hd : decide (x.fld < x.cnt) = false := decide_eq_false h
    go_enter Tryd.func53, Tryd.ntmps53
    go_wp2
    go_quiet (fail)
    go_wp2
    go_ret
    exact ⟨rfl, S.bdr (Below.refl _ _) _⟩
set_option maxHeartbeats 1000000 in
theorem aResA {x : AllS} (A : AtI 89 w L s p T la lb o x.cells) (ok : x.Ok) (f : s.Fit) (hc : s.c < 1000000) (r : s.Rng) (hp : x.pc = 1) (hn : (x.res.next s).pc ≠ 0) :
    Calls Tryd.prog 35 #[.pointer (some ⟨p, o, none⟩), .pointer (some ⟨L.b, 0, none⟩)] w fun e w' => e = .returned (.int .i64 (x.next s).pc) ∧ ∃ L', AtI 89 w' L' (x.mem s) p T la lb o ((x.next s).at_ x.pc).cells ∧ Went w L p w' L' := by
  obtain ⟨y, c, n, m, pc, fl, cl⟩ := x
  obtain rfl : pc = 1 := hp
  have A0 := AtI.sub (d := (AllS.mk y c n m 1 fl cl).cells) (k := 0) (e := y.cells) A (show 0 ≤ 37 by decide)
  have key : ∀ {w1 : World} {L1 : Loc} {s1 : St} {y' : ResS}, AtI 89 w1 L1 s1 p T _ _ (o + 0) y'.cells → AtI 89 w1 L1 s1 p T la lb o (AllS.cells ⟨y', c, n, m, 1, fl, cl⟩) := fun {w1 L1 s1 y'} h => AtI.up (d := (AllS.mk y c n m 1 fl cl).cells) (k := 0) (e := y.cells) h A.len rfl
  simp only at hn
  have hb : ((y.next s).pc == 0) = false := by simpa using hn
  simp only [AllS.next, AllS.mem, AllS.at_, if_neg hn]
  obtain ⟨y', hy⟩ : ∃ y', y.next s = y' := ⟨_, rfl⟩
  go_enter Tryd.func35, Tryd.ntmps35
  go_wp2_with (go_at_call 30; refine (cResI A0 ok.res f hc r).mono ?_; rintro e' w1 ⟨rfl, L1, A1', g1⟩; simp only [hb]; rw [hy] at A1'; have A1 := key A1')
  go_ret
  rw [hy]
  exact ⟨rfl, L1, A1, g1⟩
set_option maxHeartbeats 1000000 in
theorem aResB {x : AllS} (A : AtI 89 w L s p T la lb o x.cells) (ok : x.Ok) (f : s.Fit) (hc : s.c < 1000000) (r : s.Rng) (hp : x.pc = 1) (hn : (x.res.next s).pc = 0) (hz : (x.res.next s).cell = 0) :
    Calls Tryd.prog 35 #[.pointer (some ⟨p, o, none⟩), .pointer (some ⟨L.b, 0, none⟩)] w fun e w' => e = .returned (.int .i64 (x.next s).pc) ∧ ∃ L', AtI 89 w' L' (x.mem s) p T la lb o ((x.next s).at_ x.pc).cells ∧ Went w L p w' L' := by
  obtain ⟨y, c, n, m, pc, fl, cl⟩ := x
  obtain rfl : pc = 1 := hp
  have A0 := AtI.sub (d := (AllS.mk y c n m 1 fl cl).cells) (k := 0) (e := y.cells) A (show 0 ≤ 37 by decide)
  have key : ∀ {w1 : World} {L1 : Loc} {s1 : St} {y' : ResS}, AtI 89 w1 L1 s1 p T _ _ (o + 0) y'.cells → AtI 89 w1 L1 s1 p T la lb o (AllS.cells ⟨y', c, n, m, 1, fl, cl⟩) := fun {w1 L1 s1 y'} h => AtI.up (d := (AllS.mk y c n m 1 fl cl).cells) (k := 0) (e := y.cells) h A.len rfl
  simp only at hn hz
  have hb : ((y.next s).pc == 0) = true := by simpa using hn
  simp only [AllS.next, AllS.mem, AllS.at_, if_pos hn, if_pos hz]
  obtain ⟨y', hy⟩ : ∃ y', y.next s = y' := ⟨_, rfl⟩
  rw [hy] at hz ⊢
  have ht := hz
  go_enter Tryd.func35, Tryd.ntmps35
  go_wp2_with (first
    | (go_at_call 30; refine (cResI A0 ok.res f hc r).mono ?_; rintro e' w1 ⟨rfl, L1, A1', g1⟩; simp only [hb]; rw [hy] at A1'; have A1 := key A1')
    | (go_at_call 31; refine (cResCell A1'.bl).mono ?_; rintro e' w2 ⟨rfl, hw2⟩; rw [hw2, ht]; clear hw2))
  go_ret
  exact ⟨rfl, L1, A1, g1⟩
set_option maxHeartbeats 1000000 in
theorem aResC {x : AllS} (A : AtI 89 w L s p T la lb o x.cells) (ok : x.Ok) (f : s.Fit) (hc : s.c < 1000000) (r : s.Rng) (hp : x.pc = 1) (hn : (x.res.next s).pc = 0) (hz : (x.res.next s).cell ≠ 0) :
    Calls Tryd.prog 35 #[.pointer (some ⟨p, o, none⟩), .pointer (some ⟨L.b, 0, none⟩)] w fun e w' => e = .returned (.int .i64 (x.next s).pc) ∧ ∃ L', AtI 89 w' L' (x.mem s) p T la lb o ((x.next s).at_ x.pc).cells ∧ Went w L p w' L' := by
  obtain ⟨y, c, n, m, pc, fl, cl⟩ := x
  obtain rfl : pc = 1 := hp
  have A0 := AtI.sub (d := (AllS.mk y c n m 1 fl cl).cells) (k := 0) (e := y.cells) A (show 0 ≤ 37 by decide)
  have key : ∀ {w1 : World} {L1 : Loc} {s1 : St} {y' : ResS}, AtI 89 w1 L1 s1 p T _ _ (o + 0) y'.cells → AtI 89 w1 L1 s1 p T la lb o (AllS.cells ⟨y', c, n, m, 1, fl, cl⟩) := fun {w1 L1 s1 y'} h => AtI.up (d := (AllS.mk y c n m 1 fl cl).cells) (k := 0) (e := y.cells) h A.len rfl
  simp only at hn hz
  have hb : ((y.next s).pc == 0) = true := by simpa using hn
  simp only [AllS.next, AllS.mem, AllS.at_, if_pos hn, if_neg hz]
  obtain ⟨y', hy⟩ : ∃ y', y.next s = y' := ⟨_, rfl⟩
  rw [hy] at hz ⊢
  obtain ⟨v, ht⟩ : ∃ v, y'.cell = v := ⟨_, rfl⟩
  rw [ht] at hz
  have hz' : (v == 0) = false := by simpa using hz
  obtain ⟨pn, hpn⟩ : ∃ pn : Nat, (if fl < n then 2 else 3) = pn := ⟨_, rfl⟩
  have hpn' : (if fl < n then (2 : Int) else 3) = (pn : Int) := by rw [← hpn]; split <;> rfl
  rw [hpn]
  go_enter Tryd.func35, Tryd.ntmps35
  go_wp2_with (first
    | (go_at_call 30; refine (cResI A0 ok.res f hc r).mono ?_; rintro e' w1 ⟨rfl, L1, A1', g1⟩; simp only [hb]; rw [hy] at A1'; have A1 := key A1')
    | (go_at_call 31; refine (cResCell A1'.bl).mono ?_; rintro e' w2 ⟨rfl, hw2⟩; rw [hw2, ht]; clear hw2)
    | (go_at_call 53; refine (aNext A1.bl).mono ?_; rintro e' w3 ⟨rfl, hb3⟩; simp only [hpn']; have A3 := A1.below hb3; have g3 := g1.trans (Went.of_below hb3 L1 p)))
  go_ret
  exact ⟨rfl, L1, A3, g3⟩
set_option maxHeartbeats 1000000 in
theorem aFld {x : AllS} (A : AtI 89 w L s p T la lb o x.cells) (ok : x.Ok) (f : s.Fit) (hc : s.c < 1000000) (r : s.Rng) (hp : x.pc = 2) :
    Calls Tryd.prog 36 #[.pointer (some ⟨p, o, none⟩), .pointer (some ⟨L.b, 0, none⟩)] w fun e w' => e = .returned (.int .i64 (x.next s).pc) ∧ ∃ L', AtI 89 w' L' (x.mem s) p T la lb o ((x.next s).at_ x.pc).cells ∧ Went w L p w' L' := by
  obtain ⟨y, c, n, m, pc, fl, cl⟩ := x
  obtain rfl : pc = 2 := hp
  have f0 := ok.f0
  have f8 := ok.f8
  have n8 := ok.n8
  have f2 := ok.f2 rfl
  have l0 := ok.res.l0
  have l1 := ok.res.l1
  simp only at f0 f8 n8 f2 l0 l1
  simp only [AllS.next, AllS.mem, AllS.at_]
  obtain ⟨v, hv⟩ : ∃ v, y.cell = v := ⟨_, rfl⟩
  rw [hv] at l0 l1 ⊢
  obtain ⟨pn, hpn⟩ : ∃ pn : Nat, (if fl + 1 < n then 2 else 3) = pn := ⟨_, rfl⟩
  have hpn' : (if fl + 1 < n then (2 : Int) else 3) = (pn : Int) := by rw [← hpn]; split <;> rfl
  rw [hpn]
  have wr : IntKind.i64.wrap (v + (fl + 1)) = v + (fl + 1) := by rw [IntKind.wrap_i64]; omega
  have c35 : w.cell? ⟨p, o + 35, none⟩ = some (.int .i64 fl) := A.cell 35
  have cf35 := A.free 35
  have Aa : AtI 89 (w.setCell ⟨p, o + 35, none⟩ (.int .i64 (fl + 1))) L s p T la lb o (AllS.mk y c n m 2 (fl + 1) cl).cells := A.set 35 (.int .i64 (fl + 1))
  have ga : Went w L p (w.setCell ⟨p, o + 35, none⟩ (.int .i64 (fl + 1))) L := Went.set _ _ _ _ _
  go_enter Tryd.func36, Tryd.ntmps36
  go_wp2
  generalize w.setCell ⟨p, o + 35, none⟩ (.int .i64 (fl + 1)) = wa at Aa ga ⊢
  have keep : ∀ w', Below wa.heap.size wa w' → w'.cell? ⟨p, o + 35, none⟩ = some (.int .i64 (fl + 1)) := fun w' h => (Aa.below h).cell 35
  have hbd : Below wa.heap.size wa wa.drew := (Below.refl wa.heap.size wa).drew
  have RD := keep _ hbd
  have rc := cResCell (AtI.sub (d := (AllS.mk y c n m 2 (fl + 1) cl).cells) (k := 0) (e := y.cells) (Aa.below hbd) (show 0 ≤ 37 by decide)).bl
  rw [hv] at rc
  go_region_held3 (fun w' => w'.cell? ⟨p, o + 35, none⟩ = some (.int .i64 (fl + 1))) (first | assumption | exact RD | exact keep _ (by assumption))
    (first
      | (go_at_call 31; refine rc.mono ?_; rintro e' w1 ⟨rfl, hw1⟩; have hb1 : Below wa.heap.size wa w1 := (by rw [hw1]; exact hbd); clear hw1)
      | (go_at_call 27; refine (cStore (Aa.below hb1).mem f hc _ _).mono ?_; rintro e' w2 ⟨rfl, L2, hm2, st2⟩; have A2 := (Aa.below hb1).step hm2 st2; have S2 : w2.cell? ⟨p, o + 35, none⟩ = some (.int .i64 (fl + 1)) := A2.cell 35; have g2 := (ga.trans (Went.of_below hb1 L p)).trans (Went.of_step st2 p)))
  go_wp2_with (go_at_call 53; refine (aNext A2.bl).mono ?_; rintro e' w3 ⟨rfl, hb3⟩; simp only [hpn']; have A3 := A2.below hb3; have g3 := g2.trans (Went.of_below hb3 L2 p))
  go_ret
  exact ⟨rfl, L2, A3, g3⟩
set_option maxHeartbeats 1000000 in
theorem aHead {x : AllS} (A : AtI 89 w L s p T la lb o x.cells) (ok : x.Ok) (f : s.Fit) (hc : s.c < 1000000) (r : s.Rng) (hp : x.pc = 3) :
    Calls Tryd.prog 37 #[.pointer (some ⟨p, o, none⟩), .pointer (some ⟨L.b, 0, none⟩)] w fun e w' => e = .returned (.int .i64 (x.next s).pc) ∧ ∃ L', AtI 89 w' L' (x.mem s) p T la lb o ((x.next s).at_ x.pc).cells ∧ Went w L p w' L' := by
  obtain ⟨y, c, n, m, pc, fl, cl⟩ := x
  obtain rfl : pc = 3 := hp
  simp only [AllS.next, AllS.mem, AllS.at_]
  have rc := cResCell (AtI.sub (d := (AllS.mk y c n m 3 fl cl).cells) (k := 0) (e := y.cells) A (show 0 ≤ 37 by decide)).bl
  obtain ⟨v, hv⟩ : ∃ v, y.cell = v := ⟨_, rfl⟩
  rw [hv] at rc ⊢
  have c36 : w.cell? ⟨p, o + 36, none⟩ = some (.int .i64 cl) := A.cell 36
  have cf36 := A.free 36
  have Aa : AtI 89 (w.setCell ⟨p, o + 36, none⟩ (.int .i64 v)) L s p T la lb o (AllS.mk y c n m 3 fl v).cells := A.set 36 (.int .i64 v)
  have ga : Went w L p (w.setCell ⟨p, o + 36, none⟩ (.int .i64 v)) L := Went.set _ _ _ _ _
  go_enter Tryd.func37, Tryd.ntmps37
  go_wp2_with (go_at_call 31; refine rc.mono ?_; rintro e' w1 ⟨rfl, hw1⟩; rw [hw1]; clear hw1)
  generalize w.setCell ⟨p, o + 36, none⟩ (.int .i64 v) = wa at Aa ga ⊢
  have keep : ∀ w', Below wa.heap.size wa w' → w'.cell? ⟨p, o + 31, none⟩ = some (.int .i64 c) ∧ w'.cell? ⟨p, o + 32, none⟩ = some (.int .i64 n) ∧ w'.cell? ⟨p, o + 33, none⟩ = some (.int .i64 m) ∧ w'.cell? ⟨p, o + 36, none⟩ = some (.int .i64 v) := fun w' h => ⟨(Aa.below h).cell 31, (Aa.below h).cell 32, (Aa.below h).cell 33, (Aa.below h).cell 36⟩
  have hbd : Below wa.heap.size wa wa.drew := (Below.refl wa.heap.size wa).drew
  have RD := keep _ hbd
  go_region_held3 (fun w' => w'.cell? ⟨p, o + 31, none⟩ = some (.int .i64 c) ∧ w'.cell? ⟨p, o + 32, none⟩ = some (.int .i64 n) ∧ w'.cell? ⟨p, o + 33, none⟩ = some (.int .i64 m) ∧ w'.cell? ⟨p, o + 36, none⟩ = some (.int .i64 v)) (first | assumption | exact RD | exact keep _ (by assumption))
    (first
      | (go_at_call 54; refine (H.cWord 1 c n m 0 0 0 _ (Aa.below hbd).wid.1).mono ?_; rintro e' w3 ⟨rfl, x3, hw3⟩; have hb3' : Below wa.heap.size wa w3 := (by rw [hw3]; exact bel_trans hbd (((Below.refl _ _).alloc (Nat.le_refl _) _).alloc (by simp) _)); clear hw3)
      | (go_at_call 27; refine (cStore (Aa.below hb3').mem f hc _ _).mono ?_; rintro e' w4 ⟨rfl, L4, hm4, st4⟩; have A4 := (Aa.below hb3').step hm4 st4; have S4 : w4.cell? ⟨p, o + 31, none⟩ = some (.int .i64 c) ∧ w4.cell? ⟨p, o + 32, none⟩ = some (.int .i64 n) ∧ w4.cell? ⟨p, o + 33, none⟩ = some (.int .i64 m) ∧ w4.cell? ⟨p, o + 36, none⟩ = some (.int .i64 v) := ⟨A4.cell 31, A4.cell 32, A4.cell 33, A4.cell 36⟩; have g4 := (ga.trans (Went.of_below hb3' L p)).trans (Went.of_step st4 p)))
  go_wp2
  go_ret
  exact ⟨rfl, L4, A4, g4⟩
theorem cAll0 {x : AllS} (A : AtI 89 w L s p T la lb o x.cells) (h0 : x.pc = 0) :
    Calls Tryd.prog 12 #[.pointer (some ⟨p, o, none⟩), .pointer (some ⟨L.b, 0, none⟩)] w fun e w' => e = .returned (.bool true) ∧ w' = w := by
  have c34 : w.cell? ⟨p, o + 34, none⟩ = some (.int .i64 0) := by have h : w.cell? ⟨p, o + 34, none⟩ = some (.int .i64 (x.pc : Int)) := A.cell 34; rw [h0] at h; exact h
  go_enter Tryd.func12, Tryd.ntmps12
  go_wp2
  go_ret
  exact ⟨rfl, rfl⟩
theorem cAllI {x : AllS} (A : AtI 89 w L s p T la lb o x.cells) (ok : x.Ok) (f : s.Fit) (hc : s.c < 1000000) (r : s.Rng) :
    Calls Tryd.prog 12 #[.pointer (some ⟨p, o, none⟩), .pointer (some ⟨L.b, 0, none⟩)] w fun e w' => e = .returned (.bool ((x.next s).pc == 0)) ∧
      ∃ L', AtI 89 w' L' (x.mem s) p T la lb o (x.next s).cells ∧ Went w L p w' L' := by
  have fin : ∀ q : Nat, ((q : Int) == 0) = (q == 0) := fun q => by rcases q with _ | q <;> simp <;> omega
  have hpc := ok.pc
  obtain ⟨pc, hpe⟩ : ∃ pc, x.pc = pc := ⟨_, rfl⟩
  rw [hpe] at hpc
  rcases pc_cases hpc with rfl | rfl | rfl | rfl
  · have e1 : x.next s = x := by obtain ⟨y, c, n, m, pc, fl, cl⟩ := x; obtain rfl : pc = 0 := hpe; rfl
    have e2 : x.mem s = s := by obtain ⟨y, c, n, m, pc, fl, cl⟩ := x; obtain rfl : pc = 0 := hpe; rfl
    rw [e1, e2]
    refine (cAll0 A hpe).mono ?_
    rintro e w' ⟨rfl, rfl⟩
    exact ⟨by rw [hpe]; rfl, L, A, Went.refl _ _ _⟩
  · have c34 : w.cell? ⟨p, o + 34, none⟩ = some (.int .i64 1) := by have h : w.cell? ⟨p, o + 34, none⟩ = some (.int .i64 (x.pc : Int)) := A.cell 34; rw [hpe] at h; exact h
    have C : Calls Tryd.prog 35 #[.pointer (some ⟨p, o, none⟩), .pointer (some ⟨L.b, 0, none⟩)] w fun e w' => e = .returned (.int .i64 (x.next s).pc) ∧ ∃ L', AtI 89 w' L' (x.mem s) p T la lb o ((x.next s).at_ x.pc).cells ∧ Went w L p w' L' := by
      by_cases hn : (x.res.next s).pc = 0
      · by_cases hz : (x.res.next s).cell = 0
        · exact aResB A ok f hc r hpe hn hz
        · exact aResC A ok f hc r hpe hn hz
      · exact aResA A ok f hc r hpe hn
    go_enter Tryd.func12, Tryd.ntmps12
    go_wp2_with (go_at_call 35; refine C.mono ?_; rintro e w1 ⟨rfl, L1, A1, g1⟩; have d34 : w1.cell? ⟨p, o + 34, none⟩ = some (.int .i64 1) := (by have h : w1.cell? ⟨p, o + 34, none⟩ = some (.int .i64 (x.pc : Int)) := A1.cell 34; rw [hpe] at h; exact h); have df34 := A1.free 34; rw [hpe] at A1; obtain ⟨y, hy⟩ : ∃ y, x.next s = y := ⟨_, rfl⟩; rw [hy] at A1 ⊢; have A2 : AtI 89 (w1.setCell ⟨p, o + 34, none⟩ (.int .i64 y.pc)) L1 (x.mem s) p T la lb o y.cells := A1.set 34 (.int .i64 y.pc); have n34 : (w1.setCell ⟨p, o + 34, none⟩ (.int .i64 y.pc)).cell? ⟨p, o + 34, none⟩ = some (.int .i64 y.pc) := A2.cell 34)
    go_ret
    rw [hy]
    refine ⟨?_, L1, A2, g1.trans (Went.set _ _ _ _ _)⟩
    first | rfl | (show Ending.returned (.bool ((y.pc : Int) == 0)) = _; rw [fin])
  · have c34 : w.cell? ⟨p, o + 34, none⟩ = some (.int .i64 2) := by have h : w.cell? ⟨p, o + 34, none⟩ = some (.int .i64 (x.pc : Int)) := A.cell 34; rw [hpe] at h; exact h
    have C : Calls Tryd.prog 36 #[.pointer (some ⟨p, o, none⟩), .pointer (some ⟨L.b, 0, none⟩)] w fun e w' => e = .returned (.int .i64 (x.next s).pc) ∧ ∃ L', AtI 89 w' L' (x.mem s) p T la lb o ((x.next s).at_ x.pc).cells ∧ Went w L p w' L' := by
      exact aFld A ok f hc r hpe
    go_enter Tryd.func12, Tryd.ntmps12
    go_wp2_with (go_at_call 36; refine C.mono ?_; rintro e w1 ⟨rfl, L1, A1, g1⟩; have d34 : w1.cell? ⟨p, o + 34, none⟩ = some (.int .i64 2) := (by have h : w1.cell? ⟨p, o + 34, none⟩ = some (.int .i64 (x.pc : Int)) := A1.cell 34; rw [hpe] at h; exact h); have df34 := A1.free 34; rw [hpe] at A1; obtain ⟨y, hy⟩ : ∃ y, x.next s = y := ⟨_, rfl⟩; rw [hy] at A1 ⊢; have A2 : AtI 89 (w1.setCell ⟨p, o + 34, none⟩ (.int .i64 y.pc)) L1 (x.mem s) p T la lb o y.cells := A1.set 34 (.int .i64 y.pc); have n34 : (w1.setCell ⟨p, o + 34, none⟩ (.int .i64 y.pc)).cell? ⟨p, o + 34, none⟩ = some (.int .i64 y.pc) := A2.cell 34)
    go_ret
    rw [hy]
    refine ⟨?_, L1, A2, g1.trans (Went.set _ _ _ _ _)⟩
    first | rfl | (show Ending.returned (.bool ((y.pc : Int) == 0)) = _; rw [fin])
  · have c34 : w.cell? ⟨p, o + 34, none⟩ = some (.int .i64 3) := by have h : w.cell? ⟨p, o + 34, none⟩ = some (.int .i64 (x.pc : Int)) := A.cell 34; rw [hpe] at h; exact h
    have C : Calls Tryd.prog 37 #[.pointer (some ⟨p, o, none⟩), .pointer (some ⟨L.b, 0, none⟩)] w fun e w' => e = .returned (.int .i64 (x.next s).pc) ∧ ∃ L', AtI 89 w' L' (x.mem s) p T la lb o ((x.next s).at_ x.pc).cells ∧ Went w L p w' L' := by
      exact aHead A ok f hc r hpe
    go_enter Tryd.func12, Tryd.ntmps12
    go_wp2_with (go_at_call 37; refine C.mono ?_; rintro e w1 ⟨rfl, L1, A1, g1⟩; have d34 : w1.cell? ⟨p, o + 34, none⟩ = some (.int .i64 3) := (by have h : w1.cell? ⟨p, o + 34, none⟩ = some (.int .i64 (x.pc : Int)) := A1.cell 34; rw [hpe] at h; exact h); have df34 := A1.free 34; rw [hpe] at A1; obtain ⟨y, hy⟩ : ∃ y, x.next s = y := ⟨_, rfl⟩; rw [hy] at A1 ⊢; have A2 : AtI 89 (w1.setCell ⟨p, o + 34, none⟩ (.int .i64 y.pc)) L1 (x.mem s) p T la lb o y.cells := A1.set 34 (.int .i64 y.pc); have n34 : (w1.setCell ⟨p, o + 34, none⟩ (.int .i64 y.pc)).cell? ⟨p, o + 34, none⟩ = some (.int .i64 y.pc) := A2.cell 34)
    go_ret
    rw [hy]
    refine ⟨?_, L1, A2, g1.trans (Went.set _ _ _ _ _)⟩
    first | rfl | (show Ending.returned (.bool ((y.pc : Int) == 0)) = _; rw [fin])
end
end Go.Proofs.YtbojljkdpebheaaDoor
