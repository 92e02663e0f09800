/-
  The small functions of layer 14; a machine beneath is begun.
-/
import Derived.Test.YtmlgohknbjfciaaGreatDoorDeq
import Derived.Laws.StructEq
import Derived.Test.YtmlgohknbjfciaaGreatDoorCe
import Derived.Test.YtmlgohknbjfciaaGreatDoorDr
import Derived.Test.YtmlgohknbjfciaaGreatDoorHand
import Derived.Test.YtmlgohknbjfciaaGreatDoorPCalls2
import Derived.Test.YtmlgohknbjfciaaGreatDoorSCallsA
import Derived.Deep.Cut
import Derived.BigQuiet
import Derived.Laws.EntriesVeiled
namespace Go.Proofs.YtmlgohknbjfciaaGreatDoor
set_option linter.unusedVariables false
set_option maxRecDepth 100000
open Go.ChangeShapes Go.WideShapes Go.ChangeAt Go.RowKit

theorem fOut0 (a b c : Int) (d : Bool) (w : World) : (Instr.field 63 (.agg #[.int .i64 a, .int .i64 b, .int .i64 c, .bool d]) 0).run Tryz.prog w = .ok (.int .i64 a) w := by kernel_rfl
theorem fOut1 (a b c : Int) (d : Bool) (w : World) : (Instr.field 63 (.agg #[.int .i64 a, .int .i64 b, .int .i64 c, .bool d]) 1).run Tryz.prog w = .ok (.agg #[.int .i64 b, .int .i64 c]) w := by kernel_rfl
theorem fVal1 (a b : Int) (w : World) : (Instr.field 38 (.agg #[.int .i64 a, .int .i64 b]) 1).run Tryz.prog w = .ok (.int .i64 b) w := by kernel_rfl
end Go.Proofs.YtmlgohknbjfciaaGreatDoor

namespace Go.Proofs.YtmlgohknbjfciaaGreatDoor
set_option linter.unusedVariables false
set_option linter.unusedSimpArgs false
set_option maxRecDepth 100000
open Go.ChangeShapes Go.WideShapes Go.RowKit
open H.Plain (hw pS pC pN pM pG pT pL mv)

section
variable {ow : Bool} {w0 w w' : World} {b y p : Nat} {s1 s2 : St} {N : Nat} {a : Ax}
theorem tLoad (h : TwoT ow w0 w b y s1 s2 N) (hN : N < 1000000) (a : Int) :
    Calls Tryz.prog 31 #[pt b, .int .i64 a] w fun e w' => e = .returned (.int .u64 (s1.got a)) ∧ TwoT ow w0 w' b y (s1.load a) s2 (N + 1) ∧ Oth [] w w' := by
  have ht := h.top1
  have hc : s1.c < 1000000 := by omega
  have f := h.fit1
  have r := h.rng1
  obtain ⟨L, rfl, A, k⟩ := h.step1
  refine (cLoad A f hc a).mono ?_
  rintro e w' ⟨rfl, L', A', g⟩
  exact ⟨rfl, k A' g (f.load hc a) (r.load a) (by rw [St.c_load]; omega) (by omega)⟩
theorem tCAS (h : TwoT ow w0 w b y s1 s2 N) (hN : N < 1000000) (a o : Int) {x : Int} (hx : U64 x) :
    Calls Tryz.prog 59 #[pt b, .int .i64 a, .int .u64 o, .int .u64 x] w fun e w' => e = .returned (.bool (s1.ok1 a o)) ∧ TwoT ow w0 w' b y (s1.cas a o x) s2 (N + 1) ∧ Oth [] w w' := by
  have ht := h.top1
  have hc : s1.c < 1000000 := by omega
  have f := h.fit1
  have r := h.rng1
  obtain ⟨L, rfl, A, k⟩ := h.step1
  refine (cCAS A f hc a o x).mono ?_
  rintro e w' ⟨rfl, L', A', g⟩
  exact ⟨rfl, k A' g (f.cas hc a o x) (r.cas a o hx) (by rw [St.c_cas]; omega) (by omega)⟩
theorem Oth.drop {F : List Nat} {n : Nat} (o : Oth (n :: F) w w') (h : w.heap.size ≤ n) : Oth F w w' :=
  ⟨o.size, fun k cs T fz hF hT hk => o.blk k cs T fz (by simp only [List.mem_cons, not_or]; exact ⟨fun e => by have := lt_of_block hk; omega, hF⟩) hT hk⟩
theorem to_twoB {q : Nat} {T : TypeId} {cs : Array Value} (h : TwoT ow w0 w b y s1 s2 N) (K : Kept [q] w w') (B : Blk w0 w q T cs) : TwoT ow w0 w' b y s1 s2 N := h.kept K fun k hk => by simp at hk; subst hk; exact ⟨B.old, _, _, _, B.hT, B.at_⟩
theorem Kept.tr {F : List Nat} {u v : World} (h : Kept F w u) (g : Kept F u v) : Kept F w v := h.trans g fun _ h => .inl h
theorem Blk.s_pc (B : Blk w0 w p 112 a.cells) (v : Nat) : Blk w0 (w.setCell ⟨p, 19, none⟩ (stFn v)) p 112 ({ a with pc := v } : Ax).cells := B.set 19 _
theorem Blk.s_l (B : Blk w0 w p 112 a.cells) (v : Int) : Blk w0 (w.setCell ⟨p, 20, none⟩ (.int .i64 v)) p 112 ({ a with l := v } : Ax).cells := B.set 20 _
theorem Blk.s_z (B : Blk w0 w p 112 a.cells) (v : Int) : Blk w0 (w.setCell ⟨p, 21, none⟩ (.int .u64 v)) p 112 ({ a with z := v } : Ax).cells := B.set 21 _
theorem Blk.s_hit (B : Blk w0 w p 112 a.cells) (v : Bool) : Blk w0 (w.setCell ⟨p, 34, none⟩ (.bool v)) p 112 ({ a with hit := v } : Ax).cells := B.set 34 _
theorem Blk.s_o (B : Blk w0 w p 112 a.cells) (v : Ou) : Blk w0 ((((w.setCell ⟨p, 35, none⟩ (.int .i64 v.c)).setCell ⟨p, 36, none⟩ (.int .i64 v.v.k)).setCell ⟨p, 37, none⟩ (.int .i64 v.v.n)).setCell ⟨p, 38, none⟩ (.bool v.y)) p 112 ({ a with o := v } : Ax).cells := (((B.set 35 _).set 36 _).set 37 _).set 38 _
set_option maxHeartbeats 1000000 in
theorem cEnd (B : Blk w0 w p 112 a.cells) (v : Ou) :
    Calls Tryz.prog 64 #[pt p, .agg #[.int .i64 v.c, .int .i64 v.v.k, .int .i64 v.v.n, .bool v.y]] w fun e w' => e = .returned (.tuple #[]) ∧ Kept [p] w w' ∧ Blk w0 w' p 112 ({ a with o := v, pc := 0 } : Ax).cells := by
  have a1 : Below w.heap.size w (w.alloc (.cells #[.int .i64 v.c, .int .i64 v.v.k, .int .i64 v.v.n, .bool v.y] 63)) := (Below.refl _ _).alloc (Nat.le_refl _) _
  have B1 := B.below a1
  have K1 : Kept [p] w (w.alloc (.cells #[.int .i64 v.c, .int .i64 v.v.k, .int .i64 v.v.n, .bool v.y] 63)) := Kept.of_below a1
  have V1 : Blk w (w.alloc (.cells #[.int .i64 v.c, .int .i64 v.v.k, .int .i64 v.v.n, .bool v.y] 63)) w.heap.size 63 #[.int .i64 v.c, .int .i64 v.v.k, .int .i64 v.v.n, .bool v.y] := Blk.new (Nat.le_refl _) _ (by decide)
  go_enter Tryz.func64, Tryz.ntmps64
  go_upto_region 1 with (fail)
  generalize w.alloc (.cells #[.int .i64 v.c, .int .i64 v.v.k, .int .i64 v.v.n, .bool v.y] 63) = w1 at B1 K1 V1 ⊢
  generalize w.heap.size = vb at V1 ⊢
  have v0 : w1.cell? ⟨vb, 0, none⟩ = some (.int .i64 v.c) := V1.cell 0
  have v1 : w1.cell? ⟨vb, 1, none⟩ = some (.int .i64 v.v.k) := V1.cell 1
  have v2 : w1.cell? ⟨vb, 2, none⟩ = some (.int .i64 v.v.n) := V1.cell 2
  have v3 : w1.cell? ⟨vb, 3, none⟩ = some (.bool v.y) := V1.cell 3
  have vl := V1.lt
  have c35 : w1.cell? ⟨p, 35, none⟩ = some (.int .i64 a.o.c) := B1.cell 35
  have c36 : w1.cell? ⟨p, 36, none⟩ = some (.int .i64 a.o.v.k) := B1.cell 36
  have c37 : w1.cell? ⟨p, 37, none⟩ = some (.int .i64 a.o.v.n) := B1.cell 37
  have c38 : w1.cell? ⟨p, 38, none⟩ = some (.bool a.o.y) := B1.cell 38
  have c19 : w1.cell? ⟨p, 19, none⟩ = some (stFn a.pc) := B1.cell 19
  have f35 := B1.free 35
  have f36 := B1.free 36
  have f37 := B1.free 37
  have f38 := B1.free 38
  have f19 := B1.free 19
  go_wp2
  go_end0
  have K2 : Kept [p] w1 (((((w1.setCell ⟨p, 35, none⟩ (.int .i64 v.c)).setCell ⟨p, 36, none⟩ (.int .i64 v.v.k)).setCell ⟨p, 37, none⟩ (.int .i64 v.v.n)).setCell ⟨p, 38, none⟩ (.bool v.y)).setCell ⟨p, 19, none⟩ .nilFunc) := ((((Kept.setCell [p] _ _ _ (by simp)).tr (Kept.setCell [p] _ _ _ (by simp))).tr (Kept.setCell [p] _ _ _ (by simp))).tr (Kept.setCell [p] _ _ _ (by simp))).tr (Kept.setCell [p] _ _ _ (by simp))
  exact ⟨rfl, K1.tr K2, (B1.s_o v).s_pc 0⟩
set_option maxHeartbeats 1000000 in
theorem cField (B : Blk w0 w p 112 a.cells) (h0 : 0 ≤ a.r.at_) (h1 : a.r.at_ < 4096) (h2 : 0 ≤ a.r.fd) (h3 : a.r.fd < 4096) :
    Calls Tryz.prog 89 #[pt p] w fun e w' => e = .returned (.int .i64 (a.r.at_ + 1 + a.r.fd)) ∧ Below w.heap.size w w' := by
  have c6 : w.cell? ⟨p, 6, none⟩ = some (.int .i64 a.r.at_) := B.cell 6
  have c7 : w.cell? ⟨p, 7, none⟩ = some (.int .i64 a.r.fd) := B.cell 7
  obtain ⟨q, hq⟩ : ∃ q, a.r.at_ = q := ⟨_, rfl⟩
  obtain ⟨f, hf⟩ : ∃ f, a.r.fd = f := ⟨_, rfl⟩
  rw [hq] at c6 h0 h1 ⊢
  rw [hf] at c7 h2 h3 ⊢
  have i1 : IntKind.i64.wrap (q + 1) = q + 1 := by rw [IntKind.wrap_i64]; omega
  have i2 : IntKind.i64.wrap (q + 1 + f) = q + 1 + f := by rw [IntKind.wrap_i64]; omega
  go_enter Tryz.func89, Tryz.ntmps89
  go_wp2
  go_quiet (fail)
  go_wp2
  go_ret
  exact ⟨rfl, S.bdr (Below.refl _ _) _⟩
theorem pl_cells (B : Blk w0 w p 112 a.cells) (hn : a.n = pn4) : w.cell? ⟨p, 0, none⟩ = some (.int .i64 4) ∧ w.cell? ⟨p, 1, none⟩ = some (.int .i64 4) ∧ w.cell? ⟨p, 2, none⟩ = some (.int .i64 14) ∧ w.cell? ⟨p, 3, none⟩ = some (.int .i64 32) ∧ w.cell? ⟨p, 4, none⟩ = some (.int .i64 160) ∧ w.cell? ⟨p, 6, none⟩ = some (.int .i64 a.r.at_) := by
  have c0 := B.cell 0
  have c1 := B.cell 1
  have c2 := B.cell 2
  have c3 := B.cell 3
  have c4 := B.cell 4
  simp only [Ax.cells, hn, pn4] at c0 c1 c2 c3 c4
  exact ⟨c0, c1, c2, c3, c4, B.cell 6⟩
set_option maxHeartbeats 1000000 in
theorem cBlockX (B : Blk w0 w p 112 a.cells) (hn : a.n = pn4) (h0 : 96 ≤ a.r.at_) (h1 : a.r.at_ < 128) :
    Calls Tryz.prog 74 #[pt p] w fun e w' => e = .returned (.int .i64 2) ∧ Below w.heap.size w w' := by
  have hbk : P.Plain.bk 32 160 a.r.at_ = 2 := by rw [P.Plain.bk_in (by omega) (by omega)]; omega
  go_enter Tryz.func74, Tryz.ntmps74
  go_upto_region 1 with (fail)
  have hbd : Below w.heap.size w w.drew := (Below.refl _ _).drew
  refine wp_region_noPanic ?_
  refine wp_region_held_drew (S := fun w' => w'.cell? ⟨p, 0, none⟩ = some (.int .i64 4) ∧ w'.cell? ⟨p, 1, none⟩ = some (.int .i64 4) ∧ w'.cell? ⟨p, 2, none⟩ = some (.int .i64 14) ∧ w'.cell? ⟨p, 3, none⟩ = some (.int .i64 32) ∧ w'.cell? ⟨p, 4, none⟩ = some (.int .i64 160) ∧ w'.cell? ⟨p, 6, none⟩ = some (.int .i64 a.r.at_)) (by kernel_rfl) (pl_cells (B.below hbd) hn) (fun hHeld => ?_)
  refine tkH (i := 0) 3 (pt p) rfl rfl ?_
  simp only [sA1, sA2, sA3]
  refine tkH (i := 1) 4 (pt p) rfl rfl ?_
  simp only [sA1, sA2, sA3]
  refine tkH (i := 2) 5 (pt p) rfl rfl ?_
  simp only [sA1, sA2, sA3]
  refine tkH (i := 3) 6 (.agg #[.int .i64 4, .int .i64 4, .int .i64 14, .int .i64 32, .int .i64 160]) rfl rfl ?_
  simp only [sA1, sA2, sA3]
  refine tkH (i := 4) 7 (pt p) rfl rfl ?_
  simp only [sA1, sA2, sA3]
  refine tkH (i := 5) 8 (pt p) rfl rfl ?_
  simp only [sA1, sA2, sA3]
  refine tkH (i := 6) 9 (.pointer (some ⟨p, 5, none⟩)) rfl rfl ?_
  simp only [sA1, sA2, sA3]
  refine tkH (i := 7) 10 (.pointer (some ⟨p, 6, none⟩)) rfl rfl ?_
  simp only [sA1, sA2, sA3]
  refine tkH (i := 8) 11 (.int .i64 a.r.at_) rfl rfl ?_
  simp only [sA1, sA2, sA3]
  refine rd1 9 rfl fun K hK => ?_
  go_simp
  refine (P.cBlock 4 4 14 32 160 a.r.at_ (by decide) (by decide) (by decide) (by decide) _).mono ?_
  rintro e w2 ⟨rfl, hw2⟩
  rw [hbk]
  have hb2 : Below w.heap.size w w2 := (by rw [hw2]; exact (hbd.alloc hbd.size _))
  have B2 := B.below hb2
  clear hw2
  refine hK.out _ _ (pl_cells B2 hn) (fun hHeld => ?_)
  clear hK K
  try simp only [Act.put, sA1, sA2, sA3]
  refine tkH (i := 10) 2 (.int .i64 2) rfl rfl ?_
  simp only [sA1, sA2, sA3]
  refine wpAnyH_done (by kernel_rfl) ?_ _
  refine NoPanic.normal ?_
  go_wp2
  go_ret
  exact ⟨rfl, hb2⟩
section
set_option maxHeartbeats 1000000
theorem cLays1 (B : Blk w0 w p 112 a.cells) (hop : a.r.op = 1) :
    Calls Tryz.prog 73 #[pt p] w fun e w' => e = .returned (.bool false) ∧ Below w.heap.size w w' := by
  have c5 : w.cell? ⟨p, 5, none⟩ = some (.int .i64 1) := hop ▸ B.cell 5
  go_enter Tryz.func73, Tryz.ntmps73
  go_wp2
  go_quiet (fail)
  go_wp2
  go_ret
  exact ⟨rfl, S.bdr (Below.refl _ _) _⟩
theorem cLays2 (B : Blk w0 w p 112 a.cells) (hop : a.r.op = 2) (hal : a.al = nine) {t : Bool} (ht : decide (a.r.y = nine) = t) :
    Calls Tryz.prog 73 #[pt p] w fun e w' => e = .returned (.bool t) ∧ Below w.heap.size w w' := by
  have c5 : w.cell? ⟨p, 5, none⟩ = some (.int .i64 2) := hop ▸ B.cell 5
  have c10 : w.cell? ⟨p, 10, none⟩ = some (.int .i64 a.r.y.k) := B.cell 10
  have c11 : w.cell? ⟨p, 11, none⟩ = some (.int .i64 a.r.y.n) := B.cell 11
  have c12 : w.cell? ⟨p, 12, none⟩ = some (.int .i64 0) := by have := B.cell 12; simp only [Ax.cells, hal, nine] at this; exact this
  have c13 : w.cell? ⟨p, 13, none⟩ = some (.int .i64 9) := by have := B.cell 13; simp only [Ax.cells, hal, nine] at this; exact this
  have e1 : ∀ w, (binOp .eql 38 (.agg #[.int .i64 a.r.y.k, .int .i64 a.r.y.n]) (.agg #[.int .i64 0, .int .i64 9])).run Tryz.prog w = .ok (.bool t) w := fun w => by rw [← ht]; exact eqVal a.r.y nine w
  obtain ⟨yk, hyk⟩ : ∃ q, a.r.y.k = q := ⟨_, rfl⟩
  obtain ⟨yn, hyn⟩ : ∃ q, a.r.y.n = q := ⟨_, rfl⟩
  rw [hyk, hyn] at e1
  rw [hyk] at c10
  rw [hyn] at c11
  clear ht hyk hyn hop
  go_enter Tryz.func73, Tryz.ntmps73
  go_wp2
  go_quiet (fail)
  go_wp2
  go_ret
  exact ⟨rfl, S.bdr (Below.refl _ _) _⟩
theorem cLays3 (B : Blk w0 w p 112 a.cells) (hop : a.r.op = 3) (hal : a.al = nine) {t : Bool} (ht : decide (a.r.y = nine) = t) :
    Calls Tryz.prog 73 #[pt p] w fun e w' => e = .returned (.bool t) ∧ Below w.heap.size w w' := by
  have c5 : w.cell? ⟨p, 5, none⟩ = some (.int .i64 3) := hop ▸ B.cell 5
  have c10 : w.cell? ⟨p, 10, none⟩ = some (.int .i64 a.r.y.k) := B.cell 10
  have c11 : w.cell? ⟨p, 11, none⟩ = some (.int .i64 a.r.y.n) := B.cell 11
  have c12 : w.cell? ⟨p, 12, none⟩ = some (.int .i64 0) := by have := B.cell 12; simp only [Ax.cells, hal, nine] at this; exact this
  have c13 : w.cell? ⟨p, 13, none⟩ = some (.int .i64 9) := by have := B.cell 13; simp only [Ax.cells, hal, nine] at this; exact this
  have e1 : ∀ w, (binOp .eql 38 (.agg #[.int .i64 a.r.y.k, .int .i64 a.r.y.n]) (.agg #[.int .i64 0, .int .i64 9])).run Tryz.prog w = .ok (.bool t) w := fun w => by rw [← ht]; exact eqVal a.r.y nine w
  obtain ⟨yk, hyk⟩ : ∃ q, a.r.y.k = q := ⟨_, rfl⟩
  obtain ⟨yn, hyn⟩ : ∃ q, a.r.y.n = q := ⟨_, rfl⟩
  rw [hyk, hyn] at e1
  rw [hyk] at c10
  rw [hyn] at c11
  clear ht hyk hyn hop
  go_enter Tryz.func73, Tryz.ntmps73
  go_wp2
  go_quiet (fail)
  go_wp2
  go_ret
  exact ⟨rfl, S.bdr (Below.refl _ _) _⟩
theorem cLays (B : Blk w0 w p 112 a.cells) (hop : a.r.op = 1 ∨ a.r.op = 2 ∨ a.r.op = 3) (hal : a.al = nine) {t : Bool} (ht : decide (lays a.r) = t) :
    Calls Tryz.prog 73 #[pt p] w fun e w' => e = .returned (.bool t) ∧ Below w.heap.size w w' := by
  rcases hop with h | h | h
  · rw [show t = false by rw [← ht]; simp [lays, h]]
    exact cLays1 B h
  · exact cLays2 B h hal (by rw [← ht]; simp [lays, h])
  · exact cLays3 B h hal (by rw [← ht]; simp [lays, h])
theorem cWrites2 (B : Blk w0 w p 112 a.cells) (hop : a.r.op = 2) (v : Vl) :
    Calls Tryz.prog 92 #[pt p, .agg #[.int .i64 v.k, .int .i64 v.n]] w fun e w' => e = .returned (.bool true) ∧ Below w.heap.size w w' := by
  have a1 : Below w.heap.size w (w.alloc (.cells #[.int .i64 v.k, .int .i64 v.n] 38)) := (Below.refl _ _).alloc (Nat.le_refl _) _
  have B1 := B.below a1
  have c5 : w.cell? ⟨p, 5, none⟩ = some (.int .i64 2) := hop ▸ B.cell 5
  have l := B.lt
  go_enter Tryz.func92, Tryz.ntmps92
  go_upto_region 1 with (fail)
  generalize w.alloc (.cells #[.int .i64 v.k, .int .i64 v.n] 38) = w1 at B1 a1 ⊢
  generalize w.heap.size = vb
  clear c5
  have c5 : w1.cell? ⟨p, 5, none⟩ = some (.int .i64 2) := hop ▸ B1.cell 5
  go_quiet (fail)
  go_wp2
  go_ret
  exact ⟨rfl, a1.trans ((S.bdr (Below.refl _ _) _).mono a1.size)⟩
theorem cWrites3 (B : Blk w0 w p 112 a.cells) (hop : a.r.op = 3) (v : Vl) {t : Bool} (ht : decide (v = a.r.x) = t) :
    Calls Tryz.prog 92 #[pt p, .agg #[.int .i64 v.k, .int .i64 v.n]] w fun e w' => e = .returned (.bool t) ∧ Below w.heap.size w w' := by
  have a1 : Below w.heap.size w (w.alloc (.cells #[.int .i64 v.k, .int .i64 v.n] 38)) := (Below.refl _ _).alloc (Nat.le_refl _) _
  have B1 := B.below a1
  have V1 : Blk w (w.alloc (.cells #[.int .i64 v.k, .int .i64 v.n] 38)) w.heap.size 38 #[.int .i64 v.k, .int .i64 v.n] := Blk.new (Nat.le_refl _) _ (by decide)
  have e1 : ∀ w, (binOp .eql 38 (.agg #[.int .i64 v.k, .int .i64 v.n]) (.agg #[.int .i64 a.r.x.k, .int .i64 a.r.x.n])).run Tryz.prog w = .ok (.bool t) w := fun w => by rw [← ht]; exact eqVal v a.r.x w
  go_enter Tryz.func92, Tryz.ntmps92
  go_upto_region 1 with (fail)
  generalize w.alloc (.cells #[.int .i64 v.k, .int .i64 v.n] 38) = w1 at B1 a1 V1 ⊢
  generalize w.heap.size = vb at V1 ⊢
  have c5 : w1.cell? ⟨p, 5, none⟩ = some (.int .i64 3) := hop ▸ B1.cell 5
  have c8 : w1.cell? ⟨p, 8, none⟩ = some (.int .i64 a.r.x.k) := B1.cell 8
  have c9 : w1.cell? ⟨p, 9, none⟩ = some (.int .i64 a.r.x.n) := B1.cell 9
  have v0 : w1.cell? ⟨vb, 0, none⟩ = some (.int .i64 v.k) := V1.cell 0
  have v1 : w1.cell? ⟨vb, 1, none⟩ = some (.int .i64 v.n) := V1.cell 1
  have vl := V1.lt
  clear ht hop
  go_quiet (fail)
  go_wp2
  go_ret
  exact ⟨rfl, a1.trans ((S.bdr (Below.refl _ _) _).mono a1.size)⟩
end
end
theorem rq_cells {w0 w : World} {p : Nat} {a : Ax} (B : Blk w0 w p 112 a.cells) : w.cell? ⟨p, 5, none⟩ = some (.int .i64 a.r.op) ∧ w.cell? ⟨p, 6, none⟩ = some (.int .i64 a.r.at_) ∧ w.cell? ⟨p, 7, none⟩ = some (.int .i64 a.r.fd) ∧ w.cell? ⟨p, 8, none⟩ = some (.int .i64 a.r.x.k) ∧ w.cell? ⟨p, 9, none⟩ = some (.int .i64 a.r.x.n) ∧ w.cell? ⟨p, 10, none⟩ = some (.int .i64 a.r.y.k) ∧ w.cell? ⟨p, 11, none⟩ = some (.int .i64 a.r.y.n) ∧ w.cell? ⟨p, 15, none⟩ = some (.bool a.h.sh) ∧ w.cell? ⟨p, 16, none⟩ = some (.bool a.h.ca) ∧ w.cell? ⟨p, 17, none⟩ = some (.bool a.h.fx) ∧ w.cell? ⟨p, 18, none⟩ = some (.int .i64 a.h.mr) := ⟨B.cell 5, B.cell 6, B.cell 7, B.cell 8, B.cell 9, B.cell 10, B.cell 11, B.cell 15, B.cell 16, B.cell 17, B.cell 18⟩
theorem Blk.put6D {w0 w : World} {p : Nat} {a : Ax} (B : Blk w0 w p 112 a.cells) (x : Sx) (v : Value) : Blk w0 (put6W w p 28 v (.bool x.hit) (.int .i64 x.o.c) (.int .i64 x.o.v.k) (.int .i64 x.o.v.n) (.bool x.o.y)) p 112 ({ a with d := x, vd := v } : Ax).cells :=
  cellsD a x v ▸ (((((B.set 28 _).set 29 _).set 30 _).set 31 _).set 32 _).set 33 _
section
set_option maxHeartbeats 2000000
theorem cEnter {w0 w : World} {p : Nat} {a : Ax} {base : Int} (B : Blk w0 w p 112 a.cells) (hop : a.r.op = 1 ∨ a.r.op = 2 ∨ a.r.op = 3) (h4 : 0 ≤ a.r.fd) (h5 : a.r.fd < 4096) (h0 : 0 ≤ base) (h1 : base < 4096) :
    Calls Tryz.prog 71 #[pt p, .int .i64 base] w fun e w' => e = .returned (.tuple #[]) ∧ Kept [p] w w' ∧ ∃ v, Blk w0 w' p 112 ({ a with pc := 6, d := (Sx.new (base + 1 + a.r.fd) a.r a.h), vd := v } : Ax).cells ∧ RepO w' (Sx.new (base + 1 + a.r.fd) a.r a.h).k v := by
  obtain ⟨pn, ⟨op, at_, fd, ⟨xk, xn⟩, ⟨yk, yn⟩⟩, al, shu, ⟨sh, ca, fx, mr⟩, pc, l, z, ap, vp, ad, vd, hit, ao⟩ := a
  simp only at hop h4 h5
  obtain ⟨f, hf⟩ : ∃ f, base + 1 + fd = f := ⟨_, rfl⟩
  simp only [hf]
  have c5 : w.cell? ⟨p, 5, none⟩ = some (.int .i64 op) := B.cell 5
  rcases hop with rfl | rfl | rfl
  · go_enter Tryz.func71, Tryz.ntmps71
    go_upto_region 5 with (fail)
    clear c5
    have hbd : Below w.heap.size w w.drew := (Below.refl _ _).drew
    have Bd := B.below hbd
    have Kd : Kept [p] w w.drew := Kept.of_below hbd
    refine wp_region_noPanic ?_
    refine wp_region_held_drew (S := fun w' => w'.cell? ⟨p, 5, none⟩ = some (.int .i64 1) ∧ w'.cell? ⟨p, 6, none⟩ = some (.int .i64 at_) ∧ w'.cell? ⟨p, 7, none⟩ = some (.int .i64 fd) ∧ w'.cell? ⟨p, 8, none⟩ = some (.int .i64 xk) ∧ w'.cell? ⟨p, 9, none⟩ = some (.int .i64 xn) ∧ w'.cell? ⟨p, 10, none⟩ = some (.int .i64 yk) ∧ w'.cell? ⟨p, 11, none⟩ = some (.int .i64 yn) ∧ w'.cell? ⟨p, 15, none⟩ = some (.bool sh) ∧ w'.cell? ⟨p, 16, none⟩ = some (.bool ca) ∧ w'.cell? ⟨p, 17, none⟩ = some (.bool fx) ∧ w'.cell? ⟨p, 18, none⟩ = some (.int .i64 mr)) (by kernel_rfl) (rq_cells Bd) (fun hHeld => ?_)
    refine tkH (i := 0) 16 (pt p) rfl rfl ?_
    simp only [sA1, sA2, sA3]
    refine tkH (i := 1) 17 (.int .i64 base) rfl rfl ?_
    simp only [sA1, sA2, sA3]
    refine tkH (i := 2) 18 (pt p) rfl rfl ?_
    simp only [sA1, sA2, sA3]
    refine tkH (i := 3) 19 (pt p) rfl rfl ?_
    simp only [sA1, sA2, sA3]
    refine tkH (i := 4) 20 (.pointer (some ⟨p, 5, none⟩)) rfl rfl ?_
    simp only [sA1, sA2, sA3]
    refine tkH (i := 5) 21 (.agg #[.int .i64 1, .int .i64 at_, .int .i64 fd, .int .i64 xk, .int .i64 xn, .int .i64 yk, .int .i64 yn]) rfl rfl ?_
    simp only [sA1, sA2, sA3]
    refine tkH (i := 6) 22 (pt p) rfl rfl ?_
    simp only [sA1, sA2, sA3]
    refine tkH (i := 7) 23 (pt p) rfl rfl ?_
    simp only [sA1, sA2, sA3]
    refine tkH (i := 8) 24 (.pointer (some ⟨p, 15, none⟩)) rfl rfl ?_
    simp only [sA1, sA2, sA3]
    refine tkH (i := 9) 25 (.agg #[.bool sh, .bool ca, .bool fx, .int .i64 mr]) rfl rfl ?_
    simp only [sA1, sA2, sA3]
    refine rd1 10 rfl fun K hK => ?_
    go_simp
    refine (cNewDirect base (Rq.mk 1 at_ fd ⟨xk, xn⟩ ⟨yk, yn⟩) (Hw.mk sh ca fx mr) _ h0 h1 h4 h5).mono ?_
    rintro e w2 ⟨pd, rfl, M⟩
    rw [hf] at M
    have B2 := Bd.below M.bel
    have K2 := Kd.tr (Kept.of_below (F := [p]) M.bel)
    obtain ⟨v, eb, R2⟩ := M.blk
    obtain ⟨nf, cf, hv⟩ := (RepO.fn R2).resolve_left (fun e => by rw [e] at R2; simp [Sx.new, firstK, RepO] at R2; first | exact absurd R2.fn (by simp) | (obtain ⟨_, _, e'⟩ := Rep.fn R2; cases e'))
    rw [hv] at R2 eb
    have np : pd ≠ p := fun e => (by have := M.new; have := Bd.lt; omega)
    have x0 : w2.cell? ⟨pd, 0, none⟩ = some (.func (.func nf) #[] cf) := cell_of_row w2 _ _ _ _ _ eb
    have x1 : w2.cell? ⟨pd, 1, none⟩ = some (.bool false) := cell_of_row w2 _ _ _ _ _ eb
    have x2 : w2.cell? ⟨pd, 2, none⟩ = some (.int .i64 0) := cell_of_row w2 _ _ _ _ _ eb
    have x3 : w2.cell? ⟨pd, 3, none⟩ = some (.int .i64 0) := cell_of_row w2 _ _ _ _ _ eb
    have x4 : w2.cell? ⟨pd, 4, none⟩ = some (.int .i64 0) := cell_of_row w2 _ _ _ _ _ eb
    have x5 : w2.cell? ⟨pd, 5, none⟩ = some (.bool false) := cell_of_row w2 _ _ _ _ _ eb
    have zz28 : w2.cell? ⟨p, 28, none⟩ = some (vd) := B2.cell 28
    have zf28 := B2.free 28
    have zz29 : w2.cell? ⟨p, 29, none⟩ = some (.bool ad.hit) := B2.cell 29
    have zf29 := B2.free 29
    have zz30 : w2.cell? ⟨p, 30, none⟩ = some (.int .i64 ad.o.c) := B2.cell 30
    have zf30 := B2.free 30
    have zz31 : w2.cell? ⟨p, 31, none⟩ = some (.int .i64 ad.o.v.k) := B2.cell 31
    have zf31 := B2.free 31
    have zz32 : w2.cell? ⟨p, 32, none⟩ = some (.int .i64 ad.o.v.n) := B2.cell 32
    have zf32 := B2.free 32
    have zz33 : w2.cell? ⟨p, 33, none⟩ = some (.bool ad.o.y) := B2.cell 33
    have zf33 := B2.free 33
    clear M eb hv
    refine hK.out _ _ (rq_cells B2) (fun hHeld => ?_)
    clear hK K
    try simp only [Act.put, sA1, sA2, sA3]
    refine tkH (i := 11) 27 (pt pd) rfl rfl ?_
    simp only [sA1, sA2, sA3]
    refine rd1 12 rfl fun K hK => ?_
    go_simp
    refine hK.out _ _ (rq_cells B2) (fun hHeld => ?_)
    clear hK K
    try simp only [Act.put, sA1, sA2, sA3]
    refine tkH (i := 13) 29 (pt p) rfl rfl ?_
    simp only [sA1, sA2, sA3]
    refine tkH (i := 14) 30 (.pointer (some ⟨p, 28, none⟩)) rfl rfl ?_
    simp only [sA1, sA2, sA3]
    have B3 := B2.put6D (Sx.new f (Rq.mk 1 at_ fd ⟨xk, xn⟩ ⟨yk, yn⟩) (Hw.mk sh ca fx mr)) (.func (.func nf) #[] cf)
    have K3 := K2.tr (Kept.put6at w2 p 28 (.func (.func nf) #[] cf) (.bool false) (.int .i64 0) (.int .i64 0) (.int .i64 0) (.bool false))
    have R3 := R2.oth (F := [p]) (Oth.kept (Kept.put6at w2 p 28 (.func (.func nf) #[] cf) (.bool false) (.int .i64 0) (.int .i64 0) (.int .i64 0) (.bool false))) (fun q hq => by simp at hq; subst hq; exact ⟨_, _, _, B2.at_, by decide⟩)
    refine rd1 15 rfl fun K hK => ?_
    go_simp
    refine hK.out _ _ (rq_cells B3) (fun hHeld => ?_)
    clear hK K
    try simp only [Act.put, sA1, sA2, sA3]
    refine wpAnyH_done (by kernel_rfl) ?_ _
    refine NoPanic.normal ?_
    unfold put6W at B3 K3 R3
    clear x0 x1 x2 x3 x4 x5 zz28 zf28 zz29 zf29 zz30 zf30 zz31 zf31 zz32 zf32 zz33 zf33
    simp only [Sx.new, Ou.zero, Vl.zero] at B3
    generalize (((((w2.setCell ⟨p, 28, none⟩ (.func (.func nf) #[] cf)).setCell ⟨p, 28 + 1, none⟩ (.bool false)).setCell ⟨p, 28 + 2, none⟩ (.int .i64 0)).setCell ⟨p, 28 + 3, none⟩ (.int .i64 0)).setCell ⟨p, 28 + 4, none⟩ (.int .i64 0)).setCell ⟨p, 28 + 5, none⟩ (.bool false) = w3 at B3 K3 R3 ⊢
    have c19 : w3.cell? ⟨p, 19, none⟩ = some (stFn pc) := B3.cell 19
    have f19 := B3.free 19
    have B4 := B3.s_pc 6
    go_wp2
    go_end0
    exact ⟨rfl, K3.tr (Kept.setCell [p] _ _ _ (by simp)), _, B4, R3.oth (F := [p]) (Oth.set _ _ _ _ (by simp)) (fun q hq => by simp at hq; subst hq; exact ⟨_, _, _, B3.at_, by decide⟩)⟩
  · go_enter Tryz.func71, Tryz.ntmps71
    go_upto_region 5 with (fail)
    clear c5
    have hbd : Below w.heap.size w w.drew := (Below.refl _ _).drew
    have Bd := B.below hbd
    have Kd : Kept [p] w w.drew := Kept.of_below hbd
    refine wp_region_noPanic ?_
    refine wp_region_held_drew (S := fun w' => w'.cell? ⟨p, 5, none⟩ = some (.int .i64 2) ∧ w'.cell? ⟨p, 6, none⟩ = some (.int .i64 at_) ∧ w'.cell? ⟨p, 7, none⟩ = some (.int .i64 fd) ∧ w'.cell? ⟨p, 8, none⟩ = some (.int .i64 xk) ∧ w'.cell? ⟨p, 9, none⟩ = some (.int .i64 xn) ∧ w'.cell? ⟨p, 10, none⟩ = some (.int .i64 yk) ∧ w'.cell? ⟨p, 11, none⟩ = some (.int .i64 yn) ∧ w'.cell? ⟨p, 15, none⟩ = some (.bool sh) ∧ w'.cell? ⟨p, 16, none⟩ = some (.bool ca) ∧ w'.cell? ⟨p, 17, none⟩ = some (.bool fx) ∧ w'.cell? ⟨p, 18, none⟩ = some (.int .i64 mr)) (by kernel_rfl) (rq_cells Bd) (fun hHeld => ?_)
    refine tkH (i := 0) 16 (pt p) rfl rfl ?_
    simp only [sA1, sA2, sA3]
    refine tkH (i := 1) 17 (.int .i64 base) rfl rfl ?_
    simp only [sA1, sA2, sA3]
    refine tkH (i := 2) 18 (pt p) rfl rfl ?_
    simp only [sA1, sA2, sA3]
    refine tkH (i := 3) 19 (pt p) rfl rfl ?_
    simp only [sA1, sA2, sA3]
    refine tkH (i := 4) 20 (.pointer (some ⟨p, 5, none⟩)) rfl rfl ?_
    simp only [sA1, sA2, sA3]
    refine tkH (i := 5) 21 (.agg #[.int .i64 2, .int .i64 at_, .int .i64 fd, .int .i64 xk, .int .i64 xn, .int .i64 yk, .int .i64 yn]) rfl rfl ?_
    simp only [sA1, sA2, sA3]
    refine tkH (i := 6) 22 (pt p) rfl rfl ?_
    simp only [sA1, sA2, sA3]
    refine tkH (i := 7) 23 (pt p) rfl rfl ?_
    simp only [sA1, sA2, sA3]
    refine tkH (i := 8) 24 (.pointer (some ⟨p, 15, none⟩)) rfl rfl ?_
    simp only [sA1, sA2, sA3]
    refine tkH (i := 9) 25 (.agg #[.bool sh, .bool ca, .bool fx, .int .i64 mr]) rfl rfl ?_
    simp only [sA1, sA2, sA3]
    refine rd1 10 rfl fun K hK => ?_
    go_simp
    refine (cNewDirect base (Rq.mk 2 at_ fd ⟨xk, xn⟩ ⟨yk, yn⟩) (Hw.mk sh ca fx mr) _ h0 h1 h4 h5).mono ?_
    rintro e w2 ⟨pd, rfl, M⟩
    rw [hf] at M
    have B2 := Bd.below M.bel
    have K2 := Kd.tr (Kept.of_below (F := [p]) M.bel)
    obtain ⟨v, eb, R2⟩ := M.blk
    obtain ⟨nf, cf, hv⟩ := (RepO.fn R2).resolve_left (fun e => by rw [e] at R2; simp [Sx.new, firstK, RepO] at R2; first | exact absurd R2.fn (by simp) | (obtain ⟨_, _, e'⟩ := Rep.fn R2; cases e'))
    rw [hv] at R2 eb
    have np : pd ≠ p := fun e => (by have := M.new; have := Bd.lt; omega)
    have x0 : w2.cell? ⟨pd, 0, none⟩ = some (.func (.func nf) #[] cf) := cell_of_row w2 _ _ _ _ _ eb
    have x1 : w2.cell? ⟨pd, 1, none⟩ = some (.bool false) := cell_of_row w2 _ _ _ _ _ eb
    have x2 : w2.cell? ⟨pd, 2, none⟩ = some (.int .i64 0) := cell_of_row w2 _ _ _ _ _ eb
    have x3 : w2.cell? ⟨pd, 3, none⟩ = some (.int .i64 0) := cell_of_row w2 _ _ _ _ _ eb
    have x4 : w2.cell? ⟨pd, 4, none⟩ = some (.int .i64 0) := cell_of_row w2 _ _ _ _ _ eb
    have x5 : w2.cell? ⟨pd, 5, none⟩ = some (.bool false) := cell_of_row w2 _ _ _ _ _ eb
    have zz28 : w2.cell? ⟨p, 28, none⟩ = some (vd) := B2.cell 28
    have zf28 := B2.free 28
    have zz29 : w2.cell? ⟨p, 29, none⟩ = some (.bool ad.hit) := B2.cell 29
    have zf29 := B2.free 29
    have zz30 : w2.cell? ⟨p, 30, none⟩ = some (.int .i64 ad.o.c) := B2.cell 30
    have zf30 := B2.free 30
    have zz31 : w2.cell? ⟨p, 31, none⟩ = some (.int .i64 ad.o.v.k) := B2.cell 31
    have zf31 := B2.free 31
    have zz32 : w2.cell? ⟨p, 32, none⟩ = some (.int .i64 ad.o.v.n) := B2.cell 32
    have zf32 := B2.free 32
    have zz33 : w2.cell? ⟨p, 33, none⟩ = some (.bool ad.o.y) := B2.cell 33
    have zf33 := B2.free 33
    clear M eb hv
    refine hK.out _ _ (rq_cells B2) (fun hHeld => ?_)
    clear hK K
    try simp only [Act.put, sA1, sA2, sA3]
    refine tkH (i := 11) 27 (pt pd) rfl rfl ?_
    simp only [sA1, sA2, sA3]
    refine rd1 12 rfl fun K hK => ?_
    go_simp
    refine hK.out _ _ (rq_cells B2) (fun hHeld => ?_)
    clear hK K
    try simp only [Act.put, sA1, sA2, sA3]
    refine tkH (i := 13) 29 (pt p) rfl rfl ?_
    simp only [sA1, sA2, sA3]
    refine tkH (i := 14) 30 (.pointer (some ⟨p, 28, none⟩)) rfl rfl ?_
    simp only [sA1, sA2, sA3]
    have B3 := B2.put6D (Sx.new f (Rq.mk 2 at_ fd ⟨xk, xn⟩ ⟨yk, yn⟩) (Hw.mk sh ca fx mr)) (.func (.func nf) #[] cf)
    have K3 := K2.tr (Kept.put6at w2 p 28 (.func (.func nf) #[] cf) (.bool false) (.int .i64 0) (.int .i64 0) (.int .i64 0) (.bool false))
    have R3 := R2.oth (F := [p]) (Oth.kept (Kept.put6at w2 p 28 (.func (.func nf) #[] cf) (.bool false) (.int .i64 0) (.int .i64 0) (.int .i64 0) (.bool false))) (fun q hq => by simp at hq; subst hq; exact ⟨_, _, _, B2.at_, by decide⟩)
    refine rd1 15 rfl fun K hK => ?_
    go_simp
    refine hK.out _ _ (rq_cells B3) (fun hHeld => ?_)
    clear hK K
    try simp only [Act.put, sA1, sA2, sA3]
    refine wpAnyH_done (by kernel_rfl) ?_ _
    refine NoPanic.normal ?_
    unfold put6W at B3 K3 R3
    clear x0 x1 x2 x3 x4 x5 zz28 zf28 zz29 zf29 zz30 zf30 zz31 zf31 zz32 zf32 zz33 zf33
    simp only [Sx.new, Ou.zero, Vl.zero] at B3
    generalize (((((w2.setCell ⟨p, 28, none⟩ (.func (.func nf) #[] cf)).setCell ⟨p, 28 + 1, none⟩ (.bool false)).setCell ⟨p, 28 + 2, none⟩ (.int .i64 0)).setCell ⟨p, 28 + 3, none⟩ (.int .i64 0)).setCell ⟨p, 28 + 4, none⟩ (.int .i64 0)).setCell ⟨p, 28 + 5, none⟩ (.bool false) = w3 at B3 K3 R3 ⊢
    have c19 : w3.cell? ⟨p, 19, none⟩ = some (stFn pc) := B3.cell 19
    have f19 := B3.free 19
    have B4 := B3.s_pc 6
    go_wp2
    go_end0
    exact ⟨rfl, K3.tr (Kept.setCell [p] _ _ _ (by simp)), _, B4, R3.oth (F := [p]) (Oth.set _ _ _ _ (by simp)) (fun q hq => by simp at hq; subst hq; exact ⟨_, _, _, B3.at_, by decide⟩)⟩
  · go_enter Tryz.func71, Tryz.ntmps71
    go_upto_region 5 with (fail)
    clear c5
    have hbd : Below w.heap.size w w.drew := (Below.refl _ _).drew
    have Bd := B.below hbd
    have Kd : Kept [p] w w.drew := Kept.of_below hbd
    refine wp_region_noPanic ?_
    refine wp_region_held_drew (S := fun w' => w'.cell? ⟨p, 5, none⟩ = some (.int .i64 3) ∧ w'.cell? ⟨p, 6, none⟩ = some (.int .i64 at_) ∧ w'.cell? ⟨p, 7, none⟩ = some (.int .i64 fd) ∧ w'.cell? ⟨p, 8, none⟩ = some (.int .i64 xk) ∧ w'.cell? ⟨p, 9, none⟩ = some (.int .i64 xn) ∧ w'.cell? ⟨p, 10, none⟩ = some (.int .i64 yk) ∧ w'.cell? ⟨p, 11, none⟩ = some (.int .i64 yn) ∧ w'.cell? ⟨p, 15, none⟩ = some (.bool sh) ∧ w'.cell? ⟨p, 16, none⟩ = some (.bool ca) ∧ w'.cell? ⟨p, 17, none⟩ = some (.bool fx) ∧ w'.cell? ⟨p, 18, none⟩ = some (.int .i64 mr)) (by kernel_rfl) (rq_cells Bd) (fun hHeld => ?_)
    refine tkH (i := 0) 16 (pt p) rfl rfl ?_
    simp only [sA1, sA2, sA3]
    refine tkH (i := 1) 17 (.int .i64 base) rfl rfl ?_
    simp only [sA1, sA2, sA3]
    refine tkH (i := 2) 18 (pt p) rfl rfl ?_
    simp only [sA1, sA2, sA3]
    refine tkH (i := 3) 19 (pt p) rfl rfl ?_
    simp only [sA1, sA2, sA3]
    refine tkH (i := 4) 20 (.pointer (some ⟨p, 5, none⟩)) rfl rfl ?_
    simp only [sA1, sA2, sA3]
    refine tkH (i := 5) 21 (.agg #[.int .i64 3, .int .i64 at_, .int .i64 fd, .int .i64 xk, .int .i64 xn, .int .i64 yk, .int .i64 yn]) rfl rfl ?_
    simp only [sA1, sA2, sA3]
    refine tkH (i := 6) 22 (pt p) rfl rfl ?_
    simp only [sA1, sA2, sA3]
    refine tkH (i := 7) 23 (pt p) rfl rfl ?_
    simp only [sA1, sA2, sA3]
    refine tkH (i := 8) 24 (.pointer (some ⟨p, 15, none⟩)) rfl rfl ?_
    simp only [sA1, sA2, sA3]
    refine tkH (i := 9) 25 (.agg #[.bool sh, .bool ca, .bool fx, .int .i64 mr]) rfl rfl ?_
    simp only [sA1, sA2, sA3]
    refine rd1 10 rfl fun K hK => ?_
    go_simp
    refine (cNewDirect base (Rq.mk 3 at_ fd ⟨xk, xn⟩ ⟨yk, yn⟩) (Hw.mk sh ca fx mr) _ h0 h1 h4 h5).mono ?_
    rintro e w2 ⟨pd, rfl, M⟩
    rw [hf] at M
    have B2 := Bd.below M.bel
    have K2 := Kd.tr (Kept.of_below (F := [p]) M.bel)
    obtain ⟨v, eb, R2⟩ := M.blk
    obtain ⟨nf, cf, hv⟩ := (RepO.fn R2).resolve_left (fun e => by rw [e] at R2; simp [Sx.new, firstK, RepO] at R2; first | exact absurd R2.fn (by simp) | (obtain ⟨_, _, e'⟩ := Rep.fn R2; cases e'))
    rw [hv] at R2 eb
    have np : pd ≠ p := fun e => (by have := M.new; have := Bd.lt; omega)
    have x0 : w2.cell? ⟨pd, 0, none⟩ = some (.func (.func nf) #[] cf) := cell_of_row w2 _ _ _ _ _ eb
    have x1 : w2.cell? ⟨pd, 1, none⟩ = some (.bool false) := cell_of_row w2 _ _ _ _ _ eb
    have x2 : w2.cell? ⟨pd, 2, none⟩ = some (.int .i64 0) := cell_of_row w2 _ _ _ _ _ eb
    have x3 : w2.cell? ⟨pd, 3, none⟩ = some (.int .i64 0) := cell_of_row w2 _ _ _ _ _ eb
    have x4 : w2.cell? ⟨pd, 4, none⟩ = some (.int .i64 0) := cell_of_row w2 _ _ _ _ _ eb
    have x5 : w2.cell? ⟨pd, 5, none⟩ = some (.bool false) := cell_of_row w2 _ _ _ _ _ eb
    have zz28 : w2.cell? ⟨p, 28, none⟩ = some (vd) := B2.cell 28
    have zf28 := B2.free 28
    have zz29 : w2.cell? ⟨p, 29, none⟩ = some (.bool ad.hit) := B2.cell 29
    have zf29 := B2.free 29
    have zz30 : w2.cell? ⟨p, 30, none⟩ = some (.int .i64 ad.o.c) := B2.cell 30
    have zf30 := B2.free 30
    have zz31 : w2.cell? ⟨p, 31, none⟩ = some (.int .i64 ad.o.v.k) := B2.cell 31
    have zf31 := B2.free 31
    have zz32 : w2.cell? ⟨p, 32, none⟩ = some (.int .i64 ad.o.v.n) := B2.cell 32
    have zf32 := B2.free 32
    have zz33 : w2.cell? ⟨p, 33, none⟩ = some (.bool ad.o.y) := B2.cell 33
    have zf33 := B2.free 33
    clear M eb hv
    refine hK.out _ _ (rq_cells B2) (fun hHeld => ?_)
    clear hK K
    try simp only [Act.put, sA1, sA2, sA3]
    refine tkH (i := 11) 27 (pt pd) rfl rfl ?_
    simp only [sA1, sA2, sA3]
    refine rd1 12 rfl fun K hK => ?_
    go_simp
    refine hK.out _ _ (rq_cells B2) (fun hHeld => ?_)
    clear hK K
    try simp only [Act.put, sA1, sA2, sA3]
    refine tkH (i := 13) 29 (pt p) rfl rfl ?_
    simp only [sA1, sA2, sA3]
    refine tkH (i := 14) 30 (.pointer (some ⟨p, 28, none⟩)) rfl rfl ?_
    simp only [sA1, sA2, sA3]
    have B3 := B2.put6D (Sx.new f (Rq.mk 3 at_ fd ⟨xk, xn⟩ ⟨yk, yn⟩) (Hw.mk sh ca fx mr)) (.func (.func nf) #[] cf)
    have K3 := K2.tr (Kept.put6at w2 p 28 (.func (.func nf) #[] cf) (.bool false) (.int .i64 0) (.int .i64 0) (.int .i64 0) (.bool false))
    have R3 := R2.oth (F := [p]) (Oth.kept (Kept.put6at w2 p 28 (.func (.func nf) #[] cf) (.bool false) (.int .i64 0) (.int .i64 0) (.int .i64 0) (.bool false))) (fun q hq => by simp at hq; subst hq; exact ⟨_, _, _, B2.at_, by decide⟩)
    refine rd1 15 rfl fun K hK => ?_
    go_simp
    refine hK.out _ _ (rq_cells B3) (fun hHeld => ?_)
    clear hK K
    try simp only [Act.put, sA1, sA2, sA3]
    refine wpAnyH_done (by kernel_rfl) ?_ _
    refine NoPanic.normal ?_
    unfold put6W at B3 K3 R3
    clear x0 x1 x2 x3 x4 x5 zz28 zf28 zz29 zf29 zz30 zf30 zz31 zf31 zz32 zf32 zz33 zf33
    simp only [Sx.new, Ou.zero, Vl.zero] at B3
    generalize (((((w2.setCell ⟨p, 28, none⟩ (.func (.func nf) #[] cf)).setCell ⟨p, 28 + 1, none⟩ (.bool false)).setCell ⟨p, 28 + 2, none⟩ (.int .i64 0)).setCell ⟨p, 28 + 3, none⟩ (.int .i64 0)).setCell ⟨p, 28 + 4, none⟩ (.int .i64 0)).setCell ⟨p, 28 + 5, none⟩ (.bool false) = w3 at B3 K3 R3 ⊢
    have c19 : w3.cell? ⟨p, 19, none⟩ = some (stFn pc) := B3.cell 19
    have f19 := B3.free 19
    have B4 := B3.s_pc 6
    go_wp2
    go_end0
    exact ⟨rfl, K3.tr (Kept.setCell [p] _ _ _ (by simp)), _, B4, R3.oth (F := [p]) (Oth.set _ _ _ _ (by simp)) (fun q hq => by simp at hq; subst hq; exact ⟨_, _, _, B3.at_, by decide⟩)⟩
end
end Go.Proofs.YtmlgohknbjfciaaGreatDoor
