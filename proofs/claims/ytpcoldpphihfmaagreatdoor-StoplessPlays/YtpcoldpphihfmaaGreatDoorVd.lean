import Derived.Test.YtpcoldpphihfmaaGreatDoorDeq
import Derived.Laws.StructEq
import Derived.Test.YtpcoldpphihfmaaGreatDoorVe
import Derived.Test.YtpcoldpphihfmaaGreatDoorDt
import Derived.Test.YtpcoldpphihfmaaGreatDoorHand
import Derived.Deep.Cut
import Derived.BigQuiet
import Derived.Laws.EntriesVeiled
namespace Go.Proofs.YtpcoldpphihfmaaGreatDoor
set_option linter.unusedVariables false
set_option maxRecDepth 100000
open Go.ChangeShapes Go.WideShapes Go.ChangeAt Go.RowKit
theorem fOut0 (a b c : Int) (d : Bool) (w : World) : (Instr.field 60 (.agg #[.int .i64 a, .int .i64 b, .int .i64 c, .bool d]) 0).run Tryz.prog w = .ok (.int .i64 a) w := by kernel_rfl
theorem fOut1 (a b c : Int) (d : Bool) (w : World) : (Instr.field 60 (.agg #[.int .i64 a, .int .i64 b, .int .i64 c, .bool d]) 1).run Tryz.prog w = .ok (.agg #[.int .i64 b, .int .i64 c]) w := by kernel_rfl
theorem fVal1 (a b : Int) (w : World) : (Instr.field 38 (.agg #[.int .i64 a, .int .i64 b]) 1).run Tryz.prog w = .ok (.int .i64 b) w := by kernel_rfl
end Go.Proofs.YtpcoldpphihfmaaGreatDoor
namespace Go.Proofs.YtpcoldpphihfmaaGreatDoor
set_option linter.unusedVariables false
set_option linter.unusedSimpArgs false
set_option maxRecDepth 100000
open Go.ChangeShapes Go.WideShapes Go.RowKit
open H.Plain (hw pS pC pN pM pG pT pL mv)
theorem viaQ {P : Program} {f : Nat} {args : Array Value} {w : World} {R : Ending → World → Prop} (h : ∀ Q : Ending → World → Prop, Hid (∀ e w', R e w' → Q e w') → Calls P f args w fun e w' => Q e w') : Calls P f args w fun e w' => R e w' := h R fun _ _ h => h
section
variable {ow : Bool} {w0 w w' : World} {b y p : Nat} {s1 s2 : St} {N : Nat} {a : Ax}
theorem tLoad (h : TwoT ow w0 w b y s1 s2 N) (hN : N < 1000000) (a : Int) :
  Calls Tryz.prog 34 #[pt b, .int .i64 a] w fun e w' => e = .returned (.int .u64 (s1.got a)) ∧ TwoT ow w0 w' b y (s1.load a) s2 (N + 1) ∧ Oth [] w w' := by
 have ht := h.top1
 have hc : s1.c < 1000000 := by omega
 have f := h.fit1
 have r := h.rng1
 obtain ⟨L, rfl, A, k⟩ := h.step1
 refine (cLoad A f hc a).mono ?_
 rintro e w' ⟨rfl, L', A', g⟩
 exact ⟨rfl, k A' g (f.load hc a) (r.load a) (by rw [St.c_load]; omega) (by omega)⟩
theorem tCAS (h : TwoT ow w0 w b y s1 s2 N) (hN : N < 1000000) (a o : Int) {x : Int} (hx : U64 x) :
  Calls Tryz.prog 62 #[pt b, .int .i64 a, .int .u64 o, .int .u64 x] w fun e w' => e = .returned (.bool (s1.ok1 a o)) ∧ TwoT ow w0 w' b y (s1.cas a o x) s2 (N + 1) ∧ Oth [] w w' := by
 have ht := h.top1
 have hc : s1.c < 1000000 := by omega
 have f := h.fit1
 have r := h.rng1
 obtain ⟨L, rfl, A, k⟩ := h.step1
 refine (cCAS A f hc a o x).mono ?_
 rintro e w' ⟨rfl, L', A', g⟩
 exact ⟨rfl, k A' g (f.cas hc a o x) (r.cas a o hx) (by rw [St.c_cas]; omega) (by omega)⟩
theorem tCAS2 (h : TwoT ow w0 w b y s1 s2 N) (hN : N < 1000000) (a o0 o1 : Int) {x0 x1 : Int} (h0 : U64 x0) (h1 : U64 x1) :
  Calls Tryz.prog 63 #[pt b, .int .i64 a, .int .u64 o0, .int .u64 o1, .int .u64 x0, .int .u64 x1] w fun e w' => e = .returned (.bool (s1.ok2 a o0 o1)) ∧ TwoT ow w0 w' b y (s1.cas2 a o0 o1 x0 x1) s2 (N + 1) ∧ Oth [] w w' := by
 have ht := h.top1
 have hc : s1.c < 1000000 := by omega
 have f := h.fit1
 have r := h.rng1
 obtain ⟨L, rfl, A, k⟩ := h.step1
 refine (cCAS2 A f hc a o0 o1 x0 x1).mono ?_
 rintro e w' ⟨rfl, L', A', g⟩
 exact ⟨rfl, k A' g (f.cas2 hc a o0 o1 x0 x1) (rng_cas2 r a o0 o1 h0 h1) (by rw [St.c_cas2]; omega) (by omega)⟩
theorem to_twoB {q : Nat} {T : TypeId} {cs : Array Value} (h : TwoT ow w0 w b y s1 s2 N) (K : Kept [q] w w') (B : Blk w0 w q T cs) : TwoT ow w0 w' b y s1 s2 N := h.kept K fun k hk => by simp at hk; subst hk; exact ⟨B.old, _, _, _, B.hT, B.at_⟩
theorem Kept.tr {F : List Nat} {u v : World} (h : Kept F w u) (g : Kept F u v) : Kept F w v := h.trans g fun _ h => .inl h
theorem Kept.one (w : World) (p i : Nat) (v : Value) : Kept [p] w (w.setCell ⟨p, i, none⟩ v) := Kept.setCell [p] _ _ _ (by simp)
theorem Blk.s_pc (B : Blk w0 w p 114 a.cells) (v : Int) : Blk w0 (w.setCell ⟨p, 12, none⟩ (.int .i64 v)) p 114 ({ a with pc := v } : Ax).cells := B.set 12 _
theorem Blk.s_wd (B : Blk w0 w p 114 a.cells) (v : Int) : Blk w0 (w.setCell ⟨p, 13, none⟩ (.int .i64 v)) p 114 ({ a with wd := v } : Ax).cells := B.set 13 _
theorem Blk.s_l (B : Blk w0 w p 114 a.cells) (v : Int) : Blk w0 (w.setCell ⟨p, 14, none⟩ (.int .i64 v)) p 114 ({ a with l := v } : Ax).cells := B.set 14 _
theorem Blk.s_z0 (B : Blk w0 w p 114 a.cells) (v : Int) : Blk w0 (w.setCell ⟨p, 15, none⟩ (.int .u64 v)) p 114 ({ a with z0 := v } : Ax).cells := B.set 15 _
theorem Blk.s_z (B : Blk w0 w p 114 a.cells) (v : Int) : Blk w0 (w.setCell ⟨p, 16, none⟩ (.int .u64 v)) p 114 ({ a with z := v } : Ax).cells := B.set 16 _
theorem Blk.s_hit (B : Blk w0 w p 114 a.cells) (v : Bool) : Blk w0 (w.setCell ⟨p, 29, none⟩ (.bool v)) p 114 ({ a with hit := v } : Ax).cells := B.set 29 _
theorem Blk.s_o (B : Blk w0 w p 114 a.cells) (v : Ou) : Blk w0 ((((w.setCell ⟨p, 30, none⟩ (.int .i64 v.c)).setCell ⟨p, 31, none⟩ (.int .i64 v.v.k)).setCell ⟨p, 32, none⟩ (.int .i64 v.v.n)).setCell ⟨p, 33, none⟩ (.bool v.y)) p 114 ({ a with o := v } : Ax).cells := (((B.set 30 _).set 31 _).set 32 _).set 33 _
theorem kept4o (w : World) (p : Nat) (v : Ou) : Kept [p] w ((((w.setCell ⟨p, 30, none⟩ (.int .i64 v.c)).setCell ⟨p, 31, none⟩ (.int .i64 v.v.k)).setCell ⟨p, 32, none⟩ (.int .i64 v.v.n)).setCell ⟨p, 33, none⟩ (.bool v.y)) := (((Kept.one ..).tr (Kept.one ..)).tr (Kept.one ..)).tr (Kept.one ..)
structure To (ow : Bool) (w0 w w' : World) (b y p : Nat) (s1 s2 : St) (N : Nat) (a : Ax) : Prop where
 two : TwoT ow w0 w' b y s1 s2 N
 blk : Blk w0 w' p 114 a.cells
 oth : Oth [p] w w'
theorem To.kept {N' : Nat} {s : St} {a' a'' : Ax} {w'' : World} (t : To ow w0 w w' b y p s s2 N' a') (K : Kept [p] w' w'') (B : Blk w0 w'' p 114 a''.cells) : To ow w0 w w'' b y p s s2 N' a'' := ⟨to_twoB t.two K t.blk, B, t.oth.trans (Oth.kept K)⟩
theorem To.below {N' : Nat} {s : St} {a' : Ax} {w'' : World} (t : To ow w0 w w' b y p s s2 N' a') (hb : Below w'.heap.size w' w'') : To ow w0 w w'' b y p s s2 N' a' := ⟨t.two.below hb, t.blk.below hb, t.oth.trans (Oth.below hb)⟩
theorem To.oth0 {N' N2 : Nat} {s s' : St} {a' : Ax} {w'' : World} (t : To ow w0 w w' b y p s s2 N' a') (h : TwoT ow w0 w'' b y s' s2 N2) (o : Oth [] w' w'') : To ow w0 w w'' b y p s' s2 N2 a' := ⟨h, t.blk.oth o (by simp), t.oth.trans (o.mono (by simp))⟩
theorem To.refl (h : TwoT ow w0 w b y s1 s2 N) (B : Blk w0 w p 114 a.cells) : To ow w0 w w b y p s1 s2 N a := ⟨h, B, Oth.refl _ _⟩
theorem To.tr {N' N2 : Nat} {s s' : St} {a' a'' : Ax} {w'' : World} (t : To ow w0 w w' b y p s s2 N' a') (u : To ow w0 w' w'' b y p s' s2 N2 a'') : To ow w0 w w'' b y p s' s2 N2 a'' := ⟨u.two, u.blk, t.oth.trans u.oth⟩
set_option maxHeartbeats 1000000 in
theorem cEnd (B : Blk w0 w p 114 a.cells) (v : Ou) :
  Calls Tryz.prog 95 #[pt p, .agg #[.int .i64 v.c, .int .i64 v.v.k, .int .i64 v.v.n, .bool v.y]] w fun e w' => e = .returned (.int .i64 0) ∧ Kept [p] w w' ∧ Blk w0 w' p 114 ({ a with o := v } : Ax).cells := by
 have a1 : Below w.heap.size w (w.alloc (.cells #[.int .i64 v.c, .int .i64 v.v.k, .int .i64 v.v.n, .bool v.y] 60)) := (Below.refl _ _).alloc (Nat.le_refl _) _
 have B1 := B.below a1
 have K1 : Kept [p] w (w.alloc (.cells #[.int .i64 v.c, .int .i64 v.v.k, .int .i64 v.v.n, .bool v.y] 60)) := Kept.of_below a1
 have V1 : Blk w (w.alloc (.cells #[.int .i64 v.c, .int .i64 v.v.k, .int .i64 v.v.n, .bool v.y] 60)) w.heap.size 60 #[.int .i64 v.c, .int .i64 v.v.k, .int .i64 v.v.n, .bool v.y] := Blk.new (Nat.le_refl _) _ (by decide)
 go_enter Tryz.func95, Tryz.ntmps95
 go_upto_region 1 with (fail)
 generalize w.alloc (.cells #[.int .i64 v.c, .int .i64 v.v.k, .int .i64 v.v.n, .bool v.y] 60) = w1 at B1 K1 V1 ⊢
 generalize w.heap.size = vb at V1 ⊢
 have v0 : w1.cell? ⟨vb, 0, none⟩ = some (.int .i64 v.c) := V1.cell 0
 have v1 : w1.cell? ⟨vb, 1, none⟩ = some (.int .i64 v.v.k) := V1.cell 1
 have v2 : w1.cell? ⟨vb, 2, none⟩ = some (.int .i64 v.v.n) := V1.cell 2
 have v3 : w1.cell? ⟨vb, 3, none⟩ = some (.bool v.y) := V1.cell 3
 have vl := V1.lt
 have c30 : w1.cell? ⟨p, 30, none⟩ = some (.int .i64 a.o.c) := B1.cell 30
 have c31 : w1.cell? ⟨p, 31, none⟩ = some (.int .i64 a.o.v.k) := B1.cell 31
 have c32 : w1.cell? ⟨p, 32, none⟩ = some (.int .i64 a.o.v.n) := B1.cell 32
 have c33 : w1.cell? ⟨p, 33, none⟩ = some (.bool a.o.y) := B1.cell 33
 have f30 := B1.free 30
 have f31 := B1.free 31
 have f32 := B1.free 32
 have f33 := B1.free 33
 go_wp2
 go_ret
 exact ⟨rfl, K1.tr (kept4o w1 p v), B1.s_o v⟩
set_option maxHeartbeats 1000000 in
theorem cWrote (B : Blk w0 w p 114 a.cells) {o3 : Bool} (ho : (a.r.op == 3) = o3) :
  Calls Tryz.prog 101 #[pt p] w fun e w' => e = .returned (.int .i64 0) ∧ Kept [p] w w' ∧ Blk w0 w' p 114 ({ a with hit := true, o := ⟨0, Vl.zero, o3⟩ } : Ax).cells := by
 have c29 : w.cell? ⟨p, 29, none⟩ = some (.bool a.hit) := B.cell 29
 have f29 := B.free 29
 have B1 := B.s_hit true
 have K1 := Kept.one w p 29 (.bool true)
 go_enter Tryz.func101, Tryz.ntmps101
 go_upto_region 2 with (fail)
 generalize w.setCell ⟨p, 29, none⟩ (.bool true) = w1 at B1 K1 ⊢
 clear c29 f29
 have c0 : w1.cell? ⟨p, 0, none⟩ = some (.int .i64 a.r.op) := B1.cell 0
 go_wp2_with (go_at_call 95; refine (cEnd B1 ⟨0, ⟨0, 0⟩, o3⟩).mono ?_; rintro e w2 ⟨rfl, K2, B2⟩)
 go_ret
 exact ⟨rfl, K1.tr K2, B2⟩
set_option maxHeartbeats 1000000 in
theorem cField (B : Blk w0 w p 114 a.cells) (h0 : 0 ≤ a.r.at_) (h1 : a.r.at_ < 4096) (h2 : 0 ≤ a.r.fd) (h3 : a.r.fd < 4096) :
  Calls Tryz.prog 96 #[pt p] w fun e w' => e = .returned (.int .i64 (a.r.at_ + 1 + a.r.fd)) ∧ Below w.heap.size w w' := by
 have c6 : w.cell? ⟨p, 1, none⟩ = some (.int .i64 a.r.at_) := B.cell 1
 have c7 : w.cell? ⟨p, 2, none⟩ = some (.int .i64 a.r.fd) := B.cell 2
 obtain ⟨q, hq⟩ : ∃ q, a.r.at_ = q := ⟨_, rfl⟩
 obtain ⟨f, hf⟩ : ∃ f, a.r.fd = f := ⟨_, rfl⟩
 rw [hq] at c6 h0 h1 ⊢
 rw [hf] at c7 h2 h3 ⊢
 have i1 : IntKind.i64.wrap (q + 1) = q + 1 := by rw [IntKind.wrap_i64]; omega
 have i2 : IntKind.i64.wrap (q + 1 + f) = q + 1 + f := by rw [IntKind.wrap_i64]; omega
 go_enter Tryz.func96, Tryz.ntmps96
 go_wp2
 go_quiet (fail)
 go_wp2
 go_ret
 exact ⟨rfl, S.bdr (Below.refl _ _) _⟩
theorem cPair (wd fd : Int) (h0 : 0 ≤ wd) (h1 : wd < 4096) (h2 : 0 ≤ fd) (h3 : fd < 4096) (w : World) :
  Calls Tryz.prog 25 #[.int .i64 wd, .int .i64 fd] w fun e w' => e = .returned (.int .i64 (pairP wd fd)) ∧ w' = w := by
 have i1 : IntKind.i64.wrap (wd + 2) = wd + 2 := by rw [IntKind.wrap_i64]; omega
 have i2 : IntKind.i64.wrap (2 * fd) = 2 * fd := by rw [IntKind.wrap_i64]; omega
 have i3 : IntKind.i64.wrap (wd + 2 + 2 * fd) = wd + 2 + 2 * fd := by rw [IntKind.wrap_i64]; omega
 unfold pairP
 go_enter Tryz.func25, Tryz.ntmps25
 go_wp2
 go_ret
 exact ⟨rfl, rfl⟩
set_option maxHeartbeats 1000000 in
theorem cPairAt (B : Blk w0 w p 114 a.cells) (h0 : 0 ≤ a.wd) (h1 : a.wd < 4096) (h2 : 0 ≤ a.r.fd) (h3 : a.r.fd < 4096) {pp : Int} (hpp : pairP a.wd a.r.fd = pp) :
  Calls Tryz.prog 74 #[pt p] w fun e w' => e = .returned (.int .i64 pp) ∧ Below w.heap.size w w' := by
 obtain ⟨wd, hwd⟩ : ∃ q, a.wd = q := ⟨_, rfl⟩
 obtain ⟨fd, hfd⟩ : ∃ f, a.r.fd = f := ⟨_, rfl⟩
 have hbd : Below w.heap.size w w.drew := (Below.refl _ _).drew
 have c13 : w.drew.cell? ⟨p, 13, none⟩ = some (.int .i64 wd) := hwd ▸ (B.below hbd).cell 13
 have c2 : w.drew.cell? ⟨p, 2, none⟩ = some (.int .i64 fd) := hfd ▸ (B.below hbd).cell 2
 rw [hwd] at h0 h1 hpp
 rw [hfd] at h2 h3 hpp
 go_enter Tryz.func74, Tryz.ntmps74
 go_upto_region 1 with (fail)
 refine wp_region_noPanic ?_
 refine wp_region_held_drew (S := fun w' => w'.cell? ⟨p, 13, none⟩ = some (.int .i64 wd) ∧ w'.cell? ⟨p, 2, none⟩ = some (.int .i64 fd)) (by kernel_rfl) ⟨c13, c2⟩ (fun hHeld => ?_)
 refine tkH (i := 0) 3 (pt p) rfl rfl ?_
 simp only [sA1, sA2, sA3]
 refine tkH (i := 1) 4 (pt p) rfl rfl ?_
 simp only [sA1, sA2, sA3]
 refine tkH (i := 2) 5 (.pointer (some ⟨p, 13, none⟩)) rfl rfl ?_
 simp only [sA1, sA2, sA3]
 refine tkH (i := 3) 6 (.int .i64 wd) rfl rfl ?_
 simp only [sA1, sA2, sA3]
 refine tkH (i := 4) 7 (pt p) rfl rfl ?_
 simp only [sA1, sA2, sA3]
 refine tkH (i := 5) 8 (pt p) rfl rfl ?_
 simp only [sA1, sA2, sA3]
 refine tkH (i := 6) 9 (.pointer (some ⟨p, 0, none⟩)) rfl rfl ?_
 simp only [sA1, sA2, sA3]
 refine tkH (i := 7) 10 (.pointer (some ⟨p, 2, none⟩)) rfl rfl ?_
 simp only [sA1, sA2, sA3]
 refine tkH (i := 8) 11 (.int .i64 fd) rfl rfl ?_
 simp only [sA1, sA2, sA3]
 refine rd1 9 rfl fun K hK => ?_
 go_simp
 refine (cPair wd fd h0 h1 h2 h3 _).mono ?_
 rintro e w2 ⟨rfl, hw2⟩
 rw [hpp, hw2]
 clear hw2 w2
 refine hK.out _ _ ⟨c13, c2⟩ (fun hHeld => ?_)
 clear hK K
 try simp only [Act.put, sA1, sA2, sA3]
 refine tkH (i := 10) 2 (.int .i64 pp) rfl rfl ?_
 simp only [sA1, sA2, sA3]
 refine wpAnyH_done (by kernel_rfl) ?_ _
 refine NoPanic.normal ?_
 go_wp2
 go_ret
 exact ⟨rfl, hbd⟩
set_option maxHeartbeats 1000000 in
theorem cWrites1 (B : Blk w0 w p 114 a.cells) (hop : a.r.op = 1) (v : Vl) :
  Calls Tryz.prog 99 #[pt p, .agg #[.int .i64 v.k, .int .i64 v.n]] w fun e w' => e = .returned (.bool false) ∧ Below w.heap.size w w' := by
 have a1 : Below w.heap.size w (w.alloc (.cells #[.int .i64 v.k, .int .i64 v.n] 38)) := (Below.refl _ _).alloc (Nat.le_refl _) _
 have B1 := B.below a1
 have l := B.lt
 go_enter Tryz.func99, Tryz.ntmps99
 go_upto_region 1 with (fail)
 generalize w.alloc (.cells #[.int .i64 v.k, .int .i64 v.n] 38) = w1 at B1 a1 ⊢
 generalize w.heap.size = vb
 have c0 : w1.cell? ⟨p, 0, none⟩ = some (.int .i64 1) := hop ▸ B1.cell 0
 clear hop
 go_quiet (fail)
 go_wp2
 go_ret
 exact ⟨rfl, a1.trans ((S.bdr (Below.refl _ _) _).mono a1.size)⟩
set_option maxHeartbeats 1000000 in
theorem cWrites2 (B : Blk w0 w p 114 a.cells) (hop : a.r.op = 2) (v : Vl) :
  Calls Tryz.prog 99 #[pt p, .agg #[.int .i64 v.k, .int .i64 v.n]] w fun e w' => e = .returned (.bool true) ∧ Below w.heap.size w w' := by
 have a1 : Below w.heap.size w (w.alloc (.cells #[.int .i64 v.k, .int .i64 v.n] 38)) := (Below.refl _ _).alloc (Nat.le_refl _) _
 have B1 := B.below a1
 have l := B.lt
 go_enter Tryz.func99, Tryz.ntmps99
 go_upto_region 1 with (fail)
 generalize w.alloc (.cells #[.int .i64 v.k, .int .i64 v.n] 38) = w1 at B1 a1 ⊢
 generalize w.heap.size = vb
 have c0 : w1.cell? ⟨p, 0, none⟩ = some (.int .i64 2) := hop ▸ B1.cell 0
 clear hop
 go_quiet (fail)
 go_wp2
 go_ret
 exact ⟨rfl, a1.trans ((S.bdr (Below.refl _ _) _).mono a1.size)⟩
set_option maxHeartbeats 1000000 in
theorem cWrites3 (B : Blk w0 w p 114 a.cells) (hop : a.r.op = 3) (v : Vl) {t : Bool} (ht : decide (v = a.r.x) = t) :
  Calls Tryz.prog 99 #[pt p, .agg #[.int .i64 v.k, .int .i64 v.n]] w fun e w' => e = .returned (.bool t) ∧ Below w.heap.size w w' := by
 have a1 : Below w.heap.size w (w.alloc (.cells #[.int .i64 v.k, .int .i64 v.n] 38)) := (Below.refl _ _).alloc (Nat.le_refl _) _
 have B1 := B.below a1
 have V1 : Blk w (w.alloc (.cells #[.int .i64 v.k, .int .i64 v.n] 38)) w.heap.size 38 #[.int .i64 v.k, .int .i64 v.n] := Blk.new (Nat.le_refl _) _ (by decide)
 have e1 : ∀ w, (binOp .eql 38 (.agg #[.int .i64 v.k, .int .i64 v.n]) (.agg #[.int .i64 a.r.x.k, .int .i64 a.r.x.n])).run Tryz.prog w = .ok (.bool t) w := fun w => by rw [← ht]; exact eqVal v a.r.x w
 go_enter Tryz.func99, Tryz.ntmps99
 go_upto_region 1 with (fail)
 generalize w.alloc (.cells #[.int .i64 v.k, .int .i64 v.n] 38) = w1 at B1 a1 V1 ⊢
 generalize w.heap.size = vb at V1 ⊢
 have c5 : w1.cell? ⟨p, 0, none⟩ = some (.int .i64 3) := hop ▸ B1.cell 0
 have c8 : w1.cell? ⟨p, 3, none⟩ = some (.int .i64 a.r.x.k) := B1.cell 3
 have c9 : w1.cell? ⟨p, 4, none⟩ = some (.int .i64 a.r.x.n) := B1.cell 4
 have v0 : w1.cell? ⟨vb, 0, none⟩ = some (.int .i64 v.k) := V1.cell 0
 have v1 : w1.cell? ⟨vb, 1, none⟩ = some (.int .i64 v.n) := V1.cell 1
 have vl := V1.lt
 clear ht hop
 go_quiet (fail)
 go_wp2
 go_ret
 exact ⟨rfl, a1.trans ((S.bdr (Below.refl _ _) _).mono a1.size)⟩
theorem cWrites (B : Blk w0 w p 114 a.cells) (hop : a.r.op = 1 ∨ a.r.op = 2 ∨ a.r.op = 3) (v : Vl) {t : Bool} (ht : decide (a.r.op = 1 ∨ a.r.op = 3 ∧ v ≠ a.r.x) = !t) :
  Calls Tryz.prog 99 #[pt p, .agg #[.int .i64 v.k, .int .i64 v.n]] w fun e w' => e = .returned (.bool t) ∧ Below w.heap.size w w' := by
 rcases hop with h | h | h
 ·rw [show t = false by simpa [h] using ht]; exact cWrites1 B h v
 ·rw [show t = true by simpa [h] using ht]; exact cWrites2 B h v
 ·refine cWrites3 B h v (t := t) ?_
  by_cases e : v = a.r.x <;> simp_all
set_option maxHeartbeats 2000000 in
theorem cSwapPair (h : TwoT ow w0 w b y s1 s2 N) (B : Blk w0 w p 114 a.cells) (hN : N < 1000000) (h0 : 0 ≤ a.wd) (h1 : a.wd < 4096) (h2 : 0 ≤ a.r.fd) (h3 : a.r.fd < 4096) {pp n0 n1 z0 z : Int} {ok : Bool} (hn0 : U64 n0) (hn1 : U64 n1) (hpp : pairP a.wd a.r.fd = pp) (hz0 : a.z0 = z0) (hz : a.z = z) (hok : s1.ok2 pp z0 z = ok) :
  Calls Tryz.prog 84 #[pt p, pt b, .agg #[.int .u64 n0, .int .u64 n1]] w fun e w' => e = .returned (.bool ok) ∧ To ow w0 w w' b y p (s1.cas2 pp z0 z n0 n1) s2 (N + 1) a := by
 have a1 : Below w.heap.size w (w.alloc (.cells #[.int .u64 n0, .int .u64 n1] 105)) := (Below.refl _ _).alloc (Nat.le_refl _) _
 have t1 := (To.refl h B).below a1
 have V1 : Blk w0 (w.alloc (.cells #[.int .u64 n0, .int .u64 n1] 105)) w.heap.size 105 #[.int .u64 n0, .int .u64 n1] := Blk.new h.bel.size _ (by decide)
 go_enter Tryz.func84, Tryz.ntmps84
 go_upto_region 1 with (fail)
 generalize w.alloc (.cells #[.int .u64 n0, .int .u64 n1] 105) = w1 at t1 V1 ⊢
 generalize w.heap.size = tb at V1 ⊢
 have hbd : Below w1.heap.size w1 w1.drew := (Below.refl _ _).drew
 have t2 := t1.below hbd
 have V2 := V1.below hbd
 refine wp_region_noPanic ?_
 refine wp_region_held_drew (S := fun w' => w'.cell? ⟨p, 15, none⟩ = some (.int .u64 z0) ∧ w'.cell? ⟨p, 16, none⟩ = some (.int .u64 z) ∧ w'.cell? ⟨tb, 0, none⟩ = some (.int .u64 n0) ∧ w'.cell? ⟨tb, 1, none⟩ = some (.int .u64 n1)) (by kernel_rfl) ⟨hz0 ▸ t2.blk.cell 15, hz ▸ t2.blk.cell 16, V2.cell 0, V2.cell 1⟩ (fun hHeld => ?_)
 refine tkH (i := 0) 7 (pt b) rfl rfl ?_
 simp only [sA1, sA2, sA3]
 refine tkH (i := 1) 8 (pt p) rfl rfl ?_
 simp only [sA1, sA2, sA3]
 refine tkH (i := 3) 10 (pt p) rfl rfl ?_
 simp only [sA1, sA2, sA3]
 refine tkH (i := 4) 11 (pt p) rfl rfl ?_
 simp only [sA1, sA2, sA3]
 refine tkH (i := 5) 12 (.pointer (some ⟨p, 15, none⟩)) rfl rfl ?_
 simp only [sA1, sA2, sA3]
 refine tkH (i := 6) 13 (.pointer (some ⟨p, 15, none⟩)) rfl rfl ?_
 simp only [sA1, sA2, sA3]
 refine tkH (i := 7) 14 (.int .u64 z0) rfl rfl ?_
 simp only [sA1, sA2, sA3]
 refine tkH (i := 8) 15 (pt p) rfl rfl ?_
 simp only [sA1, sA2, sA3]
 refine tkH (i := 9) 16 (pt p) rfl rfl ?_
 simp only [sA1, sA2, sA3]
 refine tkH (i := 10) 17 (.pointer (some ⟨p, 15, none⟩)) rfl rfl ?_
 simp only [sA1, sA2, sA3]
 refine tkH (i := 11) 18 (.pointer (some ⟨p, 16, none⟩)) rfl rfl ?_
 simp only [sA1, sA2, sA3]
 refine tkH (i := 12) 19 (.int .u64 z) rfl rfl ?_
 simp only [sA1, sA2, sA3]
 refine tkH (i := 13) 20 (.pointer (some ⟨tb, 0, none⟩)) rfl rfl ?_
 simp only [sA1, sA2, sA3]
 refine tkH (i := 14) 21 (.int .u64 n0) rfl rfl ?_
 simp only [sA1, sA2, sA3]
 refine tkH (i := 15) 22 (.pointer (some ⟨tb, 1, none⟩)) rfl rfl ?_
 simp only [sA1, sA2, sA3]
 refine tkH (i := 16) 23 (.int .u64 n1) rfl rfl ?_
 simp only [sA1, sA2, sA3]
 refine rd1 2 rfl fun K hK => ?_
 go_simp
 refine (cPairAt t2.blk h0 h1 h2 h3 hpp).mono ?_
 rintro e w3 ⟨rfl, hb3⟩
 have t3 := t2.below hb3
 have V3 := V2.below hb3
 refine hK.out _ _ ⟨hz0 ▸ t3.blk.cell 15, hz ▸ t3.blk.cell 16, V3.cell 0, V3.cell 1⟩ (fun hHeld => ?_)
 clear hK K
 try simp only [Act.put, sA1, sA2, sA3]
 refine rd1 17 rfl fun K hK => ?_
 go_simp
 refine (tCAS2 t3.two (by omega) pp z0 z hn0 hn1).mono ?_
 rintro e w4 ⟨rfl, h4, o4⟩
 rw [hok]
 have t4 := t3.oth0 h4 o4
 have V4 := V3.oth o4 (by simp)
 refine hK.out _ _ ⟨hz0 ▸ t4.blk.cell 15, hz ▸ t4.blk.cell 16, V4.cell 0, V4.cell 1⟩ (fun hHeld => ?_)
 clear hK K
 try simp only [Act.put, sA1, sA2, sA3]
 refine tkH (i := 18) 6 (.bool ok) rfl rfl ?_
 simp only [sA1, sA2, sA3]
 refine wpAnyH_done (by kernel_rfl) ?_ _
 refine NoPanic.normal ?_
 go_wp2
 go_ret
 exact ⟨rfl, t4⟩
theorem fhead6 (x0 x1 x2 x3 x4 x5 x6 : Int) (w : World) : (Instr.field 40 (.agg #[.int .i64 x0, .int .i64 x1, .int .i64 x2, .int .i64 x3, .int .i64 x4, .int .i64 x5, .int .i64 x6]) 6).run Tryz.prog w = .ok (.int .i64 x6) w := by kernel_rfl
set_option maxHeartbeats 1000000 in
theorem cReadLink (h : TwoT ow w0 w b y s1 s2 N) (B : Blk w0 w p 114 a.cells) (hN : N < 1000000) {wd g : Int} (hwd : a.wd = wd) (hg : pL (s1.got wd) = g) :
  Calls Tryz.prog 82 #[pt p, pt b] w fun e w' => e = .returned (.int .i64 g) ∧ To ow w0 w w' b y p (s1.load wd) s2 (N + 1) a := by
 have c13 : w.cell? ⟨p, 13, none⟩ = some (.int .i64 wd) := hwd ▸ B.cell 13
 have t0 := To.refl h B
 clear hwd
 obtain ⟨z, hz⟩ : ∃ z, s1.got wd = z := ⟨_, rfl⟩
 have hU : U64 z := hz ▸ h.rng1.got _
 rw [hz] at hg
 have ff := fhead6 (pS z) (pC z) (pN z) (pM z) (pG z) (pT z) (pL z)
 rw [hg] at ff
 go_enter Tryz.func82, Tryz.ntmps82
 go_wp2_with (first
  | (go_at_call 34; refine (tLoad h hN wd).mono ?_; rintro e w3 ⟨rfl, h3, o3⟩; rw [hz]; have t3 := t0.oth0 h3 o3; clear o3)
  | (go_at_call 69; refine (H.cOf z hU.1 hU.2 _ h3.widw).mono ?_; rintro e w5 ⟨rfl, hw5⟩; rw [hg] at hw5 ⊢; have hb5 : Below w3.heap.size w3 w5 := (by rw [hw5]; go_grown); have t5 := t3.below hb5; clear hw5 hb5))
 go_ret
 exact ⟨rfl, t5⟩
theorem Bh.of (Bw : Bh w0) (h : TwoT ow w0 w b y s1 s2 N) : Bh w := Bw.on h.bel
theorem min3 (st : Int) (h : 3 ≤ st) (ts : Array TypeId) (t : TypeId) (w : World) : (Builtin.min_ ts t #[.int .u64 st, .int .u64 3]).run Tryz.prog w = .ok (.int .u64 3) w := by
 by_cases e : st = 3
 ·subst e; simp [Builtin.min_, Builtin.min2, go_sem]
 ·have : 3 < st := by omega
  simp [Builtin.min_, Builtin.min2, go_sem, this]
set_option maxHeartbeats 1000000 in
theorem cGoBy (h : TwoT ow w0 w b y s1 s2 N) (B : Blk w0 w p 114 a.cells) (Bw : Bh w0) {st n : Int} (hs : U64 st) (hn : (if st = 0 then 3 else if st = 1 then 6 else if st = 2 then 8 else 11) = n) :
  Calls Tryz.prog 73 #[pt p, .int .u64 st] w fun e w' => e = .returned (.int .i64 n) ∧ To ow w0 w w' b y p s1 s2 N ({ a with z0 := st } : Ax) := by
 have t1 := (To.refl h B).kept (Kept.one w p 15 (.int .u64 st)) (B.s_z0 st)
 have c15 : w.cell? ⟨p, 15, none⟩ = some (.int .u64 a.z0) := B.cell 15
 have f15 := B.free 15
 have G : ∀ {m k : Int}, (∀ ts t w, (Builtin.min_ ts t #[.int .u64 st, .int .u64 3]).run Tryz.prog w = .ok (.int .u64 m) w) → 0 ≤ m → m < 4 → (m = 0 ∧ k = 3 ∨ m = 1 ∧ k = 6 ∨ m = 2 ∧ k = 8 ∨ m = 3 ∧ k = 11) → k = n →
   Calls Tryz.prog 73 #[pt p, .int .u64 st] w fun e w' => e = .returned (.int .i64 n) ∧ To ow w0 w w' b y p s1 s2 N ({ a with z0 := st } : Ax) := by
  intro m k hm m0 m4 hk e
  subst e
  clear hn
  obtain ⟨z, k0, k1, k2, k3⟩ := Bh.of Bw t1.two
  clear Bw
  go_enter Tryz.func73, Tryz.ntmps73
  go_upto_region 2 with (fail)
  generalize w.setCell ⟨p, 15, none⟩ (.int .u64 st) = w1 at t1 z k0 k1 k2 k3 ⊢
  clear c15 f15
  rcases hk with ⟨rfl, rfl⟩ | ⟨rfl, rfl⟩ | ⟨rfl, rfl⟩ | ⟨rfl, rfl⟩
  all_goals (
   go_wp2
   go_ret
   exact ⟨rfl, t1⟩)
 by_cases s0 : st = 0
 ·refine G (m := 0) (fun ts t w => ?_) (by decide) (by decide) (.inl ⟨rfl, rfl⟩) (by rw [← hn, if_pos s0])
  subst s0; simp [Builtin.min_, Builtin.min2, go_sem]
 ·by_cases s1 : st = 1
  ·refine G (m := 1) (fun ts t w => ?_) (by decide) (by decide) (.inr (.inl ⟨rfl, rfl⟩)) (by rw [← hn, if_neg s0, if_pos s1])
   subst s1; simp [Builtin.min_, Builtin.min2, go_sem]
  ·by_cases s2 : st = 2
   ·refine G (m := 2) (fun ts t w => ?_) (by decide) (by decide) (.inr (.inr (.inl ⟨rfl, rfl⟩))) (by rw [← hn, if_neg s0, if_neg s1, if_pos s2])
    subst s2; simp [Builtin.min_, Builtin.min2, go_sem]
   ·exact G (m := 3) (min3 st (by have := hs.1; omega)) (by decide) (by decide) (.inr (.inr (.inr ⟨rfl, rfl⟩))) (by rw [← hn, if_neg s0, if_neg s1, if_neg s2])
end
theorem rq_cells {w0 w : World} {p : Nat} {a : Ax} (B : Blk w0 w p 114 a.cells) : w.cell? ⟨p, 0, none⟩ = some (.int .i64 a.r.op) ∧ w.cell? ⟨p, 1, none⟩ = some (.int .i64 a.r.at_) ∧ w.cell? ⟨p, 2, none⟩ = some (.int .i64 a.r.fd) ∧ w.cell? ⟨p, 3, none⟩ = some (.int .i64 a.r.x.k) ∧ w.cell? ⟨p, 4, none⟩ = some (.int .i64 a.r.x.n) ∧ w.cell? ⟨p, 5, none⟩ = some (.int .i64 a.r.y.k) ∧ w.cell? ⟨p, 6, none⟩ = some (.int .i64 a.r.y.n) ∧ w.cell? ⟨p, 8, none⟩ = some (.bool a.h.sh) ∧ w.cell? ⟨p, 9, none⟩ = some (.bool a.h.ca) ∧ w.cell? ⟨p, 10, none⟩ = some (.bool a.h.fx) ∧ w.cell? ⟨p, 11, none⟩ = some (.int .i64 a.h.mr) := ⟨B.cell 0, B.cell 1, B.cell 2, B.cell 3, B.cell 4, B.cell 5, B.cell 6, B.cell 8, B.cell 9, B.cell 10, B.cell 11⟩
theorem Blk.put6D {w0 w : World} {p : Nat} {a : Ax} (B : Blk w0 w p 114 a.cells) (x : Sx) (v : Value) : Blk w0 (put6W w p 23 v (.bool x.hit) (.int .i64 x.o.c) (.int .i64 x.o.v.k) (.int .i64 x.o.v.n) (.bool x.o.y)) p 114 ({ a with d := x, vd := v } : Ax).cells :=
 cellsD a x v ▸ (((((B.set 23 _).set 24 _).set 25 _).set 26 _).set 27 _).set 28 _
section
set_option maxHeartbeats 2000000
theorem cEnter {w0 w : World} {p : Nat} {a : Ax} {base : Int} (B : Blk w0 w p 114 a.cells) (hop : a.r.op = 1 ∨ a.r.op = 2 ∨ a.r.op = 3) (h4 : 0 ≤ a.r.fd) (h5 : a.r.fd < 4096) (h0 : 0 ≤ base) (h1 : base < 4096) :
  Calls Tryz.prog 81 #[pt p, .int .i64 base] w fun e w' => e = .returned (.int .i64 16) ∧ Kept [p] w w' ∧ ∃ v, Blk w0 w' p 114 ({ a with d := (Sx.new (base + 1 + a.r.fd) a.r a.h), vd := v } : Ax).cells ∧ RepO w' (Sx.new (base + 1 + a.r.fd) a.r a.h).k v := by
 obtain ⟨⟨op, at_, fd, ⟨xk, xn⟩, ⟨yk, yn⟩⟩, cl, ⟨sh, ca, fx, mr⟩, pc, wd, l, z0, z, ap, vp, ad, vd, hit, ao⟩ := a
 simp only at hop h4 h5
 obtain ⟨f, hf⟩ : ∃ f, base + 1 + fd = f := ⟨_, rfl⟩
 simp only [hf]
 have c5 : w.cell? ⟨p, 0, none⟩ = some (.int .i64 op) := B.cell 0
 rcases hop with rfl | rfl | rfl
 ·go_enter Tryz.func81, Tryz.ntmps81
  go_upto_region 5 with (fail)
  clear c5
  have hbd : Below w.heap.size w w.drew := (Below.refl _ _).drew
  have Bd := B.below hbd
  have Kd : Kept [p] w w.drew := Kept.of_below hbd
  refine wp_region_noPanic ?_
  refine wp_region_held_drew (S := fun w' => w'.cell? ⟨p, 0, none⟩ = some (.int .i64 1) ∧ w'.cell? ⟨p, 1, none⟩ = some (.int .i64 at_) ∧ w'.cell? ⟨p, 2, none⟩ = some (.int .i64 fd) ∧ w'.cell? ⟨p, 3, none⟩ = some (.int .i64 xk) ∧ w'.cell? ⟨p, 4, none⟩ = some (.int .i64 xn) ∧ w'.cell? ⟨p, 5, none⟩ = some (.int .i64 yk) ∧ w'.cell? ⟨p, 6, none⟩ = some (.int .i64 yn) ∧ w'.cell? ⟨p, 8, none⟩ = some (.bool sh) ∧ w'.cell? ⟨p, 9, none⟩ = some (.bool ca) ∧ w'.cell? ⟨p, 10, none⟩ = some (.bool fx) ∧ w'.cell? ⟨p, 11, none⟩ = some (.int .i64 mr)) (by kernel_rfl) (rq_cells Bd) (fun hHeld => ?_)
  refine tkH (i := 0) 14 (pt p) rfl rfl ?_
  simp only [sA1, sA2, sA3]
  refine tkH (i := 1) 15 (.int .i64 base) rfl rfl ?_
  simp only [sA1, sA2, sA3]
  refine tkH (i := 2) 16 (pt p) rfl rfl ?_
  simp only [sA1, sA2, sA3]
  refine tkH (i := 3) 17 (pt p) rfl rfl ?_
  simp only [sA1, sA2, sA3]
  refine tkH (i := 4) 18 (.pointer (some ⟨p, 0, none⟩)) rfl rfl ?_
  simp only [sA1, sA2, sA3]
  refine tkH (i := 5) 19 (.agg #[.int .i64 1, .int .i64 at_, .int .i64 fd, .int .i64 xk, .int .i64 xn, .int .i64 yk, .int .i64 yn]) rfl rfl ?_
  simp only [sA1, sA2, sA3]
  refine tkH (i := 6) 20 (pt p) rfl rfl ?_
  simp only [sA1, sA2, sA3]
  refine tkH (i := 7) 21 (pt p) rfl rfl ?_
  simp only [sA1, sA2, sA3]
  refine tkH (i := 8) 22 (.pointer (some ⟨p, 8, none⟩)) rfl rfl ?_
  simp only [sA1, sA2, sA3]
  refine tkH (i := 9) 23 (.agg #[.bool sh, .bool ca, .bool fx, .int .i64 mr]) rfl rfl ?_
  simp only [sA1, sA2, sA3]
  refine rd1 10 rfl fun K hK => ?_
  go_simp
  refine (cNewDirect base (Rq.mk 1 at_ fd ⟨xk, xn⟩ ⟨yk, yn⟩) (Hw.mk sh ca fx mr) _ h0 h1 h4 h5).mono ?_
  rintro e w2 ⟨pd, rfl, M⟩
  rw [hf] at M
  have B2 := Bd.below M.bel
  have K2 := Kd.tr (Kept.of_below (F := [p]) M.bel)
  obtain ⟨v, eb, R2⟩ := M.blk
  obtain ⟨nf, cf, hv⟩ := (RepO.fn R2).resolve_left (fun e => by rw [e] at R2; simp [Sx.new, firstK, RepO] at R2; first | exact absurd R2.fn (by simp) | (obtain ⟨_, _, e'⟩ := Rep.fn R2; cases e'))
  rw [hv] at R2 eb
  have np : pd ≠ p := fun e => (by have := M.new; have := Bd.lt; omega)
  have x0 : w2.cell? ⟨pd, 0, none⟩ = some (.func (.func nf) #[] cf) := cell_of_row w2 _ _ _ _ _ eb
  have x1 : w2.cell? ⟨pd, 1, none⟩ = some (.bool false) := cell_of_row w2 _ _ _ _ _ eb
  have x2 : w2.cell? ⟨pd, 2, none⟩ = some (.int .i64 0) := cell_of_row w2 _ _ _ _ _ eb
  have x3 : w2.cell? ⟨pd, 3, none⟩ = some (.int .i64 0) := cell_of_row w2 _ _ _ _ _ eb
  have x4 : w2.cell? ⟨pd, 4, none⟩ = some (.int .i64 0) := cell_of_row w2 _ _ _ _ _ eb
  have x5 : w2.cell? ⟨pd, 5, none⟩ = some (.bool false) := cell_of_row w2 _ _ _ _ _ eb
  have zz23 : w2.cell? ⟨p, 23, none⟩ = some (vd) := B2.cell 23
  have zf23 := B2.free 23
  have zz24 : w2.cell? ⟨p, 24, none⟩ = some (.bool ad.hit) := B2.cell 24
  have zf24 := B2.free 24
  have zz25 : w2.cell? ⟨p, 25, none⟩ = some (.int .i64 ad.o.c) := B2.cell 25
  have zf25 := B2.free 25
  have zz26 : w2.cell? ⟨p, 26, none⟩ = some (.int .i64 ad.o.v.k) := B2.cell 26
  have zf26 := B2.free 26
  have zz27 : w2.cell? ⟨p, 27, none⟩ = some (.int .i64 ad.o.v.n) := B2.cell 27
  have zf27 := B2.free 27
  have zz28 : w2.cell? ⟨p, 28, none⟩ = some (.bool ad.o.y) := B2.cell 28
  have zf28 := B2.free 28
  clear M eb hv
  refine hK.out _ _ (rq_cells B2) (fun hHeld => ?_)
  clear hK K
  try simp only [Act.put, sA1, sA2, sA3]
  refine tkH (i := 11) 25 (pt pd) rfl rfl ?_
  simp only [sA1, sA2, sA3]
  refine rd1 12 rfl fun K hK => ?_
  go_simp
  refine hK.out _ _ (rq_cells B2) (fun hHeld => ?_)
  clear hK K
  try simp only [Act.put, sA1, sA2, sA3]
  refine tkH (i := 13) 27 (pt p) rfl rfl ?_
  simp only [sA1, sA2, sA3]
  refine tkH (i := 14) 28 (.pointer (some ⟨p, 23, none⟩)) rfl rfl ?_
  simp only [sA1, sA2, sA3]
  have B3 := B2.put6D (Sx.new f (Rq.mk 1 at_ fd ⟨xk, xn⟩ ⟨yk, yn⟩) (Hw.mk sh ca fx mr)) (.func (.func nf) #[] cf)
  have K3 := K2.tr (Kept.put6at w2 p 23 (.func (.func nf) #[] cf) (.bool false) (.int .i64 0) (.int .i64 0) (.int .i64 0) (.bool false))
  have R3 := R2.oth (F := [p]) (Oth.kept (Kept.put6at w2 p 23 (.func (.func nf) #[] cf) (.bool false) (.int .i64 0) (.int .i64 0) (.int .i64 0) (.bool false))) (fun q hq => by simp at hq; subst hq; exact ⟨_, _, _, B2.at_, by decide⟩)
  refine rd1 15 rfl fun K hK => ?_
  go_simp
  refine hK.out _ _ (rq_cells B3) (fun hHeld => ?_)
  clear hK K
  try simp only [Act.put, sA1, sA2, sA3]
  refine wpAnyH_done (by kernel_rfl) ?_ _
  refine NoPanic.normal ?_
  unfold put6W at B3 K3 R3
  clear x0 x1 x2 x3 x4 x5 zz23 zf23 zz24 zf24 zz25 zf25 zz26 zf26 zz27 zf27 zz28 zf28
  simp only [Sx.new, Ou.zero, Vl.zero] at B3
  generalize (((((w2.setCell ⟨p, 23, none⟩ (.func (.func nf) #[] cf)).setCell ⟨p, 23 + 1, none⟩ (.bool false)).setCell ⟨p, 23 + 2, none⟩ (.int .i64 0)).setCell ⟨p, 23 + 3, none⟩ (.int .i64 0)).setCell ⟨p, 23 + 4, none⟩ (.int .i64 0)).setCell ⟨p, 23 + 5, none⟩ (.bool false) = w3 at B3 K3 R3 ⊢
  go_wp2
  go_ret
  exact ⟨rfl, K3, _, B3, R3⟩
 ·go_enter Tryz.func81, Tryz.ntmps81
  go_upto_region 5 with (fail)
  clear c5
  have hbd : Below w.heap.size w w.drew := (Below.refl _ _).drew
  have Bd := B.below hbd
  have Kd : Kept [p] w w.drew := Kept.of_below hbd
  refine wp_region_noPanic ?_
  refine wp_region_held_drew (S := fun w' => w'.cell? ⟨p, 0, none⟩ = some (.int .i64 2) ∧ w'.cell? ⟨p, 1, none⟩ = some (.int .i64 at_) ∧ w'.cell? ⟨p, 2, none⟩ = some (.int .i64 fd) ∧ w'.cell? ⟨p, 3, none⟩ = some (.int .i64 xk) ∧ w'.cell? ⟨p, 4, none⟩ = some (.int .i64 xn) ∧ w'.cell? ⟨p, 5, none⟩ = some (.int .i64 yk) ∧ w'.cell? ⟨p, 6, none⟩ = some (.int .i64 yn) ∧ w'.cell? ⟨p, 8, none⟩ = some (.bool sh) ∧ w'.cell? ⟨p, 9, none⟩ = some (.bool ca) ∧ w'.cell? ⟨p, 10, none⟩ = some (.bool fx) ∧ w'.cell? ⟨p, 11, none⟩ = some (.int .i64 mr)) (by kernel_rfl) (rq_cells Bd) (fun hHeld => ?_)
  refine tkH (i := 0) 14 (pt p) rfl rfl ?_
  simp only [sA1, sA2, sA3]
  refine tkH (i := 1) 15 (.int .i64 base) rfl rfl ?_
  simp only [sA1, sA2, sA3]
  refine tkH (i := 2) 16 (pt p) rfl rfl ?_
  simp only [sA1, sA2, sA3]
  refine tkH (i := 3) 17 (pt p) rfl rfl ?_
  simp only [sA1, sA2, sA3]
  refine tkH (i := 4) 18 (.pointer (some ⟨p, 0, none⟩)) rfl rfl ?_
  simp only [sA1, sA2, sA3]
  refine tkH (i := 5) 19 (.agg #[.int .i64 2, .int .i64 at_, .int .i64 fd, .int .i64 xk, .int .i64 xn, .int .i64 yk, .int .i64 yn]) rfl rfl ?_
  simp only [sA1, sA2, sA3]
  refine tkH (i := 6) 20 (pt p) rfl rfl ?_
  simp only [sA1, sA2, sA3]
  refine tkH (i := 7) 21 (pt p) rfl rfl ?_
  simp only [sA1, sA2, sA3]
  refine tkH (i := 8) 22 (.pointer (some ⟨p, 8, none⟩)) rfl rfl ?_
  simp only [sA1, sA2, sA3]
  refine tkH (i := 9) 23 (.agg #[.bool sh, .bool ca, .bool fx, .int .i64 mr]) rfl rfl ?_
  simp only [sA1, sA2, sA3]
  refine rd1 10 rfl fun K hK => ?_
  go_simp
  refine (cNewDirect base (Rq.mk 2 at_ fd ⟨xk, xn⟩ ⟨yk, yn⟩) (Hw.mk sh ca fx mr) _ h0 h1 h4 h5).mono ?_
  rintro e w2 ⟨pd, rfl, M⟩
  rw [hf] at M
  have B2 := Bd.below M.bel
  have K2 := Kd.tr (Kept.of_below (F := [p]) M.bel)
  obtain ⟨v, eb, R2⟩ := M.blk
  obtain ⟨nf, cf, hv⟩ := (RepO.fn R2).resolve_left (fun e => by rw [e] at R2; simp [Sx.new, firstK, RepO] at R2; first | exact absurd R2.fn (by simp) | (obtain ⟨_, _, e'⟩ := Rep.fn R2; cases e'))
  rw [hv] at R2 eb
  have np : pd ≠ p := fun e => (by have := M.new; have := Bd.lt; omega)
  have x0 : w2.cell? ⟨pd, 0, none⟩ = some (.func (.func nf) #[] cf) := cell_of_row w2 _ _ _ _ _ eb
  have x1 : w2.cell? ⟨pd, 1, none⟩ = some (.bool false) := cell_of_row w2 _ _ _ _ _ eb
  have x2 : w2.cell? ⟨pd, 2, none⟩ = some (.int .i64 0) := cell_of_row w2 _ _ _ _ _ eb
  have x3 : w2.cell? ⟨pd, 3, none⟩ = some (.int .i64 0) := cell_of_row w2 _ _ _ _ _ eb
  have x4 : w2.cell? ⟨pd, 4, none⟩ = some (.int .i64 0) := cell_of_row w2 _ _ _ _ _ eb
  have x5 : w2.cell? ⟨pd, 5, none⟩ = some (.bool false) := cell_of_row w2 _ _ _ _ _ eb
  have zz23 : w2.cell? ⟨p, 23, none⟩ = some (vd) := B2.cell 23
  have zf23 := B2.free 23
  have zz24 : w2.cell? ⟨p, 24, none⟩ = some (.bool ad.hit) := B2.cell 24
  have zf24 := B2.free 24
  have zz25 : w2.cell? ⟨p, 25, none⟩ = some (.int .i64 ad.o.c) := B2.cell 25
  have zf25 := B2.free 25
  have zz26 : w2.cell? ⟨p, 26, none⟩ = some (.int .i64 ad.o.v.k) := B2.cell 26
  have zf26 := B2.free 26
  have zz27 : w2.cell? ⟨p, 27, none⟩ = some (.int .i64 ad.o.v.n) := B2.cell 27
  have zf27 := B2.free 27
  have zz28 : w2.cell? ⟨p, 28, none⟩ = some (.bool ad.o.y) := B2.cell 28
  have zf28 := B2.free 28
  clear M eb hv
  refine hK.out _ _ (rq_cells B2) (fun hHeld => ?_)
  clear hK K
  try simp only [Act.put, sA1, sA2, sA3]
  refine tkH (i := 11) 25 (pt pd) rfl rfl ?_
  simp only [sA1, sA2, sA3]
  refine rd1 12 rfl fun K hK => ?_
  go_simp
  refine hK.out _ _ (rq_cells B2) (fun hHeld => ?_)
  clear hK K
  try simp only [Act.put, sA1, sA2, sA3]
  refine tkH (i := 13) 27 (pt p) rfl rfl ?_
  simp only [sA1, sA2, sA3]
  refine tkH (i := 14) 28 (.pointer (some ⟨p, 23, none⟩)) rfl rfl ?_
  simp only [sA1, sA2, sA3]
  have B3 := B2.put6D (Sx.new f (Rq.mk 2 at_ fd ⟨xk, xn⟩ ⟨yk, yn⟩) (Hw.mk sh ca fx mr)) (.func (.func nf) #[] cf)
  have K3 := K2.tr (Kept.put6at w2 p 23 (.func (.func nf) #[] cf) (.bool false) (.int .i64 0) (.int .i64 0) (.int .i64 0) (.bool false))
  have R3 := R2.oth (F := [p]) (Oth.kept (Kept.put6at w2 p 23 (.func (.func nf) #[] cf) (.bool false) (.int .i64 0) (.int .i64 0) (.int .i64 0) (.bool false))) (fun q hq => by simp at hq; subst hq; exact ⟨_, _, _, B2.at_, by decide⟩)
  refine rd1 15 rfl fun K hK => ?_
  go_simp
  refine hK.out _ _ (rq_cells B3) (fun hHeld => ?_)
  clear hK K
  try simp only [Act.put, sA1, sA2, sA3]
  refine wpAnyH_done (by kernel_rfl) ?_ _
  refine NoPanic.normal ?_
  unfold put6W at B3 K3 R3
  clear x0 x1 x2 x3 x4 x5 zz23 zf23 zz24 zf24 zz25 zf25 zz26 zf26 zz27 zf27 zz28 zf28
  simp only [Sx.new, Ou.zero, Vl.zero] at B3
  generalize (((((w2.setCell ⟨p, 23, none⟩ (.func (.func nf) #[] cf)).setCell ⟨p, 23 + 1, none⟩ (.bool false)).setCell ⟨p, 23 + 2, none⟩ (.int .i64 0)).setCell ⟨p, 23 + 3, none⟩ (.int .i64 0)).setCell ⟨p, 23 + 4, none⟩ (.int .i64 0)).setCell ⟨p, 23 + 5, none⟩ (.bool false) = w3 at B3 K3 R3 ⊢
  go_wp2
  go_ret
  exact ⟨rfl, K3, _, B3, R3⟩
 ·go_enter Tryz.func81, Tryz.ntmps81
  go_upto_region 5 with (fail)
  clear c5
  have hbd : Below w.heap.size w w.drew := (Below.refl _ _).drew
  have Bd := B.below hbd
  have Kd : Kept [p] w w.drew := Kept.of_below hbd
  refine wp_region_noPanic ?_
  refine wp_region_held_drew (S := fun w' => w'.cell? ⟨p, 0, none⟩ = some (.int .i64 3) ∧ w'.cell? ⟨p, 1, none⟩ = some (.int .i64 at_) ∧ w'.cell? ⟨p, 2, none⟩ = some (.int .i64 fd) ∧ w'.cell? ⟨p, 3, none⟩ = some (.int .i64 xk) ∧ w'.cell? ⟨p, 4, none⟩ = some (.int .i64 xn) ∧ w'.cell? ⟨p, 5, none⟩ = some (.int .i64 yk) ∧ w'.cell? ⟨p, 6, none⟩ = some (.int .i64 yn) ∧ w'.cell? ⟨p, 8, none⟩ = some (.bool sh) ∧ w'.cell? ⟨p, 9, none⟩ = some (.bool ca) ∧ w'.cell? ⟨p, 10, none⟩ = some (.bool fx) ∧ w'.cell? ⟨p, 11, none⟩ = some (.int .i64 mr)) (by kernel_rfl) (rq_cells Bd) (fun hHeld => ?_)
  refine tkH (i := 0) 14 (pt p) rfl rfl ?_
  simp only [sA1, sA2, sA3]
  refine tkH (i := 1) 15 (.int .i64 base) rfl rfl ?_
  simp only [sA1, sA2, sA3]
  refine tkH (i := 2) 16 (pt p) rfl rfl ?_
  simp only [sA1, sA2, sA3]
  refine tkH (i := 3) 17 (pt p) rfl rfl ?_
  simp only [sA1, sA2, sA3]
  refine tkH (i := 4) 18 (.pointer (some ⟨p, 0, none⟩)) rfl rfl ?_
  simp only [sA1, sA2, sA3]
  refine tkH (i := 5) 19 (.agg #[.int .i64 3, .int .i64 at_, .int .i64 fd, .int .i64 xk, .int .i64 xn, .int .i64 yk, .int .i64 yn]) rfl rfl ?_
  simp only [sA1, sA2, sA3]
  refine tkH (i := 6) 20 (pt p) rfl rfl ?_
  simp only [sA1, sA2, sA3]
  refine tkH (i := 7) 21 (pt p) rfl rfl ?_
  simp only [sA1, sA2, sA3]
  refine tkH (i := 8) 22 (.pointer (some ⟨p, 8, none⟩)) rfl rfl ?_
  simp only [sA1, sA2, sA3]
  refine tkH (i := 9) 23 (.agg #[.bool sh, .bool ca, .bool fx, .int .i64 mr]) rfl rfl ?_
  simp only [sA1, sA2, sA3]
  refine rd1 10 rfl fun K hK => ?_
  go_simp
  refine (cNewDirect base (Rq.mk 3 at_ fd ⟨xk, xn⟩ ⟨yk, yn⟩) (Hw.mk sh ca fx mr) _ h0 h1 h4 h5).mono ?_
  rintro e w2 ⟨pd, rfl, M⟩
  rw [hf] at M
  have B2 := Bd.below M.bel
  have K2 := Kd.tr (Kept.of_below (F := [p]) M.bel)
  obtain ⟨v, eb, R2⟩ := M.blk
  obtain ⟨nf, cf, hv⟩ := (RepO.fn R2).resolve_left (fun e => by rw [e] at R2; simp [Sx.new, firstK, RepO] at R2; first | exact absurd R2.fn (by simp) | (obtain ⟨_, _, e'⟩ := Rep.fn R2; cases e'))
  rw [hv] at R2 eb
  have np : pd ≠ p := fun e => (by have := M.new; have := Bd.lt; omega)
  have x0 : w2.cell? ⟨pd, 0, none⟩ = some (.func (.func nf) #[] cf) := cell_of_row w2 _ _ _ _ _ eb
  have x1 : w2.cell? ⟨pd, 1, none⟩ = some (.bool false) := cell_of_row w2 _ _ _ _ _ eb
  have x2 : w2.cell? ⟨pd, 2, none⟩ = some (.int .i64 0) := cell_of_row w2 _ _ _ _ _ eb
  have x3 : w2.cell? ⟨pd, 3, none⟩ = some (.int .i64 0) := cell_of_row w2 _ _ _ _ _ eb
  have x4 : w2.cell? ⟨pd, 4, none⟩ = some (.int .i64 0) := cell_of_row w2 _ _ _ _ _ eb
  have x5 : w2.cell? ⟨pd, 5, none⟩ = some (.bool false) := cell_of_row w2 _ _ _ _ _ eb
  have zz23 : w2.cell? ⟨p, 23, none⟩ = some (vd) := B2.cell 23
  have zf23 := B2.free 23
  have zz24 : w2.cell? ⟨p, 24, none⟩ = some (.bool ad.hit) := B2.cell 24
  have zf24 := B2.free 24
  have zz25 : w2.cell? ⟨p, 25, none⟩ = some (.int .i64 ad.o.c) := B2.cell 25
  have zf25 := B2.free 25
  have zz26 : w2.cell? ⟨p, 26, none⟩ = some (.int .i64 ad.o.v.k) := B2.cell 26
  have zf26 := B2.free 26
  have zz27 : w2.cell? ⟨p, 27, none⟩ = some (.int .i64 ad.o.v.n) := B2.cell 27
  have zf27 := B2.free 27
  have zz28 : w2.cell? ⟨p, 28, none⟩ = some (.bool ad.o.y) := B2.cell 28
  have zf28 := B2.free 28
  clear M eb hv
  refine hK.out _ _ (rq_cells B2) (fun hHeld => ?_)
  clear hK K
  try simp only [Act.put, sA1, sA2, sA3]
  refine tkH (i := 11) 25 (pt pd) rfl rfl ?_
  simp only [sA1, sA2, sA3]
  refine rd1 12 rfl fun K hK => ?_
  go_simp
  refine hK.out _ _ (rq_cells B2) (fun hHeld => ?_)
  clear hK K
  try simp only [Act.put, sA1, sA2, sA3]
  refine tkH (i := 13) 27 (pt p) rfl rfl ?_
  simp only [sA1, sA2, sA3]
  refine tkH (i := 14) 28 (.pointer (some ⟨p, 23, none⟩)) rfl rfl ?_
  simp only [sA1, sA2, sA3]
  have B3 := B2.put6D (Sx.new f (Rq.mk 3 at_ fd ⟨xk, xn⟩ ⟨yk, yn⟩) (Hw.mk sh ca fx mr)) (.func (.func nf) #[] cf)
  have K3 := K2.tr (Kept.put6at w2 p 23 (.func (.func nf) #[] cf) (.bool false) (.int .i64 0) (.int .i64 0) (.int .i64 0) (.bool false))
  have R3 := R2.oth (F := [p]) (Oth.kept (Kept.put6at w2 p 23 (.func (.func nf) #[] cf) (.bool false) (.int .i64 0) (.int .i64 0) (.int .i64 0) (.bool false))) (fun q hq => by simp at hq; subst hq; exact ⟨_, _, _, B2.at_, by decide⟩)
  refine rd1 15 rfl fun K hK => ?_
  go_simp
  refine hK.out _ _ (rq_cells B3) (fun hHeld => ?_)
  clear hK K
  try simp only [Act.put, sA1, sA2, sA3]
  refine wpAnyH_done (by kernel_rfl) ?_ _
  refine NoPanic.normal ?_
  unfold put6W at B3 K3 R3
  clear x0 x1 x2 x3 x4 x5 zz23 zf23 zz24 zf24 zz25 zf25 zz26 zf26 zz27 zf27 zz28 zf28
  simp only [Sx.new, Ou.zero, Vl.zero] at B3
  generalize (((((w2.setCell ⟨p, 23, none⟩ (.func (.func nf) #[] cf)).setCell ⟨p, 23 + 1, none⟩ (.bool false)).setCell ⟨p, 23 + 2, none⟩ (.int .i64 0)).setCell ⟨p, 23 + 3, none⟩ (.int .i64 0)).setCell ⟨p, 23 + 4, none⟩ (.int .i64 0)).setCell ⟨p, 23 + 5, none⟩ (.bool false) = w3 at B3 K3 R3 ⊢
  go_wp2
  go_ret
  exact ⟨rfl, K3, _, B3, R3⟩
end
end Go.Proofs.YtpcoldpphihfmaaGreatDoor
