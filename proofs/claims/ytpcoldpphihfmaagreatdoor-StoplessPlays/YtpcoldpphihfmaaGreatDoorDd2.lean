import Derived.Test.YtpcoldpphihfmaaGreatDoorDe
import Derived.Test.YtpcoldpphihfmaaGreatDoorHand
import Derived.Deep.RegionHeld3
import Derived.Deep.Cut
namespace Go.Proofs.YtpcoldpphihfmaaGreatDoor
set_option linter.unusedVariables false
set_option maxRecDepth 100000
open Go.ChangeShapes Go.WideShapes Go.RowKit
open H.Plain (hw pS pC pN pM pG pT pL mv)
def Ran (w : World) (L : Loc) (x : Sx) (s' : St) (e : Ending) (w' : World) : Prop := ∃ v L', e = .returned (.agg (x.cells v)) ∧ Mm w' L' s' ∧ Step w L w' L' ∧ RepO w' x.k v
section
variable {w w1 w2 : World} {L L1 : Loc} {s s' : St} {p n : Nat} {T : TypeId} {cs : Array Value}
theorem at0 (hm : Mm w L s) (W : H.Wid w) (z : 1 ∉ L.fp) : At 132 (w.alloc (.cells #[.nilFunc, .bool false, .int .i64 0, .int .i64 0, .int .i64 0, .bool false] 109)) L s w.heap.size 109 #[.nilFunc, .bool false, .int .i64 0, .int .i64 0, .int .i64 0, .bool false] :=
 ⟨hm.alloc _, heap_alloc_new _ _, by decide, W.on ((Below.refl _ _).alloc (Nat.le_refl _) _), z, by have := W.1; omega⟩
theorem Bx.step {TM : TypeId} (b : Bx w p T cs) (hm : MemAt TM w L s) (hTM : TM ∈ MTs) (f : s.Fit) (st : Step w L w1 L1) : Bx w1 p T cs := b.oth (F := []) (Oth.step hm hTM f st) (by simp)
theorem Rep.step {TM : TypeId} {k : K} {v : Value} (b : Rep w k v) (hm : MemAt TM w L s) (hTM : TM ∈ MTs) (f : s.Fit) (st : Step w L w1 L1) : Rep w1 k v := b.imp fun _ _ _ h => h.step hm hTM f st
theorem mmM : 132 ∈ MTs := by decide
theorem At.put6 {TM : TypeId} {a0 a1 a2 a3 a4 a5 : Value} (A : At TM w1 L1 s n T #[a0, a1, a2, a3, a4, a5]) (v0 v1 v2 v3 v4 v5 : Value) :
  At TM ((((((w1.setCell ⟨n, 0, none⟩ v0).setCell ⟨n, 1, none⟩ v1).setCell ⟨n, 2, none⟩ v2).setCell ⟨n, 3, none⟩ v3).setCell ⟨n, 4, none⟩ v4).setCell ⟨n, 5, none⟩ v5) L1 s n T #[v0, v1, v2, v3, v4, v5] := by
 have A1 : At TM (w1.setCell ⟨n, 0, none⟩ v0) L1 s n T #[v0, a1, a2, a3, a4, a5] := A.set 0 v0
 have A2 : At TM ((w1.setCell ⟨n, 0, none⟩ v0).setCell ⟨n, 1, none⟩ v1) L1 s n T #[v0, v1, a2, a3, a4, a5] := A1.set 1 v1
 have A3 : At TM (((w1.setCell ⟨n, 0, none⟩ v0).setCell ⟨n, 1, none⟩ v1).setCell ⟨n, 2, none⟩ v2) L1 s n T #[v0, v1, v2, a3, a4, a5] := A2.set 2 v2
 have A4 : At TM ((((w1.setCell ⟨n, 0, none⟩ v0).setCell ⟨n, 1, none⟩ v1).setCell ⟨n, 2, none⟩ v2).setCell ⟨n, 3, none⟩ v3) L1 s n T #[v0, v1, v2, v3, a4, a5] := A3.set 3 v3
 have A5 : At TM (((((w1.setCell ⟨n, 0, none⟩ v0).setCell ⟨n, 1, none⟩ v1).setCell ⟨n, 2, none⟩ v2).setCell ⟨n, 3, none⟩ v3).setCell ⟨n, 4, none⟩ v4) L1 s n T #[v0, v1, v2, v3, v4, a5] := A4.set 4 v4
 exact A5.set 5 v5
theorem Went.put6 (w1 : World) (L1 : Loc) (n : Nat) (v0 v1 v2 v3 v4 v5 : Value) : Went w1 L1 n ((((((w1.setCell ⟨n, 0, none⟩ v0).setCell ⟨n, 1, none⟩ v1).setCell ⟨n, 2, none⟩ v2).setCell ⟨n, 3, none⟩ v3).setCell ⟨n, 4, none⟩ v4).setCell ⟨n, 5, none⟩ v5) L1 :=
 (((((Went.set w1 L1 n 0 v0).trans (Went.set _ _ _ 1 v1)).trans (Went.set _ _ _ 2 v2)).trans (Went.set _ _ _ 3 v3)).trans (Went.set _ _ _ 4 v4)).trans (Went.set _ _ _ 5 v5)
theorem Went.step {o : Obj} (g : Went (w.alloc o) L w.heap.size w1 L1) : Step w L w1 L1 :=
 ⟨(Kept.alloc (w.heap.size :: L.fp) w o).trans g.kept (fun k hk => .inl hk) |> fun k => ⟨k.os, k.tape, k.output, k.size, fun j hj hF => k.block j hj (by simp; exact ⟨by omega, hF⟩)⟩, fun k hk => (g.new k hk).imp id fun h => by simp at h; omega, g.b⟩
theorem Bx.put6 {TM : TypeId} {a : Array Value} (b : Bx w1 p T cs) (A : At TM w1 L1 s n 109 a) (v0 v1 v2 v3 v4 v5 : Value) : Bx ((((((w1.setCell ⟨n, 0, none⟩ v0).setCell ⟨n, 1, none⟩ v1).setCell ⟨n, 2, none⟩ v2).setCell ⟨n, 3, none⟩ v3).setCell ⟨n, 4, none⟩ v4).setCell ⟨n, 5, none⟩ v5) p T cs := by
 refine b.oth (F := [n]) (Oth.kept ?_) fun q hq => ?_
 ·exact (((((Kept.setCell [n] w1 ⟨n, 0, none⟩ _ (by simp)).trans (Kept.setCell [n] _ ⟨n, 1, none⟩ _ (by simp)) fun _ h => .inl h).trans (Kept.setCell [n] _ ⟨n, 2, none⟩ _ (by simp)) fun _ h => .inl h).trans (Kept.setCell [n] _ ⟨n, 3, none⟩ _ (by simp)) fun _ h => .inl h).trans (Kept.setCell [n] _ ⟨n, 4, none⟩ _ (by simp)) fun _ h => .inl h).trans (Kept.setCell [n] _ ⟨n, 5, none⟩ _ (by simp)) fun _ h => .inl h
 ·simp at hq; subst hq
  exact ⟨_, _, _, A.blk, by decide⟩
theorem ran_end {x : Sx} {o : Obj} {v a0 a1 a2 a3 a4 a5 : Value} (A : At 132 w1 L1 s' w.heap.size 109 #[a0, a1, a2, a3, a4, a5]) (g : Went (w.alloc o) L w.heap.size w1 L1) (R : RepO w1 x.k v) :
  Ran w L x s' (.returned (.agg (x.cells v))) ((((((w1.setCell ⟨w.heap.size, 0, none⟩ v).setCell ⟨w.heap.size, 1, none⟩ (.bool x.hit)).setCell ⟨w.heap.size, 2, none⟩ (.int .i64 x.o.c)).setCell ⟨w.heap.size, 3, none⟩ (.int .i64 x.o.v.k)).setCell ⟨w.heap.size, 4, none⟩ (.int .i64 x.o.v.n)).setCell ⟨w.heap.size, 5, none⟩ (.bool x.o.y)) := by
 have A6 := A.put6 v (.bool x.hit) (.int .i64 x.o.c) (.int .i64 x.o.v.k) (.int .i64 x.o.v.n) (.bool x.o.y)
 have g6 := Went.put6 w1 L1 w.heap.size v (.bool x.hit) (.int .i64 x.o.c) (.int .i64 x.o.v.k) (.int .i64 x.o.v.n) (.bool x.o.y)
 refine ⟨v, L1, rfl, A6.mem, (g.trans g6).step, R.oth (F := [w.heap.size]) (⟨g6.kept.size, fun k cs T fz hF hT hk => ?_⟩) fun q hq => ?_⟩
 ·refine (Kept.block (F := [w.heap.size]) ?_ k (lt_of_block hk) hF).trans hk
  exact (((((Kept.setCell [w.heap.size] w1 ⟨w.heap.size, 0, none⟩ _ (by simp)).trans (Kept.setCell [w.heap.size] _ ⟨w.heap.size, 1, none⟩ _ (by simp)) fun _ h => .inl h).trans (Kept.setCell [w.heap.size] _ ⟨w.heap.size, 2, none⟩ _ (by simp)) fun _ h => .inl h).trans (Kept.setCell [w.heap.size] _ ⟨w.heap.size, 3, none⟩ _ (by simp)) fun _ h => .inl h).trans (Kept.setCell [w.heap.size] _ ⟨w.heap.size, 4, none⟩ _ (by simp)) fun _ h => .inl h).trans (Kept.setCell [w.heap.size] _ ⟨w.heap.size, 5, none⟩ _ (by simp)) fun _ h => .inl h
 ·simp at hq; subst hq
  exact ⟨_, _, _, A.blk, by decide⟩
end
section
variable {w : World} {L : Loc} {s : St}
theorem cPlace (hm : Mm w L s) (ft : s.Fit) (hc : s.c < 1000000) (rr : s.Rng) (W : H.Wid w) (z : 1 ∉ L.fp) (a : Int) :
  Calls Tryz.prog 124 #[pt L.b, .int .i64 a] w fun e w' => e = .returned (.int .i64 (mv (s.got a) a)) ∧ ∃ L', Mm w' L' (s.load a) ∧ Step w L w' L' := by
 have hr := rr.got a
 obtain ⟨v, hv⟩ : ∃ v, s.got a = v := ⟨_, rfl⟩
 rw [hv] at hr ⊢
 go_enter Tryz.func124, Tryz.ntmps124
 go_wp2_with (first
  | (go_at_call 34; refine (cLoad hm ft hc a).mono ?_; rintro e w1 ⟨rfl, L1, hm1, st⟩; rw [hv]; have W1 := wid_kept W st.kept z)
  | (go_at_call 130; refine (H.cMoved v a hr.1 hr.2 _ W1).mono ?_; rintro e w2 ⟨rfl, hw2⟩; have hb2 : Below w1.heap.size w1 w2 := (by rw [hw2]; go_grown); clear hw2))
 go_ret
 exact ⟨rfl, L1, hm1.below hb2, st.trans ⟨Kept.of_below hb2, fun _ h => .inl h, rfl⟩⟩
set_option maxHeartbeats 400000 in
theorem kRead0 {f : Int} (hm : Mm w L s) (ft : s.Fit) (hc : s.c < 1000000) (rr : s.Rng) (W : H.Wid w) (z : 1 ∉ L.fp) {p q : Nat} (bp : Bx w p 3 #[.int .i64 f]) (bq : Bx w q 4 #[.bool false]) :
  Calls Tryz.prog 112 #[pt L.b, pt p, pt q] w fun e w' => Ran w L (⟨none, true, ⟨0, Vl.of (s.got f), false⟩⟩) (s.load f) e w' := by
 have A0 := at0 hm W z
 have cp0 : w.cell? ⟨p, 0, none⟩ = some (.int .i64 f) := bp.cell 0
 have clp := bp.lt
 have hr := rr.got f
 obtain ⟨v, hv⟩ : ∃ v, s.got f = v := ⟨_, rfl⟩
 rw [hv] at hr
 obtain ⟨u, hu⟩ : ∃ u, Vl.of v = u := ⟨_, rfl⟩
 have hk : F.Plain.kind v = u.k := by rw [← hu]; rfl
 have hn : F.Plain.num v = u.n := by rw [← hu]; rfl
 have bq0 := bq.below ((Below.refl _ w).alloc (Nat.le_refl _) (.cells #[.nilFunc, .bool false, .int .i64 0, .int .i64 0, .int .i64 0, .bool false] 109))
 rw [hv, hu]
 go_enter Tryz.func112, Tryz.ntmps112
 go_upto_region 2 with (first
  | (go_at_call 34; refine (cLoad A0.mem ft hc f).mono ?_; rintro e w1 ⟨rfl, L1, hm1, st⟩; rw [hv]; have A1 := A0.step hm1 st; have g1 : Went (w.alloc (.cells #[.nilFunc, .bool false, .int .i64 0, .int .i64 0, .int .i64 0, .bool false] 109)) L w.heap.size w1 L1 := Went.of_step st _; have bq1 := bq0.step A0.mem mmM ft st)
  | (go_at_call 97; refine (F.cOf v hr.1 hr.2 _).mono ?_; rintro e w2 ⟨rfl, hw2⟩; rw [hk, hn] at hw2 ⊢; have hb2 : Below w1.heap.size w1 w2 := (by rw [hw2]; go_grown); clear hw2; have A2 := A1.below hb2; have g2 := g1.trans (Went.of_below hb2 _ _); have bq2 := bq1.below hb2))
 have A3 := A2.alloc (.cells #[.int .i64 u.k, .int .i64 u.n] 38)
 have g3 := g2.trans (Went.of_below ((Below.refl _ w2).alloc (Nat.le_refl _) (.cells #[.int .i64 u.k, .int .i64 u.n] 38)) _ _)
 have bv3 : Bx (w2.alloc (.cells #[.int .i64 u.k, .int .i64 u.n] 38)) w2.heap.size 38 #[.int .i64 u.k, .int .i64 u.n] := ⟨heap_alloc_new _ _, by decide, fun h => absurd h (by decide)⟩
 have bq3 := bq2.below ((Below.refl _ w2).alloc (Nat.le_refl _) (.cells #[.int .i64 u.k, .int .i64 u.n] 38))
 generalize hw3 : w2.alloc (.cells #[.int .i64 u.k, .int .i64 u.n] 38) = w3 at A3 g3 bv3 bq3 ⊢
 clear hw3
 generalize w2.heap.size = nb at bv3 ⊢
 have xq0 : w3.cell? ⟨q, 0, none⟩ = some (.bool false) := bq3.cell 0
 have xlq := bq3.lt
 have xnb0 : w3.cell? ⟨nb, 0, none⟩ = some (.int .i64 u.k) := bv3.cell 0
 have xnb1 : w3.cell? ⟨nb, 1, none⟩ = some (.int .i64 u.n) := bv3.cell 1
 have xlnb := bv3.lt
 have z0 : w3.cell? ⟨w.heap.size, 0, none⟩ = some (.nilFunc) := A3.cell 0
 have zf0 := A3.free 0
 have z1 : w3.cell? ⟨w.heap.size, 1, none⟩ = some (.bool false) := A3.cell 1
 have zf1 := A3.free 1
 have z2 : w3.cell? ⟨w.heap.size, 2, none⟩ = some (.int .i64 0) := A3.cell 2
 have zf2 := A3.free 2
 have z3 : w3.cell? ⟨w.heap.size, 3, none⟩ = some (.int .i64 0) := A3.cell 3
 have zf3 := A3.free 3
 have z4 : w3.cell? ⟨w.heap.size, 4, none⟩ = some (.int .i64 0) := A3.cell 4
 have zf4 := A3.free 4
 have z5 : w3.cell? ⟨w.heap.size, 5, none⟩ = some (.bool false) := A3.cell 5
 have zf5 := A3.free 5
 go_wp2
 exact bodyPost_ret (v := .agg #[.nilFunc, .bool true, .int .i64 0, .int .i64 u.k, .int .i64 u.n, .bool false]) (by simp [results, Tryz.results112, go_sem, z0, z1, z2, z3, z4, z5]) rfl (ran_end (x := ⟨none, true, ⟨0, u, false⟩⟩) A3 g3 rfl)
set_option maxHeartbeats 400000 in
theorem kRead1 {f : Int} (hm : Mm w L s) (ft : s.Fit) (hc : s.c < 1000000) (rr : s.Rng) (W : H.Wid w) (z : 1 ∉ L.fp) {p q : Nat} (bp : Bx w p 3 #[.int .i64 f]) (bq : Bx w q 4 #[.bool true]) (hf : (Vl.of (s.got f)).far = false) :
  Calls Tryz.prog 112 #[pt L.b, pt p, pt q] w fun e w' => Ran w L (⟨none, true, ⟨0, Vl.of (s.got f), false⟩⟩) (s.load f) e w' := by
 have A0 := at0 hm W z
 have cp0 : w.cell? ⟨p, 0, none⟩ = some (.int .i64 f) := bp.cell 0
 have clp := bp.lt
 have hr := rr.got f
 obtain ⟨v, hv⟩ : ∃ v, s.got f = v := ⟨_, rfl⟩
 rw [hv] at hr
 obtain ⟨u, hu⟩ : ∃ u, Vl.of v = u := ⟨_, rfl⟩
 have hk : F.Plain.kind v = u.k := by rw [← hu]; rfl
 have hn : F.Plain.num v = u.n := by rw [← hu]; rfl
 have bq0 := bq.below ((Below.refl _ w).alloc (Nat.le_refl _) (.cells #[.nilFunc, .bool false, .int .i64 0, .int .i64 0, .int .i64 0, .bool false] 109))
 rw [hv, hu]
 go_enter Tryz.func112, Tryz.ntmps112
 go_upto_region 2 with (first
  | (go_at_call 34; refine (cLoad A0.mem ft hc f).mono ?_; rintro e w1 ⟨rfl, L1, hm1, st⟩; rw [hv]; have A1 := A0.step hm1 st; have g1 : Went (w.alloc (.cells #[.nilFunc, .bool false, .int .i64 0, .int .i64 0, .int .i64 0, .bool false] 109)) L w.heap.size w1 L1 := Went.of_step st _; have bq1 := bq0.step A0.mem mmM ft st)
  | (go_at_call 97; refine (F.cOf v hr.1 hr.2 _).mono ?_; rintro e w2 ⟨rfl, hw2⟩; rw [hk, hn] at hw2 ⊢; have hb2 : Below w1.heap.size w1 w2 := (by rw [hw2]; go_grown); clear hw2; have A2 := A1.below hb2; have g2 := g1.trans (Went.of_below hb2 _ _); have bq2 := bq1.below hb2))
 have A3 := A2.alloc (.cells #[.int .i64 u.k, .int .i64 u.n] 38)
 have g3 := g2.trans (Went.of_below ((Below.refl _ w2).alloc (Nat.le_refl _) (.cells #[.int .i64 u.k, .int .i64 u.n] 38)) _ _)
 have bv3 : Bx (w2.alloc (.cells #[.int .i64 u.k, .int .i64 u.n] 38)) w2.heap.size 38 #[.int .i64 u.k, .int .i64 u.n] := ⟨heap_alloc_new _ _, by decide, fun h => absurd h (by decide)⟩
 have bq3 := bq2.below ((Below.refl _ w2).alloc (Nat.le_refl _) (.cells #[.int .i64 u.k, .int .i64 u.n] 38))
 generalize hw3 : w2.alloc (.cells #[.int .i64 u.k, .int .i64 u.n] 38) = w3 at A3 g3 bv3 bq3 ⊢
 clear hw3
 generalize w2.heap.size = nb at bv3 ⊢
 have xq0 : w3.cell? ⟨q, 0, none⟩ = some (.bool true) := bq3.cell 0
 have xlq := bq3.lt
 have xnb0 : w3.cell? ⟨nb, 0, none⟩ = some (.int .i64 u.k) := bv3.cell 0
 have xnb1 : w3.cell? ⟨nb, 1, none⟩ = some (.int .i64 u.n) := bv3.cell 1
 have xlnb := bv3.lt
 rw [hv, hu] at hf
 go_wp2_with (go_at_call 113; refine (cRefers u _).mono ?_; rintro e w4 ⟨rfl, hbw4⟩; rw [hf]; have Aw4 := A3.below hbw4; have gw4 := g3.trans (Went.of_below hbw4 _ _); have bnbw4 := bv3.below hbw4; have yw4nb0 : w4.cell? ⟨nb, 0, none⟩ = some (.int .i64 u.k) := bnbw4.cell 0; have yw4nb1 : w4.cell? ⟨nb, 1, none⟩ = some (.int .i64 u.n) := bnbw4.cell 1; have yw4lnb := bnbw4.lt; have z0 : w4.cell? ⟨w.heap.size, 0, none⟩ = some (.nilFunc) := Aw4.cell 0; have zf0 := Aw4.free 0; have z1 : w4.cell? ⟨w.heap.size, 1, none⟩ = some (.bool false) := Aw4.cell 1; have zf1 := Aw4.free 1; have z2 : w4.cell? ⟨w.heap.size, 2, none⟩ = some (.int .i64 0) := Aw4.cell 2; have zf2 := Aw4.free 2; have z3 : w4.cell? ⟨w.heap.size, 3, none⟩ = some (.int .i64 0) := Aw4.cell 3; have zf3 := Aw4.free 3; have z4 : w4.cell? ⟨w.heap.size, 4, none⟩ = some (.int .i64 0) := Aw4.cell 4; have zf4 := Aw4.free 4; have z5 : w4.cell? ⟨w.heap.size, 5, none⟩ = some (.bool false) := Aw4.cell 5; have zf5 := Aw4.free 5)
 exact bodyPost_ret (v := .agg #[.nilFunc, .bool true, .int .i64 0, .int .i64 u.k, .int .i64 u.n, .bool false]) (by simp [results, Tryz.results112, go_sem, z0, z1, z2, z3, z4, z5]) rfl (ran_end (x := ⟨none, true, ⟨0, u, false⟩⟩) Aw4 gw4 rfl)
set_option maxHeartbeats 400000 in
theorem kRead2 {f : Int} (hm : Mm w L s) (ft : s.Fit) (hc : s.c < 1000000) (rr : s.Rng) (W : H.Wid w) (z : 1 ∉ L.fp) {p q : Nat} (bp : Bx w p 3 #[.int .i64 f]) (bq : Bx w q 4 #[.bool true]) (hf : (Vl.of (s.got f)).far = true) :
  Calls Tryz.prog 112 #[pt L.b, pt p, pt q] w fun e w' => Ran w L (⟨some (.follow (Vl.of (s.got f)).n), true, Ou.zero⟩) (s.load f) e w' := by
 have A0 := at0 hm W z
 have cp0 : w.cell? ⟨p, 0, none⟩ = some (.int .i64 f) := bp.cell 0
 have clp := bp.lt
 have hr := rr.got f
 obtain ⟨v, hv⟩ : ∃ v, s.got f = v := ⟨_, rfl⟩
 rw [hv] at hr
 obtain ⟨u, hu⟩ : ∃ u, Vl.of v = u := ⟨_, rfl⟩
 have hk : F.Plain.kind v = u.k := by rw [← hu]; rfl
 have hn : F.Plain.num v = u.n := by rw [← hu]; rfl
 have bq0 := bq.below ((Below.refl _ w).alloc (Nat.le_refl _) (.cells #[.nilFunc, .bool false, .int .i64 0, .int .i64 0, .int .i64 0, .bool false] 109))
 rw [hv, hu]
 go_enter Tryz.func112, Tryz.ntmps112
 go_upto_region 2 with (first
  | (go_at_call 34; refine (cLoad A0.mem ft hc f).mono ?_; rintro e w1 ⟨rfl, L1, hm1, st⟩; rw [hv]; have A1 := A0.step hm1 st; have g1 : Went (w.alloc (.cells #[.nilFunc, .bool false, .int .i64 0, .int .i64 0, .int .i64 0, .bool false] 109)) L w.heap.size w1 L1 := Went.of_step st _; have bq1 := bq0.step A0.mem mmM ft st)
  | (go_at_call 97; refine (F.cOf v hr.1 hr.2 _).mono ?_; rintro e w2 ⟨rfl, hw2⟩; rw [hk, hn] at hw2 ⊢; have hb2 : Below w1.heap.size w1 w2 := (by rw [hw2]; go_grown); clear hw2; have A2 := A1.below hb2; have g2 := g1.trans (Went.of_below hb2 _ _); have bq2 := bq1.below hb2))
 have A3 := A2.alloc (.cells #[.int .i64 u.k, .int .i64 u.n] 38)
 have g3 := g2.trans (Went.of_below ((Below.refl _ w2).alloc (Nat.le_refl _) (.cells #[.int .i64 u.k, .int .i64 u.n] 38)) _ _)
 have bv3 : Bx (w2.alloc (.cells #[.int .i64 u.k, .int .i64 u.n] 38)) w2.heap.size 38 #[.int .i64 u.k, .int .i64 u.n] := ⟨heap_alloc_new _ _, by decide, fun h => absurd h (by decide)⟩
 have bq3 := bq2.below ((Below.refl _ w2).alloc (Nat.le_refl _) (.cells #[.int .i64 u.k, .int .i64 u.n] 38))
 generalize hw3 : w2.alloc (.cells #[.int .i64 u.k, .int .i64 u.n] 38) = w3 at A3 g3 bv3 bq3 ⊢
 clear hw3
 generalize w2.heap.size = nb at bv3 ⊢
 have xq0 : w3.cell? ⟨q, 0, none⟩ = some (.bool true) := bq3.cell 0
 have xlq := bq3.lt
 have xnb0 : w3.cell? ⟨nb, 0, none⟩ = some (.int .i64 u.k) := bv3.cell 0
 have xnb1 : w3.cell? ⟨nb, 1, none⟩ = some (.int .i64 u.n) := bv3.cell 1
 have xlnb := bv3.lt
 rw [hv, hu] at hf
 go_wp2_with (first
  | (go_at_call 113; refine (cRefers u _).mono ?_; rintro e w4 ⟨rfl, hbw4⟩; rw [hf]; have Aw4 := A3.below hbw4; have gw4 := g3.trans (Went.of_below hbw4 _ _); have bnbw4 := bv3.below hbw4; have yw4nb0 : w4.cell? ⟨nb, 0, none⟩ = some (.int .i64 u.k) := bnbw4.cell 0; have yw4nb1 : w4.cell? ⟨nb, 1, none⟩ = some (.int .i64 u.n) := bnbw4.cell 1; have yw4lnb := bnbw4.lt)
  | (go_at_call 114; refine (cFollow u.n _).mono ?_; rintro e w5 ⟨vf, rfl, R5, hb5⟩; have A5 := Aw4.below hb5; have g5 := gw4.trans (Went.of_below hb5 _ _); obtain ⟨nf, cf, hvf⟩ := R5.fn; rw [hvf] at R5 ⊢; have z0 : w5.cell? ⟨w.heap.size, 0, none⟩ = some (.nilFunc) := A5.cell 0; have zf0 := A5.free 0; have z1 : w5.cell? ⟨w.heap.size, 1, none⟩ = some (.bool false) := A5.cell 1; have zf1 := A5.free 1; have z2 : w5.cell? ⟨w.heap.size, 2, none⟩ = some (.int .i64 0) := A5.cell 2; have zf2 := A5.free 2; have z3 : w5.cell? ⟨w.heap.size, 3, none⟩ = some (.int .i64 0) := A5.cell 3; have zf3 := A5.free 3; have z4 : w5.cell? ⟨w.heap.size, 4, none⟩ = some (.int .i64 0) := A5.cell 4; have zf4 := A5.free 4; have z5 : w5.cell? ⟨w.heap.size, 5, none⟩ = some (.bool false) := A5.cell 5; have zf5 := A5.free 5))
 exact bodyPost_ret (v := .agg #[.func (.func nf) #[] cf, .bool true, .int .i64 0, .int .i64 0, .int .i64 0, .bool false]) (by simp [results, Tryz.results112, go_sem, z0, z1, z2, z3, z4, z5]) rfl (ran_end (x := ⟨some (.follow u.n), true, Ou.zero⟩) A5 g5 R5)
end
end Go.Proofs.YtpcoldpphihfmaaGreatDoor
namespace Go.Proofs.YtpcoldpphihfmaaGreatDoor
set_option linter.unusedVariables false
set_option maxRecDepth 100000
open Go.ChangeShapes Go.WideShapes Go.RowKit
open H.Plain (hw pS pC pN pM pG pT pL mv)
section
variable {w : World} {L : Loc} {s : St}
set_option maxHeartbeats 400000 in
theorem kFollow {a : Int} (hm : Mm w L s) (ft : s.Fit) (hc : s.c < 1000000) (rr : s.Rng) (W : H.Wid w) (z : 1 ∉ L.fp) {p : Nat} (bp : Bx w p 3 #[.int .i64 a]) :
  Calls Tryz.prog 123 #[pt L.b, pt p] w fun e w' => Ran w L (⟨none, false, ⟨0, ⟨1, mv (s.got a) a⟩, false⟩⟩) (s.load a) e w' := by
 have A0 := at0 hm W z
 have cp0 : w.cell? ⟨p, 0, none⟩ = some (.int .i64 a) := bp.cell 0
 have clp := bp.lt
 obtain ⟨m, hmv⟩ : ∃ m, mv (s.got a) a = m := ⟨_, rfl⟩
 rw [hmv]
 go_enter Tryz.func123, Tryz.ntmps123
 go_wp2_with (go_at_call 124; refine (cPlace A0.mem ft hc rr A0.wid A0.zero.1 a).mono ?_; rintro e w1 ⟨rfl, L1, hm1, st⟩; rw [hmv]; have A1 := A0.step hm1 st; have g1 : Went (w.alloc (.cells #[.nilFunc, .bool false, .int .i64 0, .int .i64 0, .int .i64 0, .bool false] 109)) L w.heap.size w1 L1 := Went.of_step st _; have z0 : w1.cell? ⟨w.heap.size, 0, none⟩ = some (.nilFunc) := A1.cell 0; have zf0 := A1.free 0; have z1 : w1.cell? ⟨w.heap.size, 1, none⟩ = some (.bool false) := A1.cell 1; have zf1 := A1.free 1; have z2 : w1.cell? ⟨w.heap.size, 2, none⟩ = some (.int .i64 0) := A1.cell 2; have zf2 := A1.free 2; have z3 : w1.cell? ⟨w.heap.size, 3, none⟩ = some (.int .i64 0) := A1.cell 3; have zf3 := A1.free 3; have z4 : w1.cell? ⟨w.heap.size, 4, none⟩ = some (.int .i64 0) := A1.cell 4; have zf4 := A1.free 4; have z5 : w1.cell? ⟨w.heap.size, 5, none⟩ = some (.bool false) := A1.cell 5; have zf5 := A1.free 5)
 exact bodyPost_ret (v := .agg #[.nilFunc, .bool false, .int .i64 0, .int .i64 1, .int .i64 m, .bool false]) (by simp [results, Tryz.results123, go_sem, z0, z1, z2, z3, z4, z5]) rfl (ran_end (x := ⟨none, false, ⟨0, ⟨1, m⟩, false⟩⟩) A1 g1 rfl)
set_option maxHeartbeats 400000 in
theorem kStore {f : Int} {x : Vl} (hm : Mm w L s) (ft : s.Fit) (hc : s.c < 1000000) (rr : s.Rng) (W : H.Wid w) (z : 1 ∉ L.fp) {p q : Nat} (bp : Bx w p 3 #[.int .i64 f]) (bq : Bx w q 38 #[.int .i64 x.k, .int .i64 x.n]) :
  Calls Tryz.prog 115 #[pt L.b, pt p, pt q] w fun e w' => Ran w L (⟨none, true, Ou.zero⟩) (s.store f (F.Plain.word x.k x.n)) e w' := by
 have A0 := at0 hm W z
 have bp0 := bp.below ((Below.refl _ w).alloc (Nat.le_refl _) (.cells #[.nilFunc, .bool false, .int .i64 0, .int .i64 0, .int .i64 0, .bool false] 109))
 have bq0 := bq.below ((Below.refl _ w).alloc (Nat.le_refl _) (.cells #[.nilFunc, .bool false, .int .i64 0, .int .i64 0, .int .i64 0, .bool false] 109))
 have g0 : Went (w.alloc (.cells #[.nilFunc, .bool false, .int .i64 0, .int .i64 0, .int .i64 0, .bool false] 109)) L w.heap.size (w.alloc (.cells #[.nilFunc, .bool false, .int .i64 0, .int .i64 0, .int .i64 0, .bool false] 109)) L := Went.refl _ _ _
 obtain ⟨wa, hwa⟩ : ∃ wa, w.alloc (.cells #[.nilFunc, .bool false, .int .i64 0, .int .i64 0, .int .i64 0, .bool false] 109) = wa := ⟨_, rfl⟩
 rw [hwa] at A0 bp0 bq0
 have ga : Went (w.alloc (.cells #[.nilFunc, .bool false, .int .i64 0, .int .i64 0, .int .i64 0, .bool false] 109)) L w.heap.size wa L := (by rw [hwa]; exact Went.refl _ _ _)
 clear g0
 go_enter Tryz.func115, Tryz.ntmps115
 go_upto_region 1 with (fail)
 clear hwa
 have keep : ∀ w', Below wa.heap.size wa w' → w'.cell? ⟨p, 0, none⟩ = some (.int .i64 f) ∧ w'.cell? ⟨q, 0, none⟩ = some (.int .i64 x.k) ∧ w'.cell? ⟨q, 1, none⟩ = some (.int .i64 x.n) := fun w' hb => ⟨(bp0.below hb).cell 0, (bq0.below hb).cell 0, (bq0.below hb).cell 1⟩
 have hbd : Below wa.heap.size wa wa.drew := (Below.refl wa.heap.size wa).drew
 have RD := keep _ hbd
 go_region_held3 (fun w' => w'.cell? ⟨p, 0, none⟩ = some (.int .i64 f) ∧ w'.cell? ⟨q, 0, none⟩ = some (.int .i64 x.k) ∧ w'.cell? ⟨q, 1, none⟩ = some (.int .i64 x.n)) (first | assumption | exact RD | exact keep _ (by assumption))
  (first
   | (go_at_call 83; refine (F.cWord x.k x.n _).mono ?_; rintro e w1 ⟨rfl, hw1⟩; have hb1 : Below wa.heap.size wa w1 := (by rw [hw1]; exact bel_trans hbd ((Below.refl _ _).alloc (Nat.le_refl _) _)); clear hw1)
   | (go_at_call 13; refine (cStore (A0.below hb1).mem ft hc f (F.Plain.word x.k x.n)).mono ?_; rintro e w2 ⟨rfl, L2, hm2, st2⟩; have A2 := (A0.below hb1).step hm2 st2; have g2 := (ga.trans (Went.of_below hb1 L _)).trans (Went.of_step st2 _); have S2 : w2.cell? ⟨p, 0, none⟩ = some (.int .i64 f) ∧ w2.cell? ⟨q, 0, none⟩ = some (.int .i64 x.k) ∧ w2.cell? ⟨q, 1, none⟩ = some (.int .i64 x.n) := ⟨((bp0.below hb1).step (A0.below hb1).mem mmM ft st2).cell 0, ((bq0.below hb1).step (A0.below hb1).mem mmM ft st2).cell 0, ((bq0.below hb1).step (A0.below hb1).mem mmM ft st2).cell 1⟩; have z0 : w2.cell? ⟨w.heap.size, 0, none⟩ = some (.nilFunc) := A2.cell 0; have zf0 := A2.free 0; have z1 : w2.cell? ⟨w.heap.size, 1, none⟩ = some (.bool false) := A2.cell 1; have zf1 := A2.free 1; have z2 : w2.cell? ⟨w.heap.size, 2, none⟩ = some (.int .i64 0) := A2.cell 2; have zf2 := A2.free 2; have z3 : w2.cell? ⟨w.heap.size, 3, none⟩ = some (.int .i64 0) := A2.cell 3; have zf3 := A2.free 3; have z4 : w2.cell? ⟨w.heap.size, 4, none⟩ = some (.int .i64 0) := A2.cell 4; have zf4 := A2.free 4; have z5 : w2.cell? ⟨w.heap.size, 5, none⟩ = some (.bool false) := A2.cell 5; have zf5 := A2.free 5))
 go_wp2
 exact bodyPost_ret (v := .agg #[.nilFunc, .bool true, .int .i64 0, .int .i64 0, .int .i64 0, .bool false]) (by simp [results, Tryz.results115, go_sem, z0, z1, z2, z3, z4, z5]) rfl (ran_end (x := ⟨none, true, Ou.zero⟩) A2 g2 rfl)
set_option maxHeartbeats 400000 in
theorem kExchT {f y : Int} {rq : Rq} {h : Hw} (hm : Mm w L s) (ft : s.Fit) (hc : s.c < 1000000) (rr : s.Rng) (W : H.Wid w) (z : 1 ∉ L.fp) {p q t o : Nat} (bp : Bx w p 3 #[.int .i64 f]) (bq : Bx w q 43 #[.int .u64 y]) (bt : Bx w t 48 rq.cells) (bo : Bx w o 102 h.cells) (hok : s.ok1 f y = true) :
  Calls Tryz.prog 127 #[pt L.b, pt p, pt q, pt t, pt o] w fun e w' => Ran w L (⟨none, true, ⟨0, Vl.zero, true⟩⟩) (s.cas f y (F.Plain.word rq.y.k rq.y.n)) e w' := by
 have A0 := at0 hm W z
 have bp0 := bp.below ((Below.refl _ w).alloc (Nat.le_refl _) (.cells #[.nilFunc, .bool false, .int .i64 0, .int .i64 0, .int .i64 0, .bool false] 109))
 have bq0 := bq.below ((Below.refl _ w).alloc (Nat.le_refl _) (.cells #[.nilFunc, .bool false, .int .i64 0, .int .i64 0, .int .i64 0, .bool false] 109))
 have bt0 := bt.below ((Below.refl _ w).alloc (Nat.le_refl _) (.cells #[.nilFunc, .bool false, .int .i64 0, .int .i64 0, .int .i64 0, .bool false] 109))
 have bo0 := bo.below ((Below.refl _ w).alloc (Nat.le_refl _) (.cells #[.nilFunc, .bool false, .int .i64 0, .int .i64 0, .int .i64 0, .bool false] 109))
 have g0 : Went (w.alloc (.cells #[.nilFunc, .bool false, .int .i64 0, .int .i64 0, .int .i64 0, .bool false] 109)) L w.heap.size (w.alloc (.cells #[.nilFunc, .bool false, .int .i64 0, .int .i64 0, .int .i64 0, .bool false] 109)) L := Went.refl _ _ _
 obtain ⟨wa, hwa⟩ : ∃ wa, w.alloc (.cells #[.nilFunc, .bool false, .int .i64 0, .int .i64 0, .int .i64 0, .bool false] 109) = wa := ⟨_, rfl⟩
 rw [hwa] at A0 bp0 bq0 bt0 bo0
 have ga : Went (w.alloc (.cells #[.nilFunc, .bool false, .int .i64 0, .int .i64 0, .int .i64 0, .bool false] 109)) L w.heap.size wa L := (by rw [hwa]; exact Went.refl _ _ _)
 clear g0
 go_enter Tryz.func127, Tryz.ntmps127
 go_upto_region 1 with (fail)
 clear hwa
 have keep : ∀ w', Below wa.heap.size wa w' → w'.cell? ⟨p, 0, none⟩ = some (.int .i64 f) ∧ w'.cell? ⟨q, 0, none⟩ = some (.int .u64 y) ∧ w'.cell? ⟨t, 0, none⟩ = some (.int .i64 rq.op) ∧ w'.cell? ⟨t, 1, none⟩ = some (.int .i64 rq.at_) ∧ w'.cell? ⟨t, 2, none⟩ = some (.int .i64 rq.fd) ∧ w'.cell? ⟨t, 3, none⟩ = some (.int .i64 rq.x.k) ∧ w'.cell? ⟨t, 4, none⟩ = some (.int .i64 rq.x.n) ∧ w'.cell? ⟨t, 5, none⟩ = some (.int .i64 rq.y.k) ∧ w'.cell? ⟨t, 6, none⟩ = some (.int .i64 rq.y.n) := fun w' hb => ⟨(bp0.below hb).cell 0, (bq0.below hb).cell 0, (bt0.below hb).cell 0, (bt0.below hb).cell 1, (bt0.below hb).cell 2, (bt0.below hb).cell 3, (bt0.below hb).cell 4, (bt0.below hb).cell 5, (bt0.below hb).cell 6⟩
 have hbd : Below wa.heap.size wa wa.drew := (Below.refl wa.heap.size wa).drew
 have RD := keep _ hbd
 go_region_held3 (fun w' => w'.cell? ⟨p, 0, none⟩ = some (.int .i64 f) ∧ w'.cell? ⟨q, 0, none⟩ = some (.int .u64 y) ∧ w'.cell? ⟨t, 0, none⟩ = some (.int .i64 rq.op) ∧ w'.cell? ⟨t, 1, none⟩ = some (.int .i64 rq.at_) ∧ w'.cell? ⟨t, 2, none⟩ = some (.int .i64 rq.fd) ∧ w'.cell? ⟨t, 3, none⟩ = some (.int .i64 rq.x.k) ∧ w'.cell? ⟨t, 4, none⟩ = some (.int .i64 rq.x.n) ∧ w'.cell? ⟨t, 5, none⟩ = some (.int .i64 rq.y.k) ∧ w'.cell? ⟨t, 6, none⟩ = some (.int .i64 rq.y.n)) (first | assumption | exact RD | exact keep _ (by assumption))
  (first
   | (go_at_call 83; refine (F.cWord rq.y.k rq.y.n _).mono ?_; rintro e w1 ⟨rfl, hw1⟩; have hb1 : Below wa.heap.size wa w1 := (by rw [hw1]; exact bel_trans hbd ((Below.refl _ _).alloc (Nat.le_refl _) _)); clear hw1)
   | (go_at_call 62; refine (cCAS (A0.below hb1).mem ft hc f y (F.Plain.word rq.y.k rq.y.n)).mono ?_; rintro e w2 ⟨rfl, L2, hm2, st2⟩; rw [hok]; have A2 := (A0.below hb1).step hm2 st2; have g2 := (ga.trans (Went.of_below hb1 L _)).trans (Went.of_step st2 _); have S2 : w2.cell? ⟨p, 0, none⟩ = some (.int .i64 f) ∧ w2.cell? ⟨q, 0, none⟩ = some (.int .u64 y) ∧ w2.cell? ⟨t, 0, none⟩ = some (.int .i64 rq.op) ∧ w2.cell? ⟨t, 1, none⟩ = some (.int .i64 rq.at_) ∧ w2.cell? ⟨t, 2, none⟩ = some (.int .i64 rq.fd) ∧ w2.cell? ⟨t, 3, none⟩ = some (.int .i64 rq.x.k) ∧ w2.cell? ⟨t, 4, none⟩ = some (.int .i64 rq.x.n) ∧ w2.cell? ⟨t, 5, none⟩ = some (.int .i64 rq.y.k) ∧ w2.cell? ⟨t, 6, none⟩ = some (.int .i64 rq.y.n) := ⟨((bp0.below hb1).step (A0.below hb1).mem mmM ft st2).cell 0, ((bq0.below hb1).step (A0.below hb1).mem mmM ft st2).cell 0, ((bt0.below hb1).step (A0.below hb1).mem mmM ft st2).cell 0, ((bt0.below hb1).step (A0.below hb1).mem mmM ft st2).cell 1, ((bt0.below hb1).step (A0.below hb1).mem mmM ft st2).cell 2, ((bt0.below hb1).step (A0.below hb1).mem mmM ft st2).cell 3, ((bt0.below hb1).step (A0.below hb1).mem mmM ft st2).cell 4, ((bt0.below hb1).step (A0.below hb1).mem mmM ft st2).cell 5, ((bt0.below hb1).step (A0.below hb1).mem mmM ft st2).cell 6⟩; have z0 : w2.cell? ⟨w.heap.size, 0, none⟩ = some (.nilFunc) := A2.cell 0; have zf0 := A2.free 0; have z1 : w2.cell? ⟨w.heap.size, 1, none⟩ = some (.bool false) := A2.cell 1; have zf1 := A2.free 1; have z2 : w2.cell? ⟨w.heap.size, 2, none⟩ = some (.int .i64 0) := A2.cell 2; have zf2 := A2.free 2; have z3 : w2.cell? ⟨w.heap.size, 3, none⟩ = some (.int .i64 0) := A2.cell 3; have zf3 := A2.free 3; have z4 : w2.cell? ⟨w.heap.size, 4, none⟩ = some (.int .i64 0) := A2.cell 4; have zf4 := A2.free 4; have z5 : w2.cell? ⟨w.heap.size, 5, none⟩ = some (.bool false) := A2.cell 5; have zf5 := A2.free 5))
 go_wp2
 exact bodyPost_ret (v := .agg #[.nilFunc, .bool true, .int .i64 0, .int .i64 0, .int .i64 0, .bool true]) (by simp [results, Tryz.results127, go_sem, z0, z1, z2, z3, z4, z5]) rfl (ran_end (x := ⟨none, true, ⟨0, Vl.zero, true⟩⟩) A2 g2 rfl)
set_option maxHeartbeats 400000 in
theorem kExchF {f y : Int} {rq : Rq} {h : Hw} (hm : Mm w L s) (ft : s.Fit) (hc : s.c < 1000000) (rr : s.Rng) (W : H.Wid w) (z : 1 ∉ L.fp) {p q t o : Nat} (bp : Bx w p 3 #[.int .i64 f]) (bq : Bx w q 43 #[.int .u64 y]) (bt : Bx w t 48 rq.cells) (bo : Bx w o 102 h.cells) (hok : s.ok1 f y = false) :
  Calls Tryz.prog 127 #[pt L.b, pt p, pt q, pt t, pt o] w fun e w' => Ran w L (⟨some (.swap f rq h), false, Ou.zero⟩) (s.cas f y (F.Plain.word rq.y.k rq.y.n)) e w' := by
 have A0 := at0 hm W z
 have bp0 := bp.below ((Below.refl _ w).alloc (Nat.le_refl _) (.cells #[.nilFunc, .bool false, .int .i64 0, .int .i64 0, .int .i64 0, .bool false] 109))
 have bq0 := bq.below ((Below.refl _ w).alloc (Nat.le_refl _) (.cells #[.nilFunc, .bool false, .int .i64 0, .int .i64 0, .int .i64 0, .bool false] 109))
 have bt0 := bt.below ((Below.refl _ w).alloc (Nat.le_refl _) (.cells #[.nilFunc, .bool false, .int .i64 0, .int .i64 0, .int .i64 0, .bool false] 109))
 have bo0 := bo.below ((Below.refl _ w).alloc (Nat.le_refl _) (.cells #[.nilFunc, .bool false, .int .i64 0, .int .i64 0, .int .i64 0, .bool false] 109))
 have g0 : Went (w.alloc (.cells #[.nilFunc, .bool false, .int .i64 0, .int .i64 0, .int .i64 0, .bool false] 109)) L w.heap.size (w.alloc (.cells #[.nilFunc, .bool false, .int .i64 0, .int .i64 0, .int .i64 0, .bool false] 109)) L := Went.refl _ _ _
 obtain ⟨wa, hwa⟩ : ∃ wa, w.alloc (.cells #[.nilFunc, .bool false, .int .i64 0, .int .i64 0, .int .i64 0, .bool false] 109) = wa := ⟨_, rfl⟩
 rw [hwa] at A0 bp0 bq0 bt0 bo0
 have ga : Went (w.alloc (.cells #[.nilFunc, .bool false, .int .i64 0, .int .i64 0, .int .i64 0, .bool false] 109)) L w.heap.size wa L := (by rw [hwa]; exact Went.refl _ _ _)
 clear g0
 go_enter Tryz.func127, Tryz.ntmps127
 go_upto_region 1 with (fail)
 clear hwa
 have keep : ∀ w', Below wa.heap.size wa w' → w'.cell? ⟨p, 0, none⟩ = some (.int .i64 f) ∧ w'.cell? ⟨q, 0, none⟩ = some (.int .u64 y) ∧ w'.cell? ⟨t, 0, none⟩ = some (.int .i64 rq.op) ∧ w'.cell? ⟨t, 1, none⟩ = some (.int .i64 rq.at_) ∧ w'.cell? ⟨t, 2, none⟩ = some (.int .i64 rq.fd) ∧ w'.cell? ⟨t, 3, none⟩ = some (.int .i64 rq.x.k) ∧ w'.cell? ⟨t, 4, none⟩ = some (.int .i64 rq.x.n) ∧ w'.cell? ⟨t, 5, none⟩ = some (.int .i64 rq.y.k) ∧ w'.cell? ⟨t, 6, none⟩ = some (.int .i64 rq.y.n) := fun w' hb => ⟨(bp0.below hb).cell 0, (bq0.below hb).cell 0, (bt0.below hb).cell 0, (bt0.below hb).cell 1, (bt0.below hb).cell 2, (bt0.below hb).cell 3, (bt0.below hb).cell 4, (bt0.below hb).cell 5, (bt0.below hb).cell 6⟩
 have hbd : Below wa.heap.size wa wa.drew := (Below.refl wa.heap.size wa).drew
 have RD := keep _ hbd
 go_region_held3 (fun w' => w'.cell? ⟨p, 0, none⟩ = some (.int .i64 f) ∧ w'.cell? ⟨q, 0, none⟩ = some (.int .u64 y) ∧ w'.cell? ⟨t, 0, none⟩ = some (.int .i64 rq.op) ∧ w'.cell? ⟨t, 1, none⟩ = some (.int .i64 rq.at_) ∧ w'.cell? ⟨t, 2, none⟩ = some (.int .i64 rq.fd) ∧ w'.cell? ⟨t, 3, none⟩ = some (.int .i64 rq.x.k) ∧ w'.cell? ⟨t, 4, none⟩ = some (.int .i64 rq.x.n) ∧ w'.cell? ⟨t, 5, none⟩ = some (.int .i64 rq.y.k) ∧ w'.cell? ⟨t, 6, none⟩ = some (.int .i64 rq.y.n)) (first | assumption | exact RD | exact keep _ (by assumption))
  (first
   | (go_at_call 83; refine (F.cWord rq.y.k rq.y.n _).mono ?_; rintro e w1 ⟨rfl, hw1⟩; have hb1 : Below wa.heap.size wa w1 := (by rw [hw1]; exact bel_trans hbd ((Below.refl _ _).alloc (Nat.le_refl _) _)); clear hw1)
   | (go_at_call 62; refine (cCAS (A0.below hb1).mem ft hc f y (F.Plain.word rq.y.k rq.y.n)).mono ?_; rintro e w2 ⟨rfl, L2, hm2, st2⟩; rw [hok]; have A2 := (A0.below hb1).step hm2 st2; have g2 := (ga.trans (Went.of_below hb1 L _)).trans (Went.of_step st2 _); have S2 : w2.cell? ⟨p, 0, none⟩ = some (.int .i64 f) ∧ w2.cell? ⟨q, 0, none⟩ = some (.int .u64 y) ∧ w2.cell? ⟨t, 0, none⟩ = some (.int .i64 rq.op) ∧ w2.cell? ⟨t, 1, none⟩ = some (.int .i64 rq.at_) ∧ w2.cell? ⟨t, 2, none⟩ = some (.int .i64 rq.fd) ∧ w2.cell? ⟨t, 3, none⟩ = some (.int .i64 rq.x.k) ∧ w2.cell? ⟨t, 4, none⟩ = some (.int .i64 rq.x.n) ∧ w2.cell? ⟨t, 5, none⟩ = some (.int .i64 rq.y.k) ∧ w2.cell? ⟨t, 6, none⟩ = some (.int .i64 rq.y.n) := ⟨((bp0.below hb1).step (A0.below hb1).mem mmM ft st2).cell 0, ((bq0.below hb1).step (A0.below hb1).mem mmM ft st2).cell 0, ((bt0.below hb1).step (A0.below hb1).mem mmM ft st2).cell 0, ((bt0.below hb1).step (A0.below hb1).mem mmM ft st2).cell 1, ((bt0.below hb1).step (A0.below hb1).mem mmM ft st2).cell 2, ((bt0.below hb1).step (A0.below hb1).mem mmM ft st2).cell 3, ((bt0.below hb1).step (A0.below hb1).mem mmM ft st2).cell 4, ((bt0.below hb1).step (A0.below hb1).mem mmM ft st2).cell 5, ((bt0.below hb1).step (A0.below hb1).mem mmM ft st2).cell 6⟩; have bo2 := (bo0.below hb1).step (A0.below hb1).mem mmM ft st2; have bp2 := (bp0.below hb1).step (A0.below hb1).mem mmM ft st2; have bt2 := (bt0.below hb1).step (A0.below hb1).mem mmM ft st2; have xo0 : w2.cell? ⟨o, 0, none⟩ = some (.bool h.sh) := bo2.cell 0; have xo1 : w2.cell? ⟨o, 1, none⟩ = some (.bool h.ca) := bo2.cell 1; have xo2 : w2.cell? ⟨o, 2, none⟩ = some (.bool h.fx) := bo2.cell 2; have xo3 : w2.cell? ⟨o, 3, none⟩ = some (.int .i64 h.mr) := bo2.cell 3; have xlo := bo2.lt; have xp0 : w2.cell? ⟨p, 0, none⟩ = some (.int .i64 f) := bp2.cell 0; have xlp := bp2.lt; have xt0 : w2.cell? ⟨t, 0, none⟩ = some (.int .i64 rq.op) := bt2.cell 0; have xt1 : w2.cell? ⟨t, 1, none⟩ = some (.int .i64 rq.at_) := bt2.cell 1; have xt2 : w2.cell? ⟨t, 2, none⟩ = some (.int .i64 rq.fd) := bt2.cell 2; have xt3 : w2.cell? ⟨t, 3, none⟩ = some (.int .i64 rq.x.k) := bt2.cell 3; have xt4 : w2.cell? ⟨t, 4, none⟩ = some (.int .i64 rq.x.n) := bt2.cell 4; have xt5 : w2.cell? ⟨t, 5, none⟩ = some (.int .i64 rq.y.k) := bt2.cell 5; have xt6 : w2.cell? ⟨t, 6, none⟩ = some (.int .i64 rq.y.n) := bt2.cell 6; have xlt := bt2.lt))
 go_wp2_with (go_at_call 110; refine (cSwapK f rq h _).mono ?_; rintro e w3 ⟨vf, rfl, R3, hb3⟩; have A3 := A2.below hb3; have g3 := g2.trans (Went.of_below hb3 _ _); obtain ⟨nf, cf, hvf⟩ := R3.fn; rw [hvf] at R3 ⊢; have z0 : w3.cell? ⟨w.heap.size, 0, none⟩ = some (.nilFunc) := A3.cell 0; have zf0 := A3.free 0; have z1 : w3.cell? ⟨w.heap.size, 1, none⟩ = some (.bool false) := A3.cell 1; have zf1 := A3.free 1; have z2 : w3.cell? ⟨w.heap.size, 2, none⟩ = some (.int .i64 0) := A3.cell 2; have zf2 := A3.free 2; have z3 : w3.cell? ⟨w.heap.size, 3, none⟩ = some (.int .i64 0) := A3.cell 3; have zf3 := A3.free 3; have z4 : w3.cell? ⟨w.heap.size, 4, none⟩ = some (.int .i64 0) := A3.cell 4; have zf4 := A3.free 4; have z5 : w3.cell? ⟨w.heap.size, 5, none⟩ = some (.bool false) := A3.cell 5; have zf5 := A3.free 5)
 exact bodyPost_ret (v := .agg #[.func (.func nf) #[] cf, .bool false, .int .i64 0, .int .i64 0, .int .i64 0, .bool false]) (by simp [results, Tryz.results127, go_sem, z0, z1, z2, z3, z4, z5]) rfl (ran_end (x := ⟨some (.swap f rq h), false, Ou.zero⟩) A3 g3 R3)
set_option maxHeartbeats 400000 in
theorem kCompS {a b : Int} {k : K} {u : Value} {t : Nat} (hm : Mm w L s) (ft : s.Fit) (hc : s.c < 1000000) (rr : s.Rng) (W : H.Wid w) (z : 1 ∉ L.fp) {p q r : Nat} (bp : Bx w p 3 #[.int .i64 a]) (bq : Bx w q 174 #[.func (.func 121) #[] #[pt t]]) (br : Bx w r 3 #[.int .i64 b]) (bt : Bx w t 107 #[u]) (R : Rep w k u) :
  Calls Tryz.prog 128 #[pt L.b, pt p, pt q, pt r] w fun e w' => Ran w L (⟨some (.comp2S (mv (s.got a) a) b k), false, Ou.zero⟩) (s.load a) e w' := by
 have A0 := at0 hm W z
 have cp0 : w.cell? ⟨p, 0, none⟩ = some (.int .i64 a) := bp.cell 0
 have clp := bp.lt
 have bq0 := bq.below ((Below.refl _ w).alloc (Nat.le_refl _) (.cells #[.nilFunc, .bool false, .int .i64 0, .int .i64 0, .int .i64 0, .bool false] 109))
 have br0 := br.below ((Below.refl _ w).alloc (Nat.le_refl _) (.cells #[.nilFunc, .bool false, .int .i64 0, .int .i64 0, .int .i64 0, .bool false] 109))
 have bt0 := bt.below ((Below.refl _ w).alloc (Nat.le_refl _) (.cells #[.nilFunc, .bool false, .int .i64 0, .int .i64 0, .int .i64 0, .bool false] 109))
 have R0 := R.below ((Below.refl _ w).alloc (Nat.le_refl _) (.cells #[.nilFunc, .bool false, .int .i64 0, .int .i64 0, .int .i64 0, .bool false] 109))
 obtain ⟨m, hmv⟩ : ∃ m, mv (s.got a) a = m := ⟨_, rfl⟩
 rw [hmv]
 go_enter Tryz.func128, Tryz.ntmps128
 go_upto_region 2 with (go_at_call 124; refine (cPlace A0.mem ft hc rr A0.wid A0.zero.1 a).mono ?_; rintro e w1 ⟨rfl, L1, hm1, st⟩; rw [hmv]; have A1 := A0.step hm1 st; have g1 : Went (w.alloc (.cells #[.nilFunc, .bool false, .int .i64 0, .int .i64 0, .int .i64 0, .bool false] 109)) L w.heap.size w1 L1 := Went.of_step st _; have bq1 := bq0.step A0.mem mmM ft st; have br1 := br0.step A0.mem mmM ft st; have bt1 := bt0.step A0.mem mmM ft st; have R1 := R0.step A0.mem mmM ft st)
 have b2 : Below w1.heap.size w1 (w1.alloc (.cells #[.int .i64 m] 3)) := (Below.refl _ w1).alloc (Nat.le_refl _) (.cells #[.int .i64 m] 3)
 have A2 := A1.below b2
 have g2 := g1.trans (Went.of_below b2 _ _)
 have bm2 : Bx (w1.alloc (.cells #[.int .i64 m] 3)) w1.heap.size 3 #[.int .i64 m] := ⟨heap_alloc_new _ _, by decide, fun h => absurd h (by decide)⟩
 have bq2 := bq1.below b2
 have br2 := br1.below b2
 have bt2 := bt1.below b2
 have R2 := R1.below b2
 generalize hw2 : w1.alloc (.cells #[.int .i64 m] 3) = w2 at A2 g2 bm2 bq2 br2 bt2 R2 ⊢
 clear hw2 b2
 generalize w1.heap.size = nb at bm2 ⊢
 have z0 : w2.cell? ⟨w.heap.size, 0, none⟩ = some (.nilFunc) := A2.cell 0
 have zf0 := A2.free 0
 have z1 : w2.cell? ⟨w.heap.size, 1, none⟩ = some (.bool false) := A2.cell 1
 have zf1 := A2.free 1
 have z2 : w2.cell? ⟨w.heap.size, 2, none⟩ = some (.int .i64 0) := A2.cell 2
 have zf2 := A2.free 2
 have z3 : w2.cell? ⟨w.heap.size, 3, none⟩ = some (.int .i64 0) := A2.cell 3
 have zf3 := A2.free 3
 have z4 : w2.cell? ⟨w.heap.size, 4, none⟩ = some (.int .i64 0) := A2.cell 4
 have zf4 := A2.free 4
 have z5 : w2.cell? ⟨w.heap.size, 5, none⟩ = some (.bool false) := A2.cell 5
 have zf5 := A2.free 5
 go_wp2
 exact bodyPost_ret (v := .agg #[.func (.func 129) #[] #[pt q, pt nb, pt r], .bool false, .int .i64 0, .int .i64 0, .int .i64 0, .bool false]) (by simp [results, Tryz.results128, go_sem, z0, z1, z2, z3, z4, z5]) rfl (ran_end (x := ⟨some (.comp2S (m) b k), false, Ou.zero⟩) A2 g2 ⟨nb, q, r, t, u, rfl, bm2, bq2, br2, bt2, R2⟩)
end
end Go.Proofs.YtpcoldpphihfmaaGreatDoor
