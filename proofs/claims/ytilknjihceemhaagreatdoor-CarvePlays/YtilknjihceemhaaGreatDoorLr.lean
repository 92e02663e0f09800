/-
  What the reference's machines come to when they are stepped.
-/
import Derived.Test.YtilknjihceemhaaGreatDoorLc
namespace Go.Proofs.YtilknjihceemhaaGreatDoor
set_option linter.unusedVariables false
set_option maxRecDepth 100000
open Go.ChangeShapes Go.WideShapes Go.RowKit
open S.Plain (t0 t1 tw nx)
open H.Plain (hw pL)

def PopS.rcells (x : PopS) (h : Int) : Array Value := #[.int .i64 x.hd, .int .i64 x.pc, .int .u64 x.seen, .int .u64 h, .int .i64 x.at_, .int .u64 x.saw]
def PushS.rcells (x : PushS) : Array Value := #[.int .i64 x.hd, .int .i64 x.fst, .int .i64 x.lst, .int .i64 x.cls, .int .i64 x.pc, .int .u64 x.seen]
theorem rNewPush (h f l c : Int) (w : World) :
    Calls Tryz.prog 58 #[.int .i64 h, .int .i64 f, .int .i64 l, .int .i64 c] w fun e w' => e = .returned (.pointer (some ⟨w.heap.size, 0, none⟩)) ∧ w' = w.alloc (.cells ((PushS.new h f l c).rcells) 128) := by
  go_enter Tryz.func58, Tryz.ntmps58
  go_wp2
  go_ret
  exact ⟨rfl, rfl⟩
section
variable {w : World} {L : Loc} {s : St} {p : Nat}
set_option maxHeartbeats 1000000 in
theorem rPush1 {h a l c z : Int} (A : At 61 w L s p 128 #[.int .i64 h, .int .i64 a, .int .i64 l, .int .i64 c, .int .i64 1, .int .u64 z]) (f : s.Fit) (hc : s.c < 1000000) (r : s.Rng) (hz : U64 z) :
    Calls Tryz.prog 59 #[.pointer (some ⟨p, 0, none⟩), .pointer (some ⟨L.b, 0, none⟩)] w fun e w' => e = .returned (.bool false) ∧
      ∃ L', At 61 w' L' (s.load h) p 128 #[.int .i64 h, .int .i64 a, .int .i64 l, .int .i64 c, .int .i64 2, .int .u64 (s.got h)] ∧ Went w L p w' L' := by
  have c0 : w.cell? ⟨p, 0, none⟩ = some (.int .i64 h) := A.cell 0
  have cf0 := A.free 0
  have c4 : w.cell? ⟨p, 4, none⟩ = some (.int .i64 1) := A.cell 4
  have cf4 := A.free 4
  obtain ⟨v, hv⟩ : ∃ v, s.got h = v := ⟨_, rfl⟩
  rw [hv]
  go_enter Tryz.func59, Tryz.ntmps59
  go_wp2_with (go_at_call 51; refine (rLoad A.mem f hc h).mono ?_; rintro e w1 ⟨rfl, L1, hm1, st⟩; rw [hv]; have A1 := A.step hm1 st; have d4 : w1.cell? ⟨p, 4, none⟩ = some (.int .i64 1) := A1.cell 4; have df4 := A1.free 4; have d5 : w1.cell? ⟨p, 5, none⟩ = some (.int .u64 z) := A1.cell 5; have df5 := A1.free 5)
  go_ret
  exact ⟨rfl, L1, (A1.set 5 _).set 4 (.int .i64 2), ((Went.of_step st p).trans (Went.set _ _ _ _ _)).trans (Went.set _ _ _ _ _)⟩
set_option maxHeartbeats 1000000 in
theorem rPush2 {h a l c z : Int} (A : At 61 w L s p 128 #[.int .i64 h, .int .i64 a, .int .i64 l, .int .i64 c, .int .i64 2, .int .u64 z]) (f : s.Fit) (hc : s.c < 1000000) (r : s.Rng) (hz : U64 z) :
    Calls Tryz.prog 59 #[.pointer (some ⟨p, 0, none⟩), .pointer (some ⟨L.b, 0, none⟩)] w fun e w' => e = .returned (.bool false) ∧
      ∃ L', At 61 w' L' (s.store l (hw 0 c 0 0 0 0 (t0 z))) p 128 #[.int .i64 h, .int .i64 a, .int .i64 l, .int .i64 c, .int .i64 3, .int .u64 z] ∧ Went w L p w' L' := by
  have c4 : w.cell? ⟨p, 4, none⟩ = some (.int .i64 2) := A.cell 4
  have cf4 := A.free 4
  have f0 := ftop0 (t0 z) (t1 z)
  have keep : ∀ w', Below w.heap.size w w' → w'.cell? ⟨p, 2, none⟩ = some (.int .i64 l) ∧ w'.cell? ⟨p, 3, none⟩ = some (.int .i64 c) ∧ w'.cell? ⟨p, 5, none⟩ = some (.int .u64 z) := fun w' hb => ⟨(A.below hb).cell 2, (A.below hb).cell 3, (A.below hb).cell 5⟩
  have hbd : Below w.heap.size w w.drew := (Below.refl w.heap.size w).drew
  have RD := keep _ hbd
  go_enter Tryz.func59, Tryz.ntmps59
  go_wp2
  go_region_held3 (fun w' => w'.cell? ⟨p, 2, none⟩ = some (.int .i64 l) ∧ w'.cell? ⟨p, 3, none⟩ = some (.int .i64 c) ∧ w'.cell? ⟨p, 5, none⟩ = some (.int .u64 z)) (first | assumption | exact RD | exact keep _ (by assumption))
    (first
      | (go_at_call 49; refine (S.rOfTop z hz.1 hz.2 _).mono ?_; rintro e w0 ⟨rfl, hw0⟩; have hb0' : Below w.heap.size w w0 := hw0 ▸ bel_trans hbd ((Below.refl _ _).alloc (Nat.le_refl _) _); clear hw0)
      | (go_at_call 57; refine (H.rWord 0 c 0 0 0 0 (t0 z) _).mono ?_; rintro e w1 ⟨rfl, hw1⟩; have hb1' : Below w.heap.size w w1 := hw1 ▸ bel_trans hb0' ((Below.refl _ _).alloc (Nat.le_refl _) _); clear hw1)
      | (go_at_call 55; refine (rStore (A.below hb1').mem f hc l _).mono ?_; rintro e w2 ⟨rfl, L2, hm2, st2⟩; have A2 := (A.below hb1').step hm2 st2; have S2 : w2.cell? ⟨p, 2, none⟩ = some (.int .i64 l) ∧ w2.cell? ⟨p, 3, none⟩ = some (.int .i64 c) ∧ w2.cell? ⟨p, 5, none⟩ = some (.int .u64 z) := ⟨A2.cell 2, A2.cell 3, A2.cell 5⟩; have g2 := (Went.of_below hb1' L p).trans (Went.of_step st2 p); have d4 : w2.cell? ⟨p, 4, none⟩ = some (.int .i64 2) := A2.cell 4; have df4 := A2.free 4))
  go_wp2
  go_ret
  exact ⟨rfl, L2, A2.set 4 (.int .i64 3), g2.trans (Went.set _ _ _ _ _)⟩
set_option maxHeartbeats 1000000 in
theorem rPush3t {h a l c z : Int} (A : At 61 w L s p 128 #[.int .i64 h, .int .i64 a, .int .i64 l, .int .i64 c, .int .i64 3, .int .u64 z]) (f : s.Fit) (hc : s.c < 1000000) (r : s.Rng) (hz : U64 z) (hok : s.ok1 h z = true) :
    Calls Tryz.prog 59 #[.pointer (some ⟨p, 0, none⟩), .pointer (some ⟨L.b, 0, none⟩)] w fun e w' => e = .returned (.bool true) ∧
      ∃ L', At 61 w' L' (s.cas h z (nx z a)) p 128 #[.int .i64 h, .int .i64 a, .int .i64 l, .int .i64 c, .int .i64 0, .int .u64 z] ∧ Went w L p w' L' := by
  have c4 : w.cell? ⟨p, 4, none⟩ = some (.int .i64 3) := A.cell 4
  have cf4 := A.free 4
  have keep : ∀ w', Below w.heap.size w w' → w'.cell? ⟨p, 0, none⟩ = some (.int .i64 h) ∧ w'.cell? ⟨p, 1, none⟩ = some (.int .i64 a) ∧ w'.cell? ⟨p, 5, none⟩ = some (.int .u64 z) := fun w' hb => ⟨(A.below hb).cell 0, (A.below hb).cell 1, (A.below hb).cell 5⟩
  have hbd : Below w.heap.size w w.drew := (Below.refl w.heap.size w).drew
  have RD := keep _ hbd
  go_enter Tryz.func59, Tryz.ntmps59
  go_wp2
  go_region_held3 (fun w' => w'.cell? ⟨p, 0, none⟩ = some (.int .i64 h) ∧ w'.cell? ⟨p, 1, none⟩ = some (.int .i64 a) ∧ w'.cell? ⟨p, 5, none⟩ = some (.int .u64 z)) (first | assumption | exact RD | exact keep _ (by assumption))
    (first
      | (go_at_call 53; refine (S.hNext z a hz.1 hz.2 _).mono ?_; rintro e w1 ⟨rfl, hb1⟩; have hb1' := bel_trans hbd hb1)
      | (go_at_call 52; refine (rCAS (A.below hb1').mem f hc h z (nx z a)).mono ?_; rintro e w2 ⟨rfl, L2, hm2, st2⟩; rw [hok]; have A2 := (A.below hb1').step hm2 st2; have S2 : w2.cell? ⟨p, 0, none⟩ = some (.int .i64 h) ∧ w2.cell? ⟨p, 1, none⟩ = some (.int .i64 a) ∧ w2.cell? ⟨p, 5, none⟩ = some (.int .u64 z) := ⟨A2.cell 0, A2.cell 1, A2.cell 5⟩; have g2 := (Went.of_below hb1' L p).trans (Went.of_step st2 p); have d4 : w2.cell? ⟨p, 4, none⟩ = some (.int .i64 3) := A2.cell 4; have df4 := A2.free 4))
  go_wp2
  go_ret
  exact ⟨rfl, L2, (A2.set 4 (.int .i64 1)).set 4 (.int .i64 0), (g2.trans (Went.set _ _ _ _ _)).trans (Went.set _ _ _ _ _)⟩
set_option maxHeartbeats 1000000 in
theorem rPush3f {h a l c z : Int} (A : At 61 w L s p 128 #[.int .i64 h, .int .i64 a, .int .i64 l, .int .i64 c, .int .i64 3, .int .u64 z]) (f : s.Fit) (hc : s.c < 1000000) (r : s.Rng) (hz : U64 z) (hok : s.ok1 h z = false) :
    Calls Tryz.prog 59 #[.pointer (some ⟨p, 0, none⟩), .pointer (some ⟨L.b, 0, none⟩)] w fun e w' => e = .returned (.bool false) ∧
      ∃ L', At 61 w' L' (s.cas h z (nx z a)) p 128 #[.int .i64 h, .int .i64 a, .int .i64 l, .int .i64 c, .int .i64 1, .int .u64 z] ∧ Went w L p w' L' := by
  have c4 : w.cell? ⟨p, 4, none⟩ = some (.int .i64 3) := A.cell 4
  have cf4 := A.free 4
  have keep : ∀ w', Below w.heap.size w w' → w'.cell? ⟨p, 0, none⟩ = some (.int .i64 h) ∧ w'.cell? ⟨p, 1, none⟩ = some (.int .i64 a) ∧ w'.cell? ⟨p, 5, none⟩ = some (.int .u64 z) := fun w' hb => ⟨(A.below hb).cell 0, (A.below hb).cell 1, (A.below hb).cell 5⟩
  have hbd : Below w.heap.size w w.drew := (Below.refl w.heap.size w).drew
  have RD := keep _ hbd
  go_enter Tryz.func59, Tryz.ntmps59
  go_wp2
  go_region_held3 (fun w' => w'.cell? ⟨p, 0, none⟩ = some (.int .i64 h) ∧ w'.cell? ⟨p, 1, none⟩ = some (.int .i64 a) ∧ w'.cell? ⟨p, 5, none⟩ = some (.int .u64 z)) (first | assumption | exact RD | exact keep _ (by assumption))
    (first
      | (go_at_call 53; refine (S.hNext z a hz.1 hz.2 _).mono ?_; rintro e w1 ⟨rfl, hb1⟩; have hb1' := bel_trans hbd hb1)
      | (go_at_call 52; refine (rCAS (A.below hb1').mem f hc h z (nx z a)).mono ?_; rintro e w2 ⟨rfl, L2, hm2, st2⟩; rw [hok]; have A2 := (A.below hb1').step hm2 st2; have S2 : w2.cell? ⟨p, 0, none⟩ = some (.int .i64 h) ∧ w2.cell? ⟨p, 1, none⟩ = some (.int .i64 a) ∧ w2.cell? ⟨p, 5, none⟩ = some (.int .u64 z) := ⟨A2.cell 0, A2.cell 1, A2.cell 5⟩; have g2 := (Went.of_below hb1' L p).trans (Went.of_step st2 p); have d4 : w2.cell? ⟨p, 4, none⟩ = some (.int .i64 3) := A2.cell 4; have df4 := A2.free 4))
  go_wp2
  go_ret
  exact ⟨rfl, L2, A2.set 4 (.int .i64 1), g2.trans (Went.set _ _ _ _ _)⟩
set_option maxHeartbeats 1000000 in
theorem rPush0 {h a l c z : Int} (A : At 61 w L s p 128 #[.int .i64 h, .int .i64 a, .int .i64 l, .int .i64 c, .int .i64 0, .int .u64 z]) (f : s.Fit) (hc : s.c < 1000000) (r : s.Rng) (hz : U64 z) :
    Calls Tryz.prog 59 #[.pointer (some ⟨p, 0, none⟩), .pointer (some ⟨L.b, 0, none⟩)] w fun e w' => e = .returned (.bool true) ∧
      ∃ L', At 61 w' L' (s) p 128 #[.int .i64 h, .int .i64 a, .int .i64 l, .int .i64 c, .int .i64 0, .int .u64 z] ∧ Went w L p w' L' := by
  have c1 : w.cell? ⟨p, 4, none⟩ = some (.int .i64 0) := A.cell 4
  go_enter Tryz.func59, Tryz.ntmps59
  go_wp2
  go_ret
  exact ⟨rfl, L, A, Went.refl _ _ _⟩
/-- a step of the reference's Push -/
theorem rPush {x : PushS} (A : At 61 w L s p 128 x.rcells) (ok : x.Ok) (f : s.Fit) (hc : s.c < 1000000) (r : s.Rng) :
    Calls Tryz.prog 59 #[.pointer (some ⟨p, 0, none⟩), .pointer (some ⟨L.b, 0, none⟩)] w fun e w' => e = .returned (.bool ((x.next s).pc == 0)) ∧
      ∃ L', At 61 w' L' (x.mem s) p 128 (x.next s).rcells ∧ Went w L p w' L' := by
  obtain ⟨hd, a, l, c, z, pc⟩ := x
  rcases pc_cases ok.pc with rfl | rfl | rfl | rfl
  · exact rPush0 A f hc r ok.seen
  · exact rPush1 A f hc r ok.seen
  · exact rPush2 A f hc r ok.seen
  · rcases ho : s.ok1 hd z with _ | _
    · refine (rPush3f A f hc r ok.seen ho).mono ?_
      rintro e w' ⟨rfl, L', A', g⟩
      refine ⟨by simp [PushS.next, ho], L', ?_, g⟩
      simpa [PushS.rcells, PushS.next, PushS.mem, ho] using A'
    · refine (rPush3t A f hc r ok.seen ho).mono ?_
      rintro e w' ⟨rfl, L', A', g⟩
      refine ⟨by simp [PushS.next, ho], L', ?_, g⟩
      simpa [PushS.rcells, PushS.next, PushS.mem, ho] using A'
end
end Go.Proofs.YtilknjihceemhaaGreatDoor
