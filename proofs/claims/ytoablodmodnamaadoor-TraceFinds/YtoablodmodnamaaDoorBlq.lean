/-
  Lists of the reference: a Pop and a Push, plainly, and the reference's functions.
-/
import Derived.Test.YtoablodmodnamaaDoorLhq
import Derived.Test.YtoablodmodnamaaDoorPCalls2q
import Derived.Test.YtoablodmodnamaaDoorGcq
import Derived.Deep.RegionHeld3
namespace Go.Proofs.YtoablodmodnamaaDoor
set_option linter.unusedVariables false
set_option linter.unusedSimpArgs false
set_option maxRecDepth 100000
open Go.ChangeShapes Go.WideShapes Go.RowKit
open S.Plain (t0 t1 tw nx bw b0 b1 b2 b3)
open H.Plain (hw pS pC pN pM pG pT pL)

theorem fhead6 (a b c d e f g : Int) (w : World) : (Instr.field 74 (.agg #[.int .i64 a, .int .i64 b, .int .i64 c, .int .i64 d, .int .i64 e, .int .i64 f, .int .i64 g]) 6).run Tryd.prog w = .ok (.int .i64 g) w := by kernel_rfl
theorem fblock3 (a b c d : Int) (w : World) : (Instr.field 157 (.agg #[.int .i64 a, .int .i64 b, .int .i64 c, .int .i64 d]) 3).run Tryd.prog w = .ok (.int .i64 d) w := by kernel_rfl
/-- a Pop: where its list's head stands, the link and the head that it saw, its next step (0: done) -/
structure PopS where
  hd : Int
  link : Int
  seen : Int
  pc : Nat
/-- a Push -/
structure PushS where
  hd : Int
  fst : Int
  lst : Int
  cls : Int
  seen : Int
  pc : Nat
def PopS.new (h : Int) : PopS := ⟨h, 0, 0, 1⟩
def PushS.new (h f l c : Int) : PushS := ⟨h, f, l, c, 0, 1⟩
/-- a step: what the machine is then, and the memory -/
def PopS.next (x : PopS) (s : St) : PopS :=
  match x.pc with
  | 1 => ⟨x.hd, x.link, s.got x.hd, if t0 (s.got x.hd) = 0 then 0 else 2⟩
  | 2 => ⟨x.hd, pL (s.got (t0 x.seen)), x.seen, 3⟩
  | 3 => ⟨x.hd, x.link, x.seen, if s.ok1 x.hd x.seen then 0 else 1⟩
  | _ => x
def PopS.mem (x : PopS) (s : St) : St :=
  match x.pc with
  | 1 => s.load x.hd
  | 2 => s.load (t0 x.seen)
  | 3 => s.cas x.hd x.seen (nx x.seen x.link)
  | _ => s
def PushS.next (x : PushS) (s : St) : PushS :=
  match x.pc with
  | 1 => ⟨x.hd, x.fst, x.lst, x.cls, s.got x.hd, 2⟩
  | 2 => ⟨x.hd, x.fst, x.lst, x.cls, x.seen, 3⟩
  | 3 => ⟨x.hd, x.fst, x.lst, x.cls, x.seen, if s.ok1 x.hd x.seen then 0 else 1⟩
  | _ => x
def PushS.mem (x : PushS) (s : St) : St :=
  match x.pc with
  | 1 => s.load x.hd
  | 2 => s.store x.lst (hw 0 x.cls 0 0 0 0 (t0 x.seen))
  | 3 => s.cas x.hd x.seen (nx x.seen x.fst)
  | _ => s
/-- what a Pop tells -/
def PopS.at_ (x : PopS) : Int := if x.pc = 0 then t0 x.seen else 0
def PopS.saw (x : PopS) : Int := if x.pc = 0 then x.seen else 0
structure PopS.Ok (x : PopS) : Prop where
  seen : U64 x.seen
  pc : x.pc ≤ 3
structure PushS.Ok (x : PushS) : Prop where
  seen : U64 x.seen
  pc : x.pc ≤ 3
theorem PopS.ok_new (h : Int) : (PopS.new h).Ok := ⟨U64.zero, by simp [PopS.new]⟩
theorem PushS.ok_new (h f l c : Int) : (PushS.new h f l c).Ok := ⟨U64.zero, by simp [PushS.new]⟩
theorem pc_cases {n : Nat} (h : n ≤ 3) : n = 0 ∨ n = 1 ∨ n = 2 ∨ n = 3 := by omega
theorem PopS.Ok.next {x : PopS} {s : St} (h : x.Ok) (r : s.Rng) : (x.next s).Ok := by
  obtain ⟨hd, link, seen, pc⟩ := x
  rcases pc_cases h.pc with rfl | rfl | rfl | rfl
  · exact h
  · exact ⟨r.got _, by simp only [PopS.next]; split <;> omega⟩
  · exact ⟨h.seen, by simp only [PopS.next]; omega⟩
  · exact ⟨h.seen, by simp only [PopS.next]; split <;> omega⟩
theorem PushS.Ok.next {x : PushS} {s : St} (h : x.Ok) (r : s.Rng) : (x.next s).Ok := by
  obtain ⟨hd, f, l, c, seen, pc⟩ := x
  rcases pc_cases h.pc with rfl | rfl | rfl | rfl
  · exact h
  · exact ⟨r.got _, by simp [PushS.next]⟩
  · exact ⟨h.seen, by simp [PushS.next]⟩
  · exact ⟨h.seen, by simp only [PushS.next]; split <;> omega⟩
theorem PopS.rng {x : PopS} {s : St} (h : x.Ok) (r : s.Rng) : (x.mem s).Rng := by
  obtain ⟨hd, link, seen, pc⟩ := x
  rcases pc_cases h.pc with rfl | rfl | rfl | rfl
  · exact r
  · exact r
  · exact r
  · exact r.cas _ _ (u64_nx _ _)
theorem PushS.rng {x : PushS} {s : St} (h : x.Ok) (r : s.Rng) : (x.mem s).Rng := by
  obtain ⟨hd, f, l, c, seen, pc⟩ := x
  rcases pc_cases h.pc with rfl | rfl | rfl | rfl
  · exact r
  · exact r
  · exact r.store _ (u64_hw ..)
  · exact r.cas _ _ (u64_nx _ _)
theorem PopS.fit {x : PopS} {s : St} (h : x.Ok) (f : s.Fit) (hc : s.c < 1000000) : (x.mem s).Fit := by
  obtain ⟨hd, link, seen, pc⟩ := x
  rcases pc_cases h.pc with rfl | rfl | rfl | rfl
  · exact f
  · exact f.load hc _
  · exact f.load hc _
  · exact f.cas hc _ _ _
theorem PushS.fit {x : PushS} {s : St} (h : x.Ok) (f : s.Fit) (hc : s.c < 1000000) : (x.mem s).Fit := by
  obtain ⟨hd, a, l, c, seen, pc⟩ := x
  rcases pc_cases h.pc with rfl | rfl | rfl | rfl
  · exact f
  · exact f.load hc _
  · exact f.store hc _ _
  · exact f.cas hc _ _ _
theorem PopS.count {x : PopS} {s : St} (h : x.Ok) : (x.mem s).c ≤ s.c + 1 := by
  obtain ⟨hd, link, seen, pc⟩ := x
  rcases pc_cases h.pc with rfl | rfl | rfl | rfl
  · simp only [PopS.mem]; omega
  · simp only [PopS.mem, St.c_load]; omega
  · simp only [PopS.mem, St.c_load]; omega
  · simp only [PopS.mem, St.c_cas]; omega
theorem PushS.count {x : PushS} {s : St} (h : x.Ok) : (x.mem s).c ≤ s.c + 1 := by
  obtain ⟨hd, f, l, c, seen, pc⟩ := x
  rcases pc_cases h.pc with rfl | rfl | rfl | rfl
  · simp only [PushS.mem]; omega
  · simp only [PushS.mem, St.c_load]; omega
  · simp only [PushS.mem, St.c_store]; omega
  · simp only [PushS.mem, St.c_cas]; omega

def PopS.rcells (x : PopS) (h : Int) : Array Value := #[.int .i64 x.hd, .int .i64 x.pc, .int .u64 x.seen, .int .u64 h, .int .i64 x.at_, .int .u64 x.saw]
def PushS.rcells (x : PushS) : Array Value := #[.int .i64 x.hd, .int .i64 x.fst, .int .i64 x.lst, .int .i64 x.cls, .int .i64 x.pc, .int .u64 x.seen]
theorem rNewPop (h : Int) (w : World) :
    Calls Tryd.prog 104 #[.int .i64 h] w fun e w' => e = .returned (.pointer (some ⟨w.heap.size, 0, none⟩)) ∧ w' = w.alloc (.cells ((PopS.new h).rcells 0) 176) := by
  go_enter Tryd.func104, Tryd.ntmps104
  go_wp2
  go_ret
  exact ⟨rfl, rfl⟩
theorem rNewPush (h f l c : Int) (w : World) :
    Calls Tryd.prog 116 #[.int .i64 h, .int .i64 f, .int .i64 l, .int .i64 c] w fun e w' => e = .returned (.pointer (some ⟨w.heap.size, 0, none⟩)) ∧ w' = w.alloc (.cells ((PushS.new h f l c).rcells) 187) := by
  go_enter Tryd.func116, Tryd.ntmps116
  go_wp2
  go_ret
  exact ⟨rfl, rfl⟩
section
variable {w : World} {L : Loc} {s : St} {p : Nat}
set_option maxHeartbeats 1000000 in
theorem rPop1a {h z q : Int} (A : At 80 w L s p 176 #[.int .i64 h, .int .i64 1, .int .u64 z, .int .u64 q, .int .i64 0, .int .u64 0]) (f : s.Fit) (hc : s.c < 1000000) (r : s.Rng) (hz : U64 z) (hq : t0 (s.got h) = 0) :
    Calls Tryd.prog 106 #[.pointer (some ⟨p, 0, none⟩), .pointer (some ⟨L.b, 0, none⟩)] w fun e w' => e = .returned (.bool true) ∧
      ∃ L', At 80 w' L' (s.load h) p 176 #[.int .i64 h, .int .i64 0, .int .u64 (s.got h), .int .u64 q, .int .i64 0, .int .u64 (s.got h)] ∧ Went w L p w' L' := by
  have c0 : w.cell? ⟨p, 0, none⟩ = some (.int .i64 h) := A.cell 0
  have cf0 := A.free 0
  have c1 : w.cell? ⟨p, 1, none⟩ = some (.int .i64 1) := A.cell 1
  have cf1 := A.free 1
  have hr := r.got h
  obtain ⟨v, hv⟩ : ∃ v, s.got h = v := ⟨_, rfl⟩
  rw [hv] at hr hq ⊢
  have f0 := ftop0 (t0 v) (t1 v)
  rw [hq] at f0
  go_enter Tryd.func106, Tryd.ntmps106
  go_wp2_with (first
    | (go_at_call 44; refine (rLoad A.mem f hc h).mono ?_; rintro e w1 ⟨rfl, L1, hm1, st⟩; rw [hv]; have A1 := A.step hm1 st; have d1 : w1.cell? ⟨p, 1, none⟩ = some (.int .i64 1) := A1.cell 1; have df1 := A1.free 1; have d2 : w1.cell? ⟨p, 2, none⟩ = some (.int .u64 z) := A1.cell 2; have df2 := A1.free 2)
    | (go_at_call 33; refine (S.rOfTop _ hr.1 hr.2 _).mono ?_; rintro e w2 ⟨rfl, hw2⟩; have hb2 := hw2 ▸ (Below.refl _ _).alloc (Nat.le_refl _) _; clear hw2; rw [hq]; have A2 : At 80 w2 L1 (s.load h) p 176 #[.int .i64 h, .int .i64 2, .int .u64 v, .int .u64 q, .int .i64 0, .int .u64 0] := ((A1.set 2 (.int .u64 v)).set 1 (.int .i64 2)).below hb2; have g2 : Went w L p w2 L1 := (((Went.of_step st p).trans (Went.set _ _ _ _ _)).trans (Went.set _ _ _ _ _)).trans (Went.of_below hb2 _ _); clear hb2; have e1 : w2.cell? ⟨p, 1, none⟩ = some (.int .i64 2) := A2.cell 1; have ef1 := A2.free 1; have e2 : w2.cell? ⟨p, 2, none⟩ = some (.int .u64 v) := A2.cell 2; have ef2 := A2.free 2; have e5 : w2.cell? ⟨p, 5, none⟩ = some (.int .u64 0) := A2.cell 5; have ef5 := A2.free 5))
  go_ret
  exact ⟨rfl, L1, (A2.set 5 _).set 1 (.int .i64 0), (g2.trans (Went.set _ _ _ _ _)).trans (Went.set _ _ _ _ _)⟩
set_option maxHeartbeats 1000000 in
theorem rPop1b {h z q : Int} (A : At 80 w L s p 176 #[.int .i64 h, .int .i64 1, .int .u64 z, .int .u64 q, .int .i64 0, .int .u64 0]) (f : s.Fit) (hc : s.c < 1000000) (r : s.Rng) (hz : U64 z) (hq : t0 (s.got h) ≠ 0) :
    Calls Tryd.prog 106 #[.pointer (some ⟨p, 0, none⟩), .pointer (some ⟨L.b, 0, none⟩)] w fun e w' => e = .returned (.bool false) ∧
      ∃ L', At 80 w' L' (s.load h) p 176 #[.int .i64 h, .int .i64 2, .int .u64 (s.got h), .int .u64 q, .int .i64 0, .int .u64 0] ∧ Went w L p w' L' := by
  have c0 : w.cell? ⟨p, 0, none⟩ = some (.int .i64 h) := A.cell 0
  have cf0 := A.free 0
  have c1 : w.cell? ⟨p, 1, none⟩ = some (.int .i64 1) := A.cell 1
  have cf1 := A.free 1
  have hr := r.got h
  obtain ⟨v, hv⟩ : ∃ v, s.got h = v := ⟨_, rfl⟩
  rw [hv] at hr hq ⊢
  have f0 := ftop0 (t0 v) (t1 v)
  have hq' : (t0 v == 0) = false := by simpa using hq
  go_enter Tryd.func106, Tryd.ntmps106
  go_wp2_with (first
    | (go_at_call 44; refine (rLoad A.mem f hc h).mono ?_; rintro e w1 ⟨rfl, L1, hm1, st⟩; rw [hv]; have A1 := A.step hm1 st; have d1 : w1.cell? ⟨p, 1, none⟩ = some (.int .i64 1) := A1.cell 1; have df1 := A1.free 1; have d2 : w1.cell? ⟨p, 2, none⟩ = some (.int .u64 z) := A1.cell 2; have df2 := A1.free 2)
    | (go_at_call 33; refine (S.rOfTop _ hr.1 hr.2 _).mono ?_; rintro e w2 ⟨rfl, hw2⟩; have hb2 := hw2 ▸ (Below.refl _ _).alloc (Nat.le_refl _) _; clear hw2; have A2 : At 80 w2 L1 (s.load h) p 176 #[.int .i64 h, .int .i64 2, .int .u64 v, .int .u64 q, .int .i64 0, .int .u64 0] := ((A1.set 2 (.int .u64 v)).set 1 (.int .i64 2)).below hb2; have g2 : Went w L p w2 L1 := (((Went.of_step st p).trans (Went.set _ _ _ _ _)).trans (Went.set _ _ _ _ _)).trans (Went.of_below hb2 _ _); clear hb2; have e1 : w2.cell? ⟨p, 1, none⟩ = some (.int .i64 2) := A2.cell 1; have ef1 := A2.free 1; have e2 : w2.cell? ⟨p, 2, none⟩ = some (.int .u64 v) := A2.cell 2; have ef2 := A2.free 2; have e5 : w2.cell? ⟨p, 5, none⟩ = some (.int .u64 0) := A2.cell 5; have ef5 := A2.free 5))
  go_ret
  exact ⟨rfl, L1, A2, g2⟩
set_option maxHeartbeats 1000000 in
theorem rPop2 {h z q : Int} (A : At 80 w L s p 176 #[.int .i64 h, .int .i64 2, .int .u64 z, .int .u64 q, .int .i64 0, .int .u64 0]) (f : s.Fit) (hc : s.c < 1000000) (r : s.Rng) (hz : U64 z) :
    Calls Tryd.prog 106 #[.pointer (some ⟨p, 0, none⟩), .pointer (some ⟨L.b, 0, none⟩)] w fun e w' => e = .returned (.bool false) ∧
      ∃ L', At 80 w' L' (s.load (t0 z)) p 176 #[.int .i64 h, .int .i64 3, .int .u64 z, .int .u64 (s.got (t0 z)), .int .i64 0, .int .u64 0] ∧ Went w L p w' L' := by
  have c1 : w.cell? ⟨p, 1, none⟩ = some (.int .i64 2) := A.cell 1
  have cf1 := A.free 1
  have c2 : w.cell? ⟨p, 2, none⟩ = some (.int .u64 z) := A.cell 2
  have cf2 := A.free 2
  obtain ⟨v, hv⟩ : ∃ v, s.got (t0 z) = v := ⟨_, rfl⟩
  rw [hv]
  have f0 := ftop0 (t0 z) (t1 z)
  go_enter Tryd.func106, Tryd.ntmps106
  go_wp2_with (first
    | (go_at_call 33; refine (S.rOfTop _ hz.1 hz.2 _).mono ?_; rintro e w0 ⟨rfl, hw0⟩; have hb0 := hw0 ▸ (Below.refl _ _).alloc (Nat.le_refl _) _; clear hw0; have A0 := A.below hb0)
    | (go_at_call 44; refine (rLoad A0.mem f hc _).mono ?_; rintro e w1 ⟨rfl, L1, hm1, st⟩; rw [hv]; have A1 := A0.step hm1 st; have d1 : w1.cell? ⟨p, 1, none⟩ = some (.int .i64 2) := A1.cell 1; have df1 := A1.free 1; have d3 : w1.cell? ⟨p, 3, none⟩ = some (.int .u64 q) := A1.cell 3; have df3 := A1.free 3))
  go_ret
  exact ⟨rfl, L1, (A1.set 3 _).set 1 (.int .i64 3), (((Went.of_below hb0 L p).trans (Went.of_step st p)).trans (Went.set _ _ _ _ _)).trans (Went.set _ _ _ _ _)⟩
set_option maxHeartbeats 1000000 in
theorem rPop3t {h z q : Int} (A : At 80 w L s p 176 #[.int .i64 h, .int .i64 3, .int .u64 z, .int .u64 q, .int .i64 0, .int .u64 0]) (f : s.Fit) (hc : s.c < 1000000) (r : s.Rng) (hz : U64 z) (hh : U64 q) (hok : s.ok1 h z = true) :
    Calls Tryd.prog 106 #[.pointer (some ⟨p, 0, none⟩), .pointer (some ⟨L.b, 0, none⟩)] w fun e w' => e = .returned (.bool true) ∧
      ∃ L', At 80 w' L' (s.cas h z (nx z (pL q))) p 176 #[.int .i64 h, .int .i64 0, .int .u64 z, .int .u64 q, .int .i64 (t0 z), .int .u64 z] ∧ Went w L p w' L' := by
  have c1 : w.cell? ⟨p, 1, none⟩ = some (.int .i64 3) := A.cell 1
  have cf1 := A.free 1
  have f0 := ftop0 (t0 z) (t1 z)
  have f6 := fhead6 (H.Plain.pS q) (H.Plain.pC q) (H.Plain.pN q) (H.Plain.pM q) (H.Plain.pG q) (H.Plain.pT q) (pL q)
  have keep : ∀ w', Below w.heap.size w w' → w'.cell? ⟨p, 0, none⟩ = some (.int .i64 h) ∧ w'.cell? ⟨p, 2, none⟩ = some (.int .u64 z) ∧ w'.cell? ⟨p, 3, none⟩ = some (.int .u64 q) := fun w' hb => ⟨(A.below hb).cell 0, (A.below hb).cell 2, (A.below hb).cell 3⟩
  have hbd : Below w.heap.size w w.drew := (Below.refl w.heap.size w).drew
  have RD := keep _ hbd
  go_enter Tryd.func106, Tryd.ntmps106
  go_wp2
  go_region_held3 (fun w' => w'.cell? ⟨p, 0, none⟩ = some (.int .i64 h) ∧ w'.cell? ⟨p, 2, none⟩ = some (.int .u64 z) ∧ w'.cell? ⟨p, 3, none⟩ = some (.int .u64 q)) (first | assumption | exact RD | exact keep _ (by assumption))
    (first
      | (go_at_call 27; refine (H.rOf q hh.1 hh.2 _).mono ?_; rintro e w0 ⟨rfl, hw0⟩; have hb0' : Below w.heap.size w w0 := hw0 ▸ bel_trans hbd ((Below.refl _ _).alloc (Nat.le_refl _) _); clear hw0)
      | (go_at_call 87; refine (S.hNext z (pL q) hz.1 hz.2 _).mono ?_; rintro e w1 ⟨rfl, hb1⟩; have hb1' := bel_trans hb0' hb1)
      | (go_at_call 86; refine (rCAS (A.below hb1').mem f hc h z (nx z (pL q))).mono ?_; rintro e w2 ⟨rfl, L2, hm2, st2⟩; rw [hok]; have A2 := (A.below hb1').step hm2 st2; have S2 : w2.cell? ⟨p, 0, none⟩ = some (.int .i64 h) ∧ w2.cell? ⟨p, 2, none⟩ = some (.int .u64 z) ∧ w2.cell? ⟨p, 3, none⟩ = some (.int .u64 q) := ⟨A2.cell 0, A2.cell 2, A2.cell 3⟩; have g2 := (Went.of_below hb1' L p).trans (Went.of_step st2 p); have d1 : w2.cell? ⟨p, 1, none⟩ = some (.int .i64 3) := A2.cell 1; have df1 := A2.free 1; have d2 : w2.cell? ⟨p, 2, none⟩ = some (.int .u64 z) := A2.cell 2; have df2 := A2.free 2))
  go_wp2_with (go_at_call 33; refine (S.rOfTop _ hz.1 hz.2 _).mono ?_; rintro e w3 ⟨rfl, hw3⟩; have hb3 := hw3 ▸ (Below.refl _ _).alloc (Nat.le_refl _) _; clear hw3; have A3 : At 80 w3 L2 (s.cas h z (nx z (pL q))) p 176 #[.int .i64 h, .int .i64 1, .int .u64 z, .int .u64 q, .int .i64 0, .int .u64 0] := (A2.set 1 (.int .i64 1)).below hb3; have g3 : Went w L p w3 L2 := (g2.trans (Went.set _ _ _ _ _)).trans (Went.of_below hb3 _ _); clear hb3; have e1 : w3.cell? ⟨p, 1, none⟩ = some (.int .i64 1) := A3.cell 1; have ef1 := A3.free 1; have e2 : w3.cell? ⟨p, 2, none⟩ = some (.int .u64 z) := A3.cell 2; have ef2 := A3.free 2; have e4 : w3.cell? ⟨p, 4, none⟩ = some (.int .i64 0) := A3.cell 4; have ef4 := A3.free 4; have e5 : w3.cell? ⟨p, 5, none⟩ = some (.int .u64 0) := A3.cell 5; have ef5 := A3.free 5)
  go_ret
  exact ⟨rfl, L2, ((A3.set 4 _).set 5 _).set 1 (.int .i64 0), ((g3.trans (Went.set _ _ _ _ _)).trans (Went.set _ _ _ _ _)).trans (Went.set _ _ _ _ _)⟩
set_option maxHeartbeats 1000000 in
theorem rPop3f {h z q : Int} (A : At 80 w L s p 176 #[.int .i64 h, .int .i64 3, .int .u64 z, .int .u64 q, .int .i64 0, .int .u64 0]) (f : s.Fit) (hc : s.c < 1000000) (r : s.Rng) (hz : U64 z) (hh : U64 q) (hok : s.ok1 h z = false) :
    Calls Tryd.prog 106 #[.pointer (some ⟨p, 0, none⟩), .pointer (some ⟨L.b, 0, none⟩)] w fun e w' => e = .returned (.bool false) ∧
      ∃ L', At 80 w' L' (s.cas h z (nx z (pL q))) p 176 #[.int .i64 h, .int .i64 1, .int .u64 z, .int .u64 q, .int .i64 0, .int .u64 0] ∧ Went w L p w' L' := by
  have c1 : w.cell? ⟨p, 1, none⟩ = some (.int .i64 3) := A.cell 1
  have cf1 := A.free 1
  have f0 := ftop0 (t0 z) (t1 z)
  have f6 := fhead6 (H.Plain.pS q) (H.Plain.pC q) (H.Plain.pN q) (H.Plain.pM q) (H.Plain.pG q) (H.Plain.pT q) (pL q)
  have keep : ∀ w', Below w.heap.size w w' → w'.cell? ⟨p, 0, none⟩ = some (.int .i64 h) ∧ w'.cell? ⟨p, 2, none⟩ = some (.int .u64 z) ∧ w'.cell? ⟨p, 3, none⟩ = some (.int .u64 q) := fun w' hb => ⟨(A.below hb).cell 0, (A.below hb).cell 2, (A.below hb).cell 3⟩
  have hbd : Below w.heap.size w w.drew := (Below.refl w.heap.size w).drew
  have RD := keep _ hbd
  go_enter Tryd.func106, Tryd.ntmps106
  go_wp2
  go_region_held3 (fun w' => w'.cell? ⟨p, 0, none⟩ = some (.int .i64 h) ∧ w'.cell? ⟨p, 2, none⟩ = some (.int .u64 z) ∧ w'.cell? ⟨p, 3, none⟩ = some (.int .u64 q)) (first | assumption | exact RD | exact keep _ (by assumption))
    (first
      | (go_at_call 27; refine (H.rOf q hh.1 hh.2 _).mono ?_; rintro e w0 ⟨rfl, hw0⟩; have hb0' : Below w.heap.size w w0 := hw0 ▸ bel_trans hbd ((Below.refl _ _).alloc (Nat.le_refl _) _); clear hw0)
      | (go_at_call 87; refine (S.hNext z (pL q) hz.1 hz.2 _).mono ?_; rintro e w1 ⟨rfl, hb1⟩; have hb1' := bel_trans hb0' hb1)
      | (go_at_call 86; refine (rCAS (A.below hb1').mem f hc h z (nx z (pL q))).mono ?_; rintro e w2 ⟨rfl, L2, hm2, st2⟩; rw [hok]; have A2 := (A.below hb1').step hm2 st2; have S2 : w2.cell? ⟨p, 0, none⟩ = some (.int .i64 h) ∧ w2.cell? ⟨p, 2, none⟩ = some (.int .u64 z) ∧ w2.cell? ⟨p, 3, none⟩ = some (.int .u64 q) := ⟨A2.cell 0, A2.cell 2, A2.cell 3⟩; have g2 := (Went.of_below hb1' L p).trans (Went.of_step st2 p); have d1 : w2.cell? ⟨p, 1, none⟩ = some (.int .i64 3) := A2.cell 1; have df1 := A2.free 1; have d2 : w2.cell? ⟨p, 2, none⟩ = some (.int .u64 z) := A2.cell 2; have df2 := A2.free 2))
  go_wp2
  go_ret
  exact ⟨rfl, L2, A2.set 1 (.int .i64 1), g2.trans (Went.set _ _ _ _ _)⟩
set_option maxHeartbeats 1000000 in
theorem rPop0 {h z q : Int} {va vb : Value} (A : At 80 w L s p 176 #[.int .i64 h, .int .i64 0, .int .u64 z, .int .u64 q, va, vb]) (f : s.Fit) (hc : s.c < 1000000) (r : s.Rng) (hz : U64 z) :
    Calls Tryd.prog 106 #[.pointer (some ⟨p, 0, none⟩), .pointer (some ⟨L.b, 0, none⟩)] w fun e w' => e = .returned (.bool true) ∧
      ∃ L', At 80 w' L' (s) p 176 #[.int .i64 h, .int .i64 0, .int .u64 z, .int .u64 q, va, vb] ∧ Went w L p w' L' := by
  have c1 : w.cell? ⟨p, 1, none⟩ = some (.int .i64 0) := A.cell 1
  go_enter Tryd.func106, Tryd.ntmps106
  go_wp2
  go_ret
  exact ⟨rfl, L, A, Went.refl _ _ _⟩
/-- a step of the reference's Pop -/
theorem rPop {x : PopS} {q : Int} (A : At 80 w L s p 176 (x.rcells q)) (hq : pL q = x.link) (hh : U64 q) (ok : x.Ok) (f : s.Fit) (hc : s.c < 1000000) (r : s.Rng) :
    Calls Tryd.prog 106 #[.pointer (some ⟨p, 0, none⟩), .pointer (some ⟨L.b, 0, none⟩)] w fun e w' => e = .returned (.bool ((x.next s).pc == 0)) ∧
      ∃ L' q', At 80 w' L' (x.mem s) p 176 ((x.next s).rcells q') ∧ pL q' = (x.next s).link ∧ U64 q' ∧ Went w L p w' L' := by
  obtain ⟨hd, k, z, pc⟩ := x
  obtain rfl : pL q = k := hq
  rcases pc_cases ok.pc with rfl | rfl | rfl | rfl
  · refine (rPop0 A f hc r ok.seen).mono ?_
    rintro e w' ⟨rfl, L', A', g⟩
    exact ⟨rfl, L', q, A', rfl, hh, g⟩
  · by_cases ht : t0 (s.got hd) = 0
    · refine (rPop1a A f hc r ok.seen ht).mono ?_
      rintro e w' ⟨rfl, L', A', g⟩
      refine ⟨by simp [PopS.next, ht], L', q, ?_, rfl, hh, g⟩
      simpa [PopS.rcells, PopS.next, PopS.mem, PopS.at_, PopS.saw, ht] using A'
    · refine (rPop1b A f hc r ok.seen ht).mono ?_
      rintro e w' ⟨rfl, L', A', g⟩
      refine ⟨by simp [PopS.next, ht], L', q, ?_, rfl, hh, g⟩
      simpa [PopS.rcells, PopS.next, PopS.mem, PopS.at_, PopS.saw, ht] using A'
  · refine (rPop2 A f hc r ok.seen).mono ?_
    rintro e w' ⟨rfl, L', A', g⟩
    exact ⟨rfl, L', _, A', rfl, r.got _, g⟩
  · rcases ho : s.ok1 hd z with _ | _
    · refine (rPop3f A f hc r ok.seen hh ho).mono ?_
      rintro e w' ⟨rfl, L', A', g⟩
      refine ⟨by simp [PopS.next, ho], L', q, ?_, rfl, hh, g⟩
      simpa [PopS.rcells, PopS.next, PopS.mem, PopS.at_, PopS.saw, ho] using A'
    · refine (rPop3t A f hc r ok.seen hh ho).mono ?_
      rintro e w' ⟨rfl, L', A', g⟩
      refine ⟨by simp [PopS.next, ho], L', q, ?_, rfl, hh, g⟩
      simpa [PopS.rcells, PopS.next, PopS.mem, PopS.at_, PopS.saw, ho] using A'
set_option maxHeartbeats 1000000 in
theorem rPush1 {h a l c z : Int} (A : At 80 w L s p 187 #[.int .i64 h, .int .i64 a, .int .i64 l, .int .i64 c, .int .i64 1, .int .u64 z]) (f : s.Fit) (hc : s.c < 1000000) (r : s.Rng) (hz : U64 z) :
    Calls Tryd.prog 117 #[.pointer (some ⟨p, 0, none⟩), .pointer (some ⟨L.b, 0, none⟩)] w fun e w' => e = .returned (.bool false) ∧
      ∃ L', At 80 w' L' (s.load h) p 187 #[.int .i64 h, .int .i64 a, .int .i64 l, .int .i64 c, .int .i64 2, .int .u64 (s.got h)] ∧ Went w L p w' L' := by
  have c0 : w.cell? ⟨p, 0, none⟩ = some (.int .i64 h) := A.cell 0
  have cf0 := A.free 0
  have c4 : w.cell? ⟨p, 4, none⟩ = some (.int .i64 1) := A.cell 4
  have cf4 := A.free 4
  obtain ⟨v, hv⟩ : ∃ v, s.got h = v := ⟨_, rfl⟩
  rw [hv]
  go_enter Tryd.func117, Tryd.ntmps117
  go_wp2_with (go_at_call 44; refine (rLoad A.mem f hc h).mono ?_; rintro e w1 ⟨rfl, L1, hm1, st⟩; rw [hv]; have A1 := A.step hm1 st; have d4 : w1.cell? ⟨p, 4, none⟩ = some (.int .i64 1) := A1.cell 4; have df4 := A1.free 4; have d5 : w1.cell? ⟨p, 5, none⟩ = some (.int .u64 z) := A1.cell 5; have df5 := A1.free 5)
  go_ret
  exact ⟨rfl, L1, (A1.set 5 _).set 4 (.int .i64 2), ((Went.of_step st p).trans (Went.set _ _ _ _ _)).trans (Went.set _ _ _ _ _)⟩
set_option maxHeartbeats 1000000 in
theorem rPush2 {h a l c z : Int} (A : At 80 w L s p 187 #[.int .i64 h, .int .i64 a, .int .i64 l, .int .i64 c, .int .i64 2, .int .u64 z]) (f : s.Fit) (hc : s.c < 1000000) (r : s.Rng) (hz : U64 z) :
    Calls Tryd.prog 117 #[.pointer (some ⟨p, 0, none⟩), .pointer (some ⟨L.b, 0, none⟩)] w fun e w' => e = .returned (.bool false) ∧
      ∃ L', At 80 w' L' (s.store l (hw 0 c 0 0 0 0 (t0 z))) p 187 #[.int .i64 h, .int .i64 a, .int .i64 l, .int .i64 c, .int .i64 3, .int .u64 z] ∧ Went w L p w' L' := by
  have c4 : w.cell? ⟨p, 4, none⟩ = some (.int .i64 2) := A.cell 4
  have cf4 := A.free 4
  have f0 := ftop0 (t0 z) (t1 z)
  have keep : ∀ w', Below w.heap.size w w' → w'.cell? ⟨p, 2, none⟩ = some (.int .i64 l) ∧ w'.cell? ⟨p, 3, none⟩ = some (.int .i64 c) ∧ w'.cell? ⟨p, 5, none⟩ = some (.int .u64 z) := fun w' hb => ⟨(A.below hb).cell 2, (A.below hb).cell 3, (A.below hb).cell 5⟩
  have hbd : Below w.heap.size w w.drew := (Below.refl w.heap.size w).drew
  have RD := keep _ hbd
  go_enter Tryd.func117, Tryd.ntmps117
  go_wp2
  go_region_held3 (fun w' => w'.cell? ⟨p, 2, none⟩ = some (.int .i64 l) ∧ w'.cell? ⟨p, 3, none⟩ = some (.int .i64 c) ∧ w'.cell? ⟨p, 5, none⟩ = some (.int .u64 z)) (first | assumption | exact RD | exact keep _ (by assumption))
    (first
      | (go_at_call 33; refine (S.rOfTop z hz.1 hz.2 _).mono ?_; rintro e w0 ⟨rfl, hw0⟩; have hb0' : Below w.heap.size w w0 := hw0 ▸ bel_trans hbd ((Below.refl _ _).alloc (Nat.le_refl _) _); clear hw0)
      | (go_at_call 38; refine (H.rWord 0 c 0 0 0 0 (t0 z) _).mono ?_; rintro e w1 ⟨rfl, hw1⟩; have hb1' : Below w.heap.size w w1 := hw1 ▸ bel_trans hb0' ((Below.refl _ _).alloc (Nat.le_refl _) _); clear hw1)
      | (go_at_call 39; refine (rStore (A.below hb1').mem f hc l _).mono ?_; rintro e w2 ⟨rfl, L2, hm2, st2⟩; have A2 := (A.below hb1').step hm2 st2; have S2 : w2.cell? ⟨p, 2, none⟩ = some (.int .i64 l) ∧ w2.cell? ⟨p, 3, none⟩ = some (.int .i64 c) ∧ w2.cell? ⟨p, 5, none⟩ = some (.int .u64 z) := ⟨A2.cell 2, A2.cell 3, A2.cell 5⟩; have g2 := (Went.of_below hb1' L p).trans (Went.of_step st2 p); have d4 : w2.cell? ⟨p, 4, none⟩ = some (.int .i64 2) := A2.cell 4; have df4 := A2.free 4))
  go_wp2
  go_ret
  exact ⟨rfl, L2, A2.set 4 (.int .i64 3), g2.trans (Went.set _ _ _ _ _)⟩
set_option maxHeartbeats 1000000 in
theorem rPush3t {h a l c z : Int} (A : At 80 w L s p 187 #[.int .i64 h, .int .i64 a, .int .i64 l, .int .i64 c, .int .i64 3, .int .u64 z]) (f : s.Fit) (hc : s.c < 1000000) (r : s.Rng) (hz : U64 z) (hok : s.ok1 h z = true) :
    Calls Tryd.prog 117 #[.pointer (some ⟨p, 0, none⟩), .pointer (some ⟨L.b, 0, none⟩)] w fun e w' => e = .returned (.bool true) ∧
      ∃ L', At 80 w' L' (s.cas h z (nx z a)) p 187 #[.int .i64 h, .int .i64 a, .int .i64 l, .int .i64 c, .int .i64 0, .int .u64 z] ∧ Went w L p w' L' := by
  have c4 : w.cell? ⟨p, 4, none⟩ = some (.int .i64 3) := A.cell 4
  have cf4 := A.free 4
  have keep : ∀ w', Below w.heap.size w w' → w'.cell? ⟨p, 0, none⟩ = some (.int .i64 h) ∧ w'.cell? ⟨p, 1, none⟩ = some (.int .i64 a) ∧ w'.cell? ⟨p, 5, none⟩ = some (.int .u64 z) := fun w' hb => ⟨(A.below hb).cell 0, (A.below hb).cell 1, (A.below hb).cell 5⟩
  have hbd : Below w.heap.size w w.drew := (Below.refl w.heap.size w).drew
  have RD := keep _ hbd
  go_enter Tryd.func117, Tryd.ntmps117
  go_wp2
  go_region_held3 (fun w' => w'.cell? ⟨p, 0, none⟩ = some (.int .i64 h) ∧ w'.cell? ⟨p, 1, none⟩ = some (.int .i64 a) ∧ w'.cell? ⟨p, 5, none⟩ = some (.int .u64 z)) (first | assumption | exact RD | exact keep _ (by assumption))
    (first
      | (go_at_call 87; refine (S.hNext z a hz.1 hz.2 _).mono ?_; rintro e w1 ⟨rfl, hb1⟩; have hb1' := bel_trans hbd hb1)
      | (go_at_call 86; refine (rCAS (A.below hb1').mem f hc h z (nx z a)).mono ?_; rintro e w2 ⟨rfl, L2, hm2, st2⟩; rw [hok]; have A2 := (A.below hb1').step hm2 st2; have S2 : w2.cell? ⟨p, 0, none⟩ = some (.int .i64 h) ∧ w2.cell? ⟨p, 1, none⟩ = some (.int .i64 a) ∧ w2.cell? ⟨p, 5, none⟩ = some (.int .u64 z) := ⟨A2.cell 0, A2.cell 1, A2.cell 5⟩; have g2 := (Went.of_below hb1' L p).trans (Went.of_step st2 p); have d4 : w2.cell? ⟨p, 4, none⟩ = some (.int .i64 3) := A2.cell 4; have df4 := A2.free 4))
  go_wp2
  go_ret
  exact ⟨rfl, L2, (A2.set 4 (.int .i64 1)).set 4 (.int .i64 0), (g2.trans (Went.set _ _ _ _ _)).trans (Went.set _ _ _ _ _)⟩
set_option maxHeartbeats 1000000 in
theorem rPush3f {h a l c z : Int} (A : At 80 w L s p 187 #[.int .i64 h, .int .i64 a, .int .i64 l, .int .i64 c, .int .i64 3, .int .u64 z]) (f : s.Fit) (hc : s.c < 1000000) (r : s.Rng) (hz : U64 z) (hok : s.ok1 h z = false) :
    Calls Tryd.prog 117 #[.pointer (some ⟨p, 0, none⟩), .pointer (some ⟨L.b, 0, none⟩)] w fun e w' => e = .returned (.bool false) ∧
      ∃ L', At 80 w' L' (s.cas h z (nx z a)) p 187 #[.int .i64 h, .int .i64 a, .int .i64 l, .int .i64 c, .int .i64 1, .int .u64 z] ∧ Went w L p w' L' := by
  have c4 : w.cell? ⟨p, 4, none⟩ = some (.int .i64 3) := A.cell 4
  have cf4 := A.free 4
  have keep : ∀ w', Below w.heap.size w w' → w'.cell? ⟨p, 0, none⟩ = some (.int .i64 h) ∧ w'.cell? ⟨p, 1, none⟩ = some (.int .i64 a) ∧ w'.cell? ⟨p, 5, none⟩ = some (.int .u64 z) := fun w' hb => ⟨(A.below hb).cell 0, (A.below hb).cell 1, (A.below hb).cell 5⟩
  have hbd : Below w.heap.size w w.drew := (Below.refl w.heap.size w).drew
  have RD := keep _ hbd
  go_enter Tryd.func117, Tryd.ntmps117
  go_wp2
  go_region_held3 (fun w' => w'.cell? ⟨p, 0, none⟩ = some (.int .i64 h) ∧ w'.cell? ⟨p, 1, none⟩ = some (.int .i64 a) ∧ w'.cell? ⟨p, 5, none⟩ = some (.int .u64 z)) (first | assumption | exact RD | exact keep _ (by assumption))
    (first
      | (go_at_call 87; refine (S.hNext z a hz.1 hz.2 _).mono ?_; rintro e w1 ⟨rfl, hb1⟩; have hb1' := bel_trans hbd hb1)
      | (go_at_call 86; refine (rCAS (A.below hb1').mem f hc h z (nx z a)).mono ?_; rintro e w2 ⟨rfl, L2, hm2, st2⟩; rw [hok]; have A2 := (A.below hb1').step hm2 st2; have S2 : w2.cell? ⟨p, 0, none⟩ = some (.int .i64 h) ∧ w2.cell? ⟨p, 1, none⟩ = some (.int .i64 a) ∧ w2.cell? ⟨p, 5, none⟩ = some (.int .u64 z) := ⟨A2.cell 0, A2.cell 1, A2.cell 5⟩; have g2 := (Went.of_below hb1' L p).trans (Went.of_step st2 p); have d4 : w2.cell? ⟨p, 4, none⟩ = some (.int .i64 3) := A2.cell 4; have df4 := A2.free 4))
  go_wp2
  go_ret
  exact ⟨rfl, L2, A2.set 4 (.int .i64 1), g2.trans (Went.set _ _ _ _ _)⟩
set_option maxHeartbeats 1000000 in
theorem rPush0 {h a l c z : Int} (A : At 80 w L s p 187 #[.int .i64 h, .int .i64 a, .int .i64 l, .int .i64 c, .int .i64 0, .int .u64 z]) (f : s.Fit) (hc : s.c < 1000000) (r : s.Rng) (hz : U64 z) :
    Calls Tryd.prog 117 #[.pointer (some ⟨p, 0, none⟩), .pointer (some ⟨L.b, 0, none⟩)] w fun e w' => e = .returned (.bool true) ∧
      ∃ L', At 80 w' L' (s) p 187 #[.int .i64 h, .int .i64 a, .int .i64 l, .int .i64 c, .int .i64 0, .int .u64 z] ∧ Went w L p w' L' := by
  have c1 : w.cell? ⟨p, 4, none⟩ = some (.int .i64 0) := A.cell 4
  go_enter Tryd.func117, Tryd.ntmps117
  go_wp2
  go_ret
  exact ⟨rfl, L, A, Went.refl _ _ _⟩
/-- a step of the reference's Push -/
theorem rPush {x : PushS} (A : At 80 w L s p 187 x.rcells) (ok : x.Ok) (f : s.Fit) (hc : s.c < 1000000) (r : s.Rng) :
    Calls Tryd.prog 117 #[.pointer (some ⟨p, 0, none⟩), .pointer (some ⟨L.b, 0, none⟩)] w fun e w' => e = .returned (.bool ((x.next s).pc == 0)) ∧
      ∃ L', At 80 w' L' (x.mem s) p 187 (x.next s).rcells ∧ Went w L p w' L' := by
  obtain ⟨hd, a, l, c, z, pc⟩ := x
  rcases pc_cases ok.pc with rfl | rfl | rfl | rfl
  · exact rPush0 A f hc r ok.seen
  · exact rPush1 A f hc r ok.seen
  · exact rPush2 A f hc r ok.seen
  · rcases ho : s.ok1 hd z with _ | _
    · refine (rPush3f A f hc r ok.seen ho).mono ?_
      rintro e w' ⟨rfl, L', A', g⟩
      refine ⟨by simp [PushS.next, ho], L', ?_, g⟩
      simpa [PushS.rcells, PushS.next, PushS.mem, ho] using A'
    · refine (rPush3t A f hc r ok.seen ho).mono ?_
      rintro e w' ⟨rfl, L', A', g⟩
      refine ⟨by simp [PushS.next, ho], L', ?_, g⟩
      simpa [PushS.rcells, PushS.next, PushS.mem, ho] using A'
end
end Go.Proofs.YtoablodmodnamaaDoor
