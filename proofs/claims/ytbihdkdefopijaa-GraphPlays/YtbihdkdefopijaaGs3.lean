/-
  Contract of access: the field of a root, and what Srcs name.
-/
import Derived.Test.YtbihdkdefopijaaGs2
import Derived.Test.YtbihdkdefopijaaGc1
namespace Go.Proofs.Ytbihdkdefopijaa
set_option linter.unusedVariables false
set_option linter.unusedSimpArgs false
open Go.ChangeShapes Go.WideShapes Go.ChangeAt Go.RowKit

set_option maxRecDepth 100000 in
set_option maxHeartbeats 400000 in
theorem cAccBad0 {w : World} {L : Loc} {g : Gr} (hg : GAt w L g) (f : g.Fit) (t i k : Int) (ao : Option Addr) (cap : Nat) (l : List Src) (hT : g.isT t = false) :
    Calls Try.prog 40 #[.pointer (some ⟨L.b, 0, none⟩), .int .i64 t, .int .i64 i, .int .i64 k, .slice ao l.length cap] w fun e w' => e = .returned (.tuple #[.pointer none, .slice none 0 0, .int .i64 1]) ∧ Below w.heap.size w w' := by
  go_enter Try.func40, Try.ntmps40
  go_wp2_with (go_at_call 34; refine (cHas hg f t).mono ?_; rintro e w1 ⟨rfl, hw⟩; rw [hw, hT]; clear hw w1)
  go_ret3
  exact ⟨rfl, Below.refl _ _⟩
set_option maxRecDepth 100000 in
set_option maxHeartbeats 400000 in
theorem cAccBad1 {w : World} {L : Loc} {g : Gr} (hg : GAt w L g) (f : g.Fit) (n : Nat) (hn : n < g.ts.length) (r : List Int) (hr : g.ts.getD n [] = r) (i k : Int) (ao : Option Addr) (cap : Nat) (l : List Src) (h : SrcsAt w ao l) (h2 : l.length ≤ 2) (E : Int) (e0 : Src.err r l = E) (hE : (E != 0) = true) :
    Calls Try.prog 40 #[.pointer (some ⟨L.b, 0, none⟩), .int .i64 n, .int .i64 i, .int .i64 k, .slice ao l.length cap] w fun e w' => e = .returned (.tuple #[.pointer none, .slice none 0 0, .int .i64 E]) ∧ Below w.heap.size w w' := by
  have hT : g.isT n = true := by simp [Gr.isT, hn]
  have h8 : r.length ≤ 8 := hr ▸ f.rs8 n
  have c0 := hg.cell0
  have t64 := f.t64
  have ob := f.ob
  obtain ⟨d0, d1, d2, d3, d4, d5, d6, d7, d8⟩ := hg.t9 n hn
  rw [hr] at d0 d1 d2 d3 d4 d5 d6 d7 d8
  go_enter Try.func40, Try.ntmps40
  go_wp2_with (first
    | (go_at_call 34; refine (cHas hg f n).mono ?_; rintro e w1 ⟨rfl, hw⟩; rw [hw, hT]; clear hw w1)
    | (go_at_call 58; refine (cNamed _ r h8 ao cap l h h2).mono ?_; rintro e w1 ⟨v, rfl, hb, hv1, hv2⟩; rw [e0]; have hg1 := hg.below hb; have q0 := hg1.cell0; obtain ⟨p0, p1, p2, p3, p4, p5, p6, p7, p8⟩ := hg1.t9 n hn; rw [hr] at p0 p1 p2 p3 p4 p5 p6 p7 p8))
  go_ret3
  exact ⟨rfl, hb⟩
set_option maxRecDepth 100000 in
set_option maxHeartbeats 400000 in
theorem cAccBad2 {w : World} {L : Loc} {g : Gr} (hg : GAt w L g) (f : g.Fit) (n : Nat) (hn : n < g.ts.length) (r : List Int) (hr : g.ts.getD n [] = r) (i k : Int) (ao : Option Addr) (cap : Nat) (l : List Src) (h : SrcsAt w ao l) (h2 : l.length ≤ 2) (e0 : Src.err r l = 0) (ha : Rw.isAt r i = false) :
    Calls Try.prog 40 #[.pointer (some ⟨L.b, 0, none⟩), .int .i64 n, .int .i64 i, .int .i64 k, .slice ao l.length cap] w fun e w' => e = .returned (.tuple #[.pointer none, .slice none 0 0, .int .i64 12]) ∧ Below w.heap.size w w' := by
  have e1 : Rw.getE r i = 12 := by simp [Rw.getE, ha]
  have hT : g.isT n = true := by simp [Gr.isT, hn]
  have h8 : r.length ≤ 8 := hr ▸ f.rs8 n
  have c0 := hg.cell0
  have t64 := f.t64
  have ob := f.ob
  obtain ⟨d0, d1, d2, d3, d4, d5, d6, d7, d8⟩ := hg.t9 n hn
  rw [hr] at d0 d1 d2 d3 d4 d5 d6 d7 d8
  go_enter Try.func40, Try.ntmps40
  go_wp2_with (first
    | (go_at_call 34; refine (cHas hg f n).mono ?_; rintro e w1 ⟨rfl, hw⟩; rw [hw, hT]; clear hw w1)
    | (go_at_call 44; refine (cGetR r i h8 _).mono ?_; rintro e w2 ⟨rfl, hb2⟩; rw [e1])
    | (go_at_call 58; refine (cNamed _ r h8 ao cap l h h2).mono ?_; rintro e w1 ⟨v, rfl, hb, hv1, hv2⟩; rw [e0]; have hg1 := hg.below hb; have q0 := hg1.cell0; obtain ⟨p0, p1, p2, p3, p4, p5, p6, p7, p8⟩ := hg1.t9 n hn; rw [hr] at p0 p1 p2 p3 p4 p5 p6 p7 p8))
  go_ret3
  exact ⟨rfl, bt hb hb2⟩
set_option maxRecDepth 100000 in
set_option maxHeartbeats 400000 in
theorem cAccBad3 {w : World} {L : Loc} {g : Gr} (hg : GAt w L g) (f : g.Fit) (n : Nat) (hn : n < g.ts.length) (r : List Int) (hr : g.ts.getD n [] = r) (i k : Int) (ao : Option Addr) (cap : Nat) (l : List Src) (h : SrcsAt w ao l) (h2 : l.length ≤ 2) (e0 : Src.err r l = 0) (ha : Rw.isAt r i = true) (hi : Rw.get r i = 0) :
    Calls Try.prog 40 #[.pointer (some ⟨L.b, 0, none⟩), .int .i64 n, .int .i64 i, .int .i64 k, .slice ao l.length cap] w fun e w' => e = .returned (.tuple #[.pointer none, .slice none 0 0, .int .i64 14]) ∧ Below w.heap.size w w' := by
  have e1 : Rw.getE r i = 0 := by simp [Rw.getE, ha]
  have hT : g.isT n = true := by simp [Gr.isT, hn]
  have h8 : r.length ≤ 8 := hr ▸ f.rs8 n
  have c0 := hg.cell0
  have t64 := f.t64
  have ob := f.ob
  obtain ⟨d0, d1, d2, d3, d4, d5, d6, d7, d8⟩ := hg.t9 n hn
  rw [hr] at d0 d1 d2 d3 d4 d5 d6 d7 d8
  go_enter Try.func40, Try.ntmps40
  go_wp2_with (first
    | (go_at_call 34; refine (cHas hg f n).mono ?_; rintro e w1 ⟨rfl, hw⟩; rw [hw, hT]; clear hw w1)
    | (go_at_call 44; refine (cGetR r i h8 _).mono ?_; rintro e w2 ⟨rfl, hb2⟩; rw [e1, hi])
    | (go_at_call 58; refine (cNamed _ r h8 ao cap l h h2).mono ?_; rintro e w1 ⟨v, rfl, hb, hv1, hv2⟩; rw [e0]; have hg1 := hg.below hb; have q0 := hg1.cell0; obtain ⟨p0, p1, p2, p3, p4, p5, p6, p7, p8⟩ := hg1.t9 n hn; rw [hr] at p0 p1 p2 p3 p4 p5 p6 p7 p8))
  go_ret3
  exact ⟨rfl, bt hb hb2⟩

set_option maxRecDepth 100000 in
set_option maxHeartbeats 400000 in
theorem cAccBad4 {w : World} {L : Loc} {g : Gr} (hg : GAt w L g) (f : g.Fit) (n : Nat) (hn : n < g.ts.length) (r : List Int) (hr : g.ts.getD n [] = r) (i k : Int) (ao : Option Addr) (cap : Nat) (l : List Src) (h : SrcsAt w ao l) (h2 : l.length ≤ 2) (e0 : Src.err r l = 0) (ha : Rw.isAt r i = true) (m : Nat) (hm : m < g.os.length) (hi : Rw.get r i = (m : Int) + 1) (o : List (Int × Int)) (ho : g.os.getD m [] = o) (hk : k < 0 ∨ (o.length : Int) ≤ k) :
    Calls Try.prog 40 #[.pointer (some ⟨L.b, 0, none⟩), .int .i64 n, .int .i64 i, .int .i64 k, .slice ao l.length cap] w fun e w' => e = .returned (.tuple #[.pointer none, .slice none 0 0, .int .i64 15]) ∧ Below w.heap.size w w' := by
  have e1 : Rw.getE r i = 0 := by simp [Rw.getE, ha]
  have hie : ((m : Int) + 1 == 0) = false := by simp; omega
  obtain ⟨og, oc, hvo⟩ := hg.oslice (by omega)
  have hT : g.isT n = true := by simp [Gr.isT, hn]
  have h8 : r.length ≤ 8 := hr ▸ f.rs8 n
  have c0 := hg.cell0
  have t64 := f.t64
  have ob := f.ob
  obtain ⟨d0, d1, d2, d3, d4, d5, d6, d7, d8⟩ := hg.t9 n hn
  rw [hr] at d0 d1 d2 d3 d4 d5 d6 d7 d8
  rcases hk with hk | hk
  all_goals
    go_enter Try.func40, Try.ntmps40
    go_wp2_with (first
      | (go_at_call 34; refine (cHas hg f n).mono ?_; rintro e w1 ⟨rfl, hw⟩; rw [hw, hT]; clear hw w1)
      | (go_at_call 44; refine (cGetR r i h8 _).mono ?_; rintro e w2 ⟨rfl, hb2⟩; rw [e1, hi]; have hg2 := hg1.below hb2; have y1 := hg2.cell1; rw [hvo] at y1; have y2 := hg2.ocell hvo m hm 0 (by decide); have y3 : w2.cell? ⟨og, m * 15, none⟩ = some (.int .i64 (g.os.getD m []).length) := y2; rw [ho] at y3; clear y2)
      | (go_at_call 58; refine (cNamed _ r h8 ao cap l h h2).mono ?_; rintro e w1 ⟨v, rfl, hb, hv1, hv2⟩; rw [e0]; have hg1 := hg.below hb; have q0 := hg1.cell0; obtain ⟨p0, p1, p2, p3, p4, p5, p6, p7, p8⟩ := hg1.t9 n hn; rw [hr] at p0 p1 p2 p3 p4 p5 p6 p7 p8))
    go_ret3
    exact ⟨rfl, bt hb hb2⟩
set_option maxRecDepth 100000 in
set_option maxHeartbeats 400000 in
theorem cAccGood {w : World} {L : Loc} {g : Gr} (hg : GAt w L g) (f : g.Fit) (n : Nat) (hn : n < g.ts.length) (r : List Int) (hr : g.ts.getD n [] = r) (i : Int) (k : Nat) (ao : Option Addr) (cap : Nat) (l : List Src) (h : SrcsAt w ao l) (h2 : l.length ≤ 2) (e0 : Src.err r l = 0) (ha : Rw.isAt r i = true) (m : Nat) (hm : m < g.os.length) (hi : Rw.get r i = (m : Int) + 1) (o : List (Int × Int)) (ho : g.os.getD m [] = o) (hk : k < o.length) :
    Calls Try.prog 40 #[.pointer (some ⟨L.b, 0, none⟩), .int .i64 n, .int .i64 i, .int .i64 k, .slice ao l.length cap] w fun e w' => ∃ og oc v, L.vo = .slice (some ⟨og, 0, none⟩) g.os.length oc ∧ e = .returned (.tuple #[.pointer (some ⟨og, m * 15 + 1 + k * 2, none⟩), v, .int .i64 0]) ∧ Below w.heap.size w w' ∧ w'.ownsRow 0 37 2 v l.length (vcells (l.map (Src.val r))) := by
  have e1 : Rw.getE r i = 0 := by simp [Rw.getE, ha]
  have hie : ((m : Int) + 1 == 0) = false := by simp; omega
  obtain ⟨og, oc, hvo⟩ := hg.oslice (by omega)
  have o7 : o.length ≤ 7 := by rw [← ho]; have := f.obj7 ((m : Int) + 1); unfold Gr.obj at this; simpa using this
  have k7 : (k : Int) < 7 := by omega
  have k0 : (0 : Int) ≤ (k : Int) := by omega
  have hT : g.isT n = true := by simp [Gr.isT, hn]
  have h8 : r.length ≤ 8 := hr ▸ f.rs8 n
  have c0 := hg.cell0
  have t64 := f.t64
  have ob := f.ob
  obtain ⟨d0, d1, d2, d3, d4, d5, d6, d7, d8⟩ := hg.t9 n hn
  rw [hr] at d0 d1 d2 d3 d4 d5 d6 d7 d8
  go_enter Try.func40, Try.ntmps40
  go_wp2_with (first
    | (go_at_call 34; refine (cHas hg f n).mono ?_; rintro e w1 ⟨rfl, hw⟩; rw [hw, hT]; clear hw w1)
    | (go_at_call 44; refine (cGetR r i h8 _).mono ?_; rintro e w2 ⟨rfl, hb2⟩; rw [e1, hi]; have hg2 := hg1.below hb2; have y1 := hg2.cell1; rw [hvo] at y1; have y2 := hg2.ocell hvo m hm 0 (by decide); have y3 : w2.cell? ⟨og, m * 15, none⟩ = some (.int .i64 (g.os.getD m []).length) := y2; rw [ho] at y3; clear y2)
    | (go_at_call 58; refine (cNamed _ r h8 ao cap l h h2).mono ?_; rintro e w1 ⟨v, rfl, hb, hv1, hv2⟩; rw [e0]; have hg1 := hg.below hb; have q0 := hg1.cell0; obtain ⟨p0, p1, p2, p3, p4, p5, p6, p7, p8⟩ := hg1.t9 n hn; rw [hr] at p0 p1 p2 p3 p4 p5 p6 p7 p8))
  go_ret3
  exact ⟨og, oc, v, hvo, rfl, bt hb hb2, own_kept (hv2 e0) (Kept.of_below (F := []) hb2) (fun _ _ => by simp)⟩
/-- what makes an access good -/
theorem acc_good {g : Gr} (f : g.Fit) {t i k : Int} {l : List Src} (h : g.acc t i k l = 0) : ∃ (n : Nat) (m k' : Nat), t = n ∧ n < g.ts.length ∧ Src.err (g.ts.getD n []) l = 0 ∧ Rw.isAt (g.ts.getD n []) i = true ∧ m < g.os.length ∧ Rw.get (g.ts.getD n []) i = (m : Int) + 1 ∧ k = k' ∧ k' < (g.os.getD m []).length := by
  unfold Gr.acc at h
  split at h
  · rename_i hT
    obtain ⟨n, rfl, hn⟩ := isT_nat hT
    split at h
    · rename_i hE
      split at h
      · rename_i hA
        split at h
        · simp at h
        · rename_i hI
          split at h
          · rename_i hF
            have hg := f.get n i
            have hrs : g.rs (n : Int) = g.ts.getD n [] := rfl
            have hid : g.id n i = Rw.get (g.ts.getD n []) i := rfl
            rw [hrs] at hg hE hA
            rw [hid] at hI hF
            refine ⟨n, (Rw.get (g.ts.getD n []) i - 1).toNat, k.toNat, rfl, hn, hE, hA, by omega, by omega, by omega, ?_⟩
            have h2 := hF.2
            unfold Gr.obj at h2
            omega
          · simp at h
      · simp at h
    · rename_i hE; exact absurd h hE
  · simp at h
theorem cAccE {w : World} {L : Loc} {g : Gr} (hg : GAt w L g) (f : g.Fit) (t i k : Int) (ao : Option Addr) (cap : Nat) (l : List Src) (h : SrcsAt w ao l) (h2 : l.length ≤ 2) (hE : ¬ g.acc t i k l = 0) :
    Calls Try.prog 40 #[.pointer (some ⟨L.b, 0, none⟩), .int .i64 t, .int .i64 i, .int .i64 k, .slice ao l.length cap] w fun e w' => e = .returned (.tuple #[.pointer none, .slice none 0 0, .int .i64 (g.acc t i k l)]) ∧ Below w.heap.size w w' := by
  unfold Gr.acc at hE ⊢
  rcases hT : g.isT t with _ | _
  · simp only [Bool.false_eq_true, if_false]
    exact cAccBad0 hg f t i k ao cap l hT
  · simp only [hT, if_true] at hE ⊢
    obtain ⟨n, rfl, hn⟩ := isT_nat hT
    have hrs : g.rs (n : Int) = g.ts.getD n [] := rfl
    have hid : g.id n i = Rw.get (g.ts.getD n []) i := rfl
    have hgt := f.get n i
    rw [hrs] at hgt
    rw [hrs, hid] at hE ⊢
    by_cases hs : Src.err (g.ts.getD n []) l = 0
    · rw [if_pos hs] at hE ⊢
      rcases ha : Rw.isAt (g.ts.getD n []) i with _ | _
      · simp only [Bool.false_eq_true, if_false]
        exact cAccBad2 hg f n hn _ rfl i k ao cap l h h2 hs ha
      · simp only [ha, if_true] at hE ⊢
        by_cases h0 : Rw.get (g.ts.getD n []) i = 0
        · rw [if_pos h0]
          exact cAccBad3 hg f n hn _ rfl i k ao cap l h h2 hs ha h0
        · rw [if_neg h0] at hE ⊢
          by_cases hf : 0 ≤ k ∧ k < ((g.obj (Rw.get (g.ts.getD n []) i)).length : Int)
          · rw [if_pos hf] at hE
            exact absurd rfl hE
          · rw [if_neg hf]
            refine cAccBad4 hg f n hn _ rfl i k ao cap l h h2 hs ha (Rw.get (g.ts.getD n []) i - 1).toNat (by omega) (by omega) _ rfl ?_
            unfold Gr.obj at hf
            omega
    · rw [if_neg hs]
      exact cAccBad1 hg f n hn _ rfl i k ao cap l h h2 _ rfl (by simpa using hs)
end Go.Proofs.Ytbihdkdefopijaa
