/-
  Three workers in one block: whose machines are whose.
-/
import Derived.Test.YtgakmpfmckikgaaGreatDoorRt
import Derived.Test.YtgakmpfmckikgaaGreatDoorDt
import Derived.Test.YtgakmpfmckikgaaGreatDoorBg
namespace Go.Proofs.YtgakmpfmckikgaaGreatDoor
set_option linter.unusedVariables false
set_option linter.unusedSimpArgs false
set_option maxRecDepth 100000
open Go.ChangeShapes Go.WideShapes Go.RowKit

theorem rts_bts : ∀ T ∈ RTs, T ∉ BTs := by decide
theorem fts_bts : ∀ T ∈ FTs, T ∉ BTs := by decide
theorem rts_fts : ∀ T ∈ RTs, T ∈ FTs := by decide
section
variable {w0 w w' : World} {p : Nat} {F : List Nat} {T : TypeId} {cs : Array Value}
theorem FootR.ne (f : FootR w0 w F) (B : Blk w0 w p T cs) (hT : T ∉ RTs) : p ∉ F := fun h => by
  obtain ⟨T', cs', h1, h2⟩ := f p h
  exact (B.ne h2 (fun e => hT (e ▸ h1))) rfl
theorem FootR.ne' (f : FootR w0 w F) (B : Blk w0 w p T cs) (hT : T ∉ RTs) : ∀ q ∈ F, q ≠ p := fun q hq e => f.ne B hT (e ▸ hq)
theorem FootR.at (f : FootR w0 w F) : ∀ q ∈ F, ∃ cs T fz, w.heap[q]? = some (.cells cs T fz) ∧ T ∉ BTs := fun q hq => by
  obtain ⟨T', cs', h1, h2⟩ := f q hq
  exact ⟨_, _, _, h2.at_, rts_bts _ h1⟩
end
set_option maxHeartbeats 4000000 in
theorem cW0 {w0 w : World} {b y p p' WB o : Nat} {s : St} {N : Nat} {F : List Nat} {x : Sx} {TW : TypeId} {cs : Array Value} (h : Two w0 w b y s s N) (B : Blk w0 w WB TW cs) (ho : o + 6 ≤ cs.size) (i0 : cs[o]? = some (pt p)) (i3 : cs[o + 3]? = some (pt p')) (m : Mx w0 w p 103 x) (M : RDm w0 w p' F x) (hT : TW ∉ FTs) (hN : N + 10 < 1000000) :
    Calls Tryz.prog 8 #[.pointer (some ⟨WB, o, none⟩), pt b, pt y] w fun e w' => e = .returned (.tuple #[.bool (x.next s).done, .bool true]) ∧ Two w0 w' b y (x.mem s) (x.mem s) (N + 2) ∧ Blk w0 w' WB TW cs ∧ Oth (p :: p' :: F) w w' ∧ Mx w0 w' p 103 (x.next s) ∧ ∃ F', RDm w0 w' p' F' (x.next s) ∧ ∀ k ∈ F', k ∈ F ∨ w.heap.size ≤ k := by
  obtain ⟨x', hx'⟩ : ∃ x', x.next s = x' := ⟨_, rfl⟩
  obtain ⟨s', hs'⟩ : ∃ s', x.mem s = s' := ⟨_, rfl⟩
  obtain ⟨dn, hdn⟩ : ∃ v, x'.done = v := ⟨_, rfl⟩
  rw [hx', hs', hdn]
  have hTR : TW ∉ RTs := fun h => hT (rts_fts _ h)
  have hTD : TW ≠ 103 := fun e => hT (by rw [e]; decide)
  obtain ⟨vp, Bp⟩ := m.blk
  have hWp : WB ≠ p := B.ne Bp hTD
  have hpR := M.footR.ne Bp (by decide)
  have hpR' := M.footR.ne' Bp (by decide)
  have hWR := M.footR.ne B hTR
  have k0 : w.cell? ⟨WB, o, none⟩ = some (pt p) := (B.cell _).trans i0
  have k3 : w.cell? ⟨WB, o + 3, none⟩ = some (pt p') := (B.cell _).trans i3
  have wl := B.lt
  go_enter Tryz.func8, Tryz.ntmps8
  go_upto_region 3 with (go_at_call 13; refine (tD h m (by omega)).mono ?_; rintro e w1 ⟨rfl, T1, m1, o1⟩; rw [hx'] at m1; rw [hs'] at T1; rw [hx', hdn])
  clear k0 k3 wl
  have B1 := B.oth o1 (by simpa using hWp)
  have M1 := M.oth o1 (by simpa using hpR' _ (by simp)) (fun q hq => by simpa using hpR' q (by simp [hq]))
  have O1 : Oth (p :: p' :: F) w w1 := o1.mono (by simp)
  clear o1
  have k0 : w1.cell? ⟨WB, o, none⟩ = some (pt p) := (B1.cell _).trans i0
  have k3 : w1.cell? ⟨WB, o + 3, none⟩ = some (pt p') := (B1.cell _).trans i3
  have wl := B1.lt
  go_upto_region 4 with (go_at_call 30; refine (rDStep T1 M1 (by omega)).mono ?_; rintro e w2 ⟨rfl, T2, o2, F', M2, fr⟩; rw [hs'] at T2; rw [hx'] at M2; rw [hx', hdn])
  clear k0 k3 wl
  have B2 := B1.oth o2 hWR
  have m2 := m1.oth o2 hpR M1.footR.at
  have O2 : Oth (p :: p' :: F) w w2 := O1.trans (o2.mono (by simp +contextual))
  clear o2
  obtain ⟨vp2, Bp2⟩ := m2.blk
  have hfr : ∀ k ∈ F', k ∈ F ∨ w.heap.size ≤ k := fun k hk => (fr k hk).imp id fun h => Nat.le_trans O1.size h
  clear fr
  have sh := M2.shown
  have ml := M2.lt
  obtain ⟨⟨oc, ⟨vk, vn⟩, oy⟩, hoo⟩ : ∃ o, x'.o = o := ⟨_, rfl⟩
  have hval : x'.o.val = .agg #[.int .i64 oc, .int .i64 vk, .int .i64 vn, .bool oy] := by rw [hoo]; rfl
  have eo : ∀ w, (binOp .eql 64 (.agg #[.int .i64 oc, .int .i64 vk, .int .i64 vn, .bool oy]) (.agg #[.int .i64 oc, .int .i64 vk, .int .i64 vn, .bool oy])).run Tryz.prog w = .ok (.bool true) w := fun w => by
    have := eqOut ⟨oc, ⟨vk, vn⟩, oy⟩ ⟨oc, ⟨vk, vn⟩, oy⟩ w
    rw [decide_eq_true rfl] at this
    exact this
  obtain ⟨hh, hhh⟩ : ∃ v, x'.hit = v := ⟨_, rfl⟩
  rw [hhh] at sh
  have bq1 : ∀ w, (binOp .eql 4 (.bool dn) (.bool dn)).run Tryz.prog w = .ok (.bool true) w := fun w => by cases dn <;> kernel_rfl
  have bq2 : ∀ w, (binOp .eql 4 (.bool hh) (.bool hh)).run Tryz.prog w = .ok (.bool true) w := fun w => by cases hh <;> kernel_rfl
  have k0 : w2.cell? ⟨WB, o, none⟩ = some (pt p) := (B2.cell _).trans i0
  have k3 : w2.cell? ⟨WB, o + 3, none⟩ = some (pt p') := (B2.cell _).trans i3
  have wl := B2.lt
  have keep : ∀ w', Below w2.heap.size w2 w' → Below w2.heap.size w2 w' ∧ w'.cell? ⟨WB, o, none⟩ = some (pt p) ∧ w'.cell? ⟨WB, o + 3, none⟩ = some (pt p') ∧ w'.cell? ⟨p', 16, none⟩ = some (.bool hh) := fun w' hb => ⟨hb, bcell hb wl k0, bcell hb wl k3, bcell hb ml sh⟩
  have hbd : Below w2.heap.size w2 w2.drew := (Below.refl _ _).drew
  have RD := keep _ hbd
  have fin : ∀ w', Below w2.heap.size w2 w' → Two w0 w' b y s' s' (N + 2) ∧ Blk w0 w' WB TW cs ∧ Oth (p :: p' :: F) w w' ∧ Mx w0 w' p 103 x' ∧ ∃ F', RDm w0 w' p' F' x' ∧ ∀ k ∈ F', k ∈ F ∨ w.heap.size ≤ k := fun w' hb => ⟨(T2.below hb).mono (by omega), B2.below hb, O2.trans (Oth.below hb), m2.below hb, F', M2.oth (Oth.below (F := []) hb) (by simp) (by simp), hfr⟩
  have onA : ∀ w', Below w2.heap.size w2 w' ∧ w'.cell? ⟨WB, o, none⟩ = some (pt p) ∧ w'.cell? ⟨WB, o + 3, none⟩ = some (pt p') ∧ w'.cell? ⟨p', 16, none⟩ = some (.bool hh) → ∃ v, Blk w0 w' p 103 (x'.cells v) := fun w' hs => ⟨_, Bp2.below hs.1⟩
  have onB : ∀ w', Below w2.heap.size w2 w' ∧ w'.cell? ⟨WB, o, none⟩ = some (pt p) ∧ w'.cell? ⟨WB, o + 3, none⟩ = some (pt p') ∧ w'.cell? ⟨p', 16, none⟩ = some (.bool hh) → RDm w0 w' p' F' x' := fun w' hs => M2.oth (Oth.below (F := []) hs.1) (by simp) (by simp)
  clear k0 k3 wl ml sh
  go_region_held3 (fun w' => Below w2.heap.size w2 w' ∧ w'.cell? ⟨WB, o, none⟩ = some (pt p) ∧ w'.cell? ⟨WB, o + 3, none⟩ = some (pt p') ∧ w'.cell? ⟨p', 16, none⟩ = some (.bool hh)) (first | assumption | exact RD | exact keep _ (by assumption))
    (first
      | (go_at_call 17; refine (cDHit (Bp2.below hbd)).mono ?_; rintro e v0 ⟨rfl, hv0⟩; rw [hv0, hhh]; clear hv0 v0)
      | (go_at_call 18; refine (cDResult (Bp2.below (And.left (by assumption)))).mono ?_; rintro e v1 ⟨rfl, hbv1⟩; rw [hval]; have hq1 : Below w2.heap.size w2 v1 := bel_trans (by exact And.left (by assumption)) hbv1; clear hbv1)
      | (go_at_call 31; refine (rDResult (onB _ (by assumption))).mono ?_; rintro e v2 ⟨rfl, hbv2⟩; rw [hval]; have hq2 : Below w2.heap.size w2 v2 := bel_trans (by exact And.left (by assumption)) hbv2; clear hbv2))
  all_goals (
    go_wp2
    exact bodyPost_ret (v := .tuple #[.bool dn, .bool true]) (by simp [results, Tryz.results8, go_sem]) rfl ⟨rfl, fin _ (And.left (by assumption))⟩)
set_option maxHeartbeats 4000000 in
theorem cW1 {w0 w : World} {b y p p' WB o : Nat} {s : St} {N : Nat} {F : List Nat} {x : Sx} {TW : TypeId} {cs : Array Value} (h : Two w0 w b y s s N) (B : Blk w0 w WB TW cs) (ho : o + 6 ≤ cs.size) (n0 : cs[o]? = some (.pointer none)) (i0 : cs[o + 1]? = some (pt p)) (i3 : cs[o + 4]? = some (pt p')) (m : Mx w0 w p 104 x) (M : RPm w0 w p' F x) (hT : TW ∉ FTs) (hN : N + 10 < 1000000) :
    Calls Tryz.prog 8 #[.pointer (some ⟨WB, o, none⟩), pt b, pt y] w fun e w' => e = .returned (.tuple #[.bool (x.next s).done, .bool true]) ∧ Two w0 w' b y (x.mem s) (x.mem s) (N + 2) ∧ Blk w0 w' WB TW cs ∧ Oth (p :: p' :: F) w w' ∧ Mx w0 w' p 104 (x.next s) ∧ ∃ F', RPm w0 w' p' F' (x.next s) ∧ ∀ k ∈ F', k ∈ F ∨ w.heap.size ≤ k := by
  obtain ⟨x', hx'⟩ : ∃ x', x.next s = x' := ⟨_, rfl⟩
  obtain ⟨s', hs'⟩ : ∃ s', x.mem s = s' := ⟨_, rfl⟩
  obtain ⟨dn, hdn⟩ : ∃ v, x'.done = v := ⟨_, rfl⟩
  rw [hx', hs', hdn]
  have hTR : TW ∉ RTs := fun h => hT (rts_fts _ h)
  have hTD : TW ≠ 104 := fun e => hT (by rw [e]; decide)
  obtain ⟨vp, Bp⟩ := m.blk
  have hWp : WB ≠ p := B.ne Bp hTD
  have hpR := M.footR.ne Bp (by decide)
  have hpR' := M.footR.ne' Bp (by decide)
  have hWR := M.footR.ne B hTR
  have kn0 : w.cell? ⟨WB, o, none⟩ = some (.pointer none) := (B.cell _).trans n0
  have k0 : w.cell? ⟨WB, o + 1, none⟩ = some (pt p) := (B.cell _).trans i0
  have k3 : w.cell? ⟨WB, o + 4, none⟩ = some (pt p') := (B.cell _).trans i3
  have wl := B.lt
  go_enter Tryz.func8, Tryz.ntmps8
  go_upto_region 7 with (go_at_call 14; refine (tP h m (by omega)).mono ?_; rintro e w1 ⟨rfl, T1, m1, o1⟩; rw [hx'] at m1; rw [hs'] at T1; rw [hx', hdn])
  clear k0 k3 wl kn0
  have B1 := B.oth o1 (by simpa using hWp)
  have M1 := M.oth o1 (by simpa using hpR' _ (by simp)) (fun q hq => by simpa using hpR' q (by simp [hq]))
  have O1 : Oth (p :: p' :: F) w w1 := o1.mono (by simp)
  clear o1
  have kn0 : w1.cell? ⟨WB, o, none⟩ = some (.pointer none) := (B1.cell _).trans n0
  have k0 : w1.cell? ⟨WB, o + 1, none⟩ = some (pt p) := (B1.cell _).trans i0
  have k3 : w1.cell? ⟨WB, o + 4, none⟩ = some (pt p') := (B1.cell _).trans i3
  have wl := B1.lt
  go_upto_region 8 with (go_at_call 32; refine (rPStep T1 M1 (by omega)).mono ?_; rintro e w2 ⟨rfl, T2, o2, F', M2, fr⟩; rw [hs'] at T2; rw [hx'] at M2; rw [hx', hdn])
  clear k0 k3 wl kn0
  have B2 := B1.oth o2 hWR
  have m2 := m1.oth o2 hpR M1.footR.at
  have O2 : Oth (p :: p' :: F) w w2 := O1.trans (o2.mono (by simp +contextual))
  clear o2
  obtain ⟨vp2, Bp2⟩ := m2.blk
  have hfr : ∀ k ∈ F', k ∈ F ∨ w.heap.size ≤ k := fun k hk => (fr k hk).imp id fun h => Nat.le_trans O1.size h
  clear fr
  have sh := M2.shown
  have ml := M2.lt
  obtain ⟨⟨oc, ⟨vk, vn⟩, oy⟩, hoo⟩ : ∃ o, x'.o = o := ⟨_, rfl⟩
  have hval : x'.o.val = .agg #[.int .i64 oc, .int .i64 vk, .int .i64 vn, .bool oy] := by rw [hoo]; rfl
  have eo : ∀ w, (binOp .eql 64 (.agg #[.int .i64 oc, .int .i64 vk, .int .i64 vn, .bool oy]) (.agg #[.int .i64 oc, .int .i64 vk, .int .i64 vn, .bool oy])).run Tryz.prog w = .ok (.bool true) w := fun w => by
    have := eqOut ⟨oc, ⟨vk, vn⟩, oy⟩ ⟨oc, ⟨vk, vn⟩, oy⟩ w
    rw [decide_eq_true rfl] at this
    exact this
  obtain ⟨hh, hhh⟩ : ∃ v, x'.hit = v := ⟨_, rfl⟩
  rw [hhh] at sh
  have bq1 : ∀ w, (binOp .eql 4 (.bool dn) (.bool dn)).run Tryz.prog w = .ok (.bool true) w := fun w => by cases dn <;> kernel_rfl
  have bq2 : ∀ w, (binOp .eql 4 (.bool hh) (.bool hh)).run Tryz.prog w = .ok (.bool true) w := fun w => by cases hh <;> kernel_rfl
  have kn0 : w2.cell? ⟨WB, o, none⟩ = some (.pointer none) := (B2.cell _).trans n0
  have k0 : w2.cell? ⟨WB, o + 1, none⟩ = some (pt p) := (B2.cell _).trans i0
  have k3 : w2.cell? ⟨WB, o + 4, none⟩ = some (pt p') := (B2.cell _).trans i3
  have wl := B2.lt
  have keep : ∀ w', Below w2.heap.size w2 w' → Below w2.heap.size w2 w' ∧ w'.cell? ⟨WB, o + 1, none⟩ = some (pt p) ∧ w'.cell? ⟨WB, o + 4, none⟩ = some (pt p') ∧ w'.cell? ⟨p', 12, none⟩ = some (.bool hh) := fun w' hb => ⟨hb, bcell hb wl k0, bcell hb wl k3, bcell hb ml sh⟩
  have hbd : Below w2.heap.size w2 w2.drew := (Below.refl _ _).drew
  have RD := keep _ hbd
  have fin : ∀ w', Below w2.heap.size w2 w' → Two w0 w' b y s' s' (N + 2) ∧ Blk w0 w' WB TW cs ∧ Oth (p :: p' :: F) w w' ∧ Mx w0 w' p 104 x' ∧ ∃ F', RPm w0 w' p' F' x' ∧ ∀ k ∈ F', k ∈ F ∨ w.heap.size ≤ k := fun w' hb => ⟨(T2.below hb).mono (by omega), B2.below hb, O2.trans (Oth.below hb), m2.below hb, F', M2.oth (Oth.below (F := []) hb) (by simp) (by simp), hfr⟩
  have onA : ∀ w', Below w2.heap.size w2 w' ∧ w'.cell? ⟨WB, o + 1, none⟩ = some (pt p) ∧ w'.cell? ⟨WB, o + 4, none⟩ = some (pt p') ∧ w'.cell? ⟨p', 12, none⟩ = some (.bool hh) → ∃ v, Blk w0 w' p 104 (x'.cells v) := fun w' hs => ⟨_, Bp2.below hs.1⟩
  have onB : ∀ w', Below w2.heap.size w2 w' ∧ w'.cell? ⟨WB, o + 1, none⟩ = some (pt p) ∧ w'.cell? ⟨WB, o + 4, none⟩ = some (pt p') ∧ w'.cell? ⟨p', 12, none⟩ = some (.bool hh) → RPm w0 w' p' F' x' := fun w' hs => M2.oth (Oth.below (F := []) hs.1) (by simp) (by simp)
  clear k0 k3 wl ml sh
  go_region_held3 (fun w' => Below w2.heap.size w2 w' ∧ w'.cell? ⟨WB, o + 1, none⟩ = some (pt p) ∧ w'.cell? ⟨WB, o + 4, none⟩ = some (pt p') ∧ w'.cell? ⟨p', 12, none⟩ = some (.bool hh)) (first | assumption | exact RD | exact keep _ (by assumption))
    (first
      | (go_at_call 33; refine (cPHit (Bp2.below hbd)).mono ?_; rintro e v0 ⟨rfl, hv0⟩; rw [hv0, hhh]; clear hv0 v0)
      | (go_at_call 19; refine (cPResult (Bp2.below (And.left (by assumption)))).mono ?_; rintro e v1 ⟨rfl, hbv1⟩; rw [hval]; have hq1 : Below w2.heap.size w2 v1 := bel_trans (by exact And.left (by assumption)) hbv1; clear hbv1)
      | (go_at_call 34; refine (rPResult (onB _ (by assumption))).mono ?_; rintro e v2 ⟨rfl, hbv2⟩; rw [hval]; have hq2 : Below w2.heap.size w2 v2 := bel_trans (by exact And.left (by assumption)) hbv2; clear hbv2))
  all_goals (
    go_wp2
    exact bodyPost_ret (v := .tuple #[.bool dn, .bool true]) (by simp [results, Tryz.results8, go_sem]) rfl ⟨rfl, fin _ (And.left (by assumption))⟩)
set_option maxHeartbeats 4000000 in
theorem cW2 {w0 w : World} {b y p p' WB o : Nat} {s : St} {N : Nat} {x : Sx} {TW : TypeId} {cs : Array Value} (h : Two w0 w b y s s N) (B : Blk w0 w WB TW cs) (ho : o + 6 ≤ cs.size) (n0 : cs[o]? = some (.pointer none)) (n1 : cs[o + 1]? = some (.pointer none)) (i0 : cs[o + 2]? = some (pt p)) (i3 : cs[o + 5]? = some (pt p')) (m : Mx w0 w p 108 x) (M : RSm w0 w p' x) (hT : TW ∉ FTs) (hN : N + 10 < 1000000) :
    Calls Tryz.prog 8 #[.pointer (some ⟨WB, o, none⟩), pt b, pt y] w fun e w' => e = .returned (.tuple #[.bool (x.next s).done, .bool true]) ∧ Two w0 w' b y (x.mem s) (x.mem s) (N + 2) ∧ Blk w0 w' WB TW cs ∧ Oth [p, p'] w w' ∧ Mx w0 w' p 108 (x.next s) ∧ RSm w0 w' p' (x.next s) := by
  obtain ⟨x', hx'⟩ : ∃ x', x.next s = x' := ⟨_, rfl⟩
  obtain ⟨s', hs'⟩ : ∃ s', x.mem s = s' := ⟨_, rfl⟩
  obtain ⟨dn, hdn⟩ : ∃ v, x'.done = v := ⟨_, rfl⟩
  rw [hx', hs', hdn]
  have hTR : TW ∉ RTs := fun h => hT (rts_fts _ h)
  have hTD : TW ≠ 108 := fun e => hT (by rw [e]; decide)
  obtain ⟨vp, Bp⟩ := m.blk
  have hWp : WB ≠ p := B.ne Bp hTD
  have hpR := M.footR.ne Bp (by decide)
  have hpR' := M.footR.ne' Bp (by decide)
  have hWR := M.footR.ne B hTR
  have kn0 : w.cell? ⟨WB, o, none⟩ = some (.pointer none) := (B.cell _).trans n0
  have kn1 : w.cell? ⟨WB, o + 1, none⟩ = some (.pointer none) := (B.cell _).trans n1
  have k0 : w.cell? ⟨WB, o + 2, none⟩ = some (pt p) := (B.cell _).trans i0
  have k3 : w.cell? ⟨WB, o + 5, none⟩ = some (pt p') := (B.cell _).trans i3
  have wl := B.lt
  go_enter Tryz.func8, Tryz.ntmps8
  go_upto_region 10 with (go_at_call 16; refine (tS h m (by omega)).mono ?_; rintro e w1 ⟨rfl, T1, m1, o1⟩; rw [hx'] at m1; rw [hs'] at T1; rw [hx', hdn])
  clear k0 k3 wl kn0 kn1
  have B1 := B.oth o1 (by simpa using hWp)
  have M1 := M.oth o1 (by simpa using hpR' _ (by simp))
  have O1 : Oth [p, p'] w w1 := o1.mono (by simp)
  clear o1
  have kn0 : w1.cell? ⟨WB, o, none⟩ = some (.pointer none) := (B1.cell _).trans n0
  have kn1 : w1.cell? ⟨WB, o + 1, none⟩ = some (.pointer none) := (B1.cell _).trans n1
  have k0 : w1.cell? ⟨WB, o + 2, none⟩ = some (pt p) := (B1.cell _).trans i0
  have k3 : w1.cell? ⟨WB, o + 5, none⟩ = some (pt p') := (B1.cell _).trans i3
  have wl := B1.lt
  go_upto_region 11 with (go_at_call 35; refine (rSStep T1 M1 (by omega)).mono ?_; rintro e w2 ⟨rfl, T2, o2, M2⟩; rw [hs'] at T2; rw [hx'] at M2; rw [hx', hdn])
  clear k0 k3 wl kn0 kn1
  have B2 := B1.oth o2 hWR
  have m2 := m1.oth o2 hpR M1.footR.at
  have O2 : Oth [p, p'] w w2 := O1.trans (o2.mono (by simp +contextual))
  clear o2
  obtain ⟨vp2, Bp2⟩ := m2.blk
  obtain ⟨is, sh, q1, q2⟩ := M2.is
  have ml : p' < w2.heap.size := by
    obtain ⟨dd, BB, _⟩ := M2
    exact BB.lt
  have fin : ∀ w', Below w2.heap.size w2 w' → Two w0 w' b y s' s' (N + 2) ∧ Blk w0 w' WB TW cs ∧ Oth [p, p'] w w' ∧ Mx w0 w' p 108 x' ∧ RSm w0 w' p' x' := fun w' hb => ⟨(T2.below hb).mono (by omega), B2.below hb, O2.trans (Oth.below hb), m2.below hb, M2.oth (Oth.below (F := []) hb) (by simp)⟩
  have hyv : x'.o.y = (is && dn) := by
    cases dn with
    | true => rw [q1 hdn]; simp
    | false => rw [q2 hdn]; simp
  clear q1 q2
  obtain ⟨yv, hyy⟩ : ∃ v, x'.o.y = v := ⟨_, rfl⟩
  rw [hyy] at hyv
  have kn0 : w2.cell? ⟨WB, o, none⟩ = some (.pointer none) := (B2.cell _).trans n0
  have kn1 : w2.cell? ⟨WB, o + 1, none⟩ = some (.pointer none) := (B2.cell _).trans n1
  have k0 : w2.cell? ⟨WB, o + 2, none⟩ = some (pt p) := (B2.cell _).trans i0
  have k3 : w2.cell? ⟨WB, o + 5, none⟩ = some (pt p') := (B2.cell _).trans i3
  have wl := B2.lt
  cases is with
  | false =>
    cases dn with
    | false =>
      have bq1 : ∀ w, (binOp .eql 4 (.bool false) (.bool false)).run Tryz.prog w = .ok (.bool true) w := fun w => by kernel_rfl
      have bq2 : ∀ w, (binOp .eql 4 (.bool false) (.bool false)).run Tryz.prog w = .ok (.bool true) w := fun w => by kernel_rfl
      have hyv' : yv = false := hyv
      clear hyv
      subst hyv'
      have keep : ∀ w', Below w2.heap.size w2 w' → Below w2.heap.size w2 w' ∧ w'.cell? ⟨WB, o + 2, none⟩ = some (pt p) ∧ w'.cell? ⟨WB, o + 5, none⟩ = some (pt p') ∧ w'.cell? ⟨p', 4, none⟩ = some (.bool false) := fun w' hb => ⟨hb, bcell hb wl k0, bcell hb wl k3, bcell hb ml sh⟩
      have hbd : Below w2.heap.size w2 w2.drew := (Below.refl _ _).drew
      have RD := keep _ hbd
      clear k0 k3 wl ml sh
      refine wp_region_noPanic ?_
      refine wp_region_held_drew (S := fun w' => Below w2.heap.size w2 w' ∧ w'.cell? ⟨WB, o + 2, none⟩ = some (pt p) ∧ w'.cell? ⟨WB, o + 5, none⟩ = some (pt p') ∧ w'.cell? ⟨p', 4, none⟩ = some (.bool false)) (by kernel_rfl) RD (fun hHeld => ?_)
      refine takeH (i := 0) 124 (.bool false) rfl rfl (by kernel_rfl) (by kernel_rfl) (by kernel_rfl) (fun _ _ _ h => h) (by rfl) ?_ (by assumption) ?_
      · intro w hSw; (try dsimp only at hSw); go_simp
      simp only [List.setIfInBounds_toArray, List.set_cons_zero, List.set_cons_succ]
      refine takeH (i := 1) 125 (.bool false) rfl rfl (by kernel_rfl) (by kernel_rfl) (by kernel_rfl) (fun _ _ _ h => h) (by rfl) ?_ (by assumption) ?_
      · intro w hSw; (try dsimp only at hSw); go_simp
      simp only [List.setIfInBounds_toArray, List.set_cons_zero, List.set_cons_succ]
      refine takeH (i := 2) 126 (.bool false) rfl rfl (by kernel_rfl) (by kernel_rfl) (by kernel_rfl) (fun _ _ _ h => h) (by rfl) ?_ (by assumption) ?_
      · intro w hSw; (try dsimp only at hSw); go_simp
      simp only [List.setIfInBounds_toArray, List.set_cons_zero, List.set_cons_succ]
      refine takeH (i := 3) 127 (.bool true) rfl rfl (by kernel_rfl) (by kernel_rfl) (by kernel_rfl) (fun _ _ _ h => h) (by rfl) ?_ (by assumption) ?_
      · intro w hSw; (try dsimp only at hSw); go_simp
      simp only [List.setIfInBounds_toArray, List.set_cons_zero, List.set_cons_succ]
      refine takeH (i := 4) 128 (.bool true) rfl rfl (by kernel_rfl) (by kernel_rfl) (by kernel_rfl) (fun _ _ _ h => h) (by rfl) ?_ (by assumption) ?_
      · intro w hSw; (try dsimp only at hSw); go_simp
      simp only [List.setIfInBounds_toArray, List.set_cons_zero, List.set_cons_succ]
      refine takeH (i := 5) 129 (.pointer (some ⟨WB, o, none⟩)) rfl rfl (by kernel_rfl) (by kernel_rfl) (by kernel_rfl) (fun _ _ _ h => h) (by rfl) ?_ (by assumption) ?_
      · intro w hSw; (try dsimp only at hSw); go_simp
      simp only [List.setIfInBounds_toArray, List.set_cons_zero, List.set_cons_succ]
      refine takeH (i := 6) 130 (.pointer (some ⟨WB, o, none⟩)) rfl rfl (by kernel_rfl) (by kernel_rfl) (by kernel_rfl) (fun _ _ _ h => h) (by rfl) ?_ (by assumption) ?_
      · intro w hSw; (try dsimp only at hSw); go_simp
      simp only [List.setIfInBounds_toArray, List.set_cons_zero, List.set_cons_succ]
      refine takeH (i := 7) 131 (.pointer (some ⟨WB, o + 2, none⟩)) rfl rfl (by kernel_rfl) (by kernel_rfl) (by kernel_rfl) (fun _ _ _ h => h) (by rfl) ?_ (by assumption) ?_
      · intro w hSw; (try dsimp only at hSw); go_simp
      simp only [List.setIfInBounds_toArray, List.set_cons_zero, List.set_cons_succ]
      refine takeH (i := 8) 132 (pt p) rfl rfl (by kernel_rfl) (by kernel_rfl) (by kernel_rfl) (fun _ _ _ h => h) (by rfl) ?_ (by assumption) ?_
      · intro w hSw; (try dsimp only at hSw); go_simp
      simp only [List.setIfInBounds_toArray, List.set_cons_zero, List.set_cons_succ]
      refine takeH (i := 10) 134 (.pointer (some ⟨WB, o, none⟩)) rfl rfl (by kernel_rfl) (by kernel_rfl) (by kernel_rfl) (fun _ _ _ h => h) (by rfl) ?_ (by assumption) ?_
      · intro w hSw; (try dsimp only at hSw); go_simp
      simp only [List.setIfInBounds_toArray, List.set_cons_zero, List.set_cons_succ]
      refine takeH (i := 11) 135 (.pointer (some ⟨WB, o, none⟩)) rfl rfl (by kernel_rfl) (by kernel_rfl) (by kernel_rfl) (fun _ _ _ h => h) (by rfl) ?_ (by assumption) ?_
      · intro w hSw; (try dsimp only at hSw); go_simp
      simp only [List.setIfInBounds_toArray, List.set_cons_zero, List.set_cons_succ]
      refine takeH (i := 12) 136 (.pointer (some ⟨WB, o + 5, none⟩)) rfl rfl (by kernel_rfl) (by kernel_rfl) (by kernel_rfl) (fun _ _ _ h => h) (by rfl) ?_ (by assumption) ?_
      · intro w hSw; (try dsimp only at hSw); go_simp
      simp only [List.setIfInBounds_toArray, List.set_cons_zero, List.set_cons_succ]
      refine takeH (i := 13) 137 (pt p') rfl rfl (by kernel_rfl) (by kernel_rfl) (by kernel_rfl) (fun _ _ _ h => h) (by rfl) ?_ (by assumption) ?_
      · intro w hSw; (try dsimp only at hSw); go_simp
      simp only [List.setIfInBounds_toArray, List.set_cons_zero, List.set_cons_succ]
      refine takeH (i := 14) 138 (pt p') rfl rfl (by kernel_rfl) (by kernel_rfl) (by kernel_rfl) (fun _ _ _ h => h) (by rfl) ?_ (by assumption) ?_
      · intro w hSw; (try dsimp only at hSw); go_simp
      simp only [List.setIfInBounds_toArray, List.set_cons_zero, List.set_cons_succ]
      refine takeH (i := 15) 139 (.pointer (some ⟨p', 4, none⟩)) rfl rfl (by kernel_rfl) (by kernel_rfl) (by kernel_rfl) (fun _ _ _ h => h) (by rfl) ?_ (by assumption) ?_
      · intro w hSw; (try dsimp only at hSw); go_simp
      simp only [List.setIfInBounds_toArray, List.set_cons_zero, List.set_cons_succ]
      refine takeH (i := 16) 140 (.bool false) rfl rfl (by kernel_rfl) (by kernel_rfl) (by kernel_rfl) (fun _ _ _ h => h) (by rfl) ?_ (by assumption) ?_
      · intro w hSw; (try dsimp only at hSw); go_simp
      simp only [List.setIfInBounds_toArray, List.set_cons_zero, List.set_cons_succ]
      refine wpAnyH_ready (rs := [9]) (by kernel_rfl) (by simp) ?_
      refine AllReadyH.cons rfl (fun K hK => ?_) AllReadyH.nil
      go_simp
      refine (cYes (Bp2.below hbd)).mono ?_
      rintro e v0 ⟨rfl, hv0⟩
      rw [hv0, hyy]
      clear hv0 v0
      refine hK.out _ _ RD (fun hHeld => ?_)
      clear hK K
      try simp only [Act.put, List.setIfInBounds_toArray, List.set_cons_zero, List.set_cons_succ]
      refine takeH (i := 17) 141 (.bool false) rfl rfl (by kernel_rfl) (by kernel_rfl) (by kernel_rfl) (fun _ _ _ h => h) (by rfl) ?_ (by assumption) ?_
      · intro w hSw; (try dsimp only at hSw); go_simp
      simp only [List.setIfInBounds_toArray, List.set_cons_zero, List.set_cons_succ]
      refine skipH (i := 18) 142 rfl rfl (by kernel_rfl) (by kernel_rfl) (by kernel_rfl) (fun _ _ _ h => h) (by rfl) (by assumption) ?_
      simp only [List.setIfInBounds_toArray, List.set_cons_zero, List.set_cons_succ]
      refine takeH (i := 19) 143 (.bool false) rfl rfl (by kernel_rfl) (by kernel_rfl) (by kernel_rfl) (fun _ _ _ h => h) (by rfl) ?_ (by assumption) ?_
      · intro w hSw; (try dsimp only at hSw); go_simp
      simp only [List.setIfInBounds_toArray, List.set_cons_zero, List.set_cons_succ]
      refine takeH (i := 20) 144 (.bool true) rfl rfl (by kernel_rfl) (by kernel_rfl) (by kernel_rfl) (fun _ _ _ h => h) (by rfl) ?_ (by assumption) ?_
      · intro w hSw; (try dsimp only at hSw); go_simp
      simp only [List.setIfInBounds_toArray, List.set_cons_zero, List.set_cons_succ]
      refine takeH (i := 21) 145 (.bool true) rfl rfl (by kernel_rfl) (by kernel_rfl) (by kernel_rfl) (fun _ _ _ h => h) (by rfl) ?_ (by assumption) ?_
      · intro w hSw; (try dsimp only at hSw); go_simp
      simp only [List.setIfInBounds_toArray, List.set_cons_zero, List.set_cons_succ]
      refine takeH (i := 22) 6 (.bool false) rfl rfl (by kernel_rfl) (by kernel_rfl) (by kernel_rfl) (fun _ _ _ h => h) (by rfl) ?_ (by assumption) ?_
      · intro w hSw; (try dsimp only at hSw); go_simp
      simp only [List.setIfInBounds_toArray, List.set_cons_zero, List.set_cons_succ]
      refine takeH (i := 23) 7 (.bool true) rfl rfl (by kernel_rfl) (by kernel_rfl) (by kernel_rfl) (fun _ _ _ h => h) (by rfl) ?_ (by assumption) ?_
      · intro w hSw; (try dsimp only at hSw); go_simp
      simp only [List.setIfInBounds_toArray, List.set_cons_zero, List.set_cons_succ]
      refine wpAnyH_done (by kernel_rfl) ?_ _
      refine NoPanic.normal ?_
      go_wp2
      exact bodyPost_ret (v := .tuple #[.bool false, .bool true]) (by simp [results, Tryz.results8, go_sem]) rfl ⟨rfl, fin _ hbd⟩
    | true =>
      have bq1 : ∀ w, (binOp .eql 4 (.bool true) (.bool true)).run Tryz.prog w = .ok (.bool true) w := fun w => by kernel_rfl
      have bq2 : ∀ w, (binOp .eql 4 (.bool false) (.bool false)).run Tryz.prog w = .ok (.bool true) w := fun w => by kernel_rfl
      have hyv' : yv = false := hyv
      clear hyv
      subst hyv'
      have keep : ∀ w', Below w2.heap.size w2 w' → Below w2.heap.size w2 w' ∧ w'.cell? ⟨WB, o + 2, none⟩ = some (pt p) ∧ w'.cell? ⟨WB, o + 5, none⟩ = some (pt p') ∧ w'.cell? ⟨p', 4, none⟩ = some (.bool false) := fun w' hb => ⟨hb, bcell hb wl k0, bcell hb wl k3, bcell hb ml sh⟩
      have hbd : Below w2.heap.size w2 w2.drew := (Below.refl _ _).drew
      have RD := keep _ hbd
      clear k0 k3 wl ml sh
      refine wp_region_noPanic ?_
      refine wp_region_held_drew (S := fun w' => Below w2.heap.size w2 w' ∧ w'.cell? ⟨WB, o + 2, none⟩ = some (pt p) ∧ w'.cell? ⟨WB, o + 5, none⟩ = some (pt p') ∧ w'.cell? ⟨p', 4, none⟩ = some (.bool false)) (by kernel_rfl) RD (fun hHeld => ?_)
      refine takeH (i := 0) 124 (.bool true) rfl rfl (by kernel_rfl) (by kernel_rfl) (by kernel_rfl) (fun _ _ _ h => h) (by rfl) ?_ (by assumption) ?_
      · intro w hSw; (try dsimp only at hSw); go_simp
      simp only [List.setIfInBounds_toArray, List.set_cons_zero, List.set_cons_succ]
      refine takeH (i := 1) 125 (.bool true) rfl rfl (by kernel_rfl) (by kernel_rfl) (by kernel_rfl) (fun _ _ _ h => h) (by rfl) ?_ (by assumption) ?_
      · intro w hSw; (try dsimp only at hSw); go_simp
      simp only [List.setIfInBounds_toArray, List.set_cons_zero, List.set_cons_succ]
      refine takeH (i := 2) 126 (.bool true) rfl rfl (by kernel_rfl) (by kernel_rfl) (by kernel_rfl) (fun _ _ _ h => h) (by rfl) ?_ (by assumption) ?_
      · intro w hSw; (try dsimp only at hSw); go_simp
      simp only [List.setIfInBounds_toArray, List.set_cons_zero, List.set_cons_succ]
      refine takeH (i := 3) 127 (.bool true) rfl rfl (by kernel_rfl) (by kernel_rfl) (by kernel_rfl) (fun _ _ _ h => h) (by rfl) ?_ (by assumption) ?_
      · intro w hSw; (try dsimp only at hSw); go_simp
      simp only [List.setIfInBounds_toArray, List.set_cons_zero, List.set_cons_succ]
      refine takeH (i := 4) 128 (.bool true) rfl rfl (by kernel_rfl) (by kernel_rfl) (by kernel_rfl) (fun _ _ _ h => h) (by rfl) ?_ (by assumption) ?_
      · intro w hSw; (try dsimp only at hSw); go_simp
      simp only [List.setIfInBounds_toArray, List.set_cons_zero, List.set_cons_succ]
      refine takeH (i := 5) 129 (.pointer (some ⟨WB, o, none⟩)) rfl rfl (by kernel_rfl) (by kernel_rfl) (by kernel_rfl) (fun _ _ _ h => h) (by rfl) ?_ (by assumption) ?_
      · intro w hSw; (try dsimp only at hSw); go_simp
      simp only [List.setIfInBounds_toArray, List.set_cons_zero, List.set_cons_succ]
      refine takeH (i := 6) 130 (.pointer (some ⟨WB, o, none⟩)) rfl rfl (by kernel_rfl) (by kernel_rfl) (by kernel_rfl) (fun _ _ _ h => h) (by rfl) ?_ (by assumption) ?_
      · intro w hSw; (try dsimp only at hSw); go_simp
      simp only [List.setIfInBounds_toArray, List.set_cons_zero, List.set_cons_succ]
      refine takeH (i := 7) 131 (.pointer (some ⟨WB, o + 2, none⟩)) rfl rfl (by kernel_rfl) (by kernel_rfl) (by kernel_rfl) (fun _ _ _ h => h) (by rfl) ?_ (by assumption) ?_
      · intro w hSw; (try dsimp only at hSw); go_simp
      simp only [List.setIfInBounds_toArray, List.set_cons_zero, List.set_cons_succ]
      refine takeH (i := 8) 132 (pt p) rfl rfl (by kernel_rfl) (by kernel_rfl) (by kernel_rfl) (fun _ _ _ h => h) (by rfl) ?_ (by assumption) ?_
      · intro w hSw; (try dsimp only at hSw); go_simp
      simp only [List.setIfInBounds_toArray, List.set_cons_zero, List.set_cons_succ]
      refine takeH (i := 10) 134 (.pointer (some ⟨WB, o, none⟩)) rfl rfl (by kernel_rfl) (by kernel_rfl) (by kernel_rfl) (fun _ _ _ h => h) (by rfl) ?_ (by assumption) ?_
      · intro w hSw; (try dsimp only at hSw); go_simp
      simp only [List.setIfInBounds_toArray, List.set_cons_zero, List.set_cons_succ]
      refine takeH (i := 11) 135 (.pointer (some ⟨WB, o, none⟩)) rfl rfl (by kernel_rfl) (by kernel_rfl) (by kernel_rfl) (fun _ _ _ h => h) (by rfl) ?_ (by assumption) ?_
      · intro w hSw; (try dsimp only at hSw); go_simp
      simp only [List.setIfInBounds_toArray, List.set_cons_zero, List.set_cons_succ]
      refine takeH (i := 12) 136 (.pointer (some ⟨WB, o + 5, none⟩)) rfl rfl (by kernel_rfl) (by kernel_rfl) (by kernel_rfl) (fun _ _ _ h => h) (by rfl) ?_ (by assumption) ?_
      · intro w hSw; (try dsimp only at hSw); go_simp
      simp only [List.setIfInBounds_toArray, List.set_cons_zero, List.set_cons_succ]
      refine takeH (i := 13) 137 (pt p') rfl rfl (by kernel_rfl) (by kernel_rfl) (by kernel_rfl) (fun _ _ _ h => h) (by rfl) ?_ (by assumption) ?_
      · intro w hSw; (try dsimp only at hSw); go_simp
      simp only [List.setIfInBounds_toArray, List.set_cons_zero, List.set_cons_succ]
      refine takeH (i := 14) 138 (pt p') rfl rfl (by kernel_rfl) (by kernel_rfl) (by kernel_rfl) (fun _ _ _ h => h) (by rfl) ?_ (by assumption) ?_
      · intro w hSw; (try dsimp only at hSw); go_simp
      simp only [List.setIfInBounds_toArray, List.set_cons_zero, List.set_cons_succ]
      refine takeH (i := 15) 139 (.pointer (some ⟨p', 4, none⟩)) rfl rfl (by kernel_rfl) (by kernel_rfl) (by kernel_rfl) (fun _ _ _ h => h) (by rfl) ?_ (by assumption) ?_
      · intro w hSw; (try dsimp only at hSw); go_simp
      simp only [List.setIfInBounds_toArray, List.set_cons_zero, List.set_cons_succ]
      refine takeH (i := 16) 140 (.bool false) rfl rfl (by kernel_rfl) (by kernel_rfl) (by kernel_rfl) (fun _ _ _ h => h) (by rfl) ?_ (by assumption) ?_
      · intro w hSw; (try dsimp only at hSw); go_simp
      simp only [List.setIfInBounds_toArray, List.set_cons_zero, List.set_cons_succ]
      refine wpAnyH_ready (rs := [9]) (by kernel_rfl) (by simp) ?_
      refine AllReadyH.cons rfl (fun K hK => ?_) AllReadyH.nil
      go_simp
      refine (cYes (Bp2.below hbd)).mono ?_
      rintro e v0 ⟨rfl, hv0⟩
      rw [hv0, hyy]
      clear hv0 v0
      refine hK.out _ _ RD (fun hHeld => ?_)
      clear hK K
      try simp only [Act.put, List.setIfInBounds_toArray, List.set_cons_zero, List.set_cons_succ]
      refine takeH (i := 17) 141 (.bool false) rfl rfl (by kernel_rfl) (by kernel_rfl) (by kernel_rfl) (fun _ _ _ h => h) (by rfl) ?_ (by assumption) ?_
      · intro w hSw; (try dsimp only at hSw); go_simp
      simp only [List.setIfInBounds_toArray, List.set_cons_zero, List.set_cons_succ]
      refine skipH (i := 18) 142 rfl rfl (by kernel_rfl) (by kernel_rfl) (by kernel_rfl) (fun _ _ _ h => h) (by rfl) (by assumption) ?_
      simp only [List.setIfInBounds_toArray, List.set_cons_zero, List.set_cons_succ]
      refine takeH (i := 19) 143 (.bool false) rfl rfl (by kernel_rfl) (by kernel_rfl) (by kernel_rfl) (fun _ _ _ h => h) (by rfl) ?_ (by assumption) ?_
      · intro w hSw; (try dsimp only at hSw); go_simp
      simp only [List.setIfInBounds_toArray, List.set_cons_zero, List.set_cons_succ]
      refine takeH (i := 20) 144 (.bool true) rfl rfl (by kernel_rfl) (by kernel_rfl) (by kernel_rfl) (fun _ _ _ h => h) (by rfl) ?_ (by assumption) ?_
      · intro w hSw; (try dsimp only at hSw); go_simp
      simp only [List.setIfInBounds_toArray, List.set_cons_zero, List.set_cons_succ]
      refine takeH (i := 21) 145 (.bool true) rfl rfl (by kernel_rfl) (by kernel_rfl) (by kernel_rfl) (fun _ _ _ h => h) (by rfl) ?_ (by assumption) ?_
      · intro w hSw; (try dsimp only at hSw); go_simp
      simp only [List.setIfInBounds_toArray, List.set_cons_zero, List.set_cons_succ]
      refine takeH (i := 22) 6 (.bool true) rfl rfl (by kernel_rfl) (by kernel_rfl) (by kernel_rfl) (fun _ _ _ h => h) (by rfl) ?_ (by assumption) ?_
      · intro w hSw; (try dsimp only at hSw); go_simp
      simp only [List.setIfInBounds_toArray, List.set_cons_zero, List.set_cons_succ]
      refine takeH (i := 23) 7 (.bool true) rfl rfl (by kernel_rfl) (by kernel_rfl) (by kernel_rfl) (fun _ _ _ h => h) (by rfl) ?_ (by assumption) ?_
      · intro w hSw; (try dsimp only at hSw); go_simp
      simp only [List.setIfInBounds_toArray, List.set_cons_zero, List.set_cons_succ]
      refine wpAnyH_done (by kernel_rfl) ?_ _
      refine NoPanic.normal ?_
      go_wp2
      exact bodyPost_ret (v := .tuple #[.bool true, .bool true]) (by simp [results, Tryz.results8, go_sem]) rfl ⟨rfl, fin _ hbd⟩
  | true =>
    cases dn with
    | false =>
      have bq1 : ∀ w, (binOp .eql 4 (.bool false) (.bool false)).run Tryz.prog w = .ok (.bool true) w := fun w => by kernel_rfl
      have bq2 : ∀ w, (binOp .eql 4 (.bool false) (.bool false)).run Tryz.prog w = .ok (.bool true) w := fun w => by kernel_rfl
      have hyv' : yv = false := hyv
      clear hyv
      subst hyv'
      have keep : ∀ w', Below w2.heap.size w2 w' → Below w2.heap.size w2 w' ∧ w'.cell? ⟨WB, o + 2, none⟩ = some (pt p) ∧ w'.cell? ⟨WB, o + 5, none⟩ = some (pt p') ∧ w'.cell? ⟨p', 4, none⟩ = some (.bool true) := fun w' hb => ⟨hb, bcell hb wl k0, bcell hb wl k3, bcell hb ml sh⟩
      have hbd : Below w2.heap.size w2 w2.drew := (Below.refl _ _).drew
      have RD := keep _ hbd
      clear k0 k3 wl ml sh
      refine wp_region_noPanic ?_
      refine wp_region_held_drew (S := fun w' => Below w2.heap.size w2 w' ∧ w'.cell? ⟨WB, o + 2, none⟩ = some (pt p) ∧ w'.cell? ⟨WB, o + 5, none⟩ = some (pt p') ∧ w'.cell? ⟨p', 4, none⟩ = some (.bool true)) (by kernel_rfl) RD (fun hHeld => ?_)
      refine takeH (i := 0) 124 (.bool false) rfl rfl (by kernel_rfl) (by kernel_rfl) (by kernel_rfl) (fun _ _ _ h => h) (by rfl) ?_ (by assumption) ?_
      · intro w hSw; (try dsimp only at hSw); go_simp
      simp only [List.setIfInBounds_toArray, List.set_cons_zero, List.set_cons_succ]
      refine takeH (i := 1) 125 (.bool false) rfl rfl (by kernel_rfl) (by kernel_rfl) (by kernel_rfl) (fun _ _ _ h => h) (by rfl) ?_ (by assumption) ?_
      · intro w hSw; (try dsimp only at hSw); go_simp
      simp only [List.setIfInBounds_toArray, List.set_cons_zero, List.set_cons_succ]
      refine takeH (i := 2) 126 (.bool false) rfl rfl (by kernel_rfl) (by kernel_rfl) (by kernel_rfl) (fun _ _ _ h => h) (by rfl) ?_ (by assumption) ?_
      · intro w hSw; (try dsimp only at hSw); go_simp
      simp only [List.setIfInBounds_toArray, List.set_cons_zero, List.set_cons_succ]
      refine takeH (i := 3) 127 (.bool true) rfl rfl (by kernel_rfl) (by kernel_rfl) (by kernel_rfl) (fun _ _ _ h => h) (by rfl) ?_ (by assumption) ?_
      · intro w hSw; (try dsimp only at hSw); go_simp
      simp only [List.setIfInBounds_toArray, List.set_cons_zero, List.set_cons_succ]
      refine takeH (i := 4) 128 (.bool true) rfl rfl (by kernel_rfl) (by kernel_rfl) (by kernel_rfl) (fun _ _ _ h => h) (by rfl) ?_ (by assumption) ?_
      · intro w hSw; (try dsimp only at hSw); go_simp
      simp only [List.setIfInBounds_toArray, List.set_cons_zero, List.set_cons_succ]
      refine takeH (i := 5) 129 (.pointer (some ⟨WB, o, none⟩)) rfl rfl (by kernel_rfl) (by kernel_rfl) (by kernel_rfl) (fun _ _ _ h => h) (by rfl) ?_ (by assumption) ?_
      · intro w hSw; (try dsimp only at hSw); go_simp
      simp only [List.setIfInBounds_toArray, List.set_cons_zero, List.set_cons_succ]
      refine takeH (i := 6) 130 (.pointer (some ⟨WB, o, none⟩)) rfl rfl (by kernel_rfl) (by kernel_rfl) (by kernel_rfl) (fun _ _ _ h => h) (by rfl) ?_ (by assumption) ?_
      · intro w hSw; (try dsimp only at hSw); go_simp
      simp only [List.setIfInBounds_toArray, List.set_cons_zero, List.set_cons_succ]
      refine takeH (i := 7) 131 (.pointer (some ⟨WB, o + 2, none⟩)) rfl rfl (by kernel_rfl) (by kernel_rfl) (by kernel_rfl) (fun _ _ _ h => h) (by rfl) ?_ (by assumption) ?_
      · intro w hSw; (try dsimp only at hSw); go_simp
      simp only [List.setIfInBounds_toArray, List.set_cons_zero, List.set_cons_succ]
      refine takeH (i := 8) 132 (pt p) rfl rfl (by kernel_rfl) (by kernel_rfl) (by kernel_rfl) (fun _ _ _ h => h) (by rfl) ?_ (by assumption) ?_
      · intro w hSw; (try dsimp only at hSw); go_simp
      simp only [List.setIfInBounds_toArray, List.set_cons_zero, List.set_cons_succ]
      refine takeH (i := 10) 134 (.pointer (some ⟨WB, o, none⟩)) rfl rfl (by kernel_rfl) (by kernel_rfl) (by kernel_rfl) (fun _ _ _ h => h) (by rfl) ?_ (by assumption) ?_
      · intro w hSw; (try dsimp only at hSw); go_simp
      simp only [List.setIfInBounds_toArray, List.set_cons_zero, List.set_cons_succ]
      refine takeH (i := 11) 135 (.pointer (some ⟨WB, o, none⟩)) rfl rfl (by kernel_rfl) (by kernel_rfl) (by kernel_rfl) (fun _ _ _ h => h) (by rfl) ?_ (by assumption) ?_
      · intro w hSw; (try dsimp only at hSw); go_simp
      simp only [List.setIfInBounds_toArray, List.set_cons_zero, List.set_cons_succ]
      refine takeH (i := 12) 136 (.pointer (some ⟨WB, o + 5, none⟩)) rfl rfl (by kernel_rfl) (by kernel_rfl) (by kernel_rfl) (fun _ _ _ h => h) (by rfl) ?_ (by assumption) ?_
      · intro w hSw; (try dsimp only at hSw); go_simp
      simp only [List.setIfInBounds_toArray, List.set_cons_zero, List.set_cons_succ]
      refine takeH (i := 13) 137 (pt p') rfl rfl (by kernel_rfl) (by kernel_rfl) (by kernel_rfl) (fun _ _ _ h => h) (by rfl) ?_ (by assumption) ?_
      · intro w hSw; (try dsimp only at hSw); go_simp
      simp only [List.setIfInBounds_toArray, List.set_cons_zero, List.set_cons_succ]
      refine takeH (i := 14) 138 (pt p') rfl rfl (by kernel_rfl) (by kernel_rfl) (by kernel_rfl) (fun _ _ _ h => h) (by rfl) ?_ (by assumption) ?_
      · intro w hSw; (try dsimp only at hSw); go_simp
      simp only [List.setIfInBounds_toArray, List.set_cons_zero, List.set_cons_succ]
      refine takeH (i := 15) 139 (.pointer (some ⟨p', 4, none⟩)) rfl rfl (by kernel_rfl) (by kernel_rfl) (by kernel_rfl) (fun _ _ _ h => h) (by rfl) ?_ (by assumption) ?_
      · intro w hSw; (try dsimp only at hSw); go_simp
      simp only [List.setIfInBounds_toArray, List.set_cons_zero, List.set_cons_succ]
      refine takeH (i := 16) 140 (.bool true) rfl rfl (by kernel_rfl) (by kernel_rfl) (by kernel_rfl) (fun _ _ _ h => h) (by rfl) ?_ (by assumption) ?_
      · intro w hSw; (try dsimp only at hSw); go_simp
      simp only [List.setIfInBounds_toArray, List.set_cons_zero, List.set_cons_succ]
      refine wpAnyH_ready (rs := [9]) (by kernel_rfl) (by simp) ?_
      refine AllReadyH.cons rfl (fun K hK => ?_) AllReadyH.nil
      go_simp
      refine (cYes (Bp2.below hbd)).mono ?_
      rintro e v0 ⟨rfl, hv0⟩
      rw [hv0, hyy]
      clear hv0 v0
      refine hK.out _ _ RD (fun hHeld => ?_)
      clear hK K
      try simp only [Act.put, List.setIfInBounds_toArray, List.set_cons_zero, List.set_cons_succ]
      refine takeH (i := 17) 141 (.bool true) rfl rfl (by kernel_rfl) (by kernel_rfl) (by kernel_rfl) (fun _ _ _ h => h) (by rfl) ?_ (by assumption) ?_
      · intro w hSw; (try dsimp only at hSw); go_simp
      simp only [List.setIfInBounds_toArray, List.set_cons_zero, List.set_cons_succ]
      refine takeH (i := 18) 142 (.bool false) rfl rfl (by kernel_rfl) (by kernel_rfl) (by kernel_rfl) (fun _ _ _ h => h) (by rfl) ?_ (by assumption) ?_
      · intro w hSw; (try dsimp only at hSw); go_simp
      simp only [List.setIfInBounds_toArray, List.set_cons_zero, List.set_cons_succ]
      refine takeH (i := 19) 143 (.bool false) rfl rfl (by kernel_rfl) (by kernel_rfl) (by kernel_rfl) (fun _ _ _ h => h) (by rfl) ?_ (by assumption) ?_
      · intro w hSw; (try dsimp only at hSw); go_simp
      simp only [List.setIfInBounds_toArray, List.set_cons_zero, List.set_cons_succ]
      refine takeH (i := 20) 144 (.bool true) rfl rfl (by kernel_rfl) (by kernel_rfl) (by kernel_rfl) (fun _ _ _ h => h) (by rfl) ?_ (by assumption) ?_
      · intro w hSw; (try dsimp only at hSw); go_simp
      simp only [List.setIfInBounds_toArray, List.set_cons_zero, List.set_cons_succ]
      refine takeH (i := 21) 145 (.bool true) rfl rfl (by kernel_rfl) (by kernel_rfl) (by kernel_rfl) (fun _ _ _ h => h) (by rfl) ?_ (by assumption) ?_
      · intro w hSw; (try dsimp only at hSw); go_simp
      simp only [List.setIfInBounds_toArray, List.set_cons_zero, List.set_cons_succ]
      refine takeH (i := 22) 6 (.bool false) rfl rfl (by kernel_rfl) (by kernel_rfl) (by kernel_rfl) (fun _ _ _ h => h) (by rfl) ?_ (by assumption) ?_
      · intro w hSw; (try dsimp only at hSw); go_simp
      simp only [List.setIfInBounds_toArray, List.set_cons_zero, List.set_cons_succ]
      refine takeH (i := 23) 7 (.bool true) rfl rfl (by kernel_rfl) (by kernel_rfl) (by kernel_rfl) (fun _ _ _ h => h) (by rfl) ?_ (by assumption) ?_
      · intro w hSw; (try dsimp only at hSw); go_simp
      simp only [List.setIfInBounds_toArray, List.set_cons_zero, List.set_cons_succ]
      refine wpAnyH_done (by kernel_rfl) ?_ _
      refine NoPanic.normal ?_
      go_wp2
      exact bodyPost_ret (v := .tuple #[.bool false, .bool true]) (by simp [results, Tryz.results8, go_sem]) rfl ⟨rfl, fin _ hbd⟩
    | true =>
      have bq1 : ∀ w, (binOp .eql 4 (.bool true) (.bool true)).run Tryz.prog w = .ok (.bool true) w := fun w => by kernel_rfl
      have bq2 : ∀ w, (binOp .eql 4 (.bool true) (.bool true)).run Tryz.prog w = .ok (.bool true) w := fun w => by kernel_rfl
      have hyv' : yv = true := hyv
      clear hyv
      subst hyv'
      have keep : ∀ w', Below w2.heap.size w2 w' → Below w2.heap.size w2 w' ∧ w'.cell? ⟨WB, o + 2, none⟩ = some (pt p) ∧ w'.cell? ⟨WB, o + 5, none⟩ = some (pt p') ∧ w'.cell? ⟨p', 4, none⟩ = some (.bool true) := fun w' hb => ⟨hb, bcell hb wl k0, bcell hb wl k3, bcell hb ml sh⟩
      have hbd : Below w2.heap.size w2 w2.drew := (Below.refl _ _).drew
      have RD := keep _ hbd
      clear k0 k3 wl ml sh
      refine wp_region_noPanic ?_
      refine wp_region_held_drew (S := fun w' => Below w2.heap.size w2 w' ∧ w'.cell? ⟨WB, o + 2, none⟩ = some (pt p) ∧ w'.cell? ⟨WB, o + 5, none⟩ = some (pt p') ∧ w'.cell? ⟨p', 4, none⟩ = some (.bool true)) (by kernel_rfl) RD (fun hHeld => ?_)
      refine takeH (i := 0) 124 (.bool true) rfl rfl (by kernel_rfl) (by kernel_rfl) (by kernel_rfl) (fun _ _ _ h => h) (by rfl) ?_ (by assumption) ?_
      · intro w hSw; (try dsimp only at hSw); go_simp
      simp only [List.setIfInBounds_toArray, List.set_cons_zero, List.set_cons_succ]
      refine takeH (i := 1) 125 (.bool true) rfl rfl (by kernel_rfl) (by kernel_rfl) (by kernel_rfl) (fun _ _ _ h => h) (by rfl) ?_ (by assumption) ?_
      · intro w hSw; (try dsimp only at hSw); go_simp
      simp only [List.setIfInBounds_toArray, List.set_cons_zero, List.set_cons_succ]
      refine takeH (i := 2) 126 (.bool true) rfl rfl (by kernel_rfl) (by kernel_rfl) (by kernel_rfl) (fun _ _ _ h => h) (by rfl) ?_ (by assumption) ?_
      · intro w hSw; (try dsimp only at hSw); go_simp
      simp only [List.setIfInBounds_toArray, List.set_cons_zero, List.set_cons_succ]
      refine takeH (i := 3) 127 (.bool true) rfl rfl (by kernel_rfl) (by kernel_rfl) (by kernel_rfl) (fun _ _ _ h => h) (by rfl) ?_ (by assumption) ?_
      · intro w hSw; (try dsimp only at hSw); go_simp
      simp only [List.setIfInBounds_toArray, List.set_cons_zero, List.set_cons_succ]
      refine takeH (i := 4) 128 (.bool true) rfl rfl (by kernel_rfl) (by kernel_rfl) (by kernel_rfl) (fun _ _ _ h => h) (by rfl) ?_ (by assumption) ?_
      · intro w hSw; (try dsimp only at hSw); go_simp
      simp only [List.setIfInBounds_toArray, List.set_cons_zero, List.set_cons_succ]
      refine takeH (i := 5) 129 (.pointer (some ⟨WB, o, none⟩)) rfl rfl (by kernel_rfl) (by kernel_rfl) (by kernel_rfl) (fun _ _ _ h => h) (by rfl) ?_ (by assumption) ?_
      · intro w hSw; (try dsimp only at hSw); go_simp
      simp only [List.setIfInBounds_toArray, List.set_cons_zero, List.set_cons_succ]
      refine takeH (i := 6) 130 (.pointer (some ⟨WB, o, none⟩)) rfl rfl (by kernel_rfl) (by kernel_rfl) (by kernel_rfl) (fun _ _ _ h => h) (by rfl) ?_ (by assumption) ?_
      · intro w hSw; (try dsimp only at hSw); go_simp
      simp only [List.setIfInBounds_toArray, List.set_cons_zero, List.set_cons_succ]
      refine takeH (i := 7) 131 (.pointer (some ⟨WB, o + 2, none⟩)) rfl rfl (by kernel_rfl) (by kernel_rfl) (by kernel_rfl) (fun _ _ _ h => h) (by rfl) ?_ (by assumption) ?_
      · intro w hSw; (try dsimp only at hSw); go_simp
      simp only [List.setIfInBounds_toArray, List.set_cons_zero, List.set_cons_succ]
      refine takeH (i := 8) 132 (pt p) rfl rfl (by kernel_rfl) (by kernel_rfl) (by kernel_rfl) (fun _ _ _ h => h) (by rfl) ?_ (by assumption) ?_
      · intro w hSw; (try dsimp only at hSw); go_simp
      simp only [List.setIfInBounds_toArray, List.set_cons_zero, List.set_cons_succ]
      refine takeH (i := 10) 134 (.pointer (some ⟨WB, o, none⟩)) rfl rfl (by kernel_rfl) (by kernel_rfl) (by kernel_rfl) (fun _ _ _ h => h) (by rfl) ?_ (by assumption) ?_
      · intro w hSw; (try dsimp only at hSw); go_simp
      simp only [List.setIfInBounds_toArray, List.set_cons_zero, List.set_cons_succ]
      refine takeH (i := 11) 135 (.pointer (some ⟨WB, o, none⟩)) rfl rfl (by kernel_rfl) (by kernel_rfl) (by kernel_rfl) (fun _ _ _ h => h) (by rfl) ?_ (by assumption) ?_
      · intro w hSw; (try dsimp only at hSw); go_simp
      simp only [List.setIfInBounds_toArray, List.set_cons_zero, List.set_cons_succ]
      refine takeH (i := 12) 136 (.pointer (some ⟨WB, o + 5, none⟩)) rfl rfl (by kernel_rfl) (by kernel_rfl) (by kernel_rfl) (fun _ _ _ h => h) (by rfl) ?_ (by assumption) ?_
      · intro w hSw; (try dsimp only at hSw); go_simp
      simp only [List.setIfInBounds_toArray, List.set_cons_zero, List.set_cons_succ]
      refine takeH (i := 13) 137 (pt p') rfl rfl (by kernel_rfl) (by kernel_rfl) (by kernel_rfl) (fun _ _ _ h => h) (by rfl) ?_ (by assumption) ?_
      · intro w hSw; (try dsimp only at hSw); go_simp
      simp only [List.setIfInBounds_toArray, List.set_cons_zero, List.set_cons_succ]
      refine takeH (i := 14) 138 (pt p') rfl rfl (by kernel_rfl) (by kernel_rfl) (by kernel_rfl) (fun _ _ _ h => h) (by rfl) ?_ (by assumption) ?_
      · intro w hSw; (try dsimp only at hSw); go_simp
      simp only [List.setIfInBounds_toArray, List.set_cons_zero, List.set_cons_succ]
      refine takeH (i := 15) 139 (.pointer (some ⟨p', 4, none⟩)) rfl rfl (by kernel_rfl) (by kernel_rfl) (by kernel_rfl) (fun _ _ _ h => h) (by rfl) ?_ (by assumption) ?_
      · intro w hSw; (try dsimp only at hSw); go_simp
      simp only [List.setIfInBounds_toArray, List.set_cons_zero, List.set_cons_succ]
      refine takeH (i := 16) 140 (.bool true) rfl rfl (by kernel_rfl) (by kernel_rfl) (by kernel_rfl) (fun _ _ _ h => h) (by rfl) ?_ (by assumption) ?_
      · intro w hSw; (try dsimp only at hSw); go_simp
      simp only [List.setIfInBounds_toArray, List.set_cons_zero, List.set_cons_succ]
      refine wpAnyH_ready (rs := [9]) (by kernel_rfl) (by simp) ?_
      refine AllReadyH.cons rfl (fun K hK => ?_) AllReadyH.nil
      go_simp
      refine (cYes (Bp2.below hbd)).mono ?_
      rintro e v0 ⟨rfl, hv0⟩
      rw [hv0, hyy]
      clear hv0 v0
      refine hK.out _ _ RD (fun hHeld => ?_)
      clear hK K
      try simp only [Act.put, List.setIfInBounds_toArray, List.set_cons_zero, List.set_cons_succ]
      refine takeH (i := 17) 141 (.bool true) rfl rfl (by kernel_rfl) (by kernel_rfl) (by kernel_rfl) (fun _ _ _ h => h) (by rfl) ?_ (by assumption) ?_
      · intro w hSw; (try dsimp only at hSw); go_simp
      simp only [List.setIfInBounds_toArray, List.set_cons_zero, List.set_cons_succ]
      refine takeH (i := 18) 142 (.bool true) rfl rfl (by kernel_rfl) (by kernel_rfl) (by kernel_rfl) (fun _ _ _ h => h) (by rfl) ?_ (by assumption) ?_
      · intro w hSw; (try dsimp only at hSw); go_simp
      simp only [List.setIfInBounds_toArray, List.set_cons_zero, List.set_cons_succ]
      refine takeH (i := 19) 143 (.bool true) rfl rfl (by kernel_rfl) (by kernel_rfl) (by kernel_rfl) (fun _ _ _ h => h) (by rfl) ?_ (by assumption) ?_
      · intro w hSw; (try dsimp only at hSw); go_simp
      simp only [List.setIfInBounds_toArray, List.set_cons_zero, List.set_cons_succ]
      refine takeH (i := 20) 144 (.bool true) rfl rfl (by kernel_rfl) (by kernel_rfl) (by kernel_rfl) (fun _ _ _ h => h) (by rfl) ?_ (by assumption) ?_
      · intro w hSw; (try dsimp only at hSw); go_simp
      simp only [List.setIfInBounds_toArray, List.set_cons_zero, List.set_cons_succ]
      refine takeH (i := 21) 145 (.bool true) rfl rfl (by kernel_rfl) (by kernel_rfl) (by kernel_rfl) (fun _ _ _ h => h) (by rfl) ?_ (by assumption) ?_
      · intro w hSw; (try dsimp only at hSw); go_simp
      simp only [List.setIfInBounds_toArray, List.set_cons_zero, List.set_cons_succ]
      refine takeH (i := 22) 6 (.bool true) rfl rfl (by kernel_rfl) (by kernel_rfl) (by kernel_rfl) (fun _ _ _ h => h) (by rfl) ?_ (by assumption) ?_
      · intro w hSw; (try dsimp only at hSw); go_simp
      simp only [List.setIfInBounds_toArray, List.set_cons_zero, List.set_cons_succ]
      refine takeH (i := 23) 7 (.bool true) rfl rfl (by kernel_rfl) (by kernel_rfl) (by kernel_rfl) (fun _ _ _ h => h) (by rfl) ?_ (by assumption) ?_
      · intro w hSw; (try dsimp only at hSw); go_simp
      simp only [List.setIfInBounds_toArray, List.set_cons_zero, List.set_cons_succ]
      refine wpAnyH_done (by kernel_rfl) ?_ _
      refine NoPanic.normal ?_
      go_wp2
      exact bodyPost_ret (v := .tuple #[.bool true, .bool true]) (by simp [results, Tryz.results8, go_sem]) rfl ⟨rfl, fin _ hbd⟩
end Go.Proofs.YtgakmpfmckikgaaGreatDoor

namespace Go.Proofs.YtgakmpfmckikgaaGreatDoor
set_option linter.unusedVariables false
set_option linter.unusedSimpArgs false
set_option maxRecDepth 100000
open Go.ChangeShapes Go.WideShapes Go.RowKit

/-- a worker's machines: of one of the three kinds, program's and reference's -/
def Wrk (w0 w : World) (cs : Array Value) (o : Nat) (F : List Nat) (x : Sx) : Prop :=
  (∃ p p' F', F = p :: p' :: F' ∧ cs[o]? = some (pt p) ∧ cs[o + 3]? = some (pt p') ∧ Mx w0 w p 103 x ∧ RDm w0 w p' F' x) ∨
  (∃ p p' F', F = p :: p' :: F' ∧ cs[o]? = some (.pointer none) ∧ cs[o + 1]? = some (pt p) ∧ cs[o + 4]? = some (pt p') ∧ Mx w0 w p 104 x ∧ RPm w0 w p' F' x) ∨
  (∃ p p', F = [p, p'] ∧ cs[o]? = some (.pointer none) ∧ cs[o + 1]? = some (.pointer none) ∧ cs[o + 2]? = some (pt p) ∧ cs[o + 5]? = some (pt p') ∧ Mx w0 w p 108 x ∧ RSm w0 w p' x)
section
variable {w0 w w' : World} {cs cs' : Array Value} {o : Nat} {F G : List Nat} {x : Sx}
theorem FootR.foot (f : FootR w0 w F) : Foot w0 w F := fun q hq => by
  obtain ⟨T, cs, h1, h2⟩ := f q hq
  exact ⟨T, cs, rts_fts _ h1, h2⟩
theorem foot_cons {p : Nat} {T : TypeId} (m : Mx w0 w p T x) (hT : T ∈ FTs) (f : Foot w0 w F) : Foot w0 w (p :: F) := fun q hq => by
  simp only [List.mem_cons] at hq
  rcases hq with rfl | hq
  · obtain ⟨v, B⟩ := m.blk
    exact ⟨T, _, hT, B⟩
  · exact f q hq
theorem Wrk.foot (h : Wrk w0 w cs o F x) : Foot w0 w F := by
  rcases h with ⟨p, p', F', rfl, _, _, m, M⟩ | ⟨p, p', F', rfl, _, _, _, m, M⟩ | ⟨p, p', rfl, _, _, _, _, m, M⟩
  · exact foot_cons m (by decide) M.footR.foot
  · exact foot_cons m (by decide) M.footR.foot
  · exact foot_cons m (by decide) M.footR.foot
theorem Foot.lt (f : Foot w0 w F) : ∀ q ∈ F, q < w.heap.size := fun q hq => by
  obtain ⟨T, cs, _, B⟩ := f q hq
  exact B.lt
theorem Foot.ne {p : Nat} {T : TypeId} {c : Array Value} (f : Foot w0 w F) (B : Blk w0 w p T c) (hT : T ∉ FTs) : ∀ q ∈ F, q ≠ p := fun q hq e => by
  obtain ⟨T', cs', h1, h2⟩ := f q hq
  exact (B.ne (e ▸ h2) (fun e' => hT (e' ▸ h1))) rfl
theorem Foot.at (f : Foot w0 w F) : ∀ q ∈ F, ∃ cs T fz, w.heap[q]? = some (.cells cs T fz) ∧ T ∉ BTs := fun q hq => by
  obtain ⟨T', cs', h1, h2⟩ := f q hq
  exact ⟨_, _, _, h2.at_, fts_bts _ h1⟩
theorem Wrk.oth (h : Wrk w0 w cs o F x) (ot : Oth G w w') (hd : ∀ q ∈ F, q ∉ G) (hG : ∀ q ∈ G, ∃ cs T fz, w.heap[q]? = some (.cells cs T fz) ∧ T ∉ BTs) : Wrk w0 w' cs o F x := by
  rcases h with ⟨p, p', F', rfl, a1, a2, m, M⟩ | ⟨p, p', F', rfl, a1, a2, a3, m, M⟩ | ⟨p, p', rfl, a1, a2, a3, a4, m, M⟩
  · exact .inl ⟨p, p', F', rfl, a1, a2, m.oth ot (hd p (by simp)) hG, M.oth ot (hd p' (by simp)) (fun q hq => hd q (by simp [hq]))⟩
  · exact .inr (.inl ⟨p, p', F', rfl, a1, a2, a3, m.oth ot (hd p (by simp)) hG, M.oth ot (hd p' (by simp)) (fun q hq => hd q (by simp [hq]))⟩)
  · exact .inr (.inr ⟨p, p', rfl, a1, a2, a3, a4, m.oth ot (hd p (by simp)) hG, M.oth ot (hd p' (by simp))⟩)
theorem Wrk.cells (h : Wrk w0 w cs o F x) (e : ∀ j, o ≤ j → j < o + 6 → cs'[j]? = cs[j]?) : Wrk w0 w cs' o F x := by
  rcases h with ⟨p, p', F', rfl, a1, a2, m, M⟩ | ⟨p, p', F', rfl, a1, a2, a3, m, M⟩ | ⟨p, p', rfl, a1, a2, a3, a4, m, M⟩
  · exact .inl ⟨p, p', F', rfl, (e _ (by omega) (by omega)).trans a1, (e _ (by omega) (by omega)).trans a2, m, M⟩
  · exact .inr (.inl ⟨p, p', F', rfl, (e _ (by omega) (by omega)).trans a1, (e _ (by omega) (by omega)).trans a2, (e _ (by omega) (by omega)).trans a3, m, M⟩)
  · exact .inr (.inr ⟨p, p', rfl, (e _ (by omega) (by omega)).trans a1, (e _ (by omega) (by omega)).trans a2, (e _ (by omega) (by omega)).trans a3, (e _ (by omega) (by omega)).trans a4, m, M⟩)
end
/-- a worker steps -/
theorem cWrk {w0 w : World} {b y WB o : Nat} {s : St} {N : Nat} {F : List Nat} {x : Sx} {TW : TypeId} {cs : Array Value} (h : Two w0 w b y s s N) (B : Blk w0 w WB TW cs) (ho : o + 6 ≤ cs.size) (M : Wrk w0 w cs o F x) (hT : TW ∉ FTs) (hN : N + 10 < 1000000) :
    Calls Tryz.prog 8 #[.pointer (some ⟨WB, o, none⟩), pt b, pt y] w fun e w' => e = .returned (.tuple #[.bool (x.next s).done, .bool true]) ∧ Two w0 w' b y (x.mem s) (x.mem s) (N + 2) ∧ Blk w0 w' WB TW cs ∧ Oth F w w' ∧ ∃ F', Wrk w0 w' cs o F' (x.next s) ∧ ∀ k ∈ F', k ∈ F ∨ w.heap.size ≤ k := by
  rcases M with ⟨p, p', F', rfl, a1, a2, m, M⟩ | ⟨p, p', F', rfl, a1, a2, a3, m, M⟩ | ⟨p, p', rfl, a1, a2, a3, a4, m, M⟩
  · refine (cW0 h B ho a1 a2 m M hT hN).mono ?_
    rintro e w' ⟨rfl, t, bl, ot, m', F2, M', fr⟩
    refine ⟨rfl, t, bl, ot, p :: p' :: F2, .inl ⟨p, p', F2, rfl, a1, a2, m', M'⟩, fun k hk => ?_⟩
    simp only [List.mem_cons] at hk ⊢
    rcases hk with rfl | rfl | hk
    · exact .inl (.inl rfl)
    · exact .inl (.inr (.inl rfl))
    · exact (fr k hk).imp (fun h => .inr (.inr h)) id
  · refine (cW1 h B ho a1 a2 a3 m M hT hN).mono ?_
    rintro e w' ⟨rfl, t, bl, ot, m', F2, M', fr⟩
    refine ⟨rfl, t, bl, ot, p :: p' :: F2, .inr (.inl ⟨p, p', F2, rfl, a1, a2, a3, m', M'⟩), fun k hk => ?_⟩
    simp only [List.mem_cons] at hk ⊢
    rcases hk with rfl | rfl | hk
    · exact .inl (.inl rfl)
    · exact .inl (.inr (.inl rfl))
    · exact (fr k hk).imp (fun h => .inr (.inr h)) id
  · refine (cW2 h B ho a1 a2 a3 a4 m M hT hN).mono ?_
    rintro e w' ⟨rfl, t, bl, ot, m', M'⟩
    exact ⟨rfl, t, bl, ot, [p, p'], .inr (.inr ⟨p, p', rfl, a1, a2, a3, a4, m', M'⟩), fun k hk => .inl hk⟩
/-- a worker begins -/
theorem cBeg {w0 w : World} {WB o : Nat} {TW : TypeId} {cs : Array Value} {q : Op7} (f : q.Fit) (B : Blk w0 w WB TW cs) (ho : o + 6 ≤ cs.size) (hTB : TW ∉ BTs) (hT : TW ∉ FTs) (hT1 : TW ≠ 47) :
    Calls Tryz.prog 7 #[.pointer (some ⟨WB, o, none⟩), .agg q.cells] w fun e w' => e = .returned (.bool true) ∧ Kept [WB] w w' ∧ ∃ cs' F x, Blk w0 w' WB TW cs' ∧ cs'.size = cs.size ∧ (∀ j, j < o ∨ o + 6 ≤ j → cs'[j]? = cs[j]?) ∧ Wrk w0 w' cs' o F x ∧ ∀ k ∈ F, w.heap.size ≤ k := by
  refine (cBegin f B ho hTB hT1 ⟨fun e => hT (by rw [e]; decide), fun e => hT (by rw [e]; decide), fun e => hT (by rw [e]; decide)⟩ ⟨fun e => hT (by rw [e]; decide), fun e => hT (by rw [e]; decide), fun e => hT (by rw [e]; decide)⟩).mono ?_
  rintro e w' ⟨rfl, b0, b1, b2⟩
  have k3 := kd_lt q.a 3 (by decide)
  have hop : ∀ a f, (rqP q a f).op = 1 ∨ (rqP q a f).op = 2 ∨ (rqP q a f).op = 3 := fun a f => by simp only [rqP]; omega
  have hk : kd q.k 3 = 0 ∨ kd q.k 3 = 1 ∨ kd q.k 3 = 2 := by have := kd_lt q.k 3 (by decide); omega
  rcases hk with hk | hk | hk
  · obtain ⟨K, p, p', cs', X, R, Bw, sx, n1, n2⟩ := b0 hk
    refine ⟨rfl, K, cs', [p, p'], _, Bw, sx.size, sx.other, .inl ⟨p, p', [], rfl, sx.one, sx.two, X, rdm_new R (hop _ _)⟩, ?_⟩
    simp only [List.mem_cons, List.not_mem_nil, or_false]
    rintro k (rfl | rfl) <;> assumption
  · obtain ⟨K, p, p', cs', X, R, Bw, sx, n1, n2⟩ := b1 hk
    have ha : 0 ≤ atP q ∧ atP q < 4096 := by
      have := kd_lt q.o 17 (by decide)
      unfold atP
      split <;> omega
    refine ⟨rfl, K, cs', [p, p'], _, Bw, sx.size, sx.other, .inr (.inl ⟨p, p', [], rfl, sx.nil 0 (by decide) (by decide), sx.one, sx.two, X, rpm_new R (hop _ _) ha.1 ha.2⟩), ?_⟩
    simp only [List.mem_cons, List.not_mem_nil, or_false]
    rintro k (rfl | rfl) <;> assumption
  · obtain ⟨K, p, p', cs', X, R, Bw, sx, n1, n2⟩ := b2 hk
    refine ⟨rfl, K, cs', [p, p'], _, Bw, sx.size, sx.other, .inr (.inr ⟨p, p', rfl, sx.nil 0 (by decide) (by decide), sx.nil 1 (by decide) (by decide), sx.one, sx.two, X, rsm_new R⟩), ?_⟩
    simp only [List.mem_cons, List.not_mem_nil, or_false]
    rintro k (rfl | rfl) <;> assumption

/-! ### three of them -/
def upd {α : Type} (f : Nat → α) (k : Nat) (v : α) : Nat → α := fun j => if j = k then v else f j
theorem upd_at {α : Type} (f : Nat → α) (k : Nat) (v : α) : upd f k v k = v := if_pos rfl
theorem upd_ne {α : Type} (f : Nat → α) {k j : Nat} (v : α) (h : j ≠ k) : upd f k v j = f j := if_neg h
structure Team (w0 w : World) (cs : Array Value) (bs : Nat → Bool) (F : Nat → List Nat) (x : Nat → Sx) : Prop where
  it : ∀ k, k < 3 → bs k = true → Wrk w0 w cs (6 * k) (F k) (x k)
  no : ∀ k, k < 3 → bs k = false → F k = []
  apart : ∀ j k, j < 3 → k < 3 → j ≠ k → ∀ q ∈ F j, q ∉ F k
section
variable {w0 w w' : World} {cs cs' : Array Value} {bs : Nat → Bool} {F : Nat → List Nat} {x : Nat → Sx} {G : List Nat}
theorem Team.foot (h : Team w0 w cs bs F x) (k : Nat) (hk : k < 3) : Foot w0 w (F k) := by
  rcases hb : bs k with _ | _
  · rw [h.no k hk hb]
    intro q hq
    simp at hq
  · exact (h.it k hk hb).foot
theorem Team.oth (h : Team w0 w cs bs F x) (ot : Oth G w w') (hd : ∀ k, k < 3 → ∀ q ∈ F k, q ∉ G) (hG : ∀ q ∈ G, ∃ cs T fz, w.heap[q]? = some (.cells cs T fz) ∧ T ∉ BTs) : Team w0 w' cs bs F x :=
  ⟨fun k hk hb => (h.it k hk hb).oth ot (hd k hk) hG, h.no, h.apart⟩
theorem Team.below (h : Team w0 w cs bs F x) (hb : Below w.heap.size w w') : Team w0 w' cs bs F x := h.oth (G := []) (Oth.below hb) (by simp) (by simp)
theorem Team.set {p i : Nat} {T : TypeId} {c : Array Value} (h : Team w0 w cs bs F x) (B : Blk w0 w p T c) (hT : T ∉ FTs) (hTB : T ∉ BTs) (v : Value) : Team w0 (w.setCell ⟨p, i, none⟩ v) cs bs F x :=
  h.oth (G := [p]) (Oth.set _ _ _ _ (by simp)) (fun k hk q hq => by simpa using (h.foot k hk).ne B hT q hq) (fun q hq => by simp at hq; subst hq; exact ⟨_, _, _, B.at_, hTB⟩)
end
theorem team_none {w0 w : World} {cs : Array Value} : Team w0 w cs (fun _ => false) (fun _ => []) (fun _ => ⟨none, false, Ou.zero⟩) := ⟨fun k hk h => by simp at h, fun _ _ _ => rfl, fun _ _ _ _ _ q hq => by simp at hq⟩
/-- one of them begins -/
theorem tmBegin {w0 w : World} {b y WB bb o k : Nat} {s : St} {N : Nat} {TW TB : TypeId} {cs bc : Array Value} {bs : Nat → Bool} {F : Nat → List Nat} {x : Nat → Sx} {q : Op7} (h : Two w0 w b y s s N) (B : Blk w0 w WB TW cs) (hcs : cs.size = 18) (BB : Blk w0 w bb TB bc) (M : Team w0 w cs bs F x) (hk : k < 3) (ho : o = 6 * k) (hb : bs k = false) (f : q.Fit)
    (hTB : TW ∉ BTs) (hT : TW ∉ FTs) (hT1 : TW ≠ 47) (hne : TB ≠ TW) :
    Calls Tryz.prog 7 #[.pointer (some ⟨WB, o, none⟩), .agg q.cells] w fun e w' => e = .returned (.bool true) ∧ Two w0 w' b y s s N ∧ ∃ cs' F' x', Blk w0 w' WB TW cs' ∧ cs'.size = 18 ∧ Blk w0 w' bb TB bc ∧ Team w0 w' cs' (upd bs k true) F' x' := by
  subst ho
  refine (cBeg f B (by omega) hTB hT hT1).mono ?_
  rintro e w' ⟨rfl, K, cs', Fk, xk, Bw, sz, ot, W, new⟩
  have hOt : Oth [WB] w w' := Oth.kept K
  refine ⟨rfl, h.kept K fun j hj => by simp at hj; subst hj; exact ⟨B.old, _, _, _, B.hT, B.at_⟩, cs', upd F k Fk, upd x k xk, Bw, sz.trans hcs, BB.oth hOt (by simpa using BB.ne B hne), ?_, ?_, ?_⟩
  · intro j hj hbj
    by_cases e : j = k
    · subst e
      rw [upd_at, upd_at]
      exact W
    · rw [upd_ne _ _ e] at hbj
      rw [upd_ne _ _ e, upd_ne _ _ e]
      refine Wrk.cells (cs := cs) ?_ fun i h1 h2 => ot i (by omega)
      exact (M.it j hj hbj).oth hOt (fun q hq => by simpa using (M.foot j hj).ne B hT q hq) (fun q hq => by simp at hq; subst hq; exact ⟨_, _, _, B.at_, hTB⟩)
  · intro j hj hbj
    by_cases e : j = k
    · subst e
      rw [upd_at] at hbj
      cases hbj
    · rw [upd_ne _ _ e] at hbj
      rw [upd_ne _ _ e]
      exact M.no j hj hbj
  · intro i j hi hj hij q hq
    by_cases e : i = k
    · subst e
      rw [upd_at] at hq
      rw [upd_ne _ _ (Ne.symm hij)]
      intro hq'
      have h1 := new q hq
      have h2 := (M.foot j hj).lt q hq'
      omega
    · rw [upd_ne _ _ e] at hq
      by_cases e' : j = k
      · subst e'
        rw [upd_at]
        intro hq'
        have h1 := new q hq'
        have h2 := (M.foot i hi).lt q hq
        omega
      · rw [upd_ne _ _ e']
        exact M.apart i j hi hj hij q hq
/-- one of them steps -/
theorem tmStep {w0 w : World} {b y WB bb o k : Nat} {s : St} {N : Nat} {TW TB : TypeId} {cs bc : Array Value} {bs : Nat → Bool} {F : Nat → List Nat} {x : Nat → Sx} (h : Two w0 w b y s s N) (hs : s.ws.length = 160) (B : Blk w0 w WB TW cs) (hcs : cs.size = 18) (BB : Blk w0 w bb TB bc) (M : Team w0 w cs bs F x) (hk : k < 3) (ho : o = 6 * k) (hb : bs k = true)
    (hT : TW ∉ FTs) (hTB : TB ∉ FTs) (hN : N + 10 < 1000000) :
    Calls Tryz.prog 8 #[.pointer (some ⟨WB, o, none⟩), pt b, pt y] w fun e w' => ∃ dn : Bool, e = .returned (.tuple #[.bool dn, .bool true]) ∧ ∃ s', s'.ws.length = 160 ∧ Two w0 w' b y s' s' (N + 2) ∧ Blk w0 w' WB TW cs ∧ Blk w0 w' bb TB bc ∧ ∃ F' x', Team w0 w' cs (upd bs k (!dn)) F' x' := by
  subst ho
  have W := M.it k hk hb
  have ok : (x k).Ok := by
    rcases W with ⟨p, p', F', _, _, _, m, _⟩ | ⟨p, p', F', _, _, _, _, m, _⟩ | ⟨p, p', _, _, _, _, _, m, _⟩
    · exact m.ok
    · exact m.ok
    · exact m.ok
  refine (cWrk h B (by omega) W hT hN).mono ?_
  rintro e w' ⟨rfl, t, bl, ot, F2, W', fr⟩
  have hG := W.foot.at
  obtain ⟨dn, hdn⟩ : ∃ v, ((x k).next s).done = v := ⟨_, rfl⟩
  rw [hdn]
  refine ⟨dn, rfl, (x k).mem s, by rw [Sx.len ok]; exact hs, t, bl, BB.oth ot (fun hh => (W.foot.ne BB hTB _ hh) rfl), upd F k (if dn then [] else F2), upd x k ((x k).next s), ?_, ?_, ?_⟩
  · intro j hj hbj
    by_cases e : j = k
    · subst e
      rw [upd_at] at hbj
      rw [upd_at, upd_at]
      cases dn with
      | true => cases hbj
      | false => exact W'
    · rw [upd_ne _ _ e] at hbj
      rw [upd_ne _ _ e, upd_ne _ _ e]
      exact (M.it j hj hbj).oth ot (M.apart j k hj hk e) hG
  · intro j hj hbj
    by_cases e : j = k
    · subst e
      rw [upd_at] at hbj ⊢
      cases dn with
      | true => rfl
      | false => cases hbj
    · rw [upd_ne _ _ e] at hbj
      rw [upd_ne _ _ e]
      exact M.no j hj hbj
  · have key : ∀ q ∈ (if dn then [] else F2), ∀ j, j < 3 → j ≠ k → q ∉ F j := fun q hq j hj hjk hq' => by
      cases dn with
      | true => simp at hq
      | false =>
        rcases fr q hq with h1 | h1
        · exact M.apart k j hk hj (Ne.symm hjk) q h1 hq'
        · have := (M.foot j hj).lt q hq'
          omega
    intro i j hi hj hij q hq
    by_cases e : i = k
    · subst e
      rw [upd_at] at hq
      rw [upd_ne _ _ (Ne.symm hij)]
      exact key q hq j hj (Ne.symm hij)
    · rw [upd_ne _ _ e] at hq
      by_cases e' : j = k
      · subst e'
        rw [upd_at]
        intro hq'
        exact key q hq' i hi e hq
      · rw [upd_ne _ _ e']
        exact M.apart i j hi hj hij q hq
end Go.Proofs.YtgakmpfmckikgaaGreatDoor
