/-
  An object on its way; what a field of it has.
-/
import Derived.Test.YtpcoldpphihfmaaGreatDoorVu
import Derived.Test.YtpcoldpphihfmaaGreatDoorVr
import Derived.Test.YtpcoldpphihfmaaGreatDoorVl
import Derived.Test.YtpcoldpphihfmaaGreatDoorVco
namespace Go.Proofs.YtpcoldpphihfmaaGreatDoor
set_option linter.unusedVariables false
set_option linter.unusedSimpArgs false
set_option maxRecDepth 100000
open Go.ChangeShapes Go.WideShapes Go.RowKit
open H.Plain (hw pS pC pN pM pG pT pL mv)

theorem CameV.min {w : World} {ao : Option Addr} {ll m : Nat} {z : Nat → Vl} (h : CameV w ao ll z) (hm : m ≤ ll) : CameV w ao m z := by
  rcases h with h | ⟨b, off, e, hb, hz⟩
  · exact .inl (by omega)
  · exact .inr ⟨b, off, e, hb, fun j hj => hz j (by omega)⟩
/-- the statuses of an object on its way -/
def goSt (cl : Bool) : Int := if cl then 2 else 0
theorem open_vals2 {H : Type} {enc : TypeId × Value → H} {w : World} {base : Nat} {held : Bool} {r : Reach} {b0 : Nat} {v : Value} {d : DataW H} {p : List MemPlace} (hv : Value.okWide Tryz.prog w r b0 23 v) (h : DataW.Trod enc Tryz.prog w base (fun _ => true) held 23 v d p) : ∃ ao len cap z, v = .slice ao len cap ∧ len ≤ cap ∧ cap ≤ maxLen ∧ CameV w ao len z := by
  obtain ⟨a0, len, cap, rfl⟩ := okWide_slice Tryz.underlying23 hv
  obtain ⟨fuel, hf⟩ := h
  have hf' : DataW.trod enc Tryz.prog w base (fun _ => true) held fuel 23 [.slice a0 len cap] = some (d, p) := by simpa [Value.cells] using hf
  obtain ⟨ao, l', c', z, e, hz⟩ := vals_cell hf'
  cases e
  rcases Deep.open_slice Tryz.underlying23 hf' with ⟨hcs, hx⟩ | ⟨a, len', cap', m, n, D, Pl, hcs, _, hl, hc, hm, hx, hall⟩
  · simp at hcs
    obtain ⟨rfl, rfl, rfl⟩ := hcs
    exact ⟨_, _, _, z, rfl, Nat.le_refl _, by unfold maxLen; omega, hz⟩
  · simp at hcs
    obtain ⟨rfl, rfl, rfl⟩ := hcs
    exact ⟨_, _, _, z, rfl, hl, hc, hz⟩
set_option maxHeartbeats 2000000 in
theorem cGoing {ao : Option Addr} {ll cap : Nat} (w : World) (hc : ll ≤ cap) (hc2 : cap ≤ maxLen) (cl : Bool) :
    Calls Tryz.prog 27 #[.slice ao ll cap, .bool cl] w fun e w' => ∃ ap lp cp zp, e = .returned (.tuple #[.agg #[.int .i64 3, .slice ap lp cp, .slice ao (min ll 3) cap], .agg #[.int .i64 (if cl then 7 else 6), .int .i64 0, .int .i64 0]]) ∧ CameI w' ap lp zp ∧ (∀ k, k < 3 → stP lp zp k = goSt cl) ∧ Below w.heap.size w w' := by
  obtain ⟨m, hm'⟩ : ∃ m, min ll 3 = m := ⟨_, rfl⟩
  rw [hm']
  have hm : Hid (min ll 3 = m) := hm'
  clear hm'
  have a1 : Below w.heap.size w (w.alloc (.cells #[.int .i64 0, .slice none 0 0, .slice none 0 0] 25)) := (Below.refl _ _).alloc (Nat.le_refl _) _
  have R1 : Blk w (w.alloc (.cells #[.int .i64 0, .slice none 0 0, .slice none 0 0] 25)) w.heap.size 25 #[.int .i64 0, .slice none 0 0, .slice none 0 0] := Blk.new (Nat.le_refl _) _ (by decide)
  have a2 : Below (w.alloc (.cells #[.int .i64 0, .slice none 0 0, .slice none 0 0] 25)).heap.size (w.alloc (.cells #[.int .i64 0, .slice none 0 0, .slice none 0 0] 25)) ((w.alloc (.cells #[.int .i64 0, .slice none 0 0, .slice none 0 0] 25)).alloc (.cells #[.int .i64 0, .int .i64 0, .int .i64 0] 51)) := (Below.refl _ _).alloc (Nat.le_refl _) _
  have E2 : Blk w ((w.alloc (.cells #[.int .i64 0, .slice none 0 0, .slice none 0 0] 25)).alloc (.cells #[.int .i64 0, .int .i64 0, .int .i64 0] 51)) (w.alloc (.cells #[.int .i64 0, .slice none 0 0, .slice none 0 0] 25)).heap.size 51 #[.int .i64 0, .int .i64 0, .int .i64 0] := Blk.new a1.size _ (by decide)
  have R2 := R1.below a2
  have b2 := a1.trans (a2.mono a1.size)
  refine viaQ fun Q k => ?_
  go_enter Tryz.func27, Tryz.ntmps27
  go_upto_region 1 with (fail)
  obtain ⟨rb, hrb⟩ : ∃ q, w.heap.size = q := ⟨_, rfl⟩
  obtain ⟨eb, heb⟩ : ∃ q, w.heap.size + 1 = q := ⟨_, rfl⟩
  rw [show (w.alloc (.cells #[.int .i64 0, .slice none 0 0, .slice none 0 0] 25)).heap.size = w.heap.size + 1 by simp, heb] at E2
  rw [hrb] at R2
  rw [heb, hrb]
  generalize (w.alloc (.cells #[.int .i64 0, .slice none 0 0, .slice none 0 0] 25)).alloc (.cells #[.int .i64 0, .int .i64 0, .int .i64 0] 51) = w2 at E2 R2 b2 ⊢
  clear a1 R1 a2
  have a3 : Below w2.heap.size w2 (w2.alloc (.cells #[.int .i64 3, .slice none 0 0, .slice ao ll cap] 25)) := (Below.refl _ _).alloc (Nat.le_refl _) _
  have X3 : Blk w (w2.alloc (.cells #[.int .i64 3, .slice none 0 0, .slice ao ll cap] 25)) w2.heap.size 25 #[.int .i64 3, .slice none 0 0, .slice ao ll cap] := Blk.new b2.size _ (by decide)
  have R3 := R2.below a3
  have E3 := E2.below a3
  have b3 := b2.trans (a3.mono b2.size)
  have nrx0 : rb ≠ w2.heap.size := by have := R2.lt; omega
  go_upto_region 2 with (fail)
  generalize w2.alloc (.cells #[.int .i64 3, .slice none 0 0, .slice ao ll cap] 25) = w3 at X3 R3 E3 b3 ⊢
  generalize w2.heap.size = xb at X3 nrx0 ⊢
  clear a3 R2 E2 b2
  have x2 : w3.cell? ⟨xb, 2, none⟩ = some (.slice ao ll cap) := X3.cell 2
  have xf2 := X3.free 2
  have xl := X3.lt
  by_cases hl : 3 < ll
  case' pos =>
    have t1 : decide ((3 : Int) < (ll : Int)) = true := by simp; omega
    have h3 : Hid (m = 3) := (by have := hm.out; omega : m = 3)
    go_upto_region 4 with (fail)
    have K4 : Kept [xb] w3 (w3.setCell ⟨xb, 2, none⟩ (.slice ao 3 cap)) := Kept.one ..
    have X4 : Blk w (w3.setCell ⟨xb, 2, none⟩ (.slice ao 3 cap)) xb 25 #[.int .i64 3, .slice none 0 0, .slice ao m cap] := h3.out ▸ X3.set 2 _
    have R4 := R3.oth (Oth.kept K4) (by simpa using nrx0)
    have E4 := E3.oth (Oth.kept K4) (by simpa using E3.ne X3 (by decide))
    have b4 := b3.trans (K4.below (fun j hj => by simp at hj; subst hj; exact X3.old) b3.size)
    clear x2 xf2 xl X3 R3 E3 b3 K4 t1
    generalize w3.setCell ⟨xb, 2, none⟩ (.slice ao 3 cap) = w4 at X4 R4 E4 b4 ⊢
  case' neg =>
    have t1 : decide ((3 : Int) < (ll : Int)) = false := by simp; omega
    have h3 : Hid (m = ll) := (by have := hm.out; omega : m = ll)
    go_upto_region 4 with (fail)
    have X4 : Blk w w3 xb 25 #[.int .i64 3, .slice none 0 0, .slice ao m cap] := h3.out ▸ X3
    have R4 := R3
    have E4 := E3
    have b4 := b3
    clear x2 xf2 xl X3 R3 E3 b3 t1
    obtain ⟨w4, hw4⟩ : ∃ q, w3 = q := ⟨_, rfl⟩
    rw [hw4] at X4 R4 E4 b4 ⊢
    clear hw4
  all_goals (
    rcases cl with _ | _
    · obtain ⟨w6, hw6⟩ : ∃ q, w4 = q := ⟨_, rfl⟩
      rw [hw6] at X4 R4 E4 b4 ⊢
      clear hw6
      have X6 := X4
      have R6 := R4
      have E6 := E4
      have b6 := b4
      have x0 : w6.cell? ⟨xb, 0, none⟩ = some (.int .i64 3) := X6.cell 0
      have x1 : w6.cell? ⟨xb, 1, none⟩ = some (.slice none 0 0) := X6.cell 1
      have x2 : w6.cell? ⟨xb, 2, none⟩ = some (.slice ao m cap) := X6.cell 2
      have xl := X6.lt
      have r0 : w6.cell? ⟨rb, 0, none⟩ = some (.int .i64 0) := R6.cell 0
      have r1 : w6.cell? ⟨rb, 1, none⟩ = some (.slice none 0 0) := R6.cell 1
      have r2 : w6.cell? ⟨rb, 2, none⟩ = some (.slice none 0 0) := R6.cell 2
      have e0 : w6.cell? ⟨eb, 0, none⟩ = some (.int .i64 0) := E6.cell 0
      have e1 : w6.cell? ⟨eb, 1, none⟩ = some (.int .i64 0) := E6.cell 1
      have e2 : w6.cell? ⟨eb, 2, none⟩ = some (.int .i64 0) := E6.cell 2
      have rf0 := R6.free 0
      have rf1 := R6.free 1
      have rf2 := R6.free 2
      have ef0 := E6.free 0
      have ef1 := E6.free 1
      have ef2 := E6.free 2
      have nre : rb ≠ eb := R6.ne E6 (by decide)
      have nrx : rb ≠ xb := nrx0
      have nex : eb ≠ xb := (E6.ne X6 (by decide))
      go_wp2
      have RR := (((R6.set 0 (.int .i64 3)).set 1 (.slice none 0 0)).set 2 (.slice ao m cap))
      have KR : Kept [rb] w6 (((w6.setCell ⟨rb, 0, none⟩ (.int .i64 3)).setCell ⟨rb, 1, none⟩ (.slice none 0 0)).setCell ⟨rb, 2, none⟩ (.slice ao m cap)) := ((Kept.one ..).tr (Kept.one ..)).tr (Kept.one ..)
      have EE := (((E6.oth (Oth.kept KR) (by simpa using nre.symm)).set 0 (.int .i64 6)).set 1 (.int .i64 0)).set 2 (.int .i64 0)
      have KE : Kept [eb] (((w6.setCell ⟨rb, 0, none⟩ (.int .i64 3)).setCell ⟨rb, 1, none⟩ (.slice none 0 0)).setCell ⟨rb, 2, none⟩ (.slice ao m cap)) ((((((w6.setCell ⟨rb, 0, none⟩ (.int .i64 3)).setCell ⟨rb, 1, none⟩ (.slice none 0 0)).setCell ⟨rb, 2, none⟩ (.slice ao m cap)).setCell ⟨eb, 0, none⟩ (.int .i64 6)).setCell ⟨eb, 1, none⟩ (.int .i64 0)).setCell ⟨eb, 2, none⟩ (.int .i64 0)) := ((Kept.one ..).tr (Kept.one ..)).tr (Kept.one ..)
      have RZ := RR.oth (Oth.kept KE) (by simpa using nre)
      have u0 := RZ.cell 0
      have u1 := RZ.cell 1
      have u2 := RZ.cell 2
      have v0 := EE.cell 0
      have v1 := EE.cell 1
      have v2 := EE.cell 2
      simp at u0 u1 u2 v0 v1 v2
      have bb := (b6.trans (KR.below (fun j hj => by simp at hj; subst hj; exact R6.old) b6.size))
      have bz := bb.trans (KE.below (fun j hj => by simp at hj; subst hj; exact E6.old) bb.size)
      exact bodyPost_ret (v := .tuple #[.agg #[.int .i64 3, .slice none 0 0, .slice ao m cap], .agg #[.int .i64 6, .int .i64 0, .int .i64 0]]) (by simp [results, Tryz.results27, go_sem, u0, u1, u2, v0, v1, v2]) rfl (k.out _ _ ⟨_, _, _, fun _ => 0, rfl, .inl rfl, (fun k hk => by unfold stP goSt; rw [if_neg (by omega)]; rfl), bz⟩)
    · have y1 : w4.cell? ⟨xb, 1, none⟩ = some (.slice none 0 0) := X4.cell 1
      have yf1 := X4.free 1
      have yl := X4.lt
      go_upto_region 6 with (fail)
      obtain ⟨nb, hnb⟩ : ∃ q, w4.heap.size = q := ⟨_, rfl⟩
      rw [hnb]
      have K5 : Kept [xb] w4 (w4.setCell ⟨xb, 1, none⟩ (.slice (some ⟨nb, 0, none⟩) 3 3)) := Kept.one ..
      have X5 := X4.set 1 (.slice (some ⟨nb, 0, none⟩) 3 3)
      have R5 := R4.oth (Oth.kept K5) (by simpa using nrx0)
      have E5 := E4.oth (Oth.kept K5) (by simpa using E4.ne X4 (by decide))
      have b5 := b4.trans (K5.below (fun j hj => by simp at hj; subst hj; exact X4.old) b4.size)
      have hnb5 : (w4.setCell ⟨xb, 1, none⟩ (.slice (some ⟨nb, 0, none⟩) 3 3)).heap.size = nb := by rw [← hnb]; simp
      clear y1 yf1 yl X4 R4 E4 b4 K5
      generalize w4.setCell ⟨xb, 1, none⟩ (.slice (some ⟨nb, 0, none⟩) 3 3) = w5 at X5 R5 E5 b5 hnb5 ⊢
      have a6 : Below w5.heap.size w5 (w5.alloc (.cells #[.int .i64 2, .int .i64 2, .int .i64 2] 3)) := (Below.refl _ _).alloc (Nat.le_refl _) _
      have N6 : Blk w (w5.alloc (.cells #[.int .i64 2, .int .i64 2, .int .i64 2] 3)) nb 3 #[.int .i64 2, .int .i64 2, .int .i64 2] := hnb5 ▸ Blk.new b5.size _ (by decide)
      have X6 := X5.below a6
      have R6 := R5.below a6
      have E6 := E5.below a6
      have b6 := b5.trans (a6.mono b5.size)
      clear X5 R5 E5 b5 a6 hnb5 hnb
      generalize w5.alloc (.cells #[.int .i64 2, .int .i64 2, .int .i64 2] 3) = w6 at X6 R6 E6 N6 b6 ⊢
      have x0 : w6.cell? ⟨xb, 0, none⟩ = some (.int .i64 3) := X6.cell 0
      have x1 : w6.cell? ⟨xb, 1, none⟩ = some (.slice (some ⟨nb, 0, none⟩) 3 3) := X6.cell 1
      have x2 : w6.cell? ⟨xb, 2, none⟩ = some (.slice ao m cap) := X6.cell 2
      have xl := X6.lt
      have r0 : w6.cell? ⟨rb, 0, none⟩ = some (.int .i64 0) := R6.cell 0
      have r1 : w6.cell? ⟨rb, 1, none⟩ = some (.slice none 0 0) := R6.cell 1
      have r2 : w6.cell? ⟨rb, 2, none⟩ = some (.slice none 0 0) := R6.cell 2
      have e0 : w6.cell? ⟨eb, 0, none⟩ = some (.int .i64 0) := E6.cell 0
      have e1 : w6.cell? ⟨eb, 1, none⟩ = some (.int .i64 0) := E6.cell 1
      have e2 : w6.cell? ⟨eb, 2, none⟩ = some (.int .i64 0) := E6.cell 2
      have rf0 := R6.free 0
      have rf1 := R6.free 1
      have rf2 := R6.free 2
      have ef0 := E6.free 0
      have ef1 := E6.free 1
      have ef2 := E6.free 2
      have nre : rb ≠ eb := R6.ne E6 (by decide)
      have nrx : rb ≠ xb := nrx0
      have nex : eb ≠ xb := (E6.ne X6 (by decide))
      go_wp2
      have RR := (((R6.set 0 (.int .i64 3)).set 1 (.slice (some ⟨nb, 0, none⟩) 3 3)).set 2 (.slice ao m cap))
      have KR : Kept [rb] w6 (((w6.setCell ⟨rb, 0, none⟩ (.int .i64 3)).setCell ⟨rb, 1, none⟩ (.slice (some ⟨nb, 0, none⟩) 3 3)).setCell ⟨rb, 2, none⟩ (.slice ao m cap)) := ((Kept.one ..).tr (Kept.one ..)).tr (Kept.one ..)
      have EE := (((E6.oth (Oth.kept KR) (by simpa using nre.symm)).set 0 (.int .i64 7)).set 1 (.int .i64 0)).set 2 (.int .i64 0)
      have KE : Kept [eb] (((w6.setCell ⟨rb, 0, none⟩ (.int .i64 3)).setCell ⟨rb, 1, none⟩ (.slice (some ⟨nb, 0, none⟩) 3 3)).setCell ⟨rb, 2, none⟩ (.slice ao m cap)) ((((((w6.setCell ⟨rb, 0, none⟩ (.int .i64 3)).setCell ⟨rb, 1, none⟩ (.slice (some ⟨nb, 0, none⟩) 3 3)).setCell ⟨rb, 2, none⟩ (.slice ao m cap)).setCell ⟨eb, 0, none⟩ (.int .i64 7)).setCell ⟨eb, 1, none⟩ (.int .i64 0)).setCell ⟨eb, 2, none⟩ (.int .i64 0)) := ((Kept.one ..).tr (Kept.one ..)).tr (Kept.one ..)
      have RZ := RR.oth (Oth.kept KE) (by simpa using nre)
      have u0 := RZ.cell 0
      have u1 := RZ.cell 1
      have u2 := RZ.cell 2
      have v0 := EE.cell 0
      have v1 := EE.cell 1
      have v2 := EE.cell 2
      simp at u0 u1 u2 v0 v1 v2
      have nnr : nb ≠ rb := (N6.ne R6 (by decide))
      have nne : nb ≠ eb := (N6.ne E6 (by decide))
      have NZ := (N6.oth (Oth.kept KR) (by simpa using nnr)).oth (Oth.kept KE) (by simpa using nne)
      have NN : ∀ j, j < 3 → ((((((w6.setCell ⟨rb, 0, none⟩ (.int .i64 3)).setCell ⟨rb, 1, none⟩ (.slice (some ⟨nb, 0, none⟩) 3 3)).setCell ⟨rb, 2, none⟩ (.slice ao m cap)).setCell ⟨eb, 0, none⟩ (.int .i64 7)).setCell ⟨eb, 1, none⟩ (.int .i64 0)).setCell ⟨eb, 2, none⟩ (.int .i64 0)).cell? ⟨nb, 0 + j, none⟩ = some (.int .i64 2) := fun j hj => (by rcases (show j = 0 ∨ j = 1 ∨ j = 2 by omega) with rfl | rfl | rfl; exact NZ.cell 0; exact NZ.cell 1; exact NZ.cell 2)
      have bb := (b6.trans (KR.below (fun j hj => by simp at hj; subst hj; exact R6.old) b6.size))
      have bz := bb.trans (KE.below (fun j hj => by simp at hj; subst hj; exact E6.old) bb.size)
      exact bodyPost_ret (v := .tuple #[.agg #[.int .i64 3, .slice (some ⟨nb, 0, none⟩) 3 3, .slice ao m cap], .agg #[.int .i64 7, .int .i64 0, .int .i64 0]]) (by simp [results, Tryz.results27, go_sem, u0, u1, u2, v0, v1, v2]) rfl (k.out _ _ ⟨_, _, _, fun _ => 2, rfl, .inr ⟨nb, 0, rfl, Nat.lt_of_lt_of_le N6.lt (Nat.le_trans KR.size KE.size), fun j hj => ⟨NN j hj, (show (-9223372036854775808 : Int) ≤ 2 by decide), (show (2 : Int) ≤ 9223372036854775807 by decide)⟩⟩, (fun k hk => by show (if k < 3 then kd 2 5 else 0) = _; rw [if_pos (by omega)]; decide), bz⟩)
  )
set_option maxHeartbeats 2000000 in
theorem cNow {ow : Bool} {w0 w : World} {b y k : Nat} {s1 s2 : St} {N : Nat} {v : Nat → Vl} (h : TwoT ow w0 w b y s1 s2 N) (Bw : Bh w0) (A : ∃ g, Ob s1 g v) (hk : k < 3) (hN : N + 100 < 1000000) :
    Calls Tryz.prog 31 #[pt b, .int .i64 k] w fun e w' => e = .returned (.agg #[.int .i64 (v k).k, .int .i64 (v k).n]) ∧ ∃ s', TwoT ow w0 w' b y s' s2 (N + 20) ∧ (∃ g, Ob s' g v) ∧ Oth [] w w' := by
  obtain ⟨g0, O⟩ := A
  obtain ⟨bt, s', e20, A'⟩ := read_runs (abt_R hk true) rfl O
  obtain ⟨u, hv⟩ : ∃ u, v k = u := ⟨_, rfl⟩
  rw [hv] at e20 ⊢
  have ok := ok_R hk true false
  have hs0 := h.bel.size
  have a1 : Below w.heap.size w (w.alloc (.cells #[.int .i64 0, .int .i64 0] 38)) := (Below.refl _ _).alloc (Nat.le_refl _) _
  have h1 := h.below a1
  have V1 : Blk w0 (w.alloc (.cells #[.int .i64 0, .int .i64 0] 38)) w.heap.size 38 #[.int .i64 0, .int .i64 0] := Blk.new hs0 _ (by decide)
  have o1 : Oth [w.heap.size] w (w.alloc (.cells #[.int .i64 0, .int .i64 0] 38)) := Oth.below a1
  go_enter Tryz.func31, Tryz.ntmps31
  go_upto_region 1 with (fail)
  obtain ⟨vb, hvb⟩ : ∃ vb, w.heap.size = vb := ⟨_, rfl⟩
  rw [hvb] at V1 o1 ⊢
  generalize w.alloc (.cells #[.int .i64 0, .int .i64 0] 38) = w1 at h1 V1 o1 ⊢
  clear a1
  have enew : Cw.new (rqR k) ⟨6, 0, 0⟩ = .hd ⟨rqR k, true, false⟩ := by simp [Cw.new, rqR]
  go_wp2_with (go_at_call 15; refine (cNewC (rqR k) ⟨6, 0, 0⟩ _).mono ?_; rintro e w2 ⟨p, rfl, M⟩; rw [enew] at M; have h2 := h1.below M.bel; have m2 : Cm w0 w2 p (.hd ⟨rqR k, true, false⟩) := M.cm h1.bel.size ok Bw; have V2 := V1.below M.bel; have o2 := o1.trans (Oth.below M.bel); have hp : w.heap.size ≤ p := (by have := M.new; have := V1.lt; omega); clear M)
  go_loopw [6] (fun i wr => ∃ j : Nat, j ≤ 20 ∧ i = .int .i64 j ∧ TwoT ow w0 wr b y (runC (.hd ⟨rqR k, true, false⟩) s1 j).2 s2 (N + j) ∧ Cm w0 wr p (runC (.hd ⟨rqR k, true, false⟩) s1 j).1 ∧ Blk w0 wr vb 38 #[.int .i64 0, .int .i64 0] ∧ Oth [p, vb] w wr) (fun i _ => 20 - (intOf i).toNat)
  case atStart => exact ⟨0, Nat.zero_le _, rfl, h2, m2, V2, o2.mono (by simp)⟩
  case round =>
    obtain ⟨j, hj, rfl, k1, k2, k3, k4⟩ := hrel
    by_cases hj2 : j < 20
    case pos =>
      have hji : (j : Int) < 20 := by omega
      obtain ⟨X, hX⟩ : ∃ X, (runC (.hd ⟨rqR k, true, false⟩) s1 j).1 = X := ⟨_, rfl⟩
      obtain ⟨SX, hSX⟩ : ∃ X, (runC (.hd ⟨rqR k, true, false⟩) s1 j).2 = X := ⟨_, rfl⟩
      rw [hX] at k2
      rw [hSX] at k1
      obtain ⟨cx, Bx'⟩ := k2.blk
      go_wp2_with (go_at_call 19; refine (tC k1 k2 (by omega)).mono ?_; rintro e w6 ⟨rfl, k5, k6, o6⟩; have k7 := k3.oth o6 (by simpa using k3.ne Bx' (by decide)); have k8 := k4.trans (o6.mono (by simp)))
      go_roundw
      case rel => exact ⟨j + 1, by omega, by go_num, by simp only [runC, hX, hSX]; exact k5, by simp only [runC, hX, hSX]; exact k6, k7, k8⟩
      case measure => simp [intOf]; omega
    case neg =>
      obtain rfl : j = 20 := by omega
      rw [e20] at k1 k2
      have f1 := fOut1
      go_wp2_with (go_at_call 22; refine (cCResult k2).mono ?_; rintro e w7 ⟨rfl, hb7⟩; simp only [Cw.o, Ou.val]; have k5 := k1.below hb7; have k6 := k3.below hb7; have k7 := k4.trans (Oth.below hb7); have v0 : w7.cell? ⟨vb, 0, none⟩ = some (.int .i64 0) := k6.cell 0; have v1 : w7.cell? ⟨vb, 1, none⟩ = some (.int .i64 0) := k6.cell 1; have g0 := k6.free 0; have g1 := k6.free 1)
      have K : Kept [vb] w7 ((w7.setCell ⟨vb, 0, none⟩ (.int .i64 u.k)).setCell ⟨vb, 1, none⟩ (.int .i64 u.n)) := (Kept.one ..).tr (Kept.one ..)
      have u0 : (w7.setCell ⟨vb, 0, none⟩ (.int .i64 u.k)).cell? ⟨vb, 0, none⟩ = some (.int .i64 u.k) := (k6.set 0 (.int .i64 u.k)).cell 0
      have u1 : ((w7.setCell ⟨vb, 0, none⟩ (.int .i64 u.k)).setCell ⟨vb, 1, none⟩ (.int .i64 u.n)).cell? ⟨vb, 1, none⟩ = some (.int .i64 u.n) := ((k6.set 0 (.int .i64 u.k)).set 1 (.int .i64 u.n)).cell 1
      exact bodyPost_ret (v := .agg #[.int .i64 u.k, .int .i64 u.n]) (by simp [results, Tryz.results31, go_sem, u0, u1]) rfl ⟨rfl, s', to_twoB k5 K k6, A', (((k7.trans ((Oth.kept K).mono (by simp))).drop hp).drop (by omega))⟩
end Go.Proofs.YtpcoldpphihfmaaGreatDoor
