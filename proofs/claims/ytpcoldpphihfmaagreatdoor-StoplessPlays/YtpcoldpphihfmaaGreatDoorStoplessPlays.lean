import Derived.Test.YtpcoldpphihfmaaGreatDoorCards
import Derived.Test.YtpcoldpphihfmaaGreatDoorTie
import Derived.Test.YtpcoldpphihfmaaGreatDoorW6
import Derived.Test.YtpcoldpphihfmaaGreatDoorVco
import Derived.Test.YtpcoldpphihfmaaGreatDoorVu
import Derived.Test.YtpcoldpphihfmaaGreatDoorVr
import Derived.Test.YtpcoldpphihfmaaGreatDoorVl
import Derived.Test.YtpcoldpphihfmaaGreatDoorYc
import Derived.SevenTiedAt
namespace Go.Proofs.YtpcoldpphihfmaaGreatDoor.stoplessPlays
open Go.ChangeShapes Go.WideShapes Go.ChangeAt Go.RowKit Go.Joins
set_option linter.unusedVariables false
set_option maxRecDepth 100000 in
theorem lifted (os : Os) (started : os.Started) (H : Type) (enc : TypeId × Value → H) :
  ReturnsInHanded {} Tryz.checked os 3 .any (fun w args => (Rows.stoplessPlaysSpec.pre enc Tryz.prog Tryz.f3 [] false w args ∧ laidMetH Tryz.prog Rows.stoplessPlaysRow.laid w) ∧ sizedMet enc Tryz.prog Tryz.f3 (OpenSpec.ofChange Rows.stoplessPlaysSpec) false w args)
   (Rows.stoplessPlaysSpec.post enc Tryz.prog Tryz.f3 false true false false) := by
 refine returnsInHanded_of_change_and (C := Tryz.checked) (X := fun w _ => laidMetH Tryz.prog Rows.stoplessPlaysRow.laid w) (fun _ _ _ hh h => h.of_heap hh) own started (by kernel_rfl) Tryz.func3
  (ChangeSpec.witness_shaped (enc := enc) (C := Tryz.checked) (os := os) (X := fun w _ => laidMetH Tryz.prog Rows.stoplessPlaysRow.laid w) false (World.doorLaid Tryz.prog 14 os) #[.agg #[.int .i64 0, .slice none 0 0, .slice none 0 0], .slice none 0 0, .slice none 0 0] 8 rfl (World.shaped_of_RefB (by kernel_rfl) (by kernel_rfl)) (by kernel_rfl) (by kernel_rfl) (by kernel_rfl) (door_met os _)) ?_
 intro W base args ds gs before hval0 hW _ _ hL _
 have hval : ∀ (j : Nat) t v, Tryz.f3.params[j]? = some t → args[j]? = some v → Value.okWide Tryz.prog W .any base t v := hval0
 have hW' := hW
 obtain ⟨p, q, hA0, hV, rfl, hfz, hnd⟩ := hW
 have hA : DataW.TrodAll enc Tryz.prog W 0 (fun _ => true) true Tryz.f3.params.toList args.toList ds p := hA0
 rw [Tryz.params3] at hA hval
 obtain ⟨v0, vs0, d0, ds0, p0, q0, hargs, rfl, rfl, h0, r0⟩ := trodAll_cons hA
 obtain ⟨v1, vs1, d1, ds1, p1, q1, rfl, rfl, rfl, h1, r1⟩ := trodAll_cons r0
 obtain ⟨v2, vs2, d2, ds2, p2, q2, rfl, rfl, rfl, h2, r2⟩ := trodAll_cons r1
 obtain ⟨rfl, rfl, rfl⟩ := trodAll_nil r2
 obtain rfl : args = #[v0, v1, v2] := by cases args; simp_all
 obtain ⟨rfl, rfl⟩ := trodVars_none hV
 have c0 := h0
 have lt0 : ∀ x ∈ p0, x.block < W.heap.size := by obtain ⟨m, hm⟩ := c0; exact DataW.trod_lt m _ _ _ hm
 obtain ⟨a0, ao0, len0, cap0, z0, ap0, lep0, cp0, zp0, rfl, w0, came0, camp0⟩ := open_begin (hval 0 25 v0 rfl rfl) h0
 have c1 := h1
 have lt1 : ∀ x ∈ p1, x.block < W.heap.size := by obtain ⟨m, hm⟩ := c1; exact DataW.trod_lt m _ _ _ hm
 obtain ⟨ao1, len1, cap1, z1, rfl, came1⟩ := open_ops (hval 1 26 v1 rfl rfl) h1
 have c2 := h2
 have lt2 : ∀ x ∈ p2, x.block < W.heap.size := by obtain ⟨m, hm⟩ := c2; exact DataW.trod_lt m _ _ _ hm
 obtain ⟨ao2, len2, cap2, z2, rfl, came2⟩ := open_slice (hval 2 22 v2 rfl rfl) h2 lt2
 have hWid := of_laid hL
 clear hA0 hval0
 refine (wStoplessPlays a0 ao0 len0 cap0 z0 ap0 lep0 cp0 zp0 ao1 len1 cap1 z1 ao2 len2 cap2 z2 w0.1 w0.2 W hWid came0 camp0 came1 came2).mono fun e W' ⟨he, bel⟩ => ?_
 subst he
 exact ⟨_, rfl, _, _, _, [], _, [], hW', trodAll_mk1 (shut_bool Tryz.underlying4 _), (trodAll_cons_mk (Below.trod laidOut (by kernel_rfl) (of_decide_eq_true (by kernel_rfl)) c0 bel lt0) (trodAll_cons_mk (Below.trod laidOut (by kernel_rfl) (of_decide_eq_true (by kernel_rfl)) c1 bel lt1) (trodAll_cons_mk (Below.trod laidOut (by kernel_rfl) (of_decide_eq_true (by kernel_rfl)) c2 bel lt2) trodAll_mk0))), rfl, bel.frame _, fun h => by cases h⟩
theorem over : Rows.StoplessPlaysSaid :=
 OpenClaim.holds_of_wide 3 Tryz.f3 rfl rfl rfl rfl rfl rfl rfl ⟨rfl, rfl, rfl, rfl, rfl⟩ rfl rfl rfl rfl rfl (by kernel_rfl) Tryz.func3 (by kernel_rfl)
  (of_decide_eq_true (by kernel_rfl)) (by unfold Func.isWrapper; first | (rw [if_pos (by decide +kernel)]; kernel_rfl) | (rw [if_neg (by decide +kernel)]; exact ⟨rfl, rfl⟩))
  (fun os started H enc _ => lifted os started H enc)
end Go.Proofs.YtpcoldpphihfmaaGreatDoor.stoplessPlays
namespace Go.Proofs.YtpcoldpphihfmaaGreatDoor
open Go
theorem stoplessPlays_card : Rows.StoplessPlaysCardSaid :=
 Claim7.holds_tied_plain_at .later [] [.data, .data] true (true, "011e661a89becc3f350ca707c150ebc6cc157c6bab990aba02c370f3b28de82e") false
  stoplessPlays.over (fun _ h => by cases h) (by kernel_rfl) (fun _ h => by cases h) stoplessPlays_row_tie rfl ⟨rfl, rfl⟩ (by kernel_rfl) rfl
  (fun f fn hf hfn => by
   obtain rfl : f = 3 := Option.some.inj ((show Tryz.prog.funcNamed "flit/flitlaw15.StoplessPlays" = some 3 by kernel_rfl).symm.trans hf) |>.symm
   obtain rfl : fn = Tryz.f3 := (Option.some.inj (Tryz.func3.symm.trans hfn)).symm
   exact ⟨by kernel_rfl, fun j t ht => by
    rw [Tryz.params3] at ht
    have hm : t ∈ [25, 26, 22] := by simpa using Array.mem_of_getElem? ht
    have hall : ([25, 26, 22].all fun u => !Tryz.prog.wantsStandIn u) = true := by kernel_rfl
    exact (show Tryz.prog.wantsStandIn t = false by simpa using List.all_eq_true.1 hall t hm)⟩)
  (by kernel_rfl)
#print axioms stoplessPlays_card
end Go.Proofs.YtpcoldpphihfmaaGreatDoor
