/-
  A list of numbers that came in, opened.
-/
import Derived.WalkKit
import Derived.ProofKit
import Derived.Laws.BitsAllLaws
import Derived.Test.YtoablodmodnamaaDoorRows
import Derived.OpenShut
import Derived.Below
import Derived.WalkSpells
import Derived.WalkLawsBesides
import Derived.Outline
import Derived.BigQuiet
import Derived.Deep.QuietTactic
import Derived.Test.YtoablodmodnamaaDoorHCallsq
import Derived.Test.YtoablodmodnamaaDoorTie
import Derived.Lib.SmallJoins
import Derived.LaidMore
import Derived.Carry
import Derived.ChangeOld
import Derived.Deep.Slices
namespace Go.Proofs.YtoablodmodnamaaDoor.F.Plain
open Go.RowKit
/-- the word of a kind and a number -/
def word (k n : Int) : Int := k % 4 + 8 * (n % 2305843009213693952)
/-- the kind of a word -/
def kind (a : Int) : Int := a % 4
/-- the number of a word -/
def num (a : Int) : Int := a / 8
/-- whether a word is frozen -/
def froz (a : Int) : Bool := a / 4 % 2 == 1
/-- the word, frozen -/
def fz (a : Int) : Int := 8 * (a / 8) + 4 + a % 4
/-- the word, thawed -/
def th (a : Int) : Int := 8 * (a / 8) + a % 4

theorem wrap_u64 (n : Int) : IntKind.u64.wrap n = n % 18446744073709551616 := IntKind.wrap_u64 n
theorem wrap_nonneg (n : Int) : 0 ≤ IntKind.u64.wrap n := by rw [wrap_u64]; omega

theorem and3 {a : Int} (h : 0 ≤ a) (h' : a < 18446744073709551616) : bits .and .u64 a 3 = a % 4 := by
  rw [u64_and a 3 h h' (by decide) (by decide)]
  rw [show (3 : Int).toNat = 3 from rfl, nat_mask2]
  omega
theorem and4 {a : Int} (h : 0 ≤ a) (h' : a < 18446744073709551616) : bits .and .u64 a 4 = a / 4 % 2 * 4 := by
  rw [u64_and a 4 h h' (by decide) (by decide)]
  have := nat_bit 2 a.toNat
  rw [show (4 : Int).toNat = 2 ^ 2 from rfl, this]
  omega
theorem or_low {x y : Int} (hx : 0 ≤ x) (hx' : x < 8) (hy : 0 ≤ y) (hy' : y < 18446744073709551616) (h8 : y % 8 = 0) : bits .or .u64 x y = x + y := by
  rw [u64_or x y hx (by omega) hy hy', Nat.or_comm, nat_join 3 y.toNat x.toNat (by omega) (by omega)]
  omega
theorem or4 {a : Int} (h : 0 ≤ a) (h' : a < 18446744073709551616) : bits .or .u64 a 4 = fz a := by
  rw [u64_or a 4 h h' (by decide) (by decide)]
  rw [show (4 : Int).toNat = 4 from rfl]
  have e1 : a.toNat = (a.toNat / 8 * 8) ||| (a.toNat % 8) := by rw [nat_join 3 _ _ (by omega) (by omega)]; omega
  have e2 : ∀ x : Nat, x < 8 → x ||| 4 = 4 + x % 4 := by decide
  have e3 : a.toNat ||| 4 = a.toNat / 8 * 8 + (4 + a.toNat % 8 % 4) := by
    rw [e1, Nat.or_assoc, e2 _ (by omega), nat_join 3 _ _ (by omega) (by omega)]
    rw [← e1]
  rw [e3]
  unfold fz
  omega
theorem andNot4 {a : Int} (h : 0 ≤ a) (h' : a < 18446744073709551616) : bits .andNot .u64 a 4 = th a := by
  rw [u64_andNot a 4 h h' (by decide) (by decide)]
  rw [show (18446744073709551615 - (4 : Int).toNat) = 2 ^ 64 - (2 ^ 2 + 1) from rfl]
  have hb : a.toNat < 2 ^ 64 := by omega
  have e3 : a.toNat &&& (2 ^ 64 - (2 ^ 2 + 1)) = a.toNat / 8 * 8 + a.toNat % 4 := by
    rw [← nat_join 3 (a.toNat / 8 * 8) (a.toNat % 4) (by omega) (by omega)]
    apply Nat.eq_of_testBit_eq
    intro i
    have e8 : a.toNat / 8 * 8 = (a.toNat >>> 3) <<< 3 := by rw [Nat.shiftLeft_eq, Nat.shiftRight_eq_div_pow]
    have e4 : a.toNat % 4 = a.toNat % 2 ^ 2 := rfl
    rw [Nat.testBit_and, Nat.testBit_two_pow_sub_succ (by decide), Nat.testBit_two_pow, Nat.testBit_or, e8, e4, Nat.testBit_shiftLeft, Nat.testBit_shiftRight, Nat.testBit_mod_two_pow]
    by_cases h3 : 3 ≤ i
    · rw [show 3 + (i - 3) = i by omega]
      by_cases h64 : i < 64
      · simp [h3, h64, show ¬ 2 = i by omega, show ¬ i < 2 by omega]
      · have : a.toNat.testBit i = false := Nat.testBit_lt_two_pow (Nat.lt_of_lt_of_le hb (Nat.pow_le_pow_right (by decide) (by omega)))
        simp [this]
    · have : i = 0 ∨ i = 1 ∨ i = 2 := by omega
      rcases this with rfl | rfl | rfl <;> simp
  rw [e3]
  unfold th
  omega
end Go.Proofs.YtoablodmodnamaaDoor.F.Plain

namespace Go.Proofs.YtoablodmodnamaaDoor.F
open Go.ChangeShapes Go.WideShapes Go.ChangeAt Go.RowKit
open Plain

/-- behind a new block, and behind draws, nothing that was there has turned -/
theorem bal {a w : World} (h : Below a.heap.size a w) (o : Obj) : Below a.heap.size a (w.alloc o) := h.alloc h.size o
theorem bdr {a w : World} (h : Below a.heap.size a w) (n : Nat) : Below a.heap.size a (w.drewN n) := by
  induction n with
  | zero => exact h
  | succ n ih => exact ih.drew

theorem cOf (a : Int) (h : 0 ≤ a) (h' : a ≤ 18446744073709551615) (w : World) :
    Calls Tryd.prog 72 #[.int .u64 a] w fun e w' => e = .returned (.agg #[.int .i64 (kind a), .int .i64 (num a)]) ∧ w' = w.alloc (.cells #[.int .i64 (kind a), .int .i64 (num a)] 82) := by
  have E : Hid (wrap64 (bits BinOp.and IntKind.u64 a 3) = kind a ∧ wrap64 (IntKind.u64.wrap (a.tdiv 8)) = num a) := by
    refine ⟨?_, ?_⟩
    · rw [and3 h (by omega)]; unfold wrap64 kind; omega
    · rw [wrap_u64, Int.tdiv_eq_ediv_of_nonneg h]; unfold wrap64 num; omega
  clear h h'
  go_enter Tryd.func72, Tryd.ntmps72
  go_wp2
  rw [← E.out.1, ← E.out.2]
  exact bodyPost_ret (v := .agg #[.int .i64 (wrap64 (bits BinOp.and IntKind.u64 a 3)), .int .i64 (wrap64 (IntKind.u64.wrap (a.tdiv 8)))]) (by simp [results, Tryd.results72, go_sem]) rfl ⟨rfl, rfl⟩

/-! ### the document's own answers -/
theorem rBits2 (a : Int) (h : 0 ≤ a) (w : World) :
    Calls Tryd.prog 67 #[.int .u64 a, .int .i64 2] w fun e w' => e = .returned (.int .u64 (a % 4)) ∧ w' = w := by
  have E : Hid (a.tmod 4 = a % 4) := Int.tmod_eq_emod_of_nonneg h
  clear h
  go_enter Tryd.func67, Tryd.ntmps67
  go_wp2
  go_ret
  refine ⟨?_, rfl⟩
  rw [← E.out]
  rfl

theorem rBits61 (a : Int) (h : 0 ≤ a) (w : World) :
    Calls Tryd.prog 67 #[.int .u64 a, .int .i64 61] w fun e w' => e = .returned (.int .u64 (a % 2305843009213693952)) ∧ w' = w := by
  have E : Hid (a.tmod 2305843009213693952 = a % 2305843009213693952) := Int.tmod_eq_emod_of_nonneg h
  clear h
  go_enter Tryd.func67, Tryd.ntmps67
  go_wp2
  go_ret
  refine ⟨?_, rfl⟩
  rw [← E.out]
  rfl

/-- both at once: where the count of bits comes out of the goal -/
theorem rBits (a n p : Int) (h : 0 ≤ a) (hp : n = 2 ∧ p = 4 ∨ n = 61 ∧ p = 2305843009213693952) (w : World) :
    Calls Tryd.prog 67 #[.int .u64 a, .int .i64 n] w fun e w' => e = .returned (.int .u64 (a % p)) ∧ w' = w := by
  rcases hp with ⟨rfl, rfl⟩ | ⟨rfl, rfl⟩
  · exact rBits2 a h w
  · exact rBits61 a h w

theorem rOf (a : Int) (h : 0 ≤ a) (h' : a ≤ 18446744073709551615) (w : World) :
    Calls Tryd.prog 28 #[.int .u64 a] w fun e w' => e = .returned (.agg #[.int .i64 (kind a), .int .i64 (num a)]) ∧ w' = w.alloc (.cells #[.int .i64 (kind a), .int .i64 (num a)] 82) := by
  go_enter Tryd.func28, Tryd.ntmps28
  go_wp2_with (go_at_call 67; refine (rBits2 _ h _).mono ?_; rintro e w' ⟨rfl, rfl⟩)
  exact bodyPost_ret (v := .agg #[.int .i64 (kind a), .int .i64 (num a)]) (by simp [results, Tryd.results28, go_sem, kind, num]) rfl ⟨rfl, rfl⟩

theorem rWord (k n : Int) (w : World) :
    Calls Tryd.prog 60 #[.agg #[.int .i64 k, .int .i64 n]] w fun e w' => e = .returned (.int .u64 (word k n)) ∧ ∃ m, w' = (w.alloc (.cells #[.int .i64 k, .int .i64 n] 82)).drewN m := by
  have E : Hid (IntKind.u64.wrap k % 4 + 8 * (IntKind.u64.wrap n % 2305843009213693952) = word k n) := by
    show _ = _
    simp only [wrap_u64]
    unfold word
    omega
  go_enter Tryd.func60, Tryd.ntmps60
  go_wp2
  go_quiet ((go_at_call 67; exact Calls.quiet_of_same (rBits _ _ _ (wrap_nonneg _) (by first | exact Or.inl ⟨rfl, rfl⟩ | exact Or.inr ⟨rfl, rfl⟩) _)))
  go_wp2
  go_ret
  refine ⟨?_, _, rfl⟩
  rw [← E.out]
  rfl

/-! ### the document's examples -/
end Go.Proofs.YtoablodmodnamaaDoor.F

namespace Go.Proofs.YtoablodmodnamaaDoor
open Go.ChangeShapes Go.WideShapes Go.ChangeAt Go.RowKit Go.Joins Go.Deep

theorem own : ownKnob Tryd.prog.godebug = none := by kernel_rfl
theorem laidOut : laidOutB Tryd.prog = true := by kernel_rfl

theorem gWidths : Tryd.prog.globalNamed "flit/head.widths" = some 0 := by kernel_rfl
theorem tWidths : (Tryd.prog.globals[0]?).map (·.type) = some 165 := by kernel_rfl

/-- the heap that the door's own run leaves meets the condition -/
theorem door_met (os : Os) (args : Array Value) : laidMetH Tryd.prog [("flit/head.widths", Rows.laid_flit_head_widths)] ((World.doorLaid Tryd.prog 14 os).forCall (fun _ _ => 0) ⟨#[], args, []⟩).memory :=
  laidMetH_of_parts3 (fuel := 8) (laidMet_of_run' 8 (by kernel_rfl) (by kernel_rfl)) (by kernel_rfl) (by kernel_rfl)

/-- what the condition gives the walks: the table's seven cells -/
theorem of_laid {W : World} (h : laidMetH Tryd.prog [("flit/head.widths", Rows.laid_flit_head_widths)] W) : H.Wid W := by
  rw [MakeChecks.laidMetH_plain _ _ _ (by kernel_rfl)] at h
  obtain ⟨ps, ⟨g0, t0, cs0, f0, p0, q0, hg0, ht0, hv0, hd0, _, _⟩, _, _⟩ := h
  obtain rfl := Option.some.inj (gWidths.symm.trans hg0)
  obtain rfl := Option.some.inj (tWidths.symm.trans ht0)
  obtain ⟨xs, m1, rfl, hx1, hlen, hn3, hel⟩ := DataW.trod_array Tryd.underlying165 hd0
  have c3 : Tryd.prog.cellsOf 3 = 1 := by kernel_rfl
  simp only [Prod.mk.injEq, Rows.laid_flit_head_widths, DataW.agg.injEq] at hx1
  have key : ∀ (i : Nat) (k : Int), i < 7 → ([.lit (.int .i64 2), .lit (.int .i64 2), .lit (.int .i64 3), .lit (.int .i64 1), .lit (.int .i64 1), .lit (.int .i64 3), .lit (.int .i64 12)] : List (DataW Unit))[i]? = some (.lit (.int .i64 k)) → W.cell? ⟨0, i, none⟩ = some (.int .i64 k) := by
    intro i k hi hk
    have h0 := hel i hi
    have hlt : i < xs.length := by omega
    rw [List.getElem?_eq_getElem hlt, c3, Nat.mul_one] at h0
    obtain ⟨k', e1, e2, _⟩ := DataW.trod_int Tryd.underlying3 h0
    rw [hx1.1, List.getElem?_map, List.getElem?_eq_getElem hlt, e2] at hk
    simp at hk
    subst hk
    rw [World.var?_cell hg0 hv0 i]
    have := congrArg (fun l => l[0]?) e1
    simpa using this
  have a0 := key 0 2 (by decide) rfl
  exact ⟨World.block_lt_of_cell? _ _ a0, a0, key 1 2 (by decide) rfl, key 2 3 (by decide) rfl, key 3 1 (by decide) rfl, key 4 1 (by decide) rfl, key 5 3 (by decide) rfl, key 6 12 (by decide) rfl⟩
theorem field_int {H : Type} {enc : TypeId × Value → H} {P : Program} {w : World} {base : Nat} {spare : Nat → Bool} {held : Bool} {n : Nat} {fs : Array Field} {cs : List Value} {xs : List (DataW H × List MemPlace)}
    (hone : oneCellFields P fs = true) (hlen : xs.length = fs.size)
    (hf : ∀ (i : Nat) (f : Field), fs[i]? = some f → DataW.trod enc P w base spare held n f.type ((cs.drop f.offset).take (P.cellsOf f.type)) = xs[i]?)
    (i : Nat) (f : Field) (hi : fs[i]? = some f) (ht : P.underlying f.type = some (.int .i64)) : ∃ k, cs[i]? = some (.int .i64 k) := by
  obtain ⟨o, c1⟩ := hone_of hone i f hi
  have hlt : i < xs.length := by rw [hlen]; exact (Array.getElem?_eq_some_iff.1 hi).1
  have h := hf i f hi
  rw [o, c1, List.getElem?_eq_getElem hlt] at h
  obtain ⟨k, e, _, _⟩ := DataW.trod_int ht h
  refine ⟨k, ?_⟩
  have := congrArg (fun l => l[0]?) e
  simpa using this

end Go.Proofs.YtoablodmodnamaaDoor

namespace Go.Proofs.YtoablodmodnamaaDoor
set_option linter.unusedVariables false
open Go.ChangeShapes Go.WideShapes Go.ChangeAt Go.RowKit Go.Joins Go.Deep

theorem cells1 : Tryd.prog.cellsOf 3 = 1 := by kernel_rfl
/-- a list of numbers that came in -/
def CameI (w : World) (ao : Option Addr) (len : Nat) (z : Nat → Int) : Prop := len = 0 ∨ ∃ b off, ao = some ⟨b, off, none⟩ ∧ b < w.heap.size ∧ ∀ j, j < len → w.cell? ⟨b, off + j, none⟩ = some (.int .i64 (z j)) ∧ -9223372036854775808 ≤ z j ∧ z j ≤ 9223372036854775807
theorem CameI.on {w w' : World} {ao : Option Addr} {len : Nat} {z : Nat → Int} (h : CameI w ao len z) (k : Below w.heap.size w w') : CameI w' ao len z := by
  rcases h with h | ⟨b, off, rfl, hb, h⟩
  · exact .inl h
  · exact .inr ⟨b, off, rfl, Nat.lt_of_lt_of_le hb k.size, fun j hj => ⟨(k.cell hb).trans (h j hj).1, (h j hj).2⟩⟩
set_option maxRecDepth 100000 in
theorem open_slice {H : Type} {enc : TypeId × Value → H} {w : World} {base : Nat} {held : Bool} {r : Reach} {b0 : Nat} {v : Value} {d : DataW H} {p : List MemPlace}
    (hv : Value.okWide Tryd.prog w r b0 22 v) (h : DataW.Trod enc Tryd.prog w base (fun _ => true) held 22 v d p) (lt : ∀ x ∈ p, x.block < w.heap.size) :
    ∃ ao len cap z, v = .slice ao len cap ∧ CameI w ao len z := by
  obtain ⟨a0, len, cap, rfl⟩ := okWide_slice Tryd.underlying22 hv
  obtain ⟨fuel, hf⟩ := h
  rcases open_ints Tryd.underlying22 Tryd.underlying3 cells1 hf with ⟨hcs, hx⟩ | ⟨a, len', cap', zs, hcs, _, hl, hm, hz, hx, hcell, hwz⟩
  · simp [Value.cells] at hcs
    obtain ⟨rfl, rfl, rfl⟩ := hcs
    exact ⟨_, _, _, fun _ => 0, rfl, Or.inl rfl⟩
  · simp [Value.cells] at hcs
    obtain ⟨rfl, rfl, rfl⟩ := hcs
    simp only [Prod.mk.injEq] at hx
    obtain ⟨rfl, rfl⟩ := hx
    simp only [if_true] at hz
    refine ⟨_, _, _, fun j => zs.getD j 0, rfl, ?_⟩
    by_cases hl0 : len = 0
    · exact Or.inl hl0
    · obtain ⟨b, off, spot⟩ := a
      have hspot : spot = none := by simpa [Addr.add] using World.cell?_spot (hcell 0 (by omega))
      subst hspot
      refine Or.inr ⟨b, off, rfl, lt (.cell b off) (MemPlace.mem_row.2 ⟨0, by omega, by simp⟩), fun j hj => ⟨by rw [← add_plain]; exact hcell j (by omega), ?_⟩⟩
      have hj' : j < zs.length := by omega
      have := hwz (zs.getD j 0) (by rw [List.getD_eq_getElem?_getD, List.getElem?_eq_getElem hj']; exact List.getElem_mem _)
      exact bounds_i64 this
end Go.Proofs.YtoablodmodnamaaDoor
