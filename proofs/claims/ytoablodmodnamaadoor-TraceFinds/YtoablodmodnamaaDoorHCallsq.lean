/-
  What each function of layer 2 comes to when it is called: one contract a function.
-/
import Derived.WalkKit
import Derived.ProofKit
import Derived.Laws.BitsAllLaws
import Derived.Test.YtoablodmodnamaaDoorRows
import Derived.OpenShut
import Derived.Below
import Derived.WalkSpells
import Derived.WalkLawsBesides
import Derived.Outline
import Derived.BigQuiet
import Derived.Deep.QuietTactic
import Derived.Handy
namespace Go.Proofs.YtoablodmodnamaaDoor.H.Plain
open Go.RowKit
/-- the word of a header -/
def hw (s c n m g t l : Int) : Int := s % 4 + 4 * (c % 4) + 16 * (n % 8) + 128 * (m % 2) + 256 * (g % 2) + 512 * (t % 8) + 4096 * (l % 4096)
/-- the parts of a word -/
def pS (a : Int) : Int := a % 4
def pC (a : Int) : Int := a / 4 % 4
def pN (a : Int) : Int := a / 16 % 8
def pM (a : Int) : Int := a / 128 % 2
def pG (a : Int) : Int := a / 256 % 2
def pT (a : Int) : Int := a / 512 % 8
def pL (a : Int) : Int := a / 4096 % 4096
/-- where an object is -/
def mv (a x : Int) : Int := if pS a = 1 ∧ pT a = 2 then pL a else x

theorem wrap_u64 (n : Int) : IntKind.u64.wrap n = n % 18446744073709551616 := IntKind.wrap_u64 n
theorem wrap_nonneg (n : Int) : 0 ≤ IntKind.u64.wrap n := by rw [wrap_u64]; omega
theorem wrap_lt (n : Int) : IntKind.u64.wrap n < 18446744073709551616 := by rw [wrap_u64]; omega

theorem and_mask {a : Int} (h : 0 ≤ a) (h' : a < 18446744073709551616) (k : Nat) (hk : 2 ^ k - 1 < 18446744073709551616) : bits .and .u64 a ((2 ^ k - 1 : Nat) : Int) = a % ((2 ^ k : Nat) : Int) := by
  have hk' : ((2 ^ k - 1 : Nat) : Int) < 18446744073709551616 := by omega
  rw [u64_and a _ h h' (by omega) hk']
  rw [Int.toNat_natCast, Nat.and_two_pow_sub_one_eq_mod, Int.natCast_emod, Int.toNat_of_nonneg h]
theorem and1 {a : Int} (h : 0 ≤ a) (h' : a < 18446744073709551616) : bits .and .u64 a 1 = a % 2 := and_mask h h' 1 (by decide)
theorem and3 {a : Int} (h : 0 ≤ a) (h' : a < 18446744073709551616) : bits .and .u64 a 3 = a % 4 := and_mask h h' 2 (by decide)
theorem and7 {a : Int} (h : 0 ≤ a) (h' : a < 18446744073709551616) : bits .and .u64 a 7 = a % 8 := and_mask h h' 3 (by decide)
theorem and4095 {a : Int} (h : 0 ≤ a) (h' : a < 18446744073709551616) : bits .and .u64 a 4095 = a % 4096 := and_mask h h' 12 (by decide)

theorem or_low (k : Nat) {x y : Int} (hx : 0 ≤ x) (hx' : x.toNat < 2 ^ k) (hy : 0 ≤ y) (hy' : y < 18446744073709551616) (h8 : y.toNat % 2 ^ k = 0) (hk : x < 18446744073709551616) : bits .or .u64 x y = x + y := by
  rw [u64_or x y hx hk hy hy', Nat.or_comm, nat_join k y.toNat x.toNat h8 hx']
  omega

/-- what the parts come to, one put beside the other -/
theorem joined (s c n m g t l : Int) :
    bits .or .u64 (bits .or .u64 (bits .or .u64 (bits .or .u64 (bits .or .u64 (bits .or .u64 (bits .or .u64 0 (IntKind.u64.wrap s % 4)) (IntKind.u64.wrap c % 4 * 4)) (IntKind.u64.wrap n % 8 * 16)) (IntKind.u64.wrap m % 2 * 128)) (IntKind.u64.wrap g % 2 * 256)) (IntKind.u64.wrap t % 8 * 512)) (IntKind.u64.wrap l % 4096 * 4096) = hw s c n m g t l := by
  simp only [wrap_u64]
  have s0 : 0 ≤ s % 18446744073709551616 % 4 ∧ s % 18446744073709551616 % 4 < 4 ∧ s % 18446744073709551616 % 4 = s % 4 := by omega
  have c0 : 0 ≤ c % 18446744073709551616 % 4 ∧ c % 18446744073709551616 % 4 < 4 ∧ c % 18446744073709551616 % 4 = c % 4 := by omega
  have n0 : 0 ≤ n % 18446744073709551616 % 8 ∧ n % 18446744073709551616 % 8 < 8 ∧ n % 18446744073709551616 % 8 = n % 8 := by omega
  have m0 : 0 ≤ m % 18446744073709551616 % 2 ∧ m % 18446744073709551616 % 2 < 2 ∧ m % 18446744073709551616 % 2 = m % 2 := by omega
  have g0 : 0 ≤ g % 18446744073709551616 % 2 ∧ g % 18446744073709551616 % 2 < 2 ∧ g % 18446744073709551616 % 2 = g % 2 := by omega
  have t0 : 0 ≤ t % 18446744073709551616 % 8 ∧ t % 18446744073709551616 % 8 < 8 ∧ t % 18446744073709551616 % 8 = t % 8 := by omega
  have l0 : 0 ≤ l % 18446744073709551616 % 4096 ∧ l % 18446744073709551616 % 4096 < 4096 ∧ l % 18446744073709551616 % 4096 = l % 4096 := by omega
  revert s0 c0 n0 m0 g0 t0 l0
  generalize s % 18446744073709551616 % 4 = a
  generalize c % 18446744073709551616 % 4 = b
  generalize n % 18446744073709551616 % 8 = d
  generalize m % 18446744073709551616 % 2 = e
  generalize g % 18446744073709551616 % 2 = f
  generalize t % 18446744073709551616 % 8 = h
  generalize l % 18446744073709551616 % 4096 = i
  intro s0 c0 n0 m0 g0 t0 l0
  rw [or_low 0 (x := 0) (y := a) (by omega) (by omega) (by omega) (by omega) (by omega) (by omega)]
  rw [or_low 2 (x := 0 + a) (y := b * 4) (by omega) (by omega) (by omega) (by omega) (by omega) (by omega)]
  rw [or_low 4 (x := (0 + a + b * 4)) (y := d * 16) (by omega) (by omega) (by omega) (by omega) (by omega) (by omega)]
  rw [or_low 7 (x := ((0 + a + b * 4) + d * 16)) (y := e * 128) (by omega) (by omega) (by omega) (by omega) (by omega) (by omega)]
  rw [or_low 8 (x := (((0 + a + b * 4) + d * 16) + e * 128)) (y := f * 256) (by omega) (by omega) (by omega) (by omega) (by omega) (by omega)]
  rw [or_low 9 (x := ((((0 + a + b * 4) + d * 16) + e * 128) + f * 256)) (y := h * 512) (by omega) (by omega) (by omega) (by omega) (by omega) (by omega)]
  rw [or_low 12 (x := (((((0 + a + b * 4) + d * 16) + e * 128) + f * 256) + h * 512)) (y := i * 4096) (by omega) (by omega) (by omega) (by omega) (by omega) (by omega)]
  unfold hw
  omega
end Go.Proofs.YtoablodmodnamaaDoor.H.Plain

namespace Go.Proofs.YtoablodmodnamaaDoor.H
open Go.ChangeShapes Go.WideShapes Go.ChangeAt Go.RowKit
open Plain

theorem cLow (a n p : Int) (h : 0 ≤ a) (h' : a ≤ 18446744073709551615) (hp : n = 1 ∧ p = 2 ∨ n = 2 ∧ p = 4 ∨ n = 3 ∧ p = 8 ∨ n = 12 ∧ p = 4096) (w : World) :
    Calls Tryd.prog 109 #[.int .u64 a, .int .i64 n] w fun e w' => e = .returned (.int .u64 (a % p)) ∧ w' = w := by
  have e1 : bits BinOp.and IntKind.u64 a 1 = a % 2 := and1 h (by omega)
  have e3 : bits BinOp.and IntKind.u64 a 3 = a % 4 := and3 h (by omega)
  have e7 : bits BinOp.and IntKind.u64 a 7 = a % 8 := and7 h (by omega)
  have e4 : bits BinOp.and IntKind.u64 a 4095 = a % 4096 := and4095 h (by omega)
  rcases hp with ⟨rfl, rfl⟩ | ⟨rfl, rfl⟩ | ⟨rfl, rfl⟩ | ⟨rfl, rfl⟩ <;>
  · go_enter Tryd.func109, Tryd.ntmps109
    go_wp2
    go_ret
    exact ⟨rfl, rfl⟩

/-- the table of widths lies where it was laid -/
def Wid (w : World) : Prop := 0 < w.heap.size ∧ w.cell? ⟨0, 0, none⟩ = some (.int .i64 2) ∧ w.cell? ⟨0, 1, none⟩ = some (.int .i64 2) ∧ w.cell? ⟨0, 2, none⟩ = some (.int .i64 3) ∧
  w.cell? ⟨0, 3, none⟩ = some (.int .i64 1) ∧ w.cell? ⟨0, 4, none⟩ = some (.int .i64 1) ∧ w.cell? ⟨0, 5, none⟩ = some (.int .i64 3) ∧ w.cell? ⟨0, 6, none⟩ = some (.int .i64 12)
theorem Wid.on {w u : World} (h : Wid w) (hb : Below w.heap.size w u) : Wid u := by
  obtain ⟨h0, a0, a1, a2, a3, a4, a5, a6⟩ := h
  exact ⟨Nat.lt_of_lt_of_le h0 hb.size, (hb.cell h0).trans a0, (hb.cell h0).trans a1, (hb.cell h0).trans a2, (hb.cell h0).trans a3, (hb.cell h0).trans a4, (hb.cell h0).trans a5, (hb.cell h0).trans a6⟩

theorem cJoin (b : Nat) (s c n m g t l : Int) (w : World) (W : Wid w)
    (h0 : w.cell? ⟨b, 0, none⟩ = some (.int .i64 s)) (h1 : w.cell? ⟨b, 1, none⟩ = some (.int .i64 c)) (h2 : w.cell? ⟨b, 2, none⟩ = some (.int .i64 n)) (h3 : w.cell? ⟨b, 3, none⟩ = some (.int .i64 m))
    (h4 : w.cell? ⟨b, 4, none⟩ = some (.int .i64 g)) (h5 : w.cell? ⟨b, 5, none⟩ = some (.int .i64 t)) (h6 : w.cell? ⟨b, 6, none⟩ = some (.int .i64 l)) :
    Calls Tryd.prog 98 #[.slice (some ⟨b, 0, none⟩) 7 7] w fun e w' => e = .returned (.int .u64 (hw s c n m g t l)) ∧ w' = w := by
  have E : Hid (_ = hw s c n m g t l) := joined s c n m g t l
  obtain ⟨v, k0, k1, k2, k3, k4, k5, k6⟩ := W
  go_enter Tryd.func98, Tryd.ntmps98
  go_wp2
  refine wp_loop_rounds 8 ?_
  iterate 8
    rw [rounds_succ]
    go_wp2_with (go_at_call 109; refine (cLow _ _ _ (wrap_nonneg _) (Int.le_of_lt_add_one (wrap_lt _)) (by first | exact Or.inl ⟨rfl, rfl⟩ | exact Or.inr (Or.inl ⟨rfl, rfl⟩) | exact Or.inr (Or.inr (Or.inl ⟨rfl, rfl⟩)) | exact Or.inr (Or.inr (Or.inr ⟨rfl, rfl⟩))) _).mono ?_; rintro e w' ⟨rfl, rfl⟩)
  go_ret
  refine ⟨?_, rfl⟩
  rw [← E.out]
  rfl

theorem cSplit (a : Int) (h : 0 ≤ a) (h' : a ≤ 18446744073709551615) (w : World) (W : Wid w) :
    Calls Tryd.prog 96 #[.int .u64 a] w fun e w' => e = .returned (.agg #[.int .i64 (pS a), .int .i64 (pC a), .int .i64 (pN a), .int .i64 (pM a), .int .i64 (pG a), .int .i64 (pT a), .int .i64 (pL a)]) ∧ w' = (w.alloc (.cells #[.int .i64 (pS a), .int .i64 (pC a), .int .i64 (pN a), .int .i64 (pM a), .int .i64 (pG a), .int .i64 (pT a), .int .i64 (pL a)] 165)).alloc (.cells #[.int .i64 (pS a), .int .i64 (pC a), .int .i64 (pN a), .int .i64 (pM a), .int .i64 (pG a), .int .i64 (pT a), .int .i64 (pL a)] 165) := by
  obtain ⟨v, k0, k1, k2, k3, k4, k5, k6⟩ := W
  have d1 : a / 4 / 4 = a / 16 := by omega
  have d2 : a / 16 / 8 = a / 128 := by omega
  have d3 : a / 128 / 2 = a / 256 := by omega
  have d4 : a / 256 / 2 = a / 512 := by omega
  have d5 : a / 512 / 8 = a / 4096 := by omega
  have x0 : ∀ w : World, (Instr.index 165 (.agg #[.int .i64 2, .int .i64 2, .int .i64 3, .int .i64 1, .int .i64 1, .int .i64 3, .int .i64 12]) (.int .i64 0)).run Tryd.prog w = .ok (.int .i64 2) w := fun _ => by kernel_rfl
  have x1 : ∀ w : World, (Instr.index 165 (.agg #[.int .i64 2, .int .i64 2, .int .i64 3, .int .i64 1, .int .i64 1, .int .i64 3, .int .i64 12]) (.int .i64 1)).run Tryd.prog w = .ok (.int .i64 2) w := fun _ => by kernel_rfl
  have x2 : ∀ w : World, (Instr.index 165 (.agg #[.int .i64 2, .int .i64 2, .int .i64 3, .int .i64 1, .int .i64 1, .int .i64 3, .int .i64 12]) (.int .i64 2)).run Tryd.prog w = .ok (.int .i64 3) w := fun _ => by kernel_rfl
  have x3 : ∀ w : World, (Instr.index 165 (.agg #[.int .i64 2, .int .i64 2, .int .i64 3, .int .i64 1, .int .i64 1, .int .i64 3, .int .i64 12]) (.int .i64 3)).run Tryd.prog w = .ok (.int .i64 1) w := fun _ => by kernel_rfl
  have x4 : ∀ w : World, (Instr.index 165 (.agg #[.int .i64 2, .int .i64 2, .int .i64 3, .int .i64 1, .int .i64 1, .int .i64 3, .int .i64 12]) (.int .i64 4)).run Tryd.prog w = .ok (.int .i64 1) w := fun _ => by kernel_rfl
  have x5 : ∀ w : World, (Instr.index 165 (.agg #[.int .i64 2, .int .i64 2, .int .i64 3, .int .i64 1, .int .i64 1, .int .i64 3, .int .i64 12]) (.int .i64 5)).run Tryd.prog w = .ok (.int .i64 3) w := fun _ => by kernel_rfl
  have x6 : ∀ w : World, (Instr.index 165 (.agg #[.int .i64 2, .int .i64 2, .int .i64 3, .int .i64 1, .int .i64 1, .int .i64 3, .int .i64 12]) (.int .i64 6)).run Tryd.prog w = .ok (.int .i64 12) w := fun _ => by kernel_rfl
  go_enter Tryd.func96, Tryd.ntmps96
  go_wp2
  refine wp_loop_rounds 8 ?_
  iterate 8
    rw [rounds_succ]
    go_wp2_with (go_at_call 109; refine (cLow _ _ _ (by first | assumption | omega) (by first | assumption | omega) (by first | exact Or.inl ⟨rfl, rfl⟩ | exact Or.inr (Or.inl ⟨rfl, rfl⟩) | exact Or.inr (Or.inr (Or.inl ⟨rfl, rfl⟩)) | exact Or.inr (Or.inr (Or.inr ⟨rfl, rfl⟩))) _).mono ?_; rintro e w' ⟨rfl, rfl⟩)
  exact bodyPost_ret (v := .agg #[.int .i64 (pS a), .int .i64 (pC a), .int .i64 (pN a), .int .i64 (pM a), .int .i64 (pG a), .int .i64 (pT a), .int .i64 (pL a)]) (by simp [results, Tryd.results96, go_sem, pS, pC, pN, pM, pG, pT, pL]) rfl ⟨rfl, rfl⟩

theorem cOf (a : Int) (h : 0 ≤ a) (h' : a ≤ 18446744073709551615) (w : World) (W : Wid w) :
    Calls Tryd.prog 61 #[.int .u64 a] w fun e w' => e = .returned (.agg #[.int .i64 (pS a), .int .i64 (pC a), .int .i64 (pN a), .int .i64 (pM a), .int .i64 (pG a), .int .i64 (pT a), .int .i64 (pL a)]) ∧ w' = (((w.alloc (.cells #[.int .i64 (pS a), .int .i64 (pC a), .int .i64 (pN a), .int .i64 (pM a), .int .i64 (pG a), .int .i64 (pT a), .int .i64 (pL a)] 74)).alloc (.cells #[.int .i64 (pS a), .int .i64 (pC a), .int .i64 (pN a), .int .i64 (pM a), .int .i64 (pG a), .int .i64 (pT a), .int .i64 (pL a)] 165)).alloc (.cells #[.int .i64 (pS a), .int .i64 (pC a), .int .i64 (pN a), .int .i64 (pM a), .int .i64 (pG a), .int .i64 (pT a), .int .i64 (pL a)] 165)).alloc (.cells #[.int .i64 (pS a), .int .i64 (pC a), .int .i64 (pN a), .int .i64 (pM a), .int .i64 (pG a), .int .i64 (pT a), .int .i64 (pL a)] 165) := by
  go_enter Tryd.func61, Tryd.ntmps61
  go_wp2_with (go_at_call 96; refine (cSplit a h h' _ (W.on (by go_grown))).mono ?_; rintro e w1 ⟨rfl, rfl⟩)
  exact bodyPost_ret (v := .agg #[.int .i64 (pS a), .int .i64 (pC a), .int .i64 (pN a), .int .i64 (pM a), .int .i64 (pG a), .int .i64 (pT a), .int .i64 (pL a)]) (by simp [results, Tryd.results61, go_sem]) rfl ⟨rfl, rfl⟩

theorem cWord (s c n m g t l : Int) (w : World) (W : Wid w) :
    Calls Tryd.prog 63 #[.agg #[.int .i64 s, .int .i64 c, .int .i64 n, .int .i64 m, .int .i64 g, .int .i64 t, .int .i64 l]] w fun e w' => e = .returned (.int .u64 (hw s c n m g t l)) ∧
      ∃ x, w' = (w.alloc (.cells #[.int .i64 s, .int .i64 c, .int .i64 n, .int .i64 m, .int .i64 g, .int .i64 t, .int .i64 l] 74)).alloc x := by
  go_enter Tryd.func63, Tryd.ntmps63
  go_wp2_with (go_at_call 98; refine (cJoin _ s c n m g t l _ (W.on (by go_grown)) (by go_cell) (by go_cell) (by go_cell) (by go_cell) (by go_cell) (by go_cell) (by go_cell)).mono ?_; rintro e w1 ⟨rfl, rfl⟩)
  go_ret
  exact ⟨rfl, _, rfl⟩
end Go.Proofs.YtoablodmodnamaaDoor.H
