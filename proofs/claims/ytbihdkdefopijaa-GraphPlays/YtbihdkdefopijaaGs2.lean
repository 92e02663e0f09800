/-
  Contract of named: what several Srcs name.
-/
import Derived.Test.YtbihdkdefopijaaGs
namespace Go.Proofs.Ytbihdkdefopijaa
set_option linter.unusedVariables false
set_option linter.unusedSimpArgs false
open Go.ChangeShapes Go.WideShapes Go.ChangeAt Go.RowKit

/-- fields as cells -/
def vcells : List (Int × Int) → List Value
  | [] => []
  | v :: l => .int .i64 v.1 :: .int .i64 v.2 :: vcells l
theorem vcells_append (a b : List (Int × Int)) : vcells (a ++ b) = vcells a ++ vcells b := by
  induction a with
  | nil => rfl
  | cons x r ih => simp [vcells, ih]
theorem vcells_length (a : List (Int × Int)) : (vcells a).length = a.length * 2 := by
  induction a with
  | nil => rfl
  | cons x r ih => simp only [vcells, List.length_cons, ih]; omega
theorem vcells_at (l : List (Int × Int)) : ∀ (k : Nat) (v : Int × Int), l[k]? = some v → (vcells l)[k * 2]? = some (.int .i64 v.1) ∧ (vcells l)[k * 2 + 1]? = some (.int .i64 v.2) := by
  induction l with
  | nil => intro k v h; simp at h
  | cons y r ih =>
    intro k v h
    cases k with
    | zero => simp at h; subst h; simp [vcells]
    | succ k =>
      have := ih k v (by simpa using h)
      rw [show (k + 1) * 2 = k * 2 + 1 + 1 by omega]
      simpa [vcells] using this
theorem infoVal : (Try.prog.info? 37).map (fun i => (i.zero, i.size, i.bytes)) = some (some (vv (0, 0)), 2, 16) := by kernel_rfl

theorem errs_drop {r : List Int} {l : List Src} {k : Nat} {s : Src} (h : l[k]? = some s) (h0 : Src.lost r s = 0) : Src.errs r (l.drop k) = Src.errs r (l.drop (k + 1)) := by
  rw [List.drop_eq_getElem?_toList_append, h]
  simp [Src.errs, h0]
theorem errs_lost {r : List Int} {l : List Src} {k : Nat} {s : Src} (h : l[k]? = some s) (h0 : ¬ Src.lost r s = 0) : Src.errs r (l.drop k) = Src.lost r s := by
  rw [List.drop_eq_getElem?_toList_append, h]
  simp [Src.errs, h0]
theorem new2 (W : World) (k : Nat) (hk : W.heap.size = k) (x y : Value) (T : TypeId) : ∀ j u, [x, y][j]? = some u → (W.alloc (.cells #[x, y] T)).cell? ((⟨k, 0, none⟩ : Addr).add j) = some u := by
  subst hk
  intro j u hu
  rw [Addr.add_lit, Nat.zero_add, cell_of_row _ _ _ _ _ _ (heap_alloc_new W _)]
  simpa using hu

set_option maxRecDepth 100000 in
set_option maxHeartbeats 800000 in
theorem cNamed (w : World) (r : List Int) (h8 : r.length ≤ 8) (ao : Option Addr) (cap : Nat) (l : List Src) (h : SrcsAt w ao l) (h2 : l.length ≤ 2) :
    Calls Try.prog 58 #[rvl r, .slice ao l.length cap] w fun e w' => ∃ v, e = .returned (.tuple #[v, .int .i64 (Src.err r l)]) ∧ Below w.heap.size w w' ∧ (¬ Src.err r l = 0 → v = .slice none 0 0) ∧ (Src.err r l = 0 → w'.ownsRow 0 37 2 v l.length (vcells (l.map (Src.val r)))) := by
  obtain ⟨i0, hi, hz0, hz1, hz2⟩ := info_parts infoVal
  have hA := RAt.new w r.length (rl r)
  have hB0 := bal (Below.refl w.heap.size w) (.cells #[.int .i64 r.length, .int .i64 (rl r 0), .int .i64 (rl r 1), .int .i64 (rl r 2), .int .i64 (rl r 3), .int .i64 (rl r 4), .int .i64 (rl r 5), .int .i64 (rl r 6), .int .i64 (rl r 7)] 72)
  rcases hall : l.all Src.ok with _ | _
  · have eE : Src.err r l = 1 := by simp [Src.err, hall]
    rw [eE]
    go_enter Try.func58, Try.ntmps58
    go_wp2_with (go_at_call 60; refine (cAllMay _ ao cap l (h.on hB0) h2).mono ?_; rintro e w1 ⟨rfl, hb⟩; rw [hall])
    go_ret2
    exact ⟨_, rfl, bt hB0 hb, fun _ => rfl, fun h => by simp at h⟩
  · have eE : Src.err r l = Src.errs r l := by simp [Src.err, hall]
    rw [eE]
    go_enter Try.func58, Try.ntmps58
    go_wp2_with (go_at_call 60; refine (cAllMay _ ao cap l (h.on hB0) h2).mono ?_; rintro e w1 ⟨rfl, hb⟩; rw [hall]; have hA1 := hA.on hb; have hB1 := bt hB0 hb; clear hb)
    go_loopw [6, 16] (fun v i wr => ∃ k : Nat, k ≤ l.length ∧ i = .int .i64 k ∧ Src.errs r l = Src.errs r (l.drop k) ∧ Below w.heap.size w wr ∧ RAt wr w.heap.size r.length (rl r) ∧ wr.ownsRow 0 37 2 v k (vcells ((l.take k).map (Src.val r))) ∧ ∀ m, v.ownBlock = some m → w.heap.size < m) (fun _ i _ => l.length - (intOf i).toNat)
    case atStart => exact ⟨0, Nat.zero_le _, rfl, rfl, hB1, hA1, World.ownsRow_nil _ _ _ _, fun m hm => by simp [Value.ownBlock] at hm⟩
    case round =>
      obtain ⟨k, hk, rfl, he, hb, hR, hown, hvb⟩ := hrel
      obtain ⟨wo, rfl⟩ : ∃ wo : World, wo = wr := ⟨_, rfl⟩
      by_cases hlt : k < l.length
      case pos =>
        obtain ⟨q, a, b, rfl, hq, c0, c1, hs⟩ := (h.on hb).pair k hlt
        have hok : Src.ok (a, b) = true := List.all_eq_true.1 hall _ (List.mem_of_getElem? hs)
        obtain ⟨d0, d1, d2, d3, d4, d5, d6, d7, d8⟩ := (hR.alloc (.cells #[.int .i64 a, .int .i64 b] 32)).cells
        have hV := cValue (wo.alloc (.cells #[.int .i64 a, .int .i64 b] 32)) r h8 a b hok
        have hB := bal hb (.cells #[.int .i64 a, .int .i64 b] 32)
        by_cases h0 : Src.lost r (a, b) = 0
        case neg =>
          have eL := he.trans (errs_lost hs h0)
          have h0' : (Src.lost r (a, b) != 0) = true := by simpa using h0
          generalize Src.lost r (a, b) = E at hV h0' h0 eL
          go_wp2_with (go_at_call 61; refine hV.mono ?_; rintro e w2 ⟨rfl, hb2⟩)
          go_ret2
          exact ⟨_, by rw [eL]; rfl, bal (bt hB hb2) _, fun _ => rfl, fun h => by rw [eL] at h; exact absurd h h0⟩
        case pos =>
          have eL := he.trans (errs_drop hs h0)
          have hgot : got r (a, b) = Src.val r (a, b) := by simp [got, h0]
          rw [h0, hgot] at hV
          obtain ⟨x, y, hxy⟩ : ∃ x y, Src.val r (a, b) = (x, y) := ⟨_, _, rfl⟩
          rw [hxy] at hV
          have htake : (l.take (k + 1)).map (Src.val r) = (l.take k).map (Src.val r) ++ [(x, y)] := by rw [List.take_add_one, hs]; simp [hxy]
          clear h0 hgot hok
          go_wp2_with (first
            | (go_at_call 61; refine hV.mono ?_; rintro e w2 ⟨rfl, hb2⟩; have hown2 := own_kept hown (Kept.of_below (F := []) (bt (bal (Below.refl _ _) (.cells #[.int .i64 a, .int .i64 b] 32)) hb2)) (fun _ _ => by simp); have hB2 := bt hB hb2; have hR2 := (hR.alloc (.cells #[.int .i64 a, .int .i64 b] 32)).on hb2)
            | (at_builtin; refine wpList_append_mine _ rfl _ _ 60 rfl 37 i0 _ 2 16 Try.underlying60 hi hz0 hz1 hz2 rfl (by decide) _ _ _ rfl ((hown2.alloc _).alloc _) ⟨w2.heap.size + 1, 0, none⟩ 1 1 [.int .i64 x, .int .i64 y] rfl rfl ?c1 ?c2 ?c3 ?c4 (by decide) ?_))
          case c1 => exact new2 _ _ (by simp) _ _ _
          case c2 => intro u hu; simp at hu; rcases hu with rfl | rfl <;> rfl
          case c3 => unfold maxLen; omega
          case c4 => omega
          intro g cp w3 hown3 hgr hnew
          have s2 := hR2.lt
          have hB3 := (bal (bal hB2 (.cells #[.int .i64 x, .int .i64 y] 37)) (.cells #[.int .i64 x, .int .i64 y] 37)).grown hgr (by simp; omega) (fun m hm => Nat.le_of_lt (hvb m hm))
          have R3 : RAt w3 w.heap.size r.length (rl r) := ((hgr.block w.heap.size (by simp; omega) (fun e => Nat.lt_irrefl _ (hvb _ e.symm))).trans ((hR2.alloc (.cells #[.int .i64 x, .int .i64 y] 37)).alloc (.cells #[.int .i64 x, .int .i64 y] 37)))
          go_wp2
          go_roundw
          case rel => exact ⟨k + 1, by omega, by go_num, eL, hB3, R3, by rw [htake, vcells_append, List.map_take]; exact hown3, fun m hm => by simp [Value.ownBlock] at hm; subst hm; rcases hnew with h | h; exact hvb _ h; omega⟩
          case measure => simp [intOf]; omega
      case neg =>
        have hkl : k = l.length := by omega
        have e0 : Src.errs r l = 0 := by rw [he, List.drop_of_length_le (by omega)]; rfl
        rw [List.take_of_length_le (by omega)] at hown
        go_wp2
        go_ret2
        exact ⟨_, by rw [e0]; rfl, hb, fun h => absurd e0 h, fun _ => hkl ▸ hown⟩
end Go.Proofs.Ytbihdkdefopijaa
