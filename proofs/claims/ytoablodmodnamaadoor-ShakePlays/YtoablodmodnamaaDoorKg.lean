/-
  The laid memory's objects.
-/
import Derived.Test.YtoablodmodnamaaDoorKj
namespace Go.Proofs.YtoablodmodnamaaDoor
set_option linter.unusedVariables false
set_option linter.unusedSimpArgs false
set_option maxRecDepth 100000
open Go.ChangeShapes Go.WideShapes Go.RowKit
open S.Plain (t0 t1 tw nx p0 p1 p2 p3 pw)
open H.Plain (hw pS pC pN pM pG pT pL)

theorem laidO_word (t : Nat → Bool) (k : Nat) (hk : k < 16) : ∀ j, k < j → j ≤ 16 → (laidO t j).word (96 + 4 * (k : Int)) = hdrW t k
  | 0, h, _ => by omega
  | j + 1, h, h' => by
    have hl := laidO_len t j
    show ((laidO t j).store (96 + 4 * (j : Int)) (hdrW t j)).word _ = _
    rw [word_store hl ⟨by omega, by omega⟩ ⟨by omega, by omega⟩]
    by_cases e : k = j
    · subst e; rw [if_pos rfl]
    · rw [if_neg (by omega)]
      exact laidO_word t k hk j (by omega) (by omega)
theorem pS_hdr (t : Nat → Bool) (k : Nat) : pS (hdrW t k) = 1 := by
  unfold hdrW H.Plain.hw H.Plain.pS
  omega
theorem laid_word (t : Nat → Bool) (al : Int) {a : Int} (ha : Obj a) : pS ((laidS t al).word a) = 1 := by
  obtain ⟨k, hk, rfl⟩ := ha
  rw [laidS, word_store (laidO_len t 16) ⟨by omega, by omega⟩ ⟨by omega, by omega⟩, if_neg (by omega), laidO_word t k hk 16 hk (Nat.le_refl _)]
  exact pS_hdr t k
theorem laid_good (t : Nat → Bool) (al : Int) : Good (laidS t al) := ⟨laid_len t al, fun a ha => laid_word t al ha⟩
theorem laidO_rng (t : Nat → Bool) : ∀ j, (laidO t j).Rng
  | 0 => St.Rng.new 160
  | j + 1 => (laidO_rng t j).store _ (u64_hw ..)
theorem laid_rng (t : Nat → Bool) (al : Int) : (laidS t al).Rng := (laidO_rng t 16).store _ (u64_wrap _)
theorem Good.asked {s : St} (g : Good s) (q : Ph) : Good (s.store 0 q.w) := ⟨n_store' g.len _ _, fun a ha => by
  have := ha.ge
  rw [word_store g.len In0 ha.in, if_neg (by omega)]
  exact g.S a ha⟩
theorem someL_obj' (len : Nat) (z : Nat → Int) (j : Nat) : someL len z j = 0 ∨ Obj (someL len z j) := someL_obj len z j
/-- either mode -/
def Wb (fx : Bool) (s0 : St) (q : Ph) (n : Nat) (l : Nat → Int) (x : PollS) (s : St) (r : Nat) : Prop := if fx then Wf s0 q n l x s r else Wr s0 q n l x s r
theorem fh3 (v : Int) (w : World) : (Instr.field 74 (.agg #[.int .i64 (pS v), .int .i64 (pC v), .int .i64 (pN v), .int .i64 (pM v), .int .i64 (pG v), .int .i64 (pT v), .int .i64 (pL v)]) 3).run Tryd.prog w = .ok (.int .i64 (pM v)) w := by kernel_rfl
theorem seen2 {w0 w : World} {b y N : Nat} {s1 s2 : St} (h : Two w0 w b y s1 s2 N) : ∃ g cp, Seen2 w y g cp s2 := by
  obtain ⟨⟨L, M, e1, rfl, hm, hr, hl, hl2⟩, _⟩ := h
  exact ⟨M.g, M.cp, hr.cell0, hr.cell2, fun j hj => hr.wcell j hj, hr.lt _ (by simp [Loc.fp]), hr.lt _ (by simp [Loc.fp])⟩
end Go.Proofs.YtoablodmodnamaaDoor
