/-
  Where three takers lie, and what a law does to them.
-/
import Derived.Test.YtilknjihceemhaaDoorKn
import Derived.Test.YtilknjihceemhaaDoorWb
namespace Go.Proofs.YtilknjihceemhaaDoor
set_option linter.unusedVariables false
set_option maxRecDepth 100000
open Go.ChangeShapes Go.WideShapes Go.RowKit
open S.Plain (t0 t1 tw nx bw b0 b1 b2 b3)
open H.Plain (hw pL)

def pv (o : Option TakeS) (p : Nat) : Value :=
  match o with
  | some _ => .pointer (some ⟨p, 0, none⟩)
  | none => .pointer none
structure Crew (w0 w : World) (n o tb xb nb : Nat) (jb : Nat → Option TakeS) (pp : Nat → Nat) (nn : Nat → Bool) (T : Nat → Nat) : Prop where
  pl : Blk w0 w o 25 (mkPl 3 n).cells
  t : Blk w0 w tb 34 #[.int .i64 (T 0), .int .i64 (T 1), .int .i64 (T 2), .int .i64 (T 3), .int .i64 (T 4), .int .i64 (T 5), .int .i64 (T 6), .int .i64 (T 7)]
  x : Blk w0 w xb 36 #[pv (jb 0) (pp 0), pv (jb 1) (pp 1), pv (jb 2) (pp 2)]
  n : Blk w0 w nb 37 #[.bool (nn 0), .bool (nn 1), .bool (nn 2)]
  m : ∀ k, k < 3 → ∀ x, jb k = some x → Blk w0 w (pp k) 73 x.cells ∧ x.Ok
  apart : ∀ i, i < 3 → ∀ k, k < 3 → i ≠ k → ∀ x y, jb i = some x → jb k = some y → pp i ≠ pp k
theorem lt3 {k : Nat} (h : k < 3) : k = 0 ∨ k = 1 ∨ k = 2 := by omega
theorem lt8 {k : Nat} (h : k < 8) : k = 0 ∨ k = 1 ∨ k = 2 ∨ k = 3 ∨ k = 4 ∨ k = 5 ∨ k = 6 ∨ k = 7 := by omega
section
variable {w0 w w' : World} {n o tb xb nb k : Nat} {jb : Nat → Option TakeS} {pp : Nat → Nat} {nn : Nat → Bool} {T : Nat → Nat} {x : TakeS}
theorem Crew.xc (h : Crew w0 w n o tb xb nb jb pp nn T) (hk : k < 3) : w.cell? ⟨xb, k, none⟩ = some (pv (jb k) (pp k)) := by
  rw [h.x.cell]
  rcases lt3 hk with rfl | rfl | rfl <;> rfl
theorem Crew.nc (h : Crew w0 w n o tb xb nb jb pp nn T) (hk : k < 3) : w.cell? ⟨nb, k, none⟩ = some (.bool (nn k)) := by
  rw [h.n.cell]
  rcases lt3 hk with rfl | rfl | rfl <;> rfl
theorem Crew.tc (h : Crew w0 w n o tb xb nb jb pp nn T) (hk : k < 8) : w.cell? ⟨tb, k, none⟩ = some (.int .i64 (T k)) := by
  rw [h.t.cell]
  rcases lt8 hk with rfl | rfl | rfl | rfl | rfl | rfl | rfl | rfl <;> rfl
theorem Crew.below (h : Crew w0 w n o tb xb nb jb pp nn T) (hb : Below w.heap.size w w') : Crew w0 w' n o tb xb nb jb pp nn T :=
  ⟨h.pl.below hb, h.t.below hb, h.x.below hb, h.n.below hb, fun k hk x e => ⟨(h.m k hk x e).1.below hb, (h.m k hk x e).2⟩, h.apart⟩
theorem Blk.ne' {w0 w : World} {p q : Nat} {T T' : TypeId} {cs cs' : Array Value} (h : Blk w0 w p T cs) (h' : Blk w0 w q T' cs') (hT : (T == T') = false) : p ≠ q := h.ne h' (by simpa using hT)
/-- a taker's step -/
theorem Crew.step (h : Crew w0 w n o tb xb nb jb pp nn T) (hk : k < 3) (hb : jb k = some x) {x' : TakeS} (B : Blk w0 w' (pp k) 73 x'.cells) (ok : x'.Ok) (ho : Oth [pp k] w w') : Crew w0 w' n o tb xb nb (upd jb k (some x')) pp nn T := by
  have M := (h.m k hk x hb).1
  refine ⟨h.pl.oth ho (by simpa using h.pl.ne' M (by decide)), h.t.oth ho (by simpa using h.t.ne' M (by decide)), ?_, h.n.oth ho (by simpa using h.n.ne' M (by decide)), ?_, ?_⟩
  · have X := h.x.oth ho (by simpa using h.x.ne' M (by decide))
    have e : ∀ i, i < 3 → pv (upd jb k (some x') i) (pp i) = pv (jb i) (pp i) := fun i hi => by
      by_cases hik : i = k
      · subst hik; rw [upd_eq, hb]; rfl
      · rw [upd_ne _ _ hik]
    rw [e 0 (by omega), e 1 (by omega), e 2 (by omega)]
    exact X
  · intro i hi y hy
    by_cases hik : i = k
    · subst hik; rw [upd_eq] at hy; obtain rfl := Option.some.inj hy; exact ⟨B, ok⟩
    · rw [upd_ne _ _ hik] at hy
      exact ⟨(h.m i hi y hy).1.oth ho (by simpa using h.apart i hi k hk hik y x hy hb), (h.m i hi y hy).2⟩
  · intro i hi j hj hij y z hy hz
    have f : ∀ i, i < 3 → ∀ y, upd jb k (some x') i = some y → ∃ y', jb i = some y' := fun i hi y hy => by
      by_cases hik : i = k
      · subst hik; exact ⟨x, hb⟩
      · rw [upd_ne _ _ hik] at hy; exact ⟨y, hy⟩
    obtain ⟨y', hy'⟩ := f i hi y hy
    obtain ⟨z', hz'⟩ := f j hj z hz
    exact h.apart i hi j hj hij y' z' hy' hz'
/-- a taker is let go -/
theorem Crew.drop (h : Crew w0 w n o tb xb nb jb pp nn T) (hk : k < 3) : Crew w0 (w.setCell ⟨xb, k, none⟩ (.pointer none)) n o tb xb nb (upd jb k none) pp nn T := by
  have ho : Oth [xb] w (w.setCell ⟨xb, k, none⟩ (.pointer none)) := Oth.set _ _ _ _ (by simp)
  refine ⟨h.pl.oth ho (by simpa using h.pl.ne' h.x (by decide)), h.t.oth ho (by simpa using h.t.ne' h.x (by decide)), ?_, h.n.oth ho (by simpa using h.n.ne' h.x (by decide)), ?_, ?_⟩
  · have := h.x.set k (.pointer none)
    rcases lt3 hk with rfl | rfl | rfl <;> exact this
  · intro i hi y hy
    by_cases hik : i = k
    · subst hik; rw [upd_eq] at hy; exact absurd hy (by simp)
    · rw [upd_ne _ _ hik] at hy
      have M := h.m i hi y hy
      exact ⟨M.1.oth ho (by simpa using M.1.ne' h.x (by decide)), M.2⟩
  · intro i hi j hj hij y z hy hz
    by_cases hik : i = k
    · subst hik; rw [upd_eq] at hy; exact absurd hy (by simp)
    · by_cases hjk : j = k
      · subst hjk; rw [upd_eq] at hz; exact absurd hz (by simp)
      · rw [upd_ne _ _ hik] at hy
        rw [upd_ne _ _ hjk] at hz
        exact h.apart i hi j hj hij y z hy hz
/-- a new taker: it lies behind all that there was -/
theorem Crew.new (h : Crew w0 w n o tb xb nb jb pp nn T) (hk : k < 3) {p : Nat} (hb : Below w.heap.size w w') (B : Blk w0 w' p 73 x.cells) (ok : x.Ok) (hp : w.heap.size ≤ p) :
    Crew w0 (w'.setCell ⟨xb, k, none⟩ (.pointer (some ⟨p, 0, none⟩))) n o tb xb nb (upd jb k (some x)) (upd pp k p) nn T := by
  have h1 := h.below hb
  have ho : Oth [xb] w' (w'.setCell ⟨xb, k, none⟩ (.pointer (some ⟨p, 0, none⟩))) := Oth.set _ _ _ _ (by simp)
  refine ⟨h1.pl.oth ho (by simpa using h1.pl.ne' h1.x (by decide)), h1.t.oth ho (by simpa using h1.t.ne' h1.x (by decide)), ?_, h1.n.oth ho (by simpa using h1.n.ne' h1.x (by decide)), ?_, ?_⟩
  · have := h1.x.set k (.pointer (some ⟨p, 0, none⟩))
    rcases lt3 hk with rfl | rfl | rfl <;> exact this
  · intro i hi y hy
    by_cases hik : i = k
    · subst hik
      rw [upd_eq] at hy
      obtain rfl := Option.some.inj hy
      rw [upd_eq]
      exact ⟨B.oth ho (by simpa using B.ne' h1.x (by decide)), ok⟩
    · rw [upd_ne _ _ hik] at hy
      rw [upd_ne _ _ hik]
      have M := h1.m i hi y hy
      exact ⟨M.1.oth ho (by simpa using M.1.ne' h1.x (by decide)), M.2⟩
  · have far : ∀ i, i < 3 → ∀ y, jb i = some y → pp i ≠ p := fun i hi y hy => by have := (h.m i hi y hy).1.lt; omega
    intro i hi j hj hij y z hy hz
    by_cases hik : i = k
    · subst hik
      rw [upd_ne _ _ (Ne.symm hij)] at hz
      rw [upd_eq, upd_ne _ _ (Ne.symm hij)]
      exact Ne.symm (far j hj z hz)
    · rw [upd_ne _ _ hik] at hy
      by_cases hjk : j = k
      · subst hjk
        rw [upd_eq, upd_ne _ _ hik]
        exact far i hi y hy
      · rw [upd_ne _ _ hjk] at hz
        rw [upd_ne _ _ hik, upd_ne _ _ hjk]
        exact h.apart i hi j hj hij y z hy hz
theorem Crew.same (h : Crew w0 w n o tb xb nb jb pp nn T) {F : List Nat} (ho : Oth F w w') (h1 : o ∉ F) (h2 : xb ∉ F) (h3 : ∀ i, i < 3 → ∀ y, jb i = some y → pp i ∉ F) :
    Blk w0 w' o 25 (mkPl 3 n).cells ∧ Blk w0 w' xb 36 #[pv (jb 0) (pp 0), pv (jb 1) (pp 1), pv (jb 2) (pp 2)] ∧ ∀ k, k < 3 → ∀ x, jb k = some x → Blk w0 w' (pp k) 73 x.cells ∧ x.Ok :=
  ⟨h.pl.oth ho h1, h.x.oth ho h2, fun k hk y hy => ⟨(h.m k hk y hy).1.oth ho (h3 k hk y hy), (h.m k hk y hy).2⟩⟩
theorem Crew.setN (h : Crew w0 w n o tb xb nb jb pp nn T) (hk : k < 3) : Crew w0 (w.setCell ⟨nb, k, none⟩ (.bool true)) n o tb xb nb jb pp (upd nn k true) T := by
  have ho : Oth [nb] w (w.setCell ⟨nb, k, none⟩ (.bool true)) := Oth.set _ _ _ _ (by simp)
  obtain ⟨s1, s2, s3⟩ := h.same ho (by simpa using h.pl.ne' h.n (by decide)) (by simpa using h.x.ne' h.n (by decide)) (fun i hi y hy => by simpa using (h.m i hi y hy).1.ne' h.n (by decide))
  refine ⟨s1, h.t.oth ho (by simpa using h.t.ne' h.n (by decide)), s2, ?_, s3, h.apart⟩
  have := h.n.set k (.bool true)
  rcases lt3 hk with rfl | rfl | rfl <;> exact this
theorem Crew.setT (h : Crew w0 w n o tb xb nb jb pp nn T) {a : Nat} (ha : a < 8) : Crew w0 (w.setCell ⟨tb, a, none⟩ (.int .i64 1)) n o tb xb nb jb pp nn (upd T a 1) := by
  have ho : Oth [tb] w (w.setCell ⟨tb, a, none⟩ (.int .i64 1)) := Oth.set _ _ _ _ (by simp)
  obtain ⟨s1, s2, s3⟩ := h.same ho (by simpa using h.pl.ne' h.t (by decide)) (by simpa using h.x.ne' h.t (by decide)) (fun i hi y hy => by simpa using (h.m i hi y hy).1.ne' h.t (by decide))
  refine ⟨s1, ?_, s2, h.n.oth ho (by simpa using h.n.ne' h.t (by decide)), s3, h.apart⟩
  have := h.t.set a (.int .i64 1)
  rcases lt8 ha with rfl | rfl | rfl | rfl | rfl | rfl | rfl | rfl <;> exact this
theorem Crew.start (h1 : Blk w0 w o 25 (mkPl 3 n).cells) (h2 : Blk w0 w tb 34 #[.int .i64 0, .int .i64 0, .int .i64 0, .int .i64 0, .int .i64 0, .int .i64 0, .int .i64 0, .int .i64 0]) (h3 : Blk w0 w xb 36 #[.pointer none, .pointer none, .pointer none])
    (h4 : Blk w0 w nb 37 #[.bool false, .bool false, .bool false]) : Crew w0 w n o tb xb nb (fun _ => none) (fun _ => 0) (fun _ => false) (fun _ => 0) :=
  ⟨h1, h2, h3, h4, fun k hk x e => absurd e (by simp), fun i hi k hk hik x y e => absurd e (by simp)⟩
end
/-- how many rounds there are till the taker's next turn -/
def till (i k : Nat) : Nat := (k + 3 - i % 3) % 3
/-- all come to an end in time -/
def Live (n : Nat) (s : St) (j : Nat) (jb : Nat → Option TakeS) (nn : Nat → Bool) (i : Nat) : Prop := ∀ k, k < 3 → nn k = true ∨ i < 400 ∨ 3 * pot n s j k (jb k) + till i k + i ≤ 927
section
variable {n : Nat} {s s' : St} {j j' k i : Nat} {jb jb' : Nat → Option TakeS} {nn nn' : Nat → Bool} {T T' : Nat → Nat}
theorem Live.next (h : Live n s j jb nn i) (g : Game n s' j' jb' nn' T') (hk : k < 3) (hi : 400 ≤ i → k = i % 3) (h1 : nn' k = true ∨ nn k = false ∧ pot n s' j' k (jb' k) < pot n s j k (jb k)) (h2 : ∀ m, m < 3 → m ≠ k → nn' m = nn m ∧ pot n s' j' m (jb' m) ≤ pot n s j m (jb m)) : Live n s' j' jb' nn' (i + 1) := by
  intro m hm
  by_cases h4 : i + 1 < 400
  · exact .inr (.inl h4)
  · by_cases h5 : i < 400
    · have := pot_le g hm
      refine .inr (.inr ?_)
      unfold till
      omega
    · have hik := hi (by omega)
      by_cases e : m = k
      · subst e
        rcases h1 with h1 | ⟨h0, h1⟩
        · exact .inl h1
        · rcases h m hm with q | q | q
          · rw [h0] at q; exact absurd q (by decide)
          · omega
          · refine .inr (.inr ?_)
            unfold till at *
            omega
      · obtain ⟨e1, e2⟩ := h2 m hm e
        rcases h m hm with q | q | q
        · exact .inl (e1.trans q)
        · omega
        · refine .inr (.inr ?_)
          unfold till at *
          omega
theorem Live.skip (h : Live n s j jb nn i) (g : Game n s j jb nn T) (hk : k < 3) (hi : 400 ≤ i → k = i % 3) (h1 : nn k = true) : Live n s j jb nn (i + 1) :=
  h.next g hk hi (.inl h1) fun m _ _ => ⟨rfl, Nat.le_refl _⟩
theorem Live.end_ (h : Live n s j jb nn 1200) (hk : k < 3) : nn k = true := by
  rcases h k hk with q | q | q
  · exact q
  · omega
  · omega
end
end Go.Proofs.YtilknjihceemhaaDoor
