/-
  Where four threads lie that make objects, what was told, and a look at the memory.
-/
import Derived.Test.YtbojljkdpebheaaDoorGn3
import Derived.Test.YtbojljkdpebheaaDoorAs
import Derived.Laws.StructEq
namespace Go.Proofs.YtbojljkdpebheaaDoor
set_option linter.unusedVariables false
set_option maxRecDepth 100000
open Go.ChangeShapes Go.WideShapes Go.RowKit
open S.Plain (t0 t1 tw nx bw b3)
open H.Plain (hw pL)
theorem lt4 {k : Nat} (h : k < 4) : k = 0 ∨ k = 1 ∨ k = 2 ∨ k = 3 := by omega
def row4 (f : Nat → Value) : Array Value := #[f 0, f 1, f 2, f 3]
theorem row4_get (f : Nat → Value) {k : Nat} (h : k < 4) : (row4 f)[k]? = some (f k) := by rcases lt4 h with rfl | rfl | rfl | rfl <;> rfl
theorem row4_set (f g : Nat → Value) {k : Nat} (h : k < 4) (u : Value) (hk : g k = u) (ho : ∀ j, j < 4 → j ≠ k → g j = f j) : (row4 f).setIfInBounds k u = row4 g := by
  have a0 := ho 0 (by omega); have a1 := ho 1 (by omega); have a2 := ho 2 (by omega); have a3 := ho 3 (by omega)
  rcases lt4 h with rfl | rfl | rfl | rfl
  · rw [row4, row4, a1 (by omega), a2 (by omega), a3 (by omega), hk]; rfl
  · rw [row4, row4, a0 (by omega), a2 (by omega), a3 (by omega), hk]; rfl
  · rw [row4, row4, a0 (by omega), a1 (by omega), a3 (by omega), hk]; rfl
  · rw [row4, row4, a0 (by omega), a1 (by omega), a2 (by omega), hk]; rfl
theorem Blk.ne' {w0 w : World} {p q : Nat} {T T' : TypeId} {cs cs' : Array Value} (h : Blk w0 w p T cs) (h' : Blk w0 w q T' cs') (hT : (T == T') = false) : p ≠ q := h.ne h' (by simpa using hT)
def marks (n : Nat) (f : Nat → Bool) : Array Value := ((List.range n).map fun j => Value.bool (f j)).toArray
theorem marks_at (n : Nat) (f : Nat → Bool) (j : Nat) (h : j < n) : (marks n f)[j]? = some (.bool (f j)) := by simp [marks, h]
theorem marks_set (n : Nat) (f f' : Nat → Bool) (j : Nat) (hj : f' j = true) (h : ∀ i, i ≠ j → f' i = f i) : (marks n f).setIfInBounds j (.bool true) = marks n f' := by
  apply Array.ext_getElem?
  intro i
  rw [Array.getElem?_setIfInBounds]
  by_cases hn : i < n
  · rw [marks_at n f' i hn, marks_at n f i hn]
    by_cases e : j = i
    · subst e
      rw [if_pos rfl, if_pos (by simp [marks]; exact hn), hj]
    · rw [if_neg e, h i fun h' => e h'.symm]
  · rw [show (marks n f')[i]? = none by simp [marks]; omega, show (marks n f)[i]? = none by simp [marks]; omega]
    split
    · rw [if_neg (by simp [marks]; omega)]
    · rfl
def pv (o : Option AllS) (p : Nat) : Value :=
  match o with
  | some _ => .pointer (some ⟨p, 0, none⟩)
  | none => .pointer none
structure Crew (w0 w : World) (ob ab nb eb K : Nat) (f : Nat → Bool) (jb : Nat → Option AllS) (pp : Nat → Nat) (ct : Nat → Int) (em : Nat → Bool) : Prop where
  o : Blk w0 w ob 4 (marks K f)
  a : Blk w0 w ab 36 (row4 fun k => pv (jb k) (pp k))
  n : Blk w0 w nb 37 (row4 fun k => .int .i64 (ct k))
  e : Blk w0 w eb 38 (row4 fun k => .bool (em k))
  m : ∀ k, k < 4 → ∀ x, jb k = some x → Blk w0 w (pp k) 85 x.cells ∧ x.Ok ∧ x.cnt = ct k
  apart : ∀ i, i < 4 → ∀ k, k < 4 → i ≠ k → ∀ x y, jb i = some x → jb k = some y → pp i ≠ pp k
section
variable {w0 w w' : World} {ob ab nb eb K k : Nat} {f : Nat → Bool} {jb : Nat → Option AllS} {pp : Nat → Nat} {ct : Nat → Int} {em : Nat → Bool} {x : AllS} {F : List Nat}
theorem Crew.ac (h : Crew w0 w ob ab nb eb K f jb pp ct em) (hk : k < 4) : w.cell? ⟨ab, k, none⟩ = some (pv (jb k) (pp k)) := (h.a.cell k).trans (row4_get _ hk)
theorem Crew.nc (h : Crew w0 w ob ab nb eb K f jb pp ct em) (hk : k < 4) : w.cell? ⟨nb, k, none⟩ = some (.int .i64 (ct k)) := (h.n.cell k).trans (row4_get _ hk)
theorem Crew.ec (h : Crew w0 w ob ab nb eb K f jb pp ct em) (hk : k < 4) : w.cell? ⟨eb, k, none⟩ = some (.bool (em k)) := (h.e.cell k).trans (row4_get _ hk)
theorem Crew.oc (h : Crew w0 w ob ab nb eb K f jb pp ct em) {i : Nat} (hi : i < K) : w.cell? ⟨ob, i, none⟩ = some (.bool (f i)) := (h.o.cell i).trans (marks_at _ _ _ hi)
/-- blocks of other kinds alone are written -/
theorem Crew.oth0 (h : Crew w0 w ob ab nb eb K f jb pp ct em) (o : Oth [] w w') : Crew w0 w' ob ab nb eb K f jb pp ct em :=
  ⟨h.o.oth o (by simp), h.a.oth o (by simp), h.n.oth o (by simp), h.e.oth o (by simp), fun k hk x e => ⟨(h.m k hk x e).1.oth o (by simp), (h.m k hk x e).2⟩, h.apart⟩
theorem Crew.below (h : Crew w0 w ob ab nb eb K f jb pp ct em) (hb : Below w.heap.size w w') : Crew w0 w' ob ab nb eb K f jb pp ct em := h.oth0 (Oth.below hb)
/-- a thread's step -/
theorem Crew.step (h : Crew w0 w ob ab nb eb K f jb pp ct em) (hk : k < 4) (hb : jb k = some x) {x' : AllS} (B : Blk w0 w' (pp k) 85 x'.cells) (ok : x'.Ok) (hc : x'.cnt = x.cnt) (ho : Oth [pp k] w w') : Crew w0 w' ob ab nb eb K f (upd jb k (some x')) pp ct em := by
  have M := (h.m k hk x hb).1
  refine ⟨h.o.oth ho (by simpa using h.o.ne' M (by decide)), ?_, h.n.oth ho (by simpa using h.n.ne' M (by decide)), h.e.oth ho (by simpa using h.e.ne' M (by decide)), ?_, ?_⟩
  · have X := h.a.oth ho (by simpa using h.a.ne' M (by decide))
    have e : (fun i => pv (upd jb k (some x') i) (pp i)) = fun i => pv (jb i) (pp i) := by
      funext i
      by_cases hik : i = k
      · subst hik; rw [upd_eq, hb]; rfl
      · rw [upd_ne _ _ hik]
    rw [e]; exact X
  · intro i hi y hy
    by_cases hik : i = k
    · subst hik; rw [upd_eq] at hy; obtain rfl := Option.some.inj hy; exact ⟨B, ok, hc.trans (h.m i hi x hb).2.2⟩
    · rw [upd_ne _ _ hik] at hy
      exact ⟨(h.m i hi y hy).1.oth ho (by simpa using h.apart i hi k hk hik y x hy hb), (h.m i hi y hy).2⟩
  · intro i hi j hj hij y z hy hz
    have g : ∀ i, i < 4 → ∀ y, upd jb k (some x') i = some y → ∃ y', jb i = some y' := fun i hi y hy => by
      by_cases hik : i = k
      · subst hik; exact ⟨x, hb⟩
      · rw [upd_ne _ _ hik] at hy; exact ⟨y, hy⟩
    obtain ⟨y', hy'⟩ := g i hi y hy
    obtain ⟨z', hz'⟩ := g j hj z hz
    exact h.apart i hi j hj hij y' z' hy' hz'
/-- a row's cell is written -/
theorem Crew.setE (h : Crew w0 w ob ab nb eb K f jb pp ct em) (hk : k < 4) (b : Bool) : Crew w0 (w.setCell ⟨eb, k, none⟩ (.bool b)) ob ab nb eb K f jb pp ct (upd em k b) := by
  have ho : Oth [eb] w (w.setCell ⟨eb, k, none⟩ (.bool b)) := Oth.set _ _ _ _ (by simp)
  refine ⟨h.o.oth ho (by simpa using h.o.ne' h.e (by decide)), h.a.oth ho (by simpa using h.a.ne' h.e (by decide)), h.n.oth ho (by simpa using h.n.ne' h.e (by decide)), ?_, fun i hi y hy => ⟨(h.m i hi y hy).1.oth ho (by simpa using (h.m i hi y hy).1.ne' h.e (by decide)), (h.m i hi y hy).2⟩, h.apart⟩
  have := h.e.set k (.bool b)
  rwa [row4_set _ (fun j => Value.bool (upd em k b j)) hk _ (by simp only [upd_eq]) (fun j _ hj => by simp only [upd_ne _ _ hj])] at this
theorem Crew.drop (h : Crew w0 w ob ab nb eb K f jb pp ct em) (hk : k < 4) : Crew w0 (w.setCell ⟨ab, k, none⟩ (.pointer none)) ob ab nb eb K f (upd jb k none) pp ct em := by
  have ho : Oth [ab] w (w.setCell ⟨ab, k, none⟩ (.pointer none)) := Oth.set _ _ _ _ (by simp)
  have dn : ∀ i, ∀ y, upd jb k none i = some y → jb i = some y := fun i y hy => by
    by_cases hik : i = k
    · subst hik; rw [upd_eq] at hy; exact absurd hy (by simp)
    · rwa [upd_ne _ _ hik] at hy
  refine ⟨h.o.oth ho (by simpa using h.o.ne' h.a (by decide)), ?_, h.n.oth ho (by simpa using h.n.ne' h.a (by decide)), h.e.oth ho (by simpa using h.e.ne' h.a (by decide)), fun i hi y hy => ?_, fun i hi j hj hij y z hy hz => h.apart i hi j hj hij y z (dn i y hy) (dn j z hz)⟩
  · have := h.a.set k (.pointer none)
    rwa [row4_set _ (fun j => pv (upd jb k none j) (pp j)) hk _ (by simp only [upd_eq]; rfl) (fun j _ hj => by simp only [upd_ne _ _ hj])] at this
  · have M := h.m i hi y (dn i y hy)
    exact ⟨M.1.oth ho (by simpa using M.1.ne' h.a (by decide)), M.2⟩
theorem Crew.mark (h : Crew w0 w ob ab nb eb K f jb pp ct em) {j : Nat} {f' : Nat → Bool} (hj : f' j = true) (hf : ∀ i, i ≠ j → f' i = f i) : Crew w0 (w.setCell ⟨ob, j, none⟩ (.bool true)) ob ab nb eb K f' jb pp ct em := by
  have ho : Oth [ob] w (w.setCell ⟨ob, j, none⟩ (.bool true)) := Oth.set _ _ _ _ (by simp)
  refine ⟨?_, h.a.oth ho (by simpa using h.a.ne' h.o (by decide)), h.n.oth ho (by simpa using h.n.ne' h.o (by decide)), h.e.oth ho (by simpa using h.e.ne' h.o (by decide)), fun i hi y hy => ⟨(h.m i hi y hy).1.oth ho (by simpa using (h.m i hi y hy).1.ne' h.o (by decide)), (h.m i hi y hy).2⟩, h.apart⟩
  have := h.o.set j (.bool true)
  rwa [marks_set K f f' j hj hf] at this
/-- a thread begins: its machine is new, and three rows' cells are written -/
theorem Crew.begin (h : Crew w0 w ob ab nb eb K f jb pp ct em) (hk : k < 4) {w6 : World} {p : Nat} {m : Int} (hb : Below w.heap.size w w6) (B : Blk w0 w6 p 85 x.cells) (ok : x.Ok) (hm : x.cnt = m) (hp : w.heap.size ≤ p) :
    Crew w0 (((w6.setCell ⟨ab, k, none⟩ (.pointer (some ⟨p, 0, none⟩))).setCell ⟨nb, k, none⟩ (.int .i64 m)).setCell ⟨eb, k, none⟩ (.bool false)) ob ab nb eb K f (upd jb k (some x)) (upd pp k p) (upd ct k m) (upd em k false) := by
  have h1 := h.below hb
  have oA : Oth [ab] w6 (w6.setCell ⟨ab, k, none⟩ (.pointer (some ⟨p, 0, none⟩))) := Oth.set _ _ _ _ (by simp)
  have oN : Oth [nb] (w6.setCell ⟨ab, k, none⟩ (.pointer (some ⟨p, 0, none⟩))) ((w6.setCell ⟨ab, k, none⟩ (.pointer (some ⟨p, 0, none⟩))).setCell ⟨nb, k, none⟩ (.int .i64 m)) := Oth.set _ _ _ _ (by simp)
  have oE : Oth [eb] ((w6.setCell ⟨ab, k, none⟩ (.pointer (some ⟨p, 0, none⟩))).setCell ⟨nb, k, none⟩ (.int .i64 m)) (((w6.setCell ⟨ab, k, none⟩ (.pointer (some ⟨p, 0, none⟩))).setCell ⟨nb, k, none⟩ (.int .i64 m)).setCell ⟨eb, k, none⟩ (.bool false)) := Oth.set _ _ _ _ (by simp)
  have all : ∀ {P : Nat} {T : TypeId} {cs : Array Value}, Blk w0 w6 P T cs → P ≠ ab → P ≠ nb → P ≠ eb → Blk w0 (((w6.setCell ⟨ab, k, none⟩ (.pointer (some ⟨p, 0, none⟩))).setCell ⟨nb, k, none⟩ (.int .i64 m)).setCell ⟨eb, k, none⟩ (.bool false)) P T cs := fun hP n1 n2 n3 => ((hP.oth oA (by simpa using n1)).oth oN (by simpa using n2)).oth oE (by simpa using n3)
  have nan : ab ≠ nb := h1.a.ne' h1.n (by decide)
  have nae : ab ≠ eb := h1.a.ne' h1.e (by decide)
  have nne : nb ≠ eb := h1.n.ne' h1.e (by decide)
  have far : ∀ i, i < 4 → ∀ y, jb i = some y → pp i ≠ p := fun i hi y hy => by have := (h.m i hi y hy).1.lt; omega
  refine ⟨all h1.o (h1.o.ne' h1.a (by decide)) (h1.o.ne' h1.n (by decide)) (h1.o.ne' h1.e (by decide)), ?_, ?_, ?_, ?_, ?_⟩
  · have := ((h1.a.set k (.pointer (some ⟨p, 0, none⟩))).oth oN (by simpa using nan)).oth oE (by simpa using nae)
    rwa [row4_set _ (fun j => pv (upd jb k (some x) j) (upd pp k p j)) hk _ (by simp only [upd_eq]; rfl) (fun j _ hj => by simp only [upd_ne _ _ hj])] at this
  · have := ((h1.n.oth oA (by simpa using Ne.symm nan)).set k (.int .i64 m)).oth oE (by simpa using nne)
    rwa [row4_set _ (fun j => Value.int .i64 (upd ct k m j)) hk _ (by simp only [upd_eq]) (fun j _ hj => by simp only [upd_ne _ _ hj])] at this
  · have := ((h1.e.oth oA (by simpa using Ne.symm nae)).oth oN (by simpa using Ne.symm nne)).set k (.bool false)
    rwa [row4_set _ (fun j => Value.bool (upd em k false j)) hk _ (by simp only [upd_eq]) (fun j _ hj => by simp only [upd_ne _ _ hj])] at this
  · intro i hi y hy
    by_cases hik : i = k
    · subst hik
      rw [upd_eq] at hy
      obtain rfl := Option.some.inj hy
      rw [upd_eq, upd_eq]
      exact ⟨all B (B.ne' h1.a (by decide)) (B.ne' h1.n (by decide)) (B.ne' h1.e (by decide)), ok, hm⟩
    · rw [upd_ne _ _ hik] at hy
      rw [upd_ne _ _ hik, upd_ne _ _ hik]
      have M := h1.m i hi y hy
      exact ⟨all M.1 (M.1.ne' h1.a (by decide)) (M.1.ne' h1.n (by decide)) (M.1.ne' h1.e (by decide)), M.2⟩
  · intro i hi j hj hij y z hy hz
    by_cases hik : i = k
    · subst hik
      rw [upd_ne _ _ (Ne.symm hij)] at hz
      rw [upd_eq, upd_ne _ _ (Ne.symm hij)]
      exact Ne.symm (far j hj z hz)
    · rw [upd_ne _ _ hik] at hy
      by_cases hjk : j = k
      · subst hjk
        rw [upd_eq, upd_ne _ _ hik]
        exact far i hi y hy
      · rw [upd_ne _ _ hjk] at hz
        rw [upd_ne _ _ hik, upd_ne _ _ hjk]
        exact h.apart i hi j hj hij y z hy hz
theorem Crew.start (h1 : Blk w0 w ob 4 (marks K fun _ => false)) (h2 : Blk w0 w ab 36 (row4 fun _ => .pointer none)) (h3 : Blk w0 w nb 37 (row4 fun _ => .int .i64 0)) (h4 : Blk w0 w eb 38 (row4 fun _ => .bool false)) :
    Crew w0 w ob ab nb eb K (fun _ => false) (fun _ => none) (fun _ => 0) (fun _ => 0) (fun _ => false) :=
  ⟨h1, h2, h3, h4, fun k hk x e => absurd e (by simp), fun i hi k hk hik x y e => absurd e (by simp)⟩
end
/-- a copy of the memory, in which is looked; the blocks F alone are written since -/
structure Look (w6 w : World) (F : List Nat) (c : Nat) (s : St) (N : Nat) : Prop where
  at_ : ∃ L : Loc, L.b = c ∧ Mm w L s ∧ ∀ k ∈ L.fp, w6.heap.size ≤ k
  kept : Kept F w6 w
  old : ∀ k ∈ F, k < w6.heap.size
  fit : s.Fit
  top : s.c ≤ N
  rng : s.Rng
section
variable {w6 w w' : World} {F : List Nat} {c N : Nat} {s : St}
theorem Look.of (h : Hand w6 w c s N) (hF : ∀ k ∈ F, k < w6.heap.size) : Look w6 w F c s N := by
  obtain ⟨⟨L, e, hm, hl⟩, hb, f, t, r, wd⟩ := h
  exact ⟨⟨L, e, hm, hl⟩, Kept.of_below hb, hF, f, t, r⟩
theorem Look.below (h : Look w6 w F c s N) (hb : Below w.heap.size w w') : Look w6 w' F c s N := by
  obtain ⟨L, e, hm, hl⟩ := h.at_
  exact ⟨⟨L, e, hm.below hb, hl⟩, h.kept.trans (Kept.of_below (F := []) hb) (by simp), h.old, h.fit, h.top, h.rng⟩
theorem Look.set (h : Look w6 w F c s N) {p : Nat} (hp : p ∈ F) (i : Nat) (u : Value) : Look w6 (w.setCell ⟨p, i, none⟩ u) F c s N := by
  obtain ⟨L, e, hm, hl⟩ := h.at_
  have hk : Kept [p] w (w.setCell ⟨p, i, none⟩ u) := Kept.setCell [p] _ _ _ (by simp)
  exact ⟨⟨L, e, hm.on hk fun k hk' e => by simp at e; subst e; have := hl k hk'; have := h.old k hp; omega, hl⟩, h.kept.trans hk (fun k hk' => .inl (by simp at hk'; subst hk'; exact hp)), h.old, h.fit, h.top, h.rng⟩
theorem Look.load (h : Look w6 w F c s N) (hN : N < 1000000) (a : Int) :
    Calls Tryd.prog 15 #[.pointer (some ⟨c, 0, none⟩), .int .i64 a] w fun e w' => e = .returned (.int .u64 (s.got a)) ∧ Look w6 w' F c (s.load a) (N + 1) ∧ Oth [] w w' := by
  obtain ⟨L, rfl, hm, hl⟩ := h.at_
  have ht := h.top
  have hc : s.c < 1000000 := by omega
  refine (cLoad hm h.fit hc a).mono ?_
  rintro e w' ⟨rfl, L', hm', st⟩
  exact ⟨rfl, ⟨⟨L', st.b, hm', fun k hk => (st.new k hk).elim (hl k) fun h' => Nat.le_trans h.kept.size h'⟩, h.kept.trans st.kept (fun k hk => .inr (hl k hk)), h.old, h.fit.load hc a, by rw [St.c_load]; omega, h.rng.load a⟩, Oth.step hm (by decide) st⟩
end
theorem hClone {w0 w : World} {b N : Nat} {s : St} (h : Hand w0 w b s N) : Calls Tryd.prog 13 #[.pointer (some ⟨b, 0, none⟩)] w fun e w' => ∃ c, e = .returned (.pointer (some ⟨c, 0, none⟩)) ∧ Hand w w' c s N := by
  have hwd := h.widw
  obtain ⟨⟨L, rfl, hm, _⟩, _, f, t, r, _⟩ := h
  refine (cClone hm f).mono ?_
  rintro e w' ⟨L', rfl, hm', hb', hl'⟩
  exact ⟨_, rfl, ⟨⟨L', rfl, hm', hl'⟩, hb', f, t, r, hwd⟩⟩
/-- the memory itself, behind a look -/
theorem Look.main {w0 w6 w : World} {ob ab nb eb K : Nat} {f : Nat → Bool} {jb : Nat → Option AllS} {pp : Nat → Nat} {ct : Nat → Int} {em : Nat → Bool} {b c N N' : Nat} {s s' : St} (h : Look w6 w [ob, ab, eb] c s N) (T : Hand w0 w6 b s' N') (C : Crew w0 w6 ob ab nb eb K f jb pp ct em) : Hand w0 w b s' N' :=
  T.kept h.kept fun k hk => by
    simp only [List.mem_cons, List.not_mem_nil, or_false] at hk
    rcases hk with rfl | rfl | rfl
    · exact ⟨C.o.old, _, _, _, C.o.hT, C.o.at_⟩
    · exact ⟨C.a.old, _, _, _, C.a.hT, C.a.at_⟩
    · exact ⟨C.e.old, _, _, _, C.e.hT, C.e.at_⟩
theorem neqHead (a b c d e f g : Int) (w : World) : (binOp .neq 50 (.agg #[.int .i64 a, .int .i64 b, .int .i64 c, .int .i64 d, .int .i64 e, .int .i64 f, .int .i64 g]) (.agg #[.int .i64 a, .int .i64 b, .int .i64 c, .int .i64 d, .int .i64 e, .int .i64 f, .int .i64 g])).run Tryd.prog w = .ok (.bool false) w := by
  have u3 := Tryd.underlying3
  have a3 := Tryd.isAgg3
  have z3 := Tryd.sizeOf3
  have hS : Tryd.prog.underlying 50 = some (.struct (Tryd.prog.fieldsOf 50)) := by kernel_rfl
  have hp : Tryd.prog.stoodInHeld 50 = false := by kernel_rfl
  rw [run_neq_struct, show (10000 : Nat) = 9999 + 1 from rfl, run_equalIn_agg w 9999 50 _ _ hS hp]
  simp only [Program.fieldsOf, Tryd.underlying50]
  go_simp
theorem kd_nat (c n : Int) (h : 0 < n) : ∃ m : Nat, kd c n = m ∧ (m : Int) < n := by
  have := kd_bounds c n h
  exact ⟨(kd c n).toNat, by omega, by omega⟩
end Go.Proofs.YtbojljkdpebheaaDoor
