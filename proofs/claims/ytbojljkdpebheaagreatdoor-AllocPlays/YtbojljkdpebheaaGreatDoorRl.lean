/-
  Four workers of the law on steps in any order: where they lie.
-/
import Derived.Test.YtbojljkdpebheaaGreatDoorRa3
namespace Go.Proofs.YtbojljkdpebheaaGreatDoor
set_option linter.unusedVariables false
set_option maxRecDepth 100000
open Go.ChangeShapes Go.WideShapes Go.RowKit
open S.Plain (t0 t1 tw nx bw b3)
open H.Plain (hw pL)
section
variable {w0 w w' : World} {b y p : Nat} {s1 s2 : St} {N : Nat}
/-- the program's machines over two memories -/
theorem tAll {x : AllS} (h : Two w0 w b y s1 s2 N) (hp : Blk w0 w p 82 x.cells) (ok : x.Ok) (hN : N < 1000000) :
    Calls Tryz.prog 12 #[.pointer (some ⟨p, 0, none⟩), .pointer (some ⟨b, 0, none⟩)] w fun e w' => e = .returned (.bool ((x.next s1).pc == 0)) ∧
      Two w0 w' b y (x.mem s1) s2 (N + 1) ∧ Blk w0 w' p 82 (x.next s1).cells ∧ Oth [p] w w' := by
  have ht := h.top1
  have hc : s1.c < 1000000 := by omega
  have f := h.fit1
  have r := h.rng1
  obtain ⟨L, rfl, A, k⟩ := h.went1 hp
  refine (cAllI A.in_ ok f hc r).mono ?_
  rintro e w' ⟨rfl, L', A', g⟩
  have := AllS.count (s := s1) ok
  exact ⟨rfl, k A'.out g (AllS.fit ok f hc) (AllS.rng ok r) (by omega) (by omega)⟩
theorem tRes {x : ResS} (h : Two w0 w b y s1 s2 N) (hp : Blk w0 w p 80 x.cells) (ok : x.Ok) (hN : N < 1000000) :
    Calls Tryz.prog 15 #[.pointer (some ⟨p, 0, none⟩), .pointer (some ⟨b, 0, none⟩)] w fun e w' => e = .returned (.bool ((x.next s1).pc == 0)) ∧
      Two w0 w' b y (x.mem s1) s2 (N + 1) ∧ Blk w0 w' p 80 (x.next s1).cells ∧ Oth [p] w w' := by
  have ht := h.top1
  have hc : s1.c < 1000000 := by omega
  have f := h.fit1
  have r := h.rng1
  obtain ⟨L, rfl, A, k⟩ := h.went1 hp
  refine (cResI A.in_ ok f hc r).mono ?_
  rintro e w' ⟨rfl, L', A', g⟩
  have := ResS.count (s := s1) ok
  exact ⟨rfl, k A'.out g (ResS.fit ok f hc) (ResS.rng ok r) (by omega) (by omega)⟩
end
/-- what a worker has under way -/
inductive Jb where
  | idle
  | all (x : AllS)
  | res (x : ResS)
/-- a worker: its job; where the program's machine and the reference's lie; what else the reference's rows hold -/
structure Wk where
  job : Jb
  pm : Nat
  am : Nat
  rp : Nat
  xp : Nat
  yv : Value
  Y : List Nat
  vb : Value
  vd : Value
def ptr (p : Nat) : Value := .pointer (some ⟨p, 0, none⟩)
def Wk.ca (t : Wk) : Value := match t.job with | .all _ => ptr t.pm | _ => .pointer none
def Wk.cb (t : Wk) : Value := match t.job with | .all _ => ptr t.am | _ => t.vb
def Wk.cc (t : Wk) : Value := match t.job with | .res _ => ptr t.pm | _ => .pointer none
def Wk.cd (t : Wk) : Value := match t.job with | .res _ => ptr t.rp | _ => t.vd
def Wk.fp (t : Wk) : List Nat := match t.job with | .idle => [] | .all _ => t.pm :: t.am :: t.rp :: t.xp :: t.Y | .res _ => t.pm :: t.rp :: t.xp :: t.Y
def Wk.Is (w0 w : World) (t : Wk) : Prop :=
  match t.job with
  | .idle => True
  | .all x => Blk w0 w t.pm 82 x.cells ∧ x.Ok ∧ RAl w0 w t.am t.rp t.xp t.yv t.Y x
  | .res x => Blk w0 w t.pm 80 x.cells ∧ x.Ok ∧ RRs w0 w t.rp t.xp t.yv t.Y x
/-- it is under way -/
def Wk.Go (t : Wk) : Prop := match t.job with | .idle => True | .all x => 1 ≤ x.pc | .res x => 1 ≤ x.pc
def kinds : List TypeId := [82, 80, 50, 54, 90, 94, 140]
section
variable {w0 w w' : World} {t : Wk} {F : List Nat}
theorem Wk.Is.oth (h : t.Is w0 w) (o : Oth F w w') (d : ∀ x ∈ t.fp, x ∉ F) : t.Is w0 w' := by
  obtain ⟨job, pm, am, rp, xp, yv, Y, vb, vd⟩ := t
  cases job with
  | idle => trivial
  | all x =>
    obtain ⟨h1, h2, h4⟩ := h
    exact ⟨h1.oth o (d pm (by simp [Wk.fp])), h2, h4.oth o fun k hk => d k (List.mem_cons_of_mem _ hk)⟩
  | res x =>
    obtain ⟨h1, h2, h4⟩ := h
    exact ⟨h1.oth o (d pm (by simp [Wk.fp])), h2, h4.oth o fun k hk => d k (List.mem_cons_of_mem _ hk)⟩
theorem Wk.Is.kind (h : t.Is w0 w) : ∀ x ∈ t.fp, ∃ cs T, Blk w0 w x T cs ∧ T ∈ kinds := by
  intro k hk
  obtain ⟨job, pm, am, rp, xp, yv, Y, vb, vd⟩ := t
  cases job with
  | idle => simp [Wk.fp] at hk
  | all x =>
    obtain ⟨h1, h2, h4⟩ := h
    rcases List.mem_cons.1 hk with rfl | hk
    · exact ⟨_, _, h1, by simp [kinds]⟩
    · obtain ⟨cs, T, e1, e2⟩ := h4.kind k hk
      exact ⟨cs, T, e1, List.mem_cons_of_mem _ (List.mem_cons_of_mem _ e2)⟩
  | res x =>
    obtain ⟨h1, h2, h4⟩ := h
    rcases List.mem_cons.1 hk with rfl | hk
    · exact ⟨_, _, h1, by simp [kinds]⟩
    · obtain ⟨cs, T, e1, e2⟩ := h4.kind k hk
      exact ⟨cs, T, e1, List.mem_cons_of_mem _ (List.mem_cons_of_mem _ (List.mem_cons_of_mem _ e2))⟩
theorem Wk.Is.lt (h : t.Is w0 w) : ∀ x ∈ t.fp, x < w.heap.size := fun x hx => by
  obtain ⟨_, _, hc, _⟩ := h.kind x hx
  exact hc.lt
/-- a block of yet another kind is none of a worker's -/
theorem Wk.Is.ne (h : t.Is w0 w) {B : Nat} {T : TypeId} {cs : Array Value} (hB : Blk w0 w B T cs) (hT : T ∉ kinds) : B ∉ t.fp := fun hx => by
  obtain ⟨c', T', hc, hm⟩ := h.kind B hx
  have := hB.at_
  rw [hc.at_] at this
  simp at this
  exact hT (this.2 ▸ hm)
end
def updW (wk : Nat → Wk) (k : Nat) (t : Wk) : Nat → Wk := fun j => if j = k then t else wk j
theorem updW_eq (wk : Nat → Wk) (k : Nat) (t : Wk) : updW wk k t k = t := if_pos rfl
theorem updW_ne (wk : Nat → Wk) {k j : Nat} (t : Wk) (h : j ≠ k) : updW wk k t j = wk j := if_neg h
theorem lt4 {k : Nat} (h : k < 4) : k = 0 ∨ k = 1 ∨ k = 2 ∨ k = 3 := by omega
def row4 (f : Nat → Value) : Array Value := #[f 0, f 1, f 2, f 3]
theorem row4_get (f : Nat → Value) {k : Nat} (h : k < 4) : (row4 f)[k]? = some (f k) := by rcases lt4 h with rfl | rfl | rfl | rfl <;> rfl
theorem row4_set (f g : Nat → Value) {k : Nat} (h : k < 4) (u : Value) (hk : g k = u) (ho : ∀ j, j < 4 → j ≠ k → g j = f j) : (row4 f).setIfInBounds k u = row4 g := by
  have a0 := ho 0 (by omega); have a1 := ho 1 (by omega); have a2 := ho 2 (by omega); have a3 := ho 3 (by omega)
  rcases lt4 h with rfl | rfl | rfl | rfl
  · rw [row4, row4, a1 (by omega), a2 (by omega), a3 (by omega), hk]; rfl
  · rw [row4, row4, a0 (by omega), a2 (by omega), a3 (by omega), hk]; rfl
  · rw [row4, row4, a0 (by omega), a1 (by omega), a3 (by omega), hk]; rfl
  · rw [row4, row4, a0 (by omega), a1 (by omega), a2 (by omega), hk]; rfl
structure Team (w0 w : World) (ab bb cb db : Nat) (wk : Nat → Wk) : Prop where
  a : Blk w0 w ab 35 (row4 fun k => (wk k).ca)
  b : Blk w0 w bb 37 (row4 fun k => (wk k).cb)
  c : Blk w0 w cb 39 (row4 fun k => (wk k).cc)
  d : Blk w0 w db 41 (row4 fun k => (wk k).cd)
  is : ∀ k, k < 4 → (wk k).Is w0 w
  apart : ∀ j, j < 4 → ∀ k, k < 4 → j ≠ k → ∀ x ∈ (wk j).fp, x ∉ (wk k).fp
section
variable {w0 w w' : World} {ab bb cb db k : Nat} {wk : Nat → Wk} {t : Wk} {F : List Nat}
theorem Team.below (h : Team w0 w ab bb cb db wk) (hb : Below w.heap.size w w') : Team w0 w' ab bb cb db wk :=
  ⟨h.a.below hb, h.b.below hb, h.c.below hb, h.d.below hb, fun k hk => (h.is k hk).oth (F := []) (Oth.below hb) (by simp), h.apart⟩
theorem Team.ac (h : Team w0 w ab bb cb db wk) (hk : k < 4) : w.cell? ⟨ab, k, none⟩ = some (wk k).ca := (h.a.cell k).trans (row4_get _ hk)
theorem Team.bc (h : Team w0 w ab bb cb db wk) (hk : k < 4) : w.cell? ⟨bb, k, none⟩ = some (wk k).cb := (h.b.cell k).trans (row4_get _ hk)
theorem Team.cc (h : Team w0 w ab bb cb db wk) (hk : k < 4) : w.cell? ⟨cb, k, none⟩ = some (wk k).cc := (h.c.cell k).trans (row4_get _ hk)
theorem Team.dc (h : Team w0 w ab bb cb db wk) (hk : k < 4) : w.cell? ⟨db, k, none⟩ = some (wk k).cd := (h.d.cell k).trans (row4_get _ hk)
/-- nobody but worker k is written: the others, and the rows -/
theorem Team.rest (h : Team w0 w ab bb cb db wk) (hk : k < 4) (o : Oth F w w') (hF : ∀ x ∈ F, x ∈ (wk k).fp) :
    Blk w0 w' ab 35 (row4 fun k => (wk k).ca) ∧ Blk w0 w' bb 37 (row4 fun k => (wk k).cb) ∧ Blk w0 w' cb 39 (row4 fun k => (wk k).cc) ∧ Blk w0 w' db 41 (row4 fun k => (wk k).cd) ∧ ∀ j, j < 4 → j ≠ k → (wk j).Is w0 w' :=
  ⟨h.a.oth o fun e => (h.is k hk).ne h.a (by decide) (hF _ e), h.b.oth o fun e => (h.is k hk).ne h.b (by decide) (hF _ e), h.c.oth o fun e => (h.is k hk).ne h.c (by decide) (hF _ e), h.d.oth o fun e => (h.is k hk).ne h.d (by decide) (hF _ e),
    fun j hj hjk => (h.is j hj).oth o fun x hx e => h.apart j hj k hk hjk x hx (hF x e)⟩
/-- worker k's machines went on: its cells are as they were -/
theorem Team.step (h : Team w0 w ab bb cb db wk) (hk : k < 4) (o : Oth F w w') (hF : ∀ x ∈ F, x ∈ (wk k).fp) (ht : t.Is w0 w') (ha : t.ca = (wk k).ca) (hb : t.cb = (wk k).cb) (hc : t.cc = (wk k).cc) (hd : t.cd = (wk k).cd) (hfp : ∀ x ∈ t.fp, x ∈ (wk k).fp ∨ w.heap.size ≤ x) : Team w0 w' ab bb cb db (updW wk k t) := by
  obtain ⟨r1, r2, r3, r4, r5⟩ := h.rest hk o hF
  have e : ∀ (f : Wk → Value), f t = f (wk k) → (fun j => f (updW wk k t j)) = fun j => f (wk j) := fun f hf => by
    funext j
    by_cases hj : j = k
    · subst hj; rw [updW_eq, hf]
    · rw [updW_ne _ _ hj]
  refine ⟨by rw [e Wk.ca ha]; exact r1, by rw [e Wk.cb hb]; exact r2, by rw [e Wk.cc hc]; exact r3, by rw [e Wk.cd hd]; exact r4, fun j hj => ?_, fun i hi j hj hij => ?_⟩
  · by_cases e : j = k
    · subst e; rw [updW_eq]; exact ht
    · rw [updW_ne _ _ e]; exact r5 j hj e
  · by_cases ei : i = k
    · subst ei
      rw [updW_eq, updW_ne _ _ (Ne.symm hij)]
      intro x hx hx'
      rcases hfp x hx with h' | h'
      · exact h.apart i hi j hj hij x h' hx'
      · have := (h.is j hj).lt x hx'; omega
    · rw [updW_ne _ _ ei]
      by_cases ej : j = k
      · subst ej
        rw [updW_eq]
        intro x hx hx'
        rcases hfp x hx' with h' | h'
        · exact h.apart i hi j hj hij x hx h'
        · have := (h.is i hi).lt x hx; omega
      · rw [updW_ne _ _ ej]; exact h.apart i hi j hj hij
/-- a row's cell is written, and worker k is another then; none of its blocks is written -/
theorem Team.set (h : Team w0 w ab bb cb db wk) (hk : k < 4) {B : Nat} {u : Value} (hB : B = ab ∨ B = bb ∨ B = cb ∨ B = db) (ht : t.Is w0 (w.setCell ⟨B, k, none⟩ u)) (hfp : ∀ x ∈ t.fp, x ∈ (wk k).fp ∨ ∀ j, j < 4 → x ∉ (wk j).fp)
    (ha : t.ca = if B = ab then u else (wk k).ca) (hb : t.cb = if B = bb then u else (wk k).cb) (hc : t.cc = if B = cb then u else (wk k).cc) (hd : t.cd = if B = db then u else (wk k).cd) : Team w0 (w.setCell ⟨B, k, none⟩ u) ab bb cb db (updW wk k t) := by
  have nab : ab ≠ bb := h.a.ne' h.b (by decide)
  have nac : ab ≠ cb := h.a.ne' h.c (by decide)
  have nad : ab ≠ db := h.a.ne' h.d (by decide)
  have nbc : bb ≠ cb := h.b.ne' h.c (by decide)
  have nbd : bb ≠ db := h.b.ne' h.d (by decide)
  have ncd : cb ≠ db := h.c.ne' h.d (by decide)
  have ho : Oth [B] w (w.setCell ⟨B, k, none⟩ u) := Oth.set _ _ _ _ (by simp)
  have hne : ∀ j, j < 4 → B ∉ (wk j).fp := fun j hj => by
    rcases hB with rfl | rfl | rfl | rfl
    · exact (h.is j hj).ne h.a (by decide)
    · exact (h.is j hj).ne h.b (by decide)
    · exact (h.is j hj).ne h.c (by decide)
    · exact (h.is j hj).ne h.d (by decide)
  have row : ∀ {X : Nat} {T : TypeId} (f : Wk → Value), Blk w0 w X T (row4 fun j => f (wk j)) → f t = (if B = X then u else f (wk k)) → Blk w0 (w.setCell ⟨B, k, none⟩ u) X T (row4 fun j => f (updW wk k t j)) := by
    intro X T f hX hf
    by_cases e : B = X
    · subst e
      have := hX.set k u
      rwa [row4_set (fun j => f (wk j)) (fun j => f (updW wk k t j)) hk u (by rw [updW_eq, hf, if_pos rfl]) (fun j _ hj => by simp only [updW_ne _ _ hj])] at this
    · have hX' := hX.oth ho (by simpa using Ne.symm e)
      have e2 : (fun j => f (updW wk k t j)) = fun j => f (wk j) := by
        funext j
        by_cases hj : j = k
        · subst hj; rw [updW_eq, hf, if_neg e]
        · rw [updW_ne _ _ hj]
      rw [e2]; exact hX'
  refine ⟨row Wk.ca h.a ha, row Wk.cb h.b hb, row Wk.cc h.c hc, row Wk.cd h.d hd, fun j hj => ?_, fun i hi j hj hij => ?_⟩
  · by_cases e : j = k
    · subst e; rw [updW_eq]; exact ht
    · rw [updW_ne _ _ e]; exact (h.is j hj).oth ho fun x hx e => by simp at e; subst e; exact hne j hj hx
  · by_cases ei : i = k
    · subst ei
      rw [updW_eq, updW_ne _ _ (Ne.symm hij)]
      intro x hx hx'
      rcases hfp x hx with h' | h'
      · exact h.apart i hi j hj hij x h' hx'
      · exact h' j hj hx'
    · rw [updW_ne _ _ ei]
      by_cases ej : j = k
      · subst ej
        rw [updW_eq]
        intro x hx hx'
        rcases hfp x hx' with h' | h'
        · exact h.apart i hi j hj hij x hx h'
        · exact h' i hi hx
      · rw [updW_ne _ _ ej]; exact h.apart i hi j hj hij
theorem Team.newA (h : Team w0 w ab bb cb db wk) (hk : k < 4) {w6 w8 : World} {u v : Value} (hb6 : Below w.heap.size w w6) (hb8 : Below (w6.setCell ⟨ab, k, none⟩ u).heap.size (w6.setCell ⟨ab, k, none⟩ u) w8) (hi : (wk k).fp = [])
    (h1 : t.ca = u) (h2 : t.cb = v) (h3 : t.cc = (wk k).cc) (h4 : t.cd = (wk k).cd) (ht : t.Is w0 (w8.setCell ⟨bb, k, none⟩ v)) (hfp : ∀ x ∈ t.fp, w.heap.size ≤ x) : Team w0 (w8.setCell ⟨bb, k, none⟩ v) ab bb cb db (updW wk k t) := by
  have h6 := h.below hb6
  have nPR : ab ≠ bb := h.a.ne' h.b (by decide)
  have nP1 : cb ≠ ab := h.c.ne' h.a (by decide)
  have nP2 : db ≠ ab := h.d.ne' h.a (by decide)
  have nR1 : cb ≠ bb := h.c.ne' h.b (by decide)
  have nR2 : db ≠ bb := h.d.ne' h.b (by decide)
  have oP : Oth [ab] w6 (w6.setCell ⟨ab, k, none⟩ u) := Oth.set _ _ _ _ (by simp)
  have oR : Oth [bb] w8 (w8.setCell ⟨bb, k, none⟩ v) := Oth.set _ _ _ _ (by simp)
  have rP : Blk w0 (w8.setCell ⟨bb, k, none⟩ v) ab 35 (row4 fun j => (updW wk k t j).ca) := by
    have x := ((h6.a.set k u).below hb8).oth oR (by simpa using nPR)
    rwa [row4_set (fun j => (wk j).ca) (fun j => (updW wk k t j).ca) hk u (by rw [updW_eq, h1]) (fun j _ hj => by simp only [updW_ne _ _ hj])] at x
  have rR : Blk w0 (w8.setCell ⟨bb, k, none⟩ v) bb 37 (row4 fun j => (updW wk k t j).cb) := by
    have x := ((h6.b.oth oP (by simpa using Ne.symm nPR)).below hb8).set k v
    rwa [row4_set (fun j => (wk j).cb) (fun j => (updW wk k t j).cb) hk v (by rw [updW_eq, h2]) (fun j _ hj => by simp only [updW_ne _ _ hj])] at x
  have e : ∀ (f : Wk → Value), f t = f (wk k) → (fun j => f (updW wk k t j)) = fun j => f (wk j) := fun f hf => by
    funext j
    by_cases hj : j = k
    · subst hj; rw [updW_eq, hf]
    · rw [updW_ne _ _ hj]
  have r1 := ((h6.c.oth oP (by simpa using nP1)).below hb8).oth oR (by simpa using nR1)
  have r2 := ((h6.d.oth oP (by simpa using nP2)).below hb8).oth oR (by simpa using nR2)
  rw [← e Wk.cc h3] at r1
  rw [← e Wk.cd h4] at r2
  refine ⟨rP, rR, r1, r2, fun j hj => ?_, fun i hi' j hj hij => ?_⟩
  · by_cases ej : j = k
    · subst ej; rw [updW_eq]; exact ht
    · rw [updW_ne _ _ ej]
      have n1 := (h6.is j hj).ne h6.a (by decide)
      have n2 := (h6.is j hj).ne h6.b (by decide)
      exact (((h6.is j hj).oth oP fun x hx e => by simp at e; subst e; exact n1 hx).oth (F := []) (Oth.below hb8) (by simp)).oth oR fun x hx e => by simp at e; subst e; exact n2 hx
  · by_cases ei : i = k
    · subst ei
      rw [updW_eq, updW_ne _ _ (Ne.symm hij)]
      intro x hx hx'
      have := hfp x hx
      have := (h.is j hj).lt x hx'
      omega
    · rw [updW_ne _ _ ei]
      by_cases ej : j = k
      · subst ej
        rw [updW_eq]
        intro x hx hx'
        have := hfp x hx'
        have := (h.is i hi').lt x hx
        omega
      · rw [updW_ne _ _ ej]; exact h.apart i hi' j hj hij
theorem Team.newR (h : Team w0 w ab bb cb db wk) (hk : k < 4) {w6 w8 : World} {u v : Value} (hb6 : Below w.heap.size w w6) (hb8 : Below (w6.setCell ⟨cb, k, none⟩ u).heap.size (w6.setCell ⟨cb, k, none⟩ u) w8) (hi : (wk k).fp = [])
    (h1 : t.cc = u) (h2 : t.cd = v) (h3 : t.ca = (wk k).ca) (h4 : t.cb = (wk k).cb) (ht : t.Is w0 (w8.setCell ⟨db, k, none⟩ v)) (hfp : ∀ x ∈ t.fp, w.heap.size ≤ x) : Team w0 (w8.setCell ⟨db, k, none⟩ v) ab bb cb db (updW wk k t) := by
  have h6 := h.below hb6
  have nPR : cb ≠ db := h.c.ne' h.d (by decide)
  have nP1 : ab ≠ cb := h.a.ne' h.c (by decide)
  have nP2 : bb ≠ cb := h.b.ne' h.c (by decide)
  have nR1 : ab ≠ db := h.a.ne' h.d (by decide)
  have nR2 : bb ≠ db := h.b.ne' h.d (by decide)
  have oP : Oth [cb] w6 (w6.setCell ⟨cb, k, none⟩ u) := Oth.set _ _ _ _ (by simp)
  have oR : Oth [db] w8 (w8.setCell ⟨db, k, none⟩ v) := Oth.set _ _ _ _ (by simp)
  have rP : Blk w0 (w8.setCell ⟨db, k, none⟩ v) cb 39 (row4 fun j => (updW wk k t j).cc) := by
    have x := ((h6.c.set k u).below hb8).oth oR (by simpa using nPR)
    rwa [row4_set (fun j => (wk j).cc) (fun j => (updW wk k t j).cc) hk u (by rw [updW_eq, h1]) (fun j _ hj => by simp only [updW_ne _ _ hj])] at x
  have rR : Blk w0 (w8.setCell ⟨db, k, none⟩ v) db 41 (row4 fun j => (updW wk k t j).cd) := by
    have x := ((h6.d.oth oP (by simpa using Ne.symm nPR)).below hb8).set k v
    rwa [row4_set (fun j => (wk j).cd) (fun j => (updW wk k t j).cd) hk v (by rw [updW_eq, h2]) (fun j _ hj => by simp only [updW_ne _ _ hj])] at x
  have e : ∀ (f : Wk → Value), f t = f (wk k) → (fun j => f (updW wk k t j)) = fun j => f (wk j) := fun f hf => by
    funext j
    by_cases hj : j = k
    · subst hj; rw [updW_eq, hf]
    · rw [updW_ne _ _ hj]
  have r1 := ((h6.a.oth oP (by simpa using nP1)).below hb8).oth oR (by simpa using nR1)
  have r2 := ((h6.b.oth oP (by simpa using nP2)).below hb8).oth oR (by simpa using nR2)
  rw [← e Wk.ca h3] at r1
  rw [← e Wk.cb h4] at r2
  refine ⟨r1, r2, rP, rR, fun j hj => ?_, fun i hi' j hj hij => ?_⟩
  · by_cases ej : j = k
    · subst ej; rw [updW_eq]; exact ht
    · rw [updW_ne _ _ ej]
      have n1 := (h6.is j hj).ne h6.c (by decide)
      have n2 := (h6.is j hj).ne h6.d (by decide)
      exact (((h6.is j hj).oth oP fun x hx e => by simp at e; subst e; exact n1 hx).oth (F := []) (Oth.below hb8) (by simp)).oth oR fun x hx e => by simp at e; subst e; exact n2 hx
  · by_cases ei : i = k
    · subst ei
      rw [updW_eq, updW_ne _ _ (Ne.symm hij)]
      intro x hx hx'
      have := hfp x hx
      have := (h.is j hj).lt x hx'
      omega
    · rw [updW_ne _ _ ei]
      by_cases ej : j = k
      · subst ej
        rw [updW_eq]
        intro x hx hx'
        have := hfp x hx'
        have := (h.is i hi').lt x hx
        omega
      · rw [updW_ne _ _ ej]; exact h.apart i hi' j hj hij
theorem Team.start (h1 : Blk w0 w ab 35 (row4 fun _ => .pointer none)) (h2 : Blk w0 w bb 37 (row4 fun _ => .pointer none)) (h3 : Blk w0 w cb 39 (row4 fun _ => .pointer none)) (h4 : Blk w0 w db 41 (row4 fun _ => .pointer none)) :
    Team w0 w ab bb cb db (fun _ => ⟨.idle, 0, 0, 0, 0, .pointer none, [], .pointer none, .pointer none⟩) :=
  ⟨h1, h2, h3, h4, fun _ _ => trivial, fun _ _ _ _ _ x hx => by simp [Wk.fp] at hx⟩
end
end Go.Proofs.YtbojljkdpebheaaGreatDoor
