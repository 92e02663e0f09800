import Derived.Test.YtpcoldpphihfmaaGreatDoorDp
import Derived.Test.YtpcoldpphihfmaaGreatDoorLh
namespace Go.Proofs.YtpcoldpphihfmaaGreatDoor
set_option linter.unusedVariables false
set_option maxRecDepth 100000
open Go.ChangeShapes Go.WideShapes Go.RowKit
def BTs : List TypeId := [3, 4, 43, 38, 48, 51, 102, 107, 106, 174, 180]
structure Bx (w : World) (p : Nat) (T : TypeId) (cs : Array Value) : Prop where
 at_ : w.heap[p]? = some (.cells cs T (0, 0))
 kind : T ∈ BTs
 one : T = 43 → cs.size = 1
section
variable {w w' : World} {p : Nat} {T : TypeId} {cs : Array Value} {F : List Nat}
theorem Bx.fr (h : Bx w p T cs) : Fr T cs := by
 by_cases e : T = 43
 ·exact .inr ⟨e, h.one e⟩
 ·exact .inl ((show ∀ T ∈ BTs, T ≠ 43 → T ∉ MTs by decide) T h.kind e)
theorem Bx.oth (h : Bx w p T cs) (o : Oth F w w') (hF : ∀ q ∈ F, ∃ cs T fz, w.heap[q]? = some (.cells cs T fz) ∧ T ∉ BTs) : Bx w' p T cs :=
 ⟨o.blk p _ _ _ (fun hp => by
  obtain ⟨cs', T', fz, e, hT⟩ := hF p hp
  rw [h.at_] at e
  simp at e
  obtain ⟨_, rfl, _⟩ := e
  exact hT h.kind) h.fr h.at_, h.kind, h.one⟩
theorem Bx.below (h : Bx w p T cs) (hb : Below w.heap.size w w') : Bx w' p T cs := h.oth (F := []) (Oth.below hb) (by simp)
theorem Bx.cell (h : Bx w p T cs) (i : Nat) : w.cell? ⟨p, i, none⟩ = cs[i]? := cell_of_row w _ _ _ _ _ h.at_
theorem Bx.lt (h : Bx w p T cs) : p < w.heap.size := lt_of_block h.at_
theorem newAt {o : Obj} {n : Nat} (h : w.heap.size = n) : (w.alloc o).heap[n]? = some o := by subst h; exact heap_alloc_new _ _
theorem oldAt {o o' : Obj} {n : Nat} (h : w.heap[n]? = some o') : (w.alloc o).heap[n]? = some o' := by
 rw [Below.heap_alloc _ _ _ (Array.getElem?_eq_some_iff.1 h).1]; exact h
end
abbrev pt (p : Nat) : Value := .pointer (some ⟨p, 0, none⟩)
def Rep (w : World) : K → Value → Prop
 | .read f fx, v => ∃ p q, v = .func (.func 112) #[] #[pt p, pt q] ∧ Bx w p 3 #[.int .i64 f] ∧ Bx w q 4 #[.bool fx]
 | .follow a, v => ∃ p, v = .func (.func 123) #[] #[pt p] ∧ Bx w p 3 #[.int .i64 a]
 | .store f x, v => ∃ p q, v = .func (.func 115) #[] #[pt p, pt q] ∧ Bx w p 3 #[.int .i64 f] ∧ Bx w q 38 #[.int .i64 x.k, .int .i64 x.n]
 | .load f x h, v => ∃ p q r u, v = .func (.func 116) #[] #[pt p, pt q, pt r, pt u] ∧ Bx w p 3 #[.int .i64 f] ∧ Bx w q 102 h.cells ∧ Bx w r 38 #[.int .i64 x.k, .int .i64 x.n] ∧
   Bx w u 106 #[.func (.func 115) #[] #[pt p, pt r]]
 | .swap f r h, v => ∃ p q u, v = .func (.func 118) #[] #[pt p, pt q, pt u] ∧ Bx w p 3 #[.int .i64 f] ∧ Bx w q 102 h.cells ∧ Bx w u 48 r.cells
 | .exch f z r h, v => ∃ p q u t, v = .func (.func 127) #[] #[pt p, pt q, pt u, pt t] ∧ Bx w p 3 #[.int .i64 f] ∧ Bx w q 43 #[.int .u64 z] ∧ Bx w u 48 r.cells ∧ Bx w t 102 h.cells
 | .shade x t, v => ∃ p q u, v = .func (.func 131) #[] #[pt p, pt q] ∧ Bx w p 180 x.cells ∧ Bx w q 107 #[u] ∧ Rep w t u
 | .compS a b t, v => ∃ p q r z u, v = .func (.func 128) #[] #[pt p, pt q, pt r] ∧ Bx w p 3 #[.int .i64 a] ∧ Bx w q 174 #[.func (.func 121) #[] #[pt z]] ∧ Bx w r 3 #[.int .i64 b] ∧ Bx w z 107 #[u] ∧ Rep w t u
 | .compT a b, v => False
 | .comp2S c b t, v => ∃ p q r z u, v = .func (.func 129) #[] #[pt q, pt p, pt r] ∧ Bx w p 3 #[.int .i64 c] ∧ Bx w q 174 #[.func (.func 121) #[] #[pt z]] ∧ Bx w r 3 #[.int .i64 b] ∧ Bx w z 107 #[u] ∧ Rep w t u
 | .comp2T c b, v => False
 | .plain r e, v => ∃ p q, v = .func (.func 68) #[] #[pt p, pt q] ∧ Bx w p 48 r.cells ∧ Bx w q 51 e.cells
theorem Rep.fn {w : World} {k : K} {v : Value} (h : Rep w k v) : ∃ n cs, v = .func (.func n) #[] cs := by
 cases k <;> (simp only [Rep] at h)
 ·obtain ⟨p, q, e, _⟩ := h; exact ⟨_, _, e⟩
 ·obtain ⟨p, e, _⟩ := h; exact ⟨_, _, e⟩
 ·obtain ⟨p, q, e, _⟩ := h; exact ⟨_, _, e⟩
 ·obtain ⟨p, q, r, u, e, _⟩ := h; exact ⟨_, _, e⟩
 ·obtain ⟨p, q, u, e, _⟩ := h; exact ⟨_, _, e⟩
 ·obtain ⟨p, q, u, t, e, _⟩ := h; exact ⟨_, _, e⟩
 ·obtain ⟨p, q, u, e, _⟩ := h; exact ⟨_, _, e⟩
 ·obtain ⟨p, q, r, z, u, e, _⟩ := h; exact ⟨_, _, e⟩
 ·obtain ⟨p, q, r, z, u, e, _⟩ := h; exact ⟨_, _, e⟩
 ·obtain ⟨p, q, e, _⟩ := h; exact ⟨_, _, e⟩
def emp : Array Value := #[.nilFunc]
theorem Rep.imp' {w w' : World} (hB : ∀ p T cs, Bx w p T cs → cs ≠ emp → Bx w' p T cs) : ∀ {k : K} {v : Value}, Rep w k v → Rep w' k v := by
 have hI : ∀ {p T} {x : Value}, x ≠ .nilFunc → Bx w p T #[x] → Bx w' p T #[x] := fun hx h => hB _ _ _ h fun e => hx (by simpa [emp] using e)
 have h2 : ∀ {p T} {x y : Value}, Bx w p T #[x, y] → Bx w' p T #[x, y] := fun h => hB _ _ _ h fun e => by simp [emp] at e
 have hH : ∀ {p T} {h : Hw}, Bx w p T h.cells → Bx w' p T h.cells := fun h => hB _ _ _ h fun e => by simp [emp, Hw.cells] at e
 have hR : ∀ {p T} {h : Rq}, Bx w p T h.cells → Bx w' p T h.cells := fun h => hB _ _ _ h fun e => by simp [emp, Rq.cells] at e
 have hE : ∀ {p T} {h : En}, Bx w p T h.cells → Bx w' p T h.cells := fun h => hB _ _ _ h fun e => by simp [emp, En.cells] at e
 have hS : ∀ {p T} {h : ShadeS}, Bx w p T h.cells → Bx w' p T h.cells := fun h => hB _ _ _ h fun e => by simp [emp, ShadeS.cells] at e
 have nf : ∀ {k : K} {v : Value}, Rep w k v → v ≠ .nilFunc := fun h e => by obtain ⟨n, cs, e'⟩ := h.fn; rw [e] at e'; cases e'
 intro k
 induction k with
 | read f fx => rintro v ⟨p, q, e, a, b⟩; exact ⟨p, q, e, hI (by simp) a, hI (by simp) b⟩
 | follow a => rintro v ⟨p, e, a⟩; exact ⟨p, e, hI (by simp) a⟩
 | store f x => rintro v ⟨p, q, e, a, b⟩; exact ⟨p, q, e, hI (by simp) a, h2 b⟩
 | load f x h => rintro v ⟨p, q, r, u, e, a, b, c, d⟩; exact ⟨p, q, r, u, e, hI (by simp) a, hH b, h2 c, hI (by simp) d⟩
 | swap f r h => rintro v ⟨p, q, u, e, a, b, c⟩; exact ⟨p, q, u, e, hI (by simp) a, hH b, hR c⟩
 | exch f z r h => rintro v ⟨p, q, u, t, e, a, b, c, d⟩; exact ⟨p, q, u, t, e, hI (by simp) a, hI (by simp) b, hR c, hH d⟩
 | shade x t ih => rintro v ⟨p, q, u, e, a, b, c⟩; exact ⟨p, q, u, e, hS a, hI (nf c) b, ih c⟩
 | compS a b t ih => rintro v ⟨p, q, r, z, u, e, a, b, c, d, f⟩; exact ⟨p, q, r, z, u, e, hI (by simp) a, hI (by simp) b, hI (by simp) c, hI (nf f) d, ih f⟩
 | compT a b => intro v h; exact (show False from h).elim
 | comp2S a b t ih => rintro v ⟨p, q, r, z, u, e, a, b, c, d, f⟩; exact ⟨p, q, r, z, u, e, hI (by simp) a, hI (by simp) b, hI (by simp) c, hI (nf f) d, ih f⟩
 | comp2T a b => intro v h; exact (show False from h).elim
 | plain r e => rintro v ⟨p, q, e, a, b⟩; exact ⟨p, q, e, hR a, hE b⟩
theorem Rep.imp {w w' : World} (hB : ∀ p T cs, Bx w p T cs → Bx w' p T cs) {k : K} {v : Value} (h : Rep w k v) : Rep w' k v := h.imp' fun p T cs b _ => hB p T cs b
theorem Rep.fill {w : World} {k : K} {v : Value} {n : Nat} {T : TypeId} (h : Rep w k v) (hn : w.heap[n]? = some (.cells emp T (0, 0))) (x : Value) : Rep (w.setCell ⟨n, 0, none⟩ x) k v :=
 h.imp' fun p T' cs b hc => ⟨((Kept.setCell [n] w ⟨n, 0, none⟩ x (by simp)).block p b.lt (by
  simp only [List.mem_singleton]
  rintro rfl
  rw [b.at_] at hn
  simp at hn
  exact hc hn.1)).trans b.at_, b.kind, b.one⟩
def RepO (w : World) : Option K → Value → Prop
 | none, v => v = .nilFunc
 | some k, v => Rep w k v
section
variable {w w' : World} {k : K} {o : Option K} {v : Value} {F : List Nat}
theorem Rep.oth (h : Rep w k v) (ho : Oth F w w') (hF : ∀ q ∈ F, ∃ cs T fz, w.heap[q]? = some (.cells cs T fz) ∧ T ∉ BTs) : Rep w' k v := h.imp fun _ _ _ hb => hb.oth ho hF
theorem Rep.below (h : Rep w k v) (hb : Below w.heap.size w w') : Rep w' k v := h.imp fun _ _ _ b => b.below hb
theorem RepO.oth (h : RepO w o v) (ho : Oth F w w') (hF : ∀ q ∈ F, ∃ cs T fz, w.heap[q]? = some (.cells cs T fz) ∧ T ∉ BTs) : RepO w' o v := by
 cases o with
 | none => exact h
 | some k => exact Rep.oth h ho hF
theorem RepO.below (h : RepO w o v) (hb : Below w.heap.size w w') : RepO w' o v := by
 cases o with
 | none => exact h
 | some k => exact Rep.below h hb
end
def Sx.cells (x : Sx) (v : Value) : Array Value := #[v, .bool x.hit, .int .i64 x.o.c, .int .i64 x.o.v.k, .int .i64 x.o.v.n, .bool x.o.y]
end Go.Proofs.YtpcoldpphihfmaaGreatDoor
