/-
  Three threads' Polls, program's and reference's side by side, in a law's rows; one of them taken out; its cells.
-/
import Derived.Test.YtoablodmodnamaaDoorKx
import Derived.Deep.MidRow
namespace Go.Proofs.YtoablodmodnamaaDoor
set_option linter.unusedVariables false
set_option linter.unusedSimpArgs false
set_option maxRecDepth 100000
open Go.ChangeShapes Go.WideShapes Go.RowKit

def no0 : Nat → Int := fun _ => 0
def updN {α : Type} (f : Nat → α) (k : Nat) (v : α) : Nat → α := fun j => if j = k then v else f j
theorem updN_at {α : Type} (f : Nat → α) (k : Nat) (v : α) : updN f k v k = v := if_pos rfl
theorem updN_ne {α : Type} (f : Nat → α) {k j : Nat} (v : α) (h : j ≠ k) : updN f k v j = f j := if_neg h
theorem k3 {k : Nat} (h : k < 3) : k = 0 ∨ k = 1 ∨ k = 2 := by omega
def own3 (ow : Nat → Ph) : Array Value := #[.int .i64 (ow 0).no, .int .i64 (ow 0).md, .int .i64 (ow 0).mr, .int .i64 (ow 0).ls, .int .i64 (ow 1).no, .int .i64 (ow 1).md, .int .i64 (ow 1).mr, .int .i64 (ow 1).ls, .int .i64 (ow 2).no, .int .i64 (ow 2).md, .int .i64 (ow 2).mr, .int .i64 (ow 2).ls]
theorem own3_set (ow : Nat → Ph) {k : Nat} (h : k < 3) (q : Ph) : ((((own3 ow).setIfInBounds (k * 4) (.int .i64 q.no)).setIfInBounds (k * 4 + 1) (.int .i64 q.md)).setIfInBounds (k * 4 + 2) (.int .i64 q.mr)).setIfInBounds (k * 4 + 3) (.int .i64 q.ls) = own3 (updN ow k q) := by
  rcases k3 h with rfl | rfl | rfl <;> rfl
theorem own3_get (ow : Nat → Ph) {k : Nat} (h : k < 3) : (own3 ow)[k * 4]? = some (.int .i64 (ow k).no) ∧ (own3 ow)[k * 4 + 1]? = some (.int .i64 (ow k).md) ∧ (own3 ow)[k * 4 + 2]? = some (.int .i64 (ow k).mr) ∧ (own3 ow)[k * 4 + 3]? = some (.int .i64 (ow k).ls) := by
  rcases k3 h with rfl | rfl | rfl <;> exact ⟨rfl, rfl, rfl, rfl⟩
def arr3 (f : Nat → Value) : Array Value := #[f 0, f 1, f 2]
theorem arr3_set (f : Nat → Value) {k : Nat} (h : k < 3) (v : Value) : (arr3 f).setIfInBounds k v = arr3 (updN f k v) := by
  rcases k3 h with rfl | rfl | rfl <;> rfl
theorem arr3_get (f : Nat → Value) {k : Nat} (h : k < 3) : (arr3 f)[k]? = some (f k) := by
  rcases k3 h with rfl | rfl | rfl <;> rfl
def al3 (f : Nat → Int) : Array Value := #[.int .i64 (f 0), .int .i64 (f 1), .int .i64 (f 2)]
theorem al3_set (f : Nat → Int) {k : Nat} (h : k < 3) (v : Int) : (al3 f).setIfInBounds k (.int .i64 v) = al3 (updN f k v) := by
  rcases k3 h with rfl | rfl | rfl <;> rfl
theorem al3_get (f : Nat → Int) {k : Nat} (h : k < 3) : (al3 f)[k]? = some (.int .i64 (f k)) := by
  rcases k3 h with rfl | rfl | rfl <;> rfl
def rts3 (rn : Nat → Nat) (rl : Nat → Nat → Int) : Array Value := #[.int .i64 (rn 0), .int .i64 (rl 0 0), .int .i64 (rl 0 1), .int .i64 (rl 0 2), .int .i64 (rl 0 3), .int .i64 (rl 0 4), .int .i64 (rl 0 5), .int .i64 (rl 0 6), .int .i64 (rl 0 7), .int .i64 (rn 1), .int .i64 (rl 1 0), .int .i64 (rl 1 1), .int .i64 (rl 1 2), .int .i64 (rl 1 3), .int .i64 (rl 1 4), .int .i64 (rl 1 5), .int .i64 (rl 1 6), .int .i64 (rl 1 7), .int .i64 (rn 2), .int .i64 (rl 2 0), .int .i64 (rl 2 1), .int .i64 (rl 2 2), .int .i64 (rl 2 3), .int .i64 (rl 2 4), .int .i64 (rl 2 5), .int .i64 (rl 2 6), .int .i64 (rl 2 7)]
theorem rts3_get (rn : Nat → Nat) (rl : Nat → Nat → Int) {k : Nat} (h : k < 3) : (rts3 rn rl)[k * 9]? = some (.int .i64 (rn k)) ∧ (rts3 rn rl)[k * 9 + 1]? = some (.int .i64 (rl k 0)) ∧ (rts3 rn rl)[k * 9 + 2]? = some (.int .i64 (rl k 1)) ∧ (rts3 rn rl)[k * 9 + 3]? = some (.int .i64 (rl k 2)) ∧ (rts3 rn rl)[k * 9 + 4]? = some (.int .i64 (rl k 3)) ∧ (rts3 rn rl)[k * 9 + 5]? = some (.int .i64 (rl k 4)) ∧ (rts3 rn rl)[k * 9 + 6]? = some (.int .i64 (rl k 5)) ∧ (rts3 rn rl)[k * 9 + 7]? = some (.int .i64 (rl k 6)) ∧ (rts3 rn rl)[k * 9 + 8]? = some (.int .i64 (rl k 7)) := by
  rcases k3 h with rfl | rfl | rfl <;> exact ⟨rfl, rfl, rfl, rfl, rfl, rfl, rfl, rfl, rfl⟩
set_option maxHeartbeats 2000000 in
theorem rts3_set (rn : Nat → Nat) (rl : Nat → Nat → Int) {k : Nat} (h : k < 3) (n : Nat) (l : Nat → Int) : ((((((((((rts3 rn rl).setIfInBounds (k * 9) (.int .i64 n)).setIfInBounds (k * 9 + 1) (.int .i64 (l 0))).setIfInBounds (k * 9 + 2) (.int .i64 (l 1))).setIfInBounds (k * 9 + 3) (.int .i64 (l 2))).setIfInBounds (k * 9 + 4) (.int .i64 (l 3))).setIfInBounds (k * 9 + 5) (.int .i64 (l 4))).setIfInBounds (k * 9 + 6) (.int .i64 (l 5))).setIfInBounds (k * 9 + 7) (.int .i64 (l 6))).setIfInBounds (k * 9 + 8) (.int .i64 (l 7))) = rts3 (updN rn k n) (updN rl k l) := by
  rcases k3 h with rfl | rfl | rfl <;> simp [rts3, updN]
def PTs : List TypeId := [112, 62, 150]
/-- one thread: its Poll and the reference's, at the same place -/
def Wrk (w0 w : World) (va vr : Value) (o : Ph) (al : Int) (n : Nat) (l : Nat → Int) (b : Option PollS) (F : List Nat) : Prop :=
  (va = .pointer none ∧ b = none ∧ F = []) ∨ ∃ p q F' x, va = pt p ∧ vr = pt q ∧ b = some x ∧ F = p :: q :: F' ∧ PM w0 w p x ∧ RPm w0 w q F' x ∧ x.wh.Ok ∧ x.wh.pc ≠ 0 ∧ x.own = o ∧ x.al = al ∧ x.n = n ∧ x.l = l
def Foot (w0 w : World) (F : List Nat) : Prop := ∀ q ∈ F, ∃ T cs, T ∈ PTs ∧ Blk w0 w q T cs
section
variable {w0 w w' w1 w2 : World} {F G F' F2 : List Nat} {p q k : Nat} {T : TypeId} {c : Array Value} {va vr : Value} {o : Ph} {al : Int} {n : Nat} {l : Nat → Int} {b : Option PollS} {x : PollS}
theorem RPm.foot (h : RPm w0 w q F x) : Foot w0 w (q :: F) := by
  obtain ⟨d, B, I, f⟩ := h
  intro k hk
  rw [List.mem_cons] at hk
  rcases hk with rfl | hk
  · exact ⟨_, _, by decide, B⟩
  · obtain ⟨cs, B'⟩ := f.foot k hk
    exact ⟨_, _, by decide, B'⟩
theorem Foot.ne (f : Foot w0 w F) (B : Blk w0 w p T c) (hT : T ∉ PTs) : ∀ q ∈ F, q ≠ p := fun q hq e => by
  obtain ⟨T', cs', h1, h2⟩ := f q hq
  exact (B.ne (e ▸ h2) (fun e' => hT (e' ▸ h1))) rfl
theorem Foot.lt (f : Foot w0 w F) : ∀ q ∈ F, q < w.heap.size := fun q hq => by
  obtain ⟨T, cs, _, B⟩ := f q hq
  exact B.lt
theorem Wrk.foot (h : Wrk w0 w va vr o al n l b F) : Foot w0 w F := by
  rcases h with ⟨_, _, rfl⟩ | ⟨p, q, F', x, _, _, _, rfl, m, M, _⟩
  · intro k hk
    simp at hk
  · intro k hk
    rw [List.mem_cons] at hk
    rcases hk with rfl | hk
    · obtain ⟨d, B, _⟩ := m
      exact ⟨_, _, by decide, B⟩
    · exact M.foot k hk
theorem Wrk.oth (h : Wrk w0 w va vr o al n l b F) (ot : Oth G w w') (hd : ∀ q ∈ F, q ∉ G) : Wrk w0 w' va vr o al n l b F := by
  rcases h with h | ⟨p, q, F', x, e1, e2, e3, rfl, m, M, h⟩
  · exact .inl h
  · exact .inr ⟨p, q, F', x, e1, e2, e3, rfl, m.oth ot (hd p (by simp)), M.oth ot (hd q (by simp)) (fun k hk => hd k (by simp [hk])), h⟩
/-- the reference's Poll is none of the program's -/
theorem RPm.ne (h : RPm w0 w q F x) {x' : PollS} (m : PM w0 w p x') : ∀ k ∈ q :: F, k ≠ p := by
  obtain ⟨d, B, I, f⟩ := h
  obtain ⟨d', B', _⟩ := m
  intro k hk e
  subst e
  rw [List.mem_cons] at hk
  rcases hk with rfl | hk
  · exact (B'.ne B (by decide)) rfl
  · obtain ⟨cs, B2⟩ := f.foot k hk
    exact (B'.ne B2 (by decide)) rfl
end
structure Ap (kx : Nat) (w0 w : World) (mb y N : Nat) (s1 s2 : St) (qp qo ql qr qa qb za zd : Nat) (a1 a2 : AskS) (ow : Nat → Ph) (al : Nat → Int) (rn : Nat → Nat) (rl : Nat → Nat → Int) (pa pr : Nat → Value) (bs : Nat → Option PollS) (Fs : Nat → List Nat) : Prop where
  two : Two w0 w mb y s1 s2 N
  bp : Blk w0 w qp 32 planC
  bo : Blk w0 w qo 38 (own3 ow)
  bl : Blk w0 w ql 39 (al3 al)
  br : Blk w0 w qr 43 (rts3 rn rl)
  ba : Blk w0 w qa 46 (arr3 pa)
  bb : Blk w0 w qb 48 (arr3 pr)
  ask : AM w0 w za U34 a1
  rask : RAM w0 w zd U34 a2
  it : ∀ k, k < 3 → k ≠ kx → Wrk w0 w (pa k) (pr k) (ow k) (al k) (rn k) (rl k) (bs k) (Fs k)
  apart : ∀ j k, j < 3 → k < 3 → j ≠ k → j ≠ kx → k ≠ kx → ∀ q ∈ Fs j, q ∉ Fs k
section
variable {w0 w w' w1 w2 : World} {mb y N : Nat} {s1 s2 s1' s2' : St} {kx qp qo ql qr qa qb za zd : Nat} {a1 a2 : AskS} {ow : Nat → Ph} {al : Nat → Int} {rn : Nat → Nat} {rl : Nat → Nat → Int} {pa pr : Nat → Value} {bs : Nat → Option PollS} {Fs : Nat → List Nat} {k p q z : Nat} {x : PollS} {F F' : List Nat}
theorem PM.low {T : TypeId} {c : Array Value} (m : PM w0 w p x) (B : Blk w0 w z T c) (hT : T ∉ PTs) (o : Oth [z] w w') : PM w0 w' p x := m.oth o (by simpa using m.ne B (fun e => hT (e ▸ by decide)))
theorem RPm.low {T : TypeId} {c : Array Value} (M : RPm w0 w q F x) (B : Blk w0 w z T c) (hT : T ∉ PTs) (o : Oth [z] w w') : RPm w0 w' q F x :=
  M.oth o (by simpa using M.foot.ne B hT q (by simp)) (fun j hj => by simpa using M.foot.ne B hT j (by simp [hj]))
theorem Ap.mono (h : Ap kx w0 w mb y N s1 s2 qp qo ql qr qa qb za zd a1 a2 ow al rn rl pa pr bs Fs) {N' : Nat} (hN : N ≤ N') : Ap kx w0 w mb y N' s1 s2 qp qo ql qr qa qb za zd a1 a2 ow al rn rl pa pr bs Fs := ⟨h.two.mono hN, h.bp, h.bo, h.bl, h.br, h.ba, h.bb, h.ask, h.rask, h.it, h.apart⟩
theorem Ap.foot (h : Ap kx w0 w mb y N s1 s2 qp qo ql qr qa qb za zd a1 a2 ow al rn rl pa pr bs Fs) (hk : k < 3) (hx : k ≠ kx) : Foot w0 w (Fs k) := (h.it k hk hx).foot
/-- what is elsewhere is written -/
theorem Ap.moved (h : Ap kx w0 w mb y N s1 s2 qp qo ql qr qa qb za zd a1 a2 ow al rn rl pa pr bs Fs) {N' : Nat} (T : Two w0 w' mb y s1' s2' N') (o : Oth F w w') (f : Foot w0 w F) (hd : ∀ k, k < 3 → k ≠ kx → ∀ z ∈ F, z ∉ Fs k) : Ap kx w0 w' mb y N' s1' s2' qp qo ql qr qa qb za zd a1 a2 ow al rn rl pa pr bs Fs :=
  ⟨T, h.bp.oth o (fun e => f.ne h.bp (by decide) _ e rfl), h.bo.oth o (fun e => f.ne h.bo (by decide) _ e rfl), h.bl.oth o (fun e => f.ne h.bl (by decide) _ e rfl), h.br.oth o (fun e => f.ne h.br (by decide) _ e rfl), h.ba.oth o (fun e => f.ne h.ba (by decide) _ e rfl), h.bb.oth o (fun e => f.ne h.bb (by decide) _ e rfl), Blk.oth h.ask o (fun e => f.ne h.ask (by decide) _ e rfl), ⟨Blk.oth h.rask.1 o (fun e => f.ne h.rask.1 (by decide) _ e rfl), h.rask.2⟩, fun k hk hx => (h.it k hk hx).oth o (fun z hz hF => hd k hk hx z hF hz), h.apart⟩
theorem Ap.below (h : Ap kx w0 w mb y N s1 s2 qp qo ql qr qa qb za zd a1 a2 ow al rn rl pa pr bs Fs) (hb : Below w.heap.size w w') : Ap kx w0 w' mb y N s1 s2 qp qo ql qr qa qb za zd a1 a2 ow al rn rl pa pr bs Fs := h.moved (F := []) (h.two.below hb) (Oth.below hb) (fun q hq => by simp at hq) (fun k hk hx q hq => by simp at hq)
theorem Ap.ca (h : Ap kx w0 w mb y N s1 s2 qp qo ql qr qa qb za zd a1 a2 ow al rn rl pa pr bs Fs) (hk : k < 3) {v : Value} (e : pa k = v) : w.cell? ⟨qa, k, none⟩ = some v := (h.ba.cell k).trans (by rw [arr3_get _ hk, e])
theorem Ap.cr (h : Ap kx w0 w mb y N s1 s2 qp qo ql qr qa qb za zd a1 a2 ow al rn rl pa pr bs Fs) (hk : k < 3) {v : Value} (e : pr k = v) : w.cell? ⟨qb, k, none⟩ = some v := (h.bb.cell k).trans (by rw [arr3_get _ hk, e])
theorem Ap.cl (h : Ap kx w0 w mb y N s1 s2 qp qo ql qr qa qb za zd a1 a2 ow al rn rl pa pr bs Fs) (hk : k < 3) {v : Int} (e : al k = v) : w.cell? ⟨ql, k, none⟩ = some (.int .i64 v) := (h.bl.cell k).trans (by rw [al3_get _ hk, e])
theorem Ap.co (h : Ap kx w0 w mb y N s1 s2 qp qo ql qr qa qb za zd a1 a2 ow al rn rl pa pr bs Fs) (hk : k < 3) {o : Ph} (e : ow k = o) : w.cell? ⟨qo, k * 4, none⟩ = some (.int .i64 o.no) ∧ w.cell? ⟨qo, k * 4 + 1, none⟩ = some (.int .i64 o.md) ∧ w.cell? ⟨qo, k * 4 + 2, none⟩ = some (.int .i64 o.mr) ∧ w.cell? ⟨qo, k * 4 + 3, none⟩ = some (.int .i64 o.ls) := by
  obtain ⟨h1, h2, h3, h4⟩ := own3_get ow hk
  subst e
  exact ⟨(h.bo.cell _).trans h1, (h.bo.cell _).trans h2, (h.bo.cell _).trans h3, (h.bo.cell _).trans h4⟩
theorem Ap.cq (h : Ap kx w0 w mb y N s1 s2 qp qo ql qr qa qb za zd a1 a2 ow al rn rl pa pr bs Fs) (hk : k < 3) {n : Nat} {l : Nat → Int} (e : rn k = n) (e' : rl k = l) : w.cell? ⟨qr, k * 9, none⟩ = some (.int .i64 n) ∧ w.cell? ⟨qr, k * 9 + 1, none⟩ = some (.int .i64 (l 0)) ∧ w.cell? ⟨qr, k * 9 + 2, none⟩ = some (.int .i64 (l 1)) ∧ w.cell? ⟨qr, k * 9 + 3, none⟩ = some (.int .i64 (l 2)) ∧ w.cell? ⟨qr, k * 9 + 4, none⟩ = some (.int .i64 (l 3)) ∧ w.cell? ⟨qr, k * 9 + 5, none⟩ = some (.int .i64 (l 4)) ∧ w.cell? ⟨qr, k * 9 + 6, none⟩ = some (.int .i64 (l 5)) ∧ w.cell? ⟨qr, k * 9 + 7, none⟩ = some (.int .i64 (l 6)) ∧ w.cell? ⟨qr, k * 9 + 8, none⟩ = some (.int .i64 (l 7)) := by
  obtain ⟨h0, h1, h2, h3, h4, h5, h6, h7, h8⟩ := rts3_get rn rl hk
  subst e e'
  exact ⟨(h.br.cell _).trans h0, (h.br.cell _).trans h1, (h.br.cell _).trans h2, (h.br.cell _).trans h3, (h.br.cell _).trans h4, (h.br.cell _).trans h5, (h.br.cell _).trans h6, (h.br.cell _).trans h7, (h.br.cell _).trans h8⟩
/-- a box of the law's own is written -/
theorem Ap.box (h : Ap kx w0 w mb y N s1 s2 qp qo ql qr qa qb za zd a1 a2 ow al rn rl pa pr bs Fs) {T : TypeId} {c : Array Value} (B : Blk w0 w z T c) (hT : T ∉ PTs) (o : Oth [z] w w') (k : Nat) (hk : k < 3) (hx : k ≠ kx) : Wrk w0 w' (pa k) (pr k) (ow k) (al k) (rn k) (rl k) (bs k) (Fs k) :=
  (h.it k hk hx).oth o (fun q hq => by simpa using (h.foot hk hx).ne B hT q hq)
theorem Ap.setA (h : Ap k w0 w mb y N s1 s2 qp qo ql qr qa qb za zd a1 a2 ow al rn rl pa pr bs Fs) (hk : k < 3) (v : Value) : Ap k w0 (w.setCell ⟨qa, k, none⟩ v) mb y N s1 s2 qp qo ql qr qa qb za zd a1 a2 ow al rn rl (updN pa k v) pr bs Fs := by
  have o : Oth [qa] w (w.setCell ⟨qa, k, none⟩ v) := Oth.set _ _ _ _ (by simp)
  refine ⟨h.two.set h.ba k v, h.bp.oth o (by simpa using h.bp.ne h.ba (by decide)), h.bo.oth o (by simpa using h.bo.ne h.ba (by decide)), h.bl.oth o (by simpa using h.bl.ne h.ba (by decide)), h.br.oth o (by simpa using h.br.ne h.ba (by decide)), arr3_set pa hk v ▸ h.ba.set k v, h.bb.oth o (by simpa using h.bb.ne h.ba (by decide)), Blk.oth h.ask o (by simpa using Blk.ne h.ask h.ba (by decide)), ⟨Blk.oth h.rask.1 o (by simpa using h.rask.1.ne h.ba (by decide)), h.rask.2⟩, fun j hj hx => ?_, h.apart⟩
  rw [updN_ne _ _ hx]
  exact h.box h.ba (by decide) o j hj hx
theorem Ap.setR (h : Ap k w0 w mb y N s1 s2 qp qo ql qr qa qb za zd a1 a2 ow al rn rl pa pr bs Fs) (hk : k < 3) (v : Value) : Ap k w0 (w.setCell ⟨qb, k, none⟩ v) mb y N s1 s2 qp qo ql qr qa qb za zd a1 a2 ow al rn rl pa (updN pr k v) bs Fs := by
  have o : Oth [qb] w (w.setCell ⟨qb, k, none⟩ v) := Oth.set _ _ _ _ (by simp)
  refine ⟨h.two.set h.bb k v, h.bp.oth o (by simpa using h.bp.ne h.bb (by decide)), h.bo.oth o (by simpa using h.bo.ne h.bb (by decide)), h.bl.oth o (by simpa using h.bl.ne h.bb (by decide)), h.br.oth o (by simpa using h.br.ne h.bb (by decide)), h.ba.oth o (by simpa using h.ba.ne h.bb (by decide)), arr3_set pr hk v ▸ h.bb.set k v, Blk.oth h.ask o (by simpa using Blk.ne h.ask h.bb (by decide)), ⟨Blk.oth h.rask.1 o (by simpa using h.rask.1.ne h.bb (by decide)), h.rask.2⟩, fun j hj hx => ?_, h.apart⟩
  rw [updN_ne _ _ hx]
  exact h.box h.bb (by decide) o j hj hx
theorem Ap.setL (h : Ap k w0 w mb y N s1 s2 qp qo ql qr qa qb za zd a1 a2 ow al rn rl pa pr bs Fs) (hk : k < 3) (v : Int) : Ap k w0 (w.setCell ⟨ql, k, none⟩ (.int .i64 v)) mb y N s1 s2 qp qo ql qr qa qb za zd a1 a2 ow (updN al k v) rn rl pa pr bs Fs := by
  have o : Oth [ql] w (w.setCell ⟨ql, k, none⟩ (.int .i64 v)) := Oth.set _ _ _ _ (by simp)
  refine ⟨h.two.set h.bl k (.int .i64 v), h.bp.oth o (by simpa using h.bp.ne h.bl (by decide)), h.bo.oth o (by simpa using h.bo.ne h.bl (by decide)), al3_set al hk v ▸ h.bl.set k (.int .i64 v), h.br.oth o (by simpa using h.br.ne h.bl (by decide)), h.ba.oth o (by simpa using h.ba.ne h.bl (by decide)), h.bb.oth o (by simpa using h.bb.ne h.bl (by decide)), Blk.oth h.ask o (by simpa using Blk.ne h.ask h.bl (by decide)), ⟨Blk.oth h.rask.1 o (by simpa using h.rask.1.ne h.bl (by decide)), h.rask.2⟩, fun j hj hx => ?_, h.apart⟩
  rw [updN_ne _ _ hx]
  exact h.box h.bl (by decide) o j hj hx
theorem othO (w : World) (o : Ph) : Oth [qo] w ((((w.setCell ⟨qo, k * 4, none⟩ (.int .i64 o.no)).setCell ⟨qo, k * 4 + 1, none⟩ (.int .i64 o.md)).setCell ⟨qo, k * 4 + 2, none⟩ (.int .i64 o.mr)).setCell ⟨qo, k * 4 + 3, none⟩ (.int .i64 o.ls)) := (((Oth.set w qo (k * 4) _ (by simp)).trans (Oth.set _ qo (k * 4 + 1) _ (by simp))).trans (Oth.set _ qo (k * 4 + 2) _ (by simp))).trans (Oth.set _ qo (k * 4 + 3) _ (by simp))
theorem Ap.setO (h : Ap k w0 w mb y N s1 s2 qp qo ql qr qa qb za zd a1 a2 ow al rn rl pa pr bs Fs) (hk : k < 3) (v : Ph) : Ap k w0 ((((w.setCell ⟨qo, k * 4, none⟩ (.int .i64 v.no)).setCell ⟨qo, k * 4 + 1, none⟩ (.int .i64 v.md)).setCell ⟨qo, k * 4 + 2, none⟩ (.int .i64 v.mr)).setCell ⟨qo, k * 4 + 3, none⟩ (.int .i64 v.ls)) mb y N s1 s2 qp qo ql qr qa qb za zd a1 a2 (updN ow k v) al rn rl pa pr bs Fs := by
  have o := othO (qo := qo) (k := k) w v
  have B1 := h.bo.set (k * 4) (.int .i64 v.no)
  have B2 := B1.set (k * 4 + 1) (.int .i64 v.md)
  have B3 := B2.set (k * 4 + 2) (.int .i64 v.mr)
  have B4 := B3.set (k * 4 + 3) (.int .i64 v.ls)
  have T4 := (((h.two.set h.bo (k * 4) (.int .i64 v.no)).set B1 (k * 4 + 1) (.int .i64 v.md)).set B2 (k * 4 + 2) (.int .i64 v.mr)).set B3 (k * 4 + 3) (.int .i64 v.ls)
  rw [own3_set ow hk v] at B4
  refine ⟨T4, h.bp.oth o (by simpa using h.bp.ne h.bo (by decide)), B4, h.bl.oth o (by simpa using h.bl.ne h.bo (by decide)), h.br.oth o (by simpa using h.br.ne h.bo (by decide)), h.ba.oth o (by simpa using h.ba.ne h.bo (by decide)), h.bb.oth o (by simpa using h.bb.ne h.bo (by decide)), Blk.oth h.ask o (by simpa using Blk.ne h.ask h.bo (by decide)), ⟨Blk.oth h.rask.1 o (by simpa using h.rask.1.ne h.bo (by decide)), h.rask.2⟩, fun j hj hx => ?_, h.apart⟩
  rw [updN_ne _ _ hx]
  exact h.box h.bo (by decide) o j hj hx
theorem othQ (w : World) (n : Nat) (l : Nat → Int) : Oth [qr] w ((((((((((w.setCell ⟨qr, k * 9, none⟩ (.int .i64 n)).setCell ⟨qr, k * 9 + 1, none⟩ (.int .i64 (l 0))).setCell ⟨qr, k * 9 + 2, none⟩ (.int .i64 (l 1))).setCell ⟨qr, k * 9 + 3, none⟩ (.int .i64 (l 2))).setCell ⟨qr, k * 9 + 4, none⟩ (.int .i64 (l 3))).setCell ⟨qr, k * 9 + 5, none⟩ (.int .i64 (l 4))).setCell ⟨qr, k * 9 + 6, none⟩ (.int .i64 (l 5))).setCell ⟨qr, k * 9 + 7, none⟩ (.int .i64 (l 6))).setCell ⟨qr, k * 9 + 8, none⟩ (.int .i64 (l 7)))) := ((((((((Oth.set w qr (k * 9) _ (by simp)).trans (Oth.set _ qr (k * 9 + 1) _ (by simp))).trans (Oth.set _ qr (k * 9 + 2) _ (by simp))).trans (Oth.set _ qr (k * 9 + 3) _ (by simp))).trans (Oth.set _ qr (k * 9 + 4) _ (by simp))).trans (Oth.set _ qr (k * 9 + 5) _ (by simp))).trans (Oth.set _ qr (k * 9 + 6) _ (by simp))).trans (Oth.set _ qr (k * 9 + 7) _ (by simp))).trans (Oth.set _ qr (k * 9 + 8) _ (by simp))
set_option maxHeartbeats 1000000 in
theorem Ap.setQ (h : Ap k w0 w mb y N s1 s2 qp qo ql qr qa qb za zd a1 a2 ow al rn rl pa pr bs Fs) (hk : k < 3) (n : Nat) (l : Nat → Int) : Ap k w0 ((((((((((w.setCell ⟨qr, k * 9, none⟩ (.int .i64 n)).setCell ⟨qr, k * 9 + 1, none⟩ (.int .i64 (l 0))).setCell ⟨qr, k * 9 + 2, none⟩ (.int .i64 (l 1))).setCell ⟨qr, k * 9 + 3, none⟩ (.int .i64 (l 2))).setCell ⟨qr, k * 9 + 4, none⟩ (.int .i64 (l 3))).setCell ⟨qr, k * 9 + 5, none⟩ (.int .i64 (l 4))).setCell ⟨qr, k * 9 + 6, none⟩ (.int .i64 (l 5))).setCell ⟨qr, k * 9 + 7, none⟩ (.int .i64 (l 6))).setCell ⟨qr, k * 9 + 8, none⟩ (.int .i64 (l 7)))) mb y N s1 s2 qp qo ql qr qa qb za zd a1 a2 ow al (updN rn k n) (updN rl k l) pa pr bs Fs := by
  have o := othQ (qr := qr) (k := k) w n l
  have B1 := h.br.set (k * 9) (.int .i64 n)
  have B2 := B1.set (k * 9 + 1) (.int .i64 (l 0))
  have B3 := B2.set (k * 9 + 2) (.int .i64 (l 1))
  have B4 := B3.set (k * 9 + 3) (.int .i64 (l 2))
  have B5 := B4.set (k * 9 + 4) (.int .i64 (l 3))
  have B6 := B5.set (k * 9 + 5) (.int .i64 (l 4))
  have B7 := B6.set (k * 9 + 6) (.int .i64 (l 5))
  have B8 := B7.set (k * 9 + 7) (.int .i64 (l 6))
  have B9 := B8.set (k * 9 + 8) (.int .i64 (l 7))
  have T1 := h.two.set h.br (k * 9) (.int .i64 n)
  have T2 := T1.set B1 (k * 9 + 1) (.int .i64 (l 0))
  have T3 := T2.set B2 (k * 9 + 2) (.int .i64 (l 1))
  have T4 := T3.set B3 (k * 9 + 3) (.int .i64 (l 2))
  have T5 := T4.set B4 (k * 9 + 4) (.int .i64 (l 3))
  have T6 := T5.set B5 (k * 9 + 5) (.int .i64 (l 4))
  have T7 := T6.set B6 (k * 9 + 6) (.int .i64 (l 5))
  have T8 := T7.set B7 (k * 9 + 7) (.int .i64 (l 6))
  have T9 := T8.set B8 (k * 9 + 8) (.int .i64 (l 7))
  rw [rts3_set rn rl hk n l] at B9
  refine ⟨T9, h.bp.oth o (by simpa using h.bp.ne h.br (by decide)), h.bo.oth o (by simpa using h.bo.ne h.br (by decide)), h.bl.oth o (by simpa using h.bl.ne h.br (by decide)), B9, h.ba.oth o (by simpa using h.ba.ne h.br (by decide)), h.bb.oth o (by simpa using h.bb.ne h.br (by decide)), Blk.oth h.ask o (by simpa using Blk.ne h.ask h.br (by decide)), ⟨Blk.oth h.rask.1 o (by simpa using h.rask.1.ne h.br (by decide)), h.rask.2⟩, fun j hj hx => ?_, h.apart⟩
  rw [updN_ne _ _ hx, updN_ne _ _ hx]
  exact h.box h.br (by decide) o j hj hx
/-- one thread's machines are taken out, and put back -/
theorem Ap.open_ (h : Ap 3 w0 w mb y N s1 s2 qp qo ql qr qa qb za zd a1 a2 ow al rn rl pa pr bs Fs) (k : Nat) : Ap k w0 w mb y N s1 s2 qp qo ql qr qa qb za zd a1 a2 ow al rn rl pa pr bs Fs := ⟨h.two, h.bp, h.bo, h.bl, h.br, h.ba, h.bb, h.ask, h.rask, fun j hj _ => h.it j hj (by omega), fun i j hi hj hij _ _ => h.apart i j hi hj hij (by omega) (by omega)⟩
theorem Ap.close_ (h : Ap k w0 w mb y N s1 s2 qp qo ql qr qa qb za zd a1 a2 ow al rn rl pa pr bs Fs) (b' : Option PollS) (F' : List Nat) (hk : k < 3) (W : Wrk w0 w (pa k) (pr k) (ow k) (al k) (rn k) (rl k) b' F') (hd : ∀ j, j < 3 → j ≠ k → ∀ q ∈ F', q ∉ Fs j) : Ap 3 w0 w mb y N s1 s2 qp qo ql qr qa qb za zd a1 a2 ow al rn rl pa pr (updN bs k b') (updN Fs k F') := by
  refine ⟨h.two, h.bp, h.bo, h.bl, h.br, h.ba, h.bb, h.ask, h.rask, fun j hj _ => ?_, fun i j hi hj hij _ _ u hu => ?_⟩
  · by_cases e : j = k
    · subst e
      rw [updN_at, updN_at]
      exact W
    · rw [updN_ne _ _ e, updN_ne _ _ e]
      exact h.it j hj e
  · by_cases ei : i = k
    · subst ei
      rw [updN_at] at hu
      rw [updN_ne _ _ (Ne.symm hij)]
      exact hd j hj (Ne.symm hij) u hu
    · rw [updN_ne _ _ ei] at hu
      by_cases ej : j = k
      · subst ej
        rw [updN_at]
        exact fun hu' => hd i hi ei u hu' hu
      · rw [updN_ne _ _ ej]
        exact h.apart i j hi hj hij ei ej u hu
/-- the collector's two -/
theorem Ap.asked (h : Ap 3 w0 w mb y N s1 s2 qp qo ql qr qa qb za zd a1 a2 ow al rn rl pa pr bs Fs) {N' : Nat} {a' : AskS} (T : Two w0 w' mb y s1' s2' N') (o : Oth [za, zd] w w') (A : AM w0 w' za U34 a') (R : RAM w0 w' zd U34 a') : Ap 3 w0 w' mb y N' s1' s2' qp qo ql qr qa qb za zd a' a' ow al rn rl pa pr bs Fs :=
  ⟨T, h.bp.oth o (by simpa using ⟨h.bp.ne h.ask (by decide), h.bp.ne h.rask.1 (by decide)⟩), h.bo.oth o (by simpa using ⟨h.bo.ne h.ask (by decide), h.bo.ne h.rask.1 (by decide)⟩), h.bl.oth o (by simpa using ⟨h.bl.ne h.ask (by decide), h.bl.ne h.rask.1 (by decide)⟩), h.br.oth o (by simpa using ⟨h.br.ne h.ask (by decide), h.br.ne h.rask.1 (by decide)⟩), h.ba.oth o (by simpa using ⟨h.ba.ne h.ask (by decide), h.ba.ne h.rask.1 (by decide)⟩), h.bb.oth o (by simpa using ⟨h.bb.ne h.ask (by decide), h.bb.ne h.rask.1 (by decide)⟩), A, R, fun k hk hx => (h.it k hk hx).oth o (fun q hq => by simpa using ⟨(h.foot hk hx).ne h.ask (by decide) q hq, (h.foot hk hx).ne h.rask.1 (by decide) q hq⟩), h.apart⟩
theorem Ap.again (h : Ap 3 w0 w mb y N s1 s2 qp qo ql qr qa qb za zd a1 a2 ow al rn rl pa pr bs Fs) {za' zd' : Nat} {a' : AskS} (A : AM w0 w za' U34 a') (R : RAM w0 w zd' U34 a') : Ap 3 w0 w mb y N s1 s2 qp qo ql qr qa qb za' zd' a' a' ow al rn rl pa pr bs Fs := ⟨h.two, h.bp, h.bo, h.bl, h.br, h.ba, h.bb, A, R, h.it, h.apart⟩
end
end Go.Proofs.YtoablodmodnamaaDoor

namespace Go.Proofs.YtoablodmodnamaaDoor
set_option linter.unusedVariables false
set_option linter.unusedSimpArgs false
section
variable {w0 w w' : World} {mb y N : Nat} {s1 s2 : St} {qr k : Nat} {rn : Nat → Nat} {rl : Nat → Nat → Int}
set_option maxHeartbeats 1000000 in
theorem rtsRow (h : Two w0 w mb y s1 s2 N) (B : Blk w0 w qr 43 (rts3 rn rl)) (hk : k < 3) (n : Nat) (l : Nat → Int) : Two w0 (((((((((w.setCell ⟨qr, k * 9, none⟩ (.int .i64 n)).setCell ⟨qr, k * 9 + 1, none⟩ (.int .i64 (l 0))).setCell ⟨qr, k * 9 + 2, none⟩ (.int .i64 (l 1))).setCell ⟨qr, k * 9 + 3, none⟩ (.int .i64 (l 2))).setCell ⟨qr, k * 9 + 4, none⟩ (.int .i64 (l 3))).setCell ⟨qr, k * 9 + 5, none⟩ (.int .i64 (l 4))).setCell ⟨qr, k * 9 + 6, none⟩ (.int .i64 (l 5))).setCell ⟨qr, k * 9 + 7, none⟩ (.int .i64 (l 6))).setCell ⟨qr, k * 9 + 8, none⟩ (.int .i64 (l 7))) mb y s1 s2 N ∧ Blk w0 (((((((((w.setCell ⟨qr, k * 9, none⟩ (.int .i64 n)).setCell ⟨qr, k * 9 + 1, none⟩ (.int .i64 (l 0))).setCell ⟨qr, k * 9 + 2, none⟩ (.int .i64 (l 1))).setCell ⟨qr, k * 9 + 3, none⟩ (.int .i64 (l 2))).setCell ⟨qr, k * 9 + 4, none⟩ (.int .i64 (l 3))).setCell ⟨qr, k * 9 + 5, none⟩ (.int .i64 (l 4))).setCell ⟨qr, k * 9 + 6, none⟩ (.int .i64 (l 5))).setCell ⟨qr, k * 9 + 7, none⟩ (.int .i64 (l 6))).setCell ⟨qr, k * 9 + 8, none⟩ (.int .i64 (l 7))) qr 43 (rts3 (updN rn k n) (updN rl k l)) ∧ ∀ (z : Nat) (T : TypeId) (c : Array Value), T ≠ 43 → Blk w0 w z T c → Blk w0 (((((((((w.setCell ⟨qr, k * 9, none⟩ (.int .i64 n)).setCell ⟨qr, k * 9 + 1, none⟩ (.int .i64 (l 0))).setCell ⟨qr, k * 9 + 2, none⟩ (.int .i64 (l 1))).setCell ⟨qr, k * 9 + 3, none⟩ (.int .i64 (l 2))).setCell ⟨qr, k * 9 + 4, none⟩ (.int .i64 (l 3))).setCell ⟨qr, k * 9 + 5, none⟩ (.int .i64 (l 4))).setCell ⟨qr, k * 9 + 6, none⟩ (.int .i64 (l 5))).setCell ⟨qr, k * 9 + 7, none⟩ (.int .i64 (l 6))).setCell ⟨qr, k * 9 + 8, none⟩ (.int .i64 (l 7))) z T c := by
  have o := othQ (qr := qr) (k := k) w n l
  have T1 := h.set B (k * 9) (.int .i64 n)
  have B1 := B.set (k * 9) (.int .i64 n)
  have T2 := T1.set B1 (k * 9 + 1) (.int .i64 (l 0))
  have B2 := B1.set (k * 9 + 1) (.int .i64 (l 0))
  have T3 := T2.set B2 (k * 9 + 2) (.int .i64 (l 1))
  have B3 := B2.set (k * 9 + 2) (.int .i64 (l 1))
  have T4 := T3.set B3 (k * 9 + 3) (.int .i64 (l 2))
  have B4 := B3.set (k * 9 + 3) (.int .i64 (l 2))
  have T5 := T4.set B4 (k * 9 + 4) (.int .i64 (l 3))
  have B5 := B4.set (k * 9 + 4) (.int .i64 (l 3))
  have T6 := T5.set B5 (k * 9 + 5) (.int .i64 (l 4))
  have B6 := B5.set (k * 9 + 5) (.int .i64 (l 4))
  have T7 := T6.set B6 (k * 9 + 6) (.int .i64 (l 5))
  have B7 := B6.set (k * 9 + 6) (.int .i64 (l 5))
  have T8 := T7.set B7 (k * 9 + 7) (.int .i64 (l 6))
  have B8 := B7.set (k * 9 + 7) (.int .i64 (l 6))
  have T9 := T8.set B8 (k * 9 + 8) (.int .i64 (l 7))
  have B9 := B8.set (k * 9 + 8) (.int .i64 (l 7))
  rw [rts3_set rn rl hk n l] at B9
  exact ⟨T9, B9, fun z T c hT b => b.oth o (by simpa using b.ne B hT)⟩
theorem updN_le (h : ∀ k, k < 3 → rn k ≤ 8) {n : Nat} (hn : n ≤ 8) : ∀ i, i < 3 → updN rn k n i ≤ 8 := fun i hi => by
  unfold updN; split
  · exact hn
  · exact h i hi
theorem lenA {a : AskS} {s : St} (h : s.ws.length = 160) : (a.mem s).ws.length = 160 := by
  unfold AskS.mem; split
  · exact n_store' h _ _
  · exact n_len h _
  · exact h
theorem lenS {x : ShadeS} {s : St} (h : s.ws.length = 160) : (x.mem s).ws.length = 160 := by
  unfold ShadeS.mem; split <;> first | exact n_store' h _ _ | exact n_cas' h _ _ _ | exact n_len h _ | exact h
theorem lenP {x : PollS} {s : St} (h : s.ws.length = 160) : (x.mem s).ws.length = 160 := by
  unfold PollS.mem; split <;> first | exact n_store' h _ _ | exact lenS h | exact n_len h _ | exact h
theorem n_nextP {x : PollS} {s : St} : (x.next s).n = x.n := by
  unfold PollS.next; split <;> rfl
theorem okAsk (q : Ph) : (AskS.new q 3).Ok := ⟨by show 1 ≤ 2; omega, fun h => by simp [AskS.new] at h, by show 1 ≤ 3; omega, by show 3 ≤ 64; omega⟩
theorem neBool (a : Bool) (w : World) : (binOp .neq 4 (.bool a) (.bool a)).run Tryd.prog w = .ok (.bool false) w := by cases a <;> kernel_rfl
theorem setCells9 (w : World) (b o : Nat) (v0 v1 v2 v3 v4 v5 v6 v7 v8 : Value) : w.setCells b o [v0, v1, v2, v3, v4, v5, v6, v7, v8] = (((((((((w.setCell ⟨b, o, none⟩ v0).setCell ⟨b, o + 1, none⟩ v1).setCell ⟨b, o + 2, none⟩ v2).setCell ⟨b, o + 3, none⟩ v3).setCell ⟨b, o + 4, none⟩ v4).setCell ⟨b, o + 5, none⟩ v5).setCell ⟨b, o + 6, none⟩ v6).setCell ⟨b, o + 7, none⟩ v7).setCell ⟨b, o + 8, none⟩ v8) := rfl
theorem setCells4 (w : World) (b o : Nat) (v0 v1 v2 v3 : Value) : w.setCells b o [v0, v1, v2, v3] = ((((w.setCell ⟨b, o, none⟩ v0).setCell ⟨b, o + 1, none⟩ v1).setCell ⟨b, o + 2, none⟩ v2).setCell ⟨b, o + 3, none⟩ v3) := rfl
theorem blkThere {b o n : Nat} {T : TypeId} {c : Array Value} (B : Blk w0 w b T c) (h : o + n ≤ c.size) : w.there b o n := fun j hj => ⟨by rw [B.cell (o + j), Array.getElem?_eq_getElem (by omega)]; rfl, B.free (o + j)⟩
theorem und42 : ∃ d, Tryd.prog.underlying 42 = some d ∧ d.isRow = true := by simp
/-- the cells of a row from o on -/
theorem rowRange {b : Nat} {T : TypeId} {c : Array Value} (h : w.heap[b]? = some (.cells c T (0, 0))) (o : Nat) (cs : List Value) (hc : ∀ j v, cs[j]? = some v → c[o + j]? = some v) : w.rangeAt b o cs := fun j v hv => by
  rw [cell_of_row w _ _ _ _ _ h]; exact hc j v hv
theorem blkRange {b : Nat} {T : TypeId} {cs : List Value} (B : Blk w0 w b T cs.toArray) : w.rangeAt b 0 cs := rowRange B.at_ 0 cs (fun j v hv => by simpa using hv)
theorem ldRoots (w : World) (b o : Nat) (cs : List Value) (h9 : cs.length = 9) (hc : w.rangeAt b o cs) : (Instr.loadAt 42 (.pointer (some ⟨b, o, none⟩))).run Tryd.prog w = .ok (.agg cs.toArray) w := by
  obtain ⟨d, h1, h2⟩ := und42
  exact run_loadAt_mid w b o _ cs d hc h1 h2 (by rw [h9]; kernel_rfl)
theorem wpList_ldRoots {ops : Array Oper} {rest : List Oper} {op : Oper} {a : Act} {Q : Exit → Act → World → Prop} (hgd : op.guard = none) (x : Operand) (ho : op.op = .load 42 x) (b o : Nat) (hx : a.eval x = .pointer (some ⟨b, o, none⟩)) (cs : List Value) (h9 : cs.length = 9) (hc : w.rangeAt b o cs) (h : wpList Tryd.prog ops Q rest (a.put op.dst (.agg cs.toArray)) w) : wpList Tryd.prog ops Q (op :: rest) a w := by
  obtain ⟨d, h1, h2⟩ := und42
  exact wpList_load_mid hgd _ x ho b o hx cs d hc h1 h2 (by rw [h9]; kernel_rfl) h
def z27 : Array Value := #[.int .i64 0, .int .i64 0, .int .i64 0, .int .i64 0, .int .i64 0, .int .i64 0, .int .i64 0, .int .i64 0, .int .i64 0, .int .i64 0, .int .i64 0, .int .i64 0, .int .i64 0, .int .i64 0, .int .i64 0, .int .i64 0, .int .i64 0, .int .i64 0, .int .i64 0, .int .i64 0, .int .i64 0, .int .i64 0, .int .i64 0, .int .i64 0, .int .i64 0, .int .i64 0, .int .i64 0]
theorem rts3_z27 : rts3 (fun _ => 0) (fun _ => no0) = z27 := by
  simp [rts3, no0, z27]
end
end Go.Proofs.YtoablodmodnamaaDoor

namespace Go.Proofs.YtoablodmodnamaaDoor
set_option linter.unusedVariables false
set_option linter.unusedSimpArgs false
open Go.ChangeShapes Go.WideShapes Go.RowKit
structure Hot (k : Nat) (w0 w : World) (mb y N : Nat) (s1 s2 : St) (qp qo ql qr qa qb za zd : Nat) (a1 a2 : AskS) (ow : Nat → Ph) (al : Nat → Int) (rn : Nat → Nat) (rl : Nat → Nat → Int) (pa pr : Nat → Value) (bs : Nat → Option PollS) (Fs : Nat → List Nat) (p q : Nat) (F : List Nat) (x1 x2 : PollS) : Prop where
  ap : Ap k w0 w mb y N s1 s2 qp qo ql qr qa qb za zd a1 a2 ow al rn rl pa pr bs Fs
  pm : PM w0 w p x1
  rm : RPm w0 w q F x2
  dis : ∀ j, j < 3 → j ≠ k → ∀ z ∈ p :: q :: F, z ∉ Fs j
section
variable {w0 w w' w1 w2 : World} {mb y N : Nat} {s1 s2 s1' s2' : St} {qp qo ql qr qa qb za zd : Nat} {a1 a2 : AskS} {ow : Nat → Ph} {al : Nat → Int} {rn : Nat → Nat} {rl : Nat → Nat → Int} {pa pr : Nat → Value} {bs : Nat → Option PollS} {Fs : Nat → List Nat} {k p q z : Nat} {x x1 x2 : PollS} {F F' : List Nat}
theorem Hot.below (h : Hot k w0 w mb y N s1 s2 qp qo ql qr qa qb za zd a1 a2 ow al rn rl pa pr bs Fs p q F x1 x2) (hb : Below w.heap.size w w') : Hot k w0 w' mb y N s1 s2 qp qo ql qr qa qb za zd a1 a2 ow al rn rl pa pr bs Fs p q F x1 x2 := ⟨h.ap.below hb, h.pm.below hb, h.rm.oth (F := F) (G := []) (Oth.below hb) (by simp) (fun _ _ => by simp), h.dis⟩
theorem Hot.setO (h : Hot k w0 w mb y N s1 s2 qp qo ql qr qa qb za zd a1 a2 ow al rn rl pa pr bs Fs p q F x1 x2) (hk : k < 3) (v : Ph) : Hot k w0 ((((w.setCell ⟨qo, k * 4, none⟩ (.int .i64 v.no)).setCell ⟨qo, k * 4 + 1, none⟩ (.int .i64 v.md)).setCell ⟨qo, k * 4 + 2, none⟩ (.int .i64 v.mr)).setCell ⟨qo, k * 4 + 3, none⟩ (.int .i64 v.ls)) mb y N s1 s2 qp qo ql qr qa qb za zd a1 a2 (updN ow k v) al rn rl pa pr bs Fs p q F x1 x2 := ⟨h.ap.setO hk v, h.pm.low h.ap.bo (by decide) (othO w v), h.rm.low h.ap.bo (by decide) (othO w v), h.dis⟩
theorem Hot.setL (h : Hot k w0 w mb y N s1 s2 qp qo ql qr qa qb za zd a1 a2 ow al rn rl pa pr bs Fs p q F x1 x2) (hk : k < 3) (v : Int) : Hot k w0 (w.setCell ⟨ql, k, none⟩ (.int .i64 v)) mb y N s1 s2 qp qo ql qr qa qb za zd a1 a2 ow (updN al k v) rn rl pa pr bs Fs p q F x1 x2 := ⟨h.ap.setL hk v, h.pm.low h.ap.bl (by decide) (Oth.set _ _ _ _ (by simp)), h.rm.low h.ap.bl (by decide) (Oth.set _ _ _ _ (by simp)), h.dis⟩
theorem Hot.setA (h : Hot k w0 w mb y N s1 s2 qp qo ql qr qa qb za zd a1 a2 ow al rn rl pa pr bs Fs p q F x1 x2) (hk : k < 3) (v : Value) : Hot k w0 (w.setCell ⟨qa, k, none⟩ v) mb y N s1 s2 qp qo ql qr qa qb za zd a1 a2 ow al rn rl (updN pa k v) pr bs Fs p q F x1 x2 := ⟨h.ap.setA hk v, h.pm.low h.ap.ba (by decide) (Oth.set _ _ _ _ (by simp)), h.rm.low h.ap.ba (by decide) (Oth.set _ _ _ _ (by simp)), h.dis⟩
set_option maxHeartbeats 1000000 in
theorem Hot.setQ (h : Hot k w0 w mb y N s1 s2 qp qo ql qr qa qb za zd a1 a2 ow al rn rl pa pr bs Fs p q F x1 x2) (hk : k < 3) (n : Nat) (l : Nat → Int) : Hot k w0 (((((((((w.setCell ⟨qr, k * 9, none⟩ (.int .i64 n)).setCell ⟨qr, k * 9 + 1, none⟩ (.int .i64 (l 0))).setCell ⟨qr, k * 9 + 2, none⟩ (.int .i64 (l 1))).setCell ⟨qr, k * 9 + 3, none⟩ (.int .i64 (l 2))).setCell ⟨qr, k * 9 + 4, none⟩ (.int .i64 (l 3))).setCell ⟨qr, k * 9 + 5, none⟩ (.int .i64 (l 4))).setCell ⟨qr, k * 9 + 6, none⟩ (.int .i64 (l 5))).setCell ⟨qr, k * 9 + 7, none⟩ (.int .i64 (l 6))).setCell ⟨qr, k * 9 + 8, none⟩ (.int .i64 (l 7))) mb y N s1 s2 qp qo ql qr qa qb za zd a1 a2 ow al (updN rn k n) (updN rl k l) pa pr bs Fs p q F x1 x2 := ⟨h.ap.setQ hk n l, h.pm.low h.ap.br (by decide) (othQ w n l), h.rm.low h.ap.br (by decide) (othQ w n l), h.dis⟩
theorem Hot.poll (h : Hot k w0 w mb y N s1 s2 qp qo ql qr qa qb za zd a1 a2 ow al rn rl pa pr bs Fs p q F x x2) (ok : x.wh.Ok) (nd : x.wh.pc ≠ 0) (n8 : x.n ≤ 8) (hN : N < 1000000) :
    Calls Tryd.prog 17 #[pt p, pt mb] w fun e w' => e = .returned (.bool ((x.next s1).wh.pc == 0)) ∧ Hot k w0 w' mb y (N + 1) (x.mem s1) s2 qp qo ql qr qa qb za zd a1 a2 ow al rn rl pa pr bs Fs p q F (x.next s1) x2 := by
  refine (tPoll h.ap.two h.pm ok nd n8 hN).mono ?_
  rintro e w' ⟨rfl, T, m, o⟩
  refine ⟨rfl, h.ap.moved T o ?_ (fun j hj hx z hz => h.dis j hj hx z (by simp only [List.mem_singleton] at hz; simp [hz])), m, h.rm.oth o ?_ ?_, h.dis⟩
  · intro z hz
    obtain rfl : z = p := by simpa using hz
    obtain ⟨b, B, _⟩ := h.pm
    exact ⟨_, _, by decide, B⟩
  · simpa using h.rm.ne h.pm q (by simp)
  · intro z hz
    simpa using h.rm.ne h.pm z (by simp [hz])
theorem Hot.rpoll (h : Hot k w0 w mb y N s1 s2 qp qo ql qr qa qb za zd a1 a2 ow al rn rl pa pr bs Fs p q F x1 x) (ok : x.wh.Ok) (nd : x.wh.pc ≠ 0) (n8 : x.n ≤ 8) (hN : N < 1000000) :
    Calls Tryd.prog 19 #[pt q, pt y] w fun e w' => e = .returned (.bool ((x.next s2).wh.pc == 0)) ∧ ∃ F', Hot k w0 w' mb y (N + 1) s1 (x.mem s2) qp qo ql qr qa qb za zd a1 a2 ow al rn rl pa pr bs Fs p q F' x1 (x.next s2) := by
  refine (rPoll h.ap.two h.rm ok nd n8 hN).mono ?_
  rintro e w' ⟨rfl, T, o, F', m, hF⟩
  refine ⟨rfl, F', h.ap.moved T o h.rm.foot (fun j hj hx z hz => h.dis j hj hx z (List.mem_cons_of_mem _ hz)), h.pm.oth o (fun e => h.rm.ne h.pm p e rfl), m, fun j hj hx z hz hz' => ?_⟩
  rw [List.mem_cons, List.mem_cons] at hz
  rcases hz with rfl | rfl | hz
  · exact h.dis j hj hx z (by simp) hz'
  · exact h.dis j hj hx z (by simp) hz'
  · rcases hF z hz with h1 | h1
    · exact h.dis j hj hx z (by simp [h1]) hz'
    · have := (h.ap.foot hj hx).lt z hz'
      omega
theorem Hot.close_ (h : Hot k w0 w mb y N s1 s2 qp qo ql qr qa qb za zd a1 a2 ow al rn rl pa pr bs Fs p q F x x) (hk : k < 3) (e1 : pa k = pt p) (e2 : pr k = pt q) (ok : x.wh.Ok) (nd : x.wh.pc ≠ 0) (e3 : ow k = x.own) (e4 : al k = x.al) (e5 : rn k = x.n) (e6 : rl k = x.l) : Ap 3 w0 w mb y N s1 s2 qp qo ql qr qa qb za zd a1 a2 ow al rn rl pa pr (updN bs k (some x)) (updN Fs k (p :: q :: F)) :=
  h.ap.close_ (some x) (p :: q :: F) hk (.inr ⟨p, q, F, x, e1, e2, rfl, rfl, h.pm, h.rm, ok, nd, e3.symm, e4.symm, e5.symm, e6.symm⟩) h.dis
theorem Ap.none_ (h : Ap k w0 w mb y N s1 s2 qp qo ql qr qa qb za zd a1 a2 ow al rn rl pa pr bs Fs) (hk : k < 3) (e1 : pa k = .pointer none) : Ap 3 w0 w mb y N s1 s2 qp qo ql qr qa qb za zd a1 a2 ow al rn rl pa pr (updN bs k none) (updN Fs k []) :=
  h.close_ none [] hk (.inl ⟨e1, rfl, rfl⟩) (fun _ _ _ z hz => by simp at hz)
theorem Ap.either (h : Ap 3 w0 w mb y N s1 s2 qp qo ql qr qa qb za zd a1 a2 ow al rn rl pa pr bs Fs) (hk : k < 3) : (pa k = .pointer none) ∨ ∃ p q F x, pa k = pt p ∧ pr k = pt q ∧ Hot k w0 w mb y N s1 s2 qp qo ql qr qa qb za zd a1 a2 ow al rn rl pa pr bs Fs p q F x x ∧ x.wh.Ok ∧ x.wh.pc ≠ 0 ∧ x.n = rn k := by
  rcases h.it k hk (by omega) with ⟨e, _, _⟩ | ⟨p, q, F, x, e1, e2, _, e4, m, M, ok, nd, _, _, e5, _⟩
  · exact .inl e
  · refine .inr ⟨p, q, F, x, e1, e2, ⟨h.open_ k, m, M, fun j hj hx z hz hz' => ?_⟩, ok, nd, e5⟩
    exact h.apart k j hk hj (fun e => hx e.symm) (by omega) (by omega) z (e4 ▸ hz) hz'
theorem Ap.born1 (h : Ap 3 w0 w mb y N s1 s2 qp qo ql qr qa qb za zd a1 a2 ow al rn rl pa pr bs Fs) (hk : k < 3) (hb : Below w.heap.size w w1) (m : PM w0 w1 p x) (hp : w.heap.size ≤ p) : Ap k w0 (w1.setCell ⟨qa, k, none⟩ (pt p)) mb y N s1 s2 qp qo ql qr qa qb za zd a1 a2 ow al rn rl (updN pa k (pt p)) pr bs Fs ∧ PM w0 (w1.setCell ⟨qa, k, none⟩ (pt p)) p x ∧ ∀ j, j < 3 → j ≠ k → p ∉ Fs j :=
  ⟨((h.below hb).open_ k).setA hk (pt p), m.low (h.below hb).ba (by decide) (Oth.set _ _ _ _ (by simp)), fun j hj hx hz => by have := (h.foot hj (by omega)).lt p hz; omega⟩
theorem Ap.born2 (h : Ap k w0 w mb y N s1 s2 qp qo ql qr qa qb za zd a1 a2 ow al rn rl pa pr bs Fs) (hk : k < 3) (m : PM w0 w p x1) (hd : ∀ j, j < 3 → j ≠ k → p ∉ Fs j) (hb : Below w.heap.size w w1) (M : RPm w0 w1 q [] x2) (hq : w.heap.size ≤ q) : Hot k w0 (w1.setCell ⟨qb, k, none⟩ (pt q)) mb y N s1 s2 qp qo ql qr qa qb za zd a1 a2 ow al rn rl pa (updN pr k (pt q)) bs Fs p q [] x1 x2 :=
  ⟨(h.below hb).setR hk (pt q), (m.below hb).low (h.below hb).bb (by decide) (Oth.set _ _ _ _ (by simp)), M.low (h.below hb).bb (by decide) (Oth.set _ _ _ _ (by simp)), fun j hj hx z hz hz' => by
    rw [List.mem_cons, List.mem_singleton] at hz
    rcases hz with rfl | rfl
    · exact hd j hj hx hz'
    · have := (h.foot hj hx).lt z hz'; omega⟩
end
end Go.Proofs.YtoablodmodnamaaDoor

namespace Go.Proofs.YtoablodmodnamaaDoor
set_option linter.unusedVariables false
set_option linter.unusedSimpArgs false
section
variable {w0 w : World} {q : Nat} {F : List Nat} {x : PollS}
theorem rpCells (h : RPm w0 w q F x) : w.cell? ⟨q, 8, none⟩ = some (.int .i64 x.own.no) ∧ w.cell? ⟨q, 9, none⟩ = some (.int .i64 x.own.md) ∧ w.cell? ⟨q, 10, none⟩ = some (.int .i64 x.own.mr) ∧ w.cell? ⟨q, 11, none⟩ = some (.int .i64 x.own.ls) ∧ w.cell? ⟨q, 16, none⟩ = some (.int .i64 x.al) ∧ w.cell? ⟨q, 17, none⟩ = some (.int .i64 x.n) ∧ w.cell? ⟨q, 18, none⟩ = some (.int .i64 (x.l 0)) ∧ w.cell? ⟨q, 19, none⟩ = some (.int .i64 (x.l 1)) ∧ w.cell? ⟨q, 20, none⟩ = some (.int .i64 (x.l 2)) ∧ w.cell? ⟨q, 21, none⟩ = some (.int .i64 (x.l 3)) ∧ w.cell? ⟨q, 22, none⟩ = some (.int .i64 (x.l 4)) ∧ w.cell? ⟨q, 23, none⟩ = some (.int .i64 (x.l 5)) ∧ w.cell? ⟨q, 24, none⟩ = some (.int .i64 (x.l 6)) ∧ w.cell? ⟨q, 25, none⟩ = some (.int .i64 (x.l 7)) ∧ q < w.heap.size := by
  obtain ⟨b, B, I, _⟩ := h
  have e1 := I.own
  have e2 := I.al
  have e3 := I.n
  have e4 := I.l
  rw [← e1, ← e2, ← e3, ← e4]
  exact ⟨B.cell 8, B.cell 9, B.cell 10, B.cell 11, B.cell 16, B.cell 17, B.cell 18, B.cell 19, B.cell 20, B.cell 21, B.cell 22, B.cell 23, B.cell 24, B.cell 25, B.lt⟩
end
theorem rangeOf {w : World} {b o : Nat} {n : Nat} {l : Nat → Int} (h : w.cell? ⟨b, o, none⟩ = some (.int .i64 n) ∧ w.cell? ⟨b, o + 1, none⟩ = some (.int .i64 (l 0)) ∧ w.cell? ⟨b, o + 2, none⟩ = some (.int .i64 (l 1)) ∧ w.cell? ⟨b, o + 3, none⟩ = some (.int .i64 (l 2)) ∧ w.cell? ⟨b, o + 4, none⟩ = some (.int .i64 (l 3)) ∧ w.cell? ⟨b, o + 5, none⟩ = some (.int .i64 (l 4)) ∧ w.cell? ⟨b, o + 6, none⟩ = some (.int .i64 (l 5)) ∧ w.cell? ⟨b, o + 7, none⟩ = some (.int .i64 (l 6)) ∧ w.cell? ⟨b, o + 8, none⟩ = some (.int .i64 (l 7))) : w.rangeAt b o [.int .i64 n, .int .i64 (l 0), .int .i64 (l 1), .int .i64 (l 2), .int .i64 (l 3), .int .i64 (l 4), .int .i64 (l 5), .int .i64 (l 6), .int .i64 (l 7)] := by
  obtain ⟨c0, c1, c2, c3, c4, c5, c6, c7, c8⟩ := h
  intro j v hv
  match j, hv with
  | 0, hv => have e := Option.some.inj hv; subst e; exact c0
  | 1, hv => have e := Option.some.inj hv; subst e; exact c1
  | 2, hv => have e := Option.some.inj hv; subst e; exact c2
  | 3, hv => have e := Option.some.inj hv; subst e; exact c3
  | 4, hv => have e := Option.some.inj hv; subst e; exact c4
  | 5, hv => have e := Option.some.inj hv; subst e; exact c5
  | 6, hv => have e := Option.some.inj hv; subst e; exact c6
  | 7, hv => have e := Option.some.inj hv; subst e; exact c7
  | 8, hv => have e := Option.some.inj hv; subst e; exact c8
  | j + 9, hv => simp at hv
theorem Ap.rq {w0 w : World} {mb y N : Nat} {s1 s2 : St} {kx qp qo ql qr qa qb za zd : Nat} {a1 a2 : AskS} {ow : Nat → Ph} {al : Nat → Int} {rn : Nat → Nat} {rl : Nat → Nat → Int} {pa pr : Nat → Value} {bs : Nat → Option PollS} {Fs : Nat → List Nat} {k : Nat} (h : Ap kx w0 w mb y N s1 s2 qp qo ql qr qa qb za zd a1 a2 ow al rn rl pa pr bs Fs) (hk : k < 3) {n : Nat} {l : Nat → Int} (e : rn k = n) (e' : rl k = l) : w.rangeAt qr (k * 9) [.int .i64 n, .int .i64 (l 0), .int .i64 (l 1), .int .i64 (l 2), .int .i64 (l 3), .int .i64 (l 4), .int .i64 (l 5), .int .i64 (l 6), .int .i64 (l 7)] := rangeOf (h.cq hk e e')
theorem yRoots {op : Oper} {w : World} {ρ : Operand → Value} (x : Operand) (ho : op.op = .load 42 x) (b o : Nat) (hx : ρ x = .pointer (some ⟨b, o, none⟩)) (cs : List Value) (h9 : cs.length = 9) (hc : w.rangeAt b o cs) : (execOp ρ op).run Tryd.prog w = .ok (.value (.agg cs.toArray)) w := by
  have := ldRoots w b o cs h9 hc
  unfold execOp
  simp only [ho, hx, this, Sem.run_bind, Sem.run_pure, Result.andThen_ok]
end Go.Proofs.YtoablodmodnamaaDoor
