/-
  Three threads' Polls, program's and reference's side by side, in a law's rows.
-/
import Derived.Test.YtoablodmodnamaaDoorKk
namespace Go.Proofs.YtoablodmodnamaaDoor
set_option linter.unusedVariables false
set_option linter.unusedSimpArgs false
set_option maxRecDepth 100000
open Go.ChangeShapes Go.WideShapes Go.RowKit

def al3 (f : Nat → Int) : Array Value := #[.int .i64 (f 0), .int .i64 (f 1), .int .i64 (f 2)]
theorem al3_set (f : Nat → Int) {k : Nat} (h : k < 3) (v : Int) : (al3 f).setIfInBounds k (.int .i64 v) = al3 (updN f k v) := by
  rcases k3 h with rfl | rfl | rfl <;> rfl
theorem al3_get (f : Nat → Int) {k : Nat} (h : k < 3) : (al3 f)[k]? = some (.int .i64 (f k)) := by
  rcases k3 h with rfl | rfl | rfl <;> rfl
def rts3 (rn : Nat → Nat) (rl : Nat → Nat → Int) : Array Value := #[.int .i64 (rn 0), .int .i64 (rl 0 0), .int .i64 (rl 0 1), .int .i64 (rl 0 2), .int .i64 (rl 0 3), .int .i64 (rl 0 4), .int .i64 (rl 0 5), .int .i64 (rl 0 6), .int .i64 (rl 0 7), .int .i64 (rn 1), .int .i64 (rl 1 0), .int .i64 (rl 1 1), .int .i64 (rl 1 2), .int .i64 (rl 1 3), .int .i64 (rl 1 4), .int .i64 (rl 1 5), .int .i64 (rl 1 6), .int .i64 (rl 1 7), .int .i64 (rn 2), .int .i64 (rl 2 0), .int .i64 (rl 2 1), .int .i64 (rl 2 2), .int .i64 (rl 2 3), .int .i64 (rl 2 4), .int .i64 (rl 2 5), .int .i64 (rl 2 6), .int .i64 (rl 2 7)]
theorem rts3_get (rn : Nat → Nat) (rl : Nat → Nat → Int) {k : Nat} (h : k < 3) : (rts3 rn rl)[k * 9]? = some (.int .i64 (rn k)) ∧ (rts3 rn rl)[k * 9 + 1]? = some (.int .i64 (rl k 0)) ∧ (rts3 rn rl)[k * 9 + 2]? = some (.int .i64 (rl k 1)) ∧ (rts3 rn rl)[k * 9 + 3]? = some (.int .i64 (rl k 2)) ∧ (rts3 rn rl)[k * 9 + 4]? = some (.int .i64 (rl k 3)) ∧ (rts3 rn rl)[k * 9 + 5]? = some (.int .i64 (rl k 4)) ∧ (rts3 rn rl)[k * 9 + 6]? = some (.int .i64 (rl k 5)) ∧ (rts3 rn rl)[k * 9 + 7]? = some (.int .i64 (rl k 6)) ∧ (rts3 rn rl)[k * 9 + 8]? = some (.int .i64 (rl k 7)) := by
  rcases k3 h with rfl | rfl | rfl <;> exact ⟨rfl, rfl, rfl, rfl, rfl, rfl, rfl, rfl, rfl⟩
set_option maxHeartbeats 2000000 in
theorem rts3_set (rn : Nat → Nat) (rl : Nat → Nat → Int) {k : Nat} (h : k < 3) (n : Nat) (l : Nat → Int) : ((((((((((rts3 rn rl).setIfInBounds (k * 9) (.int .i64 n)).setIfInBounds (k * 9 + 1) (.int .i64 (l 0))).setIfInBounds (k * 9 + 2) (.int .i64 (l 1))).setIfInBounds (k * 9 + 3) (.int .i64 (l 2))).setIfInBounds (k * 9 + 4) (.int .i64 (l 3))).setIfInBounds (k * 9 + 5) (.int .i64 (l 4))).setIfInBounds (k * 9 + 6) (.int .i64 (l 5))).setIfInBounds (k * 9 + 7) (.int .i64 (l 6))).setIfInBounds (k * 9 + 8) (.int .i64 (l 7))) = rts3 (updN rn k n) (updN rl k l) := by
  rcases k3 h with rfl | rfl | rfl <;> simp [rts3, updN]
def PTs : List TypeId := [112, 62, 150]
/-- one thread: its Poll and the reference's, at the same place -/
def Wrk (w0 w : World) (va vr : Value) (o : Ph) (al : Int) (n : Nat) (l : Nat → Int) (b : Option PollS) (F : List Nat) : Prop :=
  (va = .pointer none ∧ b = none ∧ F = []) ∨ ∃ p q F' x, va = pt p ∧ vr = pt q ∧ b = some x ∧ F = p :: q :: F' ∧ PM w0 w p x ∧ RPm w0 w q F' x ∧ x.wh.Ok ∧ x.wh.pc ≠ 0 ∧ x.own = o ∧ x.al = al ∧ x.n = n ∧ x.l = l
def Foot (w0 w : World) (F : List Nat) : Prop := ∀ q ∈ F, ∃ T cs, T ∈ PTs ∧ Blk w0 w q T cs
section
variable {w0 w w' w1 w2 : World} {F G F' F2 : List Nat} {p q k : Nat} {T : TypeId} {c : Array Value} {va vr : Value} {o : Ph} {al : Int} {n : Nat} {l : Nat → Int} {b : Option PollS} {x : PollS}
theorem RPm.foot (h : RPm w0 w q F x) : Foot w0 w (q :: F) := by
  obtain ⟨d, B, I, f⟩ := h
  intro k hk
  rw [List.mem_cons] at hk
  rcases hk with rfl | hk
  · exact ⟨_, _, by decide, B⟩
  · obtain ⟨cs, B'⟩ := f.foot k hk
    exact ⟨_, _, by decide, B'⟩
theorem Foot.ne (f : Foot w0 w F) (B : Blk w0 w p T c) (hT : T ∉ PTs) : ∀ q ∈ F, q ≠ p := fun q hq e => by
  obtain ⟨T', cs', h1, h2⟩ := f q hq
  exact (B.ne (e ▸ h2) (fun e' => hT (e' ▸ h1))) rfl
theorem Foot.lt (f : Foot w0 w F) : ∀ q ∈ F, q < w.heap.size := fun q hq => by
  obtain ⟨T, cs, _, B⟩ := f q hq
  exact B.lt
theorem Wrk.foot (h : Wrk w0 w va vr o al n l b F) : Foot w0 w F := by
  rcases h with ⟨_, _, rfl⟩ | ⟨p, q, F', x, _, _, _, rfl, m, M, _⟩
  · intro k hk
    simp at hk
  · intro k hk
    rw [List.mem_cons] at hk
    rcases hk with rfl | hk
    · obtain ⟨d, B, _⟩ := m
      exact ⟨_, _, by decide, B⟩
    · exact M.foot k hk
theorem Wrk.oth (h : Wrk w0 w va vr o al n l b F) (ot : Oth G w w') (hd : ∀ q ∈ F, q ∉ G) : Wrk w0 w' va vr o al n l b F := by
  rcases h with h | ⟨p, q, F', x, e1, e2, e3, rfl, m, M, h⟩
  · exact .inl h
  · exact .inr ⟨p, q, F', x, e1, e2, e3, rfl, m.oth ot (hd p (by simp)), M.oth ot (hd q (by simp)) (fun k hk => hd k (by simp [hk])), h⟩
/-- the reference's Poll is none of the program's -/
theorem RPm.ne (h : RPm w0 w q F x) {x' : PollS} (m : PM w0 w p x') : ∀ k ∈ q :: F, k ≠ p := by
  obtain ⟨d, B, I, f⟩ := h
  obtain ⟨d', B', _⟩ := m
  intro k hk e
  subst e
  rw [List.mem_cons] at hk
  rcases hk with rfl | hk
  · exact (B'.ne B (by decide)) rfl
  · obtain ⟨cs, B2⟩ := f.foot k hk
    exact (B'.ne B2 (by decide)) rfl
end
structure Ap (kx : Nat) (w0 w : World) (mb y N : Nat) (s1 s2 : St) (qp qo ql qr qa qb za zd : Nat) (a1 a2 : AskS) (ow : Nat → Ph) (al : Nat → Int) (rn : Nat → Nat) (rl : Nat → Nat → Int) (pa pr : Nat → Value) (bs : Nat → Option PollS) (Fs : Nat → List Nat) : Prop where
  two : Two w0 w mb y s1 s2 N
  bp : Blk w0 w qp 32 planC
  bo : Blk w0 w qo 38 (own3 ow)
  bl : Blk w0 w ql 39 (al3 al)
  br : Blk w0 w qr 43 (rts3 rn rl)
  ba : Blk w0 w qa 46 (arr3 pa)
  bb : Blk w0 w qb 48 (arr3 pr)
  ask : AM w0 w za U34 a1
  rask : RAM w0 w zd U34 a2
  it : ∀ k, k < 3 → k ≠ kx → Wrk w0 w (pa k) (pr k) (ow k) (al k) (rn k) (rl k) (bs k) (Fs k)
  apart : ∀ j k, j < 3 → k < 3 → j ≠ k → j ≠ kx → k ≠ kx → ∀ q ∈ Fs j, q ∉ Fs k
section
variable {w0 w w' w1 w2 : World} {mb y N : Nat} {s1 s2 s1' s2' : St} {kx qp qo ql qr qa qb za zd : Nat} {a1 a2 : AskS} {ow : Nat → Ph} {al : Nat → Int} {rn : Nat → Nat} {rl : Nat → Nat → Int} {pa pr : Nat → Value} {bs : Nat → Option PollS} {Fs : Nat → List Nat} {k p q z : Nat} {x : PollS} {F F' : List Nat}
theorem PM.low {T : TypeId} {c : Array Value} (m : PM w0 w p x) (B : Blk w0 w z T c) (hT : T ∉ PTs) (o : Oth [z] w w') : PM w0 w' p x := m.oth o (by simpa using m.ne B (fun e => hT (e ▸ by decide)))
theorem RPm.low {T : TypeId} {c : Array Value} (M : RPm w0 w q F x) (B : Blk w0 w z T c) (hT : T ∉ PTs) (o : Oth [z] w w') : RPm w0 w' q F x :=
  M.oth o (by simpa using M.foot.ne B hT q (by simp)) (fun j hj => by simpa using M.foot.ne B hT j (by simp [hj]))
theorem Ap.mono (h : Ap kx w0 w mb y N s1 s2 qp qo ql qr qa qb za zd a1 a2 ow al rn rl pa pr bs Fs) {N' : Nat} (hN : N ≤ N') : Ap kx w0 w mb y N' s1 s2 qp qo ql qr qa qb za zd a1 a2 ow al rn rl pa pr bs Fs := ⟨h.two.mono hN, h.bp, h.bo, h.bl, h.br, h.ba, h.bb, h.ask, h.rask, h.it, h.apart⟩
theorem Ap.foot (h : Ap kx w0 w mb y N s1 s2 qp qo ql qr qa qb za zd a1 a2 ow al rn rl pa pr bs Fs) (hk : k < 3) (hx : k ≠ kx) : Foot w0 w (Fs k) := (h.it k hk hx).foot
/-- what is elsewhere is written -/
theorem Ap.moved (h : Ap kx w0 w mb y N s1 s2 qp qo ql qr qa qb za zd a1 a2 ow al rn rl pa pr bs Fs) {N' : Nat} (T : Two w0 w' mb y s1' s2' N') (o : Oth F w w') (f : Foot w0 w F) (hd : ∀ k, k < 3 → k ≠ kx → ∀ z ∈ F, z ∉ Fs k) : Ap kx w0 w' mb y N' s1' s2' qp qo ql qr qa qb za zd a1 a2 ow al rn rl pa pr bs Fs :=
  ⟨T, h.bp.oth o (fun e => f.ne h.bp (by decide) _ e rfl), h.bo.oth o (fun e => f.ne h.bo (by decide) _ e rfl), h.bl.oth o (fun e => f.ne h.bl (by decide) _ e rfl), h.br.oth o (fun e => f.ne h.br (by decide) _ e rfl), h.ba.oth o (fun e => f.ne h.ba (by decide) _ e rfl), h.bb.oth o (fun e => f.ne h.bb (by decide) _ e rfl), Blk.oth h.ask o (fun e => f.ne h.ask (by decide) _ e rfl), ⟨Blk.oth h.rask.1 o (fun e => f.ne h.rask.1 (by decide) _ e rfl), h.rask.2⟩, fun k hk hx => (h.it k hk hx).oth o (fun z hz hF => hd k hk hx z hF hz), h.apart⟩
theorem Ap.below (h : Ap kx w0 w mb y N s1 s2 qp qo ql qr qa qb za zd a1 a2 ow al rn rl pa pr bs Fs) (hb : Below w.heap.size w w') : Ap kx w0 w' mb y N s1 s2 qp qo ql qr qa qb za zd a1 a2 ow al rn rl pa pr bs Fs := h.moved (F := []) (h.two.below hb) (Oth.below hb) (fun q hq => by simp at hq) (fun k hk hx q hq => by simp at hq)
theorem Ap.ca (h : Ap kx w0 w mb y N s1 s2 qp qo ql qr qa qb za zd a1 a2 ow al rn rl pa pr bs Fs) (hk : k < 3) {v : Value} (e : pa k = v) : w.cell? ⟨qa, k, none⟩ = some v := (h.ba.cell k).trans (by rw [arr3_get _ hk, e])
theorem Ap.cr (h : Ap kx w0 w mb y N s1 s2 qp qo ql qr qa qb za zd a1 a2 ow al rn rl pa pr bs Fs) (hk : k < 3) {v : Value} (e : pr k = v) : w.cell? ⟨qb, k, none⟩ = some v := (h.bb.cell k).trans (by rw [arr3_get _ hk, e])
theorem Ap.cl (h : Ap kx w0 w mb y N s1 s2 qp qo ql qr qa qb za zd a1 a2 ow al rn rl pa pr bs Fs) (hk : k < 3) {v : Int} (e : al k = v) : w.cell? ⟨ql, k, none⟩ = some (.int .i64 v) := (h.bl.cell k).trans (by rw [al3_get _ hk, e])
theorem Ap.co (h : Ap kx w0 w mb y N s1 s2 qp qo ql qr qa qb za zd a1 a2 ow al rn rl pa pr bs Fs) (hk : k < 3) {o : Ph} (e : ow k = o) : w.cell? ⟨qo, k * 4, none⟩ = some (.int .i64 o.no) ∧ w.cell? ⟨qo, k * 4 + 1, none⟩ = some (.int .i64 o.md) ∧ w.cell? ⟨qo, k * 4 + 2, none⟩ = some (.int .i64 o.mr) ∧ w.cell? ⟨qo, k * 4 + 3, none⟩ = some (.int .i64 o.ls) := by
  obtain ⟨h1, h2, h3, h4⟩ := own3_get ow hk
  subst e
  exact ⟨(h.bo.cell _).trans h1, (h.bo.cell _).trans h2, (h.bo.cell _).trans h3, (h.bo.cell _).trans h4⟩
theorem Ap.cq (h : Ap kx w0 w mb y N s1 s2 qp qo ql qr qa qb za zd a1 a2 ow al rn rl pa pr bs Fs) (hk : k < 3) {n : Nat} {l : Nat → Int} (e : rn k = n) (e' : rl k = l) : w.cell? ⟨qr, k * 9, none⟩ = some (.int .i64 n) ∧ w.cell? ⟨qr, k * 9 + 1, none⟩ = some (.int .i64 (l 0)) ∧ w.cell? ⟨qr, k * 9 + 2, none⟩ = some (.int .i64 (l 1)) ∧ w.cell? ⟨qr, k * 9 + 3, none⟩ = some (.int .i64 (l 2)) ∧ w.cell? ⟨qr, k * 9 + 4, none⟩ = some (.int .i64 (l 3)) ∧ w.cell? ⟨qr, k * 9 + 5, none⟩ = some (.int .i64 (l 4)) ∧ w.cell? ⟨qr, k * 9 + 6, none⟩ = some (.int .i64 (l 5)) ∧ w.cell? ⟨qr, k * 9 + 7, none⟩ = some (.int .i64 (l 6)) ∧ w.cell? ⟨qr, k * 9 + 8, none⟩ = some (.int .i64 (l 7)) := by
  obtain ⟨h0, h1, h2, h3, h4, h5, h6, h7, h8⟩ := rts3_get rn rl hk
  subst e e'
  exact ⟨(h.br.cell _).trans h0, (h.br.cell _).trans h1, (h.br.cell _).trans h2, (h.br.cell _).trans h3, (h.br.cell _).trans h4, (h.br.cell _).trans h5, (h.br.cell _).trans h6, (h.br.cell _).trans h7, (h.br.cell _).trans h8⟩
/-- a box of the law's own is written -/
theorem Ap.box (h : Ap kx w0 w mb y N s1 s2 qp qo ql qr qa qb za zd a1 a2 ow al rn rl pa pr bs Fs) {T : TypeId} {c : Array Value} (B : Blk w0 w z T c) (hT : T ∉ PTs) (o : Oth [z] w w') (k : Nat) (hk : k < 3) (hx : k ≠ kx) : Wrk w0 w' (pa k) (pr k) (ow k) (al k) (rn k) (rl k) (bs k) (Fs k) :=
  (h.it k hk hx).oth o (fun q hq => by simpa using (h.foot hk hx).ne B hT q hq)
theorem Ap.setA (h : Ap k w0 w mb y N s1 s2 qp qo ql qr qa qb za zd a1 a2 ow al rn rl pa pr bs Fs) (hk : k < 3) (v : Value) : Ap k w0 (w.setCell ⟨qa, k, none⟩ v) mb y N s1 s2 qp qo ql qr qa qb za zd a1 a2 ow al rn rl (updN pa k v) pr bs Fs := by
  have o : Oth [qa] w (w.setCell ⟨qa, k, none⟩ v) := Oth.set _ _ _ _ (by simp)
  refine ⟨h.two.set h.ba k v, h.bp.oth o (by simpa using h.bp.ne h.ba (by decide)), h.bo.oth o (by simpa using h.bo.ne h.ba (by decide)), h.bl.oth o (by simpa using h.bl.ne h.ba (by decide)), h.br.oth o (by simpa using h.br.ne h.ba (by decide)), arr3_set pa hk v ▸ h.ba.set k v, h.bb.oth o (by simpa using h.bb.ne h.ba (by decide)), Blk.oth h.ask o (by simpa using Blk.ne h.ask h.ba (by decide)), ⟨Blk.oth h.rask.1 o (by simpa using h.rask.1.ne h.ba (by decide)), h.rask.2⟩, fun j hj hx => ?_, h.apart⟩
  rw [updN_ne _ _ hx]
  exact h.box h.ba (by decide) o j hj hx
theorem Ap.setR (h : Ap k w0 w mb y N s1 s2 qp qo ql qr qa qb za zd a1 a2 ow al rn rl pa pr bs Fs) (hk : k < 3) (v : Value) : Ap k w0 (w.setCell ⟨qb, k, none⟩ v) mb y N s1 s2 qp qo ql qr qa qb za zd a1 a2 ow al rn rl pa (updN pr k v) bs Fs := by
  have o : Oth [qb] w (w.setCell ⟨qb, k, none⟩ v) := Oth.set _ _ _ _ (by simp)
  refine ⟨h.two.set h.bb k v, h.bp.oth o (by simpa using h.bp.ne h.bb (by decide)), h.bo.oth o (by simpa using h.bo.ne h.bb (by decide)), h.bl.oth o (by simpa using h.bl.ne h.bb (by decide)), h.br.oth o (by simpa using h.br.ne h.bb (by decide)), h.ba.oth o (by simpa using h.ba.ne h.bb (by decide)), arr3_set pr hk v ▸ h.bb.set k v, Blk.oth h.ask o (by simpa using Blk.ne h.ask h.bb (by decide)), ⟨Blk.oth h.rask.1 o (by simpa using h.rask.1.ne h.bb (by decide)), h.rask.2⟩, fun j hj hx => ?_, h.apart⟩
  rw [updN_ne _ _ hx]
  exact h.box h.bb (by decide) o j hj hx
theorem Ap.setL (h : Ap k w0 w mb y N s1 s2 qp qo ql qr qa qb za zd a1 a2 ow al rn rl pa pr bs Fs) (hk : k < 3) (v : Int) : Ap k w0 (w.setCell ⟨ql, k, none⟩ (.int .i64 v)) mb y N s1 s2 qp qo ql qr qa qb za zd a1 a2 ow (updN al k v) rn rl pa pr bs Fs := by
  have o : Oth [ql] w (w.setCell ⟨ql, k, none⟩ (.int .i64 v)) := Oth.set _ _ _ _ (by simp)
  refine ⟨h.two.set h.bl k (.int .i64 v), h.bp.oth o (by simpa using h.bp.ne h.bl (by decide)), h.bo.oth o (by simpa using h.bo.ne h.bl (by decide)), al3_set al hk v ▸ h.bl.set k (.int .i64 v), h.br.oth o (by simpa using h.br.ne h.bl (by decide)), h.ba.oth o (by simpa using h.ba.ne h.bl (by decide)), h.bb.oth o (by simpa using h.bb.ne h.bl (by decide)), Blk.oth h.ask o (by simpa using Blk.ne h.ask h.bl (by decide)), ⟨Blk.oth h.rask.1 o (by simpa using h.rask.1.ne h.bl (by decide)), h.rask.2⟩, fun j hj hx => ?_, h.apart⟩
  rw [updN_ne _ _ hx]
  exact h.box h.bl (by decide) o j hj hx
theorem othO (w : World) (o : Ph) : Oth [qo] w ((((w.setCell ⟨qo, k * 4, none⟩ (.int .i64 o.no)).setCell ⟨qo, k * 4 + 1, none⟩ (.int .i64 o.md)).setCell ⟨qo, k * 4 + 2, none⟩ (.int .i64 o.mr)).setCell ⟨qo, k * 4 + 3, none⟩ (.int .i64 o.ls)) := (((Oth.set w qo (k * 4) _ (by simp)).trans (Oth.set _ qo (k * 4 + 1) _ (by simp))).trans (Oth.set _ qo (k * 4 + 2) _ (by simp))).trans (Oth.set _ qo (k * 4 + 3) _ (by simp))
theorem Ap.setO (h : Ap k w0 w mb y N s1 s2 qp qo ql qr qa qb za zd a1 a2 ow al rn rl pa pr bs Fs) (hk : k < 3) (v : Ph) : Ap k w0 ((((w.setCell ⟨qo, k * 4, none⟩ (.int .i64 v.no)).setCell ⟨qo, k * 4 + 1, none⟩ (.int .i64 v.md)).setCell ⟨qo, k * 4 + 2, none⟩ (.int .i64 v.mr)).setCell ⟨qo, k * 4 + 3, none⟩ (.int .i64 v.ls)) mb y N s1 s2 qp qo ql qr qa qb za zd a1 a2 (updN ow k v) al rn rl pa pr bs Fs := by
  have o := othO (qo := qo) (k := k) w v
  have B1 := h.bo.set (k * 4) (.int .i64 v.no)
  have B2 := B1.set (k * 4 + 1) (.int .i64 v.md)
  have B3 := B2.set (k * 4 + 2) (.int .i64 v.mr)
  have B4 := B3.set (k * 4 + 3) (.int .i64 v.ls)
  have T4 := (((h.two.set h.bo (k * 4) (.int .i64 v.no)).set B1 (k * 4 + 1) (.int .i64 v.md)).set B2 (k * 4 + 2) (.int .i64 v.mr)).set B3 (k * 4 + 3) (.int .i64 v.ls)
  rw [own3_set ow hk v] at B4
  refine ⟨T4, h.bp.oth o (by simpa using h.bp.ne h.bo (by decide)), B4, h.bl.oth o (by simpa using h.bl.ne h.bo (by decide)), h.br.oth o (by simpa using h.br.ne h.bo (by decide)), h.ba.oth o (by simpa using h.ba.ne h.bo (by decide)), h.bb.oth o (by simpa using h.bb.ne h.bo (by decide)), Blk.oth h.ask o (by simpa using Blk.ne h.ask h.bo (by decide)), ⟨Blk.oth h.rask.1 o (by simpa using h.rask.1.ne h.bo (by decide)), h.rask.2⟩, fun j hj hx => ?_, h.apart⟩
  rw [updN_ne _ _ hx]
  exact h.box h.bo (by decide) o j hj hx
theorem othQ (w : World) (n : Nat) (l : Nat → Int) : Oth [qr] w ((((((((((w.setCell ⟨qr, k * 9, none⟩ (.int .i64 n)).setCell ⟨qr, k * 9 + 1, none⟩ (.int .i64 (l 0))).setCell ⟨qr, k * 9 + 2, none⟩ (.int .i64 (l 1))).setCell ⟨qr, k * 9 + 3, none⟩ (.int .i64 (l 2))).setCell ⟨qr, k * 9 + 4, none⟩ (.int .i64 (l 3))).setCell ⟨qr, k * 9 + 5, none⟩ (.int .i64 (l 4))).setCell ⟨qr, k * 9 + 6, none⟩ (.int .i64 (l 5))).setCell ⟨qr, k * 9 + 7, none⟩ (.int .i64 (l 6))).setCell ⟨qr, k * 9 + 8, none⟩ (.int .i64 (l 7)))) := ((((((((Oth.set w qr (k * 9) _ (by simp)).trans (Oth.set _ qr (k * 9 + 1) _ (by simp))).trans (Oth.set _ qr (k * 9 + 2) _ (by simp))).trans (Oth.set _ qr (k * 9 + 3) _ (by simp))).trans (Oth.set _ qr (k * 9 + 4) _ (by simp))).trans (Oth.set _ qr (k * 9 + 5) _ (by simp))).trans (Oth.set _ qr (k * 9 + 6) _ (by simp))).trans (Oth.set _ qr (k * 9 + 7) _ (by simp))).trans (Oth.set _ qr (k * 9 + 8) _ (by simp))
set_option maxHeartbeats 1000000 in
theorem Ap.setQ (h : Ap k w0 w mb y N s1 s2 qp qo ql qr qa qb za zd a1 a2 ow al rn rl pa pr bs Fs) (hk : k < 3) (n : Nat) (l : Nat → Int) : Ap k w0 ((((((((((w.setCell ⟨qr, k * 9, none⟩ (.int .i64 n)).setCell ⟨qr, k * 9 + 1, none⟩ (.int .i64 (l 0))).setCell ⟨qr, k * 9 + 2, none⟩ (.int .i64 (l 1))).setCell ⟨qr, k * 9 + 3, none⟩ (.int .i64 (l 2))).setCell ⟨qr, k * 9 + 4, none⟩ (.int .i64 (l 3))).setCell ⟨qr, k * 9 + 5, none⟩ (.int .i64 (l 4))).setCell ⟨qr, k * 9 + 6, none⟩ (.int .i64 (l 5))).setCell ⟨qr, k * 9 + 7, none⟩ (.int .i64 (l 6))).setCell ⟨qr, k * 9 + 8, none⟩ (.int .i64 (l 7)))) mb y N s1 s2 qp qo ql qr qa qb za zd a1 a2 ow al (updN rn k n) (updN rl k l) pa pr bs Fs := by
  have o := othQ (qr := qr) (k := k) w n l
  have B1 := h.br.set (k * 9) (.int .i64 n)
  have B2 := B1.set (k * 9 + 1) (.int .i64 (l 0))
  have B3 := B2.set (k * 9 + 2) (.int .i64 (l 1))
  have B4 := B3.set (k * 9 + 3) (.int .i64 (l 2))
  have B5 := B4.set (k * 9 + 4) (.int .i64 (l 3))
  have B6 := B5.set (k * 9 + 5) (.int .i64 (l 4))
  have B7 := B6.set (k * 9 + 6) (.int .i64 (l 5))
  have B8 := B7.set (k * 9 + 7) (.int .i64 (l 6))
  have B9 := B8.set (k * 9 + 8) (.int .i64 (l 7))
  have T1 := h.two.set h.br (k * 9) (.int .i64 n)
  have T2 := T1.set B1 (k * 9 + 1) (.int .i64 (l 0))
  have T3 := T2.set B2 (k * 9 + 2) (.int .i64 (l 1))
  have T4 := T3.set B3 (k * 9 + 3) (.int .i64 (l 2))
  have T5 := T4.set B4 (k * 9 + 4) (.int .i64 (l 3))
  have T6 := T5.set B5 (k * 9 + 5) (.int .i64 (l 4))
  have T7 := T6.set B6 (k * 9 + 6) (.int .i64 (l 5))
  have T8 := T7.set B7 (k * 9 + 7) (.int .i64 (l 6))
  have T9 := T8.set B8 (k * 9 + 8) (.int .i64 (l 7))
  rw [rts3_set rn rl hk n l] at B9
  refine ⟨T9, h.bp.oth o (by simpa using h.bp.ne h.br (by decide)), h.bo.oth o (by simpa using h.bo.ne h.br (by decide)), h.bl.oth o (by simpa using h.bl.ne h.br (by decide)), B9, h.ba.oth o (by simpa using h.ba.ne h.br (by decide)), h.bb.oth o (by simpa using h.bb.ne h.br (by decide)), Blk.oth h.ask o (by simpa using Blk.ne h.ask h.br (by decide)), ⟨Blk.oth h.rask.1 o (by simpa using h.rask.1.ne h.br (by decide)), h.rask.2⟩, fun j hj hx => ?_, h.apart⟩
  rw [updN_ne _ _ hx, updN_ne _ _ hx]
  exact h.box h.br (by decide) o j hj hx
/-- one thread's machines are taken out, and put back -/
theorem Ap.open_ (h : Ap 3 w0 w mb y N s1 s2 qp qo ql qr qa qb za zd a1 a2 ow al rn rl pa pr bs Fs) (k : Nat) : Ap k w0 w mb y N s1 s2 qp qo ql qr qa qb za zd a1 a2 ow al rn rl pa pr bs Fs := ⟨h.two, h.bp, h.bo, h.bl, h.br, h.ba, h.bb, h.ask, h.rask, fun j hj _ => h.it j hj (by omega), fun i j hi hj hij _ _ => h.apart i j hi hj hij (by omega) (by omega)⟩
theorem Ap.close_ (h : Ap k w0 w mb y N s1 s2 qp qo ql qr qa qb za zd a1 a2 ow al rn rl pa pr bs Fs) (b' : Option PollS) (F' : List Nat) (hk : k < 3) (W : Wrk w0 w (pa k) (pr k) (ow k) (al k) (rn k) (rl k) b' F') (hd : ∀ j, j < 3 → j ≠ k → ∀ q ∈ F', q ∉ Fs j) : Ap 3 w0 w mb y N s1 s2 qp qo ql qr qa qb za zd a1 a2 ow al rn rl pa pr (updN bs k b') (updN Fs k F') := by
  refine ⟨h.two, h.bp, h.bo, h.bl, h.br, h.ba, h.bb, h.ask, h.rask, fun j hj _ => ?_, fun i j hi hj hij _ _ u hu => ?_⟩
  · by_cases e : j = k
    · subst e
      rw [updN_at, updN_at]
      exact W
    · rw [updN_ne _ _ e, updN_ne _ _ e]
      exact h.it j hj e
  · by_cases ei : i = k
    · subst ei
      rw [updN_at] at hu
      rw [updN_ne _ _ (Ne.symm hij)]
      exact hd j hj (Ne.symm hij) u hu
    · rw [updN_ne _ _ ei] at hu
      by_cases ej : j = k
      · subst ej
        rw [updN_at]
        exact fun hu' => hd i hi ei u hu' hu
      · rw [updN_ne _ _ ej]
        exact h.apart i j hi hj hij ei ej u hu
/-- the collector's two -/
theorem Ap.asked (h : Ap 3 w0 w mb y N s1 s2 qp qo ql qr qa qb za zd a1 a2 ow al rn rl pa pr bs Fs) {N' : Nat} {a' : AskS} (T : Two w0 w' mb y s1' s2' N') (o : Oth [za, zd] w w') (A : AM w0 w' za U34 a') (R : RAM w0 w' zd U34 a') : Ap 3 w0 w' mb y N' s1' s2' qp qo ql qr qa qb za zd a' a' ow al rn rl pa pr bs Fs :=
  ⟨T, h.bp.oth o (by simpa using ⟨h.bp.ne h.ask (by decide), h.bp.ne h.rask.1 (by decide)⟩), h.bo.oth o (by simpa using ⟨h.bo.ne h.ask (by decide), h.bo.ne h.rask.1 (by decide)⟩), h.bl.oth o (by simpa using ⟨h.bl.ne h.ask (by decide), h.bl.ne h.rask.1 (by decide)⟩), h.br.oth o (by simpa using ⟨h.br.ne h.ask (by decide), h.br.ne h.rask.1 (by decide)⟩), h.ba.oth o (by simpa using ⟨h.ba.ne h.ask (by decide), h.ba.ne h.rask.1 (by decide)⟩), h.bb.oth o (by simpa using ⟨h.bb.ne h.ask (by decide), h.bb.ne h.rask.1 (by decide)⟩), A, R, fun k hk hx => (h.it k hk hx).oth o (fun q hq => by simpa using ⟨(h.foot hk hx).ne h.ask (by decide) q hq, (h.foot hk hx).ne h.rask.1 (by decide) q hq⟩), h.apart⟩
theorem Ap.again (h : Ap 3 w0 w mb y N s1 s2 qp qo ql qr qa qb za zd a1 a2 ow al rn rl pa pr bs Fs) {za' zd' : Nat} {a' : AskS} (A : AM w0 w za' U34 a') (R : RAM w0 w zd' U34 a') : Ap 3 w0 w mb y N s1 s2 qp qo ql qr qa qb za' zd' a' a' ow al rn rl pa pr bs Fs := ⟨h.two, h.bp, h.bo, h.bl, h.br, h.ba, h.bb, A, R, h.it, h.apart⟩
end
end Go.Proofs.YtoablodmodnamaaDoor
