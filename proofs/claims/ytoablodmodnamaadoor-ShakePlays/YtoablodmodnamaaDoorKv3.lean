/-
  One thread taken out of the three, with its machines.
-/
import Derived.Test.YtoablodmodnamaaDoorKv2
namespace Go.Proofs.YtoablodmodnamaaDoor
set_option linter.unusedVariables false
set_option linter.unusedSimpArgs false
open Go.ChangeShapes Go.WideShapes Go.RowKit
structure Hot (k : Nat) (w0 w : World) (mb y N : Nat) (s1 s2 : St) (qp qo ql qr qa qb za zd : Nat) (a1 a2 : AskS) (ow : Nat → Ph) (al : Nat → Int) (rn : Nat → Nat) (rl : Nat → Nat → Int) (pa pr : Nat → Value) (bs : Nat → Option PollS) (Fs : Nat → List Nat) (p q : Nat) (F : List Nat) (x1 x2 : PollS) : Prop where
  ap : Ap k w0 w mb y N s1 s2 qp qo ql qr qa qb za zd a1 a2 ow al rn rl pa pr bs Fs
  pm : PM w0 w p x1
  rm : RPm w0 w q F x2
  dis : ∀ j, j < 3 → j ≠ k → ∀ z ∈ p :: q :: F, z ∉ Fs j
section
variable {w0 w w' w1 w2 : World} {mb y N : Nat} {s1 s2 s1' s2' : St} {qp qo ql qr qa qb za zd : Nat} {a1 a2 : AskS} {ow : Nat → Ph} {al : Nat → Int} {rn : Nat → Nat} {rl : Nat → Nat → Int} {pa pr : Nat → Value} {bs : Nat → Option PollS} {Fs : Nat → List Nat} {k p q z : Nat} {x x1 x2 : PollS} {F F' : List Nat}
theorem Hot.below (h : Hot k w0 w mb y N s1 s2 qp qo ql qr qa qb za zd a1 a2 ow al rn rl pa pr bs Fs p q F x1 x2) (hb : Below w.heap.size w w') : Hot k w0 w' mb y N s1 s2 qp qo ql qr qa qb za zd a1 a2 ow al rn rl pa pr bs Fs p q F x1 x2 := ⟨h.ap.below hb, h.pm.below hb, h.rm.oth (F := F) (G := []) (Oth.below hb) (by simp) (fun _ _ => by simp), h.dis⟩
theorem Hot.setO (h : Hot k w0 w mb y N s1 s2 qp qo ql qr qa qb za zd a1 a2 ow al rn rl pa pr bs Fs p q F x1 x2) (hk : k < 3) (v : Ph) : Hot k w0 ((((w.setCell ⟨qo, k * 4, none⟩ (.int .i64 v.no)).setCell ⟨qo, k * 4 + 1, none⟩ (.int .i64 v.md)).setCell ⟨qo, k * 4 + 2, none⟩ (.int .i64 v.mr)).setCell ⟨qo, k * 4 + 3, none⟩ (.int .i64 v.ls)) mb y N s1 s2 qp qo ql qr qa qb za zd a1 a2 (updN ow k v) al rn rl pa pr bs Fs p q F x1 x2 := ⟨h.ap.setO hk v, h.pm.low h.ap.bo (by decide) (othO w v), h.rm.low h.ap.bo (by decide) (othO w v), h.dis⟩
theorem Hot.setL (h : Hot k w0 w mb y N s1 s2 qp qo ql qr qa qb za zd a1 a2 ow al rn rl pa pr bs Fs p q F x1 x2) (hk : k < 3) (v : Int) : Hot k w0 (w.setCell ⟨ql, k, none⟩ (.int .i64 v)) mb y N s1 s2 qp qo ql qr qa qb za zd a1 a2 ow (updN al k v) rn rl pa pr bs Fs p q F x1 x2 := ⟨h.ap.setL hk v, h.pm.low h.ap.bl (by decide) (Oth.set _ _ _ _ (by simp)), h.rm.low h.ap.bl (by decide) (Oth.set _ _ _ _ (by simp)), h.dis⟩
theorem Hot.setA (h : Hot k w0 w mb y N s1 s2 qp qo ql qr qa qb za zd a1 a2 ow al rn rl pa pr bs Fs p q F x1 x2) (hk : k < 3) (v : Value) : Hot k w0 (w.setCell ⟨qa, k, none⟩ v) mb y N s1 s2 qp qo ql qr qa qb za zd a1 a2 ow al rn rl (updN pa k v) pr bs Fs p q F x1 x2 := ⟨h.ap.setA hk v, h.pm.low h.ap.ba (by decide) (Oth.set _ _ _ _ (by simp)), h.rm.low h.ap.ba (by decide) (Oth.set _ _ _ _ (by simp)), h.dis⟩
set_option maxHeartbeats 1000000 in
theorem Hot.setQ (h : Hot k w0 w mb y N s1 s2 qp qo ql qr qa qb za zd a1 a2 ow al rn rl pa pr bs Fs p q F x1 x2) (hk : k < 3) (n : Nat) (l : Nat → Int) : Hot k w0 (((((((((w.setCell ⟨qr, k * 9, none⟩ (.int .i64 n)).setCell ⟨qr, k * 9 + 1, none⟩ (.int .i64 (l 0))).setCell ⟨qr, k * 9 + 2, none⟩ (.int .i64 (l 1))).setCell ⟨qr, k * 9 + 3, none⟩ (.int .i64 (l 2))).setCell ⟨qr, k * 9 + 4, none⟩ (.int .i64 (l 3))).setCell ⟨qr, k * 9 + 5, none⟩ (.int .i64 (l 4))).setCell ⟨qr, k * 9 + 6, none⟩ (.int .i64 (l 5))).setCell ⟨qr, k * 9 + 7, none⟩ (.int .i64 (l 6))).setCell ⟨qr, k * 9 + 8, none⟩ (.int .i64 (l 7))) mb y N s1 s2 qp qo ql qr qa qb za zd a1 a2 ow al (updN rn k n) (updN rl k l) pa pr bs Fs p q F x1 x2 := ⟨h.ap.setQ hk n l, h.pm.low h.ap.br (by decide) (othQ w n l), h.rm.low h.ap.br (by decide) (othQ w n l), h.dis⟩
theorem Hot.poll (h : Hot k w0 w mb y N s1 s2 qp qo ql qr qa qb za zd a1 a2 ow al rn rl pa pr bs Fs p q F x x2) (ok : x.wh.Ok) (nd : x.wh.pc ≠ 0) (n8 : x.n ≤ 8) (hN : N < 1000000) :
    Calls Tryd.prog 17 #[pt p, pt mb] w fun e w' => e = .returned (.bool ((x.next s1).wh.pc == 0)) ∧ Hot k w0 w' mb y (N + 1) (x.mem s1) s2 qp qo ql qr qa qb za zd a1 a2 ow al rn rl pa pr bs Fs p q F (x.next s1) x2 := by
  refine (tPoll h.ap.two h.pm ok nd n8 hN).mono ?_
  rintro e w' ⟨rfl, T, m, o⟩
  refine ⟨rfl, h.ap.moved T o ?_ (fun j hj hx z hz => h.dis j hj hx z (by simp only [List.mem_singleton] at hz; simp [hz])), m, h.rm.oth o ?_ ?_, h.dis⟩
  · intro z hz
    obtain rfl : z = p := by simpa using hz
    obtain ⟨b, B, _⟩ := h.pm
    exact ⟨_, _, by decide, B⟩
  · simpa using h.rm.ne h.pm q (by simp)
  · intro z hz
    simpa using h.rm.ne h.pm z (by simp [hz])
theorem Hot.rpoll (h : Hot k w0 w mb y N s1 s2 qp qo ql qr qa qb za zd a1 a2 ow al rn rl pa pr bs Fs p q F x1 x) (ok : x.wh.Ok) (nd : x.wh.pc ≠ 0) (n8 : x.n ≤ 8) (hN : N < 1000000) :
    Calls Tryd.prog 19 #[pt q, pt y] w fun e w' => e = .returned (.bool ((x.next s2).wh.pc == 0)) ∧ ∃ F', Hot k w0 w' mb y (N + 1) s1 (x.mem s2) qp qo ql qr qa qb za zd a1 a2 ow al rn rl pa pr bs Fs p q F' x1 (x.next s2) := by
  refine (rPoll h.ap.two h.rm ok nd n8 hN).mono ?_
  rintro e w' ⟨rfl, T, o, F', m, hF⟩
  refine ⟨rfl, F', h.ap.moved T o h.rm.foot (fun j hj hx z hz => h.dis j hj hx z (List.mem_cons_of_mem _ hz)), h.pm.oth o (fun e => h.rm.ne h.pm p e rfl), m, fun j hj hx z hz hz' => ?_⟩
  rw [List.mem_cons, List.mem_cons] at hz
  rcases hz with rfl | rfl | hz
  · exact h.dis j hj hx z (by simp) hz'
  · exact h.dis j hj hx z (by simp) hz'
  · rcases hF z hz with h1 | h1
    · exact h.dis j hj hx z (by simp [h1]) hz'
    · have := (h.ap.foot hj hx).lt z hz'
      omega
theorem Hot.close_ (h : Hot k w0 w mb y N s1 s2 qp qo ql qr qa qb za zd a1 a2 ow al rn rl pa pr bs Fs p q F x x) (hk : k < 3) (e1 : pa k = pt p) (e2 : pr k = pt q) (ok : x.wh.Ok) (nd : x.wh.pc ≠ 0) (e3 : ow k = x.own) (e4 : al k = x.al) (e5 : rn k = x.n) (e6 : rl k = x.l) : Ap 3 w0 w mb y N s1 s2 qp qo ql qr qa qb za zd a1 a2 ow al rn rl pa pr (updN bs k (some x)) (updN Fs k (p :: q :: F)) :=
  h.ap.close_ (some x) (p :: q :: F) hk (.inr ⟨p, q, F, x, e1, e2, rfl, rfl, h.pm, h.rm, ok, nd, e3.symm, e4.symm, e5.symm, e6.symm⟩) h.dis
theorem Ap.none_ (h : Ap k w0 w mb y N s1 s2 qp qo ql qr qa qb za zd a1 a2 ow al rn rl pa pr bs Fs) (hk : k < 3) (e1 : pa k = .pointer none) : Ap 3 w0 w mb y N s1 s2 qp qo ql qr qa qb za zd a1 a2 ow al rn rl pa pr (updN bs k none) (updN Fs k []) :=
  h.close_ none [] hk (.inl ⟨e1, rfl, rfl⟩) (fun _ _ _ z hz => by simp at hz)
theorem Ap.either (h : Ap 3 w0 w mb y N s1 s2 qp qo ql qr qa qb za zd a1 a2 ow al rn rl pa pr bs Fs) (hk : k < 3) : (pa k = .pointer none) ∨ ∃ p q F x, pa k = pt p ∧ pr k = pt q ∧ Hot k w0 w mb y N s1 s2 qp qo ql qr qa qb za zd a1 a2 ow al rn rl pa pr bs Fs p q F x x ∧ x.wh.Ok ∧ x.wh.pc ≠ 0 ∧ x.n = rn k := by
  rcases h.it k hk (by omega) with ⟨e, _, _⟩ | ⟨p, q, F, x, e1, e2, _, e4, m, M, ok, nd, _, _, e5, _⟩
  · exact .inl e
  · refine .inr ⟨p, q, F, x, e1, e2, ⟨h.open_ k, m, M, fun j hj hx z hz hz' => ?_⟩, ok, nd, e5⟩
    exact h.apart k j hk hj (fun e => hx e.symm) (by omega) (by omega) z (e4 ▸ hz) hz'
theorem Ap.born1 (h : Ap 3 w0 w mb y N s1 s2 qp qo ql qr qa qb za zd a1 a2 ow al rn rl pa pr bs Fs) (hk : k < 3) (hb : Below w.heap.size w w1) (m : PM w0 w1 p x) (hp : w.heap.size ≤ p) : Ap k w0 (w1.setCell ⟨qa, k, none⟩ (pt p)) mb y N s1 s2 qp qo ql qr qa qb za zd a1 a2 ow al rn rl (updN pa k (pt p)) pr bs Fs ∧ PM w0 (w1.setCell ⟨qa, k, none⟩ (pt p)) p x ∧ ∀ j, j < 3 → j ≠ k → p ∉ Fs j :=
  ⟨((h.below hb).open_ k).setA hk (pt p), m.low (h.below hb).ba (by decide) (Oth.set _ _ _ _ (by simp)), fun j hj hx hz => by have := (h.foot hj (by omega)).lt p hz; omega⟩
theorem Ap.born2 (h : Ap k w0 w mb y N s1 s2 qp qo ql qr qa qb za zd a1 a2 ow al rn rl pa pr bs Fs) (hk : k < 3) (m : PM w0 w p x1) (hd : ∀ j, j < 3 → j ≠ k → p ∉ Fs j) (hb : Below w.heap.size w w1) (M : RPm w0 w1 q [] x2) (hq : w.heap.size ≤ q) : Hot k w0 (w1.setCell ⟨qb, k, none⟩ (pt q)) mb y N s1 s2 qp qo ql qr qa qb za zd a1 a2 ow al rn rl pa (updN pr k (pt q)) bs Fs p q [] x1 x2 :=
  ⟨(h.below hb).setR hk (pt q), (m.below hb).low (h.below hb).bb (by decide) (Oth.set _ _ _ _ (by simp)), M.low (h.below hb).bb (by decide) (Oth.set _ _ _ _ (by simp)), fun j hj hx z hz hz' => by
    rw [List.mem_cons, List.mem_singleton] at hz
    rcases hz with rfl | rfl
    · exact hd j hj hx hz'
    · have := (h.foot hj hx).lt z hz'; omega⟩
end
end Go.Proofs.YtoablodmodnamaaDoor
