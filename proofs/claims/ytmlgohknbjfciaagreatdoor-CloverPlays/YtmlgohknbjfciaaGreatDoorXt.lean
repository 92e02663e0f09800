/-
  Three accesses side by side: program's and reference's, each at the same place.
-/
import Derived.Test.YtmlgohknbjfciaaGreatDoorXr1
import Derived.Test.YtmlgohknbjfciaaGreatDoorXr2
import Derived.Test.YtmlgohknbjfciaaGreatDoorXr3
import Derived.Test.YtmlgohknbjfciaaGreatDoorCa
namespace Go.Proofs.YtmlgohknbjfciaaGreatDoor
set_option linter.unusedVariables false
set_option linter.unusedSimpArgs false
set_option maxRecDepth 100000
open Go.ChangeShapes Go.WideShapes Go.RowKit
open H.Plain (hw pS pC pN pM pG pT pL mv)

/-- where the reference's stands when the program's stands there -/
def SimC (w0 w : World) (d : RC) (F : List Nat) : Cw → Prop
  | .fin t o => d.pc = 0 ∧ d.sh = t ∧ d.o = o ∧ F = []
  | .hd r h fx => d.pc = 1 ∧ d.sh = false ∧ d.o = Ou.zero ∧ d.r = r ∧ decide (7 ≤ d.e.md) = h ∧ (d.e.md == 8) = fx ∧ d.e.al = 9 ∧ d.n = pn4 ∧ F = []
  | .bl r h fx => d.pc = 2 ∧ d.sh = false ∧ d.o = Ou.zero ∧ d.r = r ∧ decide (7 ≤ d.e.md) = h ∧ (d.e.md == 8) = fx ∧ d.e.al = 9 ∧ d.n = pn4 ∧ F = []
  | .rd r h fx l => d.pc = 3 ∧ d.sh = false ∧ d.o = Ou.zero ∧ d.r = r ∧ decide (7 ≤ d.e.md) = h ∧ (d.e.md == 8) = fx ∧ d.e.al = 9 ∧ d.n = pn4 ∧ d.h.h6 = l ∧ F = []
  | .sw r h fx l z => d.pc = 4 ∧ d.sh = true ∧ d.o = Ou.zero ∧ d.r = r ∧ decide (7 ≤ d.e.md) = h ∧ (d.e.md == 8) = fx ∧ d.e.al = 9 ∧ d.n = pn4 ∧ d.h.h6 = l ∧ d.w = z ∧ F = []
  | .pl x => d.pc = 8 ∧ d.sh = x.hit ∧ d.e.al = 9 ∧ ∃ px F', F = px :: F' ∧ d.x = pt px ∧ RPm w0 w px F' x
  | .dr t x => d.pc = 9 ∧ d.sh = t ∧ d.e.al = 9 ∧ ∃ px F', F = px :: F' ∧ d.y = pt px ∧ RDm w0 w px F' x
structure RCm (w0 w : World) (p : Nat) (F : List Nat) (x : Cw) : Prop where
  it : ∃ d : RC, Blk w0 w p 65 d.cells ∧ SimC w0 w d F x ∧ p ∉ F
section
variable {w0 w w' : World} {b y p : Nat} {s1 s2 : St} {N : Nat} {F G : List Nat} {x : Cw}
theorem SimC.oth {d : RC} (S : SimC w0 w d F x) (o : Oth G w w') (hd : ∀ q ∈ F, q ∉ G) : SimC w0 w' d F x := by
  cases x with
  | pl x =>
    obtain ⟨h1, h2, ha, px, F', rfl, h3, M⟩ := S
    exact ⟨h1, h2, ha, px, F', rfl, h3, M.oth o (hd px (by simp)) (fun q hq => hd q (by simp [hq]))⟩
  | dr t x =>
    obtain ⟨h1, h2, ha, px, F', rfl, h3, M⟩ := S
    exact ⟨h1, h2, ha, px, F', rfl, h3, M.oth o (hd px (by simp)) (fun q hq => hd q (by simp [hq]))⟩
  | _ => exact S
theorem RCm.oth (h : RCm w0 w p F x) (o : Oth G w w') (hp : p ∉ G) (hd : ∀ q ∈ F, q ∉ G) : RCm w0 w' p F x := by
  obtain ⟨d, B, S, hpF⟩ := h
  exact ⟨d, B.oth o hp, S.oth o hd, hpF⟩
theorem RCm.below (h : RCm w0 w p F x) (hb : Below w.heap.size w w') : RCm w0 w' p F x := h.oth (G := []) (Oth.below hb) (by simp) (by simp)
theorem RCm.lt (h : RCm w0 w p F x) : p < w.heap.size := by
  obtain ⟨d, B, _⟩ := h
  exact B.lt
theorem RCm.foot (h : RCm w0 w p F x) : Foot w0 w (p :: F) := by
  obtain ⟨d, B, S, hpF⟩ := h
  intro q hq
  simp only [List.mem_cons] at hq
  rcases hq with rfl | hq
  · exact ⟨_, _, by decide, B⟩
  · cases x with
    | pl x =>
      obtain ⟨h1, h2, ha, px, F', rfl, h3, M⟩ := S
      obtain ⟨T, cs, hT, B'⟩ := M.footR q hq
      exact ⟨T, cs, (show ∀ T ∈ RTs, T ∈ FTs by decide) T hT, B'⟩
    | dr t x =>
      obtain ⟨h1, h2, ha, px, F', rfl, h3, M⟩ := S
      obtain ⟨T, cs, hT, B'⟩ := M.footR q hq
      exact ⟨T, cs, (show ∀ T ∈ RTs, T ∈ FTs by decide) T hT, B'⟩
    | fin t o => obtain ⟨_, _, _, rfl⟩ := S; simp at hq
    | hd r h fx => obtain ⟨_, _, _, _, _, _, _, _, rfl⟩ := S; simp at hq
    | bl r h fx => obtain ⟨_, _, _, _, _, _, _, _, rfl⟩ := S; simp at hq
    | rd r h fx l => obtain ⟨_, _, _, _, _, _, _, _, _, rfl⟩ := S; simp at hq
    | sw r h fx l z => obtain ⟨_, _, _, _, _, _, _, _, _, _, rfl⟩ := S; simp at hq
theorem RCm.shown (h : RCm w0 w p F x) : w.cell? ⟨p, 26, none⟩ = some (.bool x.hit) := by
  obtain ⟨d, B, S, hpF⟩ := h
  have e : d.sh = x.hit := by
    cases x with
    | fin t o => exact S.2.1
    | _ => exact S.2.1
  rw [← e]
  exact B.cell 26
/-- the reference's access steps as the program's does -/
theorem xC (h : Two w0 w b y s1 s2 N) (M : RCm w0 w p F x) (ok : x.Ok) (hN : N + 5 < 1000000) :
    Calls Tryz.prog 19 #[pt p, pt y] w fun e w' => e = .returned (.bool (x.next s2).done) ∧ Two w0 w' b y s1 (x.mem s2) (N + 1) ∧ Oth (p :: F) w w' ∧ ∃ F', RCm w0 w' p F' (x.next s2) ∧ ∀ k ∈ F', k ∈ F ∨ w.heap.size ≤ k := by
  obtain ⟨d, B, S, hpF⟩ := M
  have hlp := B.lt
  have go_dr : ∀ {w' : World} {z : St} {d' : RC} {fx t : Bool} {base : Int} {pd : Nat}, w.heap.size ≤ pd → d.r.Ok2 → XTo w0 w w' b y p s1 z (N + 1) d' → d'.pc = 9 → d'.sh = t → d'.e.al = 9 → d'.y = pt pd → Blk w0 w' pd 128 (RD.new (base + 1 + d.r.fd) d.r (hwC fx)).cells → RCm w0 w' p [pd] (Cw.go t d.r fx base) := by
    intro w' z d' fx t base pd hpd hr t' h1 h2 ha h3 D
    exact ⟨d', t'.blk, ⟨h1, h2, ha, pd, [], rfl, h3, rdm_new D hr.1⟩, by simp only [List.mem_singleton]; omega⟩
  have one : ∀ {pd : Nat}, w.heap.size ≤ pd → ∀ k ∈ [pd], k ∈ F ∨ w.heap.size ≤ k := fun h k hk => by simp at hk; subst hk; exact .inr h
  cases x with
  | fin t o =>
    obtain ⟨h1, h2, h3, rfl⟩ := S
    refine (xs0 h B hN h1).mono ?_
    rintro e w' ⟨rfl, rfl⟩
    exact ⟨rfl, h.mono (by omega), Oth.refl _ _, [], ⟨d, B, ⟨h1, h2, h3, rfl⟩, by simp⟩, by simp⟩
  | hd r sh fx =>
    obtain ⟨h1, h2, h3, rfl, h5, h4, ha, hn, rfl⟩ := S
    have fd0 := ok.2.2.2.1
    refine xs1 h B hN h4 h1 ok ha hn rfl rfl rfl rfl rfl rfl rfl rfl ?_ ?_ ?_ ?_ ?_
    · intro q1 w' t
      have en : (Cw.hd d.r sh fx).next s2 = .fin false ⟨15, Vl.zero, false⟩ := by simp only [Cw.next]; rw [if_pos (.inr q1)]
      rw [en]
      exact ⟨rfl, t.two, t.oth, [], ⟨_, t.blk, ⟨rfl, rfl, by simp only [h3]; rfl, rfl⟩, by simp⟩, by simp⟩
    · intro q1 q2 w' pd np t D
      have q0 : ¬ (d.r.fd < 0 ∨ pN (s2.got d.r.at_) ≤ d.r.fd) := by omega
      have en : (Cw.hd d.r sh fx).next s2 = Cw.go false d.r fx (pL (s2.got d.r.at_)) := by simp only [Cw.next]; rw [if_neg q0, if_pos q2]
      rw [en]
      exact ⟨rfl, t.two, t.oth, [pd], go_dr np ok t rfl rfl ha rfl D, one np⟩
    · intro q1 q3 w' t
      have q0 : ¬ (d.r.fd < 0 ∨ pN (s2.got d.r.at_) ≤ d.r.fd) := by omega
      have en : (Cw.hd d.r sh fx).next s2 = .rd d.r sh fx (pL (s2.got d.r.at_)) := by simp only [Cw.next]; rw [if_neg q0, if_neg (show ¬ pT (s2.got d.r.at_) = 2 by omega), if_pos q3]
      rw [en]
      exact ⟨rfl, t.two, t.oth, [], ⟨_, t.blk, ⟨rfl, rfl, h3, rfl, h5, h4, ha, hn, rfl, rfl⟩, by simp⟩, by simp⟩
    · intro q1 q2 q3 q4 w' pd np t D
      have q0 : ¬ (d.r.fd < 0 ∨ pN (s2.got d.r.at_) ≤ d.r.fd) := by omega
      have en : (Cw.hd d.r sh fx).next s2 = Cw.go false d.r fx d.r.at_ := by
        simp only [Cw.next]
        rw [if_neg q0, if_neg q2, if_neg q3, if_neg]
        rintro ⟨e1, e2, e3⟩
        rcases q4 with e | e | e
        · exact e1 e
        · exact e2 e
        · exact e e3
      rw [en]
      exact ⟨rfl, t.two, t.oth, [pd], go_dr np ok t rfl rfl ha rfl D, one np⟩
    · intro q1 q2 q3 q5 o1 q4 w' t
      have q0 : ¬ (d.r.fd < 0 ∨ pN (s2.got d.r.at_) ≤ d.r.fd) := by omega
      have en : (Cw.hd d.r sh fx).next s2 = .bl d.r sh fx := by simp only [Cw.next]; rw [if_neg q0, if_neg q2, if_neg q3, if_pos ⟨q5, o1, q4⟩]
      rw [en]
      exact ⟨rfl, t.two, t.oth, [], ⟨_, t.blk, ⟨rfl, rfl, h3, rfl, h5, h4, ha, hn, rfl⟩, by simp⟩, by simp⟩
  | bl r sh fx =>
    obtain ⟨h1, h2, h3, rfl, h5, h4, ha, hn, rfl⟩ := S
    refine xs2 h B hN h4 h1 ok ha hn rfl rfl rfl rfl rfl ?_ ?_
    · intro q w' t
      have en : (Cw.bl d.r sh fx).next s2 = .fin false ⟨3, Vl.zero, false⟩ := by simp only [Cw.next]; rw [if_pos q]
      rw [en]
      exact ⟨rfl, t.two, t.oth, [], ⟨_, t.blk, ⟨rfl, rfl, by simp only [h3]; rfl, rfl⟩, by simp⟩, by simp⟩
    · intro q w' pd np t D
      have en : (Cw.bl d.r sh fx).next s2 = Cw.go false d.r fx d.r.at_ := by simp only [Cw.next]; rw [if_neg q]
      rw [en]
      exact ⟨rfl, t.two, t.oth, [pd], go_dr np ok t rfl rfl ha rfl D, one np⟩
  | rd r sh fx l =>
    obtain ⟨h1, h2, h3, rfl, h5, h4, ha, hn, rfl, rfl⟩ := S
    have en : (Cw.rd d.r sh fx d.h.h6).next s2 = Cw.seen d.r sh fx d.h.h6 (s2.got (d.r.at_ + 1 + d.r.fd)) := rfl
    rw [en]
    have nx : (d.r.op = 2 ∨ d.r.op = 3 ∧ Vl.of (s2.got (d.r.at_ + 1 + d.r.fd)) = d.r.x) → d.r.op ≠ 1 ∧ ¬ (d.r.op = 3 ∧ Vl.of (s2.got (d.r.at_ + 1 + d.r.fd)) ≠ d.r.x) := by
      rintro (e | ⟨e, e'⟩)
      · exact ⟨by omega, fun e2 => by omega⟩
      · exact ⟨by omega, fun e2 => e2.2 e'⟩
    refine xs3 h B hN h4 h1 ok.1 ha hn ok.2 rfl rfl rfl ?_ ?_ ?_ ?_ ?_
    · intro q1 w' pd np t D
      rw [Cw.seen, if_pos q1]
      exact ⟨rfl, t.two, t.oth, [pd], go_dr np ok.1 t rfl rfl ha rfl D, one np⟩
    · intro q1 q2 w' t
      rw [Cw.seen, if_neg q1, if_pos q2]
      exact ⟨rfl, t.two, t.oth, [], ⟨_, t.blk, ⟨rfl, rfl, by simp only [h3]; rfl, rfl⟩, by simp⟩, by simp⟩
    · intro q1 q3 q4 w' t
      rw [Cw.seen, if_neg q1, if_neg (show ¬ d.r.op = 1 by omega), if_pos ⟨q3, q4⟩]
      exact ⟨rfl, t.two, t.oth, [], ⟨_, t.blk, ⟨rfl, rfl, h3, rfl⟩, by simp⟩, by simp⟩
    · intro q1 q3 q4 w' t
      rw [Cw.seen, if_neg q1, if_neg (nx q3).1, if_neg (nx q3).2, if_pos]
      · exact ⟨rfl, t.two, t.oth, [], ⟨_, t.blk, ⟨rfl, rfl, by simp only [h3]; rfl, rfl⟩, by simp⟩, by simp⟩
      · rcases q4 with e | e
        · exact .inr e
        · exact .inl (h5 ▸ decide_eq_true e)
    · intro q1 q3 q4 q5 w' t
      rw [Cw.seen, if_neg q1, if_neg (nx q3).1, if_neg (nx q3).2, if_neg]
      · exact ⟨rfl, t.two, t.oth, [], ⟨_, t.blk, ⟨rfl, rfl, h3, rfl, h5, h4, ha, hn, rfl, rfl, rfl⟩, by simp⟩, by simp⟩
      · rintro (e | e)
        · exact absurd (of_decide_eq_true (h5.trans e)) (by omega)
        · exact q4 e
  | sw r sh fx l z =>
    obtain ⟨h1, h2, h3, rfl, h5, h4, ha, hn, rfl, rfl, rfl⟩ := S
    refine xs4 h B hN h1 ok.1 ha hn rfl rfl rfl rfl ?_ ?_
    · intro q2 w' t
      have en : (Cw.sw d.r sh fx d.h.h6 d.w).next s2 = .rd d.r sh fx d.h.h6 := by simp only [Cw.next, q2]; rfl
      rw [en]
      exact ⟨rfl, t.two, t.oth, [], ⟨_, t.blk, ⟨rfl, rfl, h3, rfl, h5, h4, ha, hn, rfl, rfl⟩, by simp⟩, by simp⟩
    · intro q2 w' t
      have en : (Cw.sw d.r sh fx d.h.h6 d.w).next s2 = .fin true ⟨0, Vl.zero, d.r.op == 3⟩ := by simp only [Cw.next, q2]; rfl
      rw [en]
      exact ⟨rfl, t.two, t.oth, [], ⟨_, t.blk, ⟨rfl, rfl, by simp only [h3]; rfl, rfl⟩, by simp⟩, by simp⟩
  | pl x =>
    obtain ⟨h1, h2, ha, px, F', rfl, h3, M⟩ := S
    have hn : ∀ q ∈ px :: F', q ≠ p := fun q hq e => hpF (e ▸ hq)
    refine xs8 h B hN h1 ha h3 M hpF hn rfl rfl ?_ ?_
    · intro hd w' t bl ot F2 M2 fr
      have en : (Cw.pl x).next s2 = .pl (x.next s2) := by simp only [Cw.next, Cw.onP, hd]; rfl
      rw [en]
      refine ⟨rfl, t, ot, px :: F2, ⟨_, bl, ⟨h1, rfl, ha, px, F2, rfl, h3, M2⟩, ?_⟩, fun k hk => ?_⟩
      · simp only [List.mem_cons, not_or]
        refine ⟨fun e => hpF (by simp [e]), fun h => ?_⟩
        rcases fr p h with h | h
        · exact hpF (by simp [h])
        · omega
      · simp only [List.mem_cons] at hk ⊢
        rcases hk with rfl | hk
        · exact .inl (.inl rfl)
        · exact (fr k hk).imp .inr id
    · intro hd w' t bl ot
      have en : (Cw.pl x).next s2 = .fin (x.next s2).hit (x.next s2).o := by simp only [Cw.next, Cw.onP, hd]; rfl
      rw [en]
      exact ⟨rfl, t, ot, [], ⟨_, bl, ⟨rfl, rfl, rfl, rfl⟩, by simp⟩, by simp⟩
  | dr t x =>
    obtain ⟨h1, h2, ha, px, F', rfl, h3, M⟩ := S
    have hn : ∀ q ∈ px :: F', q ≠ p := fun q hq e => hpF (e ▸ hq)
    refine xs9 h B hN h1 ha h3 M hpF hn rfl rfl ?_ ?_
    · intro hd w' tw bl ot F2 M2 fr
      have en : (Cw.dr t x).next s2 = .dr (x.next s2).hit (x.next s2) := by simp only [Cw.next, Cw.onD, hd]; rfl
      rw [en]
      refine ⟨rfl, tw, ot, px :: F2, ⟨_, bl, ⟨h1, rfl, ha, px, F2, rfl, h3, M2⟩, ?_⟩, fun k hk => ?_⟩
      · simp only [List.mem_cons, not_or]
        refine ⟨fun e => hpF (by simp [e]), fun h => ?_⟩
        rcases fr p h with h | h
        · exact hpF (by simp [h])
        · omega
      · simp only [List.mem_cons] at hk ⊢
        rcases hk with rfl | hk
        · exact .inl (.inl rfl)
        · exact (fr k hk).imp .inr id
    · intro hd w' tw bl ot
      have en : (Cw.dr t x).next s2 = .fin (x.next s2).hit (x.next s2).o := by simp only [Cw.next, Cw.onD, hd]; rfl
      rw [en]
      exact ⟨rfl, tw, ot, [], ⟨_, bl, ⟨rfl, rfl, rfl, rfl⟩, by simp⟩, by simp⟩
end
end Go.Proofs.YtmlgohknbjfciaaGreatDoor

namespace Go.Proofs.YtmlgohknbjfciaaGreatDoor
set_option linter.unusedVariables false
set_option linter.unusedSimpArgs false
set_option maxRecDepth 100000
open Go.ChangeShapes Go.WideShapes Go.RowKit

section
variable {w0 w w' : World} {p : Nat} {F : List Nat} {x : Cw}
theorem rc_res0 {d : RC} (B : Blk w0 w p 65 d.cells) (h : d.pc = 0) : Calls Tryz.prog 22 #[pt p] w fun e w' => e = .returned d.o.val ∧ Below w.heap.size w w' := by
  have c10 : w.cell? ⟨p, 15, none⟩ = some (.int .i64 0) := h ▸ B.cell 15
  have c2 : w.cell? ⟨p, 27, none⟩ = some (.int .i64 d.o.c) := B.cell 27
  have c3 : w.cell? ⟨p, 28, none⟩ = some (.int .i64 d.o.v.k) := B.cell 28
  have c4 : w.cell? ⟨p, 29, none⟩ = some (.int .i64 d.o.v.n) := B.cell 29
  have c5 : w.cell? ⟨p, 30, none⟩ = some (.bool d.o.y) := B.cell 30
  have l := B.lt
  go_enter Tryz.func22, Tryz.ntmps22
  go_wp2
  exact bodyPost_ret (v := d.o.val) (by simp [results, Tryz.results22, go_sem, Ou.val]) rfl ⟨rfl, by go_grown⟩
theorem rc_res1 {d : RC} (B : Blk w0 w p 65 d.cells) (h : d.pc ≠ 0) : Calls Tryz.prog 22 #[pt p] w fun e w' => e = .returned Ou.zero.val ∧ Below w.heap.size w w' := by
  obtain ⟨pc, hpc⟩ : ∃ q, d.pc = q := ⟨_, rfl⟩
  have c10 : w.cell? ⟨p, 15, none⟩ = some (.int .i64 pc) := hpc ▸ B.cell 15
  have q : (pc != 0) = true := by rw [← hpc]; simpa using h
  have l := B.lt
  clear h hpc B
  go_enter Tryz.func22, Tryz.ntmps22
  go_wp2
  exact bodyPost_ret (v := Ou.zero.val) (by simp [results, Tryz.results22, go_sem, Ou.val, Ou.zero, Vl.zero]) rfl ⟨rfl, by go_grown⟩
/-- its answer is the program's -/
theorem rCResult (M : RCm w0 w p F x) (ok : x.Ok) : Calls Tryz.prog 22 #[pt p] w fun e w' => e = .returned x.o.val ∧ Below w.heap.size w w' := by
  obtain ⟨d, B, S, hpF⟩ := M
  cases x with
  | fin t o => obtain ⟨h1, h2, rfl, h4⟩ := S; exact rc_res0 B h1
  | hd r sh fx => exact rc_res1 B (by rw [S.1]; decide)
  | bl r sh fx => exact rc_res1 B (by rw [S.1]; decide)
  | rd r sh fx l => exact rc_res1 B (by rw [S.1]; decide)
  | sw r sh fx l z => exact rc_res1 B (by rw [S.1]; decide)
  | pl x => exact rc_res1 B (by rw [S.1]; decide)
  | dr t x => exact rc_res1 B (by rw [S.1]; decide)
end
section
set_option maxHeartbeats 3000000
/-- it is made -/
theorem rNewC {w0 : World} (r : Rq) (e : En) (w : World) (hs : w0.heap.size ≤ w.heap.size) (hr : r.Ok) (hal : e.al = 9) :
    Calls Tryz.prog 17 #[.agg #[.int .i64 4, .int .i64 4, .int .i64 14, .int .i64 32, .int .i64 160], .agg #[.int .i64 r.op, .int .i64 r.at_, .int .i64 r.fd, .int .i64 r.x.k, .int .i64 r.x.n, .int .i64 r.y.k, .int .i64 r.y.n], .agg #[.int .i64 e.md, .int .i64 e.mr, .int .i64 e.al]] w fun e' w' => ∃ p F, e' = .returned (pt p) ∧ Below w.heap.size w w' ∧ w.heap.size ≤ p ∧ (∀ k ∈ F, w.heap.size ≤ k) ∧ RCm w0 w' p F (Cw.new r e) := by
  have hal' : Hid (e.al = 9) := hal
  clear hal
  unfold Cw.new
  by_cases h5 : e.md < 5
  · have q2 : decide (e.md < 5) = true := by simpa using h5
    have hop := hr.1
    rw [show (if r.at_ = 0 then Cw.fin false ⟨14, Vl.zero, false⟩ else if e.md < 5 then .pl (Sx.plain r e) else .hd r (decide (7 ≤ e.md)) (e.md == 8)) = (if r.at_ = 0 then Cw.fin false ⟨14, Vl.zero, false⟩ else Cw.pl (Sx.plain r e)) by rw [if_pos h5]]
    clear h5
    obtain ⟨X, hX⟩ : ∃ X : Cw, (if r.at_ = 0 then Cw.fin false ⟨14, Vl.zero, false⟩ else Cw.pl (Sx.plain r e)) = X := ⟨_, rfl⟩
    rw [hX]
    have B0' : Blk w0 ((((w.alloc (.cells #[.int .i64 4, .int .i64 4, .int .i64 14, .int .i64 32, .int .i64 160] 48)).alloc (.cells #[.int .i64 r.op, .int .i64 r.at_, .int .i64 r.fd, .int .i64 r.x.k, .int .i64 r.x.n, .int .i64 r.y.k, .int .i64 r.y.n] 51)).alloc (.cells #[.int .i64 e.md, .int .i64 e.mr, .int .i64 e.al] 54)).alloc (.cells (RC.mk pn4 r e 1 0 ⟨0, 0, 0, 0, 0, 0, 0⟩ (.pointer none) (.pointer none) false Ou.zero).cells 65)) (w.heap.size + 1 + 1 + 1) 65 (RC.mk pn4 r e 1 0 ⟨0, 0, 0, 0, 0, 0, 0⟩ (.pointer none) (.pointer none) false Ou.zero).cells := ⟨newAt (by simp), by omega, by decide⟩
    have H0' : Below w.heap.size w ((((w.alloc (.cells #[.int .i64 4, .int .i64 4, .int .i64 14, .int .i64 32, .int .i64 160] 48)).alloc (.cells #[.int .i64 r.op, .int .i64 r.at_, .int .i64 r.fd, .int .i64 r.x.k, .int .i64 r.x.n, .int .i64 r.y.k, .int .i64 r.y.n] 51)).alloc (.cells #[.int .i64 e.md, .int .i64 e.mr, .int .i64 e.al] 54)).alloc (.cells (RC.mk pn4 r e 1 0 ⟨0, 0, 0, 0, 0, 0, 0⟩ (.pointer none) (.pointer none) false Ou.zero).cells 65)) := by go_grown
    go_enter Tryz.func17, Tryz.ntmps17
    go_upto_region 3 with (fail)
    have R1 : Blk w0 ((((w.alloc (.cells #[.int .i64 4, .int .i64 4, .int .i64 14, .int .i64 32, .int .i64 160] 48)).alloc (.cells #[.int .i64 r.op, .int .i64 r.at_, .int .i64 r.fd, .int .i64 r.x.k, .int .i64 r.x.n, .int .i64 r.y.k, .int .i64 r.y.n] 51)).alloc (.cells #[.int .i64 e.md, .int .i64 e.mr, .int .i64 e.al] 54)).alloc (.cells (RC.mk pn4 r e 1 0 ⟨0, 0, 0, 0, 0, 0, 0⟩ (.pointer none) (.pointer none) false Ou.zero).cells 65)) (w.heap.size + 1) 51 #[.int .i64 r.op, .int .i64 r.at_, .int .i64 r.fd, .int .i64 r.x.k, .int .i64 r.x.n, .int .i64 r.y.k, .int .i64 r.y.n] := ⟨oldAt (oldAt (newAt (by simp))), by omega, by decide⟩
    have E1 : Blk w0 ((((w.alloc (.cells #[.int .i64 4, .int .i64 4, .int .i64 14, .int .i64 32, .int .i64 160] 48)).alloc (.cells #[.int .i64 r.op, .int .i64 r.at_, .int .i64 r.fd, .int .i64 r.x.k, .int .i64 r.x.n, .int .i64 r.y.k, .int .i64 r.y.n] 51)).alloc (.cells #[.int .i64 e.md, .int .i64 e.mr, .int .i64 e.al] 54)).alloc (.cells (RC.mk pn4 r e 1 0 ⟨0, 0, 0, 0, 0, 0, 0⟩ (.pointer none) (.pointer none) false Ou.zero).cells 65)) (w.heap.size + 1 + 1) 54 #[.int .i64 e.md, .int .i64 e.mr, .int .i64 e.al] := ⟨oldAt (newAt (by simp)), by omega, by decide⟩
    unfold RC.cells at B0' H0' R1 E1
    simp only [Vl.zero, Ou.zero, pn4] at B0' H0' R1 E1
    generalize (((w.alloc _).alloc _).alloc _).alloc _ = w1 at B0' H0' R1 E1 ⊢
    have hp1 : w.heap.size ≤ w.heap.size + 1 + 1 + 1 := by omega
    generalize w.heap.size + 1 + 1 + 1 = p at B0' hp1 ⊢
    generalize w.heap.size + 1 + 1 = eb at E1 ⊢
    generalize w.heap.size + 1 = rb at R1 ⊢
    have B1 : Blk w0 w1 p 65 (RC.mk pn4 r e 1 0 ⟨0, 0, 0, 0, 0, 0, 0⟩ (.pointer none) (.pointer none) false Ou.zero).cells := B0'
    clear B0'
    have r0 : w1.cell? ⟨rb, 0, none⟩ = some (.int .i64 r.op) := R1.cell 0
    have r1 : w1.cell? ⟨rb, 1, none⟩ = some (.int .i64 r.at_) := R1.cell 1
    have r2 : w1.cell? ⟨rb, 2, none⟩ = some (.int .i64 r.fd) := R1.cell 2
    have r3 : w1.cell? ⟨rb, 3, none⟩ = some (.int .i64 r.x.k) := R1.cell 3
    have r4 : w1.cell? ⟨rb, 4, none⟩ = some (.int .i64 r.x.n) := R1.cell 4
    have r5 : w1.cell? ⟨rb, 5, none⟩ = some (.int .i64 r.y.k) := R1.cell 5
    have r6 : w1.cell? ⟨rb, 6, none⟩ = some (.int .i64 r.y.n) := R1.cell 6
    have v0 : w1.cell? ⟨eb, 0, none⟩ = some (.int .i64 e.md) := E1.cell 0
    have v1 : w1.cell? ⟨eb, 1, none⟩ = some (.int .i64 e.mr) := E1.cell 1
    have v2 : w1.cell? ⟨eb, 2, none⟩ = some (.int .i64 e.al) := E1.cell 2
    have l1 := R1.lt
    have l2 := E1.lt
    go_upto_region 4 with (go_at_call 46; refine (rNewPlain r e _).mono ?_; rintro e' w2 ⟨px, rfl, M⟩; have P2 := M.blk' (w0 := w0) (Nat.le_trans hs H0'.size) (by decide); have B2 := B1.below M.bel; have H2 := bel_trans H0' M.bel; have npx : px ≠ p := (by have := M.new; have := B1.lt; omega); have hpx : w.heap.size ≤ px := (by have := M.new; have := H0'.size; omega); have c14 : w2.cell? ⟨p, 24, none⟩ = some (.pointer none) := B2.cell 24; have f14 := B2.free 24; clear M)
    have K3 : Kept [p] w2 (w2.setCell ⟨p, 24, none⟩ (pt px)) := Kept.setCell [p] _ _ _ (by simp)
    have B3 := B2.r_x (pt px)
    have P3 := P2.oth (Oth.kept K3) (by simpa using npx)
    have H3 := H2.trans (K3.below (fun j hj => by simp at hj; subst hj; exact hp1) H2.size)
    clear c14 f14 r0 r1 r2 r3 r4 r5 r6 v0 v1 v2 l1 l2 K3
    generalize w2.setCell ⟨p, 24, none⟩ (pt px) = w3 at B3 P3 H3 ⊢
    have c10 : w3.cell? ⟨p, 15, none⟩ = some (.int .i64 1) := B3.cell 15
    have f10 := B3.free 15
    go_upto_region 5 with (fail)
    have K4 : Kept [p] w3 (w3.setCell ⟨p, 15, none⟩ (.int .i64 8)) := Kept.setCell [p] _ _ _ (by simp)
    have B4 := B3.r_pc 8
    have P4 := P3.oth (Oth.kept K4) (by simpa using npx)
    have H4 := H3.trans (K4.below (fun j hj => by simp at hj; subst hj; exact hp1) H3.size)
    clear c10 f10 K4
    generalize w3.setCell ⟨p, 15, none⟩ (.int .i64 8) = w4 at B4 P4 H4 ⊢
    have M4 : RPm w0 w4 px [] (Sx.plain r e) := rpm_new P4 hop hr.2.1 (by have := hr.2.2.1; omega)
    have c14 : w4.cell? ⟨p, 24, none⟩ = some (pt px) := B4.cell 24
    obtain ⟨oo, hoo⟩ : ∃ o, (Sx.plain r e).o = o := ⟨_, rfl⟩
    go_upto_region 6 with (go_at_call 47; refine (rPResult M4).mono ?_; rintro e' w5 ⟨rfl, hb5⟩; rw [hoo]; unfold Ou.val; have B5 := B4.below hb5; have P5 := P4.below hb5; have H5 := bel_trans H4 hb5; have z17 : w5.cell? ⟨p, 27, none⟩ = some (.int .i64 0) := B5.cell 27; have z18 : w5.cell? ⟨p, 28, none⟩ = some (.int .i64 0) := B5.cell 28; have z19 : w5.cell? ⟨p, 29, none⟩ = some (.int .i64 0) := B5.cell 29; have z20 : w5.cell? ⟨p, 30, none⟩ = some (.bool false) := B5.cell 30; have f17 := B5.free 27; have f18 := B5.free 28; have f19 := B5.free 29; have f20 := B5.free 30)
    have K6 := kept4 w5 p 27 28 29 30 (.int .i64 oo.c) (.int .i64 oo.v.k) (.int .i64 oo.v.n) (.bool oo.y)
    have B6 := B5.r_o oo
    have P6 := P5.oth (Oth.kept K6) (by simpa using npx)
    have H6 := H5.trans (K6.below (fun j hj => by simp at hj; subst hj; exact hp1) H5.size)
    clear c14 z17 z18 z19 z20 f17 f18 f19 f20 K6
    generalize (((w5.setCell ⟨p, 27, none⟩ (.int .i64 oo.c)).setCell ⟨p, 28, none⟩ (.int .i64 oo.v.k)).setCell ⟨p, 29, none⟩ (.int .i64 oo.v.n)).setCell ⟨p, 30, none⟩ (.bool oo.y) = w6 at B6 P6 H6 ⊢
    have c14 : w6.cell? ⟨p, 24, none⟩ = some (pt px) := B6.cell 24
    have c10 : w6.cell? ⟨p, 15, none⟩ = some (.int .i64 8) := B6.cell 15
    have f10 := B6.free 15
    have M6' : RPm w0 w6 px [] (Sx.plain r e) := rpm_new P6 hop hr.2.1 (by have := hr.2.2.1; omega)
    by_cases h : r.at_ = 0
    · have hd : (RP.new r e).pc = 0 := by unfold RP.new; rw [if_pos h]
      have x10 : w6.cell? ⟨px, 10, none⟩ = some (.int .i64 0) := hd ▸ P6.cell 10
      rw [if_pos h] at hX
      subst hX
      have hpl : Hid (oo = (⟨14, Vl.zero, false⟩ : Ou)) := show oo = _ by rw [← hoo]; unfold Sx.plain; rw [if_pos h]
      clear h hd hoo
      go_wp2
      go_ret
      have K7 : Kept [p] w6 (w6.setCell ⟨p, 15, none⟩ (.int .i64 0)) := Kept.setCell [p] _ _ _ (by simp)
      have fin : RCm w0 (w6.setCell ⟨p, 15, none⟩ (.int .i64 0)) p [] (.fin false ⟨14, Vl.zero, false⟩) := ⟨_, B6.r_pc 0, ⟨rfl, rfl, hpl, rfl⟩, by simp⟩
      have bel := H6.trans (K7.below (fun j hj => by simp at hj; subst hj; exact hp1) H6.size)
      first
        | exact ⟨p, [], rfl, bel, hp1, by simp, fin⟩
        | exact ⟨p, rfl, bel, hp1, [], by simp, fin⟩
    · have hd : (RP.new r e).pc = 1 := by unfold RP.new; rw [if_neg h]
      have x10 : w6.cell? ⟨px, 10, none⟩ = some (.int .i64 1) := hd ▸ P6.cell 10
      have hh : (Sx.plain r e).hit = false := by unfold Sx.plain; rw [if_neg h]
      rw [if_neg h] at hX
      subst hX
      clear h hd
      go_wp2
      go_ret
      have fin : RCm w0 w6 p [px] (.pl (Sx.plain r e)) := ⟨_, B6, ⟨rfl, hh.symm, hal'.out, px, [], rfl, rfl, M6'⟩, by simpa using Ne.symm npx⟩
      first
        | exact ⟨p, [px], rfl, H6, hp1, by simpa using hpx, fin⟩
        | exact ⟨p, rfl, H6, hp1, [px], by simpa using hpx, fin⟩
  · have q2 : decide (e.md < 5) = false := by simpa using h5
    by_cases h : r.at_ = 0
    · rw [if_pos h]
      have q : (r.at_ == 0) = true := by simp [h]
      clear h h5
      go_enter Tryz.func17, Tryz.ntmps17
      go_wp2
      go_ret
      refine ⟨_, [], rfl, by go_grown, by first | omega | (simp; omega) | simp, by simp, ⟨RC.mk pn4 r e 0 0 ⟨0, 0, 0, 0, 0, 0, 0⟩ (.pointer none) (.pointer none) false ⟨14, Vl.zero, false⟩, ⟨by first | exact newAt (by simp) | exact newAt rfl, by first | omega | (simp; omega), by decide⟩, ⟨rfl, rfl, rfl, rfl⟩, by simp⟩⟩
    · rw [if_neg h, if_neg h5]
      have q : (r.at_ == 0) = false := by simpa using h
      clear h h5
      obtain ⟨fx, hfx⟩ : ∃ fx, (e.md == 8) = fx := ⟨_, rfl⟩
      obtain ⟨sh, hsh⟩ : ∃ fx, decide (7 ≤ e.md) = fx := ⟨_, rfl⟩
      rw [hfx, hsh]
      go_enter Tryz.func17, Tryz.ntmps17
      go_wp2
      go_ret
      exact ⟨_, [], rfl, by go_grown, by first | omega | (simp; omega) | simp, by simp, ⟨RC.mk pn4 r e 1 0 ⟨0, 0, 0, 0, 0, 0, 0⟩ (.pointer none) (.pointer none) false Ou.zero, ⟨by first | exact newAt (by simp) | exact newAt rfl, by first | omega | (simp; omega), by decide⟩, ⟨rfl, rfl, rfl, rfl, hsh, hfx, hal'.out, rfl, rfl⟩, by simp⟩⟩
end
end Go.Proofs.YtmlgohknbjfciaaGreatDoor

namespace Go.Proofs.YtmlgohknbjfciaaGreatDoor
set_option linter.unusedVariables false
set_option linter.unusedSimpArgs false
set_option maxRecDepth 100000
open Go.ChangeShapes Go.WideShapes Go.RowKit

theorem fts_bts : ∀ T ∈ FTs, T ∉ BTs := by decide
section
variable {w0 w w' w1 w2 : World} {F G F' F2 : List Nat} {p q k : Nat} {T : TypeId} {c : Array Value} {va vr : Value} {x x' : Cw}
theorem Foot.lt (f : Foot w0 w F) : ∀ q ∈ F, q < w.heap.size := fun q hq => by
  obtain ⟨T, cs, _, B⟩ := f q hq
  exact B.lt
theorem Foot.ne (f : Foot w0 w F) (B : Blk w0 w p T c) (hT : T ∉ FTs) : ∀ q ∈ F, q ≠ p := fun q hq e => by
  obtain ⟨T', cs', h1, h2⟩ := f q hq
  exact (B.ne (e ▸ h2) (fun e' => hT (e' ▸ h1))) rfl
theorem Foot.at (f : Foot w0 w F) : ∀ q ∈ F, ∃ cs T fz, w.heap[q]? = some (.cells cs T fz) ∧ T ∉ BTs := fun q hq => by
  obtain ⟨T', cs', h1, h2⟩ := f q hq
  exact ⟨_, _, _, h2.at_, fts_bts _ h1⟩
/-- the reference's blocks are none of the program's machines -/
theorem RCm.ne (h : RCm w0 w q F x) (B : Blk w0 w p 112 c) : ∀ k ∈ q :: F, k ≠ p := by
  obtain ⟨d, Bq, S, hpF⟩ := h
  intro k hk e
  subst e
  simp only [List.mem_cons] at hk
  rcases hk with rfl | hk
  · exact (B.ne Bq (by decide)) rfl
  · cases x with
    | pl x =>
      obtain ⟨h1, h2, ha, px, F', rfl, h3, M⟩ := S
      obtain ⟨T, cs, hT, B'⟩ := M.footR k hk
      exact (B.ne B' (fun e => (show 112 ∉ RTs by decide) (e ▸ hT))) rfl
    | dr x =>
      obtain ⟨h1, h2, ha, px, F', rfl, h3, M⟩ := S
      obtain ⟨T, cs, hT, B'⟩ := M.footR k hk
      exact (B.ne B' (fun e => (show 112 ∉ RTs by decide) (e ▸ hT))) rfl
    | fin t o => obtain ⟨_, _, _, rfl⟩ := S; simp at hk
    | hd r h fx => obtain ⟨_, _, _, _, _, _, _, _, rfl⟩ := S; simp at hk
    | bl r h fx => obtain ⟨_, _, _, _, _, _, _, _, rfl⟩ := S; simp at hk
    | rd r h fx l => obtain ⟨_, _, _, _, _, _, _, _, _, rfl⟩ := S; simp at hk
    | sw r h fx l z => obtain ⟨_, _, _, _, _, _, _, _, _, _, rfl⟩ := S; simp at hk
/-- one of the three -/
def Wrk (w0 w : World) (va vr : Value) (F : List Nat) (x : Cw) : Prop :=
  (va = .pointer none ∧ F = []) ∨ ∃ p q F', va = pt p ∧ vr = pt q ∧ F = p :: q :: F' ∧ Cm w0 w p x ∧ RCm w0 w q F' x
theorem Wrk.foot (h : Wrk w0 w va vr F x) : Foot w0 w F := by
  rcases h with ⟨_, rfl⟩ | ⟨p, q, F', _, _, rfl, m, M⟩
  · intro k hk
    simp at hk
  · intro k hk
    rw [List.mem_cons] at hk
    rcases hk with rfl | hk
    · obtain ⟨cs, B⟩ := m.blk
      exact ⟨_, _, by decide, B⟩
    · exact M.foot k hk
theorem Wrk.oth (h : Wrk w0 w va vr F x) (ot : Oth G w w') (hd : ∀ q ∈ F, q ∉ G) (hG : ∀ q ∈ G, ∃ cs T fz, w.heap[q]? = some (.cells cs T fz) ∧ T ∉ BTs) : Wrk w0 w' va vr F x := by
  rcases h with ⟨h1, h2⟩ | ⟨p, q, F', h1, h2, rfl, m, M⟩
  · exact .inl ⟨h1, h2⟩
  · exact .inr ⟨p, q, F', h1, h2, rfl, m.oth ot (hd p (by simp)) hG, M.oth ot (hd q (by simp)) (fun k hk => hd k (by simp [hk]))⟩
end
theorem updN_at {α : Type} (f : Nat → α) (k : Nat) (v : α) : updN f k v k = v := if_pos rfl
theorem updN_ne {α : Type} (f : Nat → α) {k j : Nat} (v : α) (h : j ≠ k) : updN f k v j = f j := if_neg h
/-- the three -/
structure Team (w0 w : World) (pa pr : Nat → Value) (F : Nat → List Nat) (x : Nat → Cw) : Prop where
  it : ∀ k, k < 3 → Wrk w0 w (pa k) (pr k) (F k) (x k)
  apart : ∀ j k, j < 3 → k < 3 → j ≠ k → ∀ q ∈ F j, q ∉ F k
section
variable {w0 w w' w1 w2 : World} {pa pr : Nat → Value} {F : Nat → List Nat} {x : Nat → Cw} {G F' F2 : List Nat} {k p q : Nat} {x' : Cw} {T T' : TypeId} {c c' : Array Value}
theorem Team.foot (h : Team w0 w pa pr F x) (hk : k < 3) : Foot w0 w (F k) := (h.it k hk).foot
theorem Team.oth (h : Team w0 w pa pr F x) (ot : Oth G w w') (hd : ∀ k, k < 3 → ∀ q ∈ F k, q ∉ G) (hG : ∀ q ∈ G, ∃ cs T fz, w.heap[q]? = some (.cells cs T fz) ∧ T ∉ BTs) : Team w0 w' pa pr F x :=
  ⟨fun k hk => (h.it k hk).oth ot (hd k hk) hG, h.apart⟩
theorem Team.below (h : Team w0 w pa pr F x) (hb : Below w.heap.size w w') : Team w0 w' pa pr F x := h.oth (G := []) (Oth.below hb) (by simp) (by simp)
theorem Team.oth0 (h : Team w0 w pa pr F x) (ot : Oth [] w w') : Team w0 w' pa pr F x := h.oth ot (by simp) (by simp)
theorem team_none {w0 w : World} : Team w0 w (fun _ => .pointer none) (fun _ => .pointer none) (fun _ => []) (fun _ => .fin false Ou.zero) := ⟨fun k hk => .inl ⟨rfl, rfl⟩, fun _ _ _ _ _ q hq => by simp at hq⟩
theorem Team.either (M : Team w0 w pa pr F x) (hk : k < 3) : pa k = .pointer none ∨ ∃ p, pa k = pt p := by
  rcases M.it k hk with ⟨h, _⟩ | ⟨p, _, _, h, _⟩
  · exact .inl h
  · exact .inr ⟨p, h⟩
theorem Team.busy (M : Team w0 w pa pr F x) (hk : k < 3) (h : pa k = pt p) : ∃ q F', pr k = pt q ∧ F k = p :: q :: F' ∧ Cm w0 w p (x k) ∧ RCm w0 w q F' (x k) := by
  rcases M.it k hk with ⟨e, _⟩ | ⟨p', q, F', e, e2, e3, m, M⟩
  · rw [h] at e
    simp at e
  · rw [h] at e
    simp at e
    subst e
    exact ⟨q, F', e2, e3, m, M⟩
/-- one of them has stepped -/
theorem Team.stepped (M : Team w0 w pa pr F x) (hk : k < 3) (ha : pa k = pt p) (hr : pr k = pt q) (e : F k = p :: q :: F') (o1 : Oth [p] w w1) (o2 : Oth (q :: F') w1 w2) (m2 : Cm w0 w2 p x') (M2 : RCm w0 w2 q F2 x') (fr : ∀ j ∈ F2, j ∈ F' ∨ w1.heap.size ≤ j) :
    Team w0 w2 pa pr (updN F k (p :: q :: F2)) (updN x k x') := by
  have O : Oth (F k) w w2 := by
    rw [e]
    exact (o1.mono (by simp)).trans (o2.mono (by simp +contextual))
  have hG := (M.foot hk).at
  have key : ∀ j ∈ p :: q :: F2, ∀ i, i < 3 → i ≠ k → j ∉ F i := fun j hj i hi hik hj' => by
    simp only [List.mem_cons] at hj
    have in_ : j ∈ F k → False := fun h => M.apart k i hk hi (Ne.symm hik) j h hj'
    rcases hj with rfl | rfl | hj
    · exact in_ (by rw [e]; simp)
    · exact in_ (by rw [e]; simp)
    · rcases fr j hj with h | h
      · exact in_ (by rw [e]; simp [h])
      · have := (M.foot hi).lt j hj'
        have := o1.size
        omega
  refine ⟨fun j hj => ?_, fun i j hi hj hij u hu => ?_⟩
  · by_cases ej : j = k
    · subst ej
      rw [updN_at, updN_at]
      exact .inr ⟨p, q, F2, ha, hr, rfl, m2, M2⟩
    · rw [updN_ne _ _ ej, updN_ne _ _ ej]
      exact (M.it j hj).oth O (M.apart j k hj hk ej) hG
  · by_cases ei : i = k
    · subst ei
      rw [updN_at] at hu
      rw [updN_ne _ _ (Ne.symm hij)]
      exact key u hu j hj (Ne.symm hij)
    · rw [updN_ne _ _ ei] at hu
      by_cases ej : j = k
      · subst ej
        rw [updN_at]
        exact fun hu' => key u hu' i hi ei hu
      · rw [updN_ne _ _ ej]
        exact M.apart i j hi hj hij u hu
/-- one of them has begun -/
theorem Team.begun (M : Team w0 w pa pr F x) (hk : k < 3) {a r : Nat} (A : Blk w0 w a T c) (R : Blk w0 w r T' c') (hT : T ∉ FTs) (hT' : T' ∉ FTs) (hB : T ∉ BTs) (hB' : T' ∉ BTs) (O : Oth [a, r] w w') (hp : w.heap.size ≤ p) (hq : w.heap.size ≤ q) (hF : ∀ j ∈ F', w.heap.size ≤ j) (m : Cm w0 w' p x') (M' : RCm w0 w' q F' x') :
    Team w0 w' (updN pa k (pt p)) (updN pr k (pt q)) (updN F k (p :: q :: F')) (updN x k x') := by
  have new : ∀ j ∈ p :: q :: F', w.heap.size ≤ j := fun j hj => by
    simp only [List.mem_cons] at hj
    rcases hj with rfl | rfl | hj
    · exact hp
    · exact hq
    · exact hF j hj
  have hG : ∀ q ∈ [a, r], ∃ cs T fz, w.heap[q]? = some (.cells cs T fz) ∧ T ∉ BTs := fun j hj => by
    simp at hj
    rcases hj with rfl | rfl
    · exact ⟨_, _, _, A.at_, hB⟩
    · exact ⟨_, _, _, R.at_, hB'⟩
  refine ⟨fun j hj => ?_, fun i j hi hj hij u hu => ?_⟩
  · by_cases ej : j = k
    · subst ej
      rw [updN_at, updN_at, updN_at, updN_at]
      exact .inr ⟨p, q, F', rfl, rfl, rfl, m, M'⟩
    · rw [updN_ne _ _ ej, updN_ne _ _ ej, updN_ne _ _ ej, updN_ne _ _ ej]
      refine (M.it j hj).oth O (fun u hu => ?_) hG
      have h1 := (M.foot hj).ne A hT u hu
      have h2 := (M.foot hj).ne R hT' u hu
      simp [h1, h2]
  · by_cases ei : i = k
    · subst ei
      rw [updN_at] at hu
      rw [updN_ne _ _ (Ne.symm hij)]
      intro hu'
      have h1 := new u hu
      have h2 := (M.foot hj).lt u hu'
      omega
    · rw [updN_ne _ _ ei] at hu
      by_cases ej : j = k
      · subst ej
        rw [updN_at]
        intro hu'
        have h1 := new u hu'
        have h2 := (M.foot hi).lt u hu
        omega
      · rw [updN_ne _ _ ej]
        exact M.apart i j hi hj hij u hu
/-- one of them is done -/
theorem Team.off (M : Team w0 w pa pr F x) (hk : k < 3) {a i : Nat} {v : Value} (A : Blk w0 w a T c) (hT : T ∉ FTs) (hB : T ∉ BTs) : Team w0 (w.setCell ⟨a, i, none⟩ v) (updN pa k (.pointer none)) pr (updN F k []) x := by
  refine ⟨fun j hj => ?_, fun i j hi hj hij u hu => ?_⟩
  · by_cases ej : j = k
    · subst ej
      rw [updN_at, updN_at]
      exact .inl ⟨rfl, rfl⟩
    · rw [updN_ne _ _ ej, updN_ne _ _ ej]
      exact (M.it j hj).oth (G := [a]) (Oth.set _ _ _ _ (by simp)) (fun u hu => by simpa using (M.foot hj).ne A hT u hu) (fun u hu => by simp at hu; subst hu; exact ⟨_, _, _, A.at_, hB⟩)
  · by_cases ei : i = k
    · subst ei
      rw [updN_at] at hu
      simp at hu
    · rw [updN_ne _ _ ei] at hu
      by_cases ej : j = k
      · subst ej
        rw [updN_at]
        simp
      · rw [updN_ne _ _ ej]
        exact M.apart i j hi hj hij u hu
end
/-! ### the rows of three -/
def arr3 (f : Nat → Value) : Array Value := #[f 0, f 1, f 2]
theorem arr3_set (f : Nat → Value) {k : Nat} (h : k < 3) (v : Value) : (arr3 f).setIfInBounds k v = arr3 (updN f k v) := by
  rcases (show k = 0 ∨ k = 1 ∨ k = 2 by omega) with rfl | rfl | rfl <;> rfl
theorem arr3_get (f : Nat → Value) {k : Nat} (h : k < 3) : (arr3 f)[k]? = some (f k) := by
  rcases (show k = 0 ∨ k = 1 ∨ k = 2 by omega) with rfl | rfl | rfl <;> rfl
/-- where the law stands -/
structure Now (w wr : World) (b y ab rb N : Nat) (pa pr : Nat → Value) (F : Nat → List Nat) (x : Nat → Cw) (s : St) : Prop where
  two : Two w wr b y s s N
  len : s.ws.length = 160
  ab : Blk w wr ab 33 (arr3 pa)
  rb : Blk w wr rb 35 (arr3 pr)
  team : Team w wr pa pr F x
section
variable {w wr w' w1 w2 : World} {b y ab rb N : Nat} {pa pr : Nat → Value} {F : Nat → List Nat} {x : Nat → Cw} {s s' : St} {k p q : Nat} {F' F2 : List Nat} {x' : Cw}
theorem Now.below (h : Now w wr b y ab rb N pa pr F x s) (hb : Below wr.heap.size wr w') : Now w w' b y ab rb N pa pr F x s := ⟨h.two.below hb, h.len, h.ab.below hb, h.rb.below hb, h.team.below hb⟩
theorem Now.mono {N' : Nat} (h : Now w wr b y ab rb N pa pr F x s) (hN : N ≤ N') : Now w wr b y ab rb N' pa pr F x s := ⟨h.two.mono hN, h.len, h.ab, h.rb, h.team⟩
theorem Now.ca (h : Now w wr b y ab rb N pa pr F x s) (hk : k < 3) {v : Value} (e : pa k = v) : wr.cell? ⟨ab, k, none⟩ = some v := (h.ab.cell k).trans (by rw [arr3_get _ hk, e])
theorem Now.cr (h : Now w wr b y ab rb N pa pr F x s) (hk : k < 3) {v : Value} (e : pr k = v) : wr.cell? ⟨rb, k, none⟩ = some v := (h.rb.cell k).trans (by rw [arr3_get _ hk, e])
/-- both memories have another word -/
theorem Now.stored (h : Now w wr b y ab rb N pa pr F x s) (T2 : Two w w2 b y s' s' (N + 2)) (l : s'.ws.length = 160) (o : Oth [] wr w2) : Now w w2 b y ab rb (N + 2) pa pr F x s' := ⟨T2, l, h.ab.oth o (by simp), h.rb.oth o (by simp), h.team.oth0 o⟩
/-- the program's has stepped: the reference's is where it was -/
theorem Now.half (h : Now w wr b y ab rb N pa pr F x s) {x0 : Cw} (m : Cm w wr p x0) (M : RCm w wr q F' x0) (o1 : Oth [p] wr w1) : RCm w w1 q F' x0 ∧ Blk w w1 ab 33 (arr3 pa) ∧ Blk w w1 rb 35 (arr3 pr) := by
  obtain ⟨cs, B⟩ := m.blk
  refine ⟨M.oth o1 (by simpa using M.ne B q (by simp)) (fun k hk => by simpa using M.ne B k (by simp [hk])), h.ab.oth o1 (by simpa using h.ab.ne B (by decide)), h.rb.oth o1 (by simpa using h.rb.ne B (by decide))⟩
/-- both have stepped -/
theorem Now.whole (h : Now w wr b y ab rb N pa pr F x s) (hk : k < 3) {x0 : Cw} (ha : pa k = pt p) (hr : pr k = pt q) (e : F k = p :: q :: F') (m : Cm w wr p x0) (M : RCm w wr q F' x0) (o1 : Oth [p] wr w1) (m1 : Cm w w1 p x') (o2 : Oth (q :: F') w1 w2) (T2 : Two w w2 b y s' s' (N + 2)) (l : s'.ws.length = 160) (M2 : RCm w w2 q F2 x') (fr : ∀ j ∈ F2, j ∈ F' ∨ w1.heap.size ≤ j) :
    Now w w2 b y ab rb (N + 2) pa pr (updN F k (p :: q :: F2)) (updN x k x') s' ∧ Cm w w2 p x' := by
  obtain ⟨M1, A1, R1⟩ := h.half m M o1
  obtain ⟨cs, B⟩ := m1.blk
  have m2 := m1.oth o2 (fun hp => M1.ne B p hp rfl) M1.foot.at
  exact ⟨⟨T2, l, A1.oth o2 (fun hh => M1.foot.ne A1 (by decide) _ hh rfl), R1.oth o2 (fun hh => M1.foot.ne R1 (by decide) _ hh rfl), h.team.stepped hk ha hr e o1 o2 m2 M2 fr⟩, m2⟩
theorem Now.off (h : Now w wr b y ab rb N pa pr F x s) (hk : k < 3) : Now w (wr.setCell ⟨ab, k, none⟩ (.pointer none)) b y ab rb N (updN pa k (.pointer none)) pr (updN F k []) x s :=
  ⟨h.two.set h.ab k _, h.len, arr3_set pa hk _ ▸ h.ab.set k _, h.rb.oth (Oth.set (F := [ab]) _ _ _ _ (by simp)) (by simpa using h.rb.ne h.ab (by decide)), h.team.off hk h.ab (by decide) (by decide)⟩
end
/-- while an access is made: the law's rows, the Op's box -/
structure Mid (w wr wi : World) (b y ab rb ob N : Nat) (pa pr : Nat → Value) (s : St) (oc : Array Value) : Prop where
  oth : Oth [ab, rb] wr wi
  two : Two w wi b y s s N
  ab : Blk w wi ab 33 (arr3 pa)
  rb : Blk w wi rb 35 (arr3 pr)
  op : Blk w wi ob 42 oc
section
variable {w wr wi w' : World} {b y ab rb ob N : Nat} {pa pr : Nat → Value} {F : Nat → List Nat} {x : Nat → Cw} {s : St} {oc : Array Value} {k p q : Nat} {F' : List Nat} {x' : Cw}
theorem Mid.below (h : Mid w wr wi b y ab rb ob N pa pr s oc) (hb : Below wi.heap.size wi w') : Mid w wr w' b y ab rb ob N pa pr s oc := ⟨h.oth.trans (Oth.below hb), h.two.below hb, h.ab.below hb, h.rb.below hb, h.op.below hb⟩
theorem Mid.setA (h : Mid w wr wi b y ab rb ob N pa pr s oc) (hk : k < 3) (v : Value) : Mid w wr (wi.setCell ⟨ab, k, none⟩ v) b y ab rb ob N (updN pa k v) pr s oc :=
  ⟨h.oth.trans (Oth.set _ _ _ _ (by simp)), h.two.set h.ab k _, arr3_set pa hk v ▸ h.ab.set k _, h.rb.oth (Oth.set (F := [ab]) _ _ _ _ (by simp)) (by simpa using h.rb.ne h.ab (by decide)), h.op.oth (Oth.set (F := [ab]) _ _ _ _ (by simp)) (by simpa using h.op.ne h.ab (by decide))⟩
theorem Mid.setR (h : Mid w wr wi b y ab rb ob N pa pr s oc) (hk : k < 3) (v : Value) : Mid w wr (wi.setCell ⟨rb, k, none⟩ v) b y ab rb ob N pa (updN pr k v) s oc :=
  ⟨h.oth.trans (Oth.set _ _ _ _ (by simp)), h.two.set h.rb k _, h.ab.oth (Oth.set (F := [rb]) _ _ _ _ (by simp)) (by simpa using h.ab.ne h.rb (by decide)), arr3_set pr hk v ▸ h.rb.set k _, h.op.oth (Oth.set (F := [rb]) _ _ _ _ (by simp)) (by simpa using h.op.ne h.rb (by decide))⟩
theorem Mid.cmA (h : Mid w wr wi b y ab rb ob N pa pr s oc) (m : Cm w wi p x') (v : Value) : Cm w (wi.setCell ⟨ab, k, none⟩ v) p x' := by
  obtain ⟨cs, B⟩ := m.blk
  exact m.oth1 (Oth.set _ _ _ _ (by simp)) h.ab (by decide) (B.ne h.ab (by decide))
theorem Mid.cmR (h : Mid w wr wi b y ab rb ob N pa pr s oc) (m : Cm w wi p x') (v : Value) : Cm w (wi.setCell ⟨rb, k, none⟩ v) p x' := by
  obtain ⟨cs, B⟩ := m.blk
  exact m.oth1 (Oth.set _ _ _ _ (by simp)) h.rb (by decide) (B.ne h.rb (by decide))
theorem Mid.rcR (h : Mid w wr wi b y ab rb ob N pa pr s oc) (M : RCm w wi q F' x') (v : Value) : RCm w (wi.setCell ⟨rb, k, none⟩ v) q F' x' :=
  M.oth (G := [rb]) (Oth.set _ _ _ _ (by simp)) (by simpa using M.foot.ne h.rb (by decide) q (by simp)) (fun j hj => by simpa using M.foot.ne h.rb (by decide) j (by simp [hj]))
theorem Mid.now (h0 : Now w wr b y ab rb N pa pr F x s) (h : Mid w wr wi b y ab rb ob N (updN pa k (pt p)) (updN pr k (pt q)) s oc) (hk : k < 3) (hp : wr.heap.size ≤ p) (hq : wr.heap.size ≤ q) (hF : ∀ j ∈ F', wr.heap.size ≤ j) (m : Cm w wi p x') (M : RCm w wi q F' x') :
    Now w wi b y ab rb N (updN pa k (pt p)) (updN pr k (pt q)) (updN F k (p :: q :: F')) (updN x k x') s := ⟨h.two, h0.len, h.ab, h.rb, h0.team.begun hk h0.ab h0.rb (by decide) (by decide) (by decide) (by decide) h.oth hp hq hF m M⟩
end
end Go.Proofs.YtmlgohknbjfciaaGreatDoor
