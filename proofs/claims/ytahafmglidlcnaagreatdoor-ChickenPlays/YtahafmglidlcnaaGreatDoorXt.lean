/-
  Three accesses side by side: program's and reference's, each at the same place.
-/
import Derived.Test.YtahafmglidlcnaaGreatDoorXr
import Derived.Test.YtahafmglidlcnaaGreatDoorCa
namespace Go.Proofs.YtahafmglidlcnaaGreatDoor
set_option linter.unusedVariables false
set_option linter.unusedSimpArgs false
set_option maxRecDepth 100000
open Go.ChangeShapes Go.WideShapes Go.RowKit
open H.Plain (hw pS pC pN pM pG pT pL mv)

/-- where the reference's stands when the program's stands there -/
def SimC (w0 w : World) (d : RC) (F : List Nat) : Cw → Prop
  | .fin t o => d.pc = 0 ∧ d.sh = t ∧ d.o = o ∧ F = []
  | .hd r fx => d.pc = 1 ∧ d.sh = false ∧ d.o = Ou.zero ∧ d.r = r ∧ (d.e.md == 8) = fx ∧ F = []
  | .rd r fx => d.pc = 2 ∧ d.sh = false ∧ d.o = Ou.zero ∧ d.r = r ∧ (d.e.md == 8) = fx ∧ F = []
  | .ag r fx g => d.pc = 3 ∧ d.sh = true ∧ d.o = Ou.zero ∧ d.r = r ∧ (d.e.md == 8) = fx ∧ d.v = Vl.of g ∧ F = []
  | .tk r fx z => d.pc = 4 ∧ d.sh = false ∧ d.o = Ou.zero ∧ d.r = r ∧ (d.e.md == 8) = fx ∧ d.w = z ∧ F = []
  | .pl x => d.pc = 8 ∧ d.sh = x.hit ∧ ∃ px F', F = px :: F' ∧ d.x = pt px ∧ RPm w0 w px F' x
  | .dr x => d.pc = 9 ∧ d.sh = x.hit ∧ ∃ px F', F = px :: F' ∧ d.y = pt px ∧ RDm w0 w px F' x
structure RCm (w0 w : World) (p : Nat) (F : List Nat) (x : Cw) : Prop where
  it : ∃ d : RC, Blk w0 w p 62 d.cells ∧ SimC w0 w d F x ∧ p ∉ F
section
variable {w0 w w' : World} {b y p : Nat} {s1 s2 : St} {N : Nat} {F G : List Nat} {x : Cw}
theorem SimC.oth {d : RC} (S : SimC w0 w d F x) (o : Oth G w w') (hd : ∀ q ∈ F, q ∉ G) : SimC w0 w' d F x := by
  cases x with
  | pl x =>
    obtain ⟨h1, h2, px, F', rfl, h3, M⟩ := S
    exact ⟨h1, h2, px, F', rfl, h3, M.oth o (hd px (by simp)) (fun q hq => hd q (by simp [hq]))⟩
  | dr x =>
    obtain ⟨h1, h2, px, F', rfl, h3, M⟩ := S
    exact ⟨h1, h2, px, F', rfl, h3, M.oth o (hd px (by simp)) (fun q hq => hd q (by simp [hq]))⟩
  | _ => exact S
theorem RCm.oth (h : RCm w0 w p F x) (o : Oth G w w') (hp : p ∉ G) (hd : ∀ q ∈ F, q ∉ G) : RCm w0 w' p F x := by
  obtain ⟨d, B, S, hpF⟩ := h
  exact ⟨d, B.oth o hp, S.oth o hd, hpF⟩
theorem RCm.below (h : RCm w0 w p F x) (hb : Below w.heap.size w w') : RCm w0 w' p F x := h.oth (G := []) (Oth.below hb) (by simp) (by simp)
theorem RCm.lt (h : RCm w0 w p F x) : p < w.heap.size := by
  obtain ⟨d, B, _⟩ := h
  exact B.lt
theorem RCm.foot (h : RCm w0 w p F x) : Foot w0 w (p :: F) := by
  obtain ⟨d, B, S, hpF⟩ := h
  intro q hq
  simp only [List.mem_cons] at hq
  rcases hq with rfl | hq
  · exact ⟨_, _, by decide, B⟩
  · cases x with
    | pl x =>
      obtain ⟨h1, h2, px, F', rfl, h3, M⟩ := S
      obtain ⟨T, cs, hT, B'⟩ := M.footR q hq
      exact ⟨T, cs, (show ∀ T ∈ RTs, T ∈ FTs by decide) T hT, B'⟩
    | dr x =>
      obtain ⟨h1, h2, px, F', rfl, h3, M⟩ := S
      obtain ⟨T, cs, hT, B'⟩ := M.footR q hq
      exact ⟨T, cs, (show ∀ T ∈ RTs, T ∈ FTs by decide) T hT, B'⟩
    | fin t o => obtain ⟨_, _, _, rfl⟩ := S; simp at hq
    | hd r fx => obtain ⟨_, _, _, _, _, rfl⟩ := S; simp at hq
    | rd r fx => obtain ⟨_, _, _, _, _, rfl⟩ := S; simp at hq
    | ag r fx g => obtain ⟨_, _, _, _, _, _, rfl⟩ := S; simp at hq
    | tk r fx z => obtain ⟨_, _, _, _, _, _, rfl⟩ := S; simp at hq
theorem RCm.shown (h : RCm w0 w p F x) : w.cell? ⟨p, 16, none⟩ = some (.bool x.hit) := by
  obtain ⟨d, B, S, hpF⟩ := h
  have e : d.sh = x.hit := by
    cases x with
    | fin t o => exact S.2.1
    | _ => exact S.2.1
  rw [← e]
  exact B.cell 16
/-- the reference's access steps as the program's does -/
theorem xC (h : Two w0 w b y s1 s2 N) (M : RCm w0 w p F x) (ok : x.Ok) (hN : N + 5 < 1000000) :
    Calls Tryz.prog 15 #[pt p, pt y] w fun e w' => e = .returned (.bool (x.next s2).done) ∧ Two w0 w' b y s1 (x.mem s2) (N + 1) ∧ Oth (p :: F) w w' ∧ ∃ F', RCm w0 w' p F' (x.next s2) ∧ ∀ k ∈ F', k ∈ F ∨ w.heap.size ≤ k := by
  obtain ⟨d, B, S, hpF⟩ := M
  have hlp := B.lt
  have go_dr : ∀ {w' : World} {z : St} {d' : RC} {fx : Bool} {base : Int} {pd : Nat}, w.heap.size ≤ pd → d.r.Ok → XTo w0 w w' b y p s1 z (N + 1) d' → d'.pc = 9 → d'.sh = false → d'.y = pt pd → Blk w0 w' pd 111 (RD.new (base + 1 + d.r.fd) d.r (hwC fx)).cells → RCm w0 w' p [pd] (Cw.go d.r fx base) := by
    intro w' z d' fx base pd hpd hr t h1 h2 h3 D
    exact ⟨d', t.blk, ⟨h1, by rw [h2]; rfl, pd, [], rfl, h3, rdm_new D hr.1⟩, by simp only [List.mem_singleton]; omega⟩
  have one : ∀ {pd : Nat}, w.heap.size ≤ pd → ∀ k ∈ [pd], k ∈ F ∨ w.heap.size ≤ k := fun h k hk => by simp at hk; subst hk; exact .inr h
  cases x with
  | fin t o =>
    obtain ⟨h1, h2, h3, rfl⟩ := S
    refine (xs0 h B hN h1).mono ?_
    rintro e w' ⟨rfl, rfl⟩
    exact ⟨rfl, h.mono (by omega), Oth.refl _ _, [], ⟨d, B, ⟨h1, h2, h3, rfl⟩, by simp⟩, by simp⟩
  | hd r fx =>
    obtain ⟨h1, h2, h3, rfl, h4, rfl⟩ := S
    by_cases q1 : pN (s2.got d.r.at_) ≤ d.r.fd
    · have en : (Cw.hd d.r fx).next s2 = .fin false ⟨15, Vl.zero, false⟩ := by simp only [Cw.next]; rw [if_pos (.inr q1)]
      rw [en]
      refine (xs1e h B hN h1 ok q1).mono ?_
      rintro e w' ⟨rfl, t⟩
      exact ⟨rfl, t.two, t.oth, [], ⟨_, t.blk, ⟨rfl, rfl, by simp only [h3]; rfl, rfl⟩, by simp⟩, by simp⟩
    · have q0 : ¬ (d.r.fd < 0 ∨ pN (s2.got d.r.at_) ≤ d.r.fd) := by have := ok.2.2.2.1; omega
      by_cases q2 : pT (s2.got d.r.at_) = 2
      · have en : (Cw.hd d.r fx).next s2 = Cw.go d.r fx (pL (s2.got d.r.at_)) := by simp only [Cw.next]; rw [if_neg q0, if_pos q2]
        rw [en]
        refine (xs1m h B hN h1 ok h4 (by omega) q2).mono ?_
        rintro e w' ⟨rfl, pd, np, t, D⟩
        exact ⟨rfl, t.two, t.oth, [pd], go_dr np ok t rfl rfl rfl D, one np⟩
      · by_cases q3 : pT (s2.got d.r.at_) = 1
        · by_cases q4 : d.r.op = 1
          · have en : (Cw.hd d.r fx).next s2 = .rd d.r fx := by simp only [Cw.next]; rw [if_neg q0, if_neg q2, if_pos q3, if_pos q4]
            rw [en]
            refine (xs1r h B hN h1 ok (by omega) q3 q4).mono ?_
            rintro e w' ⟨rfl, t⟩
            exact ⟨rfl, t.two, t.oth, [], ⟨_, t.blk, ⟨rfl, rfl, h3, rfl, h4, rfl⟩, by simp⟩, by simp⟩
          · have en : (Cw.hd d.r fx).next s2 = .tk d.r fx (s2.got d.r.at_) := by simp only [Cw.next]; rw [if_neg q0, if_neg q2, if_pos q3, if_neg q4]
            rw [en]
            refine (xs1t h B hN h1 ok (by omega) q3 q4).mono ?_
            rintro e w' ⟨rfl, t⟩
            exact ⟨rfl, t.two, t.oth, [], ⟨_, t.blk, ⟨rfl, rfl, h3, rfl, h4, rfl, rfl⟩, by simp⟩, by simp⟩
        · have en : (Cw.hd d.r fx).next s2 = Cw.go d.r fx d.r.at_ := by simp only [Cw.next]; rw [if_neg q0, if_neg q2, if_neg q3]
          rw [en]
          refine (xs1s h B hN h1 ok h4 (by omega) q2 q3).mono ?_
          rintro e w' ⟨rfl, pd, np, t, D⟩
          exact ⟨rfl, t.two, t.oth, [pd], go_dr np ok t rfl rfl rfl D, one np⟩
  | rd r fx =>
    obtain ⟨h1, h2, h3, rfl, h4, rfl⟩ := S
    refine (xs2 h B hN h1 ok).mono ?_
    rintro e w' ⟨rfl, t⟩
    exact ⟨rfl, t.two, t.oth, [], ⟨_, t.blk, ⟨rfl, rfl, h3, rfl, h4, rfl, rfl⟩, by simp⟩, by simp⟩
  | ag r fx g =>
    obtain ⟨h1, h2, h3, rfl, h4, h5, rfl⟩ := S
    by_cases q2 : pT (s2.got d.r.at_) = 2
    · have en : (Cw.ag d.r fx g).next s2 = Cw.go d.r fx (pL (s2.got d.r.at_)) := by simp only [Cw.next]; rw [if_pos q2]
      rw [en]
      refine (xs3m h B hN h1 ok.1 h4 q2).mono ?_
      rintro e w' ⟨rfl, pd, np, t, D⟩
      exact ⟨rfl, t.two, t.oth, [pd], go_dr np ok.1 t rfl rfl rfl D, one np⟩
    · have en : (Cw.ag d.r fx g).next s2 = .fin false ⟨0, Vl.of g, false⟩ := by simp only [Cw.next]; rw [if_neg q2]
      rw [en]
      refine (xs3e h B hN h1 ok.1 q2).mono ?_
      rintro e w' ⟨rfl, t⟩
      exact ⟨rfl, t.two, t.oth, [], ⟨_, t.blk, ⟨rfl, rfl, by simp only [h3, h5]; rfl, rfl⟩, by simp⟩, by simp⟩
  | tk r fx z =>
    obtain ⟨h1, h2, h3, rfl, h4, rfl, rfl⟩ := S
    rcases q2 : s2.ok1 d.r.at_ d.w with _ | _
    · have en : (Cw.tk d.r fx d.w).next s2 = .hd d.r fx := by simp only [Cw.next, q2]; rfl
      rw [en]
      refine (xs4n h B hN h1 ok.1 ok.2 q2).mono ?_
      rintro e w' ⟨rfl, t⟩
      exact ⟨rfl, t.two, t.oth, [], ⟨_, t.blk, ⟨rfl, rfl, h3, rfl, h4, rfl⟩, by simp⟩, by simp⟩
    · have en : (Cw.tk d.r fx d.w).next s2 = Cw.go d.r fx d.r.at_ := by simp only [Cw.next, q2]; rfl
      rw [en]
      refine (xs4y h B hN h1 ok.1 ok.2 h4 q2).mono ?_
      rintro e w' ⟨rfl, pd, np, t, D⟩
      exact ⟨rfl, t.two, t.oth, [pd], go_dr np ok.1 t rfl rfl rfl D, one np⟩
  | pl x =>
    obtain ⟨h1, h2, px, F', rfl, h3, M⟩ := S
    have hn : ∀ q ∈ px :: F', q ≠ p := fun q hq e => hpF (e ▸ hq)
    rcases hd : (x.next s2).done with _ | _
    · have en : (Cw.pl x).next s2 = .pl (x.next s2) := by simp only [Cw.next, Cw.onP, hd]; rfl
      rw [en]
      refine (xs8n h B hN h1 h3 M hpF hn hd).mono ?_
      rintro e w' ⟨rfl, t, bl, ot, F2, M2, fr⟩
      refine ⟨rfl, t, ot, px :: F2, ⟨_, bl, ⟨h1, rfl, px, F2, rfl, h3, M2⟩, ?_⟩, fun k hk => ?_⟩
      · simp only [List.mem_cons, not_or]
        refine ⟨fun e => hpF (by simp [e]), fun h => ?_⟩
        rcases fr p h with h | h
        · exact hpF (by simp [h])
        · omega
      · simp only [List.mem_cons] at hk ⊢
        rcases hk with rfl | hk
        · exact .inl (.inl rfl)
        · exact (fr k hk).imp .inr id
    · have en : (Cw.pl x).next s2 = .fin (x.next s2).hit (x.next s2).o := by simp only [Cw.next, Cw.onP, hd]; rfl
      rw [en]
      refine (xs8d h B hN h1 h3 M hpF hn hd).mono ?_
      rintro e w' ⟨rfl, t, bl, ot⟩
      exact ⟨rfl, t, ot, [], ⟨_, bl, ⟨rfl, rfl, rfl, rfl⟩, by simp⟩, by simp⟩
  | dr x =>
    obtain ⟨h1, h2, px, F', rfl, h3, M⟩ := S
    have hn : ∀ q ∈ px :: F', q ≠ p := fun q hq e => hpF (e ▸ hq)
    rcases hd : (x.next s2).done with _ | _
    · have en : (Cw.dr x).next s2 = .dr (x.next s2) := by simp only [Cw.next, Cw.onD, hd]; rfl
      rw [en]
      refine (xs9n h B hN h1 h3 M hpF hn hd).mono ?_
      rintro e w' ⟨rfl, t, bl, ot, F2, M2, fr⟩
      refine ⟨rfl, t, ot, px :: F2, ⟨_, bl, ⟨h1, rfl, px, F2, rfl, h3, M2⟩, ?_⟩, fun k hk => ?_⟩
      · simp only [List.mem_cons, not_or]
        refine ⟨fun e => hpF (by simp [e]), fun h => ?_⟩
        rcases fr p h with h | h
        · exact hpF (by simp [h])
        · omega
      · simp only [List.mem_cons] at hk ⊢
        rcases hk with rfl | hk
        · exact .inl (.inl rfl)
        · exact (fr k hk).imp .inr id
    · have en : (Cw.dr x).next s2 = .fin (x.next s2).hit (x.next s2).o := by simp only [Cw.next, Cw.onD, hd]; rfl
      rw [en]
      refine (xs9d h B hN h1 h3 M hpF hn hd).mono ?_
      rintro e w' ⟨rfl, t, bl, ot⟩
      exact ⟨rfl, t, ot, [], ⟨_, bl, ⟨rfl, rfl, rfl, rfl⟩, by simp⟩, by simp⟩
end
end Go.Proofs.YtahafmglidlcnaaGreatDoor

namespace Go.Proofs.YtahafmglidlcnaaGreatDoor
set_option linter.unusedVariables false
set_option linter.unusedSimpArgs false
set_option maxRecDepth 100000
open Go.ChangeShapes Go.WideShapes Go.RowKit

section
variable {w0 w w' : World} {p : Nat} {F : List Nat} {x : Cw}
theorem rc_res0 {d : RC} (B : Blk w0 w p 62 d.cells) (h : d.pc = 0) : Calls Tryz.prog 18 #[pt p] w fun e w' => e = .returned d.o.val ∧ Below w.heap.size w w' := by
  have c10 : w.cell? ⟨p, 10, none⟩ = some (.int .i64 0) := h ▸ B.cell 10
  have c2 : w.cell? ⟨p, 17, none⟩ = some (.int .i64 d.o.c) := B.cell 17
  have c3 : w.cell? ⟨p, 18, none⟩ = some (.int .i64 d.o.v.k) := B.cell 18
  have c4 : w.cell? ⟨p, 19, none⟩ = some (.int .i64 d.o.v.n) := B.cell 19
  have c5 : w.cell? ⟨p, 20, none⟩ = some (.bool d.o.y) := B.cell 20
  have l := B.lt
  go_enter Tryz.func18, Tryz.ntmps18
  go_wp2
  exact bodyPost_ret (v := d.o.val) (by simp [results, Tryz.results18, go_sem, Ou.val]) rfl ⟨rfl, by go_grown⟩
theorem rc_res1 {d : RC} (B : Blk w0 w p 62 d.cells) (h : d.pc ≠ 0) : Calls Tryz.prog 18 #[pt p] w fun e w' => e = .returned Ou.zero.val ∧ Below w.heap.size w w' := by
  obtain ⟨pc, hpc⟩ : ∃ q, d.pc = q := ⟨_, rfl⟩
  have c10 : w.cell? ⟨p, 10, none⟩ = some (.int .i64 pc) := hpc ▸ B.cell 10
  have q : (pc != 0) = true := by rw [← hpc]; simpa using h
  have l := B.lt
  clear h hpc B
  go_enter Tryz.func18, Tryz.ntmps18
  go_wp2
  exact bodyPost_ret (v := Ou.zero.val) (by simp [results, Tryz.results18, go_sem, Ou.val, Ou.zero, Vl.zero]) rfl ⟨rfl, by go_grown⟩
/-- its answer is the program's -/
theorem rCResult (M : RCm w0 w p F x) (ok : x.Ok) : Calls Tryz.prog 18 #[pt p] w fun e w' => e = .returned x.o.val ∧ Below w.heap.size w w' := by
  obtain ⟨d, B, S, hpF⟩ := M
  cases x with
  | fin t o => obtain ⟨h1, h2, rfl, h4⟩ := S; exact rc_res0 B h1
  | hd r fx => exact rc_res1 B (by rw [S.1]; decide)
  | rd r fx => exact rc_res1 B (by rw [S.1]; decide)
  | ag r fx g => exact rc_res1 B (by rw [S.1]; decide)
  | tk r fx z => exact rc_res1 B (by rw [S.1]; decide)
  | pl x =>
    obtain ⟨h1, h2, px, F', rfl, h3, M⟩ := S
    obtain ⟨_, _, _, _, _, _, _, _, _, _, _, _, q3⟩ := M.told
    have e : (Cw.pl x).o = Ou.zero := q3 ok.2
    rw [e]
    exact rc_res1 B (by rw [h1]; decide)
  | dr x =>
    obtain ⟨h1, h2, px, F', rfl, h3, M⟩ := S
    obtain ⟨_, _, _, _, _, _, _, _, _, _, _, _, q3⟩ := M.told
    have e : (Cw.dr x).o = Ou.zero := q3 ok.2
    rw [e]
    exact rc_res1 B (by rw [h1]; decide)
end
section
set_option maxHeartbeats 3000000
/-- it is made -/
theorem rNewC {w0 : World} (r : Rq) (e : En) (w : World) (hs : w0.heap.size ≤ w.heap.size) (hr : r.Ok) :
    Calls Tryz.prog 13 #[.agg #[.int .i64 r.op, .int .i64 r.at_, .int .i64 r.fd, .int .i64 r.x.k, .int .i64 r.x.n, .int .i64 r.y.k, .int .i64 r.y.n], .agg #[.int .i64 e.md, .int .i64 e.mr, .int .i64 e.al]] w fun e' w' => ∃ p F, e' = .returned (pt p) ∧ Below w.heap.size w w' ∧ w.heap.size ≤ p ∧ (∀ k ∈ F, w.heap.size ≤ k) ∧ RCm w0 w' p F (Cw.new r e) := by
  unfold Cw.new
  by_cases h5 : e.md < 5
  · have q2 : decide (e.md < 5) = true := by simpa using h5
    have hop := hr.1
    rw [if_pos h5]
    clear h5
    obtain ⟨X, hX⟩ : ∃ X : Cw, (if r.at_ = 0 then Cw.fin false ⟨14, Vl.zero, false⟩ else Cw.pl (Sx.plain r e)) = X := ⟨_, rfl⟩
    rw [hX]
    have B0' : Blk w0 (((w.alloc (.cells #[.int .i64 r.op, .int .i64 r.at_, .int .i64 r.fd, .int .i64 r.x.k, .int .i64 r.x.n, .int .i64 r.y.k, .int .i64 r.y.n] 48)).alloc (.cells #[.int .i64 e.md, .int .i64 e.mr, .int .i64 e.al] 51)).alloc (.cells (RC.mk r e 1 0 Vl.zero (.pointer none) (.pointer none) false Ou.zero).cells 62)) (w.heap.size + 1 + 1) 62 (RC.mk r e 1 0 Vl.zero (.pointer none) (.pointer none) false Ou.zero).cells := ⟨newAt (by simp), by omega, by decide⟩
    have H0' : Below w.heap.size w (((w.alloc (.cells #[.int .i64 r.op, .int .i64 r.at_, .int .i64 r.fd, .int .i64 r.x.k, .int .i64 r.x.n, .int .i64 r.y.k, .int .i64 r.y.n] 48)).alloc (.cells #[.int .i64 e.md, .int .i64 e.mr, .int .i64 e.al] 51)).alloc (.cells (RC.mk r e 1 0 Vl.zero (.pointer none) (.pointer none) false Ou.zero).cells 62)) := by go_grown
    go_enter Tryz.func13, Tryz.ntmps13
    go_upto_region 3 with (fail)
    have R1 : Blk w0 (((w.alloc (.cells #[.int .i64 r.op, .int .i64 r.at_, .int .i64 r.fd, .int .i64 r.x.k, .int .i64 r.x.n, .int .i64 r.y.k, .int .i64 r.y.n] 48)).alloc (.cells #[.int .i64 e.md, .int .i64 e.mr, .int .i64 e.al] 51)).alloc (.cells (RC.mk r e 1 0 Vl.zero (.pointer none) (.pointer none) false Ou.zero).cells 62)) w.heap.size 48 #[.int .i64 r.op, .int .i64 r.at_, .int .i64 r.fd, .int .i64 r.x.k, .int .i64 r.x.n, .int .i64 r.y.k, .int .i64 r.y.n] := ⟨oldAt (oldAt (newAt rfl)), hs, by decide⟩
    have E1 : Blk w0 (((w.alloc (.cells #[.int .i64 r.op, .int .i64 r.at_, .int .i64 r.fd, .int .i64 r.x.k, .int .i64 r.x.n, .int .i64 r.y.k, .int .i64 r.y.n] 48)).alloc (.cells #[.int .i64 e.md, .int .i64 e.mr, .int .i64 e.al] 51)).alloc (.cells (RC.mk r e 1 0 Vl.zero (.pointer none) (.pointer none) false Ou.zero).cells 62)) (w.heap.size + 1) 51 #[.int .i64 e.md, .int .i64 e.mr, .int .i64 e.al] := ⟨oldAt (newAt (by simp)), by omega, by decide⟩
    unfold RC.cells at B0' H0' R1 E1
    simp only [Vl.zero, Ou.zero] at B0' H0' R1 E1
    generalize ((w.alloc _).alloc _).alloc _ = w1 at B0' H0' R1 E1 ⊢
    have hp1 : w.heap.size ≤ w.heap.size + 1 + 1 := by omega
    generalize w.heap.size + 1 + 1 = p at B0' hp1 ⊢
    generalize w.heap.size + 1 = eb at E1 ⊢
    generalize w.heap.size = rb at R1 ⊢
    have B1 : Blk w0 w1 p 62 (RC.mk r e 1 0 Vl.zero (.pointer none) (.pointer none) false Ou.zero).cells := B0'
    clear B0'
    have r0 : w1.cell? ⟨rb, 0, none⟩ = some (.int .i64 r.op) := R1.cell 0
    have r1 : w1.cell? ⟨rb, 1, none⟩ = some (.int .i64 r.at_) := R1.cell 1
    have r2 : w1.cell? ⟨rb, 2, none⟩ = some (.int .i64 r.fd) := R1.cell 2
    have r3 : w1.cell? ⟨rb, 3, none⟩ = some (.int .i64 r.x.k) := R1.cell 3
    have r4 : w1.cell? ⟨rb, 4, none⟩ = some (.int .i64 r.x.n) := R1.cell 4
    have r5 : w1.cell? ⟨rb, 5, none⟩ = some (.int .i64 r.y.k) := R1.cell 5
    have r6 : w1.cell? ⟨rb, 6, none⟩ = some (.int .i64 r.y.n) := R1.cell 6
    have v0 : w1.cell? ⟨eb, 0, none⟩ = some (.int .i64 e.md) := E1.cell 0
    have v1 : w1.cell? ⟨eb, 1, none⟩ = some (.int .i64 e.mr) := E1.cell 1
    have v2 : w1.cell? ⟨eb, 2, none⟩ = some (.int .i64 e.al) := E1.cell 2
    have l1 := R1.lt
    have l2 := E1.lt
    go_upto_region 4 with (go_at_call 32; refine (rNewPlain r e _).mono ?_; rintro e' w2 ⟨px, rfl, M⟩; have P2 := M.blk' (w0 := w0) (Nat.le_trans hs H0'.size) (by decide); have B2 := B1.below M.bel; have H2 := bel_trans H0' M.bel; have npx : px ≠ p := (by have := M.new; have := B1.lt; omega); have hpx : w.heap.size ≤ px := (by have := M.new; have := H0'.size; omega); have c14 : w2.cell? ⟨p, 14, none⟩ = some (.pointer none) := B2.cell 14; have f14 := B2.free 14; clear M)
    have K3 : Kept [p] w2 (w2.setCell ⟨p, 14, none⟩ (pt px)) := Kept.setCell [p] _ _ _ (by simp)
    have B3 := B2.r_x (pt px)
    have P3 := P2.oth (Oth.kept K3) (by simpa using npx)
    have H3 := H2.trans (K3.below (fun j hj => by simp at hj; subst hj; exact hp1) H2.size)
    clear c14 f14 r0 r1 r2 r3 r4 r5 r6 v0 v1 v2 l1 l2 K3
    generalize w2.setCell ⟨p, 14, none⟩ (pt px) = w3 at B3 P3 H3 ⊢
    have c10 : w3.cell? ⟨p, 10, none⟩ = some (.int .i64 1) := B3.cell 10
    have f10 := B3.free 10
    go_upto_region 5 with (fail)
    have K4 : Kept [p] w3 (w3.setCell ⟨p, 10, none⟩ (.int .i64 8)) := Kept.setCell [p] _ _ _ (by simp)
    have B4 := B3.r_pc 8
    have P4 := P3.oth (Oth.kept K4) (by simpa using npx)
    have H4 := H3.trans (K4.below (fun j hj => by simp at hj; subst hj; exact hp1) H3.size)
    clear c10 f10 K4
    generalize w3.setCell ⟨p, 10, none⟩ (.int .i64 8) = w4 at B4 P4 H4 ⊢
    have M4 : RPm w0 w4 px [] (Sx.plain r e) := rpm_new P4 hop hr.2.1 hr.2.2.1
    have c14 : w4.cell? ⟨p, 14, none⟩ = some (pt px) := B4.cell 14
    obtain ⟨oo, hoo⟩ : ∃ o, (Sx.plain r e).o = o := ⟨_, rfl⟩
    go_upto_region 6 with (go_at_call 33; refine (rPResult M4).mono ?_; rintro e' w5 ⟨rfl, hb5⟩; rw [hoo]; unfold Ou.val; have B5 := B4.below hb5; have P5 := P4.below hb5; have H5 := bel_trans H4 hb5; have z17 : w5.cell? ⟨p, 17, none⟩ = some (.int .i64 0) := B5.cell 17; have z18 : w5.cell? ⟨p, 18, none⟩ = some (.int .i64 0) := B5.cell 18; have z19 : w5.cell? ⟨p, 19, none⟩ = some (.int .i64 0) := B5.cell 19; have z20 : w5.cell? ⟨p, 20, none⟩ = some (.bool false) := B5.cell 20; have f17 := B5.free 17; have f18 := B5.free 18; have f19 := B5.free 19; have f20 := B5.free 20)
    have K6 := kept4 w5 p 17 18 19 20 (.int .i64 oo.c) (.int .i64 oo.v.k) (.int .i64 oo.v.n) (.bool oo.y)
    have B6 := B5.r_o oo
    have P6 := P5.oth (Oth.kept K6) (by simpa using npx)
    have H6 := H5.trans (K6.below (fun j hj => by simp at hj; subst hj; exact hp1) H5.size)
    clear c14 z17 z18 z19 z20 f17 f18 f19 f20 K6
    generalize (((w5.setCell ⟨p, 17, none⟩ (.int .i64 oo.c)).setCell ⟨p, 18, none⟩ (.int .i64 oo.v.k)).setCell ⟨p, 19, none⟩ (.int .i64 oo.v.n)).setCell ⟨p, 20, none⟩ (.bool oo.y) = w6 at B6 P6 H6 ⊢
    have c14 : w6.cell? ⟨p, 14, none⟩ = some (pt px) := B6.cell 14
    have c10 : w6.cell? ⟨p, 10, none⟩ = some (.int .i64 8) := B6.cell 10
    have f10 := B6.free 10
    have M6' : RPm w0 w6 px [] (Sx.plain r e) := rpm_new P6 hop hr.2.1 hr.2.2.1
    by_cases h : r.at_ = 0
    · have hd : (RP.new r e).pc = 0 := by unfold RP.new; rw [if_pos h]
      have x10 : w6.cell? ⟨px, 10, none⟩ = some (.int .i64 0) := hd ▸ P6.cell 10
      rw [if_pos h] at hX
      subst hX
      have hpl : Hid (oo = (⟨14, Vl.zero, false⟩ : Ou)) := show oo = _ by rw [← hoo]; unfold Sx.plain; rw [if_pos h]
      clear h hd hoo
      go_wp2
      go_ret
      have K7 : Kept [p] w6 (w6.setCell ⟨p, 10, none⟩ (.int .i64 0)) := Kept.setCell [p] _ _ _ (by simp)
      have fin : RCm w0 (w6.setCell ⟨p, 10, none⟩ (.int .i64 0)) p [] (.fin false ⟨14, Vl.zero, false⟩) := ⟨_, B6.r_pc 0, ⟨rfl, rfl, hpl, rfl⟩, by simp⟩
      have bel := H6.trans (K7.below (fun j hj => by simp at hj; subst hj; exact hp1) H6.size)
      first
        | exact ⟨p, [], rfl, bel, hp1, by simp, fin⟩
        | exact ⟨p, rfl, bel, hp1, [], by simp, fin⟩
    · have hd : (RP.new r e).pc = 1 := by unfold RP.new; rw [if_neg h]
      have x10 : w6.cell? ⟨px, 10, none⟩ = some (.int .i64 1) := hd ▸ P6.cell 10
      have hh : (Sx.plain r e).hit = false := by unfold Sx.plain; rw [if_neg h]
      rw [if_neg h] at hX
      subst hX
      clear h hd
      go_wp2
      go_ret
      have fin : RCm w0 w6 p [px] (.pl (Sx.plain r e)) := ⟨_, B6, ⟨rfl, hh.symm, px, [], rfl, rfl, M6'⟩, by simpa using Ne.symm npx⟩
      first
        | exact ⟨p, [px], rfl, H6, hp1, by simpa using hpx, fin⟩
        | exact ⟨p, rfl, H6, hp1, [px], by simpa using hpx, fin⟩
  · have q2 : decide (e.md < 5) = false := by simpa using h5
    by_cases h : r.at_ = 0
    · rw [if_pos h]
      have q : (r.at_ == 0) = true := by simp [h]
      clear h h5
      go_enter Tryz.func13, Tryz.ntmps13
      go_wp2
      go_ret
      refine ⟨_, [], rfl, by go_grown, by first | omega | (simp; omega) | simp, by simp, ⟨RC.mk r e 0 0 Vl.zero (.pointer none) (.pointer none) false ⟨14, Vl.zero, false⟩, ⟨by first | exact newAt (by simp) | exact newAt rfl, by first | omega | (simp; omega), by decide⟩, ⟨rfl, rfl, rfl, rfl⟩, by simp⟩⟩
    · rw [if_neg h, if_neg h5]
      have q : (r.at_ == 0) = false := by simpa using h
      clear h h5
      obtain ⟨fx, hfx⟩ : ∃ fx, (e.md == 8) = fx := ⟨_, rfl⟩
      rw [hfx]
      go_enter Tryz.func13, Tryz.ntmps13
      go_wp2
      go_ret
      exact ⟨_, [], rfl, by go_grown, by first | omega | (simp; omega) | simp, by simp, ⟨RC.mk r e 1 0 Vl.zero (.pointer none) (.pointer none) false Ou.zero, ⟨by first | exact newAt (by simp) | exact newAt rfl, by first | omega | (simp; omega), by decide⟩, ⟨rfl, rfl, rfl, rfl, hfx, rfl⟩, by simp⟩⟩
end
end Go.Proofs.YtahafmglidlcnaaGreatDoor

namespace Go.Proofs.YtahafmglidlcnaaGreatDoor
set_option linter.unusedVariables false
set_option linter.unusedSimpArgs false
set_option maxRecDepth 100000
open Go.ChangeShapes Go.WideShapes Go.RowKit

theorem fts_bts : ∀ T ∈ FTs, T ∉ BTs := by decide
section
variable {w0 w w' w1 w2 : World} {F G F' F2 : List Nat} {p q k : Nat} {T : TypeId} {c : Array Value} {va vr : Value} {x x' : Cw}
theorem Foot.lt (f : Foot w0 w F) : ∀ q ∈ F, q < w.heap.size := fun q hq => by
  obtain ⟨T, cs, _, B⟩ := f q hq
  exact B.lt
theorem Foot.ne (f : Foot w0 w F) (B : Blk w0 w p T c) (hT : T ∉ FTs) : ∀ q ∈ F, q ≠ p := fun q hq e => by
  obtain ⟨T', cs', h1, h2⟩ := f q hq
  exact (B.ne (e ▸ h2) (fun e' => hT (e' ▸ h1))) rfl
theorem Foot.at (f : Foot w0 w F) : ∀ q ∈ F, ∃ cs T fz, w.heap[q]? = some (.cells cs T fz) ∧ T ∉ BTs := fun q hq => by
  obtain ⟨T', cs', h1, h2⟩ := f q hq
  exact ⟨_, _, _, h2.at_, fts_bts _ h1⟩
/-- the reference's blocks are none of the program's machines -/
theorem RCm.ne (h : RCm w0 w q F x) (B : Blk w0 w p 95 c) : ∀ k ∈ q :: F, k ≠ p := by
  obtain ⟨d, Bq, S, hpF⟩ := h
  intro k hk e
  subst e
  simp only [List.mem_cons] at hk
  rcases hk with rfl | hk
  · exact (B.ne Bq (by decide)) rfl
  · cases x with
    | pl x =>
      obtain ⟨h1, h2, px, F', rfl, h3, M⟩ := S
      obtain ⟨T, cs, hT, B'⟩ := M.footR k hk
      exact (B.ne B' (fun e => (show 95 ∉ RTs by decide) (e ▸ hT))) rfl
    | dr x =>
      obtain ⟨h1, h2, px, F', rfl, h3, M⟩ := S
      obtain ⟨T, cs, hT, B'⟩ := M.footR k hk
      exact (B.ne B' (fun e => (show 95 ∉ RTs by decide) (e ▸ hT))) rfl
    | fin t o => obtain ⟨_, _, _, rfl⟩ := S; simp at hk
    | hd r fx => obtain ⟨_, _, _, _, _, rfl⟩ := S; simp at hk
    | rd r fx => obtain ⟨_, _, _, _, _, rfl⟩ := S; simp at hk
    | ag r fx g => obtain ⟨_, _, _, _, _, _, rfl⟩ := S; simp at hk
    | tk r fx z => obtain ⟨_, _, _, _, _, _, rfl⟩ := S; simp at hk
/-- one of the three -/
def Wrk (w0 w : World) (va vr : Value) (F : List Nat) (x : Cw) : Prop :=
  (va = .pointer none ∧ F = []) ∨ ∃ p q F', va = pt p ∧ vr = pt q ∧ F = p :: q :: F' ∧ Cm w0 w p x ∧ RCm w0 w q F' x
theorem Wrk.foot (h : Wrk w0 w va vr F x) : Foot w0 w F := by
  rcases h with ⟨_, rfl⟩ | ⟨p, q, F', _, _, rfl, m, M⟩
  · intro k hk
    simp at hk
  · intro k hk
    rw [List.mem_cons] at hk
    rcases hk with rfl | hk
    · obtain ⟨cs, B⟩ := m.blk
      exact ⟨_, _, by decide, B⟩
    · exact M.foot k hk
theorem Wrk.oth (h : Wrk w0 w va vr F x) (ot : Oth G w w') (hd : ∀ q ∈ F, q ∉ G) (hG : ∀ q ∈ G, ∃ cs T fz, w.heap[q]? = some (.cells cs T fz) ∧ T ∉ BTs) : Wrk w0 w' va vr F x := by
  rcases h with ⟨h1, h2⟩ | ⟨p, q, F', h1, h2, rfl, m, M⟩
  · exact .inl ⟨h1, h2⟩
  · exact .inr ⟨p, q, F', h1, h2, rfl, m.oth ot (hd p (by simp)) hG, M.oth ot (hd q (by simp)) (fun k hk => hd k (by simp [hk]))⟩
end
theorem updN_at {α : Type} (f : Nat → α) (k : Nat) (v : α) : updN f k v k = v := if_pos rfl
theorem updN_ne {α : Type} (f : Nat → α) {k j : Nat} (v : α) (h : j ≠ k) : updN f k v j = f j := if_neg h
/-- the three -/
structure Team (w0 w : World) (pa pr : Nat → Value) (F : Nat → List Nat) (x : Nat → Cw) : Prop where
  it : ∀ k, k < 3 → Wrk w0 w (pa k) (pr k) (F k) (x k)
  apart : ∀ j k, j < 3 → k < 3 → j ≠ k → ∀ q ∈ F j, q ∉ F k
section
variable {w0 w w' w1 w2 : World} {pa pr : Nat → Value} {F : Nat → List Nat} {x : Nat → Cw} {G F' F2 : List Nat} {k p q : Nat} {x' : Cw} {T T' : TypeId} {c c' : Array Value}
theorem Team.foot (h : Team w0 w pa pr F x) (hk : k < 3) : Foot w0 w (F k) := (h.it k hk).foot
theorem Team.oth (h : Team w0 w pa pr F x) (ot : Oth G w w') (hd : ∀ k, k < 3 → ∀ q ∈ F k, q ∉ G) (hG : ∀ q ∈ G, ∃ cs T fz, w.heap[q]? = some (.cells cs T fz) ∧ T ∉ BTs) : Team w0 w' pa pr F x :=
  ⟨fun k hk => (h.it k hk).oth ot (hd k hk) hG, h.apart⟩
theorem Team.below (h : Team w0 w pa pr F x) (hb : Below w.heap.size w w') : Team w0 w' pa pr F x := h.oth (G := []) (Oth.below hb) (by simp) (by simp)
theorem Team.oth0 (h : Team w0 w pa pr F x) (ot : Oth [] w w') : Team w0 w' pa pr F x := h.oth ot (by simp) (by simp)
theorem team_none {w0 w : World} : Team w0 w (fun _ => .pointer none) (fun _ => .pointer none) (fun _ => []) (fun _ => .fin false Ou.zero) := ⟨fun k hk => .inl ⟨rfl, rfl⟩, fun _ _ _ _ _ q hq => by simp at hq⟩
theorem Team.either (M : Team w0 w pa pr F x) (hk : k < 3) : pa k = .pointer none ∨ ∃ p, pa k = pt p := by
  rcases M.it k hk with ⟨h, _⟩ | ⟨p, _, _, h, _⟩
  · exact .inl h
  · exact .inr ⟨p, h⟩
theorem Team.busy (M : Team w0 w pa pr F x) (hk : k < 3) (h : pa k = pt p) : ∃ q F', pr k = pt q ∧ F k = p :: q :: F' ∧ Cm w0 w p (x k) ∧ RCm w0 w q F' (x k) := by
  rcases M.it k hk with ⟨e, _⟩ | ⟨p', q, F', e, e2, e3, m, M⟩
  · rw [h] at e
    simp at e
  · rw [h] at e
    simp at e
    subst e
    exact ⟨q, F', e2, e3, m, M⟩
/-- one of them has stepped -/
theorem Team.stepped (M : Team w0 w pa pr F x) (hk : k < 3) (ha : pa k = pt p) (hr : pr k = pt q) (e : F k = p :: q :: F') (o1 : Oth [p] w w1) (o2 : Oth (q :: F') w1 w2) (m2 : Cm w0 w2 p x') (M2 : RCm w0 w2 q F2 x') (fr : ∀ j ∈ F2, j ∈ F' ∨ w1.heap.size ≤ j) :
    Team w0 w2 pa pr (updN F k (p :: q :: F2)) (updN x k x') := by
  have O : Oth (F k) w w2 := by
    rw [e]
    exact (o1.mono (by simp)).trans (o2.mono (by simp +contextual))
  have hG := (M.foot hk).at
  have key : ∀ j ∈ p :: q :: F2, ∀ i, i < 3 → i ≠ k → j ∉ F i := fun j hj i hi hik hj' => by
    simp only [List.mem_cons] at hj
    have in_ : j ∈ F k → False := fun h => M.apart k i hk hi (Ne.symm hik) j h hj'
    rcases hj with rfl | rfl | hj
    · exact in_ (by rw [e]; simp)
    · exact in_ (by rw [e]; simp)
    · rcases fr j hj with h | h
      · exact in_ (by rw [e]; simp [h])
      · have := (M.foot hi).lt j hj'
        have := o1.size
        omega
  refine ⟨fun j hj => ?_, fun i j hi hj hij u hu => ?_⟩
  · by_cases ej : j = k
    · subst ej
      rw [updN_at, updN_at]
      exact .inr ⟨p, q, F2, ha, hr, rfl, m2, M2⟩
    · rw [updN_ne _ _ ej, updN_ne _ _ ej]
      exact (M.it j hj).oth O (M.apart j k hj hk ej) hG
  · by_cases ei : i = k
    · subst ei
      rw [updN_at] at hu
      rw [updN_ne _ _ (Ne.symm hij)]
      exact key u hu j hj (Ne.symm hij)
    · rw [updN_ne _ _ ei] at hu
      by_cases ej : j = k
      · subst ej
        rw [updN_at]
        exact fun hu' => key u hu' i hi ei hu
      · rw [updN_ne _ _ ej]
        exact M.apart i j hi hj hij u hu
/-- one of them has begun -/
theorem Team.begun (M : Team w0 w pa pr F x) (hk : k < 3) {a r : Nat} (A : Blk w0 w a T c) (R : Blk w0 w r T' c') (hT : T ∉ FTs) (hT' : T' ∉ FTs) (hB : T ∉ BTs) (hB' : T' ∉ BTs) (O : Oth [a, r] w w') (hp : w.heap.size ≤ p) (hq : w.heap.size ≤ q) (hF : ∀ j ∈ F', w.heap.size ≤ j) (m : Cm w0 w' p x') (M' : RCm w0 w' q F' x') :
    Team w0 w' (updN pa k (pt p)) (updN pr k (pt q)) (updN F k (p :: q :: F')) (updN x k x') := by
  have new : ∀ j ∈ p :: q :: F', w.heap.size ≤ j := fun j hj => by
    simp only [List.mem_cons] at hj
    rcases hj with rfl | rfl | hj
    · exact hp
    · exact hq
    · exact hF j hj
  have hG : ∀ q ∈ [a, r], ∃ cs T fz, w.heap[q]? = some (.cells cs T fz) ∧ T ∉ BTs := fun j hj => by
    simp at hj
    rcases hj with rfl | rfl
    · exact ⟨_, _, _, A.at_, hB⟩
    · exact ⟨_, _, _, R.at_, hB'⟩
  refine ⟨fun j hj => ?_, fun i j hi hj hij u hu => ?_⟩
  · by_cases ej : j = k
    · subst ej
      rw [updN_at, updN_at, updN_at, updN_at]
      exact .inr ⟨p, q, F', rfl, rfl, rfl, m, M'⟩
    · rw [updN_ne _ _ ej, updN_ne _ _ ej, updN_ne _ _ ej, updN_ne _ _ ej]
      refine (M.it j hj).oth O (fun u hu => ?_) hG
      have h1 := (M.foot hj).ne A hT u hu
      have h2 := (M.foot hj).ne R hT' u hu
      simp [h1, h2]
  · by_cases ei : i = k
    · subst ei
      rw [updN_at] at hu
      rw [updN_ne _ _ (Ne.symm hij)]
      intro hu'
      have h1 := new u hu
      have h2 := (M.foot hj).lt u hu'
      omega
    · rw [updN_ne _ _ ei] at hu
      by_cases ej : j = k
      · subst ej
        rw [updN_at]
        intro hu'
        have h1 := new u hu'
        have h2 := (M.foot hi).lt u hu
        omega
      · rw [updN_ne _ _ ej]
        exact M.apart i j hi hj hij u hu
/-- one of them is done -/
theorem Team.off (M : Team w0 w pa pr F x) (hk : k < 3) {a i : Nat} {v : Value} (A : Blk w0 w a T c) (hT : T ∉ FTs) (hB : T ∉ BTs) : Team w0 (w.setCell ⟨a, i, none⟩ v) (updN pa k (.pointer none)) pr (updN F k []) x := by
  refine ⟨fun j hj => ?_, fun i j hi hj hij u hu => ?_⟩
  · by_cases ej : j = k
    · subst ej
      rw [updN_at, updN_at]
      exact .inl ⟨rfl, rfl⟩
    · rw [updN_ne _ _ ej, updN_ne _ _ ej]
      exact (M.it j hj).oth (G := [a]) (Oth.set _ _ _ _ (by simp)) (fun u hu => by simpa using (M.foot hj).ne A hT u hu) (fun u hu => by simp at hu; subst hu; exact ⟨_, _, _, A.at_, hB⟩)
  · by_cases ei : i = k
    · subst ei
      rw [updN_at] at hu
      simp at hu
    · rw [updN_ne _ _ ei] at hu
      by_cases ej : j = k
      · subst ej
        rw [updN_at]
        simp
      · rw [updN_ne _ _ ej]
        exact M.apart i j hi hj hij u hu
end
/-! ### the rows of three -/
def arr3 (f : Nat → Value) : Array Value := #[f 0, f 1, f 2]
theorem arr3_set (f : Nat → Value) {k : Nat} (h : k < 3) (v : Value) : (arr3 f).setIfInBounds k v = arr3 (updN f k v) := by
  rcases (show k = 0 ∨ k = 1 ∨ k = 2 by omega) with rfl | rfl | rfl <;> rfl
theorem arr3_get (f : Nat → Value) {k : Nat} (h : k < 3) : (arr3 f)[k]? = some (f k) := by
  rcases (show k = 0 ∨ k = 1 ∨ k = 2 by omega) with rfl | rfl | rfl <;> rfl
/-- where the law stands -/
structure Now (w wr : World) (b y ab rb N : Nat) (pa pr : Nat → Value) (F : Nat → List Nat) (x : Nat → Cw) (s : St) : Prop where
  two : Two w wr b y s s N
  len : s.ws.length = 160
  ab : Blk w wr ab 34 (arr3 pa)
  rb : Blk w wr rb 36 (arr3 pr)
  team : Team w wr pa pr F x
section
variable {w wr w' w1 w2 : World} {b y ab rb N : Nat} {pa pr : Nat → Value} {F : Nat → List Nat} {x : Nat → Cw} {s s' : St} {k p q : Nat} {F' F2 : List Nat} {x' : Cw}
theorem Now.below (h : Now w wr b y ab rb N pa pr F x s) (hb : Below wr.heap.size wr w') : Now w w' b y ab rb N pa pr F x s := ⟨h.two.below hb, h.len, h.ab.below hb, h.rb.below hb, h.team.below hb⟩
theorem Now.mono {N' : Nat} (h : Now w wr b y ab rb N pa pr F x s) (hN : N ≤ N') : Now w wr b y ab rb N' pa pr F x s := ⟨h.two.mono hN, h.len, h.ab, h.rb, h.team⟩
theorem Now.ca (h : Now w wr b y ab rb N pa pr F x s) (hk : k < 3) {v : Value} (e : pa k = v) : wr.cell? ⟨ab, k, none⟩ = some v := (h.ab.cell k).trans (by rw [arr3_get _ hk, e])
theorem Now.cr (h : Now w wr b y ab rb N pa pr F x s) (hk : k < 3) {v : Value} (e : pr k = v) : wr.cell? ⟨rb, k, none⟩ = some v := (h.rb.cell k).trans (by rw [arr3_get _ hk, e])
/-- both memories have another word -/
theorem Now.stored (h : Now w wr b y ab rb N pa pr F x s) (T2 : Two w w2 b y s' s' (N + 2)) (l : s'.ws.length = 160) (o : Oth [] wr w2) : Now w w2 b y ab rb (N + 2) pa pr F x s' := ⟨T2, l, h.ab.oth o (by simp), h.rb.oth o (by simp), h.team.oth0 o⟩
/-- the program's has stepped: the reference's is where it was -/
theorem Now.half (h : Now w wr b y ab rb N pa pr F x s) {x0 : Cw} (m : Cm w wr p x0) (M : RCm w wr q F' x0) (o1 : Oth [p] wr w1) : RCm w w1 q F' x0 ∧ Blk w w1 ab 34 (arr3 pa) ∧ Blk w w1 rb 36 (arr3 pr) := by
  obtain ⟨cs, B⟩ := m.blk
  refine ⟨M.oth o1 (by simpa using M.ne B q (by simp)) (fun k hk => by simpa using M.ne B k (by simp [hk])), h.ab.oth o1 (by simpa using h.ab.ne B (by decide)), h.rb.oth o1 (by simpa using h.rb.ne B (by decide))⟩
/-- both have stepped -/
theorem Now.whole (h : Now w wr b y ab rb N pa pr F x s) (hk : k < 3) {x0 : Cw} (ha : pa k = pt p) (hr : pr k = pt q) (e : F k = p :: q :: F') (m : Cm w wr p x0) (M : RCm w wr q F' x0) (o1 : Oth [p] wr w1) (m1 : Cm w w1 p x') (o2 : Oth (q :: F') w1 w2) (T2 : Two w w2 b y s' s' (N + 2)) (l : s'.ws.length = 160) (M2 : RCm w w2 q F2 x') (fr : ∀ j ∈ F2, j ∈ F' ∨ w1.heap.size ≤ j) :
    Now w w2 b y ab rb (N + 2) pa pr (updN F k (p :: q :: F2)) (updN x k x') s' ∧ Cm w w2 p x' := by
  obtain ⟨M1, A1, R1⟩ := h.half m M o1
  obtain ⟨cs, B⟩ := m1.blk
  have m2 := m1.oth o2 (fun hp => M1.ne B p hp rfl) M1.foot.at
  exact ⟨⟨T2, l, A1.oth o2 (fun hh => M1.foot.ne A1 (by decide) _ hh rfl), R1.oth o2 (fun hh => M1.foot.ne R1 (by decide) _ hh rfl), h.team.stepped hk ha hr e o1 o2 m2 M2 fr⟩, m2⟩
theorem Now.off (h : Now w wr b y ab rb N pa pr F x s) (hk : k < 3) : Now w (wr.setCell ⟨ab, k, none⟩ (.pointer none)) b y ab rb N (updN pa k (.pointer none)) pr (updN F k []) x s :=
  ⟨h.two.set h.ab k _, h.len, arr3_set pa hk _ ▸ h.ab.set k _, h.rb.oth (Oth.set (F := [ab]) _ _ _ _ (by simp)) (by simpa using h.rb.ne h.ab (by decide)), h.team.off hk h.ab (by decide) (by decide)⟩
end
/-- while an access is made: the law's rows, the Op's box -/
structure Mid (w wr wi : World) (b y ab rb ob N : Nat) (pa pr : Nat → Value) (s : St) (oc : Array Value) : Prop where
  oth : Oth [ab, rb] wr wi
  two : Two w wi b y s s N
  ab : Blk w wi ab 34 (arr3 pa)
  rb : Blk w wi rb 36 (arr3 pr)
  op : Blk w wi ob 42 oc
section
variable {w wr wi w' : World} {b y ab rb ob N : Nat} {pa pr : Nat → Value} {F : Nat → List Nat} {x : Nat → Cw} {s : St} {oc : Array Value} {k p q : Nat} {F' : List Nat} {x' : Cw}
theorem Mid.below (h : Mid w wr wi b y ab rb ob N pa pr s oc) (hb : Below wi.heap.size wi w') : Mid w wr w' b y ab rb ob N pa pr s oc := ⟨h.oth.trans (Oth.below hb), h.two.below hb, h.ab.below hb, h.rb.below hb, h.op.below hb⟩
theorem Mid.setA (h : Mid w wr wi b y ab rb ob N pa pr s oc) (hk : k < 3) (v : Value) : Mid w wr (wi.setCell ⟨ab, k, none⟩ v) b y ab rb ob N (updN pa k v) pr s oc :=
  ⟨h.oth.trans (Oth.set _ _ _ _ (by simp)), h.two.set h.ab k _, arr3_set pa hk v ▸ h.ab.set k _, h.rb.oth (Oth.set (F := [ab]) _ _ _ _ (by simp)) (by simpa using h.rb.ne h.ab (by decide)), h.op.oth (Oth.set (F := [ab]) _ _ _ _ (by simp)) (by simpa using h.op.ne h.ab (by decide))⟩
theorem Mid.setR (h : Mid w wr wi b y ab rb ob N pa pr s oc) (hk : k < 3) (v : Value) : Mid w wr (wi.setCell ⟨rb, k, none⟩ v) b y ab rb ob N pa (updN pr k v) s oc :=
  ⟨h.oth.trans (Oth.set _ _ _ _ (by simp)), h.two.set h.rb k _, h.ab.oth (Oth.set (F := [rb]) _ _ _ _ (by simp)) (by simpa using h.ab.ne h.rb (by decide)), arr3_set pr hk v ▸ h.rb.set k _, h.op.oth (Oth.set (F := [rb]) _ _ _ _ (by simp)) (by simpa using h.op.ne h.rb (by decide))⟩
theorem Mid.cmA (h : Mid w wr wi b y ab rb ob N pa pr s oc) (m : Cm w wi p x') (v : Value) : Cm w (wi.setCell ⟨ab, k, none⟩ v) p x' := by
  obtain ⟨cs, B⟩ := m.blk
  exact m.oth1 (Oth.set _ _ _ _ (by simp)) h.ab (by decide) (B.ne h.ab (by decide))
theorem Mid.cmR (h : Mid w wr wi b y ab rb ob N pa pr s oc) (m : Cm w wi p x') (v : Value) : Cm w (wi.setCell ⟨rb, k, none⟩ v) p x' := by
  obtain ⟨cs, B⟩ := m.blk
  exact m.oth1 (Oth.set _ _ _ _ (by simp)) h.rb (by decide) (B.ne h.rb (by decide))
theorem Mid.rcR (h : Mid w wr wi b y ab rb ob N pa pr s oc) (M : RCm w wi q F' x') (v : Value) : RCm w (wi.setCell ⟨rb, k, none⟩ v) q F' x' :=
  M.oth (G := [rb]) (Oth.set _ _ _ _ (by simp)) (by simpa using M.foot.ne h.rb (by decide) q (by simp)) (fun j hj => by simpa using M.foot.ne h.rb (by decide) j (by simp [hj]))
theorem Mid.now (h0 : Now w wr b y ab rb N pa pr F x s) (h : Mid w wr wi b y ab rb ob N (updN pa k (pt p)) (updN pr k (pt q)) s oc) (hk : k < 3) (hp : wr.heap.size ≤ p) (hq : wr.heap.size ≤ q) (hF : ∀ j ∈ F', wr.heap.size ≤ j) (m : Cm w wi p x') (M : RCm w wi q F' x') :
    Now w wi b y ab rb N (updN pa k (pt p)) (updN pr k (pt q)) (updN F k (p :: q :: F')) (updN x k x') s := ⟨h.two, h0.len, h.ab, h.rb, h0.team.begun hk h0.ab h0.rb (by decide) (by decide) (by decide) (by decide) h.oth hp hq hF m M⟩
end
end Go.Proofs.YtahafmglidlcnaaGreatDoor
