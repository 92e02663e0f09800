import Derived.Test.YtpcoldpphihfmaaGreatDoorGa
import Derived.Test.YtpcoldpphihfmaaGreatDoorVx
namespace Go.Proofs.YtpcoldpphihfmaaGreatDoor
set_option linter.unusedVariables false
set_option linter.unusedSimpArgs false
set_option maxRecDepth 100000
def updN {α : Type} (f : Nat → α) (k : Nat) (v : α) : Nat → α := fun j => if j = k then v else f j
theorem updN_at {α : Type} (f : Nat → α) (k : Nat) (v : α) : updN f k v k = v := if_pos rfl
theorem updN_ne {α : Type} (f : Nat → α) {k j : Nat} (v : α) (h : j ≠ k) : updN f k v j = f j := if_neg h
section
variable {s : St} {a b : Int}
end
structure MW (s : St) (g : Nat → Int) : Prop where
 len : s.ws.length = 160
 t : s.t = 0
 at_ : ∀ i : Nat, i < 24 → s.word (96 + (i : Int)) = g i
section
variable {s : St} {g : Nat → Int} {i : Nat} {o o0 o1 : Int}
theorem inW (hi : i < 24) : In (96 + (i : Int)) := ⟨by omega, by omega⟩
theorem MW.got (M : MW s g) (hi : i < 24) : s.got (96 + (i : Int)) = g i := by rw [(inW hi).got M.len]; exact M.at_ i hi
theorem MW.load (M : MW s g) {x : Int} (hx : In x) : MW (s.load x) g := ⟨M.len, by rw [t_load M.len hx]; exact M.t, M.at_⟩
theorem MW.store (M : MW s g) (hi : i < 24) (v : Int) : MW (s.store (96 + (i : Int)) v) (updN g i v) := by
 refine ⟨n_store' M.len _ _, by rw [t_store M.len (inW hi)]; exact M.t, fun j hj => ?_⟩
 rw [word_store M.len (inW hi) (inW hj)]
 unfold updN
 by_cases e : j = i
 ·subst e; rw [if_pos rfl, if_pos rfl]
 ·rw [if_neg (by omega), if_neg e]; exact M.at_ j hj
theorem MW.cas (M : MW s g) (hi : i < 24) (h : g i = o) (v : Int) : s.ok1 (96 + (i : Int)) o = true ∧ MW (s.cas (96 + (i : Int)) o v) (updN g i v) := by
 have hw : s.word (96 + (i : Int)) = o := (M.at_ i hi).trans h
 refine ⟨by rw [ok1_iff M.len (inW hi), hw]; simp, n_cas' M.len _ _ _, by rw [t_cas M.len (inW hi)]; exact M.t, fun j hj => ?_⟩
 rw [word_cas_ok M.len (inW hi) (inW hj) hw]
 unfold updN
 by_cases e : j = i
 ·subst e; rw [if_pos rfl, if_pos rfl]
 ·rw [if_neg (by omega), if_neg e]; exact M.at_ j hj
end
end Go.Proofs.YtpcoldpphihfmaaGreatDoor
