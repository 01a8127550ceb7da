/-
  Plain mathematics on changes: one behind the other.
-/
import Derived.Test.YtekdenkllipehaaChg
namespace Go.Proofs.Ytekdenkllipehaa.M

/-- Two changes, one behind the other: what the second takes of the middle text is what the first put there. -/
def subst (a b : List Nat) : List Nat := b.map fun x => if 255 < x then a.getD (x - 256) 0 else x

theorem subst_length (a b : List Nat) : (subst a b).length = b.length := by simp [subst]

theorem made_getD (a : List Nat) (base : List UInt8) (i : Nat) (h : i < a.length) : (made a base).getD i 0 = if 255 < a.getD i 0 then base.getD (a.getD i 0 - 256) 0 else UInt8.ofNat (a.getD i 0) := by
  simp [made, List.getElem?_eq_getElem h]

theorem made_subst (a b : List Nat) (base : List UInt8) (h : reach b ≤ a.length) : made (subst a b) base = made b (made a base) := by
  simp only [made, subst, List.map_map]
  apply List.map_congr_left
  intro x hx
  have hr := reach_mem hx
  by_cases hb : 255 < x
  · have hi : x - 256 < a.length := by omega
    have := made_getD a base (x - 256) hi
    simp only [made] at this
    simp only [Function.comp, if_pos hb]
    exact this.symm
  · simp only [Function.comp, if_neg hb]

theorem reach_subst (a b : List Nat) (h : reach b ≤ a.length) : reach (subst a b) ≤ reach a := by
  refine reach_le fun y hy => ?_
  simp only [subst, List.mem_map] at hy
  obtain ⟨x, hx, rfl⟩ := hy
  have hr := reach_mem hx
  by_cases hb : 255 < x
  · rw [if_pos hb]
    have hi : x - 256 < a.length := by omega
    refine reach_mem ?_
    rw [List.getD_eq_getElem?_getD, List.getElem?_eq_getElem hi]
    exact List.getElem_mem hi
  · rw [if_neg hb]; omega
end Go.Proofs.Ytekdenkllipehaa.M
