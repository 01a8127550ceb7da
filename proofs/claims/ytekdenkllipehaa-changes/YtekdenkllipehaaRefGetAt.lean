import Derived.Test.YtekdenkllipehaaRefGet
import Derived.Test.YtekdenkllipehaaChg
namespace Go.Proofs.Ytekdenkllipehaa
open Go.RowKit

theorem refGet_none (s : ByteArray) (a : Nat) (hs : s.size ≤ 140737488351232) (h : M.getAt s.data.toList a = none) (w : World) :
    Calls Try.prog 12 #[.string s, .int .i64 a] w fun e w' => e = .returned (.tuple #[.int .i64 0, .int .i64 0, .int .i64 2]) ∧ Q w w' := by
  by_cases ha : a < s.size
  · unfold M.getAt at h
    rw [if_pos (by simpa using ha)] at h
    have h1 := refGet_in s a hs ha w
    cases hr : M.rd 8 [] (s.data.toList.drop a) with
    | none => rw [hr] at h1; exact h1
    | some p => rw [hr] at h; simp at h
  · exact (refGet_out s a (by unfold maxLen; omega) (Or.inr (by omega)) w).mono fun e w' ⟨he, hw⟩ => ⟨he, hw ▸ Q.refl w⟩

theorem refGet_some (s : ByteArray) (a v nx : Nat) (hs : s.size ≤ 140737488351232) (h : M.getAt s.data.toList a = some (v, nx)) (w : World) :
    Calls Try.prog 12 #[.string s, .int .i64 a] w fun e w' => e = .returned (.tuple #[.int .i64 v, .int .i64 nx, .int .i64 0]) ∧ Q w w' := by
  have ha : a < s.size := by simpa using (M.getAt_bound h).2.2.2
  unfold M.getAt at h
  rw [if_pos (by simpa using ha)] at h
  have h1 := refGet_in s a hs ha w
  cases hr : M.rd 8 [] (s.data.toList.drop a) with
  | none => rw [hr] at h; simp at h
  | some p =>
    obtain ⟨v', k⟩ := p
    rw [hr] at h h1
    simp only [Option.some.injEq, Prod.mk.injEq] at h
    obtain ⟨rfl, rfl⟩ := h
    exact h1
end Go.Proofs.Ytekdenkllipehaa
