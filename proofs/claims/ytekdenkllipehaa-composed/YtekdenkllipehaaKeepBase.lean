import Derived.Test.YtekdenkllipehaaDiff
import Derived.Test.YtekdenkllipehaaFill
namespace Go.Proofs.Ytekdenkllipehaa
open Go.RowKit

set_option maxRecDepth 100000 in
theorem cutText_any (s : ByteArray) (hs : s.size ≤ 140737488351232) : ∃ c : ByteArray, c.size ≤ 4096 ∧ ∀ w, Calls Try.prog 19 #[.string s] w fun e w' => e = .returned (.string c) ∧ w' = w := by
  by_cases h : 4096 < s.size
  · refine ⟨s.extract 0 4096, by simp; omega, fun w => ?_⟩
    go_enter Try.func19, Try.ntmps19
    go_wp2_with fail
    go_ret
    exact ⟨rfl, rfl⟩
  · refine ⟨s, by omega, fun w => ?_⟩
    go_enter Try.func19, Try.ntmps19
    go_wp2_with fail
    go_ret
    exact ⟨rfl, rfl⟩

/-- A text of zeros. -/
def zeros (n : Nat) : ByteArray := ⟨(List.replicate n 0).toArray⟩
theorem zeros_size (n : Nat) : (zeros n).size = n := by simp [zeros, ByteArray.size]

theorem Fill.zeros {N n : Nat} {wr : World} (h : Fill N n [] wr) : Fill N n (List.replicate n 0) wr :=
  ⟨fun j hj => by rw [h.cell j hj]; simp [hj], h.frz⟩

/-- What an application of a change that was found makes. -/
theorem applied_found {C b t : ByteArray} {acc : List Nat} {n : Nat} (hp : M.parse C.data.toList = some (n, acc)) (hr : M.reach acc ≤ b.size) (hm : M.made acc b.data.toList = t.data.toList) :
    appliedEnd (applied (M.parse C.data.toList) b.data.toList) = .returned (.tuple #[.string t, .int .i64 0]) := by
  rw [hp]
  simp only [applied]
  rw [if_neg (by simp; omega), hm]
  simp [appliedEnd]

end Go.Proofs.Ytekdenkllipehaa
