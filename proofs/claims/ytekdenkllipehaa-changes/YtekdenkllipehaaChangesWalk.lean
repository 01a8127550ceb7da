import Derived.Test.YtekdenkllipehaaRefApply
import Derived.Test.YtekdenkllipehaaApply
namespace Go.Proofs.Ytekdenkllipehaa
open Go.RowKit

/-- Apply's answer, written out. -/
theorem appliedEnd_form (o : Option (List UInt8)) : ∃ (s : ByteArray) (c : Int), appliedEnd o = .returned (.tuple #[.string s, .int .i64 c]) := by
  cases o with
  | none => exact ⟨_, _, rfl⟩
  | some t => exact ⟨_, _, rfl⟩

set_option maxRecDepth 100000 in
theorem changes_walk (a0 a1 : ByteArray) (h0 : a0.size ≤ 140737488351232) (h1 : a1.size ≤ 140737488351232) (w : World) :
    Calls Try.prog 4 #[.string a0, .string a1] w fun e w' => e = .returned (.bool true) ∧ Q w w' := by
  have p1 := apply_any a0 a1 h0 h1
  have p2 := refApply_any a0 a1 h0
  obtain ⟨s, c, hf⟩ := appliedEnd_form (applied (M.parse a0.data.toList) a1.data.toList)
  rw [hf] at p1 p2
  have P1 : Hid _ := p1
  have P2 : Hid _ := p2
  clear p1 p2 hf
  go_enter Try.func4, Try.ntmps4
  go_wp2_with fail
  refine (P1.out _).mono ?_
  rintro e w1 ⟨rfl, q1⟩
  go_wp2_with fail
  refine (P2.out _).mono ?_
  rintro e w2 ⟨rfl, q2⟩
  go_wp2_with fail
  go_ret
  exact ⟨rfl, q1.trans q2⟩
end Go.Proofs.Ytekdenkllipehaa
