import Derived.Test.YtekdenkllipehaaDoorRefSeal
import Derived.Test.YtekdenkllipehaaDoorOpened
namespace Go.Proofs.YtekdenkllipehaaDoor
open Go.RowKit

set_option maxRecDepth 100000 in
theorem refUnseal_short (s : ByteArray) (hs : s.size < 4) (w : World) :
    Calls Tryd.prog 11 #[.string s] w fun e w' => e = .returned (.tuple #[.string ⟨#[]⟩, .int .i64 2]) ∧ w' = w := by
  go_enter Tryd.func11, Tryd.ntmps11
  go_wp2_with fail
  go_ret2
  exact ⟨rfl, rfl⟩

set_option maxRecDepth 100000 in
set_option maxHeartbeats 400000 in
theorem refUnseal_long (s T R : ByteArray) (n : Nat) (hs : n ≤ 281474976710656) (hsz : s.size = n + 4) (h1 : s.extract 0 n = T) (hR : s = T ++ R) (w : World) :
    Calls Tryd.prog 11 #[.string s] w fun e w' => e = opened T R ∧ Below w.heap.size w w' := by
  have hTn : T.size = n := by rw [← h1]; simp; omega
  have hsl := refSeal_any T (by omega)
  by_cases hc : R.data.toList = M.le4 (M.sum T.data.toList)
  · have E : Hid (Ending.returned (.tuple #[.string T, .int .i64 0]) = opened T R) := by unfold opened; rw [if_pos hc]; exact rfl
    rw [sealed_of T R hc, ← hR] at hsl
    clear hc hR hTn
    go_enter Tryd.func11, Tryd.ntmps11
    go_wp2_with fail
    refine (hsl _).mono ?_
    rintro e w1 ⟨rfl, hb⟩
    go_wp2_with fail
    go_ret2
    exact ⟨E.out, hb⟩
  · have E : Hid (Ending.returned (.tuple #[.string ⟨#[]⟩, .int .i64 3]) = opened T R) := by unfold opened; rw [if_neg hc]; exact rfl
    have hne := sealed_ne T R hc
    rw [← hR] at hne
    clear hc hR hTn
    generalize (⟨(M.sealed T.data.toList).toArray⟩ : ByteArray) = U at *
    have hbq : (U.toList == s.toList) = false := by
      rw [ByteArray.toList_eq, ByteArray.toList_eq, beq_eq_false_iff_ne]
      intro e
      exact hne (WideShapes.bytes_inj e)
    clear hne
    go_enter Tryd.func11, Tryd.ntmps11
    go_wp2_with fail
    refine (hsl _).mono ?_
    rintro e w1 ⟨rfl, hb⟩
    go_wp2_with fail
    go_ret2
    exact ⟨E.out, hb⟩

end Go.Proofs.YtekdenkllipehaaDoor
