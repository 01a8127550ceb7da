import Derived.Test.YtekdenkllipehaaRows
import Derived.Test.YtekdenkllipehaaMath
import Derived.Test.YtekdenkllipehaaKeep
import Derived.Test.YtekdenkllipehaaBits
import Derived.Test.YtekdenkllipehaaStep
import Derived.Test.YtekdenkllipehaaTold
namespace Go.Proofs.Ytekdenkllipehaa
open Go.RowKit

set_option maxRecDepth 100000 in
theorem get_out (s : ByteArray) (a : Int) (hs : s.size ≤ maxLen) (ha : a < 0 ∨ (s.size : Int) ≤ a) (w : World) :
    Calls Try.prog 11 #[.string s, .int .i64 a] w fun e w' => e = .returned (.tuple #[.int .i64 0, .int .i64 0, .int .i64 2]) ∧ w' = w := by
  unfold maxLen at hs
  rcases ha with ha | ha
  · go_enter Try.func11, Try.ntmps11
    go_wp2
    go_ret3
    exact ⟨rfl, rfl⟩
  · have h0 : ¬ a < 0 := by omega
    go_enter Try.func11, Try.ntmps11
    go_wp2
    go_ret3
    exact ⟨rfl, rfl⟩

set_option maxRecDepth 100000 in
set_option maxHeartbeats 400000 in
theorem get_in (s : ByteArray) (a : Nat) (hs : s.size ≤ maxLen) (ha : a < s.size) (w : World) :
    Calls Try.prog 11 #[.string s, .int .i64 a] w fun e w' => e = told (M.rd 8 [] (s.data.toList.drop a)) a ∧ w' = w := by
  unfold maxLen at hs
  have hD : (s.data.toList.drop a).length = s.size - a := by simp
  have hB := byteAt s a
  generalize s.data.toList.drop a = D at *
  have HD : Hid (D.length = s.size - a) := hD
  have HB : Hid (∀ (k : Nat) (h : a + k < s.size), D[k]? = some s[a + k]) := hB
  clear hD hB
  go_enter Try.func11, Try.ntmps11
  go_wp2
  all_goals
    go_loop [7, 23] (fun n i => ∃ k : Nat, M.Far D k ∧ i = .int .i64 k ∧ n = .int .i64 (M.val (D.take k))) (fun _ i => 8 - (intOf i).toNat)
    case atStart => exact ⟨0, M.far_zero D, rfl, rfl⟩
    case round =>
      obtain ⟨k, hF, rfl, rfl⟩ := hrel
      have hk8 : k ≤ 8 := hF.1
      have hkl : k ≤ s.size - a := by have := hF.2.1; rw [HD.out] at this; exact this
      by_cases hk : k < 8 ∧ a + k < s.size
      · obtain ⟨h3, h4⟩ := hk
        have hv := M.val_take_small hF.2.1 hk8
        go_wp2
        · go_round
          case rel =>
            have g1 : (128 : Int) ≤ (s[a + k].toNat : Int) := by assumption
            exact ⟨k + 1, M.far_step hF h3 (HB.out k h4) (Int.ofNat_le.1 g1), by go_num, congrArg (Value.int .i64) (or_step (HB.out k h4) h3)⟩
          case measure => simp [intOf]; omega
        · have g1 : s[a + k].toNat = 0 := by assumption
          have g2 : 0 < k := by assumption
          have E := told_none (a := a) (M.rd_nil hF h3 (HB.out k h4) (UInt8.toNat_inj.1 g1) g2)
          go_ret3
          exact ⟨E, rfl⟩
        · have g1 : (s[a + k].toNat : Int) < 128 := by assumption
          have g2 : ¬ 0 < k := by assumption
          have g0 : s[a + k].toNat = 0 := by assumption
          have E := told_hit (a := a) hF h3 (HB.out k h4) (Int.ofNat_lt.1 g1) (Or.inr g2) (or_step (HB.out k h4) h3) rfl
          rw [show (s[a + k].toNat : Int) = 0 by rw [g0]; rfl] at E
          go_ret3
          exact ⟨E, rfl⟩
        · have g1 : (s[a + k].toNat : Int) < 128 := by assumption
          have g2 : ¬ s[a + k].toNat = 0 := by assumption
          have E := told_hit (a := a) hF h3 (HB.out k h4) (Int.ofNat_lt.1 g1) (Or.inl g2) (or_step (HB.out k h4) h3) rfl
          go_ret3
          exact ⟨E, rfl⟩
      · have E := told_none (a := a) (M.rd_stop hF (by rw [HD.out]; omega))
        go_wp2
        go_ret3
        exact ⟨E, rfl⟩
end Go.Proofs.Ytekdenkllipehaa
