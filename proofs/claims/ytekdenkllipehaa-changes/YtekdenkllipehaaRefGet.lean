import Derived.Test.YtekdenkllipehaaTold
import Derived.Test.YtekdenkllipehaaStep
import Derived.Test.YtekdenkllipehaaRefPut
namespace Go.Proofs.Ytekdenkllipehaa
open Go.RowKit

set_option maxRecDepth 100000 in
theorem refGet_out (s : ByteArray) (a : Int) (hs : s.size ≤ maxLen) (ha : a < 0 ∨ (s.size : Int) ≤ a) (w : World) :
    Calls Try.prog 12 #[.string s, .int .i64 a] w fun e w' => e = .returned (.tuple #[.int .i64 0, .int .i64 0, .int .i64 2]) ∧ w' = w := by
  unfold maxLen at hs
  rcases ha with ha | ha
  · go_enter Try.func12, Try.ntmps12
    go_wp2
    go_ret3
    exact ⟨rfl, rfl⟩
  · have h0 : ¬ a < 0 := by omega
    go_enter Try.func12, Try.ntmps12
    go_wp2
    go_ret3
    exact ⟨rfl, rfl⟩

theorem hz1 (b : UInt8) (k : Nat) (h : ¬ (b = 0 ∧ 0 < k)) : ¬ b.toNat = 0 ∨ ¬ 0 < k := by
  by_cases e : b.toNat = 0
  · right; exact fun hk => h ⟨UInt8.toNat_inj.1 e, hk⟩
  · left; exact e

theorem hz2 (b : UInt8) (k : Nat) (h : ¬ (b = 0 ∧ 0 < k)) : b ≠ 0 ∨ k = 0 := by
  by_cases e : b = 0
  · right; exact Nat.eq_zero_of_not_pos fun hk => h ⟨e, hk⟩
  · left; exact e

theorem cutText (s : ByteArray) (a k : Nat) (h : a + k < s.size) (W : World) :
    (Instr.slice 9 (.string s) (some (.int .i64 (a : Int))) (some (.int .i64 ((a : Int) + (k : Int) + 1))) none).run Try.prog W = .ok (.string ⟨((s.data.toList.drop a).take (k + 1)).toArray⟩) W := by
  rw [run_slice_string W 9 s .i64 .i64 _ _ Try.underlying9 (by omega) (by omega) (by omega)]
  congr 2
  apply ByteArray.ext
  apply Array.toList_inj.1
  rw [show ((a : Int) + (k : Int) + 1).toNat = a + k + 1 by omega, Int.toNat_natCast]
  rw [ByteArray.data_extract, Array.toList_extract, List.extract_eq_take_drop, show a + k + 1 - a = k + 1 by omega]

set_option maxRecDepth 100000 in
set_option maxHeartbeats 800000 in
theorem refGet_in (s : ByteArray) (a : Nat) (hs : s.size ≤ 140737488351232) (ha : a < s.size) (w : World) :
    Calls Try.prog 12 #[.string s, .int .i64 a] w fun e w' => e = told (M.rd 8 [] (s.data.toList.drop a)) a ∧ Q w w' := by
  have hD : (s.data.toList.drop a).length = s.size - a := by simp
  have hB := byteAt s a
  have hC := cutText s a
  generalize s.data.toList.drop a = D at *
  have HD : Hid (D.length = s.size - a) := hD
  have HB : Hid (∀ (k : Nat) (h : a + k < s.size), D[k]? = some s[a + k]) := hB
  have HC : Hid (∀ k, a + k < s.size → ∀ W, (Instr.slice 9 (.string s) (some (.int .i64 (a : Int))) (some (.int .i64 ((a : Int) + (k : Int) + 1))) none).run Try.prog W = .ok (.string ⟨(D.take (k + 1)).toArray⟩) W) := hC
  clear hD hB hC
  have t1 : decide (s.size ≤ a) = false := by simp; omega
  have t2 : decide ((a : Int) < 0) = false := by simp
  go_enter Try.func12, Try.ntmps12
  go_wp2
  go_loopw [7, 8, 9] (fun n u i wr => ∃ k : Nat, M.Far D k ∧ i = .int .i64 ((a : Int) + (k : Int)) ∧ u = .int .i64 (unit k) ∧ n = .int .i64 (M.val (D.take k)) ∧ Q w wr) (fun _ _ i _ => a + 8 - (intOf i).toNat)
  case atStart => exact ⟨0, M.far_zero D, by simp, rfl, rfl, Q.refl _⟩
  case round =>
      obtain ⟨k, hF, rfl, rfl, rfl, hq⟩ := hrel
      have hk8 : k ≤ 8 := hF.1
      have hkl : k ≤ s.size - a := by have := hF.2.1; rw [HD.out] at this; exact this
      by_cases hk : k < 8 ∧ a + k < s.size
      · obtain ⟨h3, h4⟩ := hk
        have hv := M.val_take_small hF.2.1 hk8
        have hbb : (s[a + k].toNat : Int) < 256 := by have := s[a + k].toNat_lt; omega
        have hst := ref_step (HB.out k h4) h3
        have hun := unit_step k h3
        have hsl := HC.out k h4
        by_cases hc : (s[a + k].toNat : Int) < 128
        · have hv2 := M.val_take_small (D := D) (k := k + 1) (by rw [HD.out]; omega) (by omega)
          by_cases hz : s[a + k] = 0 ∧ 0 < k
          · have E := told_none (a := a) (M.rd_nil hF h3 (HB.out k h4) hz.1 hz.2)
            have hne := M.again_no hF h3 (HB.out k h4) hz.1 hz.2
            clear hz
            have hp := refPut_yes (M.val (D.take (k + 1))) hv2
            generalize M.enc 7 (M.val (D.take (k + 1))) = l at *
            have hnb : (l == List.take (k + 1) D) = false := by simpa using hne
            have HP : Hid _ := hp
            clear hp hne
            go_wp2_with fail
            refine (HP.out _).mono ?_
            rintro e w1 ⟨rfl, hq1⟩
            go_wp2_with fail
            go_ret3
            exact ⟨E, hq.trans hq1⟩
          · have E := told_hit (a := a) hF h3 (HB.out k h4) (Int.ofNat_lt.1 hc) (hz1 s[a + k] k hz) rfl rfl
            have hne := M.again_yes hF h3 (HB.out k h4) (Int.ofNat_lt.1 hc) (hz2 s[a + k] k hz)
            have hp := refPut_yes (M.val (D.take (k + 1))) hv2
            rw [hne] at hp
            have HP : Hid _ := hp
            clear hp hz hne
            go_wp2_with fail
            refine (HP.out _).mono ?_
            rintro e w1 ⟨rfl, hq1⟩
            go_wp2_with fail
            go_ret3
            exact ⟨E, hq.trans hq1⟩
        · go_wp2
          go_roundw
          case rel => exact ⟨k + 1, M.far_step hF h3 (HB.out k h4) (by omega), by go_num, congrArg (Value.int .i64) hun, congrArg (Value.int .i64) hst, hq⟩
          case measure => simp [intOf]; omega
      · have E := told_none (a := a) (M.rd_stop hF (by rw [HD.out]; omega))
        by_cases hq : a + k < s.size
        all_goals
          go_wp2
          go_ret3
          exact ⟨E, by assumption⟩
end Go.Proofs.Ytekdenkllipehaa
