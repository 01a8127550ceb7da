import Derived.Test.YtekdenkllipehaaDoorRows
import Derived.Test.YtekdenkllipehaaDoorSumBase
import Derived.Test.YtekdenkllipehaaDoorBits
namespace Go.Proofs.YtekdenkllipehaaDoor
open Go.RowKit

theorem odd_step (y : Nat) (h : y < 4294967296) (ho : y % 2 = 1) : bits .xor .i64 ((y : Int) / 2) 2197175160 = (M.bit y : Int) := by
  unfold M.bit
  rw [if_pos ho, ← i64_xor (y / 2) 2197175160 (by omega) (by omega)]; rfl

theorem even_step (y : Nat) (ho : ¬ y % 2 = 1) : (y : Int) / 2 = (M.bit y : Int) := by
  unfold M.bit
  rw [if_neg ho]; rfl

set_option maxRecDepth 100000 in
set_option maxHeartbeats 800000 in
theorem refSum_any (s : ByteArray) (hs : s.size ≤ 281474976710656) (w : World) :
    Calls Tryd.prog 7 #[.string s] w fun e w' => e = .returned (.int .i64 (M.sum s.data.toList)) ∧ w' = w := by
  go_enter Tryd.func7, Tryd.ntmps7
  go_wp2
  go_loop [3, 4] (fun c i => ∃ k : Nat, k ≤ s.size ∧ i = .int .i64 k ∧ c = .int .i64 (M.run (s.data.toList.take k))) (fun _ i => s.size - (intOf i).toNat)
  case atStart => exact ⟨0, Nat.zero_le _, rfl, rfl⟩
  case round =>
    obtain ⟨k, hk, rfl, rfl⟩ := hrel
    have hr := M.run_lt (s.data.toList.take k)
    by_cases hlt : k < s.size
    · have hbb : (s[k].toNat : Int) < 256 := by have := s[k].toNat_lt; omega
      have hx := i64_xor (M.run (s.data.toList.take k)) s[k].toNat hr (by have := s[k].toNat_lt; omega)
      have hl := M.xor_byte_lt hr s[k]
      have HS : Hid (M.run (s.data.toList.take (k + 1)) = M.bits 8 (M.run (s.data.toList.take k) ^^^ s[k].toNat)) := by
        rw [take_snoc s k hlt, M.run_snoc]; rfl
      generalize M.run (s.data.toList.take k) ^^^ s[k].toNat = x at *
      go_wp2
      go_loop [3, 5] (fun c j => ∃ m : Nat, m ≤ 8 ∧ j = .int .i64 m ∧ c = .int .i64 (M.bits m x)) (fun _ j => 8 - (intOf j).toNat)
      case atStart => exact ⟨0, Nat.zero_le _, rfl, rfl⟩
      case round =>
        obtain ⟨m, hm, rfl, rfl⟩ := hrel
        have hy := M.bits_lt (k := m) hl
        have HB : Hid (M.bits (m + 1) x = M.bit (M.bits m x)) := M.bits_succ m x
        by_cases hm8 : m < 8
        · by_cases ho : M.bits m x % 2 = 1
          · have hxo := odd_step (M.bits m x) hy ho
            have hod : ((M.bits m x : Int) % 2 == 1) = true := by simp; omega
            generalize M.bits m x = y at *
            clear ho
            go_wp2
            go_round
            case rel => exact ⟨m + 1, by omega, by go_num, by rw [HB.out]⟩
            case measure => simp [intOf]; omega
          · have hxe := even_step (M.bits m x) ho
            have hod : ((M.bits m x : Int) % 2 == 1) = false := by simp; omega
            generalize M.bits m x = y at *
            clear ho
            go_wp2
            go_round
            case rel => exact ⟨m + 1, by omega, by go_num, by rw [HB.out]⟩
            case measure => simp [intOf]; omega
        · obtain rfl : m = 8 := by omega
          go_wp2
          go_round
          case rel => exact ⟨k + 1, by omega, by go_num, by rw [HS.out]⟩
          case measure => simp [intOf]; omega
    · have E : Ending.returned (.int .i64 (4294967295 - (M.run (s.data.toList.take k) : Int))) = .returned (.int .i64 (M.sum s.data.toList)) := by
        rw [List.take_of_length_le (by simp; omega)] at hr ⊢
        unfold M.sum
        rw [show ((4294967295 - M.run s.data.toList : Nat) : Int) = 4294967295 - (M.run s.data.toList : Int) by omega]
      go_wp2
      go_ret
      exact ⟨E, rfl⟩
end Go.Proofs.YtekdenkllipehaaDoor
