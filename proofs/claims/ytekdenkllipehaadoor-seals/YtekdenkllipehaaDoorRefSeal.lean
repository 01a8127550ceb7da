import Derived.Test.YtekdenkllipehaaDoorRefSum
import Derived.Test.YtekdenkllipehaaDoorConv
namespace Go.Proofs.YtekdenkllipehaaDoor
open Go.RowKit

set_option maxRecDepth 100000 in
set_option maxHeartbeats 400000 in
theorem refSeal_any (s : ByteArray) (hs : s.size ≤ 281474976710656) (w : World) :
    Calls Tryd.prog 9 #[.string s] w fun e w' => e = .returned (.string ⟨(M.sealed s.data.toList).toArray⟩) ∧ Below w.heap.size w w' := by
  have hn := M.sum_lt s.data.toList
  have hcv := conv1
  have hsum := refSum_any s hs w
  unfold M.sealed
  have hU := M.upto_zero s.data.toList (M.sum s.data.toList)
  generalize M.sum s.data.toList = n at *
  have HS : Hid _ := hsum
  clear hsum
  have hl : s.data.toList.length ≤ 281474976710656 := by simpa using hs
  have e0 : s = ⟨s.data.toList.toArray⟩ := by simp
  generalize s.data.toList = l at *
  subst e0
  go_enter Tryd.func9, Tryd.ntmps9
  go_wp2_with fail
  refine Calls.mono HS.out ?_
  rintro e w1 ⟨rfl, rfl⟩
  go_wp2_with fail
  go_loopw [0, 3, 4] (fun t x i wr => ∃ k m : Nat, ∃ tt : List UInt8, M.Upto l n k m tt ∧ t = .string ⟨tt.toArray⟩ ∧ x = .int .i64 m ∧ i = .int .i64 k ∧ Below w1.heap.size w1 wr) (fun _ _ i _ => 4 - (intOf i).toNat)
  case atStart => exact ⟨0, n, l, hU, rfl, rfl, rfl, Below.refl _ _⟩
  case round =>
    obtain ⟨k, m, tt, hu, rfl, rfl, rfl, hb⟩ := hrel
    have hm := M.upto_lt hu hn
    have ht := M.upto_len hu
    have hk : k ≤ 4 := hu.1
    by_cases hlt : k < 4
    · have HU : Hid (M.Upto l n (k + 1) (m / 256) (tt ++ [UInt8.ofNat (m % 256)])) := M.upto_step hu hlt
      go_wp2
      go_roundw
      case rel => exact ⟨k + 1, m / 256, _, HU.out, by rw [ByteArray.mk_append_mk], by go_num, by go_num, hb.alloc hb.size _⟩
      case measure => simp [intOf]; omega
    · obtain rfl : k = 4 := by omega
      have E : Hid (tt = l ++ M.le4 n) := M.upto_end hu
      go_wp2
      go_ret
      exact ⟨congrArg (fun x : List UInt8 => Ending.returned (.string ⟨x.toArray⟩)) E.out, hb⟩
end Go.Proofs.YtekdenkllipehaaDoor
