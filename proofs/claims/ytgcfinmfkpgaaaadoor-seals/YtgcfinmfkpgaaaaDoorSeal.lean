import Derived.Test.YtgcfinmfkpgaaaaDoorRefSum
import Derived.Laws.BytesArg
namespace Go.Proofs.YtgcfinmfkpgaaaaDoor
open Go.RowKit

/-- 'string([]byte{x})'. -/
theorem conv1 (W : World) (v : Int) : (convert 31 9 (.slice (some ⟨W.heap.size, 0, none⟩) 1 1)).run Tryd.prog (W.alloc (.cells #[.int .u8 v] 5)) = .ok (.string ⟨#[UInt8.ofNat v.toNat]⟩) (W.alloc (.cells #[.int .u8 v] 5)) :=
  run_convert_bytes_arg (P := Tryd.prog) (W.alloc (.cells #[.int .u8 v] 5)) 31 5 Tryd.underlying31 Tryd.underlying5 W.heap.size 0 1 1 [v] rfl (fun i hi => by
    obtain rfl : i = 0 := by omega
    simp) 9 Tryd.underlying9

/-- 'string([]byte{x, y, z, t})'. -/
theorem conv4 (W : World) (a b c d : Int) : (convert 31 9 (.slice (some ⟨W.heap.size, 0, none⟩) 4 4)).run Tryd.prog (W.alloc (.cells #[.int .u8 a, .int .u8 b, .int .u8 c, .int .u8 d] 5)) =
    .ok (.string ⟨#[UInt8.ofNat a.toNat, UInt8.ofNat b.toNat, UInt8.ofNat c.toNat, UInt8.ofNat d.toNat]⟩) (W.alloc (.cells #[.int .u8 a, .int .u8 b, .int .u8 c, .int .u8 d] 5)) :=
  run_convert_bytes_arg (P := Tryd.prog) (W.alloc (.cells #[.int .u8 a, .int .u8 b, .int .u8 c, .int .u8 d] 5)) 31 5 Tryd.underlying31 Tryd.underlying5 W.heap.size 0 4 4 [a, b, c, d] rfl (fun i hi => by
    match i, hi with
    | 0, _ => simp
    | 1, _ => simp
    | 2, _ => simp
    | 3, _ => simp
    | i + 4, hi => omega) 9 Tryd.underlying9

set_option maxRecDepth 100000 in
set_option maxHeartbeats 400000 in
theorem seal_any (s : ByteArray) (hs : s.size ≤ 281474976710656) (w : World) (hT : Tab w) :
    Calls Tryd.prog 10 #[.string s] w fun e w' => e = .returned (.string ⟨(M.le4 (M.sum s.data.toList)).toArray⟩) ∧ Below w.heap.size w w' := by
  have hn := M.sum_lt s.data.toList
  have hcv := conv4
  have hsum := sum_any s hs w hT
  generalize M.sum s.data.toList = n at *
  have HS : Hid _ := hsum
  have E : Hid (#[UInt8.ofNat (n % 256), UInt8.ofNat (n / 256 % 256), UInt8.ofNat (n / 65536 % 256), UInt8.ofNat (n / 16777216)] = (M.le4 n).toArray) := M.le4_last n hn
  clear hsum
  go_enter Tryd.func10, Tryd.ntmps10
  go_wp2_with fail
  refine Calls.mono HS.out ?_
  rintro e w1 ⟨rfl, rfl⟩
  go_wp2_with fail
  go_ret
  exact ⟨congrArg (fun x => Ending.returned (.string ⟨x⟩)) E.out, (Below.refl _ _).alloc (Nat.le_refl _) _⟩

set_option maxRecDepth 100000 in
set_option maxHeartbeats 400000 in
theorem refSeal_any (s : ByteArray) (hs : s.size ≤ 281474976710656) (w : World) :
    Calls Tryd.prog 7 #[.string s] w fun e w' => e = .returned (.string ⟨(M.sealed s.data.toList).toArray⟩) ∧ Below w.heap.size w w' := by
  have hn := M.sum_lt s.data.toList
  have hcv := conv1
  have hsum := refSum_any s hs w
  unfold M.sealed
  have hU := M.upto_zero s.data.toList (M.sum s.data.toList)
  generalize M.sum s.data.toList = n at *
  have HS : Hid _ := hsum
  clear hsum
  have hl : s.data.toList.length ≤ 281474976710656 := by simpa using hs
  have e0 : s = ⟨s.data.toList.toArray⟩ := by simp
  generalize s.data.toList = l at *
  subst e0
  go_enter Tryd.func7, Tryd.ntmps7
  go_wp2_with fail
  refine Calls.mono HS.out ?_
  rintro e w1 ⟨rfl, rfl⟩
  go_wp2_with fail
  go_loopw [0, 3, 4] (fun t x i wr => ∃ k m : Nat, ∃ tt : List UInt8, M.Upto l n k m tt ∧ t = .string ⟨tt.toArray⟩ ∧ x = .int .i64 m ∧ i = .int .i64 k ∧ Below w1.heap.size w1 wr) (fun _ _ i _ => 4 - (intOf i).toNat)
  case atStart => exact ⟨0, n, l, hU, rfl, rfl, rfl, Below.refl _ _⟩
  case round =>
    obtain ⟨k, m, tt, hu, rfl, rfl, rfl, hb⟩ := hrel
    have hm := M.upto_lt hu hn
    have ht := M.upto_len hu
    have hk : k ≤ 4 := hu.1
    by_cases hlt : k < 4
    · have HU : Hid (M.Upto l n (k + 1) (m / 256) (tt ++ [UInt8.ofNat (m % 256)])) := M.upto_step hu hlt
      go_wp2
      go_roundw
      case rel => exact ⟨k + 1, m / 256, _, HU.out, by rw [ByteArray.mk_append_mk], by go_num, by go_num, hb.alloc hb.size _⟩
      case measure => simp [intOf]; omega
    · obtain rfl : k = 4 := by omega
      have E : Hid (tt = l ++ M.le4 n) := M.upto_end hu
      go_wp2
      go_ret
      exact ⟨congrArg (fun x : List UInt8 => Ending.returned (.string ⟨x.toArray⟩)) E.out, hb⟩
end Go.Proofs.YtgcfinmfkpgaaaaDoor
