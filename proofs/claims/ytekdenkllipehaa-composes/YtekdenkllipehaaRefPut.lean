import Derived.Test.YtekdenkllipehaaRows
import Derived.Test.YtekdenkllipehaaMath
import Derived.Test.YtekdenkllipehaaKeep
import Derived.Test.YtekdenkllipehaaConv
namespace Go.Proofs.Ytekdenkllipehaa
open Go.RowKit

theorem refPut_end {l acc : List UInt8} {f m : Nat} (hr : M.Rest l f m acc) (hm : m < 128) : Ending.returned (.tuple #[.string ((⟨acc.toArray⟩ : ByteArray) ++ ⟨#[UInt8.ofNat m]⟩), .int .i64 0]) = .returned (.tuple #[.string ⟨l.toArray⟩, .int .i64 0]) := by
  rw [← M.rest_small hr hm, ByteArray.mk_append_mk]

theorem refPut_step (acc : List UInt8) (m : Nat) : Value.string ((⟨acc.toArray⟩ : ByteArray) ++ ⟨#[UInt8.ofNat (m % 128) + 128]⟩) = .string ⟨(acc ++ [UInt8.ofNat (m % 128 + 128)]).toArray⟩ := by
  rw [ByteArray.mk_append_mk, show UInt8.ofNat (m % 128 + 128) = UInt8.ofNat (m % 128) + 128 by simp]

set_option maxRecDepth 100000 in
set_option maxHeartbeats 400000 in
theorem refPut_yes (n : Nat) (hn : n < 72057594037927936) (w : World) :
    Calls Try.prog 10 #[.int .i64 n] w fun e w' => e = .returned (.tuple #[.string ⟨(M.enc 7 n).toArray⟩, .int .i64 0]) ∧ Q w w' := by
  have hs := M.rest_start n hn
  generalize M.enc 7 n = l at *
  have hcv := conv1
  go_enter Try.func10, Try.ntmps10
  go_wp2
  go_loopw [0, 4] (fun x s wr => ∃ f m : Nat, ∃ acc : List UInt8, M.Rest l f m acc ∧ x = .int .i64 m ∧ s = .string ⟨acc.toArray⟩ ∧ Q w wr) (fun x _ _ => (intOf x).toNat)
  case atStart => exact ⟨7, n, [], hs, rfl, rfl, Q.refl _⟩
  case round =>
    obtain ⟨f, m, acc, hr, rfl, rfl, hq⟩ := hrel
    have hm := M.rest_lt hr
    have hl := M.rest_len hr
    by_cases hlt : m < 128
    · go_wp2
      go_ret2
      exact ⟨refPut_end hr hlt, hq.alloc _ _⟩
    · obtain ⟨g, HG⟩ : ∃ g, Hid (M.Rest l g (m / 128) (acc ++ [UInt8.ofNat (m % 128 + 128)])) := by obtain ⟨g, _, h⟩ := M.rest_big hr hlt; exact ⟨g, h⟩
      go_wp2
      go_roundw
      case rel => exact ⟨g, m / 128, _, HG.out, by go_num, refPut_step acc m, hq.alloc _ _⟩
      case measure => simp [intOf]; omega

set_option maxRecDepth 100000 in
theorem refPut_no (n : Int) (hn : n < 0 ∨ 72057594037927936 ≤ n) (w : World) :
    Calls Try.prog 10 #[.int .i64 n] w fun e w' => e = .returned (.tuple #[.string ⟨#[]⟩, .int .i64 1]) ∧ w' = w := by
  rcases hn with hn | hn
  · go_enter Try.func10, Try.ntmps10
    go_wp2
    go_ret2
    exact ⟨rfl, rfl⟩
  · have h0 : ¬ n < 0 := by omega
    go_enter Try.func10, Try.ntmps10
    go_wp2
    go_ret2
    exact ⟨rfl, rfl⟩
end Go.Proofs.Ytekdenkllipehaa
