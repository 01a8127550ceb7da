/-
  Facts on bits, on any program: masks, and sums that share no bit.
-/
import Derived.Laws.BitsLemmas
import Derived.WalkKit
namespace Go.Proofs.Ytgcfinmfkpgaaaa

theorem wraps_i64 (n : Int) (h₀ : 0 ≤ n) (h₁ : n < 2 ^ 63) : IntKind.i64.wrap n = n := by rw [IntKind.wrap_i64]; omega
theorem wraps_u32 (n : Int) (h₀ : 0 ≤ n) (h₁ : n < 2 ^ 32) : IntKind.u32.wrap n = n := by rw [IntKind.wrap_u32]; omega

theorem i64_and127 (x : Int) (h₀ : 0 ≤ x) (h₁ : x < 9223372036854775808) : bits .and .i64 x 127 = x % 128 := bits_mask .i64 63 (by decide) wraps_i64 7 (by decide) x h₀ (by simpa using h₁)
theorem u8_and127 (x : Int) (h₀ : 0 ≤ x) (h₁ : x < 256) : bits .and .u8 x 127 = x % 128 := bits_mask .u8 8 (by decide) wraps_u8 7 (by decide) x h₀ h₁

theorem u8_or_high (x : Int) (h₀ : 0 ≤ x) (h₁ : x < 128) : bits .or .u8 x 128 = x + 128 := by
  obtain ⟨a, rfl⟩ := Int.eq_ofNat_of_zero_le h₀
  have h := (bits_nat .u8 8 (by decide) wraps_u8 a 128 (by omega) (by decide)).2
  have e : a ||| 128 = 128 + a := by rw [Nat.or_comm]; exact (Nat.two_pow_add_eq_or_of_lt (i := 7) (by omega) 1).symm
  rw [e] at h
  have h' : bits .or .u8 (a : Int) 128 = ((128 + a : Nat) : Int) := h
  rw [h']; omega

/-- 'x | y << i', x below 2 to the power i: the sum. -/
theorem i64_or_sum (i : Nat) (x y : Nat) (hx : x < 2 ^ i) (hy : y * 2 ^ i + x < 2 ^ 63) : bits .or .i64 (x : Int) ((y * 2 ^ i : Nat) : Int) = ((x + y * 2 ^ i : Nat) : Int) := by
  have h := (bits_nat .i64 63 (by decide) wraps_i64 x (y * 2 ^ i) (by omega) (by omega)).2
  rw [h, Nat.or_comm, Nat.mul_comm, ← Nat.two_pow_add_eq_or_of_lt hx y]
  omega
end Go.Proofs.Ytgcfinmfkpgaaaa
