import Derived.Test.YtekdenkllipehaaMath
import Derived.Test.YtekdenkllipehaaBits
namespace Go.Proofs.Ytekdenkllipehaa
open Go.RowKit

theorem wrap64_nat (y : Nat) (h : y < 9223372036854775808) : wrap64 (y : Int) = (y : Int) := by unfold wrap64; omega

theorem shift_nat (x k : Nat) : (x : Int) * 2 ^ (7 * k) = ((x * 2 ^ (7 * k) : Nat) : Int) := by rw [Int.natCast_mul, Int.natCast_pow]; rfl

theorem lt63 {a b c : Nat} (h : a + b = c) (hc : c < 72057594037927936) : b + a < 2 ^ 63 := by
  have h63 : (2 : Nat) ^ 63 = 9223372036854775808 := by decide
  rw [h63]; omega

theorem le63 {a b c : Nat} (h : a + b = c) (hc : c < 72057594037927936) : b < 9223372036854775808 := by omega

/-- 'n |= int(b&low) << (7 * i)'. -/
theorem or_step {D : List UInt8} {k : Nat} {b : UInt8} (hb : D[k]? = some b) (hk : k < 8) :
    bits .or .i64 (M.val (D.take k) : Int) (wrap64 (wrap64 (bits .and .u8 (b.toNat : Int) 127) * 2 ^ (7 * k))) = (M.val (D.take (k + 1)) : Int) := by
  have hl : k < D.length := (List.getElem?_eq_some_iff.1 hb).1
  have h1 := M.val_take_lt (D := D) (k := k) (Nat.le_of_lt hl)
  have h2 := M.val_take_small (D := D) (k := k + 1) hl hk
  have h3 := M.val_step hb
  have hb2 := b.toNat_lt
  have e1 : wrap64 (bits .and .u8 (b.toNat : Int) 127) = ((b.toNat % 128 : Nat) : Int) := by
    rw [u8_and127 _ (by omega) (by omega)]; exact wrap64_nat (b.toNat % 128) (by omega)
  rw [e1, shift_nat, wrap64_nat _ (le63 h3.symm h2), i64_or_sum (7 * k) _ _ h1 (lt63 h3.symm h2), h3]

/-- The reference's 'unit' behind k rounds. -/
def unit (k : Nat) : Nat := 128 ^ k

theorem unit_zero : unit 0 = 1 := rfl

theorem unit_step (k : Nat) (hk : k < 8) : wrap64 ((unit k : Int) * 128) = (unit (k + 1) : Int) := by
  have h : unit (k + 1) = unit k * 128 := Nat.pow_succ ..
  have h2 : unit (k + 1) ≤ 128 ^ 8 := Nat.pow_le_pow_right (by omega) (by omega)
  have e8 : (128 : Nat) ^ 8 = 72057594037927936 := by decide
  rw [h, show ((unit k * 128 : Nat) : Int) = (unit k : Int) * 128 by rw [Int.natCast_mul]; rfl]
  unfold wrap64; omega

theorem ref_step {D : List UInt8} {k : Nat} {b : UInt8} (hb : D[k]? = some b) (hk : k < 8) :
    wrap64 ((M.val (D.take k) : Int) + wrap64 ((b.toNat : Int) % 128 * (unit k : Int))) = (M.val (D.take (k + 1)) : Int) := by
  have hl : k < D.length := (List.getElem?_eq_some_iff.1 hb).1
  have h2 := M.val_take_small (D := D) (k := k + 1) hl hk
  have h3 := M.val_step hb
  have e : (b.toNat : Int) % 128 * (unit k : Int) = ((b.toNat % 128 * 2 ^ (7 * k) : Nat) : Int) := by
    rw [Int.natCast_mul, show unit k = 2 ^ (7 * k) by unfold unit; rw [Nat.pow_mul]]; rfl
  rw [e, wrap64_nat _ (le63 h3.symm h2), ← Int.natCast_add, ← h3, wrap64_nat _ (by omega)]
end Go.Proofs.Ytekdenkllipehaa
