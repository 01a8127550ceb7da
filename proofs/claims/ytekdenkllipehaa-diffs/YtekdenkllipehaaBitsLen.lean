/-
  How many bits a number has (package math/bits): Len, for numbers as great as a text that Diff takes.
-/
import Derived.Test.YtekdenkllipehaaKeep
import Derived.Test.YtekdenkllipehaaProg
import Derived.Lib.Strings
import Derived.Lib.Slices
import Derived.Lib.Small
import Derived.Lib.Walk
import Derived.Lib.BitFns
namespace Go.Proofs.Ytekdenkllipehaa
open Go.RowKit

theorem len8_size : (Lib.len8tab.size : Int) = 256 := by decide +kernel
theorem len8_small : ∀ i : Fin 256, ((Lib.len8tab.data.toList[i.1]?).getD 0).toNat ≤ 8 := by decide +kernel
theorem len8_tiny : ∀ i : Fin 17, ((Lib.len8tab.data.toList[i.1]?).getD 0).toNat ≤ 5 := by decide +kernel

theorem len8_get (i : Nat) (h : i < Lib.len8tab.size) : (Lib.len8tab[i]).toNat = ((Lib.len8tab.data.toList[i]?).getD 0).toNat := by
  rw [List.getElem?_eq_getElem (by simpa using h)]
  rfl

/-- The bits of a number: at most thirteen. -/
def LenSaid (w : World) (e : Ending) (w' : World) : Prop := (∃ k : Nat, e = .returned (.int .i64 (k : Int)) ∧ k ≤ 13) ∧ w' = w

set_option maxHeartbeats 4000000 in
set_option maxRecDepth 100000 in
theorem len64_low (x : Int) (w : World) (h0 : 0 ≤ x) (h1 : x < 256) : Calls Try.prog 107 #[.int .u64 x] w (LenSaid w) := by
  have hs := len8_size
  go_enter Try.func107, Try.ntmps107
  go_wp2
  go_ret
  have hl := len8_small ⟨x.toNat, by omega⟩
  rw [← len8_get x.toNat (by omega)] at hl
  refine ⟨⟨(Lib.len8tab[x.toNat]).toNat, congrArg Ending.returned (congrArg (Value.int IntKind.i64) ?_), by omega⟩, rfl⟩
  unfold wrap64
  omega

set_option maxHeartbeats 4000000 in
set_option maxRecDepth 100000 in
theorem len64_high (x : Int) (w : World) (h0 : 256 ≤ x) (h1 : x ≤ 4096) : Calls Try.prog 107 #[.int .u64 x] w (LenSaid w) := by
  have hs := len8_size
  go_enter Try.func107, Try.ntmps107
  go_wp2
  go_ret
  have hl := len8_tiny ⟨(x / 256).toNat, by omega⟩
  rw [← len8_get (x / 256).toNat (by omega)] at hl
  refine ⟨⟨8 + (Lib.len8tab[(x / 256).toNat]).toNat, congrArg Ending.returned (congrArg (Value.int IntKind.i64) ?_), by omega⟩, rfl⟩
  unfold wrap64
  omega

set_option maxRecDepth 100000 in
theorem bitsLen_any (n : Nat) (hn : n ≤ 4096) (w : World) : Calls Try.prog 84 #[.int .u64 (n : Int)] w (LenSaid w) := by
  have H : Hid (∀ w : World, Calls Try.prog 107 #[.int .u64 (n : Int)] w (LenSaid w)) := fun w => by
    by_cases h : n < 256
    · exact len64_low n w (by omega) (by omega)
    · exact len64_high n w (by omega) (by omega)
  go_enter Try.func84, Try.ntmps84
  go_wp2_with fail
  refine (H.out _).mono ?_
  rintro e w1 ⟨⟨k, rfl, hk⟩, rfl⟩
  go_wp2_with fail
  go_ret
  exact ⟨⟨k, rfl, hk⟩, rfl⟩
end Go.Proofs.Ytekdenkllipehaa
