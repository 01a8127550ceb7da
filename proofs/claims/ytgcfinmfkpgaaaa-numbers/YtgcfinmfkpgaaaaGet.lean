import Derived.Test.YtgcfinmfkpgaaaaRows
import Derived.Test.YtgcfinmfkpgaaaaMath
import Derived.Test.YtgcfinmfkpgaaaaKeep
import Derived.Test.YtgcfinmfkpgaaaaBits
import Derived.Test.YtgcfinmfkpgaaaaStep
namespace Go.Proofs.Ytgcfinmfkpgaaaa
open Go.RowKit

set_option maxRecDepth 100000 in
theorem get_out (s : ByteArray) (a : Int) (hs : s.size ≤ maxLen) (ha : a < 0 ∨ (s.size : Int) ≤ a) (w : World) :
    Calls Try.prog 6 #[.string s, .int .i64 a] w fun e w' => e = .returned (.tuple #[.int .i64 0, .int .i64 0, .int .i64 2]) ∧ w' = w := by
  unfold maxLen at hs
  rcases ha with ha | ha
  · go_enter Try.func6, Try.ntmps6
    go_wp2
    go_ret3
    exact ⟨rfl, rfl⟩
  · have h0 : ¬ a < 0 := by omega
    go_enter Try.func6, Try.ntmps6
    go_wp2
    go_ret3
    exact ⟨rfl, rfl⟩

/-- What a reading answers. -/
def told (o : Option (Nat × Nat)) (a : Nat) : Ending :=
  match o with
  | none => .returned (.tuple #[.int .i64 0, .int .i64 0, .int .i64 2])
  | some (v, k) => .returned (.tuple #[.int .i64 v, .int .i64 ((a + k : Nat) : Int), .int .i64 0])

theorem told_none {D : List UInt8} {a : Nat} (h : M.rd 8 [] D = none) : Ending.returned (.tuple #[.int .i64 0, .int .i64 0, .int .i64 2]) = told (M.rd 8 [] D) a := by rw [h]; rfl

theorem told_hit {D : List UInt8} {k a : Nat} {b : UInt8} {x y : Int} (hF : M.Far D k) (hk : k < 8) (hb : D[k]? = some b) (h1 : b.toNat < 128) (h0 : ¬ b.toNat = 0 ∨ ¬ 0 < k) (hx : x = (M.val (D.take (k + 1)) : Int)) (hy : y = (a : Int) + (k : Int) + 1) :
    Ending.returned (.tuple #[.int .i64 x, .int .i64 y, .int .i64 0]) = told (M.rd 8 [] D) a := by
  subst hx hy
  rw [M.rd_hit hF hk hb h1 (by
    rcases h0 with h0 | h0
    · left; rintro rfl; exact h0 rfl
    · right; omega)]
  show _ = Ending.returned (.tuple #[.int .i64 _, .int .i64 ((a + (k + 1) : Nat) : Int), .int .i64 0])
  rw [show (a : Int) + (k : Int) + 1 = ((a + (k + 1) : Nat) : Int) by omega]

theorem byteAt (s : ByteArray) (a k : Nat) (h : a + k < s.size) : (s.data.toList.drop a)[k]? = some s[a + k] := by
  rw [List.getElem?_drop, List.getElem?_eq_getElem (by simpa using h)]; rfl

set_option maxRecDepth 100000 in
set_option maxHeartbeats 400000 in
theorem get_in (s : ByteArray) (a : Nat) (hs : s.size ≤ maxLen) (ha : a < s.size) (w : World) :
    Calls Try.prog 6 #[.string s, .int .i64 a] w fun e w' => e = told (M.rd 8 [] (s.data.toList.drop a)) a ∧ w' = w := by
  unfold maxLen at hs
  have hD : (s.data.toList.drop a).length = s.size - a := by simp
  have hB := byteAt s a
  generalize s.data.toList.drop a = D at *
  have HD : Hid (D.length = s.size - a) := hD
  have HB : Hid (∀ (k : Nat) (h : a + k < s.size), D[k]? = some s[a + k]) := hB
  clear hD hB
  go_enter Try.func6, Try.ntmps6
  go_wp2
  all_goals
    go_loop [7, 23] (fun n i => ∃ k : Nat, M.Far D k ∧ i = .int .i64 k ∧ n = .int .i64 (M.val (D.take k))) (fun _ i => 8 - (intOf i).toNat)
    case atStart => exact ⟨0, M.far_zero D, rfl, rfl⟩
    case round =>
      obtain ⟨k, hF, rfl, rfl⟩ := hrel
      have hk8 : k ≤ 8 := hF.1
      have hkl : k ≤ s.size - a := by have := hF.2.1; rw [HD.out] at this; exact this
      by_cases hk : k < 8 ∧ a + k < s.size
      · obtain ⟨h3, h4⟩ := hk
        have hv := M.val_take_small hF.2.1 hk8
        go_wp2
        · go_round
          case rel =>
            have g1 : (128 : Int) ≤ (s[a + k].toNat : Int) := by assumption
            exact ⟨k + 1, M.far_step hF h3 (HB.out k h4) (Int.ofNat_le.1 g1), by go_num, congrArg (Value.int .i64) (or_step (HB.out k h4) h3)⟩
          case measure => simp [intOf]; omega
        · have g1 : s[a + k].toNat = 0 := by assumption
          have g2 : 0 < k := by assumption
          have E := told_none (a := a) (M.rd_nil hF h3 (HB.out k h4) (UInt8.toNat_inj.1 g1) g2)
          go_ret3
          exact ⟨E, rfl⟩
        · have g1 : (s[a + k].toNat : Int) < 128 := by assumption
          have g2 : ¬ 0 < k := by assumption
          have g0 : s[a + k].toNat = 0 := by assumption
          have E := told_hit (a := a) hF h3 (HB.out k h4) (Int.ofNat_lt.1 g1) (Or.inr g2) (or_step (HB.out k h4) h3) rfl
          rw [show (s[a + k].toNat : Int) = 0 by rw [g0]; rfl] at E
          go_ret3
          exact ⟨E, rfl⟩
        · have g1 : (s[a + k].toNat : Int) < 128 := by assumption
          have g2 : ¬ s[a + k].toNat = 0 := by assumption
          have E := told_hit (a := a) hF h3 (HB.out k h4) (Int.ofNat_lt.1 g1) (Or.inl g2) (or_step (HB.out k h4) h3) rfl
          go_ret3
          exact ⟨E, rfl⟩
      · have E := told_none (a := a) (M.rd_stop hF (by rw [HD.out]; omega))
        go_wp2
        go_ret3
        exact ⟨E, rfl⟩
end Go.Proofs.Ytgcfinmfkpgaaaa
