import Derived.Test.YtekdenkllipehaaWrite
import Derived.Test.YtekdenkllipehaaBits
namespace Go.Proofs.Ytekdenkllipehaa
open Go.RowKit

/-- The four bytes of a word, as one number. -/
def wordOf (y0 y1 y2 y3 : Nat) : Int := bits BinOp.or .u32 (bits BinOp.or .u32 (bits BinOp.or .u32 (y0 : Int) ((y1 : Int) * 256)) ((y2 : Int) * 65536)) ((y3 : Int) * 16777216)

/-- Where a word is laid, of 2 to the power n places. -/
def slotOf (n : Nat) (s : ByteArray) : Nat := (wordOf ((s.data.toList.getD 0 0).toNat) ((s.data.toList.getD 1 0).toNat) ((s.data.toList.getD 2 0).toNat) ((s.data.toList.getD 3 0).toNat) * 2654435761 % 4294967296 / 2 ^ (32 - n)).toNat

theorem slotOf_lt (n : Nat) (hn : n ≤ 13) (s : ByteArray) : slotOf n s < 2 ^ n := by
  unfold slotOf
  generalize wordOf _ _ _ _ = X
  have h1 : (X * 2654435761 % 4294967296) < 4294967296 := by omega
  have h0 : 0 ≤ (X * 2654435761 % 4294967296) := by omega
  generalize X * 2654435761 % 4294967296 = Y at *
  have hp : (2 : Nat) ^ n * 2 ^ (32 - n) = 4294967296 := by rw [← Nat.pow_add, show n + (32 - n) = 32 by omega]
  obtain ⟨y, rfl⟩ := Int.eq_ofNat_of_zero_le h0
  have e : ((y : Int) / 2 ^ (32 - n)) = ((y / 2 ^ (32 - n) : Nat) : Int) := by push_cast; rfl
  rw [e, Int.toNat_natCast]
  exact Nat.div_lt_of_lt_mul (by rw [Nat.mul_comm, hp]; omega)

theorem getD_at (s : ByteArray) (i : Nat) (h : i < s.size) : s.data.toList.getD i 0 = s[i] := by
  rw [List.getD_eq_getElem?_getD, List.getElem?_eq_getElem (by simpa using h)]; rfl

set_option maxRecDepth 100000 in
set_option maxHeartbeats 400000 in
theorem slot_any (n : Nat) (hn : n ≤ 13) (X : Nat) (s : ByteArray) (h4 : 4 ≤ s.size) (w : World) (hX : w.cell? ⟨X, 1, none⟩ = some (.int .i64 (n : Int))) : Calls Try.prog 85 #[.pointer (some ⟨X, 0, none⟩), .string s] w fun e w' => e = .returned (.int .i64 (slotOf n s : Int)) ∧ Q w w' := by
  have i0 : ∀ W, (Instr.index 9 (.string s) (.int .i64 0)).run Try.prog W = .ok (.int .u8 ((s[0]).toNat : Int)) W := index_str s 0 (by omega)
  have i1 : ∀ W, (Instr.index 9 (.string s) (.int .i64 1)).run Try.prog W = .ok (.int .u8 ((s[1]).toNat : Int)) W := index_str s 1 (by omega)
  have i2 : ∀ W, (Instr.index 9 (.string s) (.int .i64 2)).run Try.prog W = .ok (.int .u8 ((s[2]).toNat : Int)) W := index_str s 2 (by omega)
  have i3 : ∀ W, (Instr.index 9 (.string s) (.int .i64 3)).run Try.prog W = .ok (.int .u8 ((s[3]).toNat : Int)) W := index_str s 3 (by omega)
  have l0 := (s[0]).toNat_lt
  have l1 := (s[1]).toNat_lt
  have l2 := (s[2]).toNat_lt
  have l3 := (s[3]).toNat_lt
  unfold slotOf
  rw [getD_at s 0 (by omega), getD_at s 1 (by omega), getD_at s 2 (by omega), getD_at s 3 (by omega)]
  generalize (s[0]).toNat = y0 at *
  generalize (s[1]).toNat = y1 at *
  generalize (s[2]).toNat = y2 at *
  generalize (s[3]).toNat = y3 at *
  have e : ∀ X : Int, wrap64 (X * 2654435761 % 4294967296 / 2 ^ (32 - n)) = (((X * 2654435761 % 4294967296 / 2 ^ (32 - n)).toNat : Nat) : Int) := fun X => by
    have h1 : (X * 2654435761 % 4294967296) < 4294967296 := by omega
    have h0 : 0 ≤ (X * 2654435761 % 4294967296) := by omega
    generalize X * 2654435761 % 4294967296 = Y at *
    obtain ⟨y, rfl⟩ := Int.eq_ofNat_of_zero_le h0
    have e : ((y : Int) / 2 ^ (32 - n)) = ((y / 2 ^ (32 - n) : Nat) : Int) := by push_cast; rfl
    rw [e, Int.toNat_natCast]
    have hle := Nat.div_le_self y (2 ^ (32 - n))
    generalize y / 2 ^ (32 - n) = z at *
    unfold wrap64
    omega
  have E : Hid _ := e
  clear e
  unfold wordOf
  go_enter Try.func85, Try.ntmps85
  go_wp2_with fail
  go_quiet (fail)
  go_wp2_with fail
  go_ret
  exact ⟨congrArg Ending.returned (congrArg (Value.int IntKind.i64) (E.out _)), (Q.refl w).drewN _⟩

theorem take_snoc_eq {a b : List UInt8} {n : Nat} (h : a.take n = b.take n) (he : a[n]? = b[n]?) : a.take (n + 1) = b.take (n + 1) := by
  rw [List.take_add_one, List.take_add_one, h, he]

set_option maxRecDepth 100000 in
set_option maxHeartbeats 400000 in
theorem sameBegin_any (a b : ByteArray) (ha : a.size ≤ 140737488351232) (hb : b.size ≤ 140737488351232) (w : World) :
    Calls Try.prog 87 #[.string a, .string b] w fun e w' => ∃ n : Nat, e = .returned (.int .i64 (n : Int)) ∧ (n ≤ a.size ∧ n ≤ b.size ∧ a.data.toList.take n = b.data.toList.take n ∧ (a = b → n = a.size)) ∧ Q w w' := by
  have IA : Hid _ := index_str a
  have IB : Hid _ := index_str b
  go_enter Try.func87, Try.ntmps87
  go_wp2_with fail
  go_loopw [5] (fun t wr => ∃ n : Nat, t = .int .i64 (n : Int) ∧ n ≤ a.size ∧ n ≤ b.size ∧ Hid (a.data.toList.take n = b.data.toList.take n) ∧ Q w wr) (fun t _ => a.size - (intOf t).toNat)
  case atStart => exact ⟨0, rfl, Nat.zero_le _, Nat.zero_le _, (by simp : a.data.toList.take 0 = b.data.toList.take 0), Q.refl w⟩
  case round =>
    obtain ⟨n, rfl, hna, hnb, htk, hq⟩ := hrel
    by_cases hlt : n < a.size ∧ n < b.size
    · obtain ⟨h1, h2⟩ := hlt
      have xa := IA.out n h1
      have xb := IB.out n h2
      have hd : decide ((n : Int) < min (a.size : Int) (b.size : Int)) = true := by simp; omega
      have hd2 : (n : Int) < min (a.size : Int) (b.size : Int) := by omega
      have la : a.data.toList[n]? = some a[n] := by rw [List.getElem?_eq_getElem (by simpa using h1)]; rfl
      have lb : b.data.toList[n]? = some b[n] := by rw [List.getElem?_eq_getElem (by simpa using h2)]; rfl
      by_cases heq : a[n] = b[n]
      · have HT : Hid (a.data.toList.take (n + 1) = b.data.toList.take (n + 1)) := take_snoc_eq htk.out (by rw [la, lb, heq])
        have he : (((a[n]).toNat : Int) == ((b[n]).toNat : Int)) = true := by rw [heq]; simp
        generalize (a[n]).toNat = x at *
        generalize (b[n]).toNat = y at *
        clear la lb heq
        go_wp2_with fail
        go_quiet (fail)
        go_wp2_with fail
        go_roundw
        case rel => exact ⟨n + 1, by go_num, by omega, by omega, HT, hq.drewN _⟩
        case measure => simp [intOf]; omega
      · have he : (((a[n]).toNat : Int) == ((b[n]).toNat : Int)) = false := by
          rw [beq_eq_false_iff_ne]
          intro e
          exact heq (UInt8.toNat_inj.1 (by omega))
        have HN : Hid (a = b → n = a.size) := fun e => by subst e; exact absurd rfl heq
        generalize (a[n]).toNat = x at *
        generalize (b[n]).toNat = y at *
        clear la lb heq
        go_wp2_with fail
        go_quiet (fail)
        go_wp2_with fail
        go_ret
        exact ⟨n, rfl, ⟨hna, hnb, htk.out, HN.out⟩, hq.drewN _⟩
    · have hd : decide ((n : Int) < min (a.size : Int) (b.size : Int)) = false := by simp; omega
      have HN : Hid (a = b → n = a.size) := fun e => by subst e; omega
      go_wp2_with fail
      go_quiet (fail)
      go_wp2_with fail
      go_ret
      exact ⟨n, rfl, ⟨hna, hnb, htk.out, HN.out⟩, hq.drewN _⟩
end Go.Proofs.Ytekdenkllipehaa
