import Derived.Test.YtekdenkllipehaaDoorPut
import Derived.Test.YtekdenkllipehaaDoorGet
import Derived.Test.YtekdenkllipehaaDoorOwn
import Derived.Test.YtekdenkllipehaaDoorDrawn
import Derived.Laws.MakeOwn
import Derived.Lib.Strings
import Derived.Lib.Hide
import Derived.Test.YtekdenkllipehaaDoorChg
import Derived.Test.YtekdenkllipehaaDoorCat
/-
  Numbers as texts, and texts in a row (package texts), where no change is spoken of.
-/
namespace Go.Proofs.YtekdenkllipehaaDoor
open Go.RowKit

/-- A piece of a text. -/
theorem cut_str (s : ByteArray) (p n : Nat) (h : p + n ≤ s.size) (W : World) :
    (Instr.slice 9 (.string s) (some (.int .i64 (p : Int))) (some (.int .i64 ((p : Int) + (n : Int)))) none).run Tryd.prog W = .ok (.string (s.extract p (p + n))) W := by
  rw [run_slice_string W 9 s .i64 .i64 _ _ Tryd.underlying9 (by omega) (by omega) (by omega)]
  rw [show ((p : Int) + (n : Int)).toNat = p + n by omega, Int.toNat_natCast]

set_option maxRecDepth 100000 in
theorem number_any (n : Nat) (hn : n < 72057594037927936) (w : World) :
    Calls Tryd.prog 35 #[.int .i64 n] w fun e w' => e = .returned (.string ⟨(M.enc 7 n).toArray⟩) ∧ Q w w' := by
  have p := put_yes n hn
  generalize M.enc 7 n = l at *
  have P : Hid _ := p
  clear p
  go_enter Tryd.func35, Tryd.ntmps35
  go_wp2_with fail
  refine (P.out _).mono ?_
  rintro e w1 ⟨rfl, q1⟩
  go_wp2_with fail
  go_ret
  exact ⟨rfl, q1⟩

/-- A number, whatever it is. -/
theorem number_int (n : Int) (hn : 0 ≤ n ∧ n < 72057594037927936) (w : World) :
    Calls Tryd.prog 35 #[.int .i64 n] w fun e w' => e = .returned (.string ⟨(M.enc 7 n.toNat).toArray⟩) ∧ Q w w' := by
  have := number_any n.toNat (by omega) w
  rw [Int.toNat_of_nonneg hn.1] at this
  exact this

/-- A byte of a text. -/
theorem index_str (s : ByteArray) (i : Nat) (h : i < s.size) (W : World) :
    (Instr.index 9 (.string s) (.int .i64 (i : Int))).run Tryd.prog W = .ok (.int .u8 ((s[i]).toNat : Int)) W := by
  rw [run_index_string W 9 s .i64 (i : Int) Tryd.underlying9]
  simp [h]
end Go.Proofs.YtekdenkllipehaaDoor

/-
  The landed Get, by what stands at the place.
-/
namespace Go.Proofs.YtekdenkllipehaaDoor
open Go.RowKit

theorem get_none (s : ByteArray) (a : Nat) (hs : s.size ≤ 140737488351232) (h : M.getAt s.data.toList a = none) (w : World) :
    Calls Tryd.prog 49 #[.string s, .int .i64 a] w fun e w' => e = .returned (.tuple #[.int .i64 0, .int .i64 0, .int .i64 2]) ∧ w' = w := by
  by_cases ha : a < s.size
  · unfold M.getAt at h
    rw [if_pos (by simpa using ha)] at h
    have h1 := get_in s a (by unfold maxLen; omega) ha w
    cases hr : M.rd 8 [] (s.data.toList.drop a) with
    | none => rw [hr] at h1; exact h1
    | some p => rw [hr] at h; simp at h
  · exact get_out s a (by unfold maxLen; omega) (Or.inr (by omega)) w

theorem get_some (s : ByteArray) (a v nx : Nat) (hs : s.size ≤ 140737488351232) (h : M.getAt s.data.toList a = some (v, nx)) (w : World) :
    Calls Tryd.prog 49 #[.string s, .int .i64 a] w fun e w' => e = .returned (.tuple #[.int .i64 v, .int .i64 nx, .int .i64 0]) ∧ w' = w := by
  have ha : a < s.size := by simpa using (M.getAt_bound h).2.2.2
  unfold M.getAt at h
  rw [if_pos (by simpa using ha)] at h
  have h1 := get_in s a (by unfold maxLen; omega) ha w
  cases hr : M.rd 8 [] (s.data.toList.drop a) with
  | none => rw [hr] at h; simp at h
  | some p =>
    obtain ⟨v', k⟩ := p
    rw [hr] at h h1
    simp only [Option.some.injEq, Prod.mk.injEq] at h
    obtain ⟨rfl, rfl⟩ := h
    exact h1
end Go.Proofs.YtekdenkllipehaaDoor
