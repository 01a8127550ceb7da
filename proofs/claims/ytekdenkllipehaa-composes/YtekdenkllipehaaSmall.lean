import Derived.Test.YtekdenkllipehaaStMem
import Derived.Test.YtekdenkllipehaaTNum
namespace Go.Proofs.Ytekdenkllipehaa
open Go.RowKit

set_option maxRecDepth 100000 in
theorem puts_yes (s : M.St) (h : s.put.size ≠ 0) (w : World) :
    Calls Try.prog 26 #[s.val] w fun e w' => e = .returned (.bool true) ∧ Q w w' := by
  obtain ⟨put, place, size⟩ := s
  simp only [M.St.val]
  have hne : (put.toList == []) = false := by
    rw [ByteArray.toList_eq, beq_eq_false_iff_ne]
    intro e
    exact h (by simpa using congrArg List.length e)
  go_enter Try.func26, Try.ntmps26
  go_wp2_with fail
  go_ret
  exact ⟨by simp_all, (Q.refl w).alloc _ _⟩

set_option maxRecDepth 100000 in
theorem puts_no (s : M.St) (h : s.put.size = 0) (w : World) :
    Calls Try.prog 26 #[s.val] w fun e w' => e = .returned (.bool false) ∧ Q w w' := by
  obtain ⟨put, place, size⟩ := s
  simp only [M.St.val]
  have hne : (put.toList == []) = true := by
    rw [ByteArray.toList_eq, beq_iff_eq]
    exact List.eq_nil_of_length_eq_zero (by simpa using h)
  go_enter Try.func26, Try.ntmps26
  go_wp2_with fail
  go_ret
  exact ⟨by simp_all, (Q.refl w).alloc _ _⟩

/-- Is something put? -/
def isPut (b : ByteArray) : Bool := decide (b.size ≠ 0)
theorem isPut_no {b : ByteArray} : isPut b = false ↔ b.size = 0 := by simp [isPut]
theorem isPut_yes {b : ByteArray} : isPut b = true ↔ b.size ≠ 0 := by simp [isPut]

/-- puts, whatever step. -/
theorem puts_gen (put : ByteArray) (p n : Nat) (w : World) :
    Calls Try.prog 26 #[.agg #[.string put, .int .i64 (p : Int), .int .i64 (n : Int)]] w fun e w' => e = .returned (.bool (isPut put)) ∧ Q w w' := by
  by_cases h : put.size = 0
  · have := puts_no ⟨put, p, n⟩ h w
    rw [isPut_no.2 h]; exact this
  · have := puts_yes ⟨put, p, n⟩ h w
    rw [isPut_yes.2 h]; exact this

set_option maxRecDepth 100000 in
theorem takeStep_any (p n : Int) (w : World) :
    Calls Try.prog 56 #[.int .i64 p, .int .i64 n] w fun e w' => e = .returned (.agg #[.string ⟨#[]⟩, .int .i64 p, .int .i64 n]) ∧ Q w w' := by
  go_enter Try.func56, Try.ntmps56
  go_wp2_with fail
  refine bodyPost_ret (v := .agg #[.string ⟨#[]⟩, .int .i64 p, .int .i64 n]) (by simp [results, Try.results56, go_sem]) rfl ?_
  exact ⟨rfl, (Q.refl w).alloc _ _⟩

set_option maxRecDepth 100000 in
theorem putStep_any (s : ByteArray) (w : World) :
    Calls Try.prog 55 #[.string s] w fun e w' => e = .returned (.agg #[.string s, .int .i64 0, .int .i64 s.size]) ∧ Q w w' := by
  go_enter Try.func55, Try.ntmps55
  go_wp2_with fail
  refine bodyPost_ret (v := .agg #[.string s, .int .i64 0, .int .i64 s.size]) (by simp [results, Try.results55, go_sem]) rfl ?_
  exact ⟨rfl, (Q.refl w).alloc _ _⟩
end Go.Proofs.Ytekdenkllipehaa
