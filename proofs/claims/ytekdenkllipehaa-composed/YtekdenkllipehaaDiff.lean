import Derived.Test.YtekdenkllipehaaFind
import Derived.Test.YtekdenkllipehaaApply
namespace Go.Proofs.Ytekdenkllipehaa
open Go.RowKit

set_option maxRecDepth 100000 in
set_option maxHeartbeats 400000 in
theorem diff_long (b t : ByteArray) (hb : b.size ≤ 140737488351232) (ht : t.size ≤ 140737488351232) (h : 4096 < b.size ∨ 4096 < t.size) (w : World) :
    Calls Try.prog 20 #[.string b, .string t] w fun e w' => e = .returned (.tuple #[.string ⟨#[]⟩, .int .i64 4]) ∧ Q w w' := by
  by_cases h1 : 4096 < b.size
  · have t1 : decide ((4096 : Int) < (b.size : Int)) = true := by simp; omega
    have t2 : (4096 : Int) < (b.size : Int) := by omega
    go_enter Try.func20, Try.ntmps20
    go_wp2_with fail
    go_ret2
    exact ⟨rfl, Q.refl w⟩
  · have h2 : 4096 < t.size := by omega
    have t1 : decide ((4096 : Int) < (b.size : Int)) = false := by simp; omega
    have t2 : decide ((4096 : Int) < (t.size : Int)) = true := by simp; omega
    have t3 : (4096 : Int) < (t.size : Int) := by omega
    go_enter Try.func20, Try.ntmps20
    go_wp2_with fail
    go_ret2
    exact ⟨rfl, Q.refl w⟩

/-- What Diff answers: the text of a change that makes the target of the base, no longer than it may be. -/
def DiffOf (b t C : ByteArray) : Prop := ∃ acc : List Nat, C.size ≤ t.size + 8 ∧ (b = t → C.size ≤ 8) ∧ M.parse C.data.toList = some (t.size, acc) ∧ M.reach acc ≤ b.size ∧ M.made acc b.data.toList = t.data.toList

theorem diffOf {b t C : ByteArray} {L : List M.St} (ht : t.size ≤ 4096) (hF : FindSaid b t L) (hW : WriteSaid L C) : DiffOf b t C := by
  obtain ⟨h1, h2, h3⟩ := hF
  have hto := h1.tot
  obtain ⟨p1, p2⟩ := hW.parse h1.good (by omega)
  refine ⟨M.flat L, by omega, fun e => by have := h3 e; omega, by rw [p1, hto], h1.reach, ?_⟩
  rw [h1.made]
  exact List.take_of_length_le (by simp)

set_option maxRecDepth 100000 in
set_option maxHeartbeats 400000 in
theorem diff_any (b t : ByteArray) (hb : b.size ≤ 4096) (ht : t.size ≤ 4096) (w : World) :
    Calls Try.prog 20 #[.string b, .string t] w fun e w' => ∃ C : ByteArray, DiffOf b t C ∧ e = .returned (.tuple #[.string C, .int .i64 0]) ∧ Q w w' := by
  have FC : Hid _ := find_any b t hb ht
  have t1 : decide ((4096 : Int) < (b.size : Int)) = false := by simp; omega
  have t2 : decide ((4096 : Int) < (t.size : Int)) = false := by simp; omega
  have HD : Hid _ := fun (C : ByteArray) (L : List M.St) (hF : FindSaid b t L) (hW : WriteSaid L C) => diffOf ht hF hW
  have HW : Hid _ := fun (L : List M.St) (ao : Option Addr) (cap : Nat) (w' : World) (hF : FindSaid b t L) (hs : Steps w' ao L) (hc : L.length ≤ cap) => write_any L ao cap w' hs (by rw [hF.1.tot]; exact ht) hF.1.good hc
  go_enter Try.func20, Try.ntmps20
  go_wp2_with fail
  refine (FC.out _).mono ?_
  rintro e w1 ⟨L, ao, cap, rfl, ⟨hF, hs, hc⟩, q1⟩
  go_wp2_with fail
  refine (HW.out L ao cap w1 hF hs hc).mono ?_
  rintro e w2 ⟨C, hWr, rfl, q2⟩
  go_wp2_with fail
  go_ret2
  exact ⟨C, HD.out C L hF hWr, rfl, q1.trans q2⟩
end Go.Proofs.Ytekdenkllipehaa
