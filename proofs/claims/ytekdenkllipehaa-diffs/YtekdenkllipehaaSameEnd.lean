import Derived.Test.YtekdenkllipehaaRead
import Derived.Test.YtekdenkllipehaaSlot
import Derived.Test.YtekdenkllipehaaWrite
import Derived.Test.YtekdenkllipehaaTNum
namespace Go.Proofs.Ytekdenkllipehaa
open Go.RowKit

theorem drop_cons_eq {a b : List UInt8} {n : Nat} (ha : n < a.length) (hb : n < b.length) (h : a.drop (a.length - n) = b.drop (b.length - n)) (he : a[a.length - 1 - n]? = b[b.length - 1 - n]?) : a.drop (a.length - (n + 1)) = b.drop (b.length - (n + 1)) := by
  have e1 : a.length - (n + 1) = a.length - 1 - n := by omega
  have e2 : b.length - (n + 1) = b.length - 1 - n := by omega
  have d1 : a.drop (a.length - 1 - n) = a[a.length - 1 - n]'(by omega) :: a.drop (a.length - n) := by rw [List.drop_eq_getElem_cons (by omega)]; congr 2; omega
  have d2 : b.drop (b.length - 1 - n) = b[b.length - 1 - n]'(by omega) :: b.drop (b.length - n) := by rw [List.drop_eq_getElem_cons (by omega)]; congr 2; omega
  rw [List.getElem?_eq_getElem (by omega), List.getElem?_eq_getElem (by omega), Option.some.injEq] at he
  rw [e1, e2, d1, d2, h, he]

set_option maxRecDepth 100000 in
set_option maxHeartbeats 400000 in
theorem sameEnd_any (a b : ByteArray) (ha : a.size ≤ 140737488351232) (hb : b.size ≤ 140737488351232) (w : World) :
    Calls Try.prog 86 #[.string a, .string b] w fun e w' => ∃ n : Nat, e = .returned (.int .i64 (n : Int)) ∧ (n ≤ a.size ∧ n ≤ b.size ∧ a.data.toList.drop (a.size - n) = b.data.toList.drop (b.size - n)) ∧ Q w w' := by
  have IA : Hid _ := index_str a
  have IB : Hid _ := index_str b
  have lla : a.data.toList.length = a.size := by simp
  have llb : b.data.toList.length = b.size := by simp
  have HA : Hid _ := lla
  have HB : Hid _ := llb
  have H0 : Hid (a.data.toList.drop (a.size - 0) = b.data.toList.drop (b.size - 0)) := by
    rw [List.drop_of_length_le (by omega), List.drop_of_length_le (by omega)]; exact rfl
  clear lla llb
  go_enter Try.func86, Try.ntmps86
  go_wp2_with fail
  go_loopw [5] (fun t wr => ∃ n : Nat, t = .int .i64 (n : Int) ∧ n ≤ a.size ∧ n ≤ b.size ∧ Hid (a.data.toList.drop (a.size - n) = b.data.toList.drop (b.size - n)) ∧ Q w wr) (fun t _ => a.size - (intOf t).toNat)
  case atStart => exact ⟨0, rfl, Nat.zero_le _, Nat.zero_le _, H0, Q.refl w⟩
  case round =>
    obtain ⟨n, rfl, hna, hnb, htk, hq⟩ := hrel
    by_cases hlt : n < a.size ∧ n < b.size
    · obtain ⟨h1, h2⟩ := hlt
      obtain ⟨i, hi⟩ : ∃ i, i = a.size - 1 - n := ⟨_, rfl⟩
      obtain ⟨j, hj⟩ : ∃ j, j = b.size - 1 - n := ⟨_, rfl⟩
      have hil : i < a.size := by omega
      have hjl : j < b.size := by omega
      have xa := IA.out i hil
      have xb := IB.out j hjl
      have u1 : IntKind.i64.wrap ((a.size : Int) - 1) = (a.size : Int) - 1 := by rw [IntKind.wrap_i64]; omega
      have u2 : IntKind.i64.wrap ((b.size : Int) - 1) = (b.size : Int) - 1 := by rw [IntKind.wrap_i64]; omega
      have u3 : IntKind.i64.wrap ((a.size : Int) - 1 - (n : Int)) = (i : Int) := by rw [IntKind.wrap_i64]; omega
      have u4 : IntKind.i64.wrap ((b.size : Int) - 1 - (n : Int)) = (j : Int) := by rw [IntKind.wrap_i64]; omega
      have hd : decide ((n : Int) < min (a.size : Int) (b.size : Int)) = true := by simp; omega
      have hd2 : (n : Int) < min (a.size : Int) (b.size : Int) := by omega
      have la : a.data.toList[i]? = some a[i] := by rw [List.getElem?_eq_getElem (by simpa using hil)]; rfl
      have lb : b.data.toList[j]? = some b[j] := by rw [List.getElem?_eq_getElem (by simpa using hjl)]; rfl
      by_cases heq : a[i] = b[j]
      · have HT : Hid (a.data.toList.drop (a.size - (n + 1)) = b.data.toList.drop (b.size - (n + 1))) := by
          have := drop_cons_eq (a := a.data.toList) (b := b.data.toList) (n := n) (by rw [HA.out]; exact h1) (by rw [HB.out]; exact h2) (by rw [HA.out, HB.out]; exact htk.out) (by rw [HA.out, HB.out, ← hi, ← hj, la, lb, heq])
          rw [HA.out, HB.out] at this
          exact this
        have he : (((a[i]).toNat : Int) == ((b[j]).toNat : Int)) = true := by rw [heq]; simp
        generalize (a[i]).toNat = x at *
        generalize (b[j]).toNat = y at *
        clear la lb heq hi hj
        go_wp2_with fail
        go_quiet (fail)
        go_wp2_with fail
        go_roundw
        case rel => exact ⟨n + 1, by go_num, by omega, by omega, HT, hq.drewN _⟩
        case measure => simp [intOf]; omega
      · have he : (((a[i]).toNat : Int) == ((b[j]).toNat : Int)) = false := by
          rw [beq_eq_false_iff_ne]
          intro e
          exact heq (UInt8.toNat_inj.1 (by omega))
        generalize (a[i]).toNat = x at *
        generalize (b[j]).toNat = y at *
        clear la lb heq hi hj
        go_wp2_with fail
        go_quiet (fail)
        go_wp2_with fail
        go_ret
        exact ⟨n, rfl, ⟨hna, hnb, htk.out⟩, hq.drewN _⟩
    · have hd : decide ((n : Int) < min (a.size : Int) (b.size : Int)) = false := by simp; omega
      go_wp2_with fail
      go_quiet (fail)
      go_wp2_with fail
      go_ret
      exact ⟨n, rfl, ⟨hna, hnb, htk.out⟩, hq.drewN _⟩

/-- The step that puts a text, or none. -/
def putsOf (s : ByteArray) : List M.St := if s.size = 0 then [] else [⟨s, 0, s.size⟩]

theorem steps_built (w : World) (s : M.St) (t : TypeId) : Steps (w.alloc (.cells #[.string s.put, .int .i64 (s.place : Int), .int .i64 (s.size : Int)] t)) (some ⟨w.heap.size, 0, none⟩) [s] :=
  Or.inr ⟨w.heap.size, 0, rfl, by simp, StAt.of_cells fun j u hu => by
    rw [cellsOf_one] at hu
    have := cells_at w s t j u hu
    have hx : (⟨w.heap.size, 0, none⟩ : Addr).add j = ⟨w.heap.size, 0 + j, none⟩ := by unfold Addr.add; split <;> simp_all
    rw [hx] at this
    exact this⟩

set_option maxRecDepth 100000 in
set_option maxHeartbeats 400000 in
theorem putSteps_any (s : ByteArray) (w : World) :
    Calls Try.prog 54 #[.string s] w fun e w' => ∃ (ao : Option Addr) (cap : Nat), e = .returned (.slice ao (putsOf s).length cap) ∧ (Steps w' ao (putsOf s) ∧ (putsOf s = [] → ao = none ∧ cap = 0)) ∧ Q w w' := by
  have PS : Hid _ := putStep_any s
  by_cases h0 : s.size = 0
  · have E : putsOf s = [] := by unfold putsOf; rw [if_pos h0]
    have hne : (s.toList == []) = true := by
      rw [ByteArray.toList_eq, beq_iff_eq]
      exact List.eq_nil_of_length_eq_zero (by simpa using h0)
    rw [E]
    clear E
    go_enter Try.func54, Try.ntmps54
    go_wp2_with fail
    go_ret
    exact ⟨none, 0, rfl, ⟨Or.inl rfl, fun _ => ⟨rfl, rfl⟩⟩, Q.refl w⟩
  · have E : putsOf s = [⟨s, 0, s.size⟩] := by unfold putsOf; rw [if_neg h0]
    have hne : (s.toList == []) = false := by
      rw [ByteArray.toList_eq, beq_eq_false_iff_ne]
      intro e
      exact h0 (by simpa using congrArg List.length e)
    rw [E]
    clear E
    go_enter Try.func54, Try.ntmps54
    go_wp2_with fail
    refine (PS.out _).mono ?_
    rintro e w1 ⟨rfl, q1⟩
    go_wp2_with fail
    go_ret
    exact ⟨some ⟨w1.heap.size, 0, none⟩, 1, rfl, ⟨steps_built w1 ⟨s, 0, s.size⟩ _, fun h => by simp at h⟩, q1.alloc _ _⟩
end Go.Proofs.Ytekdenkllipehaa
