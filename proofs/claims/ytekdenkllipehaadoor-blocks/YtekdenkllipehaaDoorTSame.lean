/-
  How many bytes two texts begin with alike (package texts).
-/
import Derived.Test.YtekdenkllipehaaDoorTNum
import Derived.Test.YtekdenkllipehaaDoorRec
import Derived.Deep.QuietTactic
import Derived.BigQuiet
namespace Go.Proofs.YtekdenkllipehaaDoor
open Go.RowKit

set_option maxRecDepth 100000 in
set_option maxHeartbeats 400000 in
theorem same_any (a b : ByteArray) (ha : a.size ≤ 140737488351232) (hb : b.size ≤ 140737488351232) (w : World) :
    Calls Tryd.prog 36 #[.string a, .string b] w fun e w' => e = .returned (.int .i64 (common a.data.toList b.data.toList : Nat)) ∧ Q w w' := by
  have IA : Hid _ := index_str a
  have IB : Hid _ := index_str b
  go_enter Tryd.func36, Tryd.ntmps36
  go_wp2_with fail
  go_loopw [5] (fun t wr => ∃ n : Nat, t = .int .i64 (n : Int) ∧ n ≤ a.size ∧ n ≤ b.size ∧ Hid (a.data.toList.take n = b.data.toList.take n) ∧ Q w wr) (fun t _ => a.size - (intOf t).toNat)
  case atStart => exact ⟨0, rfl, Nat.zero_le _, Nat.zero_le _, (by simp : a.data.toList.take 0 = b.data.toList.take 0), Q.refl w⟩
  case round =>
    obtain ⟨n, rfl, hna, hnb, htk, hq⟩ := hrel
    by_cases hba : b.size < a.size
    all_goals
      by_cases hlt : n < a.size ∧ n < b.size
      · obtain ⟨h1, h2⟩ := hlt
        have xa := IA.out n h1
        have xb := IB.out n h2
        have hd : decide ((n : Int) < min (a.size : Int) (b.size : Int)) = true := by simp; omega
        have hd2 : (n : Int) < min (a.size : Int) (b.size : Int) := by omega
        have hd3 : decide ((n : Int) < if b.size < a.size then (b.size : Int) else (a.size : Int)) = true := by rw [decide_eq_true_eq]; split <;> omega
        have hd4 : (n : Int) < if b.size < a.size then (b.size : Int) else (a.size : Int) := by split <;> omega
        have la : a.data.toList[n]? = some a[n] := by rw [List.getElem?_eq_getElem (by simpa using h1)]; rfl
        have lb : b.data.toList[n]? = some b[n] := by rw [List.getElem?_eq_getElem (by simpa using h2)]; rfl
        by_cases heq : a[n] = b[n]
        · have HT : Hid (a.data.toList.take (n + 1) = b.data.toList.take (n + 1)) := by
            have := htk.out
            show _ = _
            rw [List.take_add_one, List.take_add_one, this, la, lb, heq]
          have he : (((a[n]).toNat : Int) == ((b[n]).toNat : Int)) = true := by rw [heq]; simp
          generalize (a[n]).toNat = x at *
          generalize (b[n]).toNat = y at *
          clear la lb heq
          go_wp2_with fail
          go_quiet (fail)
          go_wp2_with fail
          go_roundw
          case rel => exact ⟨n + 1, by go_num, by omega, by omega, HT, hq.drewN _⟩
          case measure => simp [intOf]; omega
        · have he : (((a[n]).toNat : Int) == ((b[n]).toNat : Int)) = false := by
            rw [beq_eq_false_iff_ne]
            intro e
            exact heq (UInt8.toNat_inj.1 (by omega))
          have E : Hid (common a.data.toList b.data.toList = n) := common_stop (by simpa using hna) (by simpa using hnb) htk.out (Or.inr (Or.inr (by rw [la, lb]; simpa using heq)))
          generalize (a[n]).toNat = x at *
          generalize (b[n]).toNat = y at *
          clear la lb heq
          go_wp2_with fail
          go_quiet (fail)
          go_wp2_with fail
          go_ret
          exact ⟨congrArg (fun n : Nat => Ending.returned (.int .i64 (n : Int))) E.out.symm, hq.drewN _⟩
      · have hd : decide ((n : Int) < min (a.size : Int) (b.size : Int)) = false := by simp; omega
        have hd3 : decide ((n : Int) < if b.size < a.size then (b.size : Int) else (a.size : Int)) = false := by rw [decide_eq_false_iff_not]; split <;> omega
        try have hd5 : decide (n < b.size) = false := by simp; omega
        try have hd6 : decide (n < a.size) = false := by simp; omega
        have E : Hid (common a.data.toList b.data.toList = n) := common_stop (by simpa using hna) (by simpa using hnb) htk.out (by simp; omega)
        go_wp2_with fail
        go_quiet (fail)
        go_wp2_with fail
        go_ret
        exact ⟨congrArg (fun n : Nat => Ending.returned (.int .i64 (n : Int))) E.out.symm, hq.drewN _⟩
end Go.Proofs.YtekdenkllipehaaDoor
