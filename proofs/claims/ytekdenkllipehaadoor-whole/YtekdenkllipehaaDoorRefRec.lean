import Derived.Test.YtekdenkllipehaaDoorRefPut
import Derived.Test.YtekdenkllipehaaDoorRec
import Derived.Deep.QuietTactic
import Derived.BigQuiet
namespace Go.Proofs.YtekdenkllipehaaDoor
open Go.RowKit

set_option maxRecDepth 100000 in
theorem written_any (n : Nat) (hn : n < 72057594037927936) (w : World) :
    Calls Tryd.prog 25 #[.int .i64 n] w fun e w' => e = .returned (.string ⟨(M.enc 7 n).toArray⟩) ∧ Q w w' := by
  have p := refPut_yes n hn
  generalize M.enc 7 n = l at *
  have P : Hid _ := p
  clear p
  go_enter Tryd.func25, Tryd.ntmps25
  go_wp2_with fail
  refine (P.out _).mono ?_
  rintro e w1 ⟨rfl, q1⟩
  go_wp2_with fail
  go_ret
  exact ⟨rfl, q1⟩

set_option maxRecDepth 100000 in
set_option maxHeartbeats 800000 in
theorem fits_any (r : Rec) (w : World) :
    Calls Tryd.prog 26 #[r.val] w fun e w' => e = .returned (.bool r.fits) ∧ Q w w' := by
  obtain ⟨key, stamp, kind, body⟩ := r
  simp only [Rec.val, Rec.fits]
  by_cases h0 : key.size < 1
  · have E : decide (1 ≤ key.size ∧ key.size ≤ 64 ∧ body.size ≤ 4200 ∧ 0 ≤ stamp ∧ stamp ≤ 1099511627776 ∧ 0 ≤ kind ∧ kind ≤ 2) = false := by simp; omega
    rw [E]
    clear E
    go_enter Tryd.func26, Tryd.ntmps26
    go_wp2_with fail
    go_ret
    exact ⟨rfl, (Q.refl w).alloc _ _⟩
  · by_cases h1 : 64 < key.size
    · have E : decide (1 ≤ key.size ∧ key.size ≤ 64 ∧ body.size ≤ 4200 ∧ 0 ≤ stamp ∧ stamp ≤ 1099511627776 ∧ 0 ≤ kind ∧ kind ≤ 2) = false := by simp; omega
      rw [E]
      clear E
      go_enter Tryd.func26, Tryd.ntmps26
      go_wp2_with fail
      go_ret
      exact ⟨rfl, (Q.refl w).alloc _ _⟩
    · by_cases h2 : 4200 < body.size
      · have E : decide (1 ≤ key.size ∧ key.size ≤ 64 ∧ body.size ≤ 4200 ∧ 0 ≤ stamp ∧ stamp ≤ 1099511627776 ∧ 0 ≤ kind ∧ kind ≤ 2) = false := by simp; omega
        rw [E]
        clear E
        go_enter Tryd.func26, Tryd.ntmps26
        go_wp2_with fail
        go_ret
        exact ⟨rfl, (Q.refl w).alloc _ _⟩
      · by_cases h3 : stamp < 0
        · have E : decide (1 ≤ key.size ∧ key.size ≤ 64 ∧ body.size ≤ 4200 ∧ 0 ≤ stamp ∧ stamp ≤ 1099511627776 ∧ 0 ≤ kind ∧ kind ≤ 2) = false := by simp; omega
          rw [E]
          clear E
          go_enter Tryd.func26, Tryd.ntmps26
          go_wp2_with fail
          go_ret
          exact ⟨rfl, (Q.refl w).alloc _ _⟩
        · by_cases h4 : 1099511627776 < stamp
          · have E : decide (1 ≤ key.size ∧ key.size ≤ 64 ∧ body.size ≤ 4200 ∧ 0 ≤ stamp ∧ stamp ≤ 1099511627776 ∧ 0 ≤ kind ∧ kind ≤ 2) = false := by simp; omega
            rw [E]
            clear E
            go_enter Tryd.func26, Tryd.ntmps26
            go_wp2_with fail
            go_ret
            exact ⟨rfl, (Q.refl w).alloc _ _⟩
          · by_cases h5 : kind < 0
            · have E : decide (1 ≤ key.size ∧ key.size ≤ 64 ∧ body.size ≤ 4200 ∧ 0 ≤ stamp ∧ stamp ≤ 1099511627776 ∧ 0 ≤ kind ∧ kind ≤ 2) = false := by simp; omega
              rw [E]
              clear E
              go_enter Tryd.func26, Tryd.ntmps26
              go_wp2_with fail
              go_ret
              exact ⟨rfl, (Q.refl w).alloc _ _⟩
            · have E : decide (1 ≤ key.size ∧ key.size ≤ 64 ∧ body.size ≤ 4200 ∧ 0 ≤ stamp ∧ stamp ≤ 1099511627776 ∧ 0 ≤ kind ∧ kind ≤ 2) = decide (kind ≤ 2) := by rw [decide_eq_decide]; omega
              rw [E]
              clear E
              go_enter Tryd.func26, Tryd.ntmps26
              go_wp2_with fail
              go_ret
              exact ⟨rfl, (Q.refl w).alloc _ _⟩

set_option maxRecDepth 100000 in
set_option maxHeartbeats 400000 in
theorem common_any (a b : ByteArray) (ha : a.size ≤ 140737488351232) (w : World) :
    Calls Tryd.prog 27 #[.string a, .string b] w fun e w' => e = .returned (.int .i64 (common a.data.toList b.data.toList)) ∧ Q w w' := by
  go_enter Tryd.func27, Tryd.ntmps27
  go_wp2_with fail
  go_loopw [5] (fun i wr => ∃ k : Nat, i = .int .i64 k ∧ k ≤ a.size ∧ k ≤ b.size ∧ a.data.toList.take k = b.data.toList.take k ∧ Q w wr) (fun i _ => a.size - (intOf i).toNat)
  case atStart => exact ⟨0, rfl, Nat.zero_le _, Nat.zero_le _, by simp, Q.refl _⟩
  case round =>
    obtain ⟨k, rfl, hka, hkb, heq, hq⟩ := hrel
    have HE : Hid (a.data.toList.take k = b.data.toList.take k) := heq
    clear heq
    by_cases h1 : k < a.size
    · by_cases h2 : k < b.size
      · have ga : a.data.toList[k]? = some a[k] := by rw [List.getElem?_eq_getElem (by simpa using h1)]; rfl
        have gb : b.data.toList[k]? = some b[k] := by rw [List.getElem?_eq_getElem (by simpa using h2)]; rfl
        have i1 : (k : Int) < (a.size : Int) := by omega
        have i2 : (k : Int) < (b.size : Int) := by omega
        have i0 : (0 : Int) ≤ (k : Int) := by omega
        by_cases h3 : a[k] = b[k]
        · have HN : Hid (a.data.toList.take (k + 1) = b.data.toList.take (k + 1)) := by rw [M.take_snoc ga, M.take_snoc gb, h3, HE.out]; exact rfl
          have t3 : ((a[k].toNat : Int) == (b[k].toNat : Int)) = true := by rw [h3]; simp
          clear h3 ga gb
          go_wp2_with fail
          go_quiet (fail)
          go_wp2
          go_roundw
          case rel => exact ⟨k + 1, by go_num, by omega, by omega, HN.out, hq.drewN _⟩
          case measure => simp [intOf]; omega
        · have E : Hid (common a.data.toList b.data.toList = k) := common_stop (by simpa using hka) (by simpa using hkb) HE.out (Or.inr (Or.inr (by rw [ga, gb]; simpa using h3)))
          have t3 : ((a[k].toNat : Int) == (b[k].toNat : Int)) = false := by
            rw [beq_eq_false_iff_ne]; intro e; exact h3 (UInt8.toNat_inj.1 (by omega))
          clear h3 ga gb
          go_wp2_with fail
          go_quiet (fail)
          go_wp2
          go_ret
          exact ⟨congrArg (fun n : Nat => Ending.returned (.int .i64 (n : Int))) E.out.symm, hq.drewN _⟩
      · have E : Hid (common a.data.toList b.data.toList = k) := common_stop (by simpa using hka) (by simpa using hkb) HE.out (Or.inr (Or.inl (by simp; omega)))
        have d1 : decide ((k : Int) < (b.size : Int)) = false := by simp; omega
        go_wp2_with fail
        go_quiet (fail)
        go_wp2
        go_ret
        exact ⟨congrArg (fun n : Nat => Ending.returned (.int .i64 (n : Int))) E.out.symm, hq.drewN _⟩
    · have E : Hid (common a.data.toList b.data.toList = k) := common_stop (by simpa using hka) (by simpa using hkb) HE.out (Or.inl (by simp; omega))
      have d1 : decide ((k : Int) < (a.size : Int)) = false := by simp; omega
      go_wp2_with fail
      go_quiet (fail)
      go_wp2
      go_ret
      exact ⟨congrArg (fun n : Nat => Ending.returned (.int .i64 (n : Int))) E.out.symm, hq.drewN _⟩
end Go.Proofs.YtekdenkllipehaaDoor
