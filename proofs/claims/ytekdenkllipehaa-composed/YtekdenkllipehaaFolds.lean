import Derived.Test.YtekdenkllipehaaSmall
import Derived.Test.YtekdenkllipehaaTParts
import Derived.Laws.MakeOwn
import Derived.Lib.Strings
import Derived.Lib.Hide
namespace Go.Proofs.Ytekdenkllipehaa
open Go.RowKit

set_option maxRecDepth 100000 in
set_option maxHeartbeats 800000 in
theorem made_any (L : List M.St) (ao : Option Addr) (cap : Nat) (w : World) (h : Steps w ao L) (hl : M.tot L ≤ 4096) (hg : M.Goods L) :
    Calls Try.prog 39 #[.slice ao L.length cap] w fun e w' => e = .returned (.int .i64 (M.tot L : Nat)) ∧ Q w w' := by
  have hn := M.length_le_tot hg
  have HT : Hid (∀ (k : Nat) (s : M.St), L[k]? = some s → M.tot (L.take (k + 1)) = M.tot (L.take k) + s.size) := fun k s hk => M.tot_take hk
  have HL : Hid (∀ k, M.tot (L.take k) ≤ M.tot L) := M.tot_take_le L
  have HE : Hid (M.tot (L.take L.length) = M.tot L) := by rw [List.take_length]; exact rfl
  have HH : Hid (Steps w ao L) := h
  clear h hg
  go_enter Try.func39, Try.ntmps39
  go_wp2_with fail
  go_loopw [3, 8] (fun n i wr => ∃ k : Nat, k ≤ L.length ∧ i = .int .i64 k ∧ n = .int .i64 (M.tot (L.take k) : Nat) ∧ Q w wr) (fun _ i _ => L.length - (intOf i).toNat)
  case atStart => exact ⟨0, Nat.zero_le _, rfl, by simp [M.tot], Q.refl w⟩
  case round =>
    obtain ⟨k, hk, rfl, rfl, hq⟩ := hrel
    have hlk := HL.out k
    by_cases hlt : k < L.length
    · obtain ⟨g, o, rfl, hg, hc⟩ := (HH.out.kept hq).at hlt
      obtain ⟨c0, c1, c2⟩ := hc k _ (List.getElem?_eq_getElem hlt)
      have hlk1 := HL.out (k + 1)
      have hS := HT.out k _ (List.getElem?_eq_getElem hlt)
      generalize L[k] = s at *
      have HS : Hid _ := hS
      have hlk2 : M.tot (L.take k) + s.size ≤ 4096 := by omega
      clear hS hlk1 hc
      go_wp2_with fail
      go_roundw
      case rel => exact ⟨k + 1, by omega, by go_num, by rw [HS.out]; go_num, hq.alloc _ _⟩
      case measure => simp [intOf]; omega
    · obtain rfl : k = L.length := by omega
      have E : Hid _ := HE.out
      go_wp2_with fail
      go_ret
      exact ⟨congrArg (fun n : Nat => Ending.returned (.int .i64 (n : Int))) E.out, hq⟩

set_option maxRecDepth 100000 in
set_option maxHeartbeats 800000 in
theorem reachS_any (L : List M.St) (ao : Option Addr) (cap : Nat) (w : World) (h : Steps w ao L) (hl : L.length ≤ 4096) (hg : M.Goods L) :
    Calls Try.prog 22 #[.slice ao L.length cap] w fun e w' => e = .returned (.int .i64 (M.reach (M.flat L) : Nat)) ∧ Q w w' := by
  have HT : Hid (∀ (k : Nat) (s : M.St), L[k]? = some s → M.reach (M.flat (L.take (k + 1))) = max (M.reach (M.flat (L.take k))) (if s.put.size = 0 then s.place + s.size else 0)) := fun k s hk => M.reach_take_st hg hk
  have HP : Hid (∀ (k : Nat) (s : M.St), L[k]? = some s → s.size ≤ 4096 ∧ s.place + s.size ≤ 72057594037927935) := fun k s hk => (hg.get hk).pos.2
  have HB : Hid (∀ k, M.reach (M.flat (L.take k)) ≤ 72057594037927935) := fun k => by
    refine M.reach_le fun x hx => ?_
    simp only [M.flat, List.mem_flatMap] at hx
    obtain ⟨s, hs, hx⟩ := hx
    have hgs := hg s (List.mem_of_mem_take hs)
    have h1 := M.reach_mem hx
    rw [M.reach_acc hgs] at h1
    have := hgs.pos
    split at h1 <;> omega
  have HE : Hid (M.reach (M.flat (L.take L.length)) = M.reach (M.flat L)) := by rw [List.take_length]; exact rfl
  have HH : Hid (Steps w ao L) := h
  clear h hg
  go_enter Try.func22, Try.ntmps22
  go_wp2_with fail
  go_loopw [3, 8] (fun n i wr => ∃ k : Nat, k ≤ L.length ∧ i = .int .i64 k ∧ n = .int .i64 (M.reach (M.flat (L.take k)) : Nat) ∧ Q w wr) (fun _ i _ => L.length - (intOf i).toNat)
  case atStart => exact ⟨0, Nat.zero_le _, rfl, by simp [M.reach, M.flat], Q.refl w⟩
  case round =>
    obtain ⟨k, hk, rfl, rfl, hq⟩ := hrel
    have hlk := HB.out k
    by_cases hlt : k < L.length
    · obtain ⟨g, o, rfl, hg, hc⟩ := (HH.out.kept hq).at hlt
      obtain ⟨c0, c1, c2⟩ := hc k _ (List.getElem?_eq_getElem hlt)
      have hS := HT.out k _ (List.getElem?_eq_getElem hlt)
      have hp := HP.out k _ (List.getElem?_eq_getElem hlt)
      generalize L[k] = s at *
      generalize M.reach (M.flat (L.take k)) = m at *
      have HS : Hid _ := hS
      clear hS hc
      by_cases hz : s.put.size = 0
      · have PC : Hid _ := puts_no s hz
        simp only [M.St.val] at PC
        rw [if_pos hz] at HS
        go_wp2_with fail
        refine (PC.out _).mono ?_
        rintro e w1 ⟨rfl, q1⟩
        have d1 : w1.cell? ⟨wr.heap.size, 1, none⟩ = some (.int .i64 s.place) := (q1.below.cell (p := ⟨wr.heap.size, 1, none⟩) (by simp)).trans (by simp)
        have d2 : w1.cell? ⟨wr.heap.size, 2, none⟩ = some (.int .i64 s.size) := (q1.below.cell (p := ⟨wr.heap.size, 2, none⟩) (by simp)).trans (by simp)
        go_wp2_with fail
        go_roundw
        case rel => exact ⟨k + 1, by omega, by go_num, by rw [HS.out]; go_num, (hq.alloc _ _).trans q1⟩
        case measure => simp [intOf]; omega
      · have PC : Hid _ := puts_yes s hz
        simp only [M.St.val] at PC
        rw [if_neg hz] at HS
        go_wp2_with fail
        refine (PC.out _).mono ?_
        rintro e w1 ⟨rfl, q1⟩
        go_wp2_with fail
        go_roundw
        case rel => exact ⟨k + 1, by omega, by go_num, by rw [HS.out]; go_num, (hq.alloc _ _).trans q1⟩
        case measure => simp [intOf]; omega
    · obtain rfl : k = L.length := by omega
      have E : Hid _ := HE.out
      go_wp2_with fail
      go_ret
      exact ⟨congrArg (fun n : Nat => Ending.returned (.int .i64 (n : Int))) E.out, hq⟩
end Go.Proofs.Ytekdenkllipehaa
