import Derived.Test.YtekdenkllipehaaReading
namespace Go.Proofs.Ytekdenkllipehaa
open Go.RowKit

/-- An element of a row of numbers. -/
theorem own_cell {w : World} {base n cap : Nat} {ao : Option Addr} {acc : List Nat} (h : w.ownsRow base 3 1 (.slice ao n cap) n (vals acc)) (hn : acc.length ≠ 0) :
    ∃ g, ao = some ⟨g, 0, none⟩ ∧ g < w.heap.size ∧ ∀ (k x : Nat), acc[k]? = some x → w.cell? ⟨g, k, none⟩ = some (.int .i64 (x : Int)) := by
  have hl : n = acc.length := by have := h.1; simp [vals] at this; omega
  subst hl
  rcases h.2 with ⟨_, h0⟩ | ⟨g, c, cur, hv, hg, hh, _⟩
  · exact absurd h0 hn
  · injection hv with e1 _ e3
    subst e1 e3
    refine ⟨g, rfl, ?_, fun k x hx => ?_⟩
    · rcases Nat.lt_or_ge g w.heap.size with hlt | hge
      · exact hlt
      · rw [Array.getElem?_eq_none hge] at hh; simp at hh
    · have hk : k < acc.length := (List.getElem?_eq_some_iff.1 hx).1
      rw [h.cellAt k (by omega)]
      simp [vals, hx]

set_option maxRecDepth 100000 in
set_option maxHeartbeats 400000 in
theorem reach_zero (size : Int) (ao : Option Addr) (cap : Nat) (w : World) :
    Calls Try.prog 24 #[.agg #[.int .i64 size, .slice ao 0 cap]] w fun e w' => e = .returned (.int .i64 0) ∧ Q w w' := by
  go_enter Try.func24, Try.ntmps24
  go_wp2
  refine wp_loop_rounds 1 ?_
  rw [rounds_succ]
  go_wp2
  go_ret
  exact ⟨rfl, (Q.refl w).alloc _ _⟩

set_option maxRecDepth 100000 in
set_option maxHeartbeats 400000 in
theorem reach_some (size : Int) (g cap : Nat) (acc : List Nat) (hf : M.Fit acc) (hl : acc.length ≤ 4096) (w : World) (hg : g < w.heap.size) (hc : ∀ (k x : Nat), acc[k]? = some x → w.cell? ⟨g, k, none⟩ = some (.int .i64 (x : Int))) :
    Calls Try.prog 24 #[.agg #[.int .i64 size, .slice (some ⟨g, 0, none⟩) acc.length cap]] w fun e w' => e = .returned (.int .i64 (M.reach acc)) ∧ Q w w' := by
  have HC : Hid (∀ (k x : Nat), acc[k]? = some x → w.cell? ⟨g, k, none⟩ = some (.int .i64 (x : Int))) := hc
  clear hc
  have hne : ¬ g = w.heap.size := by omega
  go_enter Try.func24, Try.ntmps24
  go_wp2
  go_loop [3, 4] (fun m i => ∃ k : Nat, k ≤ acc.length ∧ i = .int .i64 k ∧ m = .int .i64 (M.reach (acc.take k))) (fun _ i => acc.length - (intOf i).toNat)
  case atStart => exact ⟨0, Nat.zero_le _, rfl, rfl⟩
  case round =>
    obtain ⟨k, hk, rfl, rfl⟩ := hrel
    have hr := M.reach_fit (acc := acc.take k) fun x hx => hf x (List.mem_of_mem_take hx)
    by_cases hlt : k < acc.length
    · obtain ⟨x, hx⟩ : ∃ x, acc[k]? = some x := ⟨acc[k], List.getElem?_eq_getElem hlt⟩
      have hxf := hf x (List.mem_of_getElem? hx)
      have hcell := HC.out k x hx
      have HS : Hid (M.reach (acc.take (k + 1)) = max (M.reach (acc.take k)) (x - 255)) := M.reach_take hx
      generalize M.reach (acc.take k) = m at *
      clear hx
      go_wp2
      · go_round
        case rel =>
          have ht : (m : Int) < (x : Int) - 255 := by assumption
          exact ⟨k + 1, by omega, by go_num, by rw [HS.out]; go_num⟩
        case measure => simp [intOf]; omega
      · go_round
        case rel =>
          have ht : (x : Int) - 255 ≤ (m : Int) := by assumption
          exact ⟨k + 1, by omega, by go_num, by rw [HS.out]; go_num⟩
        case measure => simp [intOf]; omega
    · have E : Hid (M.reach (acc.take k) = M.reach acc) := by rw [List.take_of_length_le (by omega)]; exact rfl
      go_wp2
      go_ret
      exact ⟨congrArg (fun n : Nat => Ending.returned (.int .i64 (n : Int))) E.out, (Q.refl w).alloc _ _⟩

theorem reach_any (size : Int) (ao : Option Addr) (cap base : Nat) (acc : List Nat) (hf : M.Fit acc) (hl : acc.length ≤ 4096) (w : World) (ho : w.ownsRow base 3 1 (.slice ao acc.length cap) acc.length (vals acc)) :
    Calls Try.prog 24 #[.agg #[.int .i64 size, .slice ao acc.length cap]] w fun e w' => e = .returned (.int .i64 (M.reach acc)) ∧ Q w w' := by
  by_cases h : acc.length = 0
  · obtain rfl := List.eq_nil_of_length_eq_zero h
    exact reach_zero size ao cap w
  · obtain ⟨g, rfl, hg, hc⟩ := own_cell ho h
    exact reach_some size g cap acc hf hl w hg hc
end Go.Proofs.Ytekdenkllipehaa
