import Derived.Test.YtekdenkllipehaaReadStep
namespace Go.Proofs.Ytekdenkllipehaa
open Go.RowKit

/-- The ends of steps as values. -/
def endVals (L : List M.St) : List Value := (List.range L.length).map fun k => Value.int .i64 (M.tot (L.take (k + 1)) : Nat)

theorem endVals_length (L : List M.St) : (endVals L).length = L.length := by simp [endVals]
theorem endVals_get (L : List M.St) (k : Nat) (hk : k < L.length) : (endVals L)[k]? = some (.int .i64 (M.tot (L.take (k + 1)) : Nat)) := by simp [endVals, hk]
theorem endVals_snoc (L : List M.St) (s : M.St) : endVals (L ++ [s]) = endVals L ++ [.int .i64 ((M.tot L + s.size : Nat) : Int)] := by
  unfold endVals
  rw [List.length_append, List.length_singleton, List.range_succ, List.map_append]
  congr 1
  · apply List.map_congr_left
    intro k hk
    have : k < L.length := by simpa using hk
    rw [List.take_append_of_le_length (by omega)]
  · simp only [List.map_cons, List.map_nil]
    rw [List.take_of_length_le (by simp), M.tot_append, M.tot_one]

/-- The ends lie where a slice's address says. -/
def Ends (w : World) (ao : Option Addr) (L : List M.St) : Prop := L = [] ∨ ∃ g, ao = some ⟨g, 0, none⟩ ∧ g < w.heap.size ∧ ∀ k, k < L.length → w.cell? ⟨g, k, none⟩ = some (.int .i64 (M.tot (L.take (k + 1)) : Nat))

theorem Ends.kept {w w' : World} {ao : Option Addr} {L : List M.St} (h : Ends w ao L) (q : Q w w') : Ends w' ao L := by
  rcases h with h | ⟨g, rfl, hg, hs⟩
  · exact Or.inl h
  · exact Or.inr ⟨g, rfl, by have := q.below.size; omega, fun k hk => (q.below.cell (p := ⟨g, k, none⟩) hg).trans (hs k hk)⟩

theorem own_ends {w : World} {base : Nat} {ao : Option Addr} {cap : Nat} {L : List M.St} (h : w.ownsRow base 3 1 (.slice ao L.length cap) L.length (endVals L)) : Ends w ao L := by
  by_cases hL : L = []
  · exact Or.inl hL
  · obtain ⟨g, rfl, _, hlt, hc⟩ := own_cells h (by
      intro e
      have h1 := endVals_length L
      rw [e, List.length_nil] at h1
      exact hL (List.eq_nil_of_length_eq_zero h1.symm))
    exact Or.inr ⟨g, rfl, hlt, fun k hk => hc k _ (endVals_get L k hk)⟩

set_option maxRecDepth 100000 in
set_option maxHeartbeats 800000 in
theorem length_any (L : List M.St) (so eo : Option Addr) (n sc ec : Nat) (w : World) (h : Ends w eo L) (hl : L.length ≤ 4096) :
    Calls Try.prog 25 #[.agg #[.slice so n sc, .slice eo L.length ec]] w fun e w' => e = .returned (.int .i64 (M.tot L : Nat)) ∧ Q w w' := by
  by_cases h0 : L.length = 0
  · obtain rfl := List.eq_nil_of_length_eq_zero h0
    clear h
    simp only [List.length_nil, M.tot]
    go_enter Try.func25, Try.ntmps25
    go_wp2_with fail
    go_ret
    exact ⟨rfl, (Q.refl w).alloc _ _⟩
  · have hne : L ≠ [] := fun e => h0 (by rw [e]; rfl)
    rcases h with h | ⟨g, rfl, hg, hs⟩
    · exact absurd h hne
    · have hc := hs (L.length - 1) (by omega)
      rw [show L.length - 1 + 1 = L.length by omega, List.take_length] at hc
      have t0 : ((L.length : Int) == 0) = false := by simp; omega
      have t1 : ((L.length : Int) - 1).toNat = L.length - 1 := by omega
      have t2 : (0 : Int) ≤ (L.length : Int) - 1 := by omega
      have t3 : (L.length : Int) - 1 < (L.length : Int) := by omega
      have hc2 := (((Below.refl _ w).alloc (o := .cells #[.slice so n sc, .slice (some ⟨g, 0, none⟩) L.length ec] 46) (Nat.le_refl _)).cell (p := ⟨g, L.length - 1, none⟩) hg).trans hc
      clear hs hc hne
      go_enter Try.func25, Try.ntmps25
      go_wp2_with fail
      go_ret
      exact ⟨rfl, (Q.refl w).alloc _ _⟩
end Go.Proofs.Ytekdenkllipehaa
