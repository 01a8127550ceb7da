import Derived.Test.YtekdenkllipehaaApplyM
import Derived.Test.YtekdenkllipehaaRead
namespace Go.Proofs.Ytekdenkllipehaa
open Go.RowKit

set_option maxRecDepth 100000 in
set_option maxHeartbeats 800000 in
theorem read_none (s : ByteArray) (hs : s.size ≤ 140737488351232) (h0 : M.getAt s.data.toList 0 = none) (w : World) :
    Calls Try.prog 21 #[.string s] w (RdNo w) := by
  have G : Hid _ := get_none s 0 hs h0
  rw [show ((0 : Nat) : Int) = 0 from rfl] at G
  clear h0
  go_enter Try.func21, Try.ntmps21
  go_wp2_with fail
  refine (G.out _).mono ?_
  rintro e w1 ⟨rfl, rfl⟩
  go_wp2_with fail
  refine bodyPost_ret (v := .tuple #[.agg #[.slice none 0 0, .slice none 0 0], .bool false]) (by simp [results, Try.results21, go_sem]) rfl ?_
  exact ⟨none, none, 0, 0, 0, 0, rfl, (Q.refl w).alloc _ _⟩

set_option maxRecDepth 100000 in
set_option maxHeartbeats 800000 in
theorem read_long (s : ByteArray) (hs : s.size ≤ 140737488351232) (size a0 : Nat) (h0 : M.getAt s.data.toList 0 = some (size, a0)) (hsz : 4096 < size) (w : World) :
    Calls Try.prog 21 #[.string s] w (RdNo w) := by
  have hb0 := M.getAt_bound h0
  have G : Hid _ := get_some s 0 size a0 hs h0
  rw [show ((0 : Nat) : Int) = 0 from rfl] at G
  have t1 : decide ((4096 : Int) < (size : Int)) = true := by simp; omega
  clear h0
  go_enter Try.func21, Try.ntmps21
  go_wp2_with fail
  refine (G.out _).mono ?_
  rintro e w1 ⟨rfl, rfl⟩
  go_wp2_with fail
  refine bodyPost_ret (v := .tuple #[.agg #[.slice none 0 0, .slice none 0 0], .bool false]) (by simp [results, Try.results21, go_sem]) rfl ?_
  exact ⟨none, none, 0, 0, 0, 0, rfl, (Q.refl w).alloc _ _⟩

/-- read, by the mathematics. -/
theorem read_no (s : ByteArray) (hs : s.size ≤ 140737488351232) (hp : M.parse s.data.toList = none) (w : World) : Calls Try.prog 21 #[.string s] w (RdNo w) := by
  unfold M.parse at hp
  cases hg : M.getAt s.data.toList 0 with
  | none => exact read_none s hs hg w
  | some p =>
    obtain ⟨size, a⟩ := p
    rw [hg] at hp
    simp only at hp
    by_cases hl : 4096 < size
    · exact read_long s hs size a hg hl w
    · rw [if_neg hl] at hp
      have h := read_some s hs size a hg hl w
      cases hr : M.stepsAt s.data.toList size (s.data.toList.length + 1) a [] with
      | none => rw [hr] at h; exact h
      | some acc =>
        rw [hr] at h hp
        simp only at hp
        split at hp
        · simp at hp
        · rename_i hne
          simp only [RdEnd, if_neg hne] at h
          exact h

theorem read_yes (s : ByteArray) (hs : s.size ≤ 140737488351232) (size : Nat) (acc : List Nat) (hp : M.parse s.data.toList = some (size, acc)) (w : World) : Calls Try.prog 21 #[.string s] w (RdYes acc w) := by
  unfold M.parse at hp
  cases hg : M.getAt s.data.toList 0 with
  | none => rw [hg] at hp; simp at hp
  | some p =>
    obtain ⟨sz, a⟩ := p
    rw [hg] at hp
    simp only at hp
    by_cases hl : 4096 < sz
    · rw [if_pos hl] at hp; simp at hp
    · rw [if_neg hl] at hp
      have h := read_some s hs sz a hg hl w
      cases hr : M.stepsAt s.data.toList sz (s.data.toList.length + 1) a [] with
      | none => rw [hr] at hp; simp at hp
      | some ac =>
        rw [hr] at h hp
        simp only at hp
        split at hp
        · rename_i he
          simp only [Option.some.injEq, Prod.mk.injEq] at hp
          obtain ⟨rfl, rfl⟩ := hp
          simp only [RdEnd, if_pos he] at h
          exact h
        · simp at hp

set_option maxRecDepth 100000 in
set_option maxHeartbeats 800000 in
theorem apply_no (c b : ByteArray) (hc : c.size ≤ 140737488351232) (hp : M.parse c.data.toList = none) (w : World) :
    Calls Try.prog 13 #[.string c, .string b] w fun e w' => e = .returned (.tuple #[.string ⟨#[]⟩, .int .i64 5]) ∧ Q w w' := by
  have R : Hid _ := read_no c hc hp
  clear hp
  go_enter Try.func13, Try.ntmps13
  go_wp2_with fail
  refine (R.out _).mono ?_
  rintro e w1 ⟨so, eo, n, m, sc, ec, rfl, q1⟩
  go_wp2_with fail
  go_ret2
  exact ⟨rfl, q1.alloc _ _⟩

set_option maxRecDepth 100000 in
set_option maxHeartbeats 800000 in
theorem apply_yes (c b : ByteArray) (hc : c.size ≤ 140737488351232) (hb : b.size ≤ 140737488351232) (size : Nat) (acc : List Nat) (hp : M.parse c.data.toList = some (size, acc)) (w : World) :
    Calls Try.prog 13 #[.string c, .string b] w fun e w' => e = appliedEnd (if b.size < M.reach acc then none else some (M.made acc b.data.toList)) ∧ Q w w' := by
  have R : Hid _ := read_yes c hc size acc hp
  obtain ⟨hlen, hsz, hfit⟩ := M.parse_bound hp
  have hrf := M.reach_fit hfit
  clear hp
  by_cases hfar : b.size < M.reach acc
  · rw [if_pos hfar]
    go_enter Try.func13, Try.ntmps13
    go_wp2_with fail
    refine (R.out _).mono ?_
    rintro e w1 ⟨L, so, eo, sc, ec, rfl, ⟨hg, rfl⟩, hst, hen, q1⟩
    have hft := M.flat_length hg
    have hll := M.length_le_tot hg
    have RH : Hid _ := fun (_ : Unit) => reachS_any L so sc _ (hst.kept ((Q.refl w1).alloc #[.slice so L.length sc, .slice eo L.length ec] 46)) (by omega) hg
    clear hst hen
    go_wp2_with fail
    refine (RH.out ()).mono ?_
    rintro e w2 ⟨rfl, q2⟩
    go_wp2_with fail
    go_ret2
    exact ⟨rfl, (q1.alloc _ _).trans q2⟩
  · rw [if_neg hfar]
    go_enter Try.func13, Try.ntmps13
    go_wp2_with fail
    refine (R.out _).mono ?_
    rintro e w1 ⟨L, so, eo, sc, ec, rfl, ⟨hg, rfl⟩, hst, hen, q1⟩
    have hft := M.flat_length hg
    have hll := M.length_le_tot hg
    have RH : Hid _ := fun (_ : Unit) => reachS_any L so sc _ (hst.kept ((Q.refl w1).alloc #[.slice so L.length sc, .slice eo L.length ec] 46)) (by omega) hg
    have TX : Hid (∀ w', Q (w1.alloc (.cells #[.slice so L.length sc, .slice eo L.length ec] 46)) w' → Calls Try.prog 23 #[.string b, .slice so L.length sc] w' fun e w'' => e = .returned (.string ⟨(M.made (M.flat L) b.data.toList).toArray⟩) ∧ Q w' w'') :=
      fun w' q => text_any b L so sc w' ((hst.kept ((Q.refl w1).alloc _ _)).kept q) hb (by omega) hg (by omega)
    clear hst hen
    go_wp2_with fail
    refine (RH.out ()).mono ?_
    rintro e w2 ⟨rfl, q2⟩
    obtain ⟨⟨x0, x1⟩, _⟩ := new2 q2
    go_wp2_with fail
    refine (TX.out _ q2).mono ?_
    rintro e w3 ⟨rfl, q3⟩
    go_wp2_with fail
    go_ret2
    exact ⟨rfl, ((q1.alloc _ _).trans q2).trans q3⟩

theorem apply_any (c b : ByteArray) (hc : c.size ≤ 140737488351232) (hb : b.size ≤ 140737488351232) (w : World) :
    Calls Try.prog 13 #[.string c, .string b] w fun e w' => e = appliedEnd (applied (M.parse c.data.toList) b.data.toList) ∧ Q w w' := by
  cases hp : M.parse c.data.toList with
  | none => exact apply_no c b hc hp w
  | some p =>
    obtain ⟨size, acc⟩ := p
    have hbl : b.data.toList.length = b.size := by simp
    simp only [applied, hbl]
    exact apply_yes c b hc hb size acc hp w
end Go.Proofs.Ytekdenkllipehaa
