import Derived.Test.YtekdenkllipehaaRefComposed
import Derived.Test.YtekdenkllipehaaCompose2
namespace Go.Proofs.Ytekdenkllipehaa
open Go.RowKit

theorem compose_no (a b : ByteArray) (ha : a.size ≤ 140737488351232) (hb : b.size ≤ 140737488351232) (hc : composable (M.parse a.data.toList) (M.parse b.data.toList) = false) (w : World) :
    Calls Try.prog 15 #[.string a, .string b] w fun e w' => e = .returned (.tuple #[.string ⟨#[]⟩, .int .i64 5]) ∧ Q w w' := by
  cases hp : M.parse a.data.toList with
  | none => exact compose_none1 a b ha hb hp w
  | some p =>
    obtain ⟨s1, c1⟩ := p
    cases hq : M.parse b.data.toList with
    | none => exact compose_none2 a b ha hb s1 c1 hp hq w
    | some q =>
      obtain ⟨s2, c2⟩ := q
      rw [hp, hq] at hc
      simp [composable] at hc
      exact compose_far a b ha hb s1 s2 c1 c2 hp hq (by omega) w

set_option maxRecDepth 100000 in
set_option maxHeartbeats 400000 in
theorem composes_no (a0 a1 a2 : ByteArray) (h0 : a0.size ≤ 140737488351232) (h1 : a1.size ≤ 140737488351232) (hc : composable (M.parse a0.data.toList) (M.parse a1.data.toList) = false) (w : World) :
    Calls Try.prog 5 #[.string a0, .string a1, .string a2] w fun e w' => e = .returned (.bool true) ∧ Q w w' := by
  have p1 := compose_no a0 a1 h0 h1 hc
  have p2 := composed_any a0 a1 h0 h1
  rw [hc] at p2
  simp only [Bool.false_eq_true, if_false] at p2
  have P1 : Hid _ := p1
  have P2 : Hid _ := p2
  clear p1 p2 hc
  go_enter Try.func5, Try.ntmps5
  go_wp2_with fail
  refine (P1.out _).mono ?_
  rintro e w1 ⟨rfl, q1⟩
  go_wp2_with fail
  refine (P2.out _).mono ?_
  rintro e w2 ⟨rfl, q2⟩
  go_wp2_with fail
  go_ret
  exact ⟨rfl, q1.trans q2⟩

set_option maxRecDepth 100000 in
set_option maxHeartbeats 400000 in
theorem composes_far (a0 a1 a2 : ByteArray) (h0 : a0.size ≤ 140737488351232) (h1 : a1.size ≤ 140737488351232) (s1 s2 : Nat) (c1 c2 : List Nat)
    (hp : M.parse a0.data.toList = some (s1, c1)) (hq : M.parse a1.data.toList = some (s2, c2)) (hr : M.reach c2 ≤ s1) (hfar : a2.size < M.reach c1) (w : World) :
    Calls Try.prog 5 #[.string a0, .string a1, .string a2] w fun e w' => e = .returned (.bool true) ∧ Q w w' := by
  have p1 := compose_yes a0 a1 h0 h1 s1 s2 c1 c2 hp hq hr
  have hc : composable (M.parse a0.data.toList) (M.parse a1.data.toList) = true := by rw [hp, hq]; simp [composable]; omega
  have p2 := composed_any a0 a1 h0 h1
  rw [hc] at p2
  simp only [if_true] at p2
  have p4 := refApply_any a0 a2 h0
  have ha : applied (M.parse a0.data.toList) a2.data.toList = none := by rw [hp]; simp only [applied]; rw [if_pos (by simpa using hfar)]
  rw [ha] at p4
  simp only [appliedEnd] at p4
  have P1 : Hid _ := p1
  have P2 : Hid _ := p2
  have P3 : Hid _ := fun (C : ByteArray) (hCs : C.size ≤ 140737488351232) (hCp : M.parse C.data.toList = some (s2, M.subst c1 c2)) (w : World) => by
    have p3 := (refRead_any C hCs w).mono fun e w' h => readPost_form h
    rw [hCp] at p3
    simp only [Option.isSome] at p3
    exact p3
  have P4 : Hid _ := p4
  clear p1 p2 p4 hc hp hq ha
  go_enter Try.func5, Try.ntmps5
  go_wp2_with fail
  refine (P1.out _).mono ?_
  rintro e w1 ⟨C, ⟨hCs, hCp⟩, rfl, q1⟩
  go_wp2_with fail
  refine (P2.out _).mono ?_
  rintro e w2 ⟨rfl, q2⟩
  go_wp2_with fail
  refine (P3.out C hCs hCp _).mono ?_
  rintro e w3 ⟨y, ao, n, cap, rfl, q3⟩
  go_wp2_with fail
  refine (P4.out _).mono ?_
  rintro e w4 ⟨rfl, q4⟩
  go_wp2_with fail
  go_ret
  exact ⟨rfl, (((q1.trans q2).trans q3).alloc _ _).trans q4⟩

set_option maxRecDepth 100000 in
set_option maxHeartbeats 400000 in
theorem composes_yes (a0 a1 a2 : ByteArray) (h0 : a0.size ≤ 140737488351232) (h1 : a1.size ≤ 140737488351232) (s1 s2 : Nat) (c1 c2 : List Nat)
    (hp : M.parse a0.data.toList = some (s1, c1)) (hq : M.parse a1.data.toList = some (s2, c2)) (hr : M.reach c2 ≤ s1) (hfar : ¬ a2.size < M.reach c1) (w : World) :
    Calls Try.prog 5 #[.string a0, .string a1, .string a2] w fun e w' => e = .returned (.bool true) ∧ Q w w' := by
  have p1 := compose_yes a0 a1 h0 h1 s1 s2 c1 c2 hp hq hr
  have hb1 := M.parse_bound hp
  have hc : composable (M.parse a0.data.toList) (M.parse a1.data.toList) = true := by rw [hp, hq]; simp [composable]; omega
  have p2 := composed_any a0 a1 h0 h1
  rw [hc] at p2
  simp only [if_true] at p2
  have ha : applied (M.parse a0.data.toList) a2.data.toList = some (M.made c1 a2.data.toList) := by rw [hp]; simp only [applied]; rw [if_neg (by simpa using hfar)]
  have hm : applied (M.parse a1.data.toList) (M.made c1 a2.data.toList) = some (M.made c2 (M.made c1 a2.data.toList)) := by rw [hq]; simp only [applied]; rw [if_neg (by rw [made_length]; omega)]
  have hz : ∀ C : ByteArray, M.parse C.data.toList = some (s2, M.subst c1 c2) → applied (M.parse C.data.toList) a2.data.toList = some (M.made c2 (M.made c1 a2.data.toList)) := fun C hCp => by
    rw [hCp]; simp only [applied]
    have := M.reach_subst c1 c2 (by omega)
    rw [if_neg (by simp; omega), M.made_subst c1 c2 _ (by omega)]
  have p4 := refApply_any a0 a2 h0
  have p5 := refApply_any a1 ⟨(M.made c1 a2.data.toList).toArray⟩ h1
  have p6 := fun (C : ByteArray) (hCs : C.size ≤ 140737488351232) (hCp : M.parse C.data.toList = some (s2, M.subst c1 c2)) (w : World) => by
    have h := refApply_any C a2 hCs w
    rw [hz C hCp] at h
    exact h
  rw [ha] at p4
  rw [show (⟨(M.made c1 a2.data.toList).toArray⟩ : ByteArray).data.toList = M.made c1 a2.data.toList by simp, hm] at p5
  simp only [appliedEnd] at p4 p5 p6
  generalize (⟨(M.made c1 a2.data.toList).toArray⟩ : ByteArray) = m1 at *
  generalize (⟨(M.made c2 (M.made c1 a2.data.toList)).toArray⟩ : ByteArray) = m2 at *
  have P1 : Hid _ := p1
  have P2 : Hid _ := p2
  have P3 : Hid _ := fun (C : ByteArray) (hCs : C.size ≤ 140737488351232) (hCp : M.parse C.data.toList = some (s2, M.subst c1 c2)) (w : World) => by
    have p3 := (refRead_any C hCs w).mono fun e w' h => readPost_form h
    rw [hCp] at p3
    simp only [Option.isSome] at p3
    exact p3
  have P4 : Hid _ := p4
  have P5 : Hid _ := p5
  have P6 : Hid _ := p6
  clear p1 p2 p4 p5 p6 hc hp hq ha hm hz hb1
  go_enter Try.func5, Try.ntmps5
  go_wp2_with fail
  refine (P1.out _).mono ?_
  rintro e w1 ⟨C, ⟨hCs, hCp⟩, rfl, q1⟩
  go_wp2_with fail
  refine (P2.out _).mono ?_
  rintro e w2 ⟨rfl, q2⟩
  go_wp2_with fail
  refine (P3.out C hCs hCp _).mono ?_
  rintro e w3 ⟨y, ao, n, cap, rfl, q3⟩
  go_wp2_with fail
  refine (P4.out _).mono ?_
  rintro e w4 ⟨rfl, q4⟩
  go_wp2_with fail
  refine (P5.out _).mono ?_
  rintro e w5 ⟨rfl, q5⟩
  go_wp2_with fail
  refine (P6.out C hCs hCp _).mono ?_
  rintro e w6 ⟨rfl, q6⟩
  go_wp2_with fail
  go_ret
  exact ⟨rfl, (((((q1.trans q2).trans q3).alloc _ _).trans q4).trans q5).trans q6⟩

theorem composes_walk (a0 a1 a2 : ByteArray) (h0 : a0.size ≤ 140737488351232) (h1 : a1.size ≤ 140737488351232) (_h2 : a2.size ≤ 140737488351232) (w : World) :
    Calls Try.prog 5 #[.string a0, .string a1, .string a2] w fun e w' => e = .returned (.bool true) ∧ Q w w' := by
  cases hp : M.parse a0.data.toList with
  | none => exact composes_no a0 a1 a2 h0 h1 (by rw [hp]; rfl) w
  | some p =>
    cases hq : M.parse a1.data.toList with
    | none => exact composes_no a0 a1 a2 h0 h1 (by rw [hp, hq]; rfl) w
    | some q =>
      obtain ⟨s1, c1⟩ := p
      obtain ⟨s2, c2⟩ := q
      by_cases hr : M.reach c2 ≤ s1
      · by_cases hfar : a2.size < M.reach c1
        · exact composes_far a0 a1 a2 h0 h1 s1 s2 c1 c2 hp hq hr hfar w
        · exact composes_yes a0 a1 a2 h0 h1 s1 s2 c1 c2 hp hq hr hfar w
      · exact composes_no a0 a1 a2 h0 h1 (by rw [hp, hq]; simp [composable]; omega) w
end Go.Proofs.Ytekdenkllipehaa
