import Derived.Test.YtekdenkllipehaaRefApply
import Derived.Deep.QuietTactic
import Derived.BigQuiet
import Derived.Deep.RegionWith
namespace Go.Proofs.Ytekdenkllipehaa
open Go.RowKit

/-- May two changes be composed? -/
def composable (a b : Option (Nat × List Nat)) : Bool :=
  match a, b with
  | some (size, _), some (_, acc) => decide (M.reach acc ≤ size)
  | _, _ => false

/-- Whatever was read, the answer's form. -/
theorem readPost_form {r : Option (Nat × List Nat)} {w w' : World} {e : Ending} (h : ReadPost r w e w') :
    ∃ (y : Int) (ao : Option Addr) (n cap : Nat), e = .returned (.tuple #[.agg #[.int .i64 y, .slice ao n cap], .bool r.isSome]) ∧ Q w w' := by
  cases r with
  | none =>
    obtain ⟨x, ao, n, cap, he, hb⟩ := h
    exact ⟨x, ao, n, cap, he, ⟨hb⟩⟩
  | some p =>
    obtain ⟨ao, cap, he, _, hb⟩ := h
    exact ⟨_, ao, _, cap, he, ⟨hb⟩⟩

set_option maxRecDepth 100000 in
set_option maxHeartbeats 400000 in
theorem composed_bad (a b : ByteArray) (ha : a.size ≤ 140737488351232) (hb : b.size ≤ 140737488351232) (p q : Bool) (hp : (M.parse a.data.toList).isSome = p) (hq : (M.parse b.data.toList).isSome = q) (hpq : (p && q) = false) (w : World) :
    Calls Try.prog 16 #[.string a, .string b] w fun e w' => e = .returned (.int .i64 5) ∧ Q w w' := by
  have hR := fun w => (refRead_any a ha w).mono fun e w' h => readPost_form h
  have hS := fun w => (refRead_any b hb w).mono fun e w' h => readPost_form h
  rw [hp] at hR
  rw [hq] at hS
  have HR : Hid _ := hR
  have HS : Hid _ := hS
  clear hR hp hS hq
  cases p with
  | false =>
    go_enter Try.func16, Try.ntmps16
    go_wp2_with fail
    refine (HR.out _).mono ?_
    rintro e w1 ⟨x, ao, n, cap, rfl, q1⟩
    go_wp2_with fail
    refine (HS.out _).mono ?_
    rintro e w2 ⟨y, ao2, n2, cap2, rfl, q2⟩
    go_wp2_with fail
    go_quiet (fail)
    go_wp2_with fail
    go_ret
    exact ⟨rfl, ((((q1.alloc _ _).trans q2).alloc _ _).drewN _)⟩
  | true =>
    obtain rfl : q = false := by simpa using hpq
    go_enter Try.func16, Try.ntmps16
    go_wp2_with fail
    refine (HR.out _).mono ?_
    rintro e w1 ⟨x, ao, n, cap, rfl, q1⟩
    go_wp2_with fail
    refine (HS.out _).mono ?_
    rintro e w2 ⟨y, ao2, n2, cap2, rfl, q2⟩
    go_wp2_with fail
    go_quiet (fail)
    go_wp2_with fail
    go_ret
    exact ⟨rfl, ((((q1.alloc _ _).trans q2).alloc _ _).drewN _)⟩


theorem second_var {w1 w2 : World} {x y : Value} {t : TypeId} (hb : Below (w1.alloc (.cells #[x, y] t)).heap.size (w1.alloc (.cells #[x, y] t)) w2) (x2 y2 : Value) (t2 : TypeId) :
    (w2.alloc (.cells #[x2, y2] t2)).cell? ⟨w1.heap.size, 0, none⟩ = some x := by
  have h := hb.size
  simp only [World.size_alloc] at h
  exact (((Below.refl _ w2).alloc (Nat.le_refl _) _).cell (p := ⟨w1.heap.size, 0, none⟩) (by show w1.heap.size < w2.heap.size; omega)).trans (var_kept ⟨hb⟩).1

theorem kept_var {w w' : World} {p : Addr} {v : Value} (h : w.cell? p = some v) (q : Q w w') : w'.cell? p = some v := by
  have hlt : p.block < w.heap.size := by
    rcases Nat.lt_or_ge p.block w.heap.size with hl | hl
    · exact hl
    · unfold World.cell? at h
      rw [Array.getElem?_eq_none hl] at h
      simp at h
  exact (q.below.cell hlt).trans h

set_option maxRecDepth 100000 in
set_option maxHeartbeats 2000000 in
theorem composed_far (a b : ByteArray) (ha : a.size ≤ 140737488351232) (hb : b.size ≤ 140737488351232) (s1 s2 : Nat) (c1 c2 : List Nat) (hp : M.parse a.data.toList = some (s1, c1)) (hq : M.parse b.data.toList = some (s2, c2)) (hfar : s1 < M.reach c2) (w : World) :
    Calls Try.prog 16 #[.string a, .string b] w fun e w' => e = .returned (.int .i64 5) ∧ Q w w' := by
  obtain ⟨rfl, hs1, hf1⟩ := M.parse_bound hp
  obtain ⟨rfl, hs2, hf2⟩ := M.parse_bound hq
  have hR := refRead_any a ha
  rw [hp] at hR
  have hS := refRead_any b hb
  rw [hq] at hS
  have hrf := M.reach_fit hf2
  have HRe : Hid _ := fun (ao : Option Addr) (cap base : Nat) => reach_any c2.length ao cap base c2 hf2 hs2
  have HR : Hid _ := hR
  have HS : Hid _ := hS
  clear hR hp hS hq
  go_enter Try.func16, Try.ntmps16
  go_wp2_with fail
  refine (HR.out _).mono ?_
  rintro e w1 ⟨ao, cap, rfl, ho1, hb1⟩
  go_wp2_with fail
  refine (HS.out _).mono ?_
  rintro e w2 ⟨ao2, cap2, rfl, ho2, hb2⟩
  have HR2 : Hid _ := fun (W : World) h => HRe.out ao2 cap2 (w1.alloc (.cells #[.int .i64 (c1.length : Int), .slice ao c1.length cap] 33)).heap.size W h
  have e0 := second_var hb2 (.int .i64 (c2.length : Int)) (.slice ao2 c2.length cap2) 33
  go_wp2_with fail
  go_region_with (go_at_call 24; refine (HR2.out _ ?_).mono ?_; exact ho2.alloc _; rintro e w3 ⟨rfl, q3⟩; have e3 := (kept_var e0 (q_undrew q3)))
  all_goals
    go_wp2_with fail
    go_ret
    exact ⟨rfl, ((((Q.mk hb1).alloc _ _).trans ⟨hb2⟩).alloc _ _).trans (q_undrew q3)⟩

set_option maxRecDepth 100000 in
set_option maxHeartbeats 2000000 in
theorem composed_good (a b : ByteArray) (ha : a.size ≤ 140737488351232) (hb : b.size ≤ 140737488351232) (s1 s2 : Nat) (c1 c2 : List Nat) (hp : M.parse a.data.toList = some (s1, c1)) (hq : M.parse b.data.toList = some (s2, c2)) (hfar : ¬ s1 < M.reach c2) (w : World) :
    Calls Try.prog 16 #[.string a, .string b] w fun e w' => e = .returned (.int .i64 0) ∧ Q w w' := by
  obtain ⟨rfl, hs1, hf1⟩ := M.parse_bound hp
  obtain ⟨rfl, hs2, hf2⟩ := M.parse_bound hq
  have hR := refRead_any a ha
  rw [hp] at hR
  have hS := refRead_any b hb
  rw [hq] at hS
  have hrf := M.reach_fit hf2
  have HRe : Hid _ := fun (ao : Option Addr) (cap base : Nat) => reach_any c2.length ao cap base c2 hf2 hs2
  have HR : Hid _ := hR
  have HS : Hid _ := hS
  clear hR hp hS hq
  go_enter Try.func16, Try.ntmps16
  go_wp2_with fail
  refine (HR.out _).mono ?_
  rintro e w1 ⟨ao, cap, rfl, ho1, hb1⟩
  go_wp2_with fail
  refine (HS.out _).mono ?_
  rintro e w2 ⟨ao2, cap2, rfl, ho2, hb2⟩
  have HR2 : Hid _ := fun (W : World) h => HRe.out ao2 cap2 (w1.alloc (.cells #[.int .i64 (c1.length : Int), .slice ao c1.length cap] 33)).heap.size W h
  have e0 := second_var hb2 (.int .i64 (c2.length : Int)) (.slice ao2 c2.length cap2) 33
  go_wp2_with fail
  go_region_with (go_at_call 24; refine (HR2.out _ ?_).mono ?_; exact ho2.alloc _; rintro e w3 ⟨rfl, q3⟩; have e3 := (kept_var e0 (q_undrew q3)))
  all_goals
    go_wp2_with fail
    go_ret
    exact ⟨rfl, ((((Q.mk hb1).alloc _ _).trans ⟨hb2⟩).alloc _ _).trans (q_undrew q3)⟩

/-- Composed's answer. -/
theorem composed_any (a b : ByteArray) (ha : a.size ≤ 140737488351232) (hb : b.size ≤ 140737488351232) (w : World) :
    Calls Try.prog 16 #[.string a, .string b] w fun e w' => e = .returned (.int .i64 (if composable (M.parse a.data.toList) (M.parse b.data.toList) then 0 else 5)) ∧ Q w w' := by
  cases hp : M.parse a.data.toList with
  | none => exact composed_bad a b ha hb false _ (by rw [hp]; rfl) rfl rfl w
  | some p =>
    cases hq : M.parse b.data.toList with
    | none => exact composed_bad a b ha hb true false (by rw [hp]; rfl) (by rw [hq]; rfl) rfl w
    | some q =>
      obtain ⟨s1, c1⟩ := p
      obtain ⟨s2, c2⟩ := q
      by_cases hfar : s1 < M.reach c2
      · have hc : composable (some (s1, c1)) (some (s2, c2)) = false := by simp [composable]; omega
        rw [hc]; exact composed_far a b ha hb s1 s2 c1 c2 hp hq hfar w
      · have hc : composable (some (s1, c1)) (some (s2, c2)) = true := by simp [composable]; omega
        rw [hc]; exact composed_good a b ha hb s1 s2 c1 c2 hp hq hfar w
end Go.Proofs.Ytekdenkllipehaa
