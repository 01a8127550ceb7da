/-
  Plain mathematics: pieces of steps. Nothing of the program is named here.
-/
import Derived.Test.YtekdenkllipehaaStp
namespace Go.Proofs.Ytekdenkllipehaa.M

/-- The step that makes n bytes of those that s makes, from k on. -/
def St.part (s : St) (k n : Nat) : St := if s.put.size = 0 then ⟨⟨#[]⟩, s.place + k, n⟩ else ⟨s.put.extract k (k + n), 0, n⟩

theorem taken_drop (p a n : Nat) (h : a ≤ n) : (taken p n).drop a = taken (p + a) (n - a) := by
  have e : taken p n = taken p a ++ taken (p + a) (n - a) := by rw [← taken_append]; congr 1; omega
  rw [e, List.drop_append_of_le_length (by rw [taken_length]; omega), List.drop_of_length_le (by rw [taken_length]; omega), List.nil_append]
theorem taken_take (p n m : Nat) (h : n ≤ m) : (taken p m).take n = taken p n := by
  have e : taken p m = taken p n ++ taken (p + n) (m - n) := by rw [← taken_append]; congr 1; omega
  rw [e, List.take_append_of_le_length (by rw [taken_length]; omega), List.take_of_length_le (by rw [taken_length]; omega)]

theorem part_good {s : St} (h : s.Good) {k n : Nat} (hn : 1 ≤ n) (hk : k + n ≤ s.size) : (s.part k n).Good ∧ (s.part k n).size = n ∧ (s.part k n).acc = (s.acc.drop k).take n := by
  have hp := h.pos
  unfold St.part
  by_cases h0 : s.put.size = 0
  · rw [if_pos h0]
    refine ⟨Or.inl ⟨rfl, hn, by simp only; omega, by simp only; omega⟩, rfl, ?_⟩
    have e0 : (⟨⟨#[]⟩, s.place + k, n⟩ : St).acc = taken (s.place + k) n := if_pos rfl
    have e1 : s.acc = taken s.place s.size := if_pos h0
    rw [e0, e1, taken_drop _ _ _ (by omega), taken_take _ _ _ (by omega)]
  · rw [if_neg h0]
    have hs : s.size = s.put.size := by
      rcases h with e | e
      · exact absurd e.1 h0
      · exact e.2.1
    have hz : (s.put.extract k (k + n)).size = n := by simp; omega
    refine ⟨Or.inr ⟨by simp only; omega, by simp only; omega, rfl, by simp only; omega⟩, rfl, ?_⟩
    have e0 : (⟨s.put.extract k (k + n), 0, n⟩ : St).acc = (s.put.extract k (k + n)).data.toList.map UInt8.toNat := if_neg (by simp only; omega)
    have e1 : s.acc = s.put.data.toList.map UInt8.toNat := if_neg h0
    rw [e0, e1]
    simp [List.map_drop, List.map_take]

theorem subst_append (a b c : List Nat) : subst a (b ++ c) = subst a b ++ subst a c := by simp [subst]
theorem subst_bytes (a : List Nat) (l : List UInt8) : subst a (l.map UInt8.toNat) = l.map UInt8.toNat := by
  unfold subst
  rw [List.map_map]
  apply List.map_congr_left
  intro b _
  have := b.toNat_lt
  simp only [Function.comp]
  rw [if_neg (by omega)]
theorem subst_taken (a : List Nat) (p n : Nat) (h : p + n ≤ a.length) : subst a (taken p n) = (a.drop p).take n := by
  induction n with
  | zero => simp [subst, taken]
  | succ n ih =>
    rw [taken_succ, subst_append, ih (by omega)]
    have hb : (a.drop p)[n]? = some a[p + n] := by rw [List.getElem?_drop, List.getElem?_eq_getElem (by omega)]
    rw [List.take_add_one, hb]
    simp only [subst, List.map_cons, List.map_nil]
    rw [if_pos (by omega), show 256 + p + n - 256 = p + n by omega]
    simp [List.getElem?_eq_getElem (show p + n < a.length by omega)]

/-! ### Where a place lies -/

/-- How many of the first n ends are at most x: those below, none behind. -/
theorem count_ends (f : Nat → Int) (x : Int) (n : Nat) (hm : ∀ a b, a ≤ b → b < n → f a ≤ f b) :
    ((List.range n).map f).countP (fun y => !decide (x ≤ y)) ≤ n ∧ (∀ k, k < ((List.range n).map f).countP (fun y => !decide (x ≤ y)) → f k < x) ∧ (∀ k, ((List.range n).map f).countP (fun y => !decide (x ≤ y)) ≤ k → k < n → x ≤ f k) := by
  induction n with
  | zero => simp
  | succ n ih =>
    obtain ⟨i1, i2, i3⟩ := ih fun a b hab hb => hm a b hab (by omega)
    rw [List.range_succ, List.map_append, List.countP_append]
    generalize ((List.range n).map f).countP (fun y => !decide (x ≤ y)) = c at *
    by_cases hx : x ≤ f n
    · have e : ([n].map f).countP (fun y => !decide (x ≤ y)) = 0 := by simp [hx]
      rw [e]
      refine ⟨by omega, fun k hk => i2 k (by omega), fun k hk hkn => ?_⟩
      by_cases hk2 : k = n
      · subst hk2; exact hx
      · exact i3 k (by omega) (by omega)
    · have e : ([n].map f).countP (fun y => !decide (x ≤ y)) = 1 := by simp [hx]
      rw [e]
      have hcn : c = n := by
        rcases Nat.lt_or_ge c n with hlt | hge
        · have h1 := i3 c (Nat.le_refl _) hlt
          have h2 := hm c n (by omega) (by omega)
          omega
        · omega
      subst hcn
      refine ⟨by omega, fun k hk => ?_, fun k hk hkn => by omega⟩
      by_cases hk2 : k = c
      · subst hk2; omega
      · exact i2 k (by omega)

theorem tot_mono {L : List St} (a b : Nat) (h : a ≤ b) : tot (L.take a) ≤ tot (L.take b) := by
  have : L.take a = (L.take b).take a := by rw [List.take_take]; congr 1; omega
  rw [this]
  exact tot_take_le _ _

/-- The bytes from at on, of what steps make: the i-th step's own, and what lies behind. -/
theorem flat_piece {L : List St} (hg : Goods L) {i : Nat} {s : St} (hs : L[i]? = some s) {at_ n : Nat} (h1 : tot (L.take i) ≤ at_) (h2 : at_ + n ≤ tot (L.take (i + 1))) :
    ((flat L).drop at_).take n = (s.acc.drop (at_ - tot (L.take i))).take n := by
  have hsplit : flat L = flat (L.take i) ++ (s.acc ++ flat (L.drop (i + 1))) := by
    conv => lhs; rw [← List.take_append_drop (i + 1) L]
    rw [flat_append, flat_take hs, List.append_assoc]
  have hl := flat_length (hg.take i)
  have ha := St.acc_length (hg.get hs)
  have ht := tot_take hs
  rw [hsplit, List.drop_append, List.drop_of_length_le (by omega), List.nil_append, hl, List.drop_append_of_le_length (by omega), List.take_append_of_le_length (by rw [List.length_drop]; omega)]
end Go.Proofs.Ytekdenkllipehaa.M
