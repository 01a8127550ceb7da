/-
  What find has found so far: plain mathematics.
-/
import Derived.Test.YtekdenkllipehaaGrowM
import Derived.Test.YtekdenkllipehaaLongM
namespace Go.Proofs.Ytekdenkllipehaa

/-- Steps that make the first bytes of the target, of a base. -/
structure Found (b t : ByteArray) (done : Nat) (C : List M.St) : Prop where
  good : M.Goods C
  le : done ≤ t.size
  reach : M.reach (M.flat C) ≤ b.size
  made : M.made (M.flat C) b.data.toList = t.data.toList.take done

theorem Found.tot {b t : ByteArray} {done : Nat} {C : List M.St} (h : Found b t done C) : M.tot C = done := by
  have h1 := M.flat_length h.good
  have h2 : (M.made (M.flat C) b.data.toList).length = (M.flat C).length := by simp [M.made]
  rw [h.made] at h2
  have h3 := h.le
  simp at h2
  omega

theorem Found.start (b t : ByteArray) : Found b t 0 [] := ⟨M.Goods.nil, Nat.zero_le _, by simp [M.flat, M.reach], by simp [M.flat, M.made]⟩

theorem putsOf_size (s : ByteArray) : M.cost (putsOf s) ≤ s.size + 2 ∨ 4096 < s.size := by
  by_cases h : 4096 < s.size
  · exact Or.inr h
  · left
    unfold putsOf
    split
    · simp [M.cost]
    · rename_i h0
      rw [M.cost_one]
      unfold M.St.cost
      rw [if_neg h0]
      have := M.enc_two (n := 2 * s.size) (by omega)
      simp only; omega

/-- What is put behind. -/
theorem Found.put {b t : ByteArray} {done e : Nat} {C : List M.St} (h : Found b t done C) (he : done ≤ e) (hl : e ≤ t.size) (ht : t.size ≤ 4096) : Found b t e (C ++ putsOf (t.extract done e)) := by
  have hz : (t.extract done e).size = e - done := by simp; omega
  have hlt : t.data.toList.length = t.size := by simp
  unfold putsOf
  by_cases h0 : (t.extract done e).size = 0
  · rw [if_pos h0, List.append_nil]
    have : e = done := by omega
    subst this
    exact h
  · rw [if_neg h0]
    have hgood : (⟨t.extract done e, 0, (t.extract done e).size⟩ : M.St).Good := Or.inr ⟨h0, rfl, rfl, by simp only; omega⟩
    have hacc : (⟨t.extract done e, 0, (t.extract done e).size⟩ : M.St).acc = (t.extract done e).data.toList.map UInt8.toNat := if_neg h0
    refine ⟨h.good.append (M.Goods.one hgood), hl, ?_, ?_⟩
    · rw [M.flat_append, M.flat_one, M.reach_append, hacc, M.reach_bytes]
      have := h.reach
      omega
    · rw [M.flat_append, M.flat_one, M.made_append, h.made, hacc, M.made_bytes]
      simp only [ByteArray.data_extract, Array.toList_extract, List.extract_eq_take_drop]
      rw [← List.take_add, show done + (e - done) = e by omega]

/-- What is taken behind. -/
theorem Found.take {b t : ByteArray} {done place size : Nat} {C : List M.St} (h : Found b t done C) (hs : 1 ≤ size) (hp : place + size ≤ b.size) (hl : done + size ≤ t.size) (hb : b.size ≤ 4096) (he : (b.data.toList.drop place).take size = (t.data.toList.drop done).take size) : Found b t (done + size) (C ++ [⟨⟨#[]⟩, place, size⟩]) := by
  have hgood : (⟨⟨#[]⟩, place, size⟩ : M.St).Good := Or.inl ⟨rfl, hs, by simp only; omega, by simp only; omega⟩
  have hacc : (⟨⟨#[]⟩, place, size⟩ : M.St).acc = M.taken place size := if_pos rfl
  have hlb : b.data.toList.length = b.size := by simp
  refine ⟨h.good.append (M.Goods.one hgood), hl, ?_, ?_⟩
  · rw [M.flat_append, M.flat_one, M.reach_append, hacc, M.reach_taken _ _ hs]
    have := h.reach
    omega
  · rw [M.flat_append, M.flat_one, M.made_append, h.made, hacc, M.made_taken _ _ _ (by omega), he, ← List.take_add]

/-- What find answers. -/
def FindSaid (b t : ByteArray) (C : List M.St) : Prop := Found b t t.size C ∧ M.cost C ≤ t.size + 2 ∧ (b = t → M.cost C ≤ 6)

/-- How long what was found is: never longer than what is done; of a base that is the target: the whole is taken at once. -/
structure Short (b t : ByteArray) (done at_ : Nat) (C : List M.St) : Prop where
  cost : M.cost C ≤ done
  same : b = t → 4 ≤ b.size → (at_ = 0 ∧ done = 0 ∧ C = []) ∨ (done = t.size ∧ M.cost C ≤ 6)

theorem cost_taken (place size : Nat) : (⟨⟨#[]⟩, place, size⟩ : M.St).cost = (M.enc 7 (2 * size + 1)).length + (M.enc 7 place).length := if_pos rfl

/-- The whole pays. -/
theorem whole_pays (size : Nat) (h4 : 4 ≤ size) (hs : size ≤ 4096) : (⟨⟨#[]⟩, 0, size⟩ : M.St).cost + 2 ≤ size ∧ (⟨⟨#[]⟩, 0, size⟩ : M.St).cost ≤ 6 := by
  rw [cost_taken, M.enc_one (n := 0) (by omega)]
  by_cases h : 2 * size + 1 < 128
  · rw [M.enc_one h]; omega
  · have := M.enc_two (n := 2 * size + 1) (by omega)
    omega
end Go.Proofs.Ytekdenkllipehaa
