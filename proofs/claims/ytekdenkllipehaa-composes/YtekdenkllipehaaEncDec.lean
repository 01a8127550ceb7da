/-
  Plain mathematics: a number that was written is read again. Nothing of the program is named here.
-/
import Derived.Test.YtekdenkllipehaaChg
namespace Go.Proofs.Ytekdenkllipehaa.M

theorem rd_enc : ∀ (f n : Nat) (cs q : List UInt8), n < 128 ^ (f + 1) → (cs = [] ∨ 0 < n) → rd (f + 1) cs (enc f n ++ q) = some (val cs + n * 128 ^ cs.length, cs.length + (enc f n).length)
  | f, n, cs, q, hn, h0 => by
    by_cases h : n < 128
    · rw [enc_small f n h]
      have hb : (UInt8.ofNat n).toNat = n := by rw [UInt8.toNat_ofNat']; omega
      have hz : ¬ (UInt8.ofNat n = 0 ∧ cs ≠ []) := by
        rintro ⟨e, hc⟩
        have : n = 0 := by rw [← hb, e]; rfl
        rcases h0 with h0 | h0
        · exact hc h0
        · omega
      simp only [List.cons_append, List.nil_append, rd]
      rw [if_pos (by omega), if_neg hz, val_snoc, hb, show n % 128 = n by omega]
      simp
    · match f, hn with
      | 0, hn => simp at hn; omega
      | f + 1, hn =>
        rw [enc_big f n h]
        have hb : (UInt8.ofNat (n % 128 + 128)).toNat = n % 128 + 128 := by rw [UInt8.toNat_ofNat']; omega
        have hp : n / 128 < 128 ^ (f + 1) := by
          rw [Nat.pow_succ] at hn
          exact Nat.div_lt_of_lt_mul (by rw [Nat.mul_comm]; exact hn)
        show rd (f + 2) cs (UInt8.ofNat (n % 128 + 128) :: (enc f (n / 128) ++ q)) = _
        rw [rd, if_neg (by omega), rd_enc f (n / 128) _ q hp (Or.inr (by omega)), val_snoc, hb]
        simp only [List.length_append, List.length_cons, List.length_nil, Nat.zero_add, Option.some.injEq, Prod.mk.injEq]
        refine ⟨?_, by omega⟩
        rw [show (n % 128 + 128) % 128 = n % 128 by omega, Nat.pow_succ, Nat.add_assoc, Nat.mul_comm (128 ^ cs.length) 128, ← Nat.mul_assoc, ← Nat.add_mul]
        congr 2
        omega

theorem enc_pos (f n : Nat) : 0 < (enc f n).length := by
  cases f with
  | zero => simp [enc]
  | succ f => simp only [enc]; split <;> simp

/-- A number that was written, read at its place. -/
theorem getAt_enc (p q : List UInt8) (n : Nat) (hn : n < 72057594037927936) : getAt (p ++ (enc 7 n ++ q)) p.length = some (n, p.length + (enc 7 n).length) := by
  have hl := enc_pos 7 n
  unfold getAt
  rw [if_pos (by simp; omega), List.drop_left, rd_enc 7 n [] q (by simpa using hn) (Or.inl rfl)]
  simp [val]

/-- What was read is what would be written. -/
theorem rd_back : ∀ (f : Nat) (cs l : List UInt8) (v k : Nat), cs.length + f = 8 → (∀ c ∈ cs, 128 ≤ c.toNat) → rd f cs l = some (v, k) → cs ++ l = enc 7 v ++ l.drop (k - cs.length) ∧ (enc 7 v).length = k
  | 0, _, _, _, _, _, _, h => by simp [rd] at h
  | f + 1, cs, [], _, _, _, _, h => by simp [rd] at h
  | f + 1, cs, b :: l, v, k, hf, hc, h => by
    simp only [rd] at h
    by_cases hb : b.toNat < 128
    · rw [if_pos hb] at h
      by_cases hz : b = 0 ∧ cs ≠ []
      · rw [if_pos hz] at h; simp at h
      · rw [if_neg hz] at h
        simp only [Option.some.injEq, Prod.mk.injEq] at h
        obtain ⟨rfl, rfl⟩ := h
        have he := (enc_val cs b 7 ⟨hc, hb⟩ (by omega) (by
          by_cases hcs : cs = []
          · exact Or.inl hcs
          · exact Or.inr fun e => hz ⟨e, hcs⟩)).1
        rw [he]
        refine ⟨?_, by simp⟩
        rw [Nat.add_sub_cancel_left]; simp
    · rw [if_neg hb] at h
      have ih := rd_back f (cs ++ [b]) l v k (by simp; omega) (by
        intro c hm
        rcases List.mem_append.1 hm with hm | hm
        · exact hc c hm
        · simp at hm; subst hm; omega) h
      have hk := (rd_bound f (cs ++ [b]) l v k (by simp; omega) h).2.1
      simp only [List.length_append, List.length_cons, List.length_nil, Nat.zero_add] at hk ih
      refine ⟨?_, ih.2⟩
      rw [show k - cs.length = (k - (cs.length + 1)) + 1 by omega, List.drop_succ_cons, ← ih.1]
      simp

theorem getAt_back {l : List UInt8} {a v nx : Nat} (h : getAt l a = some (v, nx)) : l.drop a = enc 7 v ++ l.drop nx ∧ nx = a + (enc 7 v).length := by
  unfold getAt at h
  split at h
  · cases hr : rd 8 [] (l.drop a) with
    | none => rw [hr] at h; simp at h
    | some p =>
      obtain ⟨u, k⟩ := p
      rw [hr] at h
      simp only [Option.some.injEq, Prod.mk.injEq] at h
      obtain ⟨rfl, rfl⟩ := h
      obtain ⟨h1, h2⟩ := rd_back 8 [] (l.drop a) u k rfl (by simp) hr
      simp only [List.nil_append, List.length_nil, Nat.sub_zero, List.drop_drop] at h1
      exact ⟨h1, by omega⟩
  · simp at h

end Go.Proofs.Ytekdenkllipehaa.M
