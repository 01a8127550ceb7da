/-
  Plain mathematics on numbers as bytes: nothing of the program is named here.
-/
import GoSem.Claim
namespace Go.Proofs.YtekdenkllipehaaDoor.M

/-- A number as bytes, at most f + 1 of them. -/
def enc : Nat → Nat → List UInt8
  | 0, n => [UInt8.ofNat n]
  | f + 1, n => if n < 128 then [UInt8.ofNat n] else UInt8.ofNat (n % 128 + 128) :: enc f (n / 128)

theorem enc_small (f n : Nat) (h : n < 128) : enc f n = [UInt8.ofNat n] := by
  cases f with
  | zero => rfl
  | succ f => simp [enc, h]

theorem enc_big (f n : Nat) (h : ¬ n < 128) : enc (f + 1) n = UInt8.ofNat (n % 128 + 128) :: enc f (n / 128) := by
  simp [enc, h]

/-- What is left to be written behind 'acc' of the number whose bytes are l: the number m, in at most f + 1 bytes. -/
def Rest (l : List UInt8) (f m : Nat) (acc : List UInt8) : Prop := m < 128 ^ (f + 1) ∧ acc.length + f = 7 ∧ acc ++ enc f m = l

theorem rest_start (n : Nat) (h : n < 72057594037927936) : Rest (enc 7 n) 7 n [] := ⟨by simpa using h, rfl, rfl⟩

theorem rest_big {l : List UInt8} {f m : Nat} {acc : List UInt8} (h : Rest l f m acc) (hm : ¬ m < 128) : ∃ g, f = g + 1 ∧ Rest l g (m / 128) (acc ++ [UInt8.ofNat (m % 128 + 128)]) := by
  obtain ⟨h1, h2, h3⟩ := h
  cases f with
  | zero => simp at h1; omega
  | succ g =>
    refine ⟨g, rfl, ?_, by simp; omega, ?_⟩
    · rw [Nat.pow_succ] at h1
      exact Nat.div_lt_of_lt_mul (by rw [Nat.mul_comm]; exact h1)
    · rw [enc_big g m hm] at h3
      simpa using h3

theorem rest_small {l : List UInt8} {f m : Nat} {acc : List UInt8} (h : Rest l f m acc) (hm : m < 128) : acc ++ [UInt8.ofNat m] = l := by
  rw [← enc_small f m hm]; exact h.2.2

theorem rest_len {l : List UInt8} {f m : Nat} {acc : List UInt8} (h : Rest l f m acc) : acc.length ≤ 7 := by have := h.2.1; omega

theorem rest_lt {l : List UInt8} {f m : Nat} {acc : List UInt8} (h : Rest l f m acc) : m < 72057594037927936 := by
  have h1 := h.1
  have h2 := h.2.1
  have : 128 ^ (f + 1) ≤ 128 ^ 8 := Nat.pow_le_pow_right (by omega) (by omega)
  have e : (128 : Nat) ^ 8 = 72057594037927936 := by decide
  omega

/-! ### Reading -/

/-- The number that bytes hold, the lowest seven bits first. -/
def val : List UInt8 → Nat
  | [] => 0
  | b :: l => b.toNat % 128 + 128 * val l

theorem val_snoc (l : List UInt8) (b : UInt8) : val (l ++ [b]) = val l + b.toNat % 128 * 128 ^ l.length := by
  induction l with
  | nil => simp [val]
  | cons c l ih => simp only [List.cons_append, val, ih, List.length_cons, Nat.pow_succ]; rw [Nat.mul_add]; rw [show b.toNat % 128 * (128 ^ l.length * 128) = 128 * (b.toNat % 128 * 128 ^ l.length) by rw [Nat.mul_comm (128 ^ l.length) 128, Nat.mul_left_comm]]; omega

theorem val_lt (l : List UInt8) : val l < 128 ^ l.length := by
  induction l with
  | nil => simp [val]
  | cons c l ih => simp only [val, List.length_cons, Nat.pow_succ]; omega

/-- Every byte but the last has 128 added, the last has not. -/
def Shape (cs : List UInt8) (b : UInt8) : Prop := (∀ c ∈ cs, 128 ≤ c.toNat) ∧ b.toNat < 128

theorem enc_val (cs : List UInt8) (b : UInt8) (f : Nat) (hs : Shape cs b) (hf : cs.length ≤ f) (hb : cs = [] ∨ b ≠ 0) : enc f (val (cs ++ [b])) = cs ++ [b] ∧ (b ≠ 0 → 0 < val (cs ++ [b])) := by
  induction cs generalizing f with
  | nil =>
    have h := hs.2
    simp only [List.nil_append, val, Nat.mul_zero, Nat.add_zero, Nat.mod_eq_of_lt h]
    refine ⟨by rw [enc_small _ _ h]; simp, fun h0 => ?_⟩
    rcases Nat.eq_zero_or_pos b.toNat with e | e
    · exact absurd (UInt8.toNat_inj.1 e) h0
    · exact e
  | cons c cs ih =>
    have hb0 : b ≠ 0 := by rcases hb with h | h; (· simp at h); exact h
    simp only [List.length_cons] at hf
    obtain ⟨g, rfl⟩ : ∃ g, f = g + 1 := ⟨f - 1, by omega⟩
    obtain ⟨i1, i2⟩ := ih g ⟨fun x hx => hs.1 x (by simp [hx]), hs.2⟩ (by omega) (Or.inr hb0)
    have hp := i2 hb0
    have hc := hs.1 c (by simp)
    have hc2 := c.toNat_lt
    refine ⟨?_, fun _ => by simp only [List.cons_append, val]; omega⟩
    simp only [List.cons_append, val]
    rw [enc_big g _ (by omega), show (c.toNat % 128 + 128 * val (cs ++ [b])) % 128 + 128 = c.toNat by omega, show (c.toNat % 128 + 128 * val (cs ++ [b])) / 128 = val (cs ++ [b]) by omega, i1]
    simp

theorem enc_ne (cs : List UInt8) (f : Nat) (hs : ∀ c ∈ cs, 128 ≤ c.toNat) (hf : cs.length ≤ f) (hn : cs ≠ []) : enc f (val (cs ++ [0])) ≠ cs ++ [0] := by
  induction cs generalizing f with
  | nil => exact absurd rfl hn
  | cons c cs ih =>
    simp only [List.length_cons] at hf
    obtain ⟨g, rfl⟩ : ∃ g, f = g + 1 := ⟨f - 1, by omega⟩
    simp only [List.cons_append, val]
    by_cases h : c.toNat % 128 + 128 * val (cs ++ [0]) < 128
    · rw [enc_small _ _ h]; simp
    · rw [enc_big g _ h, show (c.toNat % 128 + 128 * val (cs ++ [0])) / 128 = val (cs ++ [0]) by omega]
      intro he
      simp only [List.cons.injEq] at he
      by_cases hc : cs = []
      · subst hc; simp [val] at h; omega
      · exact ih g (fun x hx => hs x (by simp [hx])) (by omega) hc he.2

/-- The number that stands at the head of l, behind cs (all of which have 128 added): itself, and how many bytes it has. -/
def rd : Nat → List UInt8 → List UInt8 → Option (Nat × Nat)
  | 0, _, _ => none
  | _ + 1, _, [] => none
  | f + 1, cs, b :: l => if b.toNat < 128 then (if b = 0 ∧ cs ≠ [] then none else some (val (cs ++ [b]), cs.length + 1)) else rd f (cs ++ [b]) l

/-- The first k bytes of D all have 128 added. -/
def Far (D : List UInt8) (k : Nat) : Prop := k ≤ 8 ∧ k ≤ D.length ∧ ∀ c ∈ D.take k, 128 ≤ c.toNat

theorem far_zero (D : List UInt8) : Far D 0 := ⟨by omega, by omega, by simp⟩

theorem take_snoc {D : List UInt8} {k : Nat} {b : UInt8} (hb : D[k]? = some b) : D.take (k + 1) = D.take k ++ [b] := by
  rw [List.take_add_one, hb]; rfl

theorem drop_cons {D : List UInt8} {k : Nat} {b : UInt8} (hb : D[k]? = some b) : D.drop k = b :: D.drop (k + 1) := by
  obtain ⟨h, e⟩ := List.getElem?_eq_some_iff.1 hb
  rw [List.drop_eq_getElem_cons h, e]

theorem far_step {D : List UInt8} {k : Nat} {b : UInt8} (h : Far D k) (hk : k < 8) (hb : D[k]? = some b) (h1 : 128 ≤ b.toNat) : Far D (k + 1) := by
  obtain ⟨hl, _⟩ := List.getElem?_eq_some_iff.1 hb
  refine ⟨by omega, by omega, fun c hc => ?_⟩
  rw [take_snoc hb, List.mem_append] at hc
  rcases hc with hc | hc
  · exact h.2.2 c hc
  · simp at hc; subst hc; exact h1

theorem rd_far {D : List UInt8} : ∀ {k : Nat}, Far D k → rd 8 [] D = rd (8 - k) (D.take k) (D.drop k)
  | 0, _ => by simp
  | k + 1, h => by
    have hl : k < D.length := by have := h.2.1; omega
    have hb : D[k]? = some D[k] := List.getElem?_eq_getElem hl
    have hk : k < 8 := by have := h.1; omega
    have hf : Far D k := ⟨by omega, by omega, fun c hc => h.2.2 c (by rw [take_snoc hb]; exact List.mem_append_left _ hc)⟩
    have h1 : 128 ≤ D[k].toNat := h.2.2 _ (by rw [take_snoc hb]; exact List.mem_append_right _ (List.mem_singleton.2 rfl))
    rw [rd_far hf, drop_cons hb, take_snoc hb, show 8 - k = (8 - (k + 1)) + 1 by omega]
    simp only [rd]
    rw [if_neg (by omega)]

theorem rd_stop {D : List UInt8} {k : Nat} (h : Far D k) (hk : k = 8 ∨ k = D.length) : rd 8 [] D = none := by
  rw [rd_far h]
  rcases hk with rfl | rfl
  · simp [rd]
  · rw [List.drop_length]; cases 8 - D.length <;> simp [rd]

theorem rd_nil {D : List UInt8} {k : Nat} {b : UInt8} (h : Far D k) (hk : k < 8) (hb : D[k]? = some b) (h0 : b = 0) (hp : 0 < k) : rd 8 [] D = none := by
  subst h0
  have hl : k < D.length := (List.getElem?_eq_some_iff.1 hb).1
  rw [rd_far h, drop_cons hb, show 8 - k = (8 - (k + 1)) + 1 by omega]
  have hne : D.take k ≠ [] := by intro e; have := congrArg List.length e; rw [List.length_take, List.length_nil] at this; omega
  simp [rd, hne]

theorem rd_hit {D : List UInt8} {k : Nat} {b : UInt8} (h : Far D k) (hk : k < 8) (hb : D[k]? = some b) (h1 : b.toNat < 128) (h0 : b ≠ 0 ∨ k = 0) : rd 8 [] D = some (val (D.take (k + 1)), k + 1) := by
  have hl : k < D.length := (List.getElem?_eq_some_iff.1 hb).1
  rw [rd_far h, drop_cons hb, take_snoc hb, show 8 - k = (8 - (k + 1)) + 1 by omega]
  have hlen : (D.take k).length = k := by simp; omega
  have hc : ¬ (b = 0 ∧ D.take k ≠ []) := by
    rintro ⟨e1, e2⟩
    rcases h0 with h0 | h0
    · exact h0 e1
    · subst h0; simp at e2
  simp only [rd]
  rw [if_pos h1, if_neg hc, hlen]

theorem val_step {D : List UInt8} {k : Nat} {b : UInt8} (hb : D[k]? = some b) : val (D.take (k + 1)) = val (D.take k) + b.toNat % 128 * 2 ^ (7 * k) := by
  have hl : k < D.length := (List.getElem?_eq_some_iff.1 hb).1
  rw [take_snoc hb, val_snoc, show (D.take k).length = k by simp; omega, Nat.pow_mul]

theorem val_take_lt {D : List UInt8} {k : Nat} (hk : k ≤ D.length) : val (D.take k) < 2 ^ (7 * k) := by
  have := val_lt (D.take k)
  rw [show (D.take k).length = k by simp; omega] at this
  rw [Nat.pow_mul]; exact this

theorem val_take_small {D : List UInt8} {k : Nat} (hk : k ≤ D.length) (h8 : k ≤ 8) : val (D.take k) < 72057594037927936 := by
  have h := val_take_lt hk
  have : 2 ^ (7 * k) ≤ 2 ^ 56 := Nat.pow_le_pow_right (by omega) (by omega)
  have e : (2 : Nat) ^ 56 = 72057594037927936 := by decide
  omega

/-- What the reference's test says: the bytes of the number that was read are those that stand there, unless the last of several is 0. -/
theorem again_yes {D : List UInt8} {k : Nat} {b : UInt8} (h : Far D k) (hk : k < 8) (hb : D[k]? = some b) (h1 : b.toNat < 128) (h0 : b ≠ 0 ∨ k = 0) : enc 7 (val (D.take (k + 1))) = D.take (k + 1) := by
  have hl : k < D.length := (List.getElem?_eq_some_iff.1 hb).1
  rw [take_snoc hb]
  refine (enc_val (D.take k) b 7 ⟨h.2.2, h1⟩ (by simp; omega) ?_).1
  rcases h0 with h0 | h0
  · exact Or.inr h0
  · subst h0; simp

theorem again_no {D : List UInt8} {k : Nat} {b : UInt8} (h : Far D k) (hk : k < 8) (hb : D[k]? = some b) (h0 : b = 0) (hp : 0 < k) : enc 7 (val (D.take (k + 1))) ≠ D.take (k + 1) := by
  subst h0
  have hl : k < D.length := (List.getElem?_eq_some_iff.1 hb).1
  rw [take_snoc hb]
  refine enc_ne (D.take k) 7 h.2.2 (by simp; omega) ?_
  intro e; have := congrArg List.length e; rw [List.length_take, List.length_nil] at this; omega

end Go.Proofs.YtekdenkllipehaaDoor.M
