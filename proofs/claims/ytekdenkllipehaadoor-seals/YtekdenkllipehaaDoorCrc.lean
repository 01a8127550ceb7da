/-
  Plain mathematics on the checksum, bit by bit and half a byte at a time: nothing of the program is named here.
-/
import GoSem.Claim
namespace Go.Proofs.YtekdenkllipehaaDoor.M

/-- One shift of the checksum. -/
def bit (c : Nat) : Nat := if c % 2 = 1 then c / 2 ^^^ 2197175160 else c / 2

theorem bit_xor (a b : Nat) : bit (a ^^^ b) = bit a ^^^ bit b := by
  have h0 : (a ^^^ b) % 2 = a % 2 ^^^ b % 2 := Nat.xor_mod_two_pow (n := 1)
  have h1 : (a ^^^ b) % 2 = (a + b) % 2 := by
    rw [h0]
    rcases Nat.mod_two_eq_zero_or_one a with ha | ha <;> rcases Nat.mod_two_eq_zero_or_one b with hb | hb <;> rw [ha, hb]
    · show 0 = _; omega
    · show 1 = _; omega
    · show 1 = _; omega
    · show 0 = _; omega
  have h2 : (a ^^^ b) / 2 = a / 2 ^^^ b / 2 := Nat.xor_div_two
  unfold bit
  rw [h1, h2]
  rcases Nat.mod_two_eq_zero_or_one a with ha | ha <;> rcases Nat.mod_two_eq_zero_or_one b with hb | hb
  · rw [if_neg (by omega), if_neg (by omega), if_neg (by omega)]
  · rw [if_pos (by omega), if_neg (by omega), if_pos (by omega), Nat.xor_assoc]
  · rw [if_pos (by omega), if_pos (by omega), if_neg (by omega), Nat.xor_assoc, Nat.xor_comm (b / 2), Nat.xor_assoc]
  · rw [if_neg (by omega), if_pos (by omega), if_pos (by omega), Nat.xor_assoc, Nat.xor_comm (b / 2), ← Nat.xor_assoc 2197175160, Nat.xor_self, Nat.zero_xor]

theorem bit_double (q : Nat) : bit (2 * q) = q := by
  unfold bit
  rw [if_neg (by omega)]; omega

theorem bit_lt {c : Nat} (h : c < 4294967296) : bit c < 4294967296 := by
  unfold bit
  split
  · exact Nat.xor_lt_two_pow (n := 32) (by omega) (by decide)
  · omega

/-- k shifts. -/
def bits : Nat → Nat → Nat
  | 0, c => c
  | k + 1, c => bits k (bit c)

theorem bits_add (k m c : Nat) : bits (k + m) c = bits m (bits k c) := by
  induction k generalizing c with
  | zero => simp [bits]
  | succ k ih => rw [Nat.succ_add]; exact ih _

theorem bits_succ (k c : Nat) : bits (k + 1) c = bit (bits k c) := bits_add k 1 c

theorem bits_xor (k a b : Nat) : bits k (a ^^^ b) = bits k a ^^^ bits k b := by
  induction k generalizing a b with
  | zero => rfl
  | succ k ih => simp only [bits]; rw [bit_xor, ih]

theorem bits_lt {k c : Nat} (h : c < 4294967296) : bits k c < 4294967296 := by
  induction k generalizing c with
  | zero => exact h
  | succ k ih => exact ih (bit_lt h)

/-- What four shifts make of each half byte. -/
def half : Nat → Nat
  | 0 => 0
  | 1 => 274646895
  | 2 => 549293790
  | 3 => 820201905
  | 4 => 1098587580
  | 5 => 1361435347
  | 6 => 1640403810
  | 7 => 1905808397
  | 8 => 2197175160
  | 9 => 2460548119
  | 10 => 2722870694
  | 11 => 2987750089
  | 12 => 3280807620
  | 13 => 3553878443
  | 14 => 3811616794
  | 15 => 4084100981
  | _ => 0

theorem half_lt (i : Nat) : half i < 4294967296 := by
  unfold half; split <;> decide

theorem bits_half (r : Nat) (h : r < 16) : bits 4 r = half r := by
  have hall : ∀ x : Fin 16, bits 4 x.val = half x.val := by decide
  exact hall ⟨r, h⟩

theorem bits_sixteen (q : Nat) : bits 4 (16 * q) = q := by
  simp only [bits]
  rw [show 16 * q = 2 * (8 * q) by omega, bit_double, show 8 * q = 2 * (4 * q) by omega, bit_double, show 4 * q = 2 * (2 * q) by omega, bit_double, bit_double]

theorem split16 (c : Nat) : c = (16 * (c / 16)) ^^^ (c % 16) := by
  have h1 : ((16 * (c / 16)) ^^^ (c % 16)) / 2 ^ 4 = c / 16 := by
    rw [Nat.xor_div_two_pow, show 16 * (c / 16) / 2 ^ 4 = c / 16 by omega, show c % 16 / 2 ^ 4 = 0 by omega, Nat.xor_zero]
  have h2 : ((16 * (c / 16)) ^^^ (c % 16)) % 2 ^ 4 = c % 16 := by
    rw [Nat.xor_mod_two_pow, show 16 * (c / 16) % 2 ^ 4 = 0 by omega, show c % 16 % 2 ^ 4 = c % 16 by omega, Nat.zero_xor]
  have h3 := Nat.div_add_mod ((16 * (c / 16)) ^^^ (c % 16)) (2 ^ 4)
  rw [h1, h2] at h3
  omega

/-- Four shifts at once. -/
theorem bits_four (c : Nat) : bits 4 c = c / 16 ^^^ half (c % 16) := by
  conv => lhs; rw [split16 c]
  rw [bits_xor, bits_sixteen, bits_half _ (by omega)]

/-- What one byte makes of the checksum. -/
def step (c : Nat) (b : UInt8) : Nat := bits 8 (c ^^^ b.toNat)

theorem xor_byte_lt {c : Nat} (h : c < 4294967296) (b : UInt8) : c ^^^ b.toNat < 4294967296 :=
  Nat.xor_lt_two_pow (n := 32) (by omega) (by have := b.toNat_lt; omega)

theorem step_lt {c : Nat} (h : c < 4294967296) (b : UInt8) : step c b < 4294967296 := bits_lt (xor_byte_lt h b)

/-- The byte's two halves, one behind the other. -/
theorem step_halves (c : Nat) (b : UInt8) :
    step c b = ((c ^^^ b.toNat) / 16 ^^^ half ((c ^^^ b.toNat) % 16)) / 16 ^^^ half (((c ^^^ b.toNat) / 16 ^^^ half ((c ^^^ b.toNat) % 16)) % 16) := by
  unfold step
  rw [show (8 : Nat) = 4 + 4 from rfl, bits_add, bits_four, bits_four]

/-- The checksum's number behind the bytes l, before all bits are turned. -/
def run (l : List UInt8) : Nat := l.foldl step 4294967295

theorem run_snoc (l : List UInt8) (b : UInt8) : run (l ++ [b]) = step (run l) b := by simp [run]

theorem foldl_lt (l : List UInt8) (c : Nat) (h : c < 4294967296) : l.foldl step c < 4294967296 := by
  induction l generalizing c with
  | nil => exact h
  | cons b l ih => exact ih _ (step_lt h b)

theorem run_lt (l : List UInt8) : run l < 4294967296 := foldl_lt l _ (by omega)

/-- The checksum. -/
def sum (l : List UInt8) : Nat := 4294967295 - run l

theorem sum_lt (l : List UInt8) : sum l < 4294967296 := by unfold sum; omega

/-- Four bytes, the lowest first. -/
def le4 (n : Nat) : List UInt8 := [UInt8.ofNat (n % 256), UInt8.ofNat (n / 256 % 256), UInt8.ofNat (n / 65536 % 256), UInt8.ofNat (n / 16777216 % 256)]

theorem le4_last (n : Nat) (h : n < 4294967296) : #[UInt8.ofNat (n % 256), UInt8.ofNat (n / 256 % 256), UInt8.ofNat (n / 65536 % 256), UInt8.ofNat (n / 16777216)] = (le4 n).toArray := by
  unfold le4
  rw [show n / 16777216 % 256 = n / 16777216 by omega]

/-- Behind k rounds: what is left of the number, what has been put behind the text. -/
def Upto (l : List UInt8) (n k m : Nat) (t : List UInt8) : Prop := k ≤ 4 ∧ m = n / 256 ^ k ∧ t = l ++ (le4 n).take k

theorem upto_zero (l : List UInt8) (n : Nat) : Upto l n 0 n l := ⟨by omega, by simp, by simp⟩

theorem upto_step {l : List UInt8} {n k m : Nat} {t : List UInt8} (h : Upto l n k m t) (hk : k < 4) : Upto l n (k + 1) (m / 256) (t ++ [UInt8.ofNat (m % 256)]) := by
  obtain ⟨_, rfl, rfl⟩ := h
  refine ⟨by omega, by rw [Nat.pow_succ, Nat.div_div_eq_div_mul], ?_⟩
  match k, hk with
  | 0, _ => simp [le4]
  | 1, _ => simp [le4]
  | 2, _ => simp [le4]
  | 3, _ => simp [le4]
  | k + 4, hk => omega

theorem upto_end {l : List UInt8} {n m : Nat} {t : List UInt8} (h : Upto l n 4 m t) : t = l ++ le4 n := h.2.2

theorem upto_lt {l : List UInt8} {n k m : Nat} {t : List UInt8} (h : Upto l n k m t) (hn : n < 4294967296) : m < 4294967296 := by
  have := Nat.div_le_self n (256 ^ k)
  rw [← h.2.1] at this; omega

theorem upto_len {l : List UInt8} {n k m : Nat} {t : List UInt8} (h : Upto l n k m t) : t.length ≤ l.length + 4 := by
  have h4 : (le4 n).length = 4 := rfl
  rw [h.2.2, List.length_append, List.length_take, h4]; omega

theorem le4_length (n : Nat) : (le4 n).length = 4 := rfl

/-- A sealed text. -/
def sealed (l : List UInt8) : List UInt8 := l ++ le4 (sum l)

theorem sealed_length (l : List UInt8) : (sealed l).length = l.length + 4 := by simp [sealed, le4]

end Go.Proofs.YtekdenkllipehaaDoor.M
