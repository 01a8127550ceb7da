import Derived.Test.YtekdenkllipehaaDoorCrc
import Derived.Test.YtekdenkllipehaaDoorBlocksM
import Derived.Test.YtekdenkllipehaaDoorBlkAll
import Derived.Test.YtekdenkllipehaaDoorBits
import Derived.Lib.ConvBytes
import Derived.Laws.IdiomStrings
/-
  Plain mathematics on the checksum: a sealed text in which at most four bytes side by side are turned is not sealed. Nothing of the program is named here.
-/
namespace Go.Proofs.YtekdenkllipehaaDoor.M

/-- A shift tells all numbers of 32 bits apart. -/
theorem bit_inj {a b : Nat} (ha : a < 4294967296) (hb : b < 4294967296) (h : bit a = bit b) : a = b := by
  have top : ∀ x : Nat, x < 2147483648 → 2147483648 ≤ x ^^^ 2197175160 := by
    intro x hx
    have h1 : (x ^^^ 2197175160) / 2 ^ 31 = x / 2 ^ 31 ^^^ 2197175160 / 2 ^ 31 := Nat.xor_div_two_pow
    rw [show x / 2 ^ 31 = 0 by omega, Nat.zero_xor, show 2197175160 / 2 ^ 31 = 1 by decide] at h1
    omega
  unfold bit at h
  split at h <;> split at h
  · have h2 : a / 2 = b / 2 := by
      have := congrArg (· ^^^ 2197175160) h
      simpa [Nat.xor_assoc] using this
    omega
  · have := top (a / 2) (by omega)
    omega
  · have := top (b / 2) (by omega)
    omega
  · omega

theorem bits_inj {k a b : Nat} (ha : a < 4294967296) (hb : b < 4294967296) (h : bits k a = bits k b) : a = b := by
  induction k generalizing a b with
  | zero => exact h
  | succ k ih => exact bit_inj ha hb (ih (bit_lt ha) (bit_lt hb) h)

theorem xor_cancel {a b c : Nat} (h : a ^^^ c = b ^^^ c) : a = b := by
  have := congrArg (· ^^^ c) h
  simpa [Nat.xor_assoc] using this

theorem step_inj {a b : Nat} {x : UInt8} (ha : a < 4294967296) (hb : b < 4294967296) (h : step a x = step b x) : a = b :=
  xor_cancel (bits_inj (xor_byte_lt ha x) (xor_byte_lt hb x) h)

/-- What lies behind does not undo a difference. -/
theorem foldl_inj (l : List UInt8) {a b : Nat} (ha : a < 4294967296) (hb : b < 4294967296) (h : l.foldl step a = l.foldl step b) : a = b := by
  induction l generalizing a b with
  | nil => exact h
  | cons x l ih => exact step_inj ha hb (ih (step_lt ha x) (step_lt hb x) h)

/-- The number of some bytes, the lowest first. -/
def num : List UInt8 → Nat
  | [] => 0
  | b :: w => b.toNat ^^^ 256 * num w

theorem num_mod (b : UInt8) (w : List UInt8) : num (b :: w) % 2 ^ 8 = b.toNat := by
  have hb := b.toNat_lt
  rw [num, Nat.xor_mod_two_pow, show 256 * num w % 2 ^ 8 = 0 by omega, Nat.xor_zero]
  omega

theorem num_div (b : UInt8) (w : List UInt8) : num (b :: w) / 2 ^ 8 = num w := by
  have hb := b.toNat_lt
  rw [num, Nat.xor_div_two_pow, show 256 * num w / 2 ^ 8 = num w by omega, show b.toNat / 2 ^ 8 = 0 by omega, Nat.zero_xor]

theorem num_cons (b : UInt8) (w : List UInt8) : num (b :: w) = b.toNat + 256 * num w := by
  have h1 := num_mod b w
  have h2 := num_div b w
  have := Nat.div_add_mod (num (b :: w)) (2 ^ 8)
  omega

theorem num_inj : ∀ {v w : List UInt8}, v.length = w.length → num v = num w → v = w
  | [], [], _, _ => rfl
  | b :: v, c :: w, hl, h => by
    have h1 := num_mod b v
    rw [h, num_mod c w] at h1
    have h2 := num_div b v
    rw [h, num_div c w] at h2
    rw [UInt8.toNat_inj.1 h1, num_inj (by simpa using hl) h2.symm]

theorem num_lt : ∀ (w : List UInt8), num w < 256 ^ w.length
  | [] => by simp [num]
  | b :: w => by
    have h1 := num_lt w
    have h2 := b.toNat_lt
    rw [num_cons, List.length_cons, Nat.pow_succ]
    omega

theorem num_lt4 {w : List UInt8} (h : w.length ≤ 4) : num w < 4294967296 :=
  Nat.lt_of_lt_of_le (num_lt w) (Nat.pow_le_pow_right (n := 256) (by omega) h)

theorem bits_256 (q : Nat) : bits 8 (256 * q) = q := by
  rw [show (8 : Nat) = 4 + 4 from rfl, bits_add, show 256 * q = 16 * (16 * q) by omega, bits_sixteen, bits_sixteen]

/-- The bytes of a window, one behind the other, as one number. -/
theorem foldl_num (w : List UInt8) (c : Nat) : w.foldl step c = bits (8 * w.length) (c ^^^ num w) := by
  induction w generalizing c with
  | nil => simp [num, bits]
  | cons b w ih =>
    rw [List.foldl_cons, ih, List.length_cons, show 8 * (w.length + 1) = 8 + 8 * w.length by omega, bits_add]
    congr 1
    rw [num, ← Nat.xor_assoc, bits_xor, bits_256]
    rfl

/-- A window of at most four bytes: the checksum tells all its contents apart. -/
theorem window_inj {v w : List UInt8} {c : Nat} (hc : c < 4294967296) (hl : v.length = w.length) (h4 : v.length ≤ 4) (h : v.foldl step c = w.foldl step c) : v = w := by
  rw [foldl_num, foldl_num, hl] at h
  have hv := num_lt4 h4
  have hw := num_lt4 (hl ▸ h4)
  have := bits_inj (Nat.xor_lt_two_pow (n := 32) (by omega) (by omega)) (Nat.xor_lt_two_pow (n := 32) (by omega) (by omega)) h
  rw [Nat.xor_comm c, Nat.xor_comm c] at this
  exact num_inj hl (xor_cancel this)

/-- Two texts that part in a window of at most four bytes have other numbers. -/
theorem burst {p v w q : List UInt8} (hl : v.length = w.length) (h4 : v.length ≤ 4) (h : run (p ++ v ++ q) = run (p ++ w ++ q)) : v = w := by
  unfold run at h
  rw [List.foldl_append, List.foldl_append, List.foldl_append, List.foldl_append] at h
  have hp := foldl_lt p 4294967295 (by omega)
  exact window_inj hp hl h4 (foldl_inj q (foldl_lt v _ hp) (foldl_lt w _ hp) h)

theorem num_le4 (n : Nat) (h : n < 4294967296) : num (le4 n) = n := by
  unfold le4
  rw [num_cons, num_cons, num_cons, num_cons, num]
  simp only [UInt8.toNat_ofNat']
  omega

theorem ones_sub (c : Nat) (h : c < 4294967296) : 4294967295 - c = c ^^^ 4294967295 := by
  apply Nat.eq_of_testBit_eq
  intro i
  have := Nat.testBit_two_pow_sub_succ (n := 32) (x := c) (by omega) i
  rw [show 2 ^ 32 - (c + 1) = 4294967295 - c by omega] at this
  rw [this, Nat.testBit_xor, show (4294967295 : Nat) = 2 ^ 32 - 1 by decide, Nat.testBit_two_pow_sub_one]
  by_cases hi : i < 32
  · simp [hi]
  · have : c.testBit i = false := Nat.testBit_lt_two_pow (Nat.lt_of_lt_of_le h (Nat.pow_le_pow_right (n := 2) (by omega) (show 32 ≤ i by omega)))
    simp [hi, this]

/-- Every sealed text has the same number. -/
theorem run_sealed (l : List UInt8) : run (sealed l) = bits 32 4294967295 := by
  have h := run_lt l
  unfold sealed
  unfold run
  rw [List.foldl_append, foldl_num, le4_length, num_le4 _ (sum_lt l)]
  show bits 32 (run l ^^^ sum l) = _
  unfold sum
  rw [ones_sub _ h, ← Nat.xor_assoc, Nat.xor_self, Nat.zero_xor]

/-- Of two sealed texts neither parts from the other in a window of at most four bytes alone. -/
theorem sealed_apart {s t p v w q : List UInt8} (hl : v.length = w.length) (h4 : v.length ≤ 4) (hs : sealed s = p ++ v ++ q) (ht : sealed t = p ++ w ++ q) : v = w :=
  burst (p := p) (q := q) hl h4 (by rw [← hs, ← ht, run_sealed, run_sealed])

end Go.Proofs.YtekdenkllipehaaDoor.M

/-
  For the law on whole blocks: bytes that are changed side by side.
-/
namespace Go.Proofs.YtekdenkllipehaaDoor
open Go.RowKit

/-- Behind j bytes that were combined with masks, from the place 'from' on: the bytes, and whether one was changed. -/
structure Hit (S : List UInt8) (fr j : Nat) (B : List UInt8) (ch : Bool) : Prop where
  fits : fr + j ≤ S.length
  len : B.length = S.length
  head : B.take fr = S.take fr
  tail : B.drop (fr + j) = S.drop (fr + j)
  same : ch = false → B = S
  other : ch = true → B ≠ S

theorem hit_start (S : List UInt8) (fr : Nat) (h : fr ≤ S.length) : Hit S fr 0 S false := ⟨h, rfl, rfl, rfl, fun _ => rfl, fun h => by cases h⟩

theorem xor_zero_byte (a m : UInt8) : a ^^^ m = a ↔ m = 0 := by
  constructor
  · intro h
    have := congrArg (a ^^^ ·) h
    simpa [← UInt8.xor_assoc] using this
  · rintro rfl; simp

theorem hit_more {S B : List UInt8} {fr j : Nat} {ch : Bool} (h : Hit S fr j B ch) (hj : fr + j < S.length) (m : UInt8) : Hit S fr (j + 1) (B.set (fr + j) (B.getD (fr + j) 0 ^^^ m)) (ch || decide (m ≠ 0)) := by
  have hl := h.len
  have hBj : fr + j < B.length := by omega
  have hg : B.getD (fr + j) 0 = B[fr + j] := by simp [List.getD, hBj]
  have hSj : B[fr + j]? = S[fr + j]? := by
    have := congrArg (fun l : List UInt8 => l[0]?) h.tail
    simpa using this
  have hS : S[fr + j]? = some B[fr + j] := by rw [← hSj]; exact List.getElem?_eq_getElem hBj
  refine ⟨by omega, by simpa using hl, ?_, ?_, ?_, ?_⟩
  · rw [List.take_set_of_le (by omega)]
    exact h.head
  · rw [List.drop_set_of_lt (by omega)]
    have := congrArg (List.drop 1) h.tail
    simpa [List.drop_drop, Nat.add_assoc] using this
  · intro he
    simp only [Bool.or_eq_false_iff, decide_eq_false_iff_not, Decidable.not_not] at he
    obtain ⟨h1, rfl⟩ := he
    rw [hg]
    have := h.same h1
    simpa using this
  · intro he hx
    have hat : (B.set (fr + j) (B.getD (fr + j) 0 ^^^ m))[fr + j]? = S[fr + j]? := by rw [hx]
    rw [List.getElem?_set_self hBj, hS, hg] at hat
    have hm : m = 0 := (xor_zero_byte _ _).1 (Option.some.inj hat)
    subst hm
    have hBB : B.set (fr + j) (B.getD (fr + j) 0 ^^^ 0) = B := by rw [hg]; simp
    rw [hBB] at hx
    cases ch with
    | true => exact h.other rfl hx
    | false => simp at he

/-- A sealed text of which at most four bytes were changed is none any more. -/
theorem hit_apart {T B : List UInt8} {fr j : Nat} {ch : Bool} (h : Hit (M.sealed T) fr j B ch) (hj : j ≤ 4) (hc : ch = true) : ∀ t, M.sealed t ≠ B := by
  intro t ht
  have hfit := h.fits
  have hS : M.sealed T = (M.sealed T).take fr ++ ((M.sealed T).drop fr).take j ++ (M.sealed T).drop (fr + j) := by
    rw [List.append_assoc, ← List.drop_drop, List.take_append_drop, List.take_append_drop]
  have hB : B = B.take fr ++ (B.drop fr).take j ++ B.drop (fr + j) := by
    rw [List.append_assoc, ← List.drop_drop, List.take_append_drop, List.take_append_drop]
  rw [h.head, h.tail] at hB
  have hl := h.len
  have := M.sealed_apart (s := T) (t := t) (v := ((M.sealed T).drop fr).take j) (w := (B.drop fr).take j) (by simp; omega) (by simp; omega) hS (ht.trans hB)
  exact h.other hc (by rw [hB, ← this, ← hS])

theorem u8_xor (a m : UInt8) : bits .xor .u8 (a.toNat : Int) (m.toNat : Int) = ((a ^^^ m).toNat : Int) := by
  have ha := a.toNat_lt
  have hm := m.toNat_lt
  rw [bits_xor_nat .u8 8 (by decide) wraps_u8 a.toNat m.toNat (by omega) (by omega), UInt8.toNat_xor]

/-- A row of bytes. -/
structure BytAt (w : World) (N : Nat) (B : List UInt8) : Prop where
  cell : ∀ j, j < B.length → w.cell? ⟨N, j, none⟩ = some (.int .u8 ((B.getD j 0).toNat : Int))
  frz : ∀ j, j < B.length → w.frozen? ⟨N, j, none⟩ = false
  top : N < w.heap.size

theorem BytAt.kept {w w' : World} {N : Nat} {B : List UInt8} (h : BytAt w N B) (q : Q w w') : BytAt w' N B :=
  ⟨fun j hj => kept_cell (h.cell j hj) q, fun j hj => (q.below.frozen (p := ⟨N, j, none⟩) h.top).trans (h.frz j hj), Nat.lt_of_lt_of_le h.top q.below.size⟩

theorem BytAt.set {w : World} {N : Nat} {B : List UInt8} (h : BytAt w N B) (i : Nat) (b : UInt8) : BytAt (w.setCell ⟨N, i, none⟩ (.int .u8 (b.toNat : Int))) N (B.set i b) := by
  refine ⟨fun j hj => ?_, fun j hj => ?_, by simpa using h.top⟩
  · rw [List.length_set] at hj
    by_cases e : j = i
    · subst e
      rw [World.cell?_setCell_same w _ _ (h.cell j hj)]
      simp [List.getD, hj]
    · rw [World.cell?_setCell_other w _ _ _ (by intro hh; injection hh; omega), h.cell j hj]
      simp [List.getD, List.getElem?_set_ne (Ne.symm e)]
  · rw [List.length_set] at hj
    rw [World.frozen?_setCell]
    exact h.frz j hj

theorem BytAt.text {w : World} {N cap : Nat} {B : List UInt8} (h : BytAt w N B) : (convert 40 9 (.slice (some ⟨N, 0, none⟩) B.length cap)).run Tryd.prog w = .ok (.string ⟨B.toArray⟩) w :=
  run_convert_bytes_back (P := Tryd.prog) w 40 9 5 ⟨N, 0, none⟩ cap B Tryd.underlying40 Tryd.underlying5 Tryd.underlying9 (fun j hj => by
    have := h.cell j hj
    simp [List.getElem?_eq_getElem hj] at this
    have hp : (⟨N, 0, none⟩ : Addr).add j = ⟨N, j, none⟩ := by unfold Addr.add; split <;> simp_all
    rw [hp]; exact this)

/-- '[]byte(s)'. -/
theorem to_bytes (s : ByteArray) (w : World) : ∃ (cap : Nat) (w' : World), (convert 9 40 (.string s)).run Tryd.prog w = .ok (.slice (some ⟨w.heap.size, 0, none⟩) s.size cap) w' ∧ BytAt w' w.heap.size s.data.toList ∧ Q w w' := by
  refine ⟨_, _, Lib.run_convert_string_bytes (P := Tryd.prog) w 9 40 5 s Tryd.underlying9 Tryd.underlying40 Tryd.underlying5, ⟨fun j hj => Lib.bytesWorld_cell w _ s j (by simpa using hj), fun j hj => ?_, by rw [Lib.bytesWorld_size]; omega⟩, ?_⟩
  · unfold World.frozen?
    rw [Lib.bytesWorld_at_new]
    have hsz : s.size ≤ (Lib.bytesCells w 5 s).size := by simp [Lib.bytesCells]
    have hj' : j < s.size := by simpa using hj
    simp
    omega
  · exact ⟨⟨rfl, rfl, rfl, by rw [Lib.bytesWorld_size]; omega, fun k hk => Lib.bytesWorld_at_old w _ s k hk⟩⟩

/-- What Parse answers of a text that Build made. -/
theorem parsed_back {T : List UInt8} {rs : List Rec} (hp : plainText rs = some T) {w : World} {e : Ending} {w' : World} (h : ParsedAny (sealText T) w e w') : ∃ (ao : Option Addr) (cap : Nat), e = .returned (.tuple #[.slice ao rs.length cap, .int .i64 0]) ∧ Rcs w' ao rs := by
  have hsz : (sealText T).size = T.length + 4 := by
    show (M.sealed T).toArray.size = _
    simp [M.sealed_length]
  rcases h with ⟨h, _⟩ | ⟨_, h, _⟩ | ⟨T', hT', h⟩
  · omega
  · exact absurd rfl (h T)
  · have hTT := sealText_inj hT'
    rcases h with ⟨l, ao, cap, base, he, hl, _, ho⟩ | ⟨_, hno⟩
    · rw [hTT] at hl
      have := plainText_inj hl hp
      subst this
      exact ⟨ao, cap, he, own_rcs ho⟩
    · rw [hTT] at hno
      exact absurd hp (hno rs)

/-- .. of one that is no sealed text. -/
theorem parsed_not {s : ByteArray} (h4 : 4 ≤ s.size) (hn : ∀ t, sealText t ≠ s) {w : World} {e : Ending} {w' : World} (h : ParsedAny s w e w') : e = .returned (.tuple #[.slice none 0 0, .int .i64 3]) := by
  rcases h with ⟨h, _⟩ | ⟨_, _, he⟩ | ⟨T', hT', _⟩
  · omega
  · exact he
  · exact absurd hT' (hn _)

/-- .. of one that is too short. -/
theorem parsed_short {s : ByteArray} (h4 : s.size < 4) {w : World} {e : Ending} {w' : World} (h : ParsedAny s w e w') : e = .returned (.tuple #[.slice none 0 0, .int .i64 2]) := by
  rcases h with ⟨_, he⟩ | ⟨h, _⟩ | ⟨T', hT', _⟩
  · exact he
  · omega
  · have : s.size = T'.data.toList.length + 4 := by
      rw [← hT']
      show (M.sealed T'.data.toList).toArray.size = _
      simp [M.sealed_length]
    omega

/-- Unseal, whatever the text. -/
theorem unseal_code (s : ByteArray) (h4 : 4 ≤ s.size) (hs : s.size ≤ 140737488351232) : ∃ (u : ByteArray) (c : Int), (∀ w, Tab w → Calls Tryd.prog 10 #[.string s] w fun e w' => e = .returned (.tuple #[.string u, .int .i64 c]) ∧ Q w w') ∧ ((∃ t, sealText t = s) → c = 0) ∧ ((∀ t, sealText t ≠ s) → c = 3) := by
  obtain ⟨n, hn⟩ : ∃ n, s.size = n + 4 := ⟨s.size - 4, by omega⟩
  obtain ⟨T, hT⟩ : ∃ T, s.extract 0 n = T := ⟨_, rfl⟩
  obtain ⟨R, hR⟩ : ∃ R, s.extract n (n + 4) = R := ⟨_, rfl⟩
  have hsR : s = T ++ R := by
    rw [← hT, ← hR, ByteArray.extract_append_extract]
    simp [← hn]
  have hU := fun w hTab => unseal_long s T R n (by omega) hn hT hR w hTab
  by_cases hc : R.data.toList = M.le4 (M.sum T.data.toList)
  · have hse : sealText T.data.toList = s := (sealed_of T R hc).trans hsR.symm
    refine ⟨T, 0, fun w hTab => (hU w hTab).mono ?_, fun _ => rfl, fun h => absurd hse (h _)⟩
    rintro e w' ⟨rfl, q⟩
    refine ⟨?_, ⟨q⟩⟩
    unfold opened
    rw [if_pos hc]
  · refine ⟨⟨#[]⟩, 3, fun w hTab => (hU w hTab).mono ?_, fun h => ?_, fun _ => rfl⟩
    · rintro e w' ⟨rfl, q⟩
      refine ⟨?_, ⟨q⟩⟩
      unfold opened
      rw [if_neg hc]
    · exfalso
      obtain ⟨t, ht⟩ := h
      have h1 : M.sealed t = T.data.toList ++ R.data.toList := by
        have := congrArg (fun x : ByteArray => x.data.toList) (ht.trans hsR)
        simpa [sealText] using this
      have hRs : R.data.toList.length = 4 := by
        have : R.size = 4 := by rw [← hR]; simp; omega
        exact Array.length_toList.trans this
      have hl := congrArg List.length h1
      rw [M.sealed_length, List.length_append, hRs] at hl
      unfold M.sealed at h1
      obtain ⟨e1, e2⟩ := List.append_inj h1 (by omega)
      rw [← e1] at hc
      exact hc e2.symm
end Go.Proofs.YtekdenkllipehaaDoor
