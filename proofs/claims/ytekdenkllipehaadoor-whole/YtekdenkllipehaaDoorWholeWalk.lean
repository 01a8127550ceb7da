import Derived.Test.YtekdenkllipehaaDoorCrc
import Derived.Test.YtekdenkllipehaaDoorBlocksM
import Derived.Test.YtekdenkllipehaaDoorBlkAll
import Derived.Test.YtekdenkllipehaaDoorBits
import Derived.Lib.ConvBytes
import Derived.Laws.IdiomStrings
import Derived.Test.YtekdenkllipehaaDoorRecords
/-
  Plain mathematics on the checksum: a sealed text in which at most four bytes side by side are turned is not sealed. Nothing of the program is named here.
-/
namespace Go.Proofs.YtekdenkllipehaaDoor.M

/-- A shift tells all numbers of 32 bits apart. -/
theorem bit_inj {a b : Nat} (ha : a < 4294967296) (hb : b < 4294967296) (h : bit a = bit b) : a = b := by
  have top : ∀ x : Nat, x < 2147483648 → 2147483648 ≤ x ^^^ 2197175160 := by
    intro x hx
    have h1 : (x ^^^ 2197175160) / 2 ^ 31 = x / 2 ^ 31 ^^^ 2197175160 / 2 ^ 31 := Nat.xor_div_two_pow
    rw [show x / 2 ^ 31 = 0 by omega, Nat.zero_xor, show 2197175160 / 2 ^ 31 = 1 by decide] at h1
    omega
  unfold bit at h
  split at h <;> split at h
  · have h2 : a / 2 = b / 2 := by
      have := congrArg (· ^^^ 2197175160) h
      simpa [Nat.xor_assoc] using this
    omega
  · have := top (a / 2) (by omega)
    omega
  · have := top (b / 2) (by omega)
    omega
  · omega

theorem bits_inj {k a b : Nat} (ha : a < 4294967296) (hb : b < 4294967296) (h : bits k a = bits k b) : a = b := by
  induction k generalizing a b with
  | zero => exact h
  | succ k ih => exact bit_inj ha hb (ih (bit_lt ha) (bit_lt hb) h)

theorem xor_cancel {a b c : Nat} (h : a ^^^ c = b ^^^ c) : a = b := by
  have := congrArg (· ^^^ c) h
  simpa [Nat.xor_assoc] using this

theorem step_inj {a b : Nat} {x : UInt8} (ha : a < 4294967296) (hb : b < 4294967296) (h : step a x = step b x) : a = b :=
  xor_cancel (bits_inj (xor_byte_lt ha x) (xor_byte_lt hb x) h)

/-- What lies behind does not undo a difference. -/
theorem foldl_inj (l : List UInt8) {a b : Nat} (ha : a < 4294967296) (hb : b < 4294967296) (h : l.foldl step a = l.foldl step b) : a = b := by
  induction l generalizing a b with
  | nil => exact h
  | cons x l ih => exact step_inj ha hb (ih (step_lt ha x) (step_lt hb x) h)

/-- The number of some bytes, the lowest first. -/
def num : List UInt8 → Nat
  | [] => 0
  | b :: w => b.toNat ^^^ 256 * num w

theorem num_mod (b : UInt8) (w : List UInt8) : num (b :: w) % 2 ^ 8 = b.toNat := by
  have hb := b.toNat_lt
  rw [num, Nat.xor_mod_two_pow, show 256 * num w % 2 ^ 8 = 0 by omega, Nat.xor_zero]
  omega

theorem num_div (b : UInt8) (w : List UInt8) : num (b :: w) / 2 ^ 8 = num w := by
  have hb := b.toNat_lt
  rw [num, Nat.xor_div_two_pow, show 256 * num w / 2 ^ 8 = num w by omega, show b.toNat / 2 ^ 8 = 0 by omega, Nat.zero_xor]

theorem num_cons (b : UInt8) (w : List UInt8) : num (b :: w) = b.toNat + 256 * num w := by
  have h1 := num_mod b w
  have h2 := num_div b w
  have := Nat.div_add_mod (num (b :: w)) (2 ^ 8)
  omega

theorem num_inj : ∀ {v w : List UInt8}, v.length = w.length → num v = num w → v = w
  | [], [], _, _ => rfl
  | b :: v, c :: w, hl, h => by
    have h1 := num_mod b v
    rw [h, num_mod c w] at h1
    have h2 := num_div b v
    rw [h, num_div c w] at h2
    rw [UInt8.toNat_inj.1 h1, num_inj (by simpa using hl) h2.symm]

theorem num_lt : ∀ (w : List UInt8), num w < 256 ^ w.length
  | [] => by simp [num]
  | b :: w => by
    have h1 := num_lt w
    have h2 := b.toNat_lt
    rw [num_cons, List.length_cons, Nat.pow_succ]
    omega

theorem num_lt4 {w : List UInt8} (h : w.length ≤ 4) : num w < 4294967296 :=
  Nat.lt_of_lt_of_le (num_lt w) (Nat.pow_le_pow_right (n := 256) (by omega) h)

theorem bits_256 (q : Nat) : bits 8 (256 * q) = q := by
  rw [show (8 : Nat) = 4 + 4 from rfl, bits_add, show 256 * q = 16 * (16 * q) by omega, bits_sixteen, bits_sixteen]

/-- The bytes of a window, one behind the other, as one number. -/
theorem foldl_num (w : List UInt8) (c : Nat) : w.foldl step c = bits (8 * w.length) (c ^^^ num w) := by
  induction w generalizing c with
  | nil => simp [num, bits]
  | cons b w ih =>
    rw [List.foldl_cons, ih, List.length_cons, show 8 * (w.length + 1) = 8 + 8 * w.length by omega, bits_add]
    congr 1
    rw [num, ← Nat.xor_assoc, bits_xor, bits_256]
    rfl

/-- A window of at most four bytes: the checksum tells all its contents apart. -/
theorem window_inj {v w : List UInt8} {c : Nat} (hc : c < 4294967296) (hl : v.length = w.length) (h4 : v.length ≤ 4) (h : v.foldl step c = w.foldl step c) : v = w := by
  rw [foldl_num, foldl_num, hl] at h
  have hv := num_lt4 h4
  have hw := num_lt4 (hl ▸ h4)
  have := bits_inj (Nat.xor_lt_two_pow (n := 32) (by omega) (by omega)) (Nat.xor_lt_two_pow (n := 32) (by omega) (by omega)) h
  rw [Nat.xor_comm c, Nat.xor_comm c] at this
  exact num_inj hl (xor_cancel this)

/-- Two texts that part in a window of at most four bytes have other numbers. -/
theorem burst {p v w q : List UInt8} (hl : v.length = w.length) (h4 : v.length ≤ 4) (h : run (p ++ v ++ q) = run (p ++ w ++ q)) : v = w := by
  unfold run at h
  rw [List.foldl_append, List.foldl_append, List.foldl_append, List.foldl_append] at h
  have hp := foldl_lt p 4294967295 (by omega)
  exact window_inj hp hl h4 (foldl_inj q (foldl_lt v _ hp) (foldl_lt w _ hp) h)

theorem num_le4 (n : Nat) (h : n < 4294967296) : num (le4 n) = n := by
  unfold le4
  rw [num_cons, num_cons, num_cons, num_cons, num]
  simp only [UInt8.toNat_ofNat']
  omega

theorem ones_sub (c : Nat) (h : c < 4294967296) : 4294967295 - c = c ^^^ 4294967295 := by
  apply Nat.eq_of_testBit_eq
  intro i
  have := Nat.testBit_two_pow_sub_succ (n := 32) (x := c) (by omega) i
  rw [show 2 ^ 32 - (c + 1) = 4294967295 - c by omega] at this
  rw [this, Nat.testBit_xor, show (4294967295 : Nat) = 2 ^ 32 - 1 by decide, Nat.testBit_two_pow_sub_one]
  by_cases hi : i < 32
  · simp [hi]
  · have : c.testBit i = false := Nat.testBit_lt_two_pow (Nat.lt_of_lt_of_le h (Nat.pow_le_pow_right (n := 2) (by omega) (show 32 ≤ i by omega)))
    simp [hi, this]

/-- Every sealed text has the same number. -/
theorem run_sealed (l : List UInt8) : run (sealed l) = bits 32 4294967295 := by
  have h := run_lt l
  unfold sealed
  unfold run
  rw [List.foldl_append, foldl_num, le4_length, num_le4 _ (sum_lt l)]
  show bits 32 (run l ^^^ sum l) = _
  unfold sum
  rw [ones_sub _ h, ← Nat.xor_assoc, Nat.xor_self, Nat.zero_xor]

/-- Of two sealed texts neither parts from the other in a window of at most four bytes alone. -/
theorem sealed_apart {s t p v w q : List UInt8} (hl : v.length = w.length) (h4 : v.length ≤ 4) (hs : sealed s = p ++ v ++ q) (ht : sealed t = p ++ w ++ q) : v = w :=
  burst (p := p) (q := q) hl h4 (by rw [← hs, ← ht, run_sealed, run_sealed])

end Go.Proofs.YtekdenkllipehaaDoor.M

/-
  For the law on whole blocks: bytes that are changed side by side.
-/
namespace Go.Proofs.YtekdenkllipehaaDoor
open Go.RowKit

/-- Behind j bytes that were combined with masks, from the place 'from' on: the bytes, and whether one was changed. -/
structure Hit (S : List UInt8) (fr j : Nat) (B : List UInt8) (ch : Bool) : Prop where
  fits : fr + j ≤ S.length
  len : B.length = S.length
  head : B.take fr = S.take fr
  tail : B.drop (fr + j) = S.drop (fr + j)
  same : ch = false → B = S
  other : ch = true → B ≠ S

theorem hit_start (S : List UInt8) (fr : Nat) (h : fr ≤ S.length) : Hit S fr 0 S false := ⟨h, rfl, rfl, rfl, fun _ => rfl, fun h => by cases h⟩

theorem xor_zero_byte (a m : UInt8) : a ^^^ m = a ↔ m = 0 := by
  constructor
  · intro h
    have := congrArg (a ^^^ ·) h
    simpa [← UInt8.xor_assoc] using this
  · rintro rfl; simp

theorem hit_more {S B : List UInt8} {fr j : Nat} {ch : Bool} (h : Hit S fr j B ch) (hj : fr + j < S.length) (m : UInt8) : Hit S fr (j + 1) (B.set (fr + j) (B.getD (fr + j) 0 ^^^ m)) (ch || decide (m ≠ 0)) := by
  have hl := h.len
  have hBj : fr + j < B.length := by omega
  have hg : B.getD (fr + j) 0 = B[fr + j] := by simp [List.getD, hBj]
  have hSj : B[fr + j]? = S[fr + j]? := by
    have := congrArg (fun l : List UInt8 => l[0]?) h.tail
    simpa using this
  have hS : S[fr + j]? = some B[fr + j] := by rw [← hSj]; exact List.getElem?_eq_getElem hBj
  refine ⟨by omega, by simpa using hl, ?_, ?_, ?_, ?_⟩
  · rw [List.take_set_of_le (by omega)]
    exact h.head
  · rw [List.drop_set_of_lt (by omega)]
    have := congrArg (List.drop 1) h.tail
    simpa [List.drop_drop, Nat.add_assoc] using this
  · intro he
    simp only [Bool.or_eq_false_iff, decide_eq_false_iff_not, Decidable.not_not] at he
    obtain ⟨h1, rfl⟩ := he
    rw [hg]
    have := h.same h1
    simpa using this
  · intro he hx
    have hat : (B.set (fr + j) (B.getD (fr + j) 0 ^^^ m))[fr + j]? = S[fr + j]? := by rw [hx]
    rw [List.getElem?_set_self hBj, hS, hg] at hat
    have hm : m = 0 := (xor_zero_byte _ _).1 (Option.some.inj hat)
    subst hm
    have hBB : B.set (fr + j) (B.getD (fr + j) 0 ^^^ 0) = B := by rw [hg]; simp
    rw [hBB] at hx
    cases ch with
    | true => exact h.other rfl hx
    | false => simp at he

/-- A sealed text of which at most four bytes were changed is none any more. -/
theorem hit_apart {T B : List UInt8} {fr j : Nat} {ch : Bool} (h : Hit (M.sealed T) fr j B ch) (hj : j ≤ 4) (hc : ch = true) : ∀ t, M.sealed t ≠ B := by
  intro t ht
  have hfit := h.fits
  have hS : M.sealed T = (M.sealed T).take fr ++ ((M.sealed T).drop fr).take j ++ (M.sealed T).drop (fr + j) := by
    rw [List.append_assoc, ← List.drop_drop, List.take_append_drop, List.take_append_drop]
  have hB : B = B.take fr ++ (B.drop fr).take j ++ B.drop (fr + j) := by
    rw [List.append_assoc, ← List.drop_drop, List.take_append_drop, List.take_append_drop]
  rw [h.head, h.tail] at hB
  have hl := h.len
  have := M.sealed_apart (s := T) (t := t) (v := ((M.sealed T).drop fr).take j) (w := (B.drop fr).take j) (by simp; omega) (by simp; omega) hS (ht.trans hB)
  exact h.other hc (by rw [hB, ← this, ← hS])

theorem u8_xor (a m : UInt8) : bits .xor .u8 (a.toNat : Int) (m.toNat : Int) = ((a ^^^ m).toNat : Int) := by
  have ha := a.toNat_lt
  have hm := m.toNat_lt
  rw [bits_xor_nat .u8 8 (by decide) wraps_u8 a.toNat m.toNat (by omega) (by omega), UInt8.toNat_xor]

/-- A row of bytes. -/
structure BytAt (w : World) (N : Nat) (B : List UInt8) : Prop where
  cell : ∀ j, j < B.length → w.cell? ⟨N, j, none⟩ = some (.int .u8 ((B.getD j 0).toNat : Int))
  frz : ∀ j, j < B.length → w.frozen? ⟨N, j, none⟩ = false
  top : N < w.heap.size

theorem BytAt.kept {w w' : World} {N : Nat} {B : List UInt8} (h : BytAt w N B) (q : Q w w') : BytAt w' N B :=
  ⟨fun j hj => kept_cell (h.cell j hj) q, fun j hj => (q.below.frozen (p := ⟨N, j, none⟩) h.top).trans (h.frz j hj), Nat.lt_of_lt_of_le h.top q.below.size⟩

theorem BytAt.set {w : World} {N : Nat} {B : List UInt8} (h : BytAt w N B) (i : Nat) (b : UInt8) : BytAt (w.setCell ⟨N, i, none⟩ (.int .u8 (b.toNat : Int))) N (B.set i b) := by
  refine ⟨fun j hj => ?_, fun j hj => ?_, by simpa using h.top⟩
  · rw [List.length_set] at hj
    by_cases e : j = i
    · subst e
      rw [World.cell?_setCell_same w _ _ (h.cell j hj)]
      simp [List.getD, hj]
    · rw [World.cell?_setCell_other w _ _ _ (by intro hh; injection hh; omega), h.cell j hj]
      simp [List.getD, List.getElem?_set_ne (Ne.symm e)]
  · rw [List.length_set] at hj
    rw [World.frozen?_setCell]
    exact h.frz j hj

theorem BytAt.text {w : World} {N cap : Nat} {B : List UInt8} (h : BytAt w N B) : (convert 40 9 (.slice (some ⟨N, 0, none⟩) B.length cap)).run Tryd.prog w = .ok (.string ⟨B.toArray⟩) w :=
  run_convert_bytes_back (P := Tryd.prog) w 40 9 5 ⟨N, 0, none⟩ cap B Tryd.underlying40 Tryd.underlying5 Tryd.underlying9 (fun j hj => by
    have := h.cell j hj
    simp [List.getElem?_eq_getElem hj] at this
    have hp : (⟨N, 0, none⟩ : Addr).add j = ⟨N, j, none⟩ := by unfold Addr.add; split <;> simp_all
    rw [hp]; exact this)

/-- '[]byte(s)'. -/
theorem to_bytes (s : ByteArray) (w : World) : ∃ (cap : Nat) (w' : World), (convert 9 40 (.string s)).run Tryd.prog w = .ok (.slice (some ⟨w.heap.size, 0, none⟩) s.size cap) w' ∧ BytAt w' w.heap.size s.data.toList ∧ Q w w' := by
  refine ⟨_, _, Lib.run_convert_string_bytes (P := Tryd.prog) w 9 40 5 s Tryd.underlying9 Tryd.underlying40 Tryd.underlying5, ⟨fun j hj => Lib.bytesWorld_cell w _ s j (by simpa using hj), fun j hj => ?_, by rw [Lib.bytesWorld_size]; omega⟩, ?_⟩
  · unfold World.frozen?
    rw [Lib.bytesWorld_at_new]
    have hsz : s.size ≤ (Lib.bytesCells w 5 s).size := by simp [Lib.bytesCells]
    have hj' : j < s.size := by simpa using hj
    simp
    omega
  · exact ⟨⟨rfl, rfl, rfl, by rw [Lib.bytesWorld_size]; omega, fun k hk => Lib.bytesWorld_at_old w _ s k hk⟩⟩

/-- What Parse answers of a text that Build made. -/
theorem parsed_back {T : List UInt8} {rs : List Rec} (hp : plainText rs = some T) {w : World} {e : Ending} {w' : World} (h : ParsedAny (sealText T) w e w') : ∃ (ao : Option Addr) (cap : Nat), e = .returned (.tuple #[.slice ao rs.length cap, .int .i64 0]) ∧ Rcs w' ao rs := by
  have hsz : (sealText T).size = T.length + 4 := by
    show (M.sealed T).toArray.size = _
    simp [M.sealed_length]
  rcases h with ⟨h, _⟩ | ⟨_, h, _⟩ | ⟨T', hT', h⟩
  · omega
  · exact absurd rfl (h T)
  · have hTT := sealText_inj hT'
    rcases h with ⟨l, ao, cap, base, he, hl, _, ho⟩ | ⟨_, hno⟩
    · rw [hTT] at hl
      have := plainText_inj hl hp
      subst this
      exact ⟨ao, cap, he, own_rcs ho⟩
    · rw [hTT] at hno
      exact absurd hp (hno rs)

/-- .. of one that is no sealed text. -/
theorem parsed_not {s : ByteArray} (h4 : 4 ≤ s.size) (hn : ∀ t, sealText t ≠ s) {w : World} {e : Ending} {w' : World} (h : ParsedAny s w e w') : e = .returned (.tuple #[.slice none 0 0, .int .i64 3]) := by
  rcases h with ⟨h, _⟩ | ⟨_, _, he⟩ | ⟨T', hT', _⟩
  · omega
  · exact he
  · exact absurd hT' (hn _)

/-- .. of one that is too short. -/
theorem parsed_short {s : ByteArray} (h4 : s.size < 4) {w : World} {e : Ending} {w' : World} (h : ParsedAny s w e w') : e = .returned (.tuple #[.slice none 0 0, .int .i64 2]) := by
  rcases h with ⟨_, he⟩ | ⟨h, _⟩ | ⟨T', hT', _⟩
  · exact he
  · omega
  · have : s.size = T'.data.toList.length + 4 := by
      rw [← hT']
      show (M.sealed T'.data.toList).toArray.size = _
      simp [M.sealed_length]
    omega

/-- Unseal, whatever the text. -/
theorem unseal_code (s : ByteArray) (h4 : 4 ≤ s.size) (hs : s.size ≤ 140737488351232) : ∃ (u : ByteArray) (c : Int), (∀ w, Tab w → Calls Tryd.prog 10 #[.string s] w fun e w' => e = .returned (.tuple #[.string u, .int .i64 c]) ∧ Q w w') ∧ ((∃ t, sealText t = s) → c = 0) ∧ ((∀ t, sealText t ≠ s) → c = 3) := by
  obtain ⟨n, hn⟩ : ∃ n, s.size = n + 4 := ⟨s.size - 4, by omega⟩
  obtain ⟨T, hT⟩ : ∃ T, s.extract 0 n = T := ⟨_, rfl⟩
  obtain ⟨R, hR⟩ : ∃ R, s.extract n (n + 4) = R := ⟨_, rfl⟩
  have hsR : s = T ++ R := by
    rw [← hT, ← hR, ByteArray.extract_append_extract]
    simp [← hn]
  have hU := fun w hTab => unseal_long s T R n (by omega) hn hT hR w hTab
  by_cases hc : R.data.toList = M.le4 (M.sum T.data.toList)
  · have hse : sealText T.data.toList = s := (sealed_of T R hc).trans hsR.symm
    refine ⟨T, 0, fun w hTab => (hU w hTab).mono ?_, fun _ => rfl, fun h => absurd hse (h _)⟩
    rintro e w' ⟨rfl, q⟩
    refine ⟨?_, ⟨q⟩⟩
    unfold opened
    rw [if_pos hc]
  · refine ⟨⟨#[]⟩, 3, fun w hTab => (hU w hTab).mono ?_, fun h => ?_, fun _ => rfl⟩
    · rintro e w' ⟨rfl, q⟩
      refine ⟨?_, ⟨q⟩⟩
      unfold opened
      rw [if_neg hc]
    · exfalso
      obtain ⟨t, ht⟩ := h
      have h1 : M.sealed t = T.data.toList ++ R.data.toList := by
        have := congrArg (fun x : ByteArray => x.data.toList) (ht.trans hsR)
        simpa [sealText] using this
      have hRs : R.data.toList.length = 4 := by
        have : R.size = 4 := by rw [← hR]; simp; omega
        exact Array.length_toList.trans this
      have hl := congrArg List.length h1
      rw [M.sealed_length, List.length_append, hRs] at hl
      unfold M.sealed at h1
      obtain ⟨e1, e2⟩ := List.append_inj h1 (by omega)
      rw [← e1] at hc
      exact hc e2.symm
end Go.Proofs.YtekdenkllipehaaDoor

/-
  The law on whole blocks: the walk.
-/
namespace Go.Proofs.YtekdenkllipehaaDoor
open Go.RowKit

set_option maxRecDepth 100000 in
set_option maxHeartbeats 1600000 in
theorem whole_walk (zs : List Int) (hz : ∀ z ∈ zs, (Lit.int .i64 z).wf = true) (ao : Option Addr) (cap : Nat) (at_ : Int) (hat : (Lit.int .i64 at_).wf = true) (ms : List Int) (hms : ∀ z ∈ ms, (Lit.int .i64 z).wf = true) (ao2 : Option Addr) (cap2 : Nat) (w : World)
    (h1 : IntsAt w ao zs) (h2 : IntsAt w ao2 ms) (hl1 : zs.length ≤ 140737488351232) (hT : Tab w) :
    Calls Tryd.prog 5 #[.slice ao zs.length cap, .int .i64 at_, .slice ao2 ms.length cap2] w fun e w' => e = .returned (.bool true) ∧ Q w w' := by
  have HRec : Hid _ := fun (_ : Unit) => records_any zs hz ao cap w h1 hl1
  have HP : Hid _ := pick_any
  have HM : Hid (IntsAt w ao2 ms) := h2
  have HMz : Hid (∀ (i : Nat) (z : Int), ms[i]? = some z → (Lit.int .i64 z).wf = true) := fun i z hi => hms z (List.mem_of_getElem? hi)
  clear h1 h2 hz hms
  go_enter Tryd.func5, Tryd.ntmps5
  go_wp2_with fail
  refine (HRec.out ()).mono ?_
  rintro e w1 ⟨rs, a1, c1, rfl, ⟨hF, h64⟩, hR1, q1⟩
  obtain ⟨T, hpT⟩ := hF.plain h64
  have hTl := textTo_length (plainText_some hpT).2
  have hT1 : 1 ≤ T.length := by
    obtain ⟨t, q, ht, hq⟩ := textTo_head (plainText_some hpT).2 0 (by omega)
    simp only [textTo, Option.some.injEq] at ht
    have := M.enc_pos 7 rs.length
    rw [hq, ← ht, List.length_append]
    omega
  obtain ⟨sx, hsx⟩ : ∃ sx, sx = sealText T := ⟨_, rfl⟩
  have hsz : sx.size = T.length + 4 := by
    rw [hsx]
    show (M.sealed T).toArray.size = _
    simp [M.sealed_length]
  have hs5 : 5 ≤ sx.size := by omega
  have hsU : sx.size ≤ 400000 := by omega
  clear hsz
  have hsd : sx.data.toList = M.sealed T := by rw [hsx]; exact List.toList_toArray
  have hB := build_any rs a1 c1 w1 hR1 (by omega) (tab_kept hT q1)
  rw [hpT] at hB
  have HB : Hid (Calls Tryd.prog 13 #[.slice a1 rs.length c1] w1 fun e w' => e = .returned (.tuple #[.string sx, .int .i64 0]) ∧ Q w1 w') := by
    rw [hsx]; exact hB
  have HPs : Hid _ := fun W (hT : Tab W) => (parse_any sx (by omega) W hT).mono (fun e w' h => (⟨parsed_back hpT (by rw [← hsx]; exact h.1), h.2⟩ : _ ∧ _))
  have h3s : (sx.extract 0 3).size < 4 := by simp; omega
  have HP3 : Hid _ := fun W (hT : Tab W) => (parse_any (sx.extract 0 3) (by omega) W hT).mono (fun e w' h => (⟨parsed_short h3s h.1, h.2⟩ : _ ∧ _))
  have HHit : Hid (∀ (fr j : Nat) (B : List UInt8) (ch : Bool), Hit (M.sealed T) fr j B ch → j ≤ 4 → ch = true → ∀ t, M.sealed t ≠ B) := fun fr j B ch h hj hc => hit_apart h hj hc
  have HSd : Hid (sx.data.toList = M.sealed T) := hsd
  have HSx : Hid (sx = sealText T) := hsx
  clear hB hpT hF HRec hsx hsd
  go_wp2_with fail
  refine HB.out.mono ?_
  rintro e w2 ⟨rfl, q2⟩
  have hq2 := q1.trans q2
  have hR2 := hR1.kept q2
  clear q2 hR1 HB
  go_wp2_with fail
  refine (HPs.out w2 (tab_kept hT hq2)).mono ?_
  rintro e w3 ⟨⟨a3, c3, rfl, hR3⟩, q3⟩
  have hq3 := hq2.trans q3
  have hR2' := hR2.kept q3
  have HRa : Hid (Rcs w3 a1 rs) := hR2'
  have HRb : Hid (Rcs w3 a3 rs) := hR3
  have hd5 : decide ((sx.size : Int) < 5) = false := by rw [decide_eq_false_iff_not]; omega
  have hd5' : decide (sx.size < 5) = false := by rw [decide_eq_false_iff_not]; omega
  clear q1 hq2 q3 hR2 hR2' hR3
  go_wp2_with fail
  go_loopw [12] (fun i wr => ∃ k : Nat, i = .int .i64 k ∧ k ≤ rs.length ∧ Q w3 wr) (fun i _ => rs.length - (intOf i).toNat)
  case atStart => exact ⟨0, rfl, Nat.zero_le _, Q.refl _⟩
  case round =>
    obtain ⟨k, rfl, hk, hq⟩ := hrel
    by_cases hlt : k < rs.length
    · obtain ⟨b, off, rfl, hb, hatr⟩ := (HRa.out.kept hq).at hlt
      obtain ⟨b', off', rfl, hb', hatr'⟩ := (HRb.out.kept hq).at hlt
      have hg : rs[k]? = some rs[k] := List.getElem?_eq_getElem hlt
      obtain ⟨k0, k1, k2, k3⟩ := hatr k _ hg
      obtain ⟨d0, d1, d2, d3⟩ := hatr' k _ hg
      generalize rs[k] = r at *
      have i1 : (k : Int) < (rs.length : Int) := by omega
      have i0 : (0 : Int) ≤ (k : Int) := by omega
      clear hatr hatr' hg
      go_wp2_with fail
      go_quiet (fail)
      go_wp2_with fail
      go_roundw
      case rel => exact ⟨k + 1, by go_num, by omega, hq.drewN _⟩
      case measure => simp [intOf]; omega
    · obtain rfl : k = rs.length := by omega
      obtain ⟨cb, w4, hcb, hby, q4⟩ := to_bytes sx wr
      have P1 : Hid _ := HP.out at_ sx.size hat (by omega) (by omega)
      have hp1 := pickN_lt at_ (n := sx.size) (by omega)
      generalize pickN at_ sx.size = fr at *
      have hqA := (hq3.trans hq).trans q4
      have HB0 : Hid (Hid (BytAt w4 wr.heap.size sx.data.toList)) := hby
      have hNw : w.heap.size ≤ wr.heap.size := (hq3.trans hq).below.size
      have HH0 : Hid (Hid (Hit (M.sealed T) fr 0 sx.data.toList false)) := by
        show Hit _ _ _ _ _
        rw [HSd.out]
        exact hit_start _ _ (by rw [← HSd.out]; simp; omega)
      generalize hN : wr.heap.size = N at *
      clear hby hN
      go_wp2_with fail
      refine (P1.out _).mono ?_
      rintro e wy ⟨rfl, hwy⟩
      subst hwy
      go_wp2_with fail
      go_loopw [15, 16] (fun d i wr => ∃ (j : Nat) (B : List UInt8) (ch : Bool), d = .bool ch ∧ i = .int .i64 j ∧ j ≤ 4 ∧ Hid (B.length = sx.size) ∧ Hid (Hit (M.sealed T) fr j B ch) ∧ Hid (BytAt wr N B) ∧ Q w wr) (fun _ i _ => 4 - (intOf i).toNat)
      case atStart => exact ⟨0, sx.data.toList, false, rfl, rfl, by omega, (by simp : sx.data.toList.length = sx.size), HH0.out, HB0.out, hqA⟩
      case round =>
        obtain ⟨j, B, ch, rfl, rfl, hj4, HBl, HH, HB, hqr⟩ := hrel
        have hwf : IntKind.i64.wrap ((fr : Int) + (j : Int)) = (fr : Int) + (j : Int) := by rw [IntKind.wrap_i64]; omega
        obtain ⟨go, hgo⟩ : ∃ go : Bool, go = decide (j < 4 ∧ j < ms.length ∧ fr + j < sx.size) := ⟨_, rfl⟩
        go_upto_region 15 with fail
        go_cut [90] (fun y wx => y = .bool go ∧ wx = wr)
        case first =>
          by_cases c1 : j < 4
          · by_cases c2 : j < ms.length
            · by_cases c3 : fr + j < sx.size
              · have hg : Hid (go = true) := by show _ = _; rw [hgo, decide_eq_true_eq]; exact ⟨c1, c2, c3⟩
                have d1 : decide ((j : Int) < 4) = true := by rw [decide_eq_true_eq]; omega
                have d2 : decide ((j : Int) < (ms.length : Int)) = true := by rw [decide_eq_true_eq]; omega
                have d3 : decide ((fr : Int) + (j : Int) < (sx.size : Int)) = true := by rw [decide_eq_true_eq]; omega
                have e3 : (fr : Int) + (j : Int) < (sx.size : Int) := by omega
                clear hgo
                go_wp2_with fail
                go_meet
                case rel => exact ⟨congrArg Value.bool hg.out.symm, rfl⟩
              · have hg : Hid (go = false) := by show _ = _; rw [hgo, decide_eq_false_iff_not]; exact fun h => c3 h.2.2
                have d1 : decide ((j : Int) < 4) = true := by rw [decide_eq_true_eq]; omega
                have d2 : decide ((j : Int) < (ms.length : Int)) = true := by rw [decide_eq_true_eq]; omega
                have d3 : decide ((fr : Int) + (j : Int) < (sx.size : Int)) = false := by rw [decide_eq_false_iff_not]; omega
                clear hgo
                go_wp2_with fail
                go_meet
                case rel => exact ⟨congrArg Value.bool hg.out.symm, rfl⟩
            · have hg : Hid (go = false) := by show _ = _; rw [hgo, decide_eq_false_iff_not]; exact fun h => c2 h.2.1
              have d1 : decide ((j : Int) < 4) = true := by rw [decide_eq_true_eq]; omega
              have d2 : decide (j < ms.length) = false := by rw [decide_eq_false_iff_not]; exact c2
              clear hgo
              go_wp2_with fail
              go_meet
              case rel => exact ⟨congrArg Value.bool hg.out.symm, rfl⟩
          · have hg : Hid (go = false) := by show _ = _; rw [hgo, decide_eq_false_iff_not]; exact fun h => c1 h.1
            have d1 : decide ((j : Int) < 4) = false := by rw [decide_eq_false_iff_not]; omega
            clear hgo
            go_wp2_with fail
            go_meet
            case rel => exact ⟨congrArg Value.bool hg.out.symm, rfl⟩
        case rest =>
          obtain ⟨rfl, hwc⟩ := hcut
          subst hwc
          cases go with
          | true =>
            have hgo' := hgo.symm
            rw [decide_eq_true_eq] at hgo'
            obtain ⟨g1, g2, g3⟩ := hgo'
            clear hgo
            obtain ⟨bm, om, rfl, hbm, hcm⟩ := (HM.out.kept hqr).at g2
            have hgm : ms[j]? = some ms[j] := List.getElem?_eq_getElem g2
            have cm := hcm j _ hgm
            have fm := HMz.out j _ hgm
            generalize ms[j] = z at *
            have P5 : Hid _ := HP.out z 256 fm (by decide) (by decide)
            have hp5 := pickN_lt z (n := 256) (by decide)
            generalize pickN z 256 = m5 at *
            have b5 : IntKind.u8.wrap (m5 : Int) = (m5 : Int) := by rw [IntKind.wrap_u8]; omega
            have hBj : fr + j < B.length := by rw [HBl.out]; exact g3
            have cx := HB.out.cell (fr + j) hBj
            have fx := HB.out.frz (fr + j) hBj
            have hm5 : (UInt8.ofNat m5).toNat = m5 := by rw [UInt8.toNat_ofNat']; omega
            have hxr := u8_xor (B.getD (fr + j) 0) (UInt8.ofNat m5)
            rw [hm5] at hxr
            have HBs : Hid _ := HB.out.set (fr + j) (B.getD (fr + j) 0 ^^^ UInt8.ofNat m5)
            have HHs : Hid _ := hit_more HH.out (by have := HH.out.len; omega) (UInt8.ofNat m5)
            have HLs : Hid ((B.set (fr + j) (B.getD (fr + j) 0 ^^^ UInt8.ofNat m5)).length = sx.size) := by show _ = _; rw [List.length_set]; exact HBl.out
            generalize B.set (fr + j) (B.getD (fr + j) 0 ^^^ UInt8.ofNat m5) = B' at *
            generalize (B.getD (fr + j) 0 ^^^ UInt8.ofNat m5).toNat = xr at *
            generalize (B.getD (fr + j) 0).toNat = xb at *
            have hQs : Q w (wc.setCell ⟨N, fr + j, none⟩ (.int .u8 (xr : Int))) := ⟨hqr.below.grown (set_grown wc N (fr + j) _) hqr.below.size (by intro q hq; simp at hq; omega)⟩
            have i1 : (j : Int) < (ms.length : Int) := by omega
            have i0 : (0 : Int) ≤ (j : Int) := by omega
            have i3 : (fr : Int) + (j : Int) < (sx.size : Int) := by omega
            have i4 : (0 : Int) ≤ (fr : Int) + (j : Int) := by omega
            have i5 : ((fr : Int) + (j : Int)).toNat = fr + j := by omega
            have hzz : decide (UInt8.ofNat m5 ≠ 0) = !((m5 : Int) == 0) := by
              rw [Bool.eq_iff_iff]
              simp
              constructor
              · intro h e; exact h (by rw [e]; rfl)
              · intro h e
                have := congrArg UInt8.toNat e
                rw [hm5] at this
                exact h (by simpa using this)
            rw [hzz] at HHs
            clear hzz hm5 HB HH hcm hgm HBl hBj
            go_wp2_with fail
            refine (P5.out _).mono ?_
            rintro e wz ⟨rfl, hwz⟩
            subst hwz
            cases ch with
            | true =>
              go_wp2_with fail
              go_roundw
              case rel => exact ⟨j + 1, B', true, by simp, by go_num, by omega, HLs, by simpa using HHs, HBs, hQs⟩
              case measure => simp [intOf]; omega
            | false =>
              go_wp2_with fail
              go_roundw
              case rel => exact ⟨j + 1, B', !((m5 : Int) == 0), by first | rfl | (simp; done), by go_num, by omega, HLs, by simpa using HHs, HBs, hQs⟩
              case measure => simp [intOf]; omega
          | false =>
            obtain ⟨sb, hsb⟩ : ∃ sb : ByteArray, sb = ⟨B.toArray⟩ := ⟨_, rfl⟩
            have hbs : sb.size = sx.size := by
              rw [hsb]
              show B.toArray.size = _
              simpa using HBl.out
            have HcA : Hid (∀ W, BytAt W N B → (convert 40 9 (.slice (some ⟨N, 0, none⟩) sx.size cb)).run Tryd.prog W = .ok (.string sb) W) := fun W h => by
              have := h.text (cap := cb)
              rw [HBl.out, ← hsb] at this
              exact this
            have eq1 := HcA.out _ HB.out
            obtain ⟨u, cu, hUn, hU0, hU3⟩ := unseal_code sb (by omega) (by omega)
            have h3I : (3 : Int) ≤ (sx.size : Int) := by omega
            cases ch with
            | false =>
              have hBS := HH.out.same rfl
              have hsbx : sb = sx := by
                rw [hsb, HSx.out, hBS]
                rfl
              have hcu : cu = 0 := hU0 ⟨T, by rw [hsbx]; exact HSx.out.symm⟩
              subst hcu
              have HPb : Hid (∀ W, Tab W → Calls Tryd.prog 16 #[.string sb] W fun e w' => (∃ (a : Option Addr) (n c : Nat), e = .returned (.tuple #[.slice a n c, .int .i64 0])) ∧ Q W w') := fun W hT => by
                rw [hsbx]
                refine (HPs.out W hT).mono ?_
                rintro e w' ⟨⟨a, c, he, _⟩, q⟩
                exact ⟨⟨a, _, c, he⟩, q⟩
              have HUn : Hid _ := hUn
              clear hBS hsbx hbs hsb hUn hU0 hU3 hgo
              go_wp2_with fail
              refine (HPb.out _ (tab_kept hT hqr)).mono ?_
              rintro e w5 ⟨⟨a5, n5, c5, rfl⟩, q5⟩
              have hq5 := hqr.trans q5
              have eq2 := HcA.out w5 (HB.out.kept q5)
              clear q5 eq1
              go_wp2_with fail
              refine (HUn.out _ (tab_kept hT hq5)).mono ?_
              rintro e w6 ⟨rfl, q6⟩
              have hq6 := hq5.trans q6
              clear q6 hq5 eq2
              go_wp2_with fail
              refine (HP3.out _ (tab_kept hT hq6)).mono ?_
              rintro e w7 ⟨rfl, q7⟩
              have hq7 := hq6.trans q7
              clear q7 hq6
              go_wp2_with fail
              go_ret
              exact ⟨rfl, hq7⟩
            | true =>
              have hno : ∀ t, sealText t ≠ sb := by
                intro t ht
                refine HHit.out fr j B true HH.out hj4 rfl t ?_
                have := congrArg (fun x : ByteArray => x.data.toList) (ht.trans hsb)
                simpa [sealText] using this
              have hcu : cu = 3 := hU3 hno
              subst hcu
              have HPb : Hid (∀ W, Tab W → Calls Tryd.prog 16 #[.string sb] W fun e w' => (∃ (a : Option Addr) (n c : Nat), e = .returned (.tuple #[.slice a n c, .int .i64 3])) ∧ Q W w') := fun W hT => by
                refine (parse_any sb (by omega) W hT).mono ?_
                rintro e w' ⟨h, q⟩
                exact ⟨⟨none, 0, 0, parsed_not (by omega) hno h⟩, q⟩
              have HUn : Hid _ := hUn
              clear hno hbs hsb hUn hU0 hU3 hgo
              go_wp2_with fail
              refine (HPb.out _ (tab_kept hT hqr)).mono ?_
              rintro e w5 ⟨⟨a5, n5, c5, rfl⟩, q5⟩
              have hq5 := hqr.trans q5
              have eq2 := HcA.out w5 (HB.out.kept q5)
              clear q5 eq1
              go_wp2_with fail
              refine (HUn.out _ (tab_kept hT hq5)).mono ?_
              rintro e w6 ⟨rfl, q6⟩
              have hq6 := hq5.trans q6
              clear q6 hq5 eq2
              go_wp2_with fail
              refine (HP3.out _ (tab_kept hT hq6)).mono ?_
              rintro e w7 ⟨rfl, q7⟩
              have hq7 := hq6.trans q7
              clear q7 hq6
              go_wp2_with fail
              go_ret
              exact ⟨rfl, hq7⟩
end Go.Proofs.YtekdenkllipehaaDoor
