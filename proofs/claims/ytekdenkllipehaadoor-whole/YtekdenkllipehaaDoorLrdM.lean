/-
  Blocks: what the landed code reads of a text, as plain mathematics: whoever wrote records reads them again.
-/
import Derived.Test.YtekdenkllipehaaDoorScanM
namespace Go.Proofs.YtekdenkllipehaaDoor
open Go.RowKit

/-- A number that is not above most, read at the place a, and the place behind it; 0 and the text's end, where none stands. -/
def numTo (T : List UInt8) (most a : Nat) : Nat × Nat :=
  match M.getAt T a with
  | some (v, nx) => if most < v then (0, T.length) else (v, nx)
  | none => (0, T.length)

/-- Does none stand there? -/
def numBad (T : List UInt8) (most a : Nat) : Bool :=
  match M.getAt T a with
  | some (v, _) => decide (most < v)
  | none => true

/-- The next n bytes. -/
def bytTo (T : List UInt8) (n a : Nat) : List UInt8 × Nat :=
  if T.length - a < n then ([], T.length) else ((T.drop a).take n, a + n)

def bytBad (T : List UInt8) (n a : Nat) : Bool := decide (T.length - a < n)

theorem numTo_sits {T : List UInt8} {a n most : Nat} (h : Sits T a (M.enc 7 n)) (hn : n < 72057594037927936) (hm : n ≤ most) : numTo T most a = (n, a + (M.enc 7 n).length) := by
  obtain ⟨p, q, rfl, rfl⟩ := h
  unfold numTo
  rw [M.getAt_enc p q n hn]
  simp only
  rw [if_neg (by omega)]

theorem bytTo_sits {T : List UInt8} {a : Nat} {l : List UInt8} (h : Sits T a l) : bytTo T l.length a = (l, a + l.length) := by
  obtain ⟨p, q, rfl, rfl⟩ := h
  unfold bytTo
  rw [if_neg (by simp), List.drop_left, List.take_left]

theorem numBad_sits {T : List UInt8} {a n most : Nat} (h : Sits T a (M.enc 7 n)) (hn : n < 72057594037927936) (hm : n ≤ most) : numBad T most a = false := by
  obtain ⟨p, q, rfl, rfl⟩ := h
  unfold numBad
  rw [M.getAt_enc p q n hn]
  simp only
  simp
  omega

theorem bytBad_sits {T : List UInt8} {a : Nat} {l : List UInt8} (h : Sits T a l) : bytBad T l.length a = false := by
  obtain ⟨p, q, rfl, rfl⟩ := h
  unfold bytBad
  simp

theorem numTo_le {T : List UInt8} {most a : Nat} (_h : a ≤ T.length) : (numTo T most a).2 ≤ T.length ∧ (numTo T most a).1 ≤ most ∧ (numTo T most a).1 < 72057594037927936 := by
  unfold numTo
  cases hg : M.getAt T a with
  | none => exact ⟨Nat.le_refl _, by simp, by simp⟩
  | some p =>
    obtain ⟨v, nx⟩ := p
    have := M.getAt_bound hg
    simp only
    split
    · exact ⟨Nat.le_refl _, by simp, by simp⟩
    · exact ⟨this.2.2.1, by simp only; omega, this.1⟩

theorem bytTo_le {T : List UInt8} {n a : Nat} (h : a ≤ T.length) : (bytTo T n a).2 ≤ T.length ∧ (bytTo T n a).1.length ≤ n := by
  unfold bytTo
  split
  · exact ⟨Nat.le_refl _, by simp⟩
  · exact ⟨by simp only; omega, by simp; omega⟩

/-- A record read at the place a, behind one with the key 'ahead'. -/
def recTo (T ahead : List UInt8) (a : Nat) : Rec × Nat :=
  match numTo T ahead.length a with
  | (k, a1) => match numTo T 64 a1 with
  | (m, a2) => match bytTo T m a2 with
  | (t, a3) => match numTo T 1099511627776 a3 with
  | (st, a4) => match numTo T 2 a4 with
  | (kd, a5) => match numTo T 4200 a5 with
  | (z, a6) => match bytTo T z a6 with
  | (bd, a7) => (⟨⟨(ahead.take k ++ t).toArray⟩, (st : Int), (kd : Int), ⟨bd.toArray⟩⟩, a7)

/-- The key of which the k-th record tells only what differs. -/
def aheadAt (rs : List Rec) (k : Nat) : List UInt8 := if k % 8 = 0 then [] else lastAt rs k

theorem shared_ahead {rs : List Rec} {k : Nat} {r : Rec} (h : rs[k]? = some r) : sharedAt rs k r ≤ (aheadAt rs k).length ∧ (aheadAt rs k).take (sharedAt rs k r) = r.key.data.toList.take (sharedAt rs k r) := by
  unfold aheadAt
  by_cases h8 : k % 8 = 0
  · have : sharedAt rs k r = 0 := by unfold sharedAt; rw [if_neg (by omega)]
    rw [this]; simp
  · rw [if_neg h8]
    exact shared_last h

/-- A record's bytes are read back as that record. -/
theorem recTo_entry {T : List UInt8} {a k : Nat} {rs : List Rec} {r : Rec} (hr : rs[k]? = some r) (hf : r.fits = true) (h : Sits T a (entry rs k r)) :
    recTo T (aheadAt rs k) a = (r, a + (entry rs k r).length) := by
  simp only [Rec.fits, decide_eq_true_eq] at hf
  obtain ⟨_, hf2, hf3, hf4, hf5, hf6, hf7⟩ := hf
  obtain ⟨hs1, hs2⟩ := shared_ahead hr
  have hs3 := sharedAt_le rs k r
  have hlen : (entry rs k r).length = (M.enc 7 (sharedAt rs k r)).length + (M.enc 7 (r.key.size - sharedAt rs k r)).length + (r.key.data.toList.drop (sharedAt rs k r)).length + (M.enc 7 r.stamp.toNat).length + 1 + (M.enc 7 r.body.size).length + r.body.data.toList.length := by
    simp [entry]; omega
  rw [hlen]
  unfold entry at h
  generalize sharedAt rs k r = n at *
  obtain ⟨h, k7⟩ := sits_append h
  obtain ⟨h, k6⟩ := sits_append h
  obtain ⟨h, k5⟩ := sits_append h
  obtain ⟨h, k4⟩ := sits_append h
  obtain ⟨h, k3⟩ := sits_append h
  obtain ⟨k1, k2⟩ := sits_append h
  have hkd : [UInt8.ofNat r.kind.toNat] = M.enc 7 r.kind.toNat := (M.enc_small 7 r.kind.toNat (by omega)).symm
  have hk1 : (M.enc 7 r.kind.toNat).length = 1 := by rw [← hkd]; rfl
  rw [hkd] at k5 k6 k7
  simp only [List.length_append, hk1] at k2 k3 k4 k5 k6 k7
  have hd : (r.key.data.toList.drop n).length = r.key.size - n := by simp
  have hb : r.body.data.toList.length = r.body.size := by simp
  have e1 := numTo_sits k1 (by omega) hs1
  have e2 := numTo_sits (most := 64) k2 (by omega) (by omega)
  have e3 := bytTo_sits k3
  have e4 := numTo_sits (most := 1099511627776) k4 (by omega) (by omega)
  have e5 := numTo_sits (most := 2) k5 (by omega) (by omega)
  have e6 := numTo_sits (most := 4200) k6 (by omega) (by omega)
  have e7 := bytTo_sits k7
  rw [hd] at e3
  rw [hb] at e7
  rw [hk1] at e5
  unfold recTo
  simp only [e1]
  simp only [Nat.add_assoc] at e1 e2 e3 e4 e5 e6 e7 ⊢
  simp only [e2]
  simp only [hd] at *
  simp only [e3, e4, e5, e6, e7]
  have q1 : (⟨((aheadAt rs k).take n ++ r.key.data.toList.drop n).toArray⟩ : ByteArray) = r.key := by
    rw [hs2, List.take_append_drop]
  simp only [Prod.mk.injEq]
  refine ⟨rec_ext q1 (by simp; omega) (by simp; omega) rfl, by omega⟩

/-- What was read of a text behind i records, from the place a0 on: the records, and the place. -/
def rdTo (T : List UInt8) (a0 : Nat) : Nat → List Rec × Nat
  | 0 => ([], a0)
  | i + 1 => ((rdTo T a0 i).1 ++ [(recTo T (aheadAt (rdTo T a0 i).1 i) (rdTo T a0 i).2).1], (recTo T (aheadAt (rdTo T a0 i).1 i) (rdTo T a0 i).2).2)

/-- All that is read of a text. -/
def readAllTo (T : List UInt8) : List Rec := (rdTo T (numTo T 64 0).2 (numTo T 64 0).1).1

theorem rdTo_length (T : List UInt8) (a0 : Nat) : ∀ i, (rdTo T a0 i).1.length = i
  | 0 => rfl
  | i + 1 => by simp [rdTo, rdTo_length T a0 i]

theorem aheadAt_take {rs : List Rec} {i : Nat} (hi : i ≤ rs.length) : aheadAt (rs.take i) i = aheadAt rs i := by
  unfold aheadAt
  split
  · rfl
  · match i with
    | 0 => rfl
    | i + 1 => simp only [lastAt]; rw [List.getElem?_take_of_lt (by omega)]

/-- A text of records is read as these. -/
theorem rdTo_follows {T : List UInt8} {rs : List Rec} (hp : plainText rs = some T) : ∀ i, i ≤ rs.length → ∃ t q, textTo rs i = some t ∧ T = t ++ q ∧ rdTo T (M.enc 7 rs.length).length i = (rs.take i, t.length)
  | 0, _ => by
    obtain ⟨h64, ht⟩ := plainText_some hp
    obtain ⟨t, q, h1, h2⟩ := textTo_head ht 0 (by omega)
    refine ⟨t, q, h1, h2, ?_⟩
    simp only [textTo, Option.some.injEq] at h1
    subst h1
    simp [rdTo]
  | i + 1, hi => by
    obtain ⟨t, q, h1, h2, h3⟩ := rdTo_follows hp i (by omega)
    obtain ⟨h64, ht⟩ := plainText_some hp
    obtain ⟨u, q', k1, k2⟩ := textTo_head ht (i + 1) hi
    have hr : rs[i]? = some rs[i] := List.getElem?_eq_getElem (by omega)
    obtain ⟨e1, hf⟩ := textTo_step h1 hr k1
    have hsits : Sits T t.length (entry rs i rs[i]) := ⟨t, q', by rw [k2, e1]; simp, rfl⟩
    refine ⟨u, q', k1, k2, ?_⟩
    have hx := recTo_entry hr hf hsits
    have hrow : rs.take (i + 1) = rs.take i ++ [rs[i]] := by rw [List.take_add_one, hr]; rfl
    simp only [rdTo, h3, aheadAt_take (show i ≤ rs.length by omega), hx]
    rw [hrow, e1, List.length_append]

theorem readAllTo_plain {T : List UInt8} {rs : List Rec} (hp : plainText rs = some T) : readAllTo T = rs := by
  obtain ⟨h64, ht⟩ := plainText_some hp
  obtain ⟨t, q, h1, h2⟩ := textTo_head ht 0 (by omega)
  simp only [textTo, Option.some.injEq] at h1
  have hs : Sits T 0 (M.enc 7 rs.length) := ⟨[], q, by rw [h2, h1]; simp, rfl⟩
  unfold readAllTo
  rw [numTo_sits (most := 64) hs (by omega) h64, Nat.zero_add]
  obtain ⟨t, q, _, _, h3⟩ := rdTo_follows hp rs.length (Nat.le_refl _)
  simp only [h3, List.take_length]

/-- What is read lies within bounds. -/
theorem recTo_le {T ahead : List UInt8} {a : Nat} (h : a ≤ T.length) : (recTo T ahead a).2 ≤ T.length ∧ (recTo T ahead a).1.key.size ≤ ahead.length + 64 ∧ (recTo T ahead a).1.body.size ≤ 4200 ∧ 0 ≤ (recTo T ahead a).1.stamp ∧ (recTo T ahead a).1.stamp < 72057594037927936 ∧ 0 ≤ (recTo T ahead a).1.kind ∧ (recTo T ahead a).1.kind < 72057594037927936 := by
  unfold recTo
  have h1 := numTo_le (most := ahead.length) h
  generalize numTo T ahead.length a = p1 at *
  obtain ⟨k, a1⟩ := p1
  have h2 := numTo_le (most := 64) h1.1
  simp only at *
  generalize numTo T 64 a1 = p2 at *
  obtain ⟨m, a2⟩ := p2
  have h3 := bytTo_le (n := m) h2.1
  simp only at *
  generalize bytTo T m a2 = p3 at *
  obtain ⟨t, a3⟩ := p3
  have h4 := numTo_le (most := 1099511627776) h3.1
  simp only at *
  generalize numTo T 1099511627776 a3 = p4 at *
  obtain ⟨st, a4⟩ := p4
  have h5 := numTo_le (most := 2) h4.1
  simp only at *
  generalize numTo T 2 a4 = p5 at *
  obtain ⟨kd, a5⟩ := p5
  have h6 := numTo_le (most := 4200) h5.1
  simp only at *
  generalize numTo T 4200 a5 = p6 at *
  obtain ⟨z, a6⟩ := p6
  have h7 := bytTo_le (n := z) h6.1
  simp only at *
  generalize bytTo T z a6 = p7 at *
  obtain ⟨bd, a7⟩ := p7
  simp only at *
  refine ⟨h7.1, ?_, ?_, by omega, by omega, by omega, by omega⟩
  · simp only [ByteArray.size, List.size_toArray, List.length_append, List.length_take]; omega
  · simp only [ByteArray.size, List.size_toArray]; omega

theorem rdTo_le {T : List UInt8} {a0 : Nat} (h0 : a0 ≤ T.length) : ∀ i, (rdTo T a0 i).2 ≤ T.length ∧ ∀ (j : Nat) (r : Rec), (rdTo T a0 i).1[j]? = some r → r.key.size ≤ 64 * (j + 1) ∧ r.body.size ≤ 4200 ∧ 0 ≤ r.stamp ∧ r.stamp < 72057594037927936 ∧ 0 ≤ r.kind ∧ r.kind < 72057594037927936
  | 0 => ⟨h0, fun j r h => by simp [rdTo] at h⟩
  | i + 1 => by
    obtain ⟨h1, h2⟩ := rdTo_le h0 i
    have hl := rdTo_length T a0 i
    simp only [rdTo]
    generalize rdTo T a0 i = p at *
    obtain ⟨l, a⟩ := p
    simp only at *
    have hah : (aheadAt l i).length ≤ 64 * i := by
      unfold aheadAt
      split
      · simp
      · match i with
        | 0 => simp [lastAt]
        | i + 1 =>
          simp only [lastAt]
          cases hx : l[i]? with
          | none => simp
          | some r => have := (h2 i r hx).1; simpa using this
    have hr := recTo_le (ahead := aheadAt l i) h1
    generalize recTo T (aheadAt l i) a = p at *
    obtain ⟨r, a'⟩ := p
    simp only at *
    refine ⟨hr.1, fun j u hj => ?_⟩
    rcases Nat.lt_or_ge j l.length with hlt | hge
    · rw [List.getElem?_append_left hlt] at hj; exact h2 j u hj
    · rw [List.getElem?_append_right hge] at hj
      have hj0 : j - l.length = 0 := by
        have := (List.getElem?_eq_some_iff.1 hj).1; simp at this; omega
      rw [hj0] at hj
      simp at hj
      subst hj
      have : j = i := by omega
      subst this
      exact ⟨by omega, hr.2.2⟩
end Go.Proofs.YtekdenkllipehaaDoor
