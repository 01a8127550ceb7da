/-
  Blocks: what the records' text is, and when there is none.
-/
import Derived.Test.YtekdenkllipehaaDoorRec
import Derived.Test.YtekdenkllipehaaDoorCrc
namespace Go.Proofs.YtekdenkllipehaaDoor
open Go.RowKit

def Rec.less (p r : Rec) : Bool := Op.bytesLess p.key.toList r.key.toList
def Rec.same (p r : Rec) : Bool := p.key.toList == r.key.toList

/-- Do two records, one behind the other, not stand in order? -/
def Rec.wrong (p r : Rec) : Bool := !(p.less r || p.same r) || (p.same r && decide (p.stamp ≤ r.stamp))

/-- The record ahead of the k-th. -/
def before (rs : List Rec) (k : Nat) (r : Rec) : Rec := rs.getD (k - 1) r

/-- Is the k-th record beyond its bounds, or not in order? -/
def badAt (rs : List Rec) (k : Nat) (r : Rec) : Bool := !r.fits || (decide (0 < k) && (before rs k r).wrong r)

/-- How many bytes of the k-th record's key are not told again. -/
def sharedAt (rs : List Rec) (k : Nat) (r : Rec) : Nat := if 0 < k % 8 then common (before rs k r).key.data.toList r.key.data.toList else 0

theorem sharedAt_le (rs : List Rec) (k : Nat) (r : Rec) : sharedAt rs k r ≤ r.key.size := by
  unfold sharedAt
  split
  · have := (common_le (before rs k r).key.data.toList r.key.data.toList).2
    simpa using this
  · omega

/-- The k-th record's bytes. -/
def entry (rs : List Rec) (k : Nat) (r : Rec) : List UInt8 :=
  M.enc 7 (sharedAt rs k r) ++ M.enc 7 (r.key.size - sharedAt rs k r) ++ r.key.data.toList.drop (sharedAt rs k r) ++ M.enc 7 r.stamp.toNat ++ [UInt8.ofNat r.kind.toNat] ++ M.enc 7 r.body.size ++ r.body.data.toList

/-- The text of the first k records. -/
def textTo (rs : List Rec) : Nat → Option (List UInt8)
  | 0 => some (M.enc 7 rs.length)
  | k + 1 =>
    match textTo rs k, rs[k]? with
    | some t, some r => if badAt rs k r then none else some (t ++ entry rs k r)
    | _, _ => none

theorem textTo_good {rs : List Rec} {k : Nat} {t : List UInt8} {r : Rec} (h : textTo rs k = some t) (hr : rs[k]? = some r) (hb : badAt rs k r = false) : textTo rs (k + 1) = some (t ++ entry rs k r) := by
  simp [textTo, h, hr, hb]

theorem textTo_bad {rs : List Rec} {k : Nat} {r : Rec} (hr : rs[k]? = some r) (hb : badAt rs k r = true) : textTo rs (k + 1) = none := by
  simp only [textTo, hr]
  cases textTo rs k <;> simp [hb]

theorem textTo_none {rs : List Rec} {k : Nat} (h : textTo rs k = none) : ∀ j, textTo rs (k + j) = none
  | 0 => h
  | j + 1 => by
    show textTo rs (k + j + 1) = none
    simp only [textTo, textTo_none h j]

/-- A block's text before it is sealed; none: the records have none. -/
def plainText (rs : List Rec) : Option (List UInt8) := if 64 < rs.length then none else textTo rs rs.length

theorem enc_length : ∀ (f n : Nat), (M.enc f n).length ≤ f + 1
  | 0, _ => by simp [M.enc]
  | f + 1, n => by
    simp only [M.enc]
    split
    · simp
    · have := enc_length f (n / 128); simp; omega

theorem entry_length (rs : List Rec) (k : Nat) (r : Rec) (h : r.fits = true) : (entry rs k r).length ≤ 5000 := by
  simp only [Rec.fits, decide_eq_true_eq] at h
  have h1 := enc_length 7 (sharedAt rs k r)
  have h2 := enc_length 7 (r.key.size - sharedAt rs k r)
  have h3 := enc_length 7 r.stamp.toNat
  have h4 := enc_length 7 r.body.size
  have h5 : (r.key.data.toList.drop (sharedAt rs k r)).length ≤ 64 := by simp; omega
  have h6 : r.body.data.toList.length ≤ 4200 := by simpa using h.2.2.1
  simp only [entry, List.length_append, List.length_singleton]
  omega

theorem textTo_length {rs : List Rec} : ∀ {k : Nat} {t : List UInt8}, textTo rs k = some t → t.length ≤ 8 + 5000 * k
  | 0, t, h => by
    simp only [textTo, Option.some.injEq] at h
    subst h
    have := enc_length 7 rs.length
    omega
  | k + 1, t, h => by
    simp only [textTo] at h
    cases ht : textTo rs k with
    | none => rw [ht] at h; simp at h
    | some t0 =>
      cases hr : rs[k]? with
      | none => rw [ht, hr] at h; simp at h
      | some r =>
        rw [ht, hr] at h
        simp only at h
        split at h
        · simp at h
        · rename_i hb
          simp only [Option.some.injEq] at h
          subst h
          have h1 := textTo_length ht
          have hf : r.fits = true := by
            cases hff : r.fits with
            | true => rfl
            | false => simp [badAt, hff] at hb
          have h2 := entry_length rs k r hf
          simp only [List.length_append]; omega
end Go.Proofs.YtekdenkllipehaaDoor
