/-
  Blocks read back: plain mathematics on records and bytes.
-/
import Derived.Test.YtekdenkllipehaaDoorBlk
import Derived.Test.YtekdenkllipehaaDoorEncDec
namespace Go.Proofs.YtekdenkllipehaaDoor

/-- l lies in T from the place a on. -/
def Sits (T : List UInt8) (a : Nat) (l : List UInt8) : Prop := ∃ p q, T = p ++ (l ++ q) ∧ a = p.length

theorem sits_append {T : List UInt8} {a : Nat} {l m : List UInt8} (h : Sits T a (l ++ m)) : Sits T a l ∧ Sits T (a + l.length) m := by
  obtain ⟨p, q, rfl, rfl⟩ := h
  exact ⟨⟨p, m ++ q, by simp, rfl⟩, ⟨p ++ l, q, by simp, by simp⟩⟩

theorem sits_le {T : List UInt8} {a : Nat} {l : List UInt8} (h : Sits T a l) : a + l.length ≤ T.length := by
  obtain ⟨p, q, rfl, rfl⟩ := h
  simp

/-- A number read at the place a: itself, the place behind it, whether the reading has failed. -/
def numAt (T : List UInt8) (a : Nat) (bad : Bool) : Nat × Nat × Bool :=
  match M.getAt T a with
  | some (v, nx) => (v, nx, bad)
  | none => (0, a, true)

/-- n bytes read at the place a. -/
def txtAt (T : List UInt8) (n a : Nat) (bad : Bool) : List UInt8 × Nat × Bool :=
  if bad = true ∨ T.length - a < n then ([], a, true) else ((T.drop a).take n, a + n, false)

theorem numAt_sits {T : List UInt8} {a n : Nat} (h : Sits T a (M.enc 7 n)) (hn : n < 72057594037927936) (bad : Bool) : numAt T a bad = (n, a + (M.enc 7 n).length, bad) := by
  obtain ⟨p, q, rfl, rfl⟩ := h
  unfold numAt
  rw [M.getAt_enc p q n hn]

theorem txtAt_sits {T : List UInt8} {a : Nat} {l : List UInt8} (h : Sits T a l) : txtAt T l.length a false = (l, a + l.length, false) := by
  have hle := sits_le h
  obtain ⟨p, q, rfl, rfl⟩ := h
  unfold txtAt
  rw [if_neg (by simp), List.drop_left, List.take_left]

/-- The kind that a text of at most one byte tells. -/
def kindOf : List UInt8 → Int
  | [] => 0
  | b :: _ => (b.toNat : Int)

/-- A record read at the place a, behind the key 'last'; none: its key takes more of 'last' than there is. -/
def readAt (T last : List UInt8) (a : Nat) (bad : Bool) : Option (Rec × Nat × Bool) :=
  match numAt T a bad with
  | (k, a1, b1) =>
    if last.length < k then none
    else match numAt T a1 b1 with
    | (m, a2, b2) => match txtAt T m a2 b2 with
    | (t, a3, b3) => match numAt T a3 b3 with
    | (st, a4, b4) => match txtAt T 1 a4 b4 with
    | (kd, a5, b5) => match numAt T a5 b5 with
    | (z, a6, b6) => match txtAt T z a6 b6 with
    | (bd, a7, b7) => some (⟨⟨(last.take k ++ t).toArray⟩, (st : Int), kindOf kd, ⟨bd.toArray⟩⟩, a7, b7)

/-- The key ahead of the k-th record. -/
def lastAt (rs : List Rec) : Nat → List UInt8
  | 0 => []
  | k + 1 => ((rs[k]?).map fun p => p.key.data.toList).getD []

theorem common_take (a b : List UInt8) : a.take (common a b) = b.take (common a b) := by
  induction a generalizing b with
  | nil => simp [common]
  | cons x a ih =>
    cases b with
    | nil => simp [common]
    | cons y b =>
      simp only [common]
      split
      · rename_i e; subst e; simp [ih b]
      · simp

theorem shared_last {rs : List Rec} {k : Nat} {r : Rec} (h : rs[k]? = some r) : sharedAt rs k r ≤ (lastAt rs k).length ∧ (lastAt rs k).take (sharedAt rs k r) = r.key.data.toList.take (sharedAt rs k r) := by
  unfold sharedAt
  split
  · match k, h with
    | 0, _ => rename_i hk; simp at hk
    | k + 1, h =>
      have hl : k < rs.length := by
        have := (List.getElem?_eq_some_iff.1 h).1; omega
      have hb : before rs (k + 1) r = rs[k] := by
        unfold before
        rw [Nat.add_sub_cancel, List.getD_eq_getElem?_getD, List.getElem?_eq_getElem hl]; rfl
      have hla : lastAt rs (k + 1) = (rs[k]).key.data.toList := by
        simp [lastAt, List.getElem?_eq_getElem hl]
      rw [hb, hla]
      exact ⟨(common_le _ _).1, common_take _ _⟩
  · simp

theorem rec_ext {r s : Rec} (h1 : r.key = s.key) (h2 : r.stamp = s.stamp) (h3 : r.kind = s.kind) (h4 : r.body = s.body) : r = s := by
  cases r; cases s; simp_all

/-- A record's bytes are read back as that record. -/
theorem readAt_entry {T : List UInt8} {a k : Nat} {rs : List Rec} {r : Rec} (hr : rs[k]? = some r) (hf : r.fits = true) (h : Sits T a (entry rs k r)) :
    readAt T (lastAt rs k) a false = some (r, a + (entry rs k r).length, false) := by
  simp only [Rec.fits, decide_eq_true_eq] at hf
  obtain ⟨_, hf2, hf3, hf4, hf5, hf6, hf7⟩ := hf
  obtain ⟨hs1, hs2⟩ := shared_last hr
  have hs3 := sharedAt_le rs k r
  have hlen : (entry rs k r).length = (M.enc 7 (sharedAt rs k r)).length + (M.enc 7 (r.key.size - sharedAt rs k r)).length + (r.key.data.toList.drop (sharedAt rs k r)).length + (M.enc 7 r.stamp.toNat).length + 1 + (M.enc 7 r.body.size).length + r.body.data.toList.length := by
    simp [entry]; omega
  rw [hlen]
  unfold entry at h
  generalize sharedAt rs k r = n at *
  obtain ⟨h, k7⟩ := sits_append h
  obtain ⟨h, k6⟩ := sits_append h
  obtain ⟨h, k5⟩ := sits_append h
  obtain ⟨h, k4⟩ := sits_append h
  obtain ⟨h, k3⟩ := sits_append h
  obtain ⟨k1, k2⟩ := sits_append h
  simp only [List.length_append, List.length_cons, List.length_nil, Nat.zero_add] at k2 k3 k4 k5 k6 k7
  have hd : (r.key.data.toList.drop n).length = r.key.size - n := by simp
  have hb : r.body.data.toList.length = r.body.size := by simp
  have e1 := numAt_sits k1 (by omega) false
  have e2 := numAt_sits k2 (by omega) false
  have e3 := txtAt_sits k3
  have e4 := numAt_sits k4 (by omega) false
  have e5 := txtAt_sits k5
  have e6 := numAt_sits k6 (by omega) false
  have e7 := txtAt_sits k7
  rw [hd] at e3
  rw [hb] at e7
  simp only [List.length_cons, List.length_nil, Nat.zero_add] at e5
  unfold readAt
  simp only [e1]
  rw [if_neg (by omega)]
  simp only [Nat.add_assoc] at e1 e2 e3 e4 e5 e6 e7 ⊢
  simp only [e2]
  simp only [hd] at *
  simp only [e3, e4, e5, e6, e7]
  have q1 : (⟨((lastAt rs k).take n ++ r.key.data.toList.drop n).toArray⟩ : ByteArray) = r.key := by
    rw [hs2, List.take_append_drop]
  have q2 : kindOf [UInt8.ofNat r.kind.toNat] = r.kind := by
    simp only [kindOf, UInt8.toNat_ofNat']; omega
  simp only [Option.some.injEq, Prod.mk.injEq, and_true]
  refine ⟨rec_ext q1 (by simp; omega) q2 rfl, by omega⟩

/-- The first records' text is the head of the text. -/
theorem textTo_head {rs : List Rec} : ∀ {j : Nat} {u : List UInt8}, textTo rs j = some u → ∀ k, k ≤ j → ∃ t q, textTo rs k = some t ∧ u = t ++ q
  | 0, u, h, k, hk => by
    obtain rfl : k = 0 := by omega
    exact ⟨u, [], h, by simp⟩
  | j + 1, u, h, k, hk => by
    by_cases hkj : k = j + 1
    · subst hkj; exact ⟨u, [], h, by simp⟩
    · cases ht : textTo rs j with
      | none => simp [textTo, ht] at h
      | some t0 =>
        cases hr : rs[j]? with
        | none => simp [textTo, ht, hr] at h
        | some r =>
          simp only [textTo, ht, hr] at h
          split at h
          · simp at h
          · simp only [Option.some.injEq] at h
            subst h
            obtain ⟨t, q, h1, h2⟩ := textTo_head ht k (by omega)
            exact ⟨t, q ++ entry rs j r, h1, by rw [h2]; simp⟩

theorem textTo_step {rs : List Rec} {k : Nat} {t u : List UInt8} {r : Rec} (h : textTo rs k = some t) (hr : rs[k]? = some r) (hu : textTo rs (k + 1) = some u) : u = t ++ entry rs k r ∧ r.fits = true := by
  simp only [textTo, h, hr] at hu
  split at hu
  · simp at hu
  · rename_i hb
    simp only [Option.some.injEq] at hu
    refine ⟨hu.symm, ?_⟩
    cases hf : r.fits with
    | true => rfl
    | false => simp [badAt, hf] at hb

theorem plainText_some {rs : List Rec} {T : List UInt8} (h : plainText rs = some T) : rs.length ≤ 64 ∧ textTo rs rs.length = some T := by
  unfold plainText at h
  split at h
  · simp at h
  · exact ⟨by omega, h⟩

/-- Behind i records that were read: if T is the text of some records at all, the reading is on their track. -/
def Follows (T : List UInt8) (n i a : Nat) (bad : Bool) (last : List UInt8) (l : List Rec) : Prop :=
  ∀ rs, plainText rs = some T → n = rs.length ∧ i ≤ rs.length ∧ bad = false ∧ l = rs.take i ∧ last = lastAt rs i ∧ ∃ t q, textTo rs i = some t ∧ T = t ++ q ∧ a = t.length

theorem follows_start {T : List UInt8} {n a : Nat} {bad : Bool} (h : numAt T 0 false = (n, a, bad)) : Follows T n 0 a bad [] [] := by
  intro rs hp
  obtain ⟨h64, ht⟩ := plainText_some hp
  obtain ⟨t, q, h1, h2⟩ := textTo_head ht 0 (by omega)
  simp only [textTo, Option.some.injEq] at h1
  have hs : Sits T 0 (M.enc 7 rs.length) := ⟨[], q, by rw [h2, h1]; simp, rfl⟩
  rw [numAt_sits hs (by omega) false] at h
  simp only [Prod.mk.injEq, Nat.zero_add] at h
  obtain ⟨e1, e2, e3⟩ := h
  exact ⟨e1.symm, by omega, e3.symm, by simp, rfl, t, q, by simp [textTo, h1], h2, by rw [← e2, h1]⟩

theorem follows_read {T : List UInt8} {n i a : Nat} {bad : Bool} {last : List UInt8} {l : List Rec} (h : Follows T n i a bad last l) (hi : i < n) (rs : List Rec) (hp : plainText rs = some T) :
    ∃ r a', rs[i]? = some r ∧ readAt T last a bad = some (r, a', false) ∧ ∃ t q, textTo rs (i + 1) = some t ∧ T = t ++ q ∧ a' = t.length := by
  obtain ⟨hn, hle, hbad, hl, hlast, t, q, h1, h2, h3⟩ := h rs hp
  obtain ⟨h64, hT⟩ := plainText_some hp
  have hlt : i < rs.length := by omega
  have hr : rs[i]? = some rs[i] := List.getElem?_eq_getElem hlt
  obtain ⟨u, q', k1, k2⟩ := textTo_head hT (i + 1) (by omega)
  obtain ⟨e, hf⟩ := textTo_step h1 hr k1
  have hs : Sits T a (entry rs i rs[i]) := ⟨t, q', by rw [k2, e]; simp, h3⟩
  refine ⟨rs[i], a + (entry rs i rs[i]).length, hr, ?_, u, q', k1, k2, by rw [e, h3]; simp⟩
  rw [hlast, hbad]
  exact readAt_entry hr hf hs

theorem follows_next {T : List UInt8} {n i a a' : Nat} {bad bad' : Bool} {last : List UInt8} {l : List Rec} {r : Rec} (h : Follows T n i a bad last l) (hi : i < n) (hr : readAt T last a bad = some (r, a', bad')) :
    Follows T n (i + 1) a' bad' r.key.data.toList (l ++ [r]) := by
  intro rs hp
  obtain ⟨r', a'', k1, k2, t, q, k3, k4, k5⟩ := follows_read h hi rs hp
  rw [hr] at k2
  simp only [Option.some.injEq, Prod.mk.injEq] at k2
  obtain ⟨rfl, rfl, rfl⟩ := k2
  obtain ⟨hn, hle, hbad, hl, hlast, _⟩ := h rs hp
  have hlt := (List.getElem?_eq_some_iff.1 k1).1
  refine ⟨hn, by omega, rfl, ?_, by simp [lastAt, k1], t, q, k3, k4, k5⟩
  rw [hl, List.take_succ_eq_append_getElem hlt]
  rw [List.getElem?_eq_getElem hlt] at k1
  simp only [Option.some.injEq] at k1
  rw [k1]

theorem follows_stop {T : List UInt8} {n i a : Nat} {bad : Bool} {last : List UInt8} {l : List Rec} (h : Follows T n i a bad last l) (hi : i < n) (hr : readAt T last a bad = none) : ∀ rs, plainText rs ≠ some T := by
  intro rs hp
  obtain ⟨r', a'', _, k2, _⟩ := follows_read h hi rs hp
  rw [hr] at k2
  simp at k2

theorem follows_end {T : List UInt8} {n i a : Nat} {bad : Bool} {last : List UInt8} {l : List Rec} (h : Follows T n i a bad last l) (he : ¬ (i < n ∧ i < 65 ∧ bad = false)) (rs : List Rec) (hp : plainText rs = some T) : rs = l ∧ bad = false := by
  obtain ⟨hn, hle, hbad, hl, _⟩ := h rs hp
  have h64 := (plainText_some hp).1
  have : i = rs.length := by
    rcases Nat.lt_or_ge i n with hlt | hge
    · exact absurd ⟨hlt, by omega, hbad⟩ he
    · omega
  refine ⟨?_, hbad⟩
  rw [hl, this, List.take_length]

/-- All records of a text, read one behind the other. -/
def readAll (T : List UInt8) (n : Nat) : Nat → Nat → Nat → Bool → List UInt8 → List Rec → Option (List Rec)
  | 0, _, _, _, _, l => some l
  | f + 1, i, a, bad, last, l =>
    if i < n ∧ i < 65 ∧ bad = false then
      match readAt T last a bad with
      | none => none
      | some (r, a', bad') => readAll T n f (i + 1) a' bad' r.key.data.toList (l ++ [r])
    else some l

theorem readAll_all {T : List UInt8} {n : Nat} (rs : List Rec) (hp : plainText rs = some T) : ∀ (f i a : Nat) (bad : Bool) (last : List UInt8) (l : List Rec), 65 ≤ i + f → Follows T n i a bad last l → readAll T n f i a bad last l = some rs
  | 0, i, a, bad, last, l, hf, h => by
    have := (follows_end h (by omega) rs hp).1
    simp [readAll, this]
  | f + 1, i, a, bad, last, l, hf, h => by
    unfold readAll
    split
    · rename_i hc
      cases hr : readAt T last a bad with
      | none => exact absurd hp (follows_stop h hc.1 hr rs)
      | some p =>
        obtain ⟨r, a', bad'⟩ := p
        exact readAll_all rs hp f (i + 1) a' bad' _ _ (by omega) (follows_next h hc.1 hr)
    · rename_i hc
      rw [(follows_end h hc rs hp).1]

/-- No two lists of records have one text. -/
theorem plainText_inj {rs us : List Rec} {T : List UInt8} (h : plainText rs = some T) (k : plainText us = some T) : rs = us := by
  have hs : ∃ n a bad, numAt T 0 false = (n, a, bad) := ⟨_, _, _, rfl⟩
  obtain ⟨n, a, bad, hn⟩ := hs
  have h1 := readAll_all rs h 65 0 a bad [] [] (by omega) (follows_start hn)
  have h2 := readAll_all us k 65 0 a bad [] [] (by omega) (follows_start hn)
  rw [h1] at h2
  exact Option.some.inj h2

end Go.Proofs.YtekdenkllipehaaDoor
