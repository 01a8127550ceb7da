/-
  Plain mathematics on changes: how bytes are read as a change, what it reaches, what it makes. Nothing of the program is named here.
-/
import Derived.Test.YtekdenkllipehaaMath
namespace Go.Proofs.Ytekdenkllipehaa.M

/-- The number that stands in l from the place a on, and the place behind it. -/
def getAt (l : List UInt8) (a : Nat) : Option (Nat × Nat) :=
  if a < l.length then
    match rd 8 [] (l.drop a) with
    | none => none
    | some (v, k) => some (v, a + k)
  else none

theorem rd_bound : ∀ (f : Nat) (cs l : List UInt8) (v k : Nat), cs.length + f = 8 → rd f cs l = some (v, k) → v < 72057594037927936 ∧ cs.length < k ∧ k ≤ cs.length + l.length ∧ k ≤ 8
  | 0, _, _, _, _, _, h => by simp [rd] at h
  | f + 1, cs, [], _, _, _, h => by simp [rd] at h
  | f + 1, cs, b :: l, v, k, hf, h => by
    simp only [rd] at h
    by_cases hb : b.toNat < 128
    · rw [if_pos hb] at h
      by_cases hz : b = 0 ∧ cs ≠ []
      · rw [if_pos hz] at h; simp at h
      · rw [if_neg hz] at h
        simp only [Option.some.injEq, Prod.mk.injEq] at h
        obtain ⟨rfl, rfl⟩ := h
        refine ⟨?_, by omega, by simp, by omega⟩
        have h1 := val_lt (cs ++ [b])
        have h2 : 128 ^ (cs ++ [b]).length ≤ 128 ^ 8 := Nat.pow_le_pow_right (by omega) (by simp; omega)
        have e : (128 : Nat) ^ 8 = 72057594037927936 := by decide
        omega
    · rw [if_neg hb] at h
      have := rd_bound f (cs ++ [b]) l v k (by simp; omega) h
      simp at this
      refine ⟨this.1, by omega, by simp; omega, this.2.2.2⟩

theorem getAt_bound {l : List UInt8} {a v nx : Nat} (h : getAt l a = some (v, nx)) : v < 72057594037927936 ∧ a < nx ∧ nx ≤ l.length ∧ a < l.length := by
  unfold getAt at h
  by_cases ha : a < l.length
  · rw [if_pos ha] at h
    cases hr : rd 8 [] (l.drop a) with
    | none => rw [hr] at h; simp at h
    | some p =>
      obtain ⟨v', k⟩ := p
      rw [hr] at h
      simp only [Option.some.injEq, Prod.mk.injEq] at h
      obtain ⟨rfl, rfl⟩ := h
      have := rd_bound 8 [] (l.drop a) v' k (by simp) hr
      simp at this
      omega
  · rw [if_neg ha] at h; simp at h

/-- The places of a step that takes. -/
def taken (p n : Nat) : List Nat := (List.range n).map fun i => 256 + p + i

/-- The bytes of a step that puts. -/
def putB (l : List UInt8) (a n : Nat) : List Nat := ((l.drop a).take n).map UInt8.toNat

theorem taken_succ (p n : Nat) : taken p (n + 1) = taken p n ++ [256 + p + n] := by simp [taken, List.range_succ]
theorem taken_length (p n : Nat) : (taken p n).length = n := by simp [taken]
theorem put_succ (l : List UInt8) (a n : Nat) (b : UInt8) (h : l[a + n]? = some b) : putB l a (n + 1) = putB l a n ++ [b.toNat] := by
  have hb : (l.drop a)[n]? = some b := by rw [List.getElem?_drop]; exact h
  simp [putB, take_snoc hb]
theorem put_length (l : List UInt8) (a n : Nat) (h : a + n ≤ l.length) : (putB l a n).length = n := by simp [putB]; omega

/-- One step, read from the place a on: what has been put behind it, and the place behind it. -/
def stepAt (l : List UInt8) (size a : Nat) (acc : List Nat) : Option (List Nat × Nat) :=
  match getAt l a with
  | none => none
  | some (u, nx) =>
    if u / 2 < 1 ∨ size - acc.length < u / 2 then none
    else if u % 2 = 1 then
      match getAt l nx with
      | none => none
      | some (p, n2) => if 72057594037927935 - u / 2 < p then none else some (acc ++ taken p (u / 2), n2)
    else if nx + u / 2 ≤ l.length then some (acc ++ putB l nx (u / 2), nx + u / 2) else none

/-- All steps from the place a on. -/
def stepsAt (l : List UInt8) (size : Nat) : Nat → Nat → List Nat → Option (List Nat)
  | 0, _, _ => none
  | f + 1, a, acc =>
    if a < l.length then
      match stepAt l size a acc with
      | none => none
      | some (acc', a') => stepsAt l size f a' acc'
    else some acc

/-- Bytes, read as a change: its length, and of each byte that it puts: the byte, or 256 and the place in the base. -/
def parse (l : List UInt8) : Option (Nat × List Nat) :=
  match getAt l 0 with
  | none => none
  | some (size, a) =>
    if 4096 < size then none
    else
      match stepsAt l size (l.length + 1) a [] with
      | none => none
      | some acc => if acc.length = size then some (size, acc) else none

theorem stepAt_next {l : List UInt8} {size a a' : Nat} {acc acc' : List Nat} (h : stepAt l size a acc = some (acc', a')) : a < a' ∧ a' ≤ l.length := by
  unfold stepAt at h
  cases hg : getAt l a with
  | none => rw [hg] at h; simp at h
  | some p =>
    obtain ⟨u, nx⟩ := p
    have hb := getAt_bound hg
    rw [hg] at h
    simp only at h
    split at h
    · simp at h
    · split at h
      · cases hg2 : getAt l nx with
        | none => rw [hg2] at h; simp at h
        | some q =>
          obtain ⟨p, n2⟩ := q
          have hb2 := getAt_bound hg2
          rw [hg2] at h
          simp only at h
          split at h
          · simp at h
          · simp only [Option.some.injEq, Prod.mk.injEq] at h; omega
      · split at h
        · simp only [Option.some.injEq, Prod.mk.injEq] at h; omega
        · simp at h

/-- The reading has come to the place a, with acc put so far. -/
def At (l : List UInt8) (size : Nat) (r : Option (List Nat)) (a : Nat) (acc : List Nat) : Prop :=
  ∃ f, (a ≤ l.length ∧ l.length < a + f) ∧ stepsAt l size f a acc = r

theorem at_start (l : List UInt8) (size a : Nat) (ha : a ≤ l.length) : At l size (stepsAt l size (l.length + 1) a []) a [] := ⟨l.length + 1, by omega, rfl⟩

theorem at_le {l : List UInt8} {size a : Nat} {r : Option (List Nat)} {acc : List Nat} (h : At l size r a acc) : a ≤ l.length := by
  obtain ⟨f, hf, _⟩ := h
  exact hf.1

theorem at_end {l : List UInt8} {size a : Nat} {r : Option (List Nat)} {acc : List Nat} (h : At l size r a acc) (ha : ¬ a < l.length) : r = some acc := by
  obtain ⟨f, hf, rfl⟩ := h
  cases f with
  | zero => omega
  | succ f => simp [stepsAt, ha]

theorem at_none {l : List UInt8} {size a : Nat} {r : Option (List Nat)} {acc : List Nat} (h : At l size r a acc) (ha : a < l.length) (hs : stepAt l size a acc = none) : r = none := by
  obtain ⟨f, hf, rfl⟩ := h
  cases f with
  | zero => omega
  | succ f => simp [stepsAt, ha, hs]

theorem at_step {l : List UInt8} {size a a' : Nat} {r : Option (List Nat)} {acc acc' : List Nat} (h : At l size r a acc) (ha : a < l.length) (hs : stepAt l size a acc = some (acc', a')) : At l size r a' acc' := by
  obtain ⟨f, hf, rfl⟩ := h
  have := stepAt_next hs
  cases f with
  | zero => omega
  | succ f => exact ⟨f, by omega, by simp [stepsAt, ha, hs]⟩

/-- Each thing that is put is a byte, or 256 and a place that may be. -/
def Fit (acc : List Nat) : Prop := ∀ x ∈ acc, x < 72057594037928192

theorem fit_nil : Fit [] := fun x hx => by simp at hx

theorem fit_append {a b : List Nat} (ha : Fit a) (hb : Fit b) : Fit (a ++ b) := fun x hx => by
  rcases List.mem_append.1 hx with h | h
  · exact ha x h
  · exact hb x h

theorem fit_taken (p n : Nat) (h : p + n ≤ 72057594037927935) : Fit (taken p n) := fun x hx => by
  simp only [taken, List.mem_map, List.mem_range] at hx
  obtain ⟨i, hi, rfl⟩ := hx
  omega

theorem fit_put (l : List UInt8) (a n : Nat) : Fit (putB l a n) := fun x hx => by
  simp only [putB, List.mem_map] at hx
  obtain ⟨b, _, rfl⟩ := hx
  have := b.toNat_lt
  omega

theorem stepAt_fit {l : List UInt8} {size a a' : Nat} {acc acc' : List Nat} (h : stepAt l size a acc = some (acc', a')) (hf : Fit acc) : Fit acc' := by
  unfold stepAt at h
  cases hg : getAt l a with
  | none => rw [hg] at h; simp at h
  | some p =>
    obtain ⟨u, nx⟩ := p
    have hb := getAt_bound hg
    rw [hg] at h
    simp only at h
    split at h
    · simp at h
    · split at h
      · cases hg2 : getAt l nx with
        | none => rw [hg2] at h; simp at h
        | some q =>
          obtain ⟨p, n2⟩ := q
          rw [hg2] at h
          simp only at h
          split at h
          · simp at h
          · simp only [Option.some.injEq, Prod.mk.injEq] at h
            obtain ⟨rfl, _⟩ := h
            exact fit_append hf (fit_taken p _ (by omega))
      · split at h
        · simp only [Option.some.injEq, Prod.mk.injEq] at h
          obtain ⟨rfl, _⟩ := h
          exact fit_append hf (fit_put l _ _)
        · simp at h

theorem stepsAt_fit {l : List UInt8} {size : Nat} : ∀ {f a : Nat} {acc acc' : List Nat}, stepsAt l size f a acc = some acc' → Fit acc → Fit acc'
  | 0, _, _, _, h, _ => by simp [stepsAt] at h
  | f + 1, a, acc, acc', h, hf => by
    simp only [stepsAt] at h
    split at h
    · cases hs : stepAt l size a acc with
      | none => rw [hs] at h; simp at h
      | some q =>
        obtain ⟨b, a'⟩ := q
        rw [hs] at h
        exact stepsAt_fit h (stepAt_fit hs hf)
    · simp only [Option.some.injEq] at h; subst h; exact hf

theorem parse_bound {l : List UInt8} {size : Nat} {acc : List Nat} (h : parse l = some (size, acc)) : acc.length = size ∧ size ≤ 4096 ∧ Fit acc := by
  unfold parse at h
  cases hg : getAt l 0 with
  | none => rw [hg] at h; simp at h
  | some p =>
    obtain ⟨sz, a⟩ := p
    rw [hg] at h
    simp only at h
    split at h
    · simp at h
    · cases hs : stepsAt l sz (l.length + 1) a [] with
      | none => rw [hs] at h; simp at h
      | some b =>
        rw [hs] at h
        simp only at h
        split at h
        · simp only [Option.some.injEq, Prod.mk.injEq] at h
          obtain ⟨rfl, rfl⟩ := h
          exact ⟨by assumption, by omega, stepsAt_fit hs fit_nil⟩
        · simp at h

/-- How long a base must be that the change fits. -/
def reach (acc : List Nat) : Nat := acc.foldl (fun m x => max m (x - 255)) 0

theorem reach_snoc (acc : List Nat) (x : Nat) : reach (acc ++ [x]) = max (reach acc) (x - 255) := by simp [reach]

theorem reach_take {acc : List Nat} {k x : Nat} (h : acc[k]? = some x) : reach (acc.take (k + 1)) = max (reach (acc.take k)) (x - 255) := by
  rw [List.take_add_one, h]; exact reach_snoc _ _

theorem foldl_reach (acc : List Nat) (m : Nat) : acc.foldl (fun m x => max m (x - 255)) m = max m (reach acc) := by
  induction acc generalizing m with
  | nil => simp [reach]
  | cons x acc ih => simp only [reach, List.foldl_cons]; rw [ih, ih]; omega

theorem reach_cons (x : Nat) (acc : List Nat) : reach (x :: acc) = max (x - 255) (reach acc) := by
  unfold reach
  rw [List.foldl_cons, foldl_reach]
  unfold reach
  omega

theorem reach_mem {acc : List Nat} {x : Nat} (h : x ∈ acc) : x - 255 ≤ reach acc := by
  induction acc with
  | nil => simp at h
  | cons y acc ih =>
    rw [reach_cons]
    rcases List.mem_cons.1 h with rfl | h
    · omega
    · have := ih h; omega

theorem reach_le {acc : List Nat} {n : Nat} (h : ∀ x ∈ acc, x - 255 ≤ n) : reach acc ≤ n := by
  induction acc with
  | nil => simp [reach]
  | cons y acc ih =>
    rw [reach_cons]
    have h1 := h y (by simp)
    have h2 := ih fun x hx => h x (by simp [hx])
    omega

theorem reach_fit {acc : List Nat} (h : Fit acc) : reach acc < 72057594037928192 := by
  have := reach_le (n := 72057594037928191) fun x hx => by have := h x hx; omega
  omega

/-- What a change makes of a base that it fits. -/
def made (acc : List Nat) (base : List UInt8) : List UInt8 := acc.map fun x => if 255 < x then base.getD (x - 256) 0 else UInt8.ofNat x

end Go.Proofs.Ytekdenkllipehaa.M
