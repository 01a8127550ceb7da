/-
  Plain mathematics on changes as rows of steps: what they put, what they reach, how they are written. Nothing of the program is named here.
-/
import Derived.Test.YtekdenkllipehaaEncDec
import Derived.Test.YtekdenkllipehaaChgMore
import Derived.Test.YtekdenkllipehaaCat
namespace Go.Proofs.Ytekdenkllipehaa.M

/-- A step: a text that is put, or a place of the base and how many bytes. -/
structure St where
  put : ByteArray
  place : Nat
  size : Nat

/-- What a step puts, byte by byte. -/
def St.acc (s : St) : List Nat := if s.put.size = 0 then taken s.place s.size else s.put.data.toList.map UInt8.toNat

/-- A step as it may be. -/
def St.Good (s : St) : Prop := (s.put.size = 0 ∧ 1 ≤ s.size ∧ s.size ≤ 4096 ∧ s.place + s.size ≤ 72057594037927935) ∨ (s.put.size ≠ 0 ∧ s.size = s.put.size ∧ s.place = 0 ∧ s.size ≤ 4096)

theorem St.Good.pos {s : St} (h : s.Good) : 1 ≤ s.size ∧ s.size ≤ 4096 ∧ s.place + s.size ≤ 72057594037927935 := by
  rcases h with h | h
  · exact ⟨h.2.1, h.2.2.1, h.2.2.2⟩
  · omega

theorem St.acc_length {s : St} (h : s.Good) : s.acc.length = s.size := by
  unfold St.acc
  rcases h with h | h
  · rw [if_pos h.1, taken_length]
  · rw [if_neg h.1]; simp; exact h.2.1.symm

/-- What a row of steps puts. -/
def flat (L : List St) : List Nat := L.flatMap St.acc

/-- How many bytes a row of steps makes. -/
def tot : List St → Nat
  | [] => 0
  | s :: L => s.size + tot L

theorem flat_nil : flat [] = [] := rfl
theorem flat_append (A B : List St) : flat (A ++ B) = flat A ++ flat B := by simp [flat]
theorem flat_one (s : St) : flat [s] = s.acc := by simp [flat]
theorem flat_cons (s : St) (L : List St) : flat (s :: L) = s.acc ++ flat L := by simp [flat]
theorem tot_append (A B : List St) : tot (A ++ B) = tot A + tot B := by
  induction A with
  | nil => simp [tot]
  | cons s A ih => simp [tot, ih]; omega
theorem tot_one (s : St) : tot [s] = s.size := by simp [tot]

theorem tot_take {L : List St} {k : Nat} {s : St} (h : L[k]? = some s) : tot (L.take (k + 1)) = tot (L.take k) + s.size := by
  rw [take_succ h, tot_append, tot_one]
theorem flat_take {L : List St} {k : Nat} {s : St} (h : L[k]? = some s) : flat (L.take (k + 1)) = flat (L.take k) ++ s.acc := by
  rw [take_succ h, flat_append, flat_one]

def Goods (L : List St) : Prop := ∀ s ∈ L, s.Good
theorem Goods.nil : Goods [] := fun s h => by simp at h
theorem Goods.append {A B : List St} (a : Goods A) (b : Goods B) : Goods (A ++ B) := fun s h => by
  rcases List.mem_append.1 h with h | h
  · exact a s h
  · exact b s h
theorem Goods.one {s : St} (h : s.Good) : Goods [s] := fun t ht => by simp at ht; subst ht; exact h
theorem Goods.get {L : List St} (h : Goods L) {k : Nat} {s : St} (hs : L[k]? = some s) : s.Good := h s (List.mem_of_getElem? hs)
theorem Goods.take {L : List St} (h : Goods L) (k : Nat) : Goods (L.take k) := fun s hs => h s (List.mem_of_mem_take hs)
theorem Goods.drop {L : List St} (h : Goods L) (k : Nat) : Goods (L.drop k) := fun s hs => h s (List.mem_of_mem_drop hs)

theorem flat_length {L : List St} (h : Goods L) : (flat L).length = tot L := by
  induction L with
  | nil => rfl
  | cons s L ih =>
    rw [flat_cons, List.length_append, St.acc_length (h s (by simp)), ih fun t ht => h t (by simp [ht])]; rfl

theorem length_le_tot {L : List St} (h : Goods L) : L.length ≤ tot L := by
  induction L with
  | nil => simp [tot]
  | cons s L ih =>
    have := (h s (by simp)).pos
    have := ih fun t ht => h t (by simp [ht])
    simp [tot]; omega

theorem tot_take_le (L : List St) (k : Nat) : tot (L.take k) ≤ tot L := by
  have : tot L = tot (L.take k) + tot (L.drop k) := by rw [← tot_append, List.take_append_drop]
  omega

theorem tot_split (L : List St) (k : Nat) : tot L = tot (L.take k) + tot (L.drop k) := by rw [← tot_append, List.take_append_drop]

/-! ### What steps reach -/

theorem reach_append (a b : List Nat) : reach (a ++ b) = max (reach a) (reach b) := by
  unfold reach
  rw [List.foldl_append, foldl_reach]
  rfl

theorem reach_taken (p : Nat) : ∀ n, 1 ≤ n → reach (taken p n) = p + n
  | 0, h => by omega
  | n + 1, _ => by
    rw [taken_succ, reach_snoc]
    by_cases h : n = 0
    · subst h; simp [taken, reach]; omega
    · rw [reach_taken p n (by omega)]; omega

theorem reach_bytes (l : List UInt8) : reach (l.map UInt8.toNat) = 0 := by
  have := reach_le (acc := l.map UInt8.toNat) (n := 0) fun x hx => by
    simp only [List.mem_map] at hx
    obtain ⟨b, _, rfl⟩ := hx
    have := b.toNat_lt
    omega
  omega

theorem reach_acc {s : St} (h : s.Good) : reach s.acc = if s.put.size = 0 then s.place + s.size else 0 := by
  unfold St.acc
  by_cases h0 : s.put.size = 0
  · rw [if_pos h0, if_pos h0, reach_taken _ _ h.pos.1]
  · rw [if_neg h0, if_neg h0, reach_bytes]

theorem reach_take_st {L : List St} (h : Goods L) {k : Nat} {s : St} (hs : L[k]? = some s) : reach (flat (L.take (k + 1))) = max (reach (flat (L.take k))) (if s.put.size = 0 then s.place + s.size else 0) := by
  rw [flat_take hs, reach_append, reach_acc (h.get hs)]

/-! ### What steps make of a base -/

theorem made_append (a b : List Nat) (base : List UInt8) : made (a ++ b) base = made a base ++ made b base := by simp [made]

theorem made_bytes (l : List UInt8) (base : List UInt8) : made (l.map UInt8.toNat) base = l := by
  unfold made
  rw [List.map_map]
  conv => rhs; rw [← List.map_id l]
  apply List.map_congr_left
  intro b _
  have := b.toNat_lt
  simp only [Function.comp]
  rw [if_neg (by omega)]
  simp

theorem made_taken (p : Nat) (base : List UInt8) : ∀ n, p + n ≤ base.length → made (taken p n) base = (base.drop p).take n
  | 0, _ => by simp [taken, made]
  | n + 1, h => by
    rw [taken_succ, made_append, made_taken p base n (by omega)]
    have hb : (base.drop p)[n]? = some base[p + n] := by rw [List.getElem?_drop, List.getElem?_eq_getElem (by omega)]
    rw [List.take_add_one, hb]
    simp only [made, List.map_cons, List.map_nil]
    rw [if_pos (by omega), show 256 + p + n - 256 = p + n by omega]
    simp [List.getElem?_eq_getElem (show p + n < base.length by omega)]

/-- What a step makes of a base. -/
def St.text (s : St) (base : ByteArray) : ByteArray := if s.put.size = 0 then base.extract s.place (s.place + s.size) else s.put

theorem made_acc (s : St) (base : ByteArray) (hr : s.put.size = 0 → s.place + s.size ≤ base.size) : made s.acc base.data.toList = (s.text base).data.toList := by
  unfold St.acc St.text
  by_cases h0 : s.put.size = 0
  · rw [if_pos h0, if_pos h0, made_taken _ _ _ (by simpa using hr h0)]
    simp
  · rw [if_neg h0, if_neg h0, made_bytes]

/-! ### How steps are written -/

/-- T is a row of steps that puts acc: read from a place on, with nothing put so far, it comes to its end with acc put. -/
def Wr (T : List UInt8) (acc : List Nat) : Prop := ∀ (pre post : List UInt8) (size : Nat) (r : Option (List Nat)), acc.length ≤ size →
    At (pre ++ (T ++ post)) size r pre.length [] → At (pre ++ (T ++ post)) size r (pre.length + T.length) acc

theorem Wr.nil : Wr [] [] := by
  intro pre post size r _ ha
  simpa using ha

theorem Wr.put {T : List UInt8} {acc : List Nat} (h : Wr T acc) (bs : List UInt8) (h1 : 1 ≤ bs.length) (h2 : bs.length ≤ 4096) : Wr (T ++ (enc 7 (2 * bs.length) ++ bs)) (acc ++ bs.map UInt8.toNat) := by
  intro pre post size r hl ha
  rw [List.length_append, List.length_map] at hl
  rw [List.append_assoc] at ha ⊢
  have hA := h pre (enc 7 (2 * bs.length) ++ bs ++ post) size r (by omega) ha
  have he := enc_pos 7 (2 * bs.length)
  have hlist : pre ++ (T ++ (enc 7 (2 * bs.length) ++ bs ++ post)) = (pre ++ T) ++ (enc 7 (2 * bs.length) ++ (bs ++ post)) := by simp
  have hg := getAt_enc (pre ++ T) (bs ++ post) (2 * bs.length) (by omega)
  rw [← hlist, List.length_append] at hg
  rw [show pre.length + (T ++ (enc 7 (2 * bs.length) ++ bs)).length = pre.length + T.length + (enc 7 (2 * bs.length)).length + bs.length by simp; omega]
  refine at_step hA (by simp; omega) ?_
  unfold stepAt
  rw [hg]
  simp only
  rw [if_neg (by omega), if_neg (by omega), show 2 * bs.length / 2 = bs.length by omega, if_pos (by simp; omega)]
  congr 2
  unfold M.putB
  rw [hlist, show (pre ++ T) ++ (enc 7 (2 * bs.length) ++ (bs ++ post)) = ((pre ++ T) ++ enc 7 (2 * bs.length)) ++ (bs ++ post) by simp]
  rw [show pre.length + T.length + (enc 7 (2 * bs.length)).length = ((pre ++ T) ++ enc 7 (2 * bs.length)).length by simp; omega, List.drop_left, List.take_left]

theorem Wr.take {T : List UInt8} {acc : List Nat} (h : Wr T acc) (p n : Nat) (h1 : 1 ≤ n) (h2 : n ≤ 4096) (h3 : p + n ≤ 72057594037927935) : Wr (T ++ (enc 7 (2 * n + 1) ++ enc 7 p)) (acc ++ taken p n) := by
  intro pre post size r hl ha
  rw [List.length_append, taken_length] at hl
  rw [List.append_assoc] at ha ⊢
  have hA := h pre (enc 7 (2 * n + 1) ++ enc 7 p ++ post) size r (by omega) ha
  have he := enc_pos 7 (2 * n + 1)
  have hlist : pre ++ (T ++ (enc 7 (2 * n + 1) ++ enc 7 p ++ post)) = (pre ++ T) ++ (enc 7 (2 * n + 1) ++ (enc 7 p ++ post)) := by simp
  have hlist2 : pre ++ (T ++ (enc 7 (2 * n + 1) ++ enc 7 p ++ post)) = ((pre ++ T) ++ enc 7 (2 * n + 1)) ++ (enc 7 p ++ post) := by simp
  have hg := getAt_enc (pre ++ T) (enc 7 p ++ post) (2 * n + 1) (by omega)
  rw [← hlist, List.length_append] at hg
  have hg2 := getAt_enc ((pre ++ T) ++ enc 7 (2 * n + 1)) post p (by omega)
  rw [← hlist2, List.length_append, List.length_append] at hg2
  rw [show pre.length + (T ++ (enc 7 (2 * n + 1) ++ enc 7 p)).length = pre.length + T.length + (enc 7 (2 * n + 1)).length + (enc 7 p).length by simp; omega]
  refine at_step hA (by simp; omega) ?_
  unfold stepAt
  rw [hg]
  simp only
  rw [if_neg (by omega), if_pos (by omega), hg2]
  simp only
  rw [show (2 * n + 1) / 2 = n by omega, if_neg (by omega)]

/-- A length and a row of steps of that length, written, is read as what the steps put. -/
theorem parse_wr {T : List UInt8} {acc : List Nat} (h : Wr T acc) (hl : acc.length ≤ 4096) : parse (enc 7 acc.length ++ T) = some (acc.length, acc) := by
  have hg := getAt_enc [] T acc.length (by omega)
  simp only [List.nil_append, List.length_nil, Nat.zero_add] at hg
  unfold parse
  rw [hg]
  simp only
  rw [if_neg (by omega)]
  have hs := at_start (enc 7 acc.length ++ T) acc.length (enc 7 acc.length).length (by simp)
  have hr := h (enc 7 acc.length) [] acc.length _ (Nat.le_refl _) (by rw [List.append_nil]; exact hs)
  rw [List.append_nil] at hr
  have := at_end hr (by simp)
  rw [this]
  simp

/-! ### How long what is written is -/

theorem enc_one {n : Nat} (h : n < 128) : (enc 7 n).length = 1 := by rw [enc_small 7 n h]; rfl
theorem enc_two {n : Nat} (h : n < 16384) : (enc 7 n).length ≤ 2 := by
  by_cases h1 : n < 128
  · rw [enc_one h1]; omega
  · rw [enc_big 6 n h1, enc_small 6 _ (by omega)]; simp

theorem enc_len_le : ∀ (f n : Nat), (enc f n).length ≤ f + 1
  | 0, n => by simp [enc]
  | f + 1, n => by
    simp only [enc]
    split
    · simp
    · simp only [List.length_cons]; have := enc_len_le f (n / 128); omega
theorem enc_len (n : Nat) : (enc 7 n).length ≤ 8 := enc_len_le 7 n

/-- How many bytes a step takes, written by itself. -/
def St.cost (s : St) : Nat := if s.put.size = 0 then (enc 7 (2 * s.size + 1)).length + (enc 7 s.place).length else (enc 7 (2 * s.size)).length + s.put.size
def cost : List St → Nat
  | [] => 0
  | s :: L => s.cost + cost L
theorem cost_append (A B : List St) : cost (A ++ B) = cost A + cost B := by
  induction A with
  | nil => simp [cost]
  | cons s A ih => simp [cost, ih]; omega
theorem cost_one (s : St) : cost [s] = s.cost := by simp [cost]

/-- One step can stand for both. -/
def Leads (s t : St) : Prop := if s.put.size = 0 ∧ t.put.size = 0 then s.place + s.size = t.place else s.put.size ≠ 0 ∧ t.put.size ≠ 0

/-- Steps of which each leads to the next. -/
def Chain : List St → Prop
  | [] => True
  | [_] => True
  | s :: t :: L => Leads s t ∧ Chain (t :: L)

/-- The step that a chain begins with tells how the chain is written: it puts, and all of it do; or it takes, and all of it take one piece. -/
theorem chain_puts : ∀ (s : St) (L : List St), Chain (s :: L) → s.put.size ≠ 0 → ∀ t ∈ s :: L, t.put.size ≠ 0
  | s, [], _, h, t, ht => by simp at ht; subst ht; exact h
  | s, u :: L, hc, h, t, ht => by
    have hl := hc.1
    unfold Leads at hl
    rw [if_neg (by intro e; exact h e.1)] at hl
    rcases List.mem_cons.1 ht with rfl | ht
    · exact h
    · exact chain_puts u L hc.2 hl.2 t ht

theorem taken_append (p a b : Nat) : taken p (a + b) = taken p a ++ taken (p + a) b := by
  induction b with
  | zero => simp [taken]
  | succ b ih => rw [← Nat.add_assoc, taken_succ, ih, taken_succ, List.append_assoc]; congr 3; omega

theorem chain_takes : ∀ (s : St) (L : List St), Chain (s :: L) → Goods (s :: L) → s.put.size = 0 → (∀ t ∈ s :: L, t.put.size = 0) ∧ flat (s :: L) = taken s.place (tot (s :: L)) ∧ s.place + tot (s :: L) ≤ 72057594037927935
  | s, [], _, hg, h => by
    refine ⟨fun t ht => by simp at ht; subst ht; exact h, ?_, ?_⟩
    · rw [flat_one, tot_one, St.acc, if_pos h]
    · rw [tot_one]; exact (hg s (by simp)).pos.2.2
  | s, u :: L, hc, hg, h => by
    have hl := hc.1
    have hu : u.put.size = 0 := by
      rcases Nat.eq_zero_or_pos u.put.size with e | e
      · exact e
      · unfold Leads at hl; rw [if_neg (by omega)] at hl; exact absurd h hl.1
    unfold Leads at hl
    rw [if_pos ⟨h, hu⟩] at hl
    obtain ⟨i1, i2, i3⟩ := chain_takes u L hc.2 (fun t ht => hg t (by simp [ht])) hu
    refine ⟨fun t ht => ?_, ?_, ?_⟩
    · rcases List.mem_cons.1 ht with rfl | ht
      · exact h
      · exact i1 t ht
    · rw [flat_cons, i2, St.acc, if_pos h, ← hl]; show _ = taken s.place (s.size + tot (u :: L)); rw [taken_append]
    · show s.place + (s.size + tot (u :: L)) ≤ _; omega

/-- The bytes that the steps put, as they stand in them. -/
def puts (L : List St) : List UInt8 := L.flatMap fun s => s.put.data.toList
theorem puts_append (A B : List St) : puts (A ++ B) = puts A ++ puts B := by simp [puts]
theorem puts_one (s : St) : puts [s] = s.put.data.toList := by simp [puts]
theorem puts_take {L : List St} {k : Nat} {s : St} (h : L[k]? = some s) : puts (L.take (k + 1)) = puts (L.take k) ++ s.put.data.toList := by
  rw [take_succ h, puts_append, puts_one]

theorem puts_none {L : List St} (h : ∀ t ∈ L, t.put.size = 0) : puts L = [] := by
  induction L with
  | nil => rfl
  | cons s L ih =>
    have h1 := h s (by simp)
    have h2 : s.put.data.toList = [] := List.eq_nil_of_length_eq_zero (by simpa using h1)
    show s.put.data.toList ++ puts L = []
    rw [h2, ih fun t ht => h t (by simp [ht])]; rfl

theorem puts_all {L : List St} (hg : Goods L) (h : ∀ t ∈ L, t.put.size ≠ 0) : flat L = (puts L).map UInt8.toNat ∧ (puts L).length = tot L := by
  induction L with
  | nil => exact ⟨rfl, rfl⟩
  | cons s L ih =>
    obtain ⟨i1, i2⟩ := ih (fun t ht => hg t (by simp [ht])) fun t ht => h t (by simp [ht])
    have h1 := h s (by simp)
    have hs : s.size = s.put.size := by
      rcases hg s (by simp) with e | e
      · exact absurd e.1 h1
      · exact e.2.1
    have e : puts (s :: L) = s.put.data.toList ++ puts L := rfl
    refine ⟨?_, ?_⟩
    · rw [flat_cons, i1, St.acc, if_neg h1, e, List.map_append]
    · rw [e, List.length_append, i2]; simp [tot]; omega

/-- The numbers that one step begins with, that stands for all of these. -/
def headOf (L : List St) : List UInt8 :=
  match L with
  | [] => []
  | s :: _ => if s.put.size = 0 then enc 7 (2 * tot L + 1) ++ enc 7 s.place else enc 7 (2 * tot L)

theorem cost_puts : ∀ {L : List St}, (∀ t ∈ L, t.put.size ≠ 0) → L.length + (puts L).length ≤ cost L
  | [], _ => by simp [puts, cost]
  | s :: L, h => by
    have ih := cost_puts (L := L) fun t ht => h t (by simp [ht])
    have h1 := h s (by simp)
    have e : puts (s :: L) = s.put.data.toList ++ puts L := rfl
    have hp := enc_pos 7 (2 * s.size)
    rw [e]
    simp only [List.length_append, List.length_cons, cost]
    unfold St.cost
    rw [if_neg h1]
    simp; omega

theorem cost_takes : ∀ {L : List St}, (∀ t ∈ L, t.put.size = 0) → 2 * L.length ≤ cost L
  | [], _ => by simp [cost]
  | s :: L, h => by
    have ih := cost_takes (L := L) fun t ht => h t (by simp [ht])
    have h1 := h s (by simp)
    have hp := enc_pos 7 (2 * s.size + 1)
    have hq := enc_pos 7 s.place
    simp only [List.length_cons, cost]
    unfold St.cost
    rw [if_pos h1]
    omega

/-- A chain is written as one step; never longer than each by itself. -/
theorem chain_wr {T : List UInt8} {acc : List Nat} (h : Wr T acc) (s : St) (L : List St) (hc : Chain (s :: L)) (hg : Goods (s :: L)) (ht : tot (s :: L) ≤ 4096) :
    Wr (T ++ (headOf (s :: L) ++ puts (s :: L))) (acc ++ flat (s :: L)) ∧ (headOf (s :: L) ++ puts (s :: L)).length ≤ cost (s :: L) := by
  have hpos := (hg s (by simp)).pos
  have htp : 1 ≤ tot (s :: L) := by simp only [tot]; omega
  by_cases h0 : s.put.size = 0
  · obtain ⟨i1, i2, i3⟩ := chain_takes s L hc hg h0
    rw [puts_none i1, List.append_nil, i2]
    simp only [headOf, if_pos h0]
    refine ⟨Wr.take h s.place _ htp ht i3, ?_⟩
    cases L with
    | nil => simp [cost, St.cost, h0, tot]
    | cons u L =>
      have hu := cost_takes (L := u :: L) fun t ht => i1 t (by simp [ht])
      have e2 := enc_two (n := 2 * tot (s :: u :: L) + 1) (by omega)
      have hp := enc_pos 7 (2 * s.size + 1)
      have : cost (s :: u :: L) = s.cost + cost (u :: L) := rfl
      rw [this, List.length_append]
      unfold St.cost
      rw [if_pos h0]
      simp at hu
      omega
  · have i1 := chain_puts s L hc h0
    obtain ⟨i2, i3⟩ := puts_all hg i1
    simp only [headOf, if_neg h0]
    rw [i2, ← i3]
    refine ⟨Wr.put h _ (by omega) (by omega), ?_⟩
    cases L with
    | nil => simp [cost, St.cost, h0, puts]; rcases hg s (by simp) with e | e
             · exact absurd e.1 h0
             · rw [e.2.1]; simp
    | cons u L =>
      have hu := cost_puts (L := s :: u :: L) i1
      have e2 := enc_two (n := 2 * (puts (s :: u :: L)).length) (by omega)
      simp at hu
      rw [List.length_append]
      omega

theorem chain_snoc {A : List St} {s t : St} (h : Chain (A ++ [s])) (hl : Leads s t) : Chain (A ++ [s] ++ [t]) := by
  induction A with
  | nil => exact ⟨hl, trivial⟩
  | cons a A ih =>
    cases A with
    | nil => exact ⟨h.1, hl, trivial⟩
    | cons b A => exact ⟨h.1, ih h.2⟩

theorem chain_take {L : List St} {k : Nat} {s t : St} (h : Chain (L.take (k + 1))) (hs : L[k]? = some s) (ht : L[k + 1]? = some t) (hl : Leads s t) : Chain (L.take (k + 2)) := by
  rw [take_succ ht, take_succ hs]
  rw [take_succ hs] at h
  exact chain_snoc h hl

end Go.Proofs.Ytekdenkllipehaa.M
