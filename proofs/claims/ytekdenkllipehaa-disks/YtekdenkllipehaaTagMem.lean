/-
  Blocks and whose they are: each has a tag; what has other tags is another block. Rows, and what is put into them.
-/
import Derived.Test.YtekdenkllipehaaDskM
import Derived.Test.YtekdenkllipehaaKeep
import Derived.Test.YtekdenkllipehaaOwn
import Derived.Test.YtekdenkllipehaaDrawn
import Derived.Test.YtekdenkllipehaaBits
import Derived.Test.YtekdenkllipehaaRows
import Derived.Laws.OwnMore
import Derived.Deep.QuietTactic
import Derived.BigQuiet
import Derived.Deep.DeepCutAuto
import Derived.Deep.RegionHeld3
import Derived.Deep.RegionWith
import Derived.Laws.Cover1
import Derived.Laws.IdiomStrings
namespace Go.Proofs.Ytekdenkllipehaa
open Go.RowKit

/-- Bytes as values. -/
def byteVals (l : List UInt8) : List Value := l.map fun b => .int .u8 (b.toNat : Int)

/-- Pointers as values. -/
def ptrVals (ps : List Nat) : List Value := ps.map fun p => .pointer (some ⟨p, 0, none⟩)

/-- Blocks' tags: the owner, and the use (0: the disk's own variable; 1: its row of files; 2 + 2 k: a file; 3 + 2 k: that file's bytes). -/
abbrev Tags := Nat → Nat × Nat

/-- The world w' has the blocks of w that are not the owner's as they were; new ones are the owner's. -/
structure Only (o : Nat) (tg : Tags) (w w' : World) : Prop where
  os : w'.os = w.os
  tape : w'.tape = w.tape
  output : w'.output = w.output
  size : w.heap.size ≤ w'.heap.size
  block : ∀ k, k < w.heap.size → (tg k).1 ≠ o → w'.heap[k]? = w.heap[k]?

theorem Only.refl (o : Nat) (tg : Tags) (w : World) : Only o tg w w := ⟨rfl, rfl, rfl, Nat.le_refl _, fun _ _ _ => rfl⟩

theorem Only.of_q {o : Nat} {tg : Tags} {w w' : World} (q : Q w w') : Only o tg w w' := ⟨q.below.os, q.below.tape, q.below.output, q.below.size, fun k hk _ => q.below.block k hk⟩

theorem row_keep {w w' : World} {base : Nat} {e : TypeId} {size : Nat} {v : Value} {n : Nat} {xs : List Value} (h : w.ownsRow base e size v n xs) (hb : ∀ g, v.ownBlock = some g → w'.heap[g]? = w.heap[g]?) : w'.ownsRow base e size v n xs := by
  refine ⟨h.1, ?_⟩
  rcases h.2 with h2 | ⟨g, cap, cur, hv, hg, hh, r⟩
  · exact Or.inl h2
  · exact Or.inr ⟨g, cap, cur, hv, hg, by rw [hb g (by rw [hv]; rfl)]; exact hh, r⟩

theorem Only.trans {o : Nat} {tg : Tags} {a b c : World} (h : Only o tg a b) (k : Only o tg b c) : Only o tg a c :=
  ⟨k.os.trans h.os, k.tape.trans h.tape, k.output.trans h.output, Nat.le_trans h.size k.size, fun i hi hn => (k.block i (Nat.lt_of_lt_of_le hi h.size) hn).trans (h.block i hi hn)⟩

theorem only_set {o d : Nat} {tg : Tags} {w w' : World} (h : Only o tg w w') (ht : ∀ k, k < w.heap.size → k = d → (tg k).1 = o) (j : Nat) (v : Value) : Only o tg w (w'.setCell ⟨d, j, none⟩ v) :=
  ⟨h.os, h.tape, h.output, by simpa using h.size, fun k hk hn => (heap_setCell_other w' ⟨d, j, none⟩ k v (fun e => hn (ht k hk (by simpa using e)))).trans (h.block k hk hn)⟩

/-- Tags where new blocks are some owner's, for some use. -/
def Tags.more (tg : Tags) (n o u : Nat) : Tags := fun k => if k < n then tg k else (o, u)

theorem Tags.more_old {tg : Tags} {n o u k : Nat} (h : k < n) : tg.more n o u k = tg k := by simp [Tags.more, h]

theorem Tags.more_new {tg : Tags} {n o u k : Nat} (h : n ≤ k) : tg.more n o u k = (o, u) := by simp [Tags.more, Nat.not_lt.2 h]

theorem erase_same {α : Type} (l : List α) (k : Nat) : (l.take (k + 1)).eraseIdx k = (l.take k).eraseIdx k := by
  rcases Nat.lt_or_ge k l.length with h | h
  · have e : l.take (k + 1) = l.take k ++ [l[k]] := by rw [List.take_add_one, List.getElem?_eq_getElem h]; rfl
    have hl : (l.take k).length = k := by simp; omega
    rw [e, List.eraseIdx_append_of_length_le (by omega), hl, Nat.sub_self, List.eraseIdx_of_length_le (l := l.take k) (by omega)]
    simp
  · rw [List.take_of_length_le (by omega), List.take_of_length_le h]

theorem erase_more {α : Type} {l : List α} {k i : Nat} {a : α} (h : l[k]? = some a) (hne : k ≠ i) : (l.take (k + 1)).eraseIdx i = (l.take k).eraseIdx i ++ [a] := by
  have hk := (List.getElem?_eq_some_iff.1 h).1
  have e : l.take (k + 1) = l.take k ++ [a] := by rw [List.take_add_one, h]; rfl
  have hl : (l.take k).length = k := by simp; omega
  rw [e]
  rcases Nat.lt_or_ge i k with hik | hik
  · rw [List.eraseIdx_append_of_lt_length (by omega)]
  · rw [List.eraseIdx_of_length_le (l := l.take k ++ [a]) (by simp; omega), List.eraseIdx_of_length_le (l := l.take k) (by omega)]

/-- Where an element of a shortened list stood. -/
theorem erase_from {α : Type} {l : List α} {i j : Nat} {a : α} (h : (l.eraseIdx i)[j]? = some a) : l[if j < i then j else j + 1]? = some a := by
  rw [List.getElem?_eraseIdx] at h
  by_cases hj : j < i
  · rw [if_pos hj] at h ⊢
    exact h
  · rw [if_neg hj] at h ⊢
    exact h

/-- x at the place j of a list. -/
def insAt {α : Type} (l : List α) (j : Nat) (x : α) : List α := l.take j ++ x :: l.drop j

theorem insAt_get {α : Type} {l : List α} {j i : Nat} {x a : α} (hj : j ≤ l.length) (h : (insAt l j x)[i]? = some a) : (i = j ∧ a = x) ∨ (i ≠ j ∧ l[if i < j then i else i - 1]? = some a) := by
  unfold insAt at h
  have hl : (l.take j).length = j := by simp; omega
  rcases Nat.lt_trichotomy i j with hij | rfl | hij
  · right
    rw [List.getElem?_append_left (by omega), List.getElem?_take_of_lt hij] at h
    exact ⟨by omega, by rw [if_pos hij]; exact h⟩
  · left
    rw [List.getElem?_append_right (by omega), hl, Nat.sub_self] at h
    simp at h
    exact ⟨rfl, h.symm⟩
  · right
    rw [List.getElem?_append_right (by omega), hl] at h
    obtain ⟨m, hm⟩ : ∃ m, i - j = m + 1 := ⟨i - j - 1, by omega⟩
    rw [hm, List.getElem?_cons_succ, List.getElem?_drop] at h
    refine ⟨by omega, ?_⟩
    rw [if_neg (by omega), show i - 1 = j + m by omega]
    exact h

theorem insAt_length {α : Type} {l : List α} {j : Nat} {x : α} (hj : j ≤ l.length) : (insAt l j x).length = l.length + 1 := by simp [insAt]; omega

theorem insAt_nodup {l : List Nat} {j x : Nat} (h : l.Nodup) (hx : x ∉ l) : (insAt l j x).Nodup := by
  have hp : (insAt l j x).Perm (x :: l) := by
    unfold insAt
    refine List.perm_middle.trans ?_
    rw [List.take_append_drop]
  rw [hp.nodup_iff]
  exact List.nodup_cons.2 ⟨hx, h⟩

theorem insAt_self {α : Type} {l : List α} {j : Nat} (hj : j ≤ l.length) (x : α) : (insAt l j x)[j]? = some x := by
  unfold insAt
  have hl : (l.take j).length = j := by simp; omega
  rw [List.getElem?_append_right (by omega), hl, Nat.sub_self]
  rfl

theorem insAt_set {α : Type} {l : List α} {j : Nat} (hj : j ≤ l.length) (x y : α) : (insAt l j x).set j y = insAt l j y := by
  unfold insAt
  have hl : (l.take j).length = j := by simp; omega
  rw [List.set_append_right _ _ (by omega), hl, Nat.sub_self]
  rfl

theorem Only.trans' {o : Nat} {tg tg' : Tags} {a b c : World} (h : Only o tg a b) (k : Only o tg' b c) (ht : ∀ q, q < a.heap.size → tg' q = tg q) : Only o tg a c :=
  ⟨k.os.trans h.os, k.tape.trans h.tape, k.output.trans h.output, Nat.le_trans h.size k.size, fun i hi hn => (k.block i (Nat.lt_of_lt_of_le hi h.size) (by rw [ht i hi]; exact hn)).trans (h.block i hi hn)⟩

theorem fresh_id (l : List Nat) : ∃ n, n ∉ l := by
  suffices h : ∃ n, ∀ x ∈ l, x < n by
    obtain ⟨n, hn⟩ := h
    exact ⟨n, fun hm => Nat.lt_irrefl _ (hn n hm)⟩
  induction l with
  | nil => exact ⟨0, fun x hx => by cases hx⟩
  | cons a l ih =>
    obtain ⟨n, hn⟩ := ih
    refine ⟨n + a + 1, fun x hx => ?_⟩
    rcases List.mem_cons.1 hx with rfl | hx
    · omega
    · have := hn x hx; omega

theorem erase_notin {l : List Nat} (h : l.Nodup) {i x : Nat} (hx : l[i]? = some x) : x ∉ l.eraseIdx i := by
  intro hm
  obtain ⟨hi, rfl⟩ := List.getElem?_eq_some_iff.1 hx
  obtain ⟨j, hj, hne, e⟩ := List.mem_eraseIdx_iff_getElem.1 hm
  have h1 := List.pairwise_iff_getElem.1 h
  rcases Nat.lt_or_gt_of_ne hne with hlt | hlt
  · exact h1 j i hj hi hlt e
  · exact h1 i j hi hj hlt e.symm

theorem byte_xor (a m : UInt8) : bits .xor .u8 (a.toNat : Int) (m.toNat : Int) = ((a ^^^ m).toNat : Int) := by
  have ha := a.toNat_lt
  have hm := m.toNat_lt
  rw [bits_xor_nat .u8 8 (by decide) wraps_u8 a.toNat m.toNat (by omega) (by omega), UInt8.toNat_xor]

/-- Where an append's row lies: where it lay, or in the next new block. -/
theorem append_where {P : Program} {w : World} {base : Nat} {t ty e : TypeId} {i : TypeInfo} {z : Value} {size bytes : Nat} (ht : P.underlying t = some (.slice e)) (hi : P.info? e = some i) (hz : i.zero = some z)
    (hsize : i.size = size) (hby : i.bytes = bytes)
    {v : Value} {n : Nat} {xs : List Value} (hown : w.ownsRow base e size v n xs)
    {a : Addr} {m c : Nat} {news : List Value} (hl : news.length = m * size) (hnews : ∀ j u, news[j]? = some u → w.cell? (a.add j) = some u) (h1 : ∀ u ∈ news, u.oneCell' = true)
    (hm : 0 < m) (h63 : n + m ≤ maxLen) (hbytes : (n + m) * bytes ≤ 140737488355328) {v' : Value} {w' : World}
    (hrun : (Builtin.append_ #[t, t] ty #[v, .slice (some a) m c]).run P w = .ok v' w') :
    v'.ownBlock = v.ownBlock ∨ v'.ownBlock = some w.heap.size := by
  subst hsize
  subst hby
  have hsmall : n + m ≤ 9223372036854775807 := by simp only [maxLen] at h63; omega
  rcases hown.2 with ⟨rfl, rfl⟩ | ⟨g, cap, cur, rfl, hbg, hg, hnc, hcm, hcs, htake⟩
  · have hx : xs = [] := List.eq_nil_of_length_eq_zero (by simpa using hown.1)
    subst hx
    have hr := run_append_nil (P := P) w t ty e i z ht hi hz a m c news hl hnews (by omega) (by omega) (by have hb := hbytes; simp only [Nat.zero_add] at hb; omega)
    rw [hr] at hrun
    injection hrun with hv _
    subst hv
    exact Or.inr rfl
  · by_cases hroom : n + m ≤ cap
    · have hfit : n * i.size + news.length ≤ cur.size := by rw [hl, hcs, ← Nat.add_mul]; exact Nat.mul_le_mul_right _ hroom
      have hr := run_append_room (P := P) w t ty e i ht hi g n cap cur hg a m c news hl hnews h1 hroom hfit
      rw [hr] at hrun
      injection hrun with hv _
      subst hv
      exact Or.inl rfl
    · have holds : ∀ j u, xs[j]? = some u → w.cell? ((⟨g, 0, none⟩ : Addr).add j) = some u := hown.cells (g := g) rfl
      have hr := run_append_grow (P := P) w t ty e i z ht hi hz ⟨g, 0, none⟩ n cap xs hown.1 holds a m c news hl hnews (by omega) (by omega) (growslice_fits (by omega) hbytes)
      rw [hr] at hrun
      injection hrun with hv _
      subst hv
      exact Or.inr rfl

theorem one_valU (n : Int) : ∀ u ∈ [Value.int .u8 n], u.oneCell' = true := by
  intro u hu
  obtain rfl := List.mem_singleton.1 hu
  rfl

theorem infoU8 : (Try.prog.info? 5).map (fun i => (i.zero, i.size, i.bytes)) = some (some (.int .u8 0), 1, 1) := by kernel_rfl

theorem infoName : (Try.prog.info? 9).map (fun i => (i.zero, i.size, i.bytes)) = some (some (.string ⟨#[]⟩), 1, 16) := by kernel_rfl

def nameVals (P : List ByteArray) : List Value := P.map Value.string

/-- A row of names that the call makes. -/
structure NameRow (w : World) (P : List ByteArray) (ao : Option Addr) (cap : Nat) (wr : World) : Prop where
  below : Below w.heap.size w wr
  own : wr.ownsRow w.heap.size 9 1 (.slice ao P.length cap) P.length (nameVals P)

theorem NameRow.start (w : World) : NameRow w [] none 0 w := ⟨Below.refl _ _, World.ownsRow_nil _ _ _ _⟩

theorem NameRow.push {w wr w' : World} {P : List ByteArray} {ao ao' : Option Addr} {cap cap' : Nat} (h : NameRow w P ao cap wr) (p : ByteArray) (o : Obj)
    (hg : (wr.alloc o).grownBy w' (Value.slice ao P.length cap).ownBlock)
    (ho : w'.ownsRow w.heap.size 9 1 (.slice ao' (P.length + 1) cap') (P.length + 1) (nameVals P ++ [.string p])) : NameRow w (P ++ [p]) ao' cap' w' := by
  have hs := h.below.size
  refine ⟨(h.below.alloc hs _).grown hg (by simp; omega) (own_base h.own), ?_⟩
  have : nameVals (P ++ [p]) = nameVals P ++ [.string p] := by simp [nameVals]
  rw [this, List.length_append]
  exact ho
end Go.Proofs.Ytekdenkllipehaa
