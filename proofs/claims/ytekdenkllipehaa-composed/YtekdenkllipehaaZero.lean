import Derived.Test.YtekdenkllipehaaSameEnd
import Derived.Deep.MidRow
namespace Go.Proofs.Ytekdenkllipehaa
open Go.RowKit

/-- What index lays: the text, how many bits a slot's number has, for each slot the first place (one higher) of its words, for each place the next. -/
structure Words (w : World) (X F N : Nat) (b : ByteArray) (n m : Nat) (f g : Nat → Nat) : Prop where
  c0 : w.cell? ⟨X, 0, none⟩ = some (.string b)
  c1 : w.cell? ⟨X, 1, none⟩ = some (.int .i64 (n : Int))
  c2 : w.cell? ⟨X, 2, none⟩ = some (.slice (some ⟨F, 0, none⟩) m m)
  c3 : w.cell? ⟨X, 3, none⟩ = some (.slice (some ⟨N, 0, none⟩) b.size b.size)
  cf : ∀ i, i < m → w.cell? ⟨F, i, none⟩ = some (.int .u16 (f i : Int))
  cg : ∀ j, j < b.size → w.cell? ⟨N, j, none⟩ = some (.int .u16 (g j : Int))
  bf : ∀ i, f i ≤ b.size
  bg : ∀ j, g j ≤ b.size

theorem Words.kept {w w' : World} {X F N n m : Nat} {b : ByteArray} {f g : Nat → Nat} (h : Words w X F N b n m f g) (q : Q w w') : Words w' X F N b n m f g :=
  ⟨kept_cell h.c0 q, kept_cell h.c1 q, kept_cell h.c2 q, kept_cell h.c3 q, fun i hi => kept_cell (h.cf i hi) q, fun j hj => kept_cell (h.cg j hj) q, h.bf, h.bg⟩

/-- .. while it is laid: the two rows may be written. -/
structure Laying (w0 w : World) (X F N : Nat) (b : ByteArray) (n m : Nat) (f g : Nat → Nat) : Prop where
  words : Words w X F N b n m f g
  below : Below w0.heap.size w0 w
  low : w0.heap.size ≤ F ∧ w0.heap.size ≤ N
  ne : F ≠ N ∧ F ≠ X ∧ N ≠ X
  top : F < w.heap.size ∧ N < w.heap.size
  ff : ∀ j, w.frozen? ⟨F, j, none⟩ = false
  fn : ∀ j, w.frozen? ⟨N, j, none⟩ = false

theorem cell_lt {w : World} {p : Addr} {v : Value} (h : w.cell? p = some v) : p.block < w.heap.size := by
  rcases Nat.lt_or_ge p.block w.heap.size with hl | hl
  · exact hl
  · unfold World.cell? at h
    rw [Array.getElem?_eq_none hl] at h
    simp at h

theorem Laying.kept {w0 w w' : World} {X F N n m : Nat} {b : ByteArray} {f g : Nat → Nat} (h : Laying w0 w X F N b n m f g) (q : Q w w') : Laying w0 w' X F N b n m f g :=
  ⟨h.words.kept q, h.below.trans (q.below.mono h.below.size), h.low, h.ne, ⟨Nat.lt_of_lt_of_le h.top.1 q.below.size, Nat.lt_of_lt_of_le h.top.2 q.below.size⟩, fun j => (q.below.frozen (p := ⟨F, j, none⟩) h.top.1).trans (h.ff j), fun j => (q.below.frozen (p := ⟨N, j, none⟩) h.top.2).trans (h.fn j)⟩

theorem Laying.setNext {w0 w : World} {X F N n m : Nat} {b : ByteArray} {f g : Nat → Nat} (h : Laying w0 w X F N b n m f g) (p v : Nat) (hp : p < b.size) (hv : v ≤ b.size) : Laying w0 (w.setCell ⟨N, p, none⟩ (.int .u16 (v : Int))) X F N b n m f (fun j => if j = p then v else g j) := by
  have hne := h.ne
  have ox : ∀ Y j, Y ≠ N → (w.setCell ⟨N, p, none⟩ (.int .u16 (v : Int))).cell? ⟨Y, j, none⟩ = w.cell? ⟨Y, j, none⟩ := fun Y j hY => World.cell?_setCell_other _ _ _ _ (by intro e; injection e; omega)
  refine ⟨⟨(ox X 0 (Ne.symm hne.2.2)).trans h.words.c0, (ox X 1 (Ne.symm hne.2.2)).trans h.words.c1, (ox X 2 (Ne.symm hne.2.2)).trans h.words.c2, (ox X 3 (Ne.symm hne.2.2)).trans h.words.c3, fun i hi => (ox F i hne.1).trans (h.words.cf i hi), fun j hj => ?_, h.words.bf, fun j => ?_⟩, h.below.setCell h.low.2 _, h.low, hne, by simpa using h.top, fun j => by rw [World.frozen?_setCell]; exact h.ff j, fun j => by rw [World.frozen?_setCell]; exact h.fn j⟩
  · by_cases e : j = p
    · subst e; rw [World.cell?_setCell_same _ _ _ (h.words.cg j hj)]; simp
    · rw [World.cell?_setCell_other _ _ _ _ (by intro e2; injection e2; omega), h.words.cg j hj]; simp [e]
  · show (if j = p then v else g j) ≤ b.size; split
    · exact hv
    · exact h.words.bg j

theorem Laying.setFirst {w0 w : World} {X F N n m : Nat} {b : ByteArray} {f g : Nat → Nat} (h : Laying w0 w X F N b n m f g) (i v : Nat) (hi : i < m) (hv : v ≤ b.size) : Laying w0 (w.setCell ⟨F, i, none⟩ (.int .u16 (v : Int))) X F N b n m (fun j => if j = i then v else f j) g := by
  have hne := h.ne
  have ox : ∀ Y j, Y ≠ F → (w.setCell ⟨F, i, none⟩ (.int .u16 (v : Int))).cell? ⟨Y, j, none⟩ = w.cell? ⟨Y, j, none⟩ := fun Y j hY => World.cell?_setCell_other _ _ _ _ (by intro e; injection e; omega)
  refine ⟨⟨(ox X 0 (Ne.symm hne.2.1)).trans h.words.c0, (ox X 1 (Ne.symm hne.2.1)).trans h.words.c1, (ox X 2 (Ne.symm hne.2.1)).trans h.words.c2, (ox X 3 (Ne.symm hne.2.1)).trans h.words.c3, fun j hj => ?_, fun j hj => (ox N j (Ne.symm hne.1)).trans (h.words.cg j hj), fun j => ?_, h.words.bg⟩, h.below.setCell h.low.1 _, h.low, hne, by simpa using h.top, fun j => by rw [World.frozen?_setCell]; exact h.ff j, fun j => by rw [World.frozen?_setCell]; exact h.fn j⟩
  · by_cases e : j = i
    · subst e; rw [World.cell?_setCell_same _ _ _ (h.words.cf j hj)]; simp
    · rw [World.cell?_setCell_other _ _ _ _ (by intro e2; injection e2; omega), h.words.cf j hj]; simp [e]
  · show (if j = i then v else f j) ≤ b.size; split
    · exact hv
    · exact h.words.bf j
end Go.Proofs.Ytekdenkllipehaa
