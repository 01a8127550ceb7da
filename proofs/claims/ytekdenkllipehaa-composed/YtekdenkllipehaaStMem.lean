/-
  Steps in memory.
-/
import Derived.Test.YtekdenkllipehaaStp
import Derived.Test.YtekdenkllipehaaKeep
import Derived.Test.YtekdenkllipehaaOwn
namespace Go.Proofs.Ytekdenkllipehaa
open Go.RowKit

/-- A step as a value. -/
def M.St.val (s : M.St) : Value := .agg #[.string s.put, .int .i64 (s.place : Int), .int .i64 (s.size : Int)]
/-- A step's cells. -/
def M.St.cells (s : M.St) : List Value := [.string s.put, .int .i64 (s.place : Int), .int .i64 (s.size : Int)]

/-- The steps lie in the block g, from the cell o on. -/
def StAt (w : World) (g o : Nat) (L : List M.St) : Prop := ∀ (k : Nat) (s : M.St), L[k]? = some s →
  w.cell? ⟨g, o + k * 3, none⟩ = some (.string s.put) ∧ w.cell? ⟨g, o + k * 3 + 1, none⟩ = some (.int .i64 (s.place : Int)) ∧ w.cell? ⟨g, o + k * 3 + 2, none⟩ = some (.int .i64 (s.size : Int))

/-- The steps lie where a slice's address says. -/
def Steps (w : World) (ao : Option Addr) (L : List M.St) : Prop := L = [] ∨ ∃ g o, ao = some ⟨g, o, none⟩ ∧ g < w.heap.size ∧ StAt w g o L

theorem StAt.kept {w w' : World} {g o : Nat} {L : List M.St} (h : StAt w g o L) {n : Nat} (hg : g < n) (hb : Below n w w') : StAt w' g o L := fun k s hs => by
  obtain ⟨h0, h1, h2⟩ := h k s hs
  exact ⟨(hb.cell (p := ⟨g, _, none⟩) hg).trans h0, (hb.cell (p := ⟨g, _, none⟩) hg).trans h1, (hb.cell (p := ⟨g, _, none⟩) hg).trans h2⟩

theorem Steps.kept {w w' : World} {ao : Option Addr} {L : List M.St} (h : Steps w ao L) (q : Q w w') : Steps w' ao L := by
  rcases h with h | ⟨g, o, rfl, hg, hs⟩
  · exact Or.inl h
  · exact Or.inr ⟨g, o, rfl, by have := q.below.size; omega, hs.kept hg q.below⟩

theorem Steps.at {w : World} {ao : Option Addr} {L : List M.St} (h : Steps w ao L) {k : Nat} (hk : k < L.length) : ∃ g o, ao = some ⟨g, o, none⟩ ∧ g < w.heap.size ∧ StAt w g o L := by
  rcases h with h | h
  · subst h; simp at hk
  · exact h

theorem StAt.take {w : World} {g o : Nat} {L : List M.St} (h : StAt w g o L) (n : Nat) : StAt w g o (L.take n) := fun k s hs => h k s (by
  rw [List.getElem?_take] at hs
  split at hs
  · exact hs
  · simp at hs)
theorem StAt.drop {w : World} {g o : Nat} {L : List M.St} (h : StAt w g o L) (n : Nat) : StAt w g (o + n * 3) (L.drop n) := fun k s hs => by
  rw [List.getElem?_drop] at hs
  have := h (n + k) s hs
  rw [show o + n * 3 + k * 3 = o + (n + k) * 3 by omega]
  exact this

/-- The cells of a row of steps. -/
def cellsOf (L : List M.St) : List Value := L.flatMap M.St.cells
theorem cellsOf_append (A B : List M.St) : cellsOf (A ++ B) = cellsOf A ++ cellsOf B := by simp [cellsOf]
theorem cellsOf_one (s : M.St) : cellsOf [s] = s.cells := by simp [cellsOf]
theorem cellsOf_length (L : List M.St) : (cellsOf L).length = L.length * 3 := by
  induction L with
  | nil => rfl
  | cons s L ih => show (s.cells ++ cellsOf L).length = _; rw [List.length_append, ih]; simp [M.St.cells]; omega
theorem cellsOf_one' (L : List M.St) : ∀ u ∈ cellsOf L, u.oneCell' = true := by
  intro u hu
  simp only [cellsOf, List.mem_flatMap, M.St.cells] at hu
  obtain ⟨s, _, hu⟩ := hu
  simp at hu
  rcases hu with rfl | rfl | rfl <;> rfl

theorem cellsOf_get : ∀ {L : List M.St} {k : Nat} {s : M.St}, L[k]? = some s → (cellsOf L)[k * 3]? = some (.string s.put) ∧ (cellsOf L)[k * 3 + 1]? = some (.int .i64 (s.place : Int)) ∧ (cellsOf L)[k * 3 + 2]? = some (.int .i64 (s.size : Int))
  | [], _, _, h => by simp at h
  | t :: L, 0, s, h => by
    simp at h; subst h
    exact ⟨rfl, rfl, rfl⟩
  | t :: L, k + 1, s, h => by
    have e : cellsOf (t :: L) = .string t.put :: .int .i64 (t.place : Int) :: .int .i64 (t.size : Int) :: cellsOf L := rfl
    have ih := cellsOf_get (L := L) (k := k) (s := s) (by simpa using h)
    rw [e, show (k + 1) * 3 = k * 3 + 1 + 1 + 1 by omega]
    simpa using ih

/-- Cells that lie as a row lies: the steps are there. -/
theorem StAt.of_cells {w : World} {g o : Nat} {L : List M.St} (h : ∀ j u, (cellsOf L)[j]? = some u → w.cell? ⟨g, o + j, none⟩ = some u) : StAt w g o L := fun k s hs => by
  obtain ⟨h0, h1, h2⟩ := cellsOf_get hs
  exact ⟨h _ _ h0, h _ _ h1, h _ _ h2⟩

theorem StAt.to_cells {w : World} {g o : Nat} {L : List M.St} (h : StAt w g o L) : ∀ j u, (cellsOf L)[j]? = some u → w.cell? ⟨g, o + j, none⟩ = some u := by
  intro j u hu
  have hlt : j < L.length * 3 := by
    rcases Nat.lt_or_ge j (L.length * 3) with hl | hl
    · exact hl
    · rw [List.getElem?_eq_none (by rw [cellsOf_length]; exact hl)] at hu; simp at hu
  have hk : j / 3 < L.length := by omega
  have hs : L[j / 3]? = some L[j / 3] := List.getElem?_eq_getElem hk
  obtain ⟨h0, h1, h2⟩ := h _ _ hs
  obtain ⟨c0, c1, c2⟩ := cellsOf_get hs
  have hj : j = j / 3 * 3 ∨ j = j / 3 * 3 + 1 ∨ j = j / 3 * 3 + 2 := by omega
  rcases hj with e | e | e
  · rw [e] at hu ⊢; rw [c0] at hu; rw [← hu]; exact h0
  · rw [e] at hu ⊢; rw [c1] at hu; rw [← hu]; exact h1
  · rw [e] at hu ⊢; rw [c2] at hu; rw [← hu]; exact h2

/-- The steps of an owned row. -/
theorem own_steps {w : World} {base : Nat} {ao : Option Addr} {cap : Nat} {L : List M.St} (h : w.ownsRow base 53 3 (.slice ao L.length cap) L.length (cellsOf L)) : Steps w ao L := by
  by_cases hL : L = []
  · exact Or.inl hL
  · obtain ⟨g, rfl, _, hlt, hc⟩ := own_cells h (by
      intro e
      have h1 := cellsOf_length L
      rw [e, List.length_nil] at h1
      have h2 : L.length ≠ 0 := fun e => hL (List.eq_nil_of_length_eq_zero e)
      omega)
    exact Or.inr ⟨g, 0, rfl, hlt, StAt.of_cells fun j u hu => by rw [Nat.zero_add]; exact hc j u hu⟩

/-- A variable of three cells, behind a call. -/
theorem new3 {w w2 : World} {x y z : Value} {t : TypeId} (q : Q (w.alloc (.cells #[x, y, z] t)) w2) :
    (w2.cell? ⟨w.heap.size, 0, none⟩ = some x ∧ w2.cell? ⟨w.heap.size, 1, none⟩ = some y ∧ w2.cell? ⟨w.heap.size, 2, none⟩ = some z) ∧
    (w2.frozen? ⟨w.heap.size, 0, none⟩ = false ∧ w2.frozen? ⟨w.heap.size, 1, none⟩ = false ∧ w2.frozen? ⟨w.heap.size, 2, none⟩ = false) := by
  have cl : ∀ o, w2.cell? ⟨w.heap.size, o, none⟩ = (w.alloc (.cells #[x, y, z] t)).cell? ⟨w.heap.size, o, none⟩ := fun o => q.below.cell (p := ⟨w.heap.size, o, none⟩) (by simp)
  have fr : ∀ o, w2.frozen? ⟨w.heap.size, o, none⟩ = (w.alloc (.cells #[x, y, z] t)).frozen? ⟨w.heap.size, o, none⟩ := fun o => q.below.frozen (p := ⟨w.heap.size, o, none⟩) (by simp)
  exact ⟨⟨(cl 0).trans (by simp), (cl 1).trans (by simp), (cl 2).trans (by simp)⟩, ⟨(fr 0).trans (by simp), (fr 1).trans (by simp), (fr 2).trans (by simp)⟩⟩

/-- .. of two cells. -/
theorem new2 {w w2 : World} {x y : Value} {t : TypeId} (q : Q (w.alloc (.cells #[x, y] t)) w2) :
    (w2.cell? ⟨w.heap.size, 0, none⟩ = some x ∧ w2.cell? ⟨w.heap.size, 1, none⟩ = some y) ∧
    (w2.frozen? ⟨w.heap.size, 0, none⟩ = false ∧ w2.frozen? ⟨w.heap.size, 1, none⟩ = false) := by
  have cl : ∀ o, w2.cell? ⟨w.heap.size, o, none⟩ = (w.alloc (.cells #[x, y] t)).cell? ⟨w.heap.size, o, none⟩ := fun o => q.below.cell (p := ⟨w.heap.size, o, none⟩) (by simp)
  have fr : ∀ o, w2.frozen? ⟨w.heap.size, o, none⟩ = (w.alloc (.cells #[x, y] t)).frozen? ⟨w.heap.size, o, none⟩ := fun o => q.below.frozen (p := ⟨w.heap.size, o, none⟩) (by simp)
  exact ⟨⟨(cl 0).trans (by simp), (cl 1).trans (by simp)⟩, ⟨(fr 0).trans (by simp), (fr 1).trans (by simp)⟩⟩

/-- .. written anew. -/
theorem stored3 {w : World} {B : Nat} {x y z : Value} (h0 : w.cell? ⟨B, 0, none⟩ = some x) (h1 : w.cell? ⟨B, 1, none⟩ = some y) (h2 : w.cell? ⟨B, 2, none⟩ = some z) (a b c : Value) :
    (((w.setCell ⟨B, 0, none⟩ a).setCell ⟨B, 1, none⟩ b).setCell ⟨B, 2, none⟩ c).cell? ⟨B, 0, none⟩ = some a ∧
    (((w.setCell ⟨B, 0, none⟩ a).setCell ⟨B, 1, none⟩ b).setCell ⟨B, 2, none⟩ c).cell? ⟨B, 1, none⟩ = some b ∧
    (((w.setCell ⟨B, 0, none⟩ a).setCell ⟨B, 1, none⟩ b).setCell ⟨B, 2, none⟩ c).cell? ⟨B, 2, none⟩ = some c := by
  have k1 : (w.setCell ⟨B, 0, none⟩ a).cell? ⟨B, 1, none⟩ = some y := by rw [World.cell?_setCell_other _ _ _ _ (by simp)]; exact h1
  have k2 : ((w.setCell ⟨B, 0, none⟩ a).setCell ⟨B, 1, none⟩ b).cell? ⟨B, 2, none⟩ = some z := by rw [World.cell?_setCell_other _ _ _ _ (by simp), World.cell?_setCell_other _ _ _ _ (by simp)]; exact h2
  refine ⟨?_, ?_, World.cell?_setCell_same _ _ _ k2⟩
  · rw [World.cell?_setCell_other _ _ _ _ (by simp), World.cell?_setCell_other _ _ _ _ (by simp)]; exact World.cell?_setCell_same _ _ _ h0
  · rw [World.cell?_setCell_other _ _ _ _ (by simp)]; exact World.cell?_setCell_same _ _ _ k1
theorem stored2 {w : World} {B : Nat} {x y : Value} (h0 : w.cell? ⟨B, 0, none⟩ = some x) (h1 : w.cell? ⟨B, 1, none⟩ = some y) (a b : Value) :
    ((w.setCell ⟨B, 0, none⟩ a).setCell ⟨B, 1, none⟩ b).cell? ⟨B, 0, none⟩ = some a ∧
    ((w.setCell ⟨B, 0, none⟩ a).setCell ⟨B, 1, none⟩ b).cell? ⟨B, 1, none⟩ = some b := by
  have k1 : (w.setCell ⟨B, 0, none⟩ a).cell? ⟨B, 1, none⟩ = some y := by rw [World.cell?_setCell_other _ _ _ _ (by simp)]; exact h1
  refine ⟨?_, World.cell?_setCell_same _ _ _ k1⟩
  rw [World.cell?_setCell_other _ _ _ _ (by simp)]; exact World.cell?_setCell_same _ _ _ h0
theorem Q.set3 {w v : World} (q : Q w v) {B : Nat} (hB : w.heap.size ≤ B) (a b c : Value) : Q w (((v.setCell ⟨B, 0, none⟩ a).setCell ⟨B, 1, none⟩ b).setCell ⟨B, 2, none⟩ c) :=
  ((q.setCell (p := ⟨B, 0, none⟩) hB a).setCell (p := ⟨B, 1, none⟩) hB b).setCell (p := ⟨B, 2, none⟩) hB c
theorem Q.set2 {w v : World} (q : Q w v) {B : Nat} (hB : w.heap.size ≤ B) (a b : Value) : Q w ((v.setCell ⟨B, 0, none⟩ a).setCell ⟨B, 1, none⟩ b) :=
  (q.setCell (p := ⟨B, 0, none⟩) hB a).setCell (p := ⟨B, 1, none⟩) hB b
end Go.Proofs.Ytekdenkllipehaa
