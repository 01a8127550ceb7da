/-
  What longest tells: plain mathematics, and its variables in memory.
-/
import Derived.Test.YtekdenkllipehaaIndex
import Derived.Test.YtekdenkllipehaaWorth
namespace Go.Proofs.Ytekdenkllipehaa
open Go.RowKit

/-- A piece of the base that stands in the target around a place. -/
structure Lg (b t : ByteArray) (done at_ ahead place size : Nat) : Prop where
  h1 : ahead ≤ at_ - done
  h2 : ahead ≤ size
  h3 : place + size ≤ b.size
  h4 : at_ - ahead + size ≤ t.size
  eq : (b.data.toList.drop place).take size = (t.data.toList.drop (at_ - ahead)).take size

theorem Lg.start (b t : ByteArray) (done at_ : Nat) (h : at_ ≤ t.size) : Lg b t done at_ 0 0 0 := ⟨by omega, by omega, by omega, by omega, by simp⟩

theorem Lg.of {b t : ByteArray} {done at_ place back sb : Nat} (hp : place ≤ b.size) (hd : done ≤ at_) (hat : at_ ≤ t.size)
    (k1 : back ≤ (b.extract 0 place).size) (k2 : back ≤ (t.extract done at_).size) (k3 : (b.extract 0 place).data.toList.drop ((b.extract 0 place).size - back) = (t.extract done at_).data.toList.drop ((t.extract done at_).size - back))
    (m1 : sb ≤ (b.extract place b.size).size) (m2 : sb ≤ (t.extract at_ t.size).size) (m3 : (b.extract place b.size).data.toList.take sb = (t.extract at_ t.size).data.toList.take sb) :
    Lg b t done at_ back (place - back) (back + sb) ∧ back ≤ place := by
  have z1 : (b.extract 0 place).size = place := by simp; omega
  have z2 : (t.extract done at_).size = at_ - done := by simp; omega
  have z3 : (b.extract place b.size).size = b.size - place := by simp
  have z4 : (t.extract at_ t.size).size = t.size - at_ := by simp
  rw [z1] at k1 k3
  rw [z2] at k2 k3
  rw [z3] at m1
  rw [z4] at m2
  refine ⟨⟨by omega, by omega, by omega, by omega, ?_⟩, k1⟩
  simp only [ByteArray.data_extract, Array.toList_extract, List.extract_eq_take_drop, Nat.sub_zero, List.drop_zero] at k3 m3
  have e1 : (b.data.toList.drop (place - back)).take (back + sb) = (b.data.toList.drop (place - back)).take back ++ (b.data.toList.drop place).take sb := by
    rw [List.take_add, List.drop_drop, show place - back + back = place by omega]
  have e2 : (t.data.toList.drop (at_ - back)).take (back + sb) = (t.data.toList.drop (at_ - back)).take back ++ (t.data.toList.drop at_).take sb := by
    rw [List.take_add, List.drop_drop, show at_ - back + back = at_ by omega]
  rw [e1, e2]
  congr 1
  · rw [List.drop_take, List.drop_take, List.drop_drop, show place - (place - back) = back by omega, show at_ - done - (at_ - done - back) = back by omega, show done + (at_ - done - back) = at_ - back by omega] at k3
    exact k3
  · have hb : b.data.toList.length = b.size := by simp
    have ht : t.data.toList.length = t.size := by simp
    rw [List.take_of_length_le (l := b.data.toList.drop place) (by rw [List.length_drop]; omega), List.take_of_length_le (l := t.data.toList.drop at_) (by rw [List.length_drop]; omega)] at m3
    exact m3

/-- Where the whole target is the base. -/
def Whole (b t : ByteArray) (done at_ ahead place size : Nat) : Prop := b = t → done = 0 → at_ = 0 → ahead = 0 ∧ place = 0 ∧ size = b.size

/-- A variable of three cells. -/
structure Var3 (w : World) (B : Nat) (x y z : Value) : Prop where
  c0 : w.cell? ⟨B, 0, none⟩ = some x
  c1 : w.cell? ⟨B, 1, none⟩ = some y
  c2 : w.cell? ⟨B, 2, none⟩ = some z
  f0 : w.frozen? ⟨B, 0, none⟩ = false
  f1 : w.frozen? ⟨B, 1, none⟩ = false
  f2 : w.frozen? ⟨B, 2, none⟩ = false

theorem Var3.kept {w w' : World} {B : Nat} {x y z : Value} (h : Var3 w B x y z) (q : Q w w') : Var3 w' B x y z := by
  have hl : B < w.heap.size := cell_lt h.c0
  exact ⟨kept_cell h.c0 q, kept_cell h.c1 q, kept_cell h.c2 q, (q.below.frozen (p := ⟨B, 0, none⟩) hl).trans h.f0, (q.below.frozen (p := ⟨B, 1, none⟩) hl).trans h.f1, (q.below.frozen (p := ⟨B, 2, none⟩) hl).trans h.f2⟩

theorem Var3.set {w : World} {B : Nat} {x y z : Value} (h : Var3 w B x y z) (a b c : Value) : Var3 (((w.setCell ⟨B, 0, none⟩ a).setCell ⟨B, 1, none⟩ b).setCell ⟨B, 2, none⟩ c) B a b c := by
  obtain ⟨k0, k1, k2⟩ := stored3 h.c0 h.c1 h.c2 a b c
  exact ⟨k0, k1, k2, by simp only [World.frozen?_setCell]; exact h.f0, by simp only [World.frozen?_setCell]; exact h.f1, by simp only [World.frozen?_setCell]; exact h.f2⟩

theorem Var3.other {w : World} {B C : Nat} {x y z : Value} (h : Var3 w B x y z) (hne : B ≠ C) (a b c : Value) : Var3 (((w.setCell ⟨C, 0, none⟩ a).setCell ⟨C, 1, none⟩ b).setCell ⟨C, 2, none⟩ c) B x y z := by
  have oc : ∀ o, (((w.setCell ⟨C, 0, none⟩ a).setCell ⟨C, 1, none⟩ b).setCell ⟨C, 2, none⟩ c).cell? ⟨B, o, none⟩ = w.cell? ⟨B, o, none⟩ := fun o => by
    rw [World.cell?_setCell_other _ _ _ _ (by intro e; injection e; omega), World.cell?_setCell_other _ _ _ _ (by intro e; injection e; omega), World.cell?_setCell_other _ _ _ _ (by intro e; injection e; omega)]
  exact ⟨(oc 0).trans h.c0, (oc 1).trans h.c1, (oc 2).trans h.c2, by simp only [World.frozen?_setCell]; exact h.f0, by simp only [World.frozen?_setCell]; exact h.f1, by simp only [World.frozen?_setCell]; exact h.f2⟩

theorem Var3.grown {w w' : World} {row : Option Nat} {B : Nat} {x y z : Value} (h : Var3 w B x y z) (hg : w.grownBy w' row) (hne : ∀ k, row = some k → k ≠ B) : Var3 w' B x y z := by
  have hb : w'.heap[B]? = w.heap[B]? := hg.block B (cell_lt h.c0) (fun e => hne B e.symm rfl)
  exact ⟨(World.cell?_of_block (a := ⟨B, 0, none⟩) hb).trans h.c0, (World.cell?_of_block (a := ⟨B, 1, none⟩) hb).trans h.c1, (World.cell?_of_block (a := ⟨B, 2, none⟩) hb).trans h.c2, (World.frozen?_of_block (a := ⟨B, 0, none⟩) hb).trans h.f0, (World.frozen?_of_block (a := ⟨B, 1, none⟩) hb).trans h.f1, (World.frozen?_of_block (a := ⟨B, 2, none⟩) hb).trans h.f2⟩

theorem var3_new (w : World) (x y z : Value) (t : TypeId) : Var3 (w.alloc (.cells #[x, y, z] t)) w.heap.size x y z := by
  obtain ⟨⟨a, b, c⟩, ⟨d, e, f⟩⟩ := new3 (Q.refl (w.alloc (.cells #[x, y, z] t)))
  exact ⟨a, b, c, d, e, f⟩
end Go.Proofs.Ytekdenkllipehaa
