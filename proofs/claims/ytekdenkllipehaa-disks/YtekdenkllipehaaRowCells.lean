/-
  Rows that are written into: several cells side by side; what an insertion and a deletion leave of a row. Nothing of the program is named here.
-/
import Derived.Shelf.Spec.SlicesInsert
import Derived.Laws.Rows
import Derived.Lib.SlicesDelete
import Derived.Maps.AppendAt
import Derived.WalkKit
import Derived.Test.YtekdenkllipehaaOwn
namespace Go.Proofs.Ytekdenkllipehaa
open Go.RowKit

theorem setCells_row (g : Nat) (e : TypeId) : ∀ (vs : List Value) (o : Nat) (w : World) (cur : Array Value), w.heap[g]? = some (.cells cur e (0, 0)) → o + vs.length ≤ cur.size →
    ∃ cur', (w.setCells g o vs).heap[g]? = some (.cells cur' e (0, 0)) ∧ cur'.size = cur.size ∧ cur'.toList = cur.toList.take o ++ vs ++ cur.toList.drop (o + vs.length)
  | [], o, w, cur, h, _ => ⟨cur, h, rfl, by simp⟩
  | v :: vs, o, w, cur, h, hl => by
    simp only [List.length_cons] at hl
    have h1 := heap_setCell_same w g o cur e v h
    obtain ⟨cur', h2, h3, h4⟩ := setCells_row g e vs (o + 1) (w.setCell ⟨g, o, none⟩ v) _ h1 (by simp; omega)
    refine ⟨cur', h2, h3.trans (by simp), ?_⟩
    rw [h4, Array.toList_setIfInBounds, List.drop_set_of_lt (by omega), show o + 1 + vs.length = o + (v :: vs).length by simp; omega]
    have : (cur.toList.set o v).take (o + 1) = cur.toList.take o ++ [v] := by
      have hlen : (cur.toList.take o).length = o := by simp; omega
      have hlt : o < cur.toList.length := by rw [Array.length_toList]; omega
      rw [List.set_eq_take_append_cons_drop, if_pos hlt, List.take_append, List.take_of_length_le (by omega), hlen, Nat.add_sub_cancel_left]
      simp
    rw [this]
    simp

theorem grown_setCells (w : World) (g o : Nat) (vs : List Value) : w.grownBy (w.setCells g o vs) (some g) := by
  induction vs generalizing w o with
  | nil => exact ⟨rfl, rfl, rfl, Nat.le_refl _, fun _ _ _ => rfl⟩
  | cons v vs ih =>
    have h1 : w.grownBy (w.setCell ⟨g, o, none⟩ v) (some g) := ⟨rfl, rfl, rfl, by simp, fun k _ hk => heap_setCell_other w ⟨g, o, none⟩ k v (fun e => hk (by simp at e; rw [e]))⟩
    exact h1.trans (ih _ _)

theorem drew_grown (w : World) (row : Option Nat) : w.grownBy w.drew row := ⟨rfl, rfl, rfl, Nat.le_refl _, fun _ _ _ => rfl⟩
theorem grown_alloc (w : World) (ob : Obj) (row : Option Nat) : w.grownBy (w.alloc ob) row := ⟨rfl, rfl, rfl, by simp, fun k hk _ => heap_alloc_old w ob hk⟩
theorem grown_new {a b c : World} {j : Nat} (h : a.grownBy b none) (k : b.grownBy c (some j)) (hj : a.heap.size ≤ j) : a.grownBy c none :=
  ⟨k.os.trans h.os, k.tape.trans h.tape, k.output.trans h.output, Nat.le_trans h.size k.size, fun i hi hn => (k.block i (Nat.lt_of_lt_of_le hi h.size) (fun e => by simp at e; omega)).trans (h.block i hi hn)⟩
theorem grown_but {a c : World} (h : a.grownBy c none) (row : Option Nat) : a.grownBy c row := ⟨h.os, h.tape, h.output, h.size, fun i hi _ => h.block i hi (by simp)⟩
end Go.Proofs.Ytekdenkllipehaa
