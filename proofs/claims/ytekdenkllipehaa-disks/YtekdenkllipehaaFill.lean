/-
  A row of bytes that the call itself has made, filled from its beginning on.
-/
import Derived.Test.YtekdenkllipehaaConv
import Derived.Test.YtekdenkllipehaaKeep
import Derived.Laws.MakeOwn
import Derived.Lib.Strings
namespace Go.Proofs.Ytekdenkllipehaa
open Go.RowKit

theorem infoByte : (Try.prog.info? 5).map (fun i => (i.zero, i.size, i.bytes)) = some (some (.int .u8 0), 1, 1) := by kernel_rfl

/-- The first bytes of the row N, of n bytes, are acc; zeros behind them. -/
structure Fill (N n : Nat) (acc : List UInt8) (wr : World) : Prop where
  cell : ∀ j, j < n → wr.cell? ⟨N, j, none⟩ = some (.int .u8 ((acc.getD j 0).toNat : Int))
  frz : ∀ j, wr.frozen? ⟨N, j, none⟩ = false

theorem Fill.step {N n : Nat} {acc : List UInt8} {wr : World} (h : Fill N n acc wr) (b : UInt8) (v : Int) (hv : v = (b.toNat : Int)) : Fill N n (acc ++ [b]) (wr.setCell ⟨N, acc.length, none⟩ (.int .u8 v)) := by
  subst hv
  constructor
  · intro j hj
    by_cases e : j = acc.length
    · subst e
      rw [World.cell?_setCell_same wr _ _ (h.cell acc.length hj)]
      simp
    · rw [World.cell?_setCell_other wr _ _ _ (by intro hh; injection hh; omega), h.cell j hj]
      rcases Nat.lt_or_ge j acc.length with hlt | hge
      · simp [List.getElem?_append_left hlt]
      · have h1 : acc[j]? = none := List.getElem?_eq_none hge
        have h2 : (acc ++ [b])[j]? = none := List.getElem?_eq_none (by simp; omega)
        simp [h1, h2]
  · intro j; rw [World.frozen?_setCell]; exact h.frz j

/-- 'string(b)', all of it filled. -/
theorem Fill.text {N n cap : Nat} {acc : List UInt8} {wr : World} (h : Fill N n acc wr) (ha : acc.length = n) : (convert 41 9 (.slice (some ⟨N, 0, none⟩) n cap)).run Try.prog wr = .ok (.string ⟨acc.toArray⟩) wr := by
  subst ha
  exact run_convert_bytes_back (P := Try.prog) wr 41 9 5 ⟨N, 0, none⟩ cap acc Try.underlying41 Try.underlying5 Try.underlying9 (fun j hj => by
    have := h.cell j hj
    simp [List.getElem?_eq_getElem hj] at this
    have hp : (⟨N, 0, none⟩ : Addr).add j = ⟨N, j, none⟩ := by unfold Addr.add; split <;> simp_all
    rw [hp]; exact this)

/-- 'make([]byte, n)'. -/
theorem make_bytes (n : Nat) (hn : n ≤ 281474976710656) : ∃ M : Array Value,
    (∀ W : World, (Instr.makeSlice 41 (.int .i64 (n : Int)) (.int .i64 (n : Int))).run Try.prog W = .ok (.slice (some ⟨W.heap.size, 0, none⟩) n n) (W.alloc (.cells M 5))) ∧
    (∀ W : World, Fill W.heap.size n [] (W.alloc (.cells M 5))) := by
  obtain ⟨i0, hi, hz0, hz1, hz2⟩ := info_parts infoByte
  refine ⟨madeCells (Value.int .u8 0).cells (((n : Nat) : Int).toNat * i0.size), fun W => ?_, fun W => ⟨fun j hj => ?_, fun j => by simp⟩⟩
  · have h := run_make (P := Try.prog) W 41 5 i0 (.int .u8 0) Try.underlying41 hi hz0 .i64 .i64 (n : Int) (n : Int) (by omega) (by omega) (by rw [hz2]; omega) (by omega)
    simpa using h
  · rw [World.cell?_alloc_mark, hz1]
    have hm := toList_madeCells_one (.int .u8 0) (((n : Nat) : Int).toNat * 1)
    have : (madeCells (Value.int .u8 0).cells (((n : Nat) : Int).toNat * 1))[j]? = some (.int .u8 0) := by
      rw [← Array.getElem?_toList]
      show (madeCells #[Value.int .u8 0] _).toList[j]? = _
      rw [hm]
      simp [hj]
    rw [this]; simp
end Go.Proofs.Ytekdenkllipehaa
