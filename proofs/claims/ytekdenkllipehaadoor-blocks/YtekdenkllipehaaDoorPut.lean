import Derived.Test.YtekdenkllipehaaDoorRows
import Derived.Test.YtekdenkllipehaaDoorMath
import Derived.Test.YtekdenkllipehaaDoorKeep
import Derived.Test.YtekdenkllipehaaDoorBits
import Derived.Laws.BytesArg
namespace Go.Proofs.YtekdenkllipehaaDoor
open Go.RowKit

set_option maxRecDepth 100000 in
theorem put_no (n : Int) (hn : n < 0 ∨ 72057594037927936 ≤ n) (w : World) :
    Calls Tryd.prog 45 #[.int .i64 n] w fun e w' => e = .returned (.tuple #[.string ⟨#[]⟩, .int .i64 1]) ∧ w' = w := by
  rcases hn with hn | hn
  · go_enter Tryd.func45, Tryd.ntmps45
    go_wp2
    go_ret2
    exact ⟨rfl, rfl⟩
  · have h0 : ¬ n < 0 := by omega
    go_enter Tryd.func45, Tryd.ntmps45
    go_wp2
    go_ret2
    exact ⟨rfl, rfl⟩

/-- The bytes that have been written so far lie in the new array, zeros behind them. -/
structure Laid (N : Nat) (acc : List UInt8) (wr : World) : Prop where
  cell : ∀ j, j < 8 → wr.cell? ⟨N, j, none⟩ = some (.int .u8 ((acc.getD j 0).toNat : Int))
  frz : ∀ j, wr.frozen? ⟨N, j, none⟩ = false

theorem Laid.start (w : World) : Laid w.heap.size [] (w.alloc (.cells #[.int .u8 0, .int .u8 0, .int .u8 0, .int .u8 0, .int .u8 0, .int .u8 0, .int .u8 0, .int .u8 0] 81)) := by
  constructor
  · intro j hj
    match j, hj with
    | 0, _ => simp
    | 1, _ => simp
    | 2, _ => simp
    | 3, _ => simp
    | 4, _ => simp
    | 5, _ => simp
    | 6, _ => simp
    | 7, _ => simp
  · intro j; simp

theorem Laid.step {N : Nat} {acc : List UInt8} {wr : World} (h : Laid N acc wr) (b : UInt8) (v : Int) (hv : v = (b.toNat : Int)) : Laid N (acc ++ [b]) (wr.setCell ⟨N, acc.length, none⟩ (.int .u8 v)) := by
  subst hv
  constructor
  · intro j hj
    by_cases e : j = acc.length
    · subst e
      rw [World.cell?_setCell_same wr _ _ (h.cell acc.length (by omega))]
      simp
    · rw [World.cell?_setCell_other wr _ _ _ (by intro hh; injection hh; omega), h.cell j hj]
      rcases Nat.lt_or_ge j acc.length with hlt | hge
      · simp [List.getElem?_append_left hlt]
      · have h1 : acc[j]? = none := List.getElem?_eq_none hge
        have h2 : (acc ++ [b])[j]? = none := List.getElem?_eq_none (by simp; omega)
        simp [h1, h2]
  · intro j; rw [World.frozen?_setCell]; exact h.frz j

theorem slice8 (N k : Nat) (hk : k ≤ 7) (W : World) : (Instr.sliceAt 81 (.pointer (some ⟨N, 0, none⟩)) none (some (.int .i64 ((k : Int) + 1))) none).run Tryd.prog W = .ok (.slice (some ⟨N, 0, none⟩) (k + 1) 8) W := by
  have hz : Tryd.prog.arrayLen 81 = 8 := by kernel_rfl
  have hs : (Go.sizeOf (Tryd.prog.elem 81)).run Tryd.prog W = .ok 1 W := by kernel_rfl
  rw [run_sliceAt_array_h W 81 ⟨N, 0, none⟩ (by kernel_rfl) .i64 ((k : Int) + 1) (by omega) (by rw [hz]; omega), hs]
  simp [Result.andThen, slicedAt, hz, Addr.add]

/-- 'string(b[:last+1])'. -/
theorem Laid.text {N : Nat} {acc : List UInt8} {wr : World} (h : Laid N acc wr) (ha : acc.length ≤ 8) : (convert 40 9 (.slice (some ⟨N, 0, none⟩) acc.length 8)).run Tryd.prog wr = .ok (.string ⟨acc.toArray⟩) wr :=
  run_convert_bytes_back (P := Tryd.prog) wr 40 9 5 ⟨N, 0, none⟩ 8 acc Tryd.underlying40 Tryd.underlying5 Tryd.underlying9 (fun j hj => by
    have := h.cell j (by omega)
    simp [List.getElem?_eq_getElem hj] at this
    have hp : (⟨N, 0, none⟩ : Addr).add j = ⟨N, j, none⟩ := by unfold Addr.add; split <;> simp_all
    rw [hp]; exact this)

set_option maxRecDepth 100000 in
set_option maxHeartbeats 400000 in
theorem put_yes (n : Nat) (hn : n < 72057594037927936) (w : World) :
    Calls Tryd.prog 45 #[.int .i64 n] w fun e w' => e = .returned (.tuple #[.string ⟨(M.enc 7 n).toArray⟩, .int .i64 0]) ∧ Q w w' := by
  have hs := M.rest_start n hn
  generalize M.enc 7 n = l at *
  go_enter Tryd.func45, Tryd.ntmps45
  go_wp2
  go_loopw [0, 5] (fun x i wr => ∃ f m : Nat, ∃ acc : List UInt8, M.Rest l f m acc ∧ x = .int .i64 m ∧ i = .int .i64 acc.length ∧ Laid w.heap.size acc wr ∧ Q w wr) (fun x _ _ => (intOf x).toNat)
  case atStart => exact ⟨7, n, [], hs, rfl, rfl, Laid.start w, (Q.refl w).alloc _ _⟩
  case round =>
    obtain ⟨f, m, acc, hr, rfl, rfl, hL, hq⟩ := hrel
    have hm := M.rest_lt hr
    have hl := M.rest_len hr
    have hc := hL.cell acc.length (by omega)
    simp only [List.getD, List.getElem?_eq_none (Nat.le_refl _), Option.getD_none] at hc
    have hf := hL.frz acc.length
    by_cases hlt : m < 128
    · have hL2 := hL.step (UInt8.ofNat m) m (by simp; omega)
      have hsl := slice8 w.heap.size acc.length hl
      have hcv := hL2.text (by simp; omega)
      simp only [List.length_append, List.length_singleton] at hcv
      rw [M.rest_small hr hlt] at hcv
      go_wp2
      go_ret2
      exact ⟨rfl, hq.setCell (Nat.le_refl _) _⟩
    · have hb1 := i64_and127 m (by omega) (by omega)
      have hb2 := u8_or_high ((m : Int) % 128) (by omega) (by omega)
      obtain ⟨g, HG⟩ : ∃ g, Hid (M.Rest l g (m / 128) (acc ++ [UInt8.ofNat (m % 128 + 128)])) := by obtain ⟨g, _, h⟩ := M.rest_big hr hlt; exact ⟨g, h⟩
      have hL2 := hL.step (UInt8.ofNat (m % 128 + 128)) ((m : Int) % 128 + 128) (by simp; omega)
      go_wp2
      go_roundw
      case rel => exact ⟨g, m / 128, _, HG.out, by go_num, by simp, hL2, hq.setCell (Nat.le_refl _) _⟩
      case measure => simp [intOf]; omega
end Go.Proofs.YtekdenkllipehaaDoor
