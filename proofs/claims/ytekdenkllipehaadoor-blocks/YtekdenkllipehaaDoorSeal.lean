import Derived.Test.YtekdenkllipehaaDoorKeep
import Derived.Test.YtekdenkllipehaaDoorSum
import Derived.Test.YtekdenkllipehaaDoorConv
namespace Go.Proofs.YtekdenkllipehaaDoor
open Go.RowKit

set_option maxRecDepth 100000 in
set_option maxHeartbeats 400000 in
theorem seal_any (s : ByteArray) (hs : s.size ≤ 281474976710656) (w : World) (hT : Tab w) :
    Calls Tryd.prog 21 #[.string s] w fun e w' => e = .returned (.string ⟨(M.le4 (M.sum s.data.toList)).toArray⟩) ∧ Below w.heap.size w w' := by
  have hn := M.sum_lt s.data.toList
  have hcv := conv4
  have hsum := sum_any s hs w hT
  generalize M.sum s.data.toList = n at *
  have HS : Hid _ := hsum
  have E : Hid (#[UInt8.ofNat (n % 256), UInt8.ofNat (n / 256 % 256), UInt8.ofNat (n / 65536 % 256), UInt8.ofNat (n / 16777216)] = (M.le4 n).toArray) := M.le4_last n hn
  clear hsum
  go_enter Tryd.func21, Tryd.ntmps21
  go_wp2_with fail
  refine Calls.mono HS.out ?_
  rintro e w1 ⟨rfl, rfl⟩
  go_wp2_with fail
  go_ret
  exact ⟨congrArg (fun x => Ending.returned (.string ⟨x⟩)) E.out, (Below.refl _ _).alloc (Nat.le_refl _) _⟩


theorem tab_pos {w : World} (h : Tab w) : 0 < w.heap.size := by
  have h0 := h 0 (by omega)
  rcases Nat.eq_zero_or_pos w.heap.size with e | e
  · exfalso
    unfold World.cell? at h0
    rw [Array.getElem?_eq_none (by omega)] at h0
    simp at h0
  · exact e

theorem tab_kept {w w' : World} (h : Tab w) (q : Q w w') : Tab w' := fun i hi => (q.below.cell (p := ⟨0, i, none⟩) (tab_pos h)).trans (h i hi)
end Go.Proofs.YtekdenkllipehaaDoor
