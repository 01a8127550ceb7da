import Derived.Test.YtekdenkllipehaaDoorSeal
import Derived.Test.YtekdenkllipehaaDoorClone
import Derived.Test.YtekdenkllipehaaDoorOpened
import Derived.Deep.RegionWith
namespace Go.Proofs.YtekdenkllipehaaDoor
open Go.RowKit

set_option maxRecDepth 100000 in
set_option maxHeartbeats 400000 in
theorem wireSeal_any (s : ByteArray) (hs : s.size ≤ 281474976710656) (w : World) (hT : Tab w) :
    Calls Tryd.prog 8 #[.string s] w fun e w' => e = .returned (.string ⟨(M.sealed s.data.toList).toArray⟩) ∧ Below w.heap.size w w' := by
  have E : Hid (s ++ ⟨(M.le4 (M.sum s.data.toList)).toArray⟩ = (⟨(M.sealed s.data.toList).toArray⟩ : ByteArray)) := by
    show s ++ _ = _
    unfold M.sealed
    rw [← ByteArray.mk_append_mk]
  have hl : (M.le4 (M.sum s.data.toList)).length = 4 := rfl
  have hsl := seal_any s hs w hT
  generalize M.le4 (M.sum s.data.toList) = q at *
  generalize M.sealed s.data.toList = r at *
  have HS : Hid _ := hsl
  clear hsl
  go_enter Tryd.func8, Tryd.ntmps8
  go_wp2_with fail
  refine Calls.mono HS.out ?_
  rintro e w1 ⟨rfl, hb⟩
  go_wp2_with fail
  go_ret
  exact ⟨congrArg (fun x => Ending.returned (.string x)) E.out, hb⟩

set_option maxRecDepth 100000 in
theorem unseal_short (s : ByteArray) (hs : s.size < 4) (w : World) :
    Calls Tryd.prog 10 #[.string s] w fun e w' => e = .returned (.tuple #[.string ⟨#[]⟩, .int .i64 2]) ∧ w' = w := by
  go_enter Tryd.func10, Tryd.ntmps10
  go_wp2_with fail
  go_ret2
  exact ⟨rfl, rfl⟩

theorem below_undrew {B : Nat} {w w1 : World} (h : Below B w.drew w1) : Below B w w1 := ⟨h.os, h.tape, h.output, h.size, h.block⟩

set_option maxRecDepth 100000 in
set_option maxHeartbeats 800000 in
theorem unseal_yes (s T R : ByteArray) (n : Nat) (hs : n ≤ 281474976710656) (hsz : s.size = n + 4) (h1 : s.extract 0 n = T) (h2 : s.extract n (n + 4) = R) (w : World) (hT : Tab w)
    (hc : R.data.toList = M.le4 (M.sum T.data.toList)) :
    Calls Tryd.prog 10 #[.string s] w fun e w' => e = .returned (.tuple #[.string T, .int .i64 0]) ∧ Below w.heap.size w w' := by
  have hTn : T.size = n := by rw [← h1]; simp; omega
  have hsl := fun w hT => seal_any T (by omega) w hT
  have hcl := fun w => clone_any T w (by omega)
  have hbq : (R.toList == M.le4 (M.sum T.data.toList)) = true := by rw [ByteArray.toList_eq, hc]; simp
  generalize M.le4 (M.sum T.data.toList) = q at *
  have HS : Hid _ := hsl
  have HC : Hid _ := hcl
  clear hsl hcl hTn hc
  go_enter Tryd.func10, Tryd.ntmps10
  go_wp2_with fail
  go_region_with (go_at_call 21; refine (HS.out _ ?_).mono ?_; exact hT; rintro e w1 ⟨rfl, hb⟩)
  all_goals
    have hb1 := below_undrew hb
    clear hb
    go_wp2_with fail
    refine (HC.out _).mono ?_
    rintro e w2 ⟨rfl, hb2⟩
    go_wp2_with fail
    go_ret2
    exact ⟨rfl, hb1.trans (hb2.mono hb1.size)⟩

set_option maxRecDepth 100000 in
set_option maxHeartbeats 800000 in
theorem unseal_no (s T R : ByteArray) (n : Nat) (hs : n ≤ 281474976710656) (hsz : s.size = n + 4) (h1 : s.extract 0 n = T) (h2 : s.extract n (n + 4) = R) (w : World) (hT : Tab w)
    (hc : ¬ R.data.toList = M.le4 (M.sum T.data.toList)) :
    Calls Tryd.prog 10 #[.string s] w fun e w' => e = .returned (.tuple #[.string ⟨#[]⟩, .int .i64 3]) ∧ Below w.heap.size w w' := by
  have hTn : T.size = n := by rw [← h1]; simp; omega
  have hsl := fun w hT => seal_any T (by omega) w hT
  have hbq : (R.toList == M.le4 (M.sum T.data.toList)) = false := by rw [ByteArray.toList_eq, beq_eq_false_iff_ne]; exact hc
  generalize M.le4 (M.sum T.data.toList) = q at *
  have HS : Hid _ := hsl
  clear hsl hTn hc
  go_enter Tryd.func10, Tryd.ntmps10
  go_wp2_with fail
  go_region_with (go_at_call 21; refine (HS.out _ ?_).mono ?_; exact hT; rintro e w1 ⟨rfl, hb⟩)
  all_goals
    have hb1 := below_undrew hb
    clear hb
    go_wp2_with fail
    go_ret2
    exact ⟨rfl, hb1⟩

theorem unseal_long (s T R : ByteArray) (n : Nat) (hs : n ≤ 281474976710656) (hsz : s.size = n + 4) (h1 : s.extract 0 n = T) (h2 : s.extract n (n + 4) = R) (w : World) (hT : Tab w) :
    Calls Tryd.prog 10 #[.string s] w fun e w' => e = opened T R ∧ Below w.heap.size w w' := by
  unfold opened
  split
  · rename_i hc
    exact unseal_yes s T R n hs hsz h1 h2 w hT hc
  · rename_i hc
    exact unseal_no s T R n hs hsz h1 h2 w hT hc
end Go.Proofs.YtekdenkllipehaaDoor
