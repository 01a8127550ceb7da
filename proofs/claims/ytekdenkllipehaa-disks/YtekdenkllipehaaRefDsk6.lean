/-
  The document's disk: New.
-/
import Derived.Test.YtekdenkllipehaaRefDsk5
namespace Go.Proofs.Ytekdenkllipehaa
open Go.RowKit

theorem diskAt_new (tg : Tags) (o : Nat) (w : World) (c : Nat) (t : TypeId) : DiskAt (w.alloc (.cells #[.int .i64 (c : Int), .slice none 0 0, .bool false, .int .i64 0] t)) (tg.more w.heap.size o 0) o w.heap.size ⟨c, [], false, 0⟩ [] [] := by
  refine ⟨by simp, by simp, by simp, fun j => by simp, Tags.more_new (Nat.le_refl _), by simp, ⟨none, 0, by simp, World.ownsRow_nil _ _ _ _, fun g hg => by simp [Value.ownBlock] at hg⟩, List.nodup_nil, rfl, rfl, fun i p id f h1 _ _ => by simp at h1⟩

set_option maxRecDepth 100000 in
theorem refNew_yes (c : Nat) (hc : c ≤ 1048576) (tg : Tags) (o : Nat) (w : World) :
    Calls Try.prog 43 #[.int .i64 (c : Int)] w fun e w' => e = .returned (.tuple #[.pointer (some ⟨w.heap.size, 0, none⟩), .int .i64 0]) ∧ DiskAt w' (tg.more w.heap.size o 0) o w.heap.size ⟨c, [], false, 0⟩ [] [] ∧ Q w w' := by
  have d1 : decide ((c : Int) < 0) = false := by rw [decide_eq_false_iff_not]; omega
  have d2 : decide ((1048576 : Int) < (c : Int)) = false := by rw [decide_eq_false_iff_not]; omega
  have HN : Hid _ := diskAt_new tg o w c 90
  go_enter Try.func43, Try.ntmps43
  go_wp2_with fail
  go_ret2
  exact ⟨rfl, HN.out, (Q.refl w).alloc _ _⟩

set_option maxRecDepth 100000 in
theorem refNew_no (c : Int) (hc : c < 0 ∨ 1048576 < c) (w : World) :
    Calls Try.prog 43 #[.int .i64 c] w fun e w' => e = .returned (.tuple #[.pointer none, .int .i64 8]) ∧ Q w w' := by
  rcases hc with hc | hc
  · go_enter Try.func43, Try.ntmps43
    go_wp2_with fail
    go_ret2
    exact ⟨rfl, Q.refl w⟩
  · have d1 : decide (c < 0) = false := by rw [decide_eq_false_iff_not]; omega
    go_enter Try.func43, Try.ntmps43
    go_wp2_with fail
    go_ret2
    exact ⟨rfl, Q.refl w⟩
end Go.Proofs.Ytekdenkllipehaa
