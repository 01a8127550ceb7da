import Derived.Test.YtekdenkllipehaaRd
namespace Go.Proofs.Ytekdenkllipehaa
open Go.RowKit

/-- One step can stand for both? -/
def leads (s t : M.St) : Bool := if s.put.size = 0 ∧ t.put.size = 0 then decide (s.place + s.size = t.place) else decide (s.put.size ≠ 0 ∧ t.put.size ≠ 0)

theorem leads_iff (s t : M.St) : leads s t = true ↔ M.Leads s t := by
  unfold leads M.Leads
  split <;> simp

set_option maxRecDepth 100000 in
set_option maxHeartbeats 800000 in
theorem leadsTo_any (s t : M.St) (hs : s.place + s.size ≤ 72057594037927935) (w : World) :
    Calls Try.prog 40 #[.agg #[.string s.put, .int .i64 (s.place : Int), .int .i64 (s.size : Int)], .agg #[.string t.put, .int .i64 (t.place : Int), .int .i64 (t.size : Int)]] w fun e w' => e = .returned (.bool (leads s t)) ∧ Q w w' := by
  obtain ⟨W0, hW0⟩ : ∃ W0, W0 = (w.alloc (.cells #[.string s.put, .int .i64 (s.place : Int), .int .i64 (s.size : Int)] 53)).alloc (.cells #[.string t.put, .int .i64 (t.place : Int), .int .i64 (t.size : Int)] 53) := ⟨_, rfl⟩
  have hQ : Q w W0 := by rw [hW0]; exact ((Q.refl w).alloc _ _).alloc _ _
  obtain ⟨⟨X0, X1, X2⟩, -⟩ := new3 (w := w) (w2 := W0) (by rw [hW0]; exact (Q.refl _).alloc _ _)
  obtain ⟨⟨Y0, Y1, Y2⟩, -⟩ := new3 (w2 := W0) (by rw [hW0]; exact Q.refl _)
  rw [World.size_alloc] at Y0 Y1 Y2
  rw [hW0] at hQ X0 X1 X2 Y0 Y1 Y2
  clear hW0 W0
  have T0 : (s.place : Int) + (s.size : Int) ≤ 72057594037927935 := by omega
  cases h1 : isPut s.put <;> cases h2 : isPut t.put
  · have h1' := h1
    have h2' := h2
    rw [isPut_no] at h1' h2'
    have E : Hid (leads s t = decide (s.place + s.size = t.place)) := by unfold leads; rw [if_pos ⟨h1', h2'⟩]; exact rfl
    have tt : ((s.place : Int) + (s.size : Int) == (t.place : Int)) = decide (s.place + s.size = t.place) := by
      rw [Bool.eq_iff_iff]; simp; omega
    clear h1' h2'
    go_enter Try.func40, Try.ntmps40
    go_wp2_with (go_at_call 26; refine (puts_gen _ _ _ _).mono ?_; rintro e w1 ⟨rfl, q1⟩; replace hQ := hQ.trans q1; replace X0 := kept_cell X0 q1; replace X1 := kept_cell X1 q1; replace X2 := kept_cell X2 q1; replace Y0 := kept_cell Y0 q1; replace Y1 := kept_cell Y1 q1; replace Y2 := kept_cell Y2 q1; clear q1)
    go_ret
    exact ⟨by rw [E.out]; rfl, hQ⟩
  all_goals
    have h1' := h1
    have h2' := h2
    simp only [isPut_no, isPut_yes] at h1' h2'
    have E : Hid (leads s t = (isPut s.put && isPut t.put)) := by unfold leads isPut; rw [if_neg (by omega)]; exact Bool.decide_and _ _
    clear h1' h2'
    go_enter Try.func40, Try.ntmps40
    go_wp2_with (go_at_call 26; refine (puts_gen _ _ _ _).mono ?_; rintro e w1 ⟨rfl, q1⟩; replace hQ := hQ.trans q1; replace X0 := kept_cell X0 q1; replace X1 := kept_cell X1 q1; replace X2 := kept_cell X2 q1; replace Y0 := kept_cell Y0 q1; replace Y1 := kept_cell Y1 q1; replace Y2 := kept_cell Y2 q1; clear q1)
    go_ret
    refine ⟨?_, hQ⟩
    rw [E.out, h1, h2]
    rfl
end Go.Proofs.Ytekdenkllipehaa
