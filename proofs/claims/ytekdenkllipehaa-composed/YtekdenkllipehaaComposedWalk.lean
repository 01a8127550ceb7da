import Derived.Test.YtekdenkllipehaaKeepBase
import Derived.Test.YtekdenkllipehaaCompose2
namespace Go.Proofs.Ytekdenkllipehaa
open Go.RowKit

set_option maxRecDepth 100000 in
set_option maxHeartbeats 800000 in
theorem composed_walk (a0 a1 a2 : ByteArray) (h0 : a0.size ≤ 140737488351232) (h1 : a1.size ≤ 140737488351232) (h2 : a2.size ≤ 140737488351232) (w : World) :
    Calls Try.prog 8 #[.string a0, .string a1, .string a2] w fun e w' => e = .returned (.bool true) ∧ Q w w' := by
  obtain ⟨a, ha, p1⟩ := cutText_any a0 h0
  obtain ⟨b, hb, p2⟩ := cutText_any a1 h1
  obtain ⟨c, hc, p3⟩ := cutText_any a2 h2
  have p4 := diff_any a b ha hb
  have p5 := diff_any b c hb hc
  have PC : Hid _ := fun (X Y : ByteArray) (hX : X.size ≤ 140737488351232) (hY : Y.size ≤ 140737488351232) => compose_yes X Y hX hY
  have PA : Hid _ := fun (C : ByteArray) (hC : C.size ≤ 140737488351232) => apply_any C a hC (by omega)
  have P1 : Hid _ := p1
  have P2 : Hid _ := p2
  have P3 : Hid _ := p3
  have P4 : Hid _ := p4
  have P5 : Hid _ := p5
  clear p1 p2 p3 p4 p5
  go_enter Try.func8, Try.ntmps8
  go_wp2_with fail
  refine (P1.out _).mono ?_
  rintro e w1 ⟨rfl, rfl⟩
  go_wp2_with fail
  refine (P2.out _).mono ?_
  rintro e w2 ⟨rfl, rfl⟩
  go_wp2_with fail
  refine (P3.out _).mono ?_
  rintro e w3 ⟨rfl, rfl⟩
  go_wp2_with fail
  refine (P4.out _).mono ?_
  rintro e w4 ⟨X, ⟨ax, hX8, -, hXp, hXr, hXm⟩, rfl, q4⟩
  go_wp2_with fail
  refine (P5.out _).mono ?_
  rintro e w5 ⟨Y, ⟨ay, hY8, -, hYp, hYr, hYm⟩, rfl, q5⟩
  have hlx := (M.parse_bound hXp).1
  have P6 : Hid _ := PC.out X Y (by omega) (by omega) b.size c.size ax ay hXp hYp hYr
  have hZr : M.reach (M.subst ax ay) ≤ a.size := Nat.le_trans (M.reach_subst ax ay (by omega)) hXr
  have hZm : M.made (M.subst ax ay) a.data.toList = c.data.toList := by rw [M.made_subst ax ay _ (by omega), hXm, hYm]
  have HZ : Hid _ := fun (Z : ByteArray) (hZp : M.parse Z.data.toList = some (c.size, M.subst ax ay)) => applied_found (b := a) (t := c) hZp hZr hZm
  clear hXp hXr hXm hYp hYr hYm hZr hZm hlx
  go_wp2_with fail
  refine (P6.out _).mono ?_
  rintro e w6 ⟨Z, ⟨hZs, hZp⟩, rfl, q6⟩
  have hE := HZ.out Z hZp
  have HE : Hid _ := hE
  have P7 : Hid _ := fun (w : World) => (PA.out Z hZs w).mono fun e w' h => (by rw [HE.out] at h; exact h : e = .returned (.tuple #[.string c, .int .i64 0]) ∧ Q w w')
  clear hE hZp
  go_wp2_with fail
  refine (P7.out _).mono ?_
  rintro e w7 ⟨rfl, q7⟩
  go_wp2_with fail
  go_ret
  exact ⟨rfl, ((q4.trans q5).trans q6).trans q7⟩
end Go.Proofs.Ytekdenkllipehaa
