import Derived.Test.YtekdenkllipehaaWrite
import Derived.Test.YtekdenkllipehaaCutM
namespace Go.Proofs.Ytekdenkllipehaa
open Go.RowKit

set_option maxRecDepth 100000 in
set_option maxHeartbeats 800000 in
theorem part_any (s : M.St) (hs : s.Good) (k n : Nat) (hk : k + n ≤ s.size) (w : World) :
    Calls Try.prog 37 #[.agg #[.string s.put, .int .i64 (s.place : Int), .int .i64 (s.size : Int)], .int .i64 (k : Int), .int .i64 (n : Int)] w fun e w' => e = .returned (.agg #[.string (s.part k n).put, .int .i64 ((s.part k n).place : Int), .int .i64 ((s.part k n).size : Int)]) ∧ Q w w' := by
  have hp := hs.pos
  obtain ⟨W0, hW0⟩ : ∃ W0, W0 = (w.alloc (.cells #[.string s.put, .int .i64 (s.place : Int), .int .i64 (s.size : Int)] 53)).alloc (.cells #[.string ⟨#[]⟩, .int .i64 0, .int .i64 0] 53) := ⟨_, rfl⟩
  have hQ : Q w W0 := by rw [hW0]; exact ((Q.refl w).alloc _ _).alloc _ _
  obtain ⟨⟨X0, X1, X2⟩, -⟩ := new3 (w := w) (w2 := W0) (by rw [hW0]; exact (Q.refl _).alloc _ _)
  obtain ⟨⟨Y0, Y1, Y2⟩, ⟨Z0, Z1, Z2⟩⟩ := new3 (w2 := W0) (by rw [hW0]; exact Q.refl _)
  rw [World.size_alloc] at Y0 Y1 Y2 Z0 Z1 Z2
  have hsz : w.heap.size + 1 < W0.heap.size := by rw [hW0]; simp
  have PG : Hid _ := fun (_ : Unit) => puts_gen s.put s.place s.size W0
  rw [hW0] at PG
  cases h0 : isPut s.put with
  | false =>
    have E : Hid (s.part k n = ⟨⟨#[]⟩, s.place + k, n⟩) := by unfold M.St.part; rw [if_pos (isPut_no.1 h0)]; exact rfl
    have TS : Hid _ := takeStep_any ((s.place : Int) + (k : Int)) (n : Int)
    generalize s.part k n = pp at *
    go_enter Try.func37, Try.ntmps37
    go_wp2_with fail
    refine (PG.out ()).mono ?_
    rw [← hW0]
    rintro e w1 ⟨rfl, q1⟩
    have x1 := kept_cell X1 q1
    clear hW0
    go_wp2_with fail
    refine (TS.out _).mono ?_
    rintro e w2 ⟨rfl, q2⟩
    have y0 := kept_cell (kept_cell Y0 q1) q2
    have y1 := kept_cell (kept_cell Y1 q1) q2
    have y2 := kept_cell (kept_cell Y2 q1) q2
    have z0 : w2.frozen? ⟨w.heap.size + 1, 0, none⟩ = false := ((q1.trans q2).below.frozen (p := ⟨w.heap.size + 1, 0, none⟩) hsz).trans Z0
    have z1 : w2.frozen? ⟨w.heap.size + 1, 1, none⟩ = false := ((q1.trans q2).below.frozen (p := ⟨w.heap.size + 1, 1, none⟩) hsz).trans Z1
    have z2 : w2.frozen? ⟨w.heap.size + 1, 2, none⟩ = false := ((q1.trans q2).below.frozen (p := ⟨w.heap.size + 1, 2, none⟩) hsz).trans Z2
    go_wp2_with fail
    obtain ⟨k0, k1, k2⟩ := stored3 y0 y1 y2 (.string ⟨#[]⟩) (.int .i64 ((s.place : Int) + (k : Int))) (.int .i64 (n : Int))
    refine bodyPost_ret (v := .agg #[.string ⟨#[]⟩, .int .i64 ((s.place : Int) + (k : Int)), .int .i64 (n : Int)]) (by simp [results, Try.results37, go_sem, k0, k1, k2]) rfl ?_
    exact ⟨by rw [E.out]; simp, ((hQ.trans q1).trans q2).set3 (by omega) _ _ _⟩
  | true =>
    have hps : s.size = s.put.size := by
      rcases hs with e | e
      · exact absurd e.1 (isPut_yes.1 h0)
      · exact e.2.1
    have E : Hid (s.part k n = ⟨s.put.extract k (k + n), 0, n⟩) := by unfold M.St.part; rw [if_neg (isPut_yes.1 h0)]; exact rfl
    have hcs := cut_str s.put k n (by omega)
    have PS := putStep_any (s.put.extract k (k + n))
    have hz : (s.put.extract k (k + n)).size = n := by simp; omega
    rw [hz] at PS
    have PH : Hid _ := PS
    generalize s.put.extract k (k + n) = piece at *
    generalize s.part k n = pp at *
    clear PS hz hps
    go_enter Try.func37, Try.ntmps37
    go_wp2_with fail
    refine (PG.out ()).mono ?_
    rw [← hW0]
    rintro e w1 ⟨rfl, q1⟩
    have x0 := kept_cell X0 q1
    clear hW0
    go_wp2_with fail
    refine (PH.out _).mono ?_
    rintro e w2 ⟨rfl, q2⟩
    have y0 := kept_cell (kept_cell Y0 q1) q2
    have y1 := kept_cell (kept_cell Y1 q1) q2
    have y2 := kept_cell (kept_cell Y2 q1) q2
    have z0 : w2.frozen? ⟨w.heap.size + 1, 0, none⟩ = false := ((q1.trans q2).below.frozen (p := ⟨w.heap.size + 1, 0, none⟩) hsz).trans Z0
    have z1 : w2.frozen? ⟨w.heap.size + 1, 1, none⟩ = false := ((q1.trans q2).below.frozen (p := ⟨w.heap.size + 1, 1, none⟩) hsz).trans Z1
    have z2 : w2.frozen? ⟨w.heap.size + 1, 2, none⟩ = false := ((q1.trans q2).below.frozen (p := ⟨w.heap.size + 1, 2, none⟩) hsz).trans Z2
    go_wp2_with fail
    obtain ⟨k0, k1, k2⟩ := stored3 y0 y1 y2 (.string piece) (.int .i64 0) (.int .i64 (n : Int))
    refine bodyPost_ret (v := .agg #[.string piece, .int .i64 0, .int .i64 (n : Int)]) (by simp [results, Try.results37, go_sem, k0, k1, k2]) rfl ?_
    exact ⟨by rw [E.out]; simp, ((hQ.trans q1).trans q2).set3 (by omega) _ _ _⟩
end Go.Proofs.Ytekdenkllipehaa
