import Derived.Test.YtekdenkllipehaaSameEnd
namespace Go.Proofs.Ytekdenkllipehaa
open Go.RowKit

set_option maxRecDepth 100000 in
set_option maxHeartbeats 600000 in
theorem worth_any (t : M.St) (hp : t.put = ⟨#[]⟩) (hs : t.size ≤ 4096) (hpl : t.place + t.size ≤ 72057594037927935) (w : World) :
    Calls Try.prog 53 #[.agg #[.string ⟨#[]⟩, .int .i64 (t.place : Int), .int .i64 (t.size : Int)]] w fun e w' => e = .returned (.bool (decide (t.cost + 2 ≤ t.size))) ∧ Q w w' := by
  have hz : t.put.size = 0 := by rw [hp]; rfl
  by_cases h0 : t.size = 0
  · have E : decide (t.cost + 2 ≤ t.size) = false := by simp; omega
    rw [E]
    have hd : decide ((0 : Int) < (t.size : Int)) = false := by simp; omega
    have hd2 : (t.size : Int) = 0 := by omega
    clear E hs hpl
    rw [hd2]
    clear hd hd2
    go_enter Try.func53, Try.ntmps53
    go_wp2_with fail
    go_quiet (fail)
    go_wp2_with fail
    go_ret
    exact ⟨rfl, ((Q.refl w).alloc _ _).drewN _⟩
  · have hg : M.Goods [t] := M.Goods.one (Or.inl ⟨hz, by omega, hs, hpl⟩)
    have hto : M.tot [t] ≤ 4096 := by rw [M.tot_one]; exact hs
    have hh : (M.headOf [t]).length = t.cost := by
      have e : M.headOf [t] = M.enc 7 (2 * M.tot [t] + 1) ++ M.enc 7 t.place := if_pos hz
      rw [e, M.tot_one, List.length_append]
      unfold M.St.cost
      rw [if_pos hz]
    have hsb := steps_built (w.alloc (.cells #[.string ⟨#[]⟩, .int .i64 (t.place : Int), .int .i64 (t.size : Int)] 53)).drew t 53
    rw [hp, show (w.alloc (.cells #[.string ⟨#[]⟩, .int .i64 (t.place : Int), .int .i64 (t.size : Int)] 53)).drew.heap.size = w.heap.size + 1 by simp] at hsb
    have HC : Hid (∀ _ : Unit, Calls Try.prog 41 #[.slice (some ⟨w.heap.size + 1, 0, none⟩) 1 1] ((w.alloc (.cells #[.string ⟨#[]⟩, .int .i64 (t.place : Int), .int .i64 (t.size : Int)] 53)).drew.alloc (.cells #[.string ⟨#[]⟩, .int .i64 (t.place : Int), .int .i64 (t.size : Int)] 53)) fun e w' => e = .returned (.string ⟨(M.headOf [t]).toArray⟩) ∧ Q ((w.alloc (.cells #[.string ⟨#[]⟩, .int .i64 (t.place : Int), .int .i64 (t.size : Int)] 53)).drew.alloc (.cells #[.string ⟨#[]⟩, .int .i64 (t.place : Int), .int .i64 (t.size : Int)] 53)) w') := fun _ => head_any t [] (some ⟨w.heap.size + 1, 0, none⟩) 1 _ hsb hto hg
    clear hsb
    have hcl := M.enc_len t.place
    have hc2 := M.enc_two (n := 2 * t.size + 1) (by omega)
    have hcb : t.cost ≤ 10 := by unfold M.St.cost; rw [if_pos hz]; omega
    have hhs : (⟨(M.headOf [t]).toArray⟩ : ByteArray).size = t.cost := by rw [← hh]; rfl
    have hw1 : IntKind.i64.wrap ((t.cost : Int) + 2) = (t.cost : Int) + 2 := by rw [IntKind.wrap_i64]; omega
    have hle : decide ((t.cost : Int) + 2 ≤ (t.size : Int)) = decide (t.cost + 2 ≤ t.size) := by rw [decide_eq_decide]; omega
    have HLe : Hid _ := hle
    have hd : decide ((0 : Int) < (t.size : Int)) = true := by simp; omega
    have hd2 : (0 : Int) < (t.size : Int) := by omega
    have hd3 : 0 < t.size := by omega
    generalize (⟨(M.headOf [t]).toArray⟩ : ByteArray) = Hd at *
    generalize t.cost = cc at *
    have x2 : (w.alloc (.cells #[.string ⟨#[]⟩, .int .i64 (t.place : Int), .int .i64 (t.size : Int)] 53)).cell? ⟨w.heap.size, 2, none⟩ = some (.int .i64 (t.size : Int)) := by simp
    have x1 : (w.alloc (.cells #[.string ⟨#[]⟩, .int .i64 (t.place : Int), .int .i64 (t.size : Int)] 53)).cell? ⟨w.heap.size, 1, none⟩ = some (.int .i64 (t.place : Int)) := by simp
    have x0 : (w.alloc (.cells #[.string ⟨#[]⟩, .int .i64 (t.place : Int), .int .i64 (t.size : Int)] 53)).cell? ⟨w.heap.size, 0, none⟩ = some (.string ⟨#[]⟩) := by simp
    clear hle hh hg hto hcl hc2
    go_enter Try.func53, Try.ntmps53
    go_upto_region 1 with fail
    go_region_held3 (fun w' => w'.cell? ⟨w.heap.size, 0, none⟩ = some (.string ⟨#[]⟩) ∧ w'.cell? ⟨w.heap.size, 1, none⟩ = some (.int .i64 (t.place : Int)) ∧ w'.cell? ⟨w.heap.size, 2, none⟩ = some (.int .i64 (t.size : Int)))
      (first | exact ⟨x0, x1, x2⟩ | exact hS5 | (exact ⟨kept_cell x0 ((Q.refl _).drew.alloc _ _), kept_cell x1 ((Q.refl _).drew.alloc _ _), kept_cell x2 ((Q.refl _).drew.alloc _ _)⟩))
      (first | (go_at_call 41; refine (HC.out ()).mono ?_; rintro e w5 ⟨rfl, q5⟩; have hS5 : w5.cell? ⟨w.heap.size, 0, none⟩ = some (.string ⟨#[]⟩) ∧ w5.cell? ⟨w.heap.size, 1, none⟩ = some (.int .i64 (t.place : Int)) ∧ w5.cell? ⟨w.heap.size, 2, none⟩ = some (.int .i64 (t.size : Int)) := ⟨kept_cell x0 (((Q.refl _).drew.alloc _ _).trans q5), kept_cell x1 (((Q.refl _).drew.alloc _ _).trans q5), kept_cell x2 (((Q.refl _).drew.alloc _ _).trans q5)⟩))
    go_wp2_with fail
    go_ret
    exact ⟨by rw [← HLe.out]; rfl, (((Q.refl w).alloc _ _).trans ((Q.refl _).drew.alloc _ _)).trans q5⟩
end Go.Proofs.Ytekdenkllipehaa
