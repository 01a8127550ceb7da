import Derived.Test.YtekdenkllipehaaLead
import Derived.Deep.RegionWith
namespace Go.Proofs.Ytekdenkllipehaa
open Go.RowKit

/-- Two texts in a row that was built. -/
theorem strs_two (w : World) (a b : ByteArray) (t : TypeId) : Strs (w.alloc (.cells #[.string a, .string b] t)) (some ⟨w.heap.size, 0, none⟩) [a, b] := by
  refine Or.inr ⟨w.heap.size, 0, rfl, by simp, fun k s hk => ?_⟩
  match k, hk with
  | 0, hk => simp at hk; subst hk; simp
  | 1, hk => simp at hk; subst hk; simp
  | k + 2, hk => simp at hk

theorem join_two (a b : ByteArray) (cap : Nat) (w : World) (t : TypeId) (ha : a.size ≤ 70000000000000) (hb : b.size ≤ 70000000000000) :
    Calls Try.prog 35 #[.slice (some ⟨w.heap.size, 0, none⟩) 2 cap] (w.alloc (.cells #[.string a, .string b] t)) fun e w' => e = .returned (.string ⟨(a.data.toList ++ b.data.toList).toArray⟩) ∧ Q (w.alloc (.cells #[.string a, .string b] t)) w' := by
  have h := join_any [a, b] (some ⟨w.heap.size, 0, none⟩) cap _ (strs_two w a b t) (by simp [M.cat]; omega) (by simp)
  have e : M.cat [a, b] = a.data.toList ++ b.data.toList := by simp [M.cat]
  rw [e] at h
  exact h

set_option maxRecDepth 100000 in
set_option maxHeartbeats 1600000 in
theorem head_any (s : M.St) (L : List M.St) (ao : Option Addr) (cap : Nat) (w : World) (h : Steps w ao (s :: L)) (hl : M.tot (s :: L) ≤ 4096) (hg : M.Goods (s :: L)) :
    Calls Try.prog 41 #[.slice ao (s :: L).length cap] w fun e w' => e = .returned (.string ⟨(M.headOf (s :: L)).toArray⟩) ∧ Q w w' := by
  obtain ⟨g, o, rfl, hgl, hc⟩ := h.at (k := 0) (by simp)
  obtain ⟨c0, c1, c2⟩ := hc 0 s rfl
  rw [show o + 0 * 3 = o by omega] at c0 c1 c2
  have hpos := (hg s (by simp)).pos
  have MC : Hid _ := fun (_ : Unit) => made_any (s :: L) (some ⟨g, o, none⟩) cap w h hl hg
  have hN : (s :: L).length ≠ 0 := by simp
  have hN2 : (0 : Int) < ((s :: L).length : Int) := by simp
  have hN3 := M.length_le_tot hg
  have E : Hid (M.headOf (s :: L) = if s.put.size = 0 then M.enc 7 (2 * M.tot (s :: L) + 1) ++ M.enc 7 s.place else M.enc 7 (2 * M.tot (s :: L))) := rfl
  generalize M.headOf (s :: L) = H at *
  generalize M.tot (s :: L) = T at *
  generalize (s :: L).length = N at *
  clear h hc hg
  have w1 : IntKind.i64.wrap (2 * (T : Int)) = 2 * (T : Int) := by rw [IntKind.wrap_i64]; omega
  have w2 : IntKind.i64.wrap (2 * (T : Int) + 1) = 2 * (T : Int) + 1 := by rw [IntKind.wrap_i64]; omega
  by_cases h0 : s.put.size = 0
  · have F : Hid (H = M.enc 7 (2 * T + 1) ++ M.enc 7 s.place) := by rw [E.out, if_pos h0]; exact rfl
    have hi : isPut s.put = false := isPut_no.2 h0
    have e1 := M.enc_two (n := 2 * T + 1) (by omega)
    have e2 := M.enc_len s.place
    clear h0
    go_enter Try.func41, Try.ntmps41
    go_wp2_with fail
    refine (MC.out ()).mono ?_
    rintro e v1 ⟨rfl, q1⟩
    have d0 := kept_cell c0 q1
    have d1 := kept_cell c1 q1
    have d2 := kept_cell c2 q1
    go_wp2_with fail
    refine (puts_gen _ _ _ _).mono ?_
    rintro e v2 ⟨rfl, q2⟩
    have f1 := kept_cell d1 q2
    have hQ : Q v2 v2.drew := (Q.refl _).drew
    have hF : v2.drew.cell? ⟨g, o + 1, none⟩ = some (.int .i64 (s.place : Int)) := f1
    have hQ0 := q1.trans q2
    clear q1 q2 d0 d1 d2 c0 c1 c2
    have hn1 : (2 * (T : Int) + 1).toNat = 2 * T + 1 := by omega
    go_wp2_with fail
    go_region_with (first
      | (go_at_call 38; refine (number_int _ ?_ _).mono ?_; omega; rintro e v3 ⟨rfl, q3⟩; replace hQ := hQ.trans q3; replace hF := kept_cell hF q3; clear q3)
      | (go_at_call 35; refine (join_two _ _ _ _ _ ?_ ?_).mono ?_; simp [ByteArray.size]; omega; simp [ByteArray.size]; omega; rintro e v4 ⟨rfl, q4⟩))
    all_goals
      go_wp2_with fail
      go_ret
      refine ⟨?_, hQ0.trans ((hQ.alloc _ _).trans q4)⟩
      rw [F.out]
      rfl
  · have F : Hid (H = M.enc 7 (2 * T)) := by rw [E.out, if_neg h0]; exact rfl
    have hi : isPut s.put = true := isPut_yes.2 h0
    have N1 : Hid _ := number_any (2 * T) (by omega)
    rw [show ((2 * T : Nat) : Int) = 2 * (T : Int) by omega] at N1
    clear h0
    go_enter Try.func41, Try.ntmps41
    go_wp2_with fail
    refine (MC.out ()).mono ?_
    rintro e v1 ⟨rfl, q1⟩
    have d0 := kept_cell c0 q1
    have d1 := kept_cell c1 q1
    have d2 := kept_cell c2 q1
    go_wp2_with fail
    refine (puts_gen _ _ _ _).mono ?_
    rintro e v2 ⟨rfl, q2⟩
    go_wp2_with fail
    refine (N1.out _).mono ?_
    rintro e v3 ⟨rfl, q3⟩
    go_wp2_with fail
    go_ret
    exact ⟨by rw [F.out]; rfl, (q1.trans q2).trans q3⟩
end Go.Proofs.Ytekdenkllipehaa
