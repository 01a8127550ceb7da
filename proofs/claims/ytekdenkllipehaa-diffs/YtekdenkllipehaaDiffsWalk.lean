import Derived.Test.YtekdenkllipehaaKeepBase
namespace Go.Proofs.Ytekdenkllipehaa
open Go.RowKit

set_option maxRecDepth 100000 in
set_option maxHeartbeats 800000 in
theorem diffs_walk (a0 a1 : ByteArray) (h0 : a0.size ≤ 140737488351232) (h1 : a1.size ≤ 140737488351232) (w : World) :
    Calls Try.prog 7 #[.string a0, .string a1] w fun e w' => e = .returned (.bool true) ∧ Q w w' := by
  obtain ⟨b, hb, p1⟩ := cutText_any a0 h0
  obtain ⟨t, ht, p2⟩ := cutText_any a1 h1
  have p3 := diff_any b t hb ht
  have hz := zeros_size 4097
  have p5 := diff_long (zeros 4097) t (by omega) (by omega) (Or.inl (by omega))
  have p6 := diff_long b (zeros 4097) (by omega) (by omega) (Or.inr (by omega))
  have PA : Hid _ := fun (C : ByteArray) (hC : C.size ≤ 140737488351232) => apply_any C b hC (by omega)
  obtain ⟨M0, hmk, hfl⟩ := make_bytes 4097 (by omega)
  rw [show ((4097 : Nat) : Int) = 4097 from rfl] at hmk
  have htx : ∀ (W W' : World), Below (W.alloc (.cells M0 5)).heap.size (W.alloc (.cells M0 5)) W' → (convert 41 9 (.slice (some ⟨W.heap.size, 0, none⟩) 4097 4097)).run Try.prog W' = .ok (.string (zeros 4097)) W' := fun W W' hB => by
    have hF := (hfl W).zeros
    have hF' : Fill W.heap.size 4097 (List.replicate 4097 0) W' := ⟨fun j hj => (hB.cell (p := ⟨W.heap.size, j, none⟩) (by simp)).trans (hF.cell j hj), fun j => (hB.frozen (p := ⟨W.heap.size, j, none⟩) (by simp)).trans (hF.frz j)⟩
    exact hF'.text (by simp)
  have P1 : Hid _ := p1
  have P2 : Hid _ := p2
  have P3 : Hid _ := p3
  have P5 : Hid _ := p5
  have P6 : Hid _ := p6
  have HT : Hid _ := htx
  generalize zeros 4097 = Z at *
  clear p1 p2 p3 p5 p6 htx hfl hz
  by_cases hbt : b = t
  · have hbq : (b.toList == t.toList) = true := by rw [hbt]; simp
    have HBT : Hid (b = t) := hbt
    clear hbt
    go_enter Try.func7, Try.ntmps7
    go_wp2_with fail
    refine (P1.out _).mono ?_
    rintro e w1 ⟨rfl, rfl⟩
    go_wp2_with fail
    refine (P2.out _).mono ?_
    rintro e w2 ⟨rfl, rfl⟩
    go_wp2_with fail
    refine (P3.out _).mono ?_
    rintro e w3 ⟨C, ⟨acc, hC8, hCe, hp, hr, hm⟩, rfl, q3⟩
    have hE := applied_found hp hr hm
    have HE : Hid _ := hE
    have P4 : Hid _ := fun (w : World) => (PA.out C (by omega) w).mono fun e w' h => (by rw [HE.out] at h; exact h : e = .returned (.tuple #[.string t, .int .i64 0]) ∧ Q w w')
    have h8 := hCe HBT.out
    clear hE hp hr hm hCe
    go_wp2_with fail
    refine (P4.out _).mono ?_
    rintro e w4 ⟨rfl, q4⟩
    have hx1 := HT.out w4 _ (Below.refl _ _)
    go_wp2_with fail
    refine (P5.out _).mono ?_
    rintro e w5 ⟨rfl, q5⟩
    have hx2 := HT.out w4 w5 q5.below
    go_wp2_with fail
    refine (P6.out _).mono ?_
    rintro e w6 ⟨rfl, q6⟩
    go_wp2_with fail
    go_ret
    exact ⟨rfl, (((q3.trans q4).alloc _ _).trans q5).trans q6⟩
  · have hbq : (b.toList == t.toList) = false := by
      rw [ByteArray.toList_eq, ByteArray.toList_eq, beq_eq_false_iff_ne]
      exact fun e => hbt (WideShapes.bytes_inj e)
    clear hbt
    go_enter Try.func7, Try.ntmps7
    go_wp2_with fail
    refine (P1.out _).mono ?_
    rintro e w1 ⟨rfl, rfl⟩
    go_wp2_with fail
    refine (P2.out _).mono ?_
    rintro e w2 ⟨rfl, rfl⟩
    go_wp2_with fail
    refine (P3.out _).mono ?_
    rintro e w3 ⟨C, ⟨acc, hC8, hCe, hp, hr, hm⟩, rfl, q3⟩
    have hE := applied_found hp hr hm
    have HE : Hid _ := hE
    have P4 : Hid _ := fun (w : World) => (PA.out C (by omega) w).mono fun e w' h => (by rw [HE.out] at h; exact h : e = .returned (.tuple #[.string t, .int .i64 0]) ∧ Q w w')
    clear hE hp hr hm hCe
    go_wp2_with fail
    refine (P4.out _).mono ?_
    rintro e w4 ⟨rfl, q4⟩
    have hx1 := HT.out w4 _ (Below.refl _ _)
    go_wp2_with fail
    refine (P5.out _).mono ?_
    rintro e w5 ⟨rfl, q5⟩
    have hx2 := HT.out w4 w5 q5.below
    go_wp2_with fail
    refine (P6.out _).mono ?_
    rintro e w6 ⟨rfl, q6⟩
    go_wp2_with fail
    go_ret
    exact ⟨rfl, (((q3.trans q4).alloc _ _).trans q5).trans q6⟩
end Go.Proofs.Ytekdenkllipehaa
