import Derived.Test.YtekdenkllipehaaDoorRecMem
import Derived.Test.YtekdenkllipehaaDoorTRead
import Derived.Test.YtekdenkllipehaaDoorOwn
import Derived.Deep.RegionHeld3
import Derived.Deep.DeepCutAuto
/-
  The landed block's reader: a record.
-/
namespace Go.Proofs.YtekdenkllipehaaDoor
open Go.RowKit

set_option maxRecDepth 100000 in
set_option maxHeartbeats 1600000 in
theorem record_any (s : ByteArray) (hs : s.size ≤ 140737488351232) (ah : ByteArray) (hah : ah.size ≤ 140737488351232) (a C : Nat) (ha : a ≤ s.size) (w : World) (hA : RdIn w C s a) :
    Calls Tryd.prog 42 #[.pointer (some ⟨C, 0, none⟩), .string ah] w fun e w' => e = .returned (recTo s.data.toList ah.data.toList a).1.val ∧ RdIn w' C s (recTo s.data.toList ah.data.toList a).2 ∧ w.grownBy w' (some C) := by
  have hlen : s.data.toList.length = s.size := by simp
  have hal : ah.data.toList.length = ah.size := by simp
  have hTl : a ≤ s.data.toList.length := by omega
  obtain ⟨⟨k, a1⟩, h1⟩ : ∃ p, p = numTo s.data.toList ah.data.toList.length a := ⟨_, rfl⟩
  have l1 := numTo_le (T := s.data.toList) (most := ah.data.toList.length) hTl
  rw [← h1] at l1
  obtain ⟨⟨m, a2⟩, h2⟩ : ∃ p, p = numTo s.data.toList 64 a1 := ⟨_, rfl⟩
  have l2 := numTo_le (T := s.data.toList) (most := 64) l1.1
  rw [← h2] at l2
  obtain ⟨⟨t, a3⟩, h3⟩ : ∃ p, p = bytTo s.data.toList m a2 := ⟨_, rfl⟩
  have l3 := bytTo_le (T := s.data.toList) (n := m) l2.1
  rw [← h3] at l3
  obtain ⟨⟨st, a4⟩, h4⟩ : ∃ p, p = numTo s.data.toList 1099511627776 a3 := ⟨_, rfl⟩
  have l4 := numTo_le (T := s.data.toList) (most := 1099511627776) l3.1
  rw [← h4] at l4
  obtain ⟨⟨kd, a5⟩, h5⟩ : ∃ p, p = numTo s.data.toList 2 a4 := ⟨_, rfl⟩
  have l5 := numTo_le (T := s.data.toList) (most := 2) l4.1
  rw [← h5] at l5
  obtain ⟨⟨z, a6⟩, h6⟩ : ∃ p, p = numTo s.data.toList 4200 a5 := ⟨_, rfl⟩
  have l6 := numTo_le (T := s.data.toList) (most := 4200) l5.1
  rw [← h6] at l6
  obtain ⟨⟨bd, a7⟩, h7⟩ : ∃ p, p = bytTo s.data.toList z a6 := ⟨_, rfl⟩
  have N1 : Hid _ := rdNumIn s hs a C ah.data.toList.length
  have N2 : Hid _ := rdNumIn s hs a1 C 64
  have X3 : Hid _ := rdTxtIn s hs a2 C m l2.2.2 (by rw [← hlen]; exact l2.1)
  have N4 : Hid _ := rdNumIn s hs a3 C 1099511627776
  have N5 : Hid _ := rdNumIn s hs a4 C 2
  have N6 : Hid _ := rdNumIn s hs a5 C 4200
  have X7 : Hid _ := rdTxtIn s hs a6 C z l6.2.2 (by rw [← hlen]; exact l6.1)
  rw [← h1, hal] at N1
  rw [← h2] at N2
  rw [← h3] at X3
  rw [← h4] at N4
  rw [← h5] at N5
  rw [← h6] at N6
  rw [← h7] at X7
  have E : recTo s.data.toList ah.data.toList a = (⟨⟨(ah.data.toList.take k ++ t).toArray⟩, (st : Int), (kd : Int), ⟨bd.toArray⟩⟩, a7) := by
    unfold recTo
    simp only [← h1]
    simp only [← h2]
    simp only [← h3]
    simp only [← h4]
    simp only [← h5]
    simp only [← h6]
    simp only [← h7]
  rw [E]
  have hk : k ≤ ah.size := by rw [← hal]; exact l1.2.1
  have ht : t.length ≤ 64 := by have := l3.2; have := l2.2.1; simp only at *; omega
  have hkey : ah.extract 0 k ++ ⟨t.toArray⟩ = (⟨(ah.data.toList.take k ++ t).toArray⟩ : ByteArray) := by
    apply ByteArray.ext
    apply Array.toList_inj.1
    simp
  simp only [Rec.val]
  rw [← hkey]
  have hts : (⟨t.toArray⟩ : ByteArray).size = t.length := rfl
  have hadd : ∀ W, (Op.stringOp .add (ah.extract 0 k) ⟨t.toArray⟩).run Tryd.prog W = .ok (.string (ah.extract 0 k ++ ⟨t.toArray⟩)) W := fun W => run_string_add_sum W _ _ (by rw [hts]; simp; omega)
  generalize (⟨t.toArray⟩ : ByteArray) = tx at *
  generalize (⟨bd.toArray⟩ : ByteArray) = bx at *
  obtain ⟨key, hke⟩ : ∃ key, key = ah.extract 0 k ++ tx := ⟨_, rfl⟩
  rw [← hke] at hadd ⊢
  have hC := hA.top
  have hA0 := hA.kept ((Q.refl w).alloc #[.string ⟨#[]⟩, .int .i64 0, .int .i64 0, .string ⟨#[]⟩] 30)
  have hV0 := var4_new w (.string ⟨#[]⟩) (.int .i64 0) (.int .i64 0) (.string ⟨#[]⟩) 30
  have hCR : (some C : Option Nat) ≠ some w.heap.size := by simp; omega
  have hkI : (k : Int) ≤ (ah.size : Int) := by omega
  clear h1 h2 h3 h4 h5 h6 h7 l1 l2 l3 l4 l5 l6 E hTl hts hkey hke hA ht
  go_enter Tryd.func42, Tryd.ntmps42
  go_wp2_with fail
  refine (N1.out _ hA0).mono ?_
  rintro e w1 ⟨rfl, hA1', g1⟩
  have hV1 := hV0.grown g1 hCR
  have hA1 := hA1'.kept (Q.refl _).drew
  go_upto_region 2 with fail
  refine wp_region_held_drew (S := fun _ => True) (by kernel_rfl) trivial (fun hHeld => ?_)
  refine wpAnyH_take (i := 0) (v := ?_) rfl (by kernel_rfl) (by kernel_rfl) (by kernel_rfl) (fun _ _ _ h => h) (Or.inl ⟨by kernel_rfl, ?_⟩) hHeld ?_
  rotate_left
  · (intro w hSw; (try dsimp only at hSw); go_simp; try with_reducible rfl)
  try simp only [Act.put, List.getElem_toArray, List.getElem_cons_zero, List.setIfInBounds_toArray, List.set_cons_succ, List.set_cons_zero]
  refine wpAnyH_take (i := 1) (v := ?_) rfl (by kernel_rfl) (by kernel_rfl) (by kernel_rfl) (fun _ _ _ h => h) (Or.inl ⟨by kernel_rfl, ?_⟩) hHeld ?_
  rotate_left
  · (intro w hSw; (try dsimp only at hSw); go_simp; try with_reducible rfl)
  try simp only [Act.put, List.getElem_toArray, List.getElem_cons_succ, List.getElem_cons_zero, List.setIfInBounds_toArray, List.set_cons_succ, List.set_cons_zero]
  refine wpAnyH_take (i := 2) (v := ?_) rfl (by kernel_rfl) (by kernel_rfl) (by kernel_rfl) (fun _ _ _ h => h) (Or.inl ⟨by kernel_rfl, ?_⟩) hHeld ?_
  rotate_left
  · (intro w hSw; (try dsimp only at hSw); go_simp; try with_reducible rfl)
  try simp only [Act.put, List.getElem_toArray, List.getElem_cons_succ, List.getElem_cons_zero, List.setIfInBounds_toArray, List.set_cons_succ, List.set_cons_zero]
  refine wpAnyH_take (i := 3) (v := ?_) rfl (by kernel_rfl) (by kernel_rfl) (by kernel_rfl) (fun _ _ _ h => h) (Or.inl ⟨by kernel_rfl, ?_⟩) hHeld ?_
  rotate_left
  · (intro w hSw; (try dsimp only at hSw); go_simp; try with_reducible rfl)
  try simp only [Act.put, List.getElem_toArray, List.getElem_cons_succ, List.getElem_cons_zero, List.setIfInBounds_toArray, List.set_cons_succ, List.set_cons_zero]
  refine wpAnyH_take (i := 4) (v := ?_) rfl (by kernel_rfl) (by kernel_rfl) (by kernel_rfl) (fun _ _ _ h => h) (Or.inl ⟨by kernel_rfl, ?_⟩) hHeld ?_
  rotate_left
  · (intro w hSw; (try dsimp only at hSw); go_simp; try with_reducible rfl)
  try simp only [Act.put, List.getElem_toArray, List.getElem_cons_succ, List.getElem_cons_zero, List.setIfInBounds_toArray, List.set_cons_succ, List.set_cons_zero]
  refine wpAnyH_take (i := 8) (v := ?_) rfl (by kernel_rfl) (by kernel_rfl) (by kernel_rfl) (fun _ _ _ h => h) (Or.inl ⟨by kernel_rfl, ?_⟩) hHeld ?_
  rotate_left
  · (intro w hSw; (try dsimp only at hSw); go_simp; try with_reducible rfl)
  try simp only [Act.put, List.getElem_toArray, List.getElem_cons_succ, List.getElem_cons_zero, List.setIfInBounds_toArray, List.set_cons_succ, List.set_cons_zero]
  refine wpAnyH_take (i := 10) (v := ?_) rfl (by kernel_rfl) (by kernel_rfl) (by kernel_rfl) (fun _ _ _ h => h) (Or.inl ⟨by kernel_rfl, ?_⟩) hHeld ?_
  rotate_left
  · (intro w hSw; (try dsimp only at hSw); go_simp; try with_reducible rfl)
  try simp only [Act.put, List.getElem_toArray, List.getElem_cons_succ, List.getElem_cons_zero, List.setIfInBounds_toArray, List.set_cons_succ, List.set_cons_zero]
  refine wpAnyH_take (i := 12) (v := ?_) rfl (by kernel_rfl) (by kernel_rfl) (by kernel_rfl) (fun _ _ _ h => h) (Or.inl ⟨by kernel_rfl, ?_⟩) hHeld ?_
  rotate_left
  · (intro w hSw; (try dsimp only at hSw); go_simp; try with_reducible rfl)
  try simp only [Act.put, List.getElem_toArray, List.getElem_cons_succ, List.getElem_cons_zero, List.setIfInBounds_toArray, List.set_cons_succ, List.set_cons_zero]
  refine wpAnyH_take (i := 13) (v := ?_) rfl (by kernel_rfl) (by kernel_rfl) (by kernel_rfl) (fun _ _ _ h => h) (Or.inl ⟨by kernel_rfl, ?_⟩) hHeld ?_
  rotate_left
  · (intro w hSw; (try dsimp only at hSw); go_simp; try with_reducible rfl)
  try simp only [Act.put, List.getElem_toArray, List.getElem_cons_succ, List.getElem_cons_zero, List.setIfInBounds_toArray, List.set_cons_succ, List.set_cons_zero]
  refine wpAnyH_ready (rs := [5]) (by kernel_rfl) (by simp) ?_
  refine AllReadyH.cons rfl (fun K hK => ?_) AllReadyH.nil
  go_simp
  refine (N2.out _ hA1).mono ?_
  rintro e w2 ⟨rfl, hA2, g2⟩
  try go_wp2_with fail
  refine hK.out _ _ trivial (fun hHeld0 => ?_)
  clear hK K hHeld
  have hHeld := hHeld0
  clear hHeld0
  try simp only [Act.put, List.getElem_toArray, List.getElem_cons_succ, List.getElem_cons_zero, List.setIfInBounds_toArray, List.set_cons_succ, List.set_cons_zero]
  refine wpAnyH_ready (rs := [6]) (by kernel_rfl) (by simp) ?_
  refine AllReadyH.cons rfl (fun K hK => ?_) AllReadyH.nil
  go_simp
  refine (X3.out _ hA2).mono ?_
  rintro e w3 ⟨rfl, hA3, g3⟩
  try go_wp2_with fail
  refine hK.out _ _ trivial (fun hHeld0 => ?_)
  clear hK K hHeld
  have hHeld := hHeld0
  clear hHeld0
  try simp only [Act.put, List.getElem_toArray, List.getElem_cons_succ, List.getElem_cons_zero, List.setIfInBounds_toArray, List.set_cons_succ, List.set_cons_zero]
  refine wpAnyH_take (i := 7) (v := ?_) rfl (by kernel_rfl) (by kernel_rfl) (by kernel_rfl) (fun _ _ _ h => h) (Or.inl ⟨by kernel_rfl, ?_⟩) hHeld ?_
  rotate_left
  · (intro w hSw; (try dsimp only at hSw); go_simp; try with_reducible rfl)
  try simp only [Act.put, List.getElem_toArray, List.getElem_cons_succ, List.getElem_cons_zero, List.setIfInBounds_toArray, List.set_cons_succ, List.set_cons_zero]
  refine wpAnyH_ready (rs := [9]) (by kernel_rfl) (by simp) ?_
  refine AllReadyH.cons rfl (fun K hK => ?_) AllReadyH.nil
  go_simp
  refine (N4.out _ hA3).mono ?_
  rintro e w4 ⟨rfl, hA4, g4⟩
  try go_wp2_with fail
  refine hK.out _ _ trivial (fun hHeld0 => ?_)
  clear hK K hHeld
  have hHeld := hHeld0
  clear hHeld0
  try simp only [Act.put, List.getElem_toArray, List.getElem_cons_succ, List.getElem_cons_zero, List.setIfInBounds_toArray, List.set_cons_succ, List.set_cons_zero]
  refine wpAnyH_ready (rs := [11]) (by kernel_rfl) (by simp) ?_
  refine AllReadyH.cons rfl (fun K hK => ?_) AllReadyH.nil
  go_simp
  refine (N5.out _ hA4).mono ?_
  rintro e w5 ⟨rfl, hA5, g5⟩
  try go_wp2_with fail
  refine hK.out _ _ trivial (fun hHeld0 => ?_)
  clear hK K hHeld
  have hHeld := hHeld0
  clear hHeld0
  try simp only [Act.put, List.getElem_toArray, List.getElem_cons_succ, List.getElem_cons_zero, List.setIfInBounds_toArray, List.set_cons_succ, List.set_cons_zero]
  refine wpAnyH_ready (rs := [14]) (by kernel_rfl) (by simp) ?_
  refine AllReadyH.cons rfl (fun K hK => ?_) AllReadyH.nil
  go_simp
  refine (N6.out _ hA5).mono ?_
  rintro e w6 ⟨rfl, hA6, g6⟩
  try go_wp2_with fail
  refine hK.out _ _ trivial (fun hHeld0 => ?_)
  clear hK K hHeld
  have hHeld := hHeld0
  clear hHeld0
  try simp only [Act.put, List.getElem_toArray, List.getElem_cons_succ, List.getElem_cons_zero, List.setIfInBounds_toArray, List.set_cons_succ, List.set_cons_zero]
  refine wpAnyH_ready (rs := [15]) (by kernel_rfl) (by simp) ?_
  refine AllReadyH.cons rfl (fun K hK => ?_) AllReadyH.nil
  go_simp
  refine (X7.out _ hA6).mono ?_
  rintro e w7 ⟨rfl, hA7, g7⟩
  try go_wp2_with fail
  refine hK.out _ _ trivial (fun hHeld0 => ?_)
  clear hK K hHeld
  have hHeld := hHeld0
  clear hHeld0
  try simp only [Act.put, List.getElem_toArray, List.getElem_cons_succ, List.getElem_cons_zero, List.setIfInBounds_toArray, List.set_cons_succ, List.set_cons_zero]
  refine wpAnyH_take (i := 16) (v := ?_) rfl (by kernel_rfl) (by kernel_rfl) (by kernel_rfl) (fun _ _ _ h => h) (Or.inl ⟨by kernel_rfl, ?_⟩) hHeld ?_
  rotate_left
  · (intro w hSw; (try dsimp only at hSw); go_simp; try with_reducible rfl)
  try simp only [Act.put, List.getElem_toArray, List.getElem_cons_succ, List.getElem_cons_zero, List.setIfInBounds_toArray, List.set_cons_succ, List.set_cons_zero]
  have hV := (((((hV1.grown (grown_drew g2) hCR).grown g3 hCR).grown g4 hCR).grown g5 hCR).grown g6 hCR).grown g7 hCR
  have r0 := hV.c0
  have r1 := hV.c1
  have r2 := hV.c2
  have r3 := hV.c3
  have r4 := hV.fr 0
  have r5 := hV.fr 1
  have r6 := hV.fr 2
  have r7 := hV.fr 3
  refine wpAnyH_ready (rs := [17]) (by kernel_rfl) (by simp) ?_
  refine AllReadyH.cons rfl (fun K hK => ?_) AllReadyH.nil
  go_simp
  have hVs := hV.set (.string key) (.int .i64 (st : Int)) (.int .i64 (kd : Int)) (.string bx)
  have hgs := set4_grown w7 w.heap.size (.string key) (.int .i64 (st : Int)) (.int .i64 (kd : Int)) (.string bx)
  generalize ((((w7.setCell ⟨w.heap.size, 0, none⟩ (.string key)).setCell ⟨w.heap.size, 1, none⟩ (.int .i64 (st : Int))).setCell ⟨w.heap.size, 2, none⟩ (.int .i64 (kd : Int))).setCell ⟨w.heap.size, 3, none⟩ (.string bx)) = wz at *
  refine hK.out _ _ trivial (fun hHeld0 => ?_)
  clear hK K hHeld hHeld0
  refine wpAnyH_done (by kernel_rfl) ?_ _
  have y0 := hVs.c0
  have y1 := hVs.c1
  have y2 := hVs.c2
  have y3 := hVs.c3
  go_wp2_with fail
  refine bodyPost_ret (v := .agg #[.string key, .int .i64 (st : Int), .int .i64 (kd : Int), .string bx]) (by simp [results, Tryd.results42, go_sem, y0, y1, y2, y3]) rfl ?_
  refine ⟨rfl, hA7.grown hgs (by simp; omega), ?_⟩
  have G := grown_trans (grown_trans (grown_trans (grown_trans (grown_trans (grown_trans g1 (grown_drew g2)) g3) g4) g5) g6) g7
  refine ⟨hgs.os.trans G.os, hgs.tape.trans G.tape, hgs.output.trans G.output, ?_, fun b hb hne => ?_⟩
  · have h1 := G.size
    have h2 := hgs.size
    simp at h1
    omega
  · have h1 := G.size
    simp at h1
    exact (hgs.block b (by omega) (by simp; omega)).trans ((G.block b (by simp; omega) hne).trans (heap_alloc_old w _ hb))
end Go.Proofs.YtekdenkllipehaaDoor
