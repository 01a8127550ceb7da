/-
  The law on blocks: the walk.
-/
import Derived.Test.YtekdenkllipehaaDoorBlocksM
import Derived.Test.YtekdenkllipehaaDoorBlkAll
namespace Go.Proofs.YtekdenkllipehaaDoor
open Go.RowKit

set_option maxRecDepth 100000 in
set_option maxHeartbeats 1600000 in
theorem blocks_walk (rs : List Rec) (ao : Option Addr) (cap : Nat) (s : ByteArray) (w : World) (hR : Rcs w ao rs) (hwf : ∀ r ∈ rs, r.Wf) (hlen : rs.length * 48 ≤ 140737488351232) (hs : s.size ≤ 140737488351232) (hT : Tab w) :
    Calls Tryd.prog 4 #[.slice ao rs.length cap, .string s] w fun e w' => e = .returned (.bool true) ∧ Q w w' := by
  obtain ⟨x, c, hbf⟩ := built_form (plainText rs)
  obtain ⟨L, ec, hL64, hPS⟩ := parsed_same s
  have HB1 : Hid _ := fun g W (h : Rcs W (some ⟨g, 0, none⟩) rs) (hT : Tab W) => build_any rs (some ⟨g, 0, none⟩) (rs.length + 1) W h (by omega) hT
  have HB2 : Hid _ := fun W (h : Rcs W ao rs) => refBuild_arg rs ao cap W h hwf (by omega)
  have HSame : Hid _ := sameRecords_yes
  have HAll : Hid _ := all_yes
  have HBad : Hid _ := bad_any
  have HP1 : Hid _ := fun W (hT : Tab W) => (parse_any s hs W hT).mono (fun e w' h => (⟨hPS W e w' h.1, h.2⟩ : _ ∧ _))
  have HP2 : Hid _ := fun W => (refParse_any s hs W).mono (fun e w' h => (⟨hPS W e w' h.1, h.2⟩ : _ ∧ _))
  rw [hbf] at HB1 HB2
  obtain ⟨i0, hi, hz0, hz1, hz2⟩ := info_parts infoRecord
  obtain ⟨w1, hmk, hown1, hgr1⟩ := run_make_full (P := Tryd.prog) w w.heap.size 28 30 i0 (.agg #[.string ⟨#[]⟩, .int .i64 0, .int .i64 0, .string ⟨#[]⟩]) 4 Tryd.underlying28 hi hz0 hz1 .i64 .i64 (rs.length + 1) (by rw [hz2]; omega) (by unfold maxLen; omega) (Nat.le_refl _)
  have hmk2 : (Instr.makeSlice 28 (.int .i64 ((rs.length : Int) + 1)) (.int .i64 ((rs.length : Int) + 1))).run Tryd.prog w = .ok (.slice (some ⟨w.heap.size, 0, none⟩) (rs.length + 1) (rs.length + 1)) w1 := by
    have := hmk
    push_cast at this
    exact this
  have hq1 : Q w w1 := ⟨⟨hgr1.os, hgr1.tape, hgr1.output, hgr1.size, fun k hk => hgr1.block k hk (by simp)⟩⟩
  have hR1 := hR.kept hq1
  have hwl : IntKind.i64.wrap ((rs.length : Int) + 1) = (rs.length : Int) + 1 := by rw [IntKind.wrap_i64]; omega
  obtain ⟨w2, hcp, hown2, hgr2⟩ := run_copy_recs w1 3 w.heap.size w.heap.size rs ao cap _ hown1 hR1
  have hq2 : Q w w2 := ⟨hq1.below.grown hgr2 hgr1.size (by simp)⟩
  have hy : ((madeCells (Value.agg #[.string ⟨#[]⟩, .int .i64 0, .int .i64 0, .string ⟨#[]⟩]).cells ((rs.length + 1) * 4)).toList.drop (rs.length * 4)).length = 4 := by simp [size_madeCells]; omega
  have hOS := fun W (q : Q w2 W) (r : Rec) => oat_stored hy (own_below hown2 q.below) r
  have HOS : Hid _ := hOS
  have hg2 : w.heap.size < w2.heap.size := (hown2.lt w.heap.size rfl).2
  have hfr := fun W (q : Q w2 W) j => (own_below hown2 q.below).frozenAt j
  have hcl2 := fun W (q : Q w2 W) j (hj : j < (rs.length + 1) * 4) => (own_below hown2 q.below).cellAt j hj
  have hbd0 := HBad.out 0 (by omega)
  simp only [Rec.val] at hbd0
  have HB0 : Hid _ := hbd0
  generalize hbr : badRec 0 = b0 at *
  clear hmk hbf hPS hown1 hR1 hgr1 hgr2 hbd0 hOS
  go_enter Tryd.func4, Tryd.ntmps4
  go_wp2_with fail
  refine (HB0.out _).mono ?_
  rintro e w3 ⟨rfl, q3⟩
  have hO := HOS.out w3 q3 b0
  have hf := hfr w3 q3
  have hc := hcl2 w3 q3
  have f0 := hf (rs.length * 4)
  have f1 := hf (rs.length * 4 + 1)
  have f2 := hf (rs.length * 4 + 2)
  have f3 := hf (rs.length * 4 + 3)
  obtain ⟨u0, k0⟩ : ∃ u, w3.cell? ⟨w.heap.size, rs.length * 4, none⟩ = some u := by rw [hc _ (by omega)]; exact ⟨_, List.getElem?_eq_getElem (by have := hown2.1; omega)⟩
  obtain ⟨u1, k1⟩ : ∃ u, w3.cell? ⟨w.heap.size, rs.length * 4 + 1, none⟩ = some u := by rw [hc _ (by omega)]; exact ⟨_, List.getElem?_eq_getElem (by have := hown2.1; omega)⟩
  obtain ⟨u2, k2⟩ : ∃ u, w3.cell? ⟨w.heap.size, rs.length * 4 + 2, none⟩ = some u := by rw [hc _ (by omega)]; exact ⟨_, List.getElem?_eq_getElem (by have := hown2.1; omega)⟩
  obtain ⟨u3, k3⟩ : ∃ u, w3.cell? ⟨w.heap.size, rs.length * 4 + 3, none⟩ = some u := by rw [hc _ (by omega)]; exact ⟨_, List.getElem?_eq_getElem (by have := hown2.1; omega)⟩
  have hq3 : Q w w3 := hq2.trans q3
  clear hf hc hfr hcl2 hown2 HOS
  go_upto_region 4 with fail
  have hg4 : w3.grownBy ((((w3.setCell ⟨w.heap.size, rs.length * 4, none⟩ (.string b0.key)).setCell ⟨w.heap.size, rs.length * 4 + 1, none⟩ (.int .i64 b0.stamp)).setCell ⟨w.heap.size, rs.length * 4 + 2, none⟩ (.int .i64 b0.kind)).setCell ⟨w.heap.size, rs.length * 4 + 3, none⟩ (.string b0.body)) (some w.heap.size) := grown_set (grown_set (grown_set (set_grown w3 w.heap.size (rs.length * 4) (.string b0.key)) _) _) _
  generalize ((((w3.setCell ⟨w.heap.size, rs.length * 4, none⟩ (.string b0.key)).setCell ⟨w.heap.size, rs.length * 4 + 1, none⟩ (.int .i64 b0.stamp)).setCell ⟨w.heap.size, rs.length * 4 + 2, none⟩ (.int .i64 b0.kind)).setCell ⟨w.heap.size, rs.length * 4 + 3, none⟩ (.string b0.body)) = w4 at *
  have hq4 : Q w w4 := ⟨hq3.below.grown hg4 hq3.below.size (by simp)⟩
  clear f0 f1 f2 f3 k0 k1 k2 k3 hg4 hq3 q3 hq2 hq1 hmk2 hcp hg2
  have hct : Nat.min rs.length (rs.length + 1) = rs.length := Nat.min_eq_left (by omega)
  have hbl : (rs.length : Int) ≤ (rs.length : Int) + 1 := by omega
  go_wp2_with fail
  refine (HB1.out _ w4 hO.rcs (tab_kept hT hq4)).mono ?_
  rintro e w5 ⟨rfl, q5⟩
  have hO5 := hO.kept q5
  have hq5 := hq4.trans q5
  clear hO hq4 q5
  go_wp2_with fail
  refine (HB2.out w5 (hR.kept hq5)).mono ?_
  rintro e w6 ⟨rfl, q6⟩
  have hO6 := hO5.kept q6
  have hq6 := hq5.trans q6
  clear hO5 hq5 q6
  go_wp2_with fail
  refine (HSame.out rs (some ⟨w.heap.size, 0, none⟩) ao (rs.length + 1) cap w6 hO6.rcs (hR.kept hq6) (by omega)).mono ?_
  rintro e w7 ⟨rfl, q7⟩
  have hO7 := hO6.kept q7
  have hq7 := hq6.trans q7
  clear hO6 hq6 q7
  go_upto_region 7 with fail
  have k0 := hO7.c0
  have k1 := hO7.c1
  have k2 := hO7.c2
  have k3 := hO7.c3
  have j1 : (rs.length : Int) < (rs.length : Int) + 1 := by omega
  go_cut [74] (fun y wx => y = .bool false ∧ Q w7 wx)
  case first =>
    refine wp_region_held_drew (S := fun w' => Q w7 w' ∧ w'.cell? ⟨w.heap.size, rs.length * 4, none⟩ = some (.string b0.key) ∧ w'.cell? ⟨w.heap.size, rs.length * 4 + 1, none⟩ = some (.int .i64 b0.stamp) ∧ w'.cell? ⟨w.heap.size, rs.length * 4 + 2, none⟩ = some (.int .i64 b0.kind) ∧ w'.cell? ⟨w.heap.size, rs.length * 4 + 3, none⟩ = some (.string b0.body)) (by kernel_rfl) ⟨(Q.refl _).drew, k0, k1, k2, k3⟩ (fun hHeld => ?_)
    refine wpAnyH_take (i := 0) (v := ?_) rfl (by kernel_rfl) (by kernel_rfl) (by kernel_rfl) (fun _ _ _ h => h) (Or.inl ⟨by kernel_rfl, ?_⟩) hHeld ?_
    rotate_left
    · (intro w hSw; (try dsimp only at hSw); go_simp; try with_reducible rfl)
    try simp only [Act.put, List.getElem_toArray, List.getElem_cons_zero, List.setIfInBounds_toArray, List.set_cons_succ, List.set_cons_zero]
    refine wpAnyH_take (i := 1) (v := ?_) rfl (by kernel_rfl) (by kernel_rfl) (by kernel_rfl) (fun _ _ _ h => h) (Or.inl ⟨by kernel_rfl, ?_⟩) hHeld ?_
    rotate_left
    · (intro w hSw; (try dsimp only at hSw); go_simp; try with_reducible rfl)
    try simp only [Act.put, List.getElem_toArray, List.getElem_cons_succ, List.getElem_cons_zero, List.setIfInBounds_toArray, List.set_cons_succ, List.set_cons_zero]
    refine wpAnyH_take (i := 2) (v := ?_) rfl (by kernel_rfl) (by kernel_rfl) (by kernel_rfl) (fun _ _ _ h => h) (Or.inl ⟨by kernel_rfl, ?_⟩) hHeld ?_
    rotate_left
    · (intro w hSw; (try dsimp only at hSw); go_simp; try with_reducible rfl)
    try simp only [Act.put, List.getElem_toArray, List.getElem_cons_succ, List.getElem_cons_zero, List.setIfInBounds_toArray, List.set_cons_succ, List.set_cons_zero]
    refine wpAnyH_take (i := 3) (v := ?_) rfl (by kernel_rfl) (by kernel_rfl) (by kernel_rfl) (fun _ _ _ h => h) (Or.inl ⟨by kernel_rfl, ?_⟩) hHeld ?_
    rotate_left
    · (intro w hSw; (try dsimp only at hSw); go_simp; try with_reducible rfl)
    try simp only [Act.put, List.getElem_toArray, List.getElem_cons_succ, List.getElem_cons_zero, List.setIfInBounds_toArray, List.set_cons_succ, List.set_cons_zero]
    refine wpAnyH_take (i := 4) (v := ?_) rfl (by kernel_rfl) (by kernel_rfl) (by kernel_rfl) (fun _ _ _ h => h) (Or.inl ⟨by kernel_rfl, ?_⟩) hHeld ?_
    rotate_left
    · (intro w hSw; (try dsimp only at hSw); go_simp; try with_reducible rfl)
    try simp only [Act.put, List.getElem_toArray, List.getElem_cons_succ, List.getElem_cons_zero, List.setIfInBounds_toArray, List.set_cons_succ, List.set_cons_zero]
    refine wpAnyH_take (i := 5) (v := ?_) rfl (by kernel_rfl) (by kernel_rfl) (by kernel_rfl) (fun _ _ _ h => h) (Or.inl ⟨by kernel_rfl, ?_⟩) hHeld ?_
    rotate_left
    · (intro w hSw; (try dsimp only at hSw); go_simp; try with_reducible rfl)
    try simp only [Act.put, List.getElem_toArray, List.getElem_cons_succ, List.getElem_cons_zero, List.setIfInBounds_toArray, List.set_cons_succ, List.set_cons_zero]
    refine wpAnyH_take (i := 6) (v := ?_) rfl (by kernel_rfl) (by kernel_rfl) (by kernel_rfl) (fun _ _ _ h => h) (Or.inl ⟨by kernel_rfl, ?_⟩) hHeld ?_
    rotate_left
    · (intro w hSw; (try dsimp only at hSw); go_simp; try with_reducible rfl)
    try simp only [Act.put, List.getElem_toArray, List.getElem_cons_succ, List.getElem_cons_zero, List.setIfInBounds_toArray, List.set_cons_succ, List.set_cons_zero]
    refine wpAnyH_take (i := 7) (v := ?_) rfl (by kernel_rfl) (by kernel_rfl) (by kernel_rfl) (fun _ _ _ h => h) (Or.inl ⟨by kernel_rfl, ?_⟩) hHeld ?_
    rotate_left
    · (intro w hSw; (try dsimp only at hSw); go_simp; try with_reducible rfl)
    try simp only [Act.put, List.getElem_toArray, List.getElem_cons_succ, List.getElem_cons_zero, List.setIfInBounds_toArray, List.set_cons_succ, List.set_cons_zero]
    refine wpAnyH_take (i := 8) (v := ?_) rfl (by kernel_rfl) (by kernel_rfl) (by kernel_rfl) (fun _ _ _ h => h) (Or.inl ⟨by kernel_rfl, ?_⟩) hHeld ?_
    rotate_left
    · (intro w hSw; (try dsimp only at hSw); go_simp; try with_reducible rfl)
    try simp only [Act.put, List.getElem_toArray, List.getElem_cons_succ, List.getElem_cons_zero, List.setIfInBounds_toArray, List.set_cons_succ, List.set_cons_zero]
    refine wpAnyH_take (i := 9) (v := ?_) rfl (by kernel_rfl) (by kernel_rfl) (by kernel_rfl) (fun _ _ _ h => h) (Or.inl ⟨by kernel_rfl, ?_⟩) hHeld ?_
    rotate_left
    · (intro w hSw; (try dsimp only at hSw); go_simp; try with_reducible rfl)
    try simp only [Act.put, List.getElem_toArray, List.getElem_cons_succ, List.getElem_cons_zero, List.setIfInBounds_toArray, List.set_cons_succ, List.set_cons_zero]
    refine wpAnyH_take (i := 10) (v := ?_) rfl (by kernel_rfl) (by kernel_rfl) (by kernel_rfl) (fun _ _ _ h => h) (Or.inl ⟨by kernel_rfl, ?_⟩) hHeld ?_
    rotate_left
    · (intro w hSw; (try dsimp only at hSw); go_simp; try with_reducible rfl)
    try simp only [Act.put, List.getElem_toArray, List.getElem_cons_succ, List.getElem_cons_zero, List.setIfInBounds_toArray, List.set_cons_succ, List.set_cons_zero]
    refine wpAnyH_take (i := 11) (v := ?_) rfl (by kernel_rfl) (by kernel_rfl) (by kernel_rfl) (fun _ _ _ h => h) (Or.inl ⟨by kernel_rfl, ?_⟩) hHeld ?_
    rotate_left
    · (intro w hSw; (try dsimp only at hSw); go_simp; try with_reducible rfl)
    try simp only [Act.put, List.getElem_toArray, List.getElem_cons_succ, List.getElem_cons_zero, List.setIfInBounds_toArray, List.set_cons_succ, List.set_cons_zero]
    refine wpAnyH_take (i := 12) (v := ?_) rfl (by kernel_rfl) (by kernel_rfl) (by kernel_rfl) (fun _ _ _ h => h) (Or.inl ⟨by kernel_rfl, ?_⟩) hHeld ?_
    rotate_left
    · (intro w hSw; (try dsimp only at hSw); go_simp; try with_reducible rfl)
    try simp only [Act.put, List.getElem_toArray, List.getElem_cons_succ, List.getElem_cons_zero, List.setIfInBounds_toArray, List.set_cons_succ, List.set_cons_zero]
    refine wpAnyH_take (i := 13) (v := ?_) rfl (by kernel_rfl) (by kernel_rfl) (by kernel_rfl) (fun _ _ _ h => h) (Or.inl ⟨by kernel_rfl, ?_⟩) hHeld ?_
    rotate_left
    · (intro w hSw; (try dsimp only at hSw); go_simp; try with_reducible rfl)
    try simp only [Act.put, List.getElem_toArray, List.getElem_cons_succ, List.getElem_cons_zero, List.setIfInBounds_toArray, List.set_cons_succ, List.set_cons_zero]
    refine wpAnyH_take (i := 14) (v := ?_) rfl (by kernel_rfl) (by kernel_rfl) (by kernel_rfl) (fun _ _ _ h => h) (Or.inl ⟨by kernel_rfl, ?_⟩) hHeld ?_
    rotate_left
    · (intro w hSw; (try dsimp only at hSw); go_simp; try with_reducible rfl)
    try simp only [Act.put, List.getElem_toArray, List.getElem_cons_succ, List.getElem_cons_zero, List.setIfInBounds_toArray, List.set_cons_succ, List.set_cons_zero]
    refine wpAnyH_take (i := 15) (v := ?_) rfl (by kernel_rfl) (by kernel_rfl) (by kernel_rfl) (fun _ _ _ h => h) (Or.inl ⟨by kernel_rfl, ?_⟩) hHeld ?_
    rotate_left
    · (intro w hSw; (try dsimp only at hSw); go_simp; try with_reducible rfl)
    try simp only [Act.put, List.getElem_toArray, List.getElem_cons_succ, List.getElem_cons_zero, List.setIfInBounds_toArray, List.set_cons_succ, List.set_cons_zero]
    refine wpAnyH_take (i := 16) (v := ?_) rfl (by kernel_rfl) (by kernel_rfl) (by kernel_rfl) (fun _ _ _ h => h) (Or.inl ⟨by kernel_rfl, ?_⟩) hHeld ?_
    rotate_left
    · (intro w hSw; (try dsimp only at hSw); go_simp; try with_reducible rfl)
    try simp only [Act.put, List.getElem_toArray, List.getElem_cons_succ, List.getElem_cons_zero, List.setIfInBounds_toArray, List.set_cons_succ, List.set_cons_zero]
    refine wpAnyH_take (i := 17) (v := ?_) rfl (by kernel_rfl) (by kernel_rfl) (by kernel_rfl) (fun _ _ _ h => h) (Or.inl ⟨by kernel_rfl, ?_⟩) hHeld ?_
    rotate_left
    · (intro w hSw; (try dsimp only at hSw); go_simp; try with_reducible rfl)
    try simp only [Act.put, List.getElem_toArray, List.getElem_cons_succ, List.getElem_cons_zero, List.setIfInBounds_toArray, List.set_cons_succ, List.set_cons_zero]
    refine wpAnyH_ready (rs := [18]) (by kernel_rfl) (by simp) ?_
    refine AllReadyH.cons rfl (fun K hK => ?_) AllReadyH.nil
    go_simp
    refine (HB0.out _).mono ?_
    rintro e v1 ⟨rfl, q1⟩
    try go_wp2_with fail
    refine hK.out _ _ ⟨hHeld.1.trans q1, kept_cell hHeld.2.1 q1, kept_cell hHeld.2.2.1 q1, kept_cell hHeld.2.2.2.1 q1, kept_cell hHeld.2.2.2.2 q1⟩ (fun hHeld0 => ?_)
    clear hK K hHeld
    have hHeld := hHeld0
    clear hHeld0
    try simp only [Act.put, List.getElem_toArray, List.getElem_cons_succ, List.getElem_cons_zero, List.setIfInBounds_toArray, List.set_cons_succ, List.set_cons_zero]
    refine wpAnyH_take (i := 19) (v := ?_) rfl (by kernel_rfl) (by kernel_rfl) (by kernel_rfl) (fun _ _ _ h => h) (Or.inl ⟨by kernel_rfl, ?_⟩) hHeld ?_
    rotate_left
    · (intro w hSw; (try dsimp only at hSw); go_simp; try with_reducible rfl)
    try simp only [Act.put, List.getElem_toArray, List.getElem_cons_succ, List.getElem_cons_zero, List.setIfInBounds_toArray, List.set_cons_succ, List.set_cons_zero]
    refine wpAnyH_take (i := 20) (v := ?_) rfl (by kernel_rfl) (by kernel_rfl) (by kernel_rfl) (fun _ _ _ h => h) (Or.inl ⟨by kernel_rfl, ?_⟩) hHeld ?_
    rotate_left
    · (intro w hSw; (try dsimp only at hSw); go_simp; try with_reducible rfl)
    try simp only [Act.put, List.getElem_toArray, List.getElem_cons_succ, List.getElem_cons_zero, List.setIfInBounds_toArray, List.set_cons_succ, List.set_cons_zero]
    refine wpAnyH_done (by kernel_rfl) ?_ _
    go_wp2_with fail
    go_meet
    case rel => exact ⟨rfl, hHeld.1⟩
  case rest =>
    obtain ⟨rfl, qc⟩ := hcut
    have hqc := hq7.trans qc
    clear k0 k1 k2 k3 hq7 qc hO7 HB1 HB2
    go_wp2_with fail
    refine (HP1.out wc (tab_kept hT hqc)).mono ?_
    rintro e w8 ⟨⟨am, cm, bm, rfl, hbm, hm8⟩, q8⟩
    go_wp2_with fail
    refine (HP2.out w8).mono ?_
    rintro e w9 ⟨⟨an, cn, bn, rfl, hbn, hn9⟩, q9⟩
    have hm9 := own_below hm8 q9.below
    go_wp2_with fail
    refine (HSame.out L am an cm cn w9 (own_rcs hm9) (own_rcs hn9) (by omega)).mono ?_
    rintro e w10 ⟨rfl, q10⟩
    have hm10 := own_below hm9 q10.below
    have hn10 := own_below hn9 q10.below
    have hq10 := ((hqc.trans q8).trans q9).trans q10
    have hlow : ∀ k, (Value.slice am L.length cm).ownBlock = some k → w.heap.size ≤ k ∧ k < w8.heap.size := fun k hk => ⟨by have := (hm8.lt k hk).1; have := hqc.below.size; omega, (hm8.lt k hk).2⟩
    have hhigh : ∀ k, (Value.slice an L.length cn).ownBlock = some k → w8.heap.size ≤ k := fun k hk => by have := (hn9.lt k hk).1; omega
    have hbm2 : w.heap.size ≤ bm := Nat.le_trans hqc.below.size hbm
    clear hm8 hm9 hn9 q8 q9 q10 hqc
    have hbd1 := HBad.out 1 (by omega)
    simp only [Rec.val] at hbd1
    have HB1 : Hid _ := hbd1
    obtain ⟨b1, hb1⟩ : ∃ b1, b1 = badRec 1 := ⟨_, rfl⟩
    rw [← hb1] at HB1
    have HAl : Hid _ := fun n ao ca W (h : Rcs W ao (List.replicate n b1)) (hn : n ≤ 66) => HAll.out (List.replicate n b1) b1 (fun x hx => List.eq_of_mem_replicate hx) ao ca W h (by simp; omega)
    have HFl : Hid (∀ k, k ≤ L.length → (fillTo L b1 k).length = L.length) := fun k => fillTo_length
    have HFn : Hid (∀ k, k < L.length → (fillTo L b1 k).set k b1 = fillTo L b1 (k + 1)) := fun k => fillTo_next
    have HFa : Hid (fillTo L b1 L.length = List.replicate L.length b1) := fillTo_all L b1
    have hm11 : w10.ownsRow bm 30 4 (.slice am (fillTo L b1 0).length cm) (fillTo L b1 0).length (recCells (fillTo L b1 0)) := by rw [fillTo_zero]; exact hm10
    clear hbd1 hb1 hm10
    go_wp2_with fail
    go_loopw [15] (fun i wr => ∃ k : Nat, i = .int .i64 k ∧ k ≤ L.length ∧ Hid (wr.ownsRow bm 30 4 (.slice am (fillTo L b1 k).length cm) (fillTo L b1 k).length (recCells (fillTo L b1 k))) ∧ Hid (wr.ownsRow bn 30 4 (.slice an L.length cn) L.length (recCells L)) ∧ Q w wr ∧ w10.heap.size ≤ wr.heap.size) (fun i _ => L.length - (intOf i).toNat)
    case atStart => exact ⟨0, rfl, Nat.zero_le _, hm11, hn10, hq10, Nat.le_refl _⟩
    case round =>
      obtain ⟨k, rfl, hk, HM, HN, hq, hsz⟩ := hrel
      have hFl := HFl.out k hk
      by_cases hlt : k < L.length
      · have hFn := HFn.out k hlt
        have hM := HM.out
        have hN := HN.out
        generalize hF : fillTo L b1 k = F at *
        have hne : F ≠ [] := fun e => by rw [e] at hFl; simp at hFl; omega
        obtain ⟨gm, rfl, hgm, _⟩ := own_recs hM hne
        clear HM HN hF
        have hlg := hlow gm rfl
        have i1 : (k : Int) < (L.length : Int) := by omega
        have i0' : (0 : Int) ≤ (k : Int) := by omega
        have HM2 : Hid _ := hM
        have HN2 : Hid _ := hN
        clear hM hN
        go_wp2_with fail
        refine (HB1.out _).mono ?_
        rintro e w11 ⟨rfl, q11⟩
        have hM := own_below HM2.out q11.below
        have hN := own_below HN2.out q11.below
        obtain ⟨hst, hgs⟩ := row_stored hM (k := k) (by omega) b1
        have f0 := hM.frozenAt (k * 4)
        have f1 := hM.frozenAt (k * 4 + 1)
        have f2 := hM.frozenAt (k * 4 + 2)
        have f3 := hM.frozenAt (k * 4 + 3)
        obtain ⟨u0, k0⟩ : ∃ u, w11.cell? ⟨gm, k * 4, none⟩ = some u := by rw [hM.cellAt _ (by omega)]; exact ⟨_, List.getElem?_eq_getElem (by have := hM.1; omega)⟩
        obtain ⟨u1, k1⟩ : ∃ u, w11.cell? ⟨gm, k * 4 + 1, none⟩ = some u := by rw [hM.cellAt _ (by omega)]; exact ⟨_, List.getElem?_eq_getElem (by have := hM.1; omega)⟩
        obtain ⟨u2, k2⟩ : ∃ u, w11.cell? ⟨gm, k * 4 + 2, none⟩ = some u := by rw [hM.cellAt _ (by omega)]; exact ⟨_, List.getElem?_eq_getElem (by have := hM.1; omega)⟩
        obtain ⟨u3, k3⟩ : ∃ u, w11.cell? ⟨gm, k * 4 + 3, none⟩ = some u := by rw [hM.cellAt _ (by omega)]; exact ⟨_, List.getElem?_eq_getElem (by have := hM.1; omega)⟩
        have hN2 := hN.kept hgs (by
          rcases hob : (Value.slice an L.length cn).ownBlock with _ | b
          · exact Or.inl rfl
          · right
            have := hhigh b hob
            simp
            omega)
        have hq11 : Q w w11 := hq.trans q11
        have hq12 : Q w ((((w11.setCell ⟨gm, k * 4, none⟩ (.string b1.key)).setCell ⟨gm, k * 4 + 1, none⟩ (.int .i64 b1.stamp)).setCell ⟨gm, k * 4 + 2, none⟩ (.int .i64 b1.kind)).setCell ⟨gm, k * 4 + 3, none⟩ (.string b1.body)) := ⟨hq11.below.grown hgs hq11.below.size (by intro k hk; simp at hk; omega)⟩
        have hsz2 := hgs.size
        have hsz1 := q11.below.size
        rw [hFn] at hst
        have HST : Hid _ := hst
        have HN3 : Hid _ := hN2
        have hF1 := HFl.out (k + 1) (by omega)
        clear hM hN hst hN2 hgs
        go_wp2_with fail
        go_roundw
        case rel => exact ⟨k + 1, by go_num, by omega, by rw [hF1]; rw [hFl] at HST; exact HST, HN3, hq12, by omega⟩
        case measure => simp [intOf]; omega
      · obtain rfl : k = L.length := by omega
        have hM := HM.out
        have hN := HN.out
        rw [HFa.out] at hM
        have hrl : ∀ n : Nat, (List.replicate n b1).length = n := fun n => List.length_replicate
        rw [hrl] at hM
        have HM3 : Hid _ := own_mono hM hbm2
        have HN3 : Hid (Row0 wr an L) := row0_own hN
        have HRC : Hid (∀ n, recCells (List.replicate n b1) ++ b1.cells = recCells (List.replicate (n + 1) b1)) := fun n => replicate_cells n b1
        have HRl : Hid _ := hrl
        have HOr : Hid (∀ (W : World) (base : Nat) (a : Option Addr) (n c : Nat), W.ownsRow base 30 4 (.slice a n c) n (recCells (List.replicate n b1)) → Row0 W a (List.replicate n b1)) := fun W base a n c h => by
          have hh : W.ownsRow base 30 4 (.slice a (List.replicate n b1).length c) (List.replicate n b1).length (recCells (List.replicate n b1)) := by rw [hrl]; exact h
          exact row0_own hh
        clear hM hN HM HN hrl hFl HFl HFn HFa hm11
        go_wp2_with fail
        refine (HB1.out _).mono ?_
        rintro e w11 ⟨rfl, q11⟩
        have hM11 := own_below HM3.out q11.below
        have rM11 := HOr.out _ _ _ _ _ hM11
        have rN11 := HN3.out.kept q11
        have hq11 := hq.trans q11
        have hs11 := hq11.below.size
        clear HM3 HN3 q11 hq
        go_wp2_with (at_builtin; refine wpList_append_keeps rfl (.tmp 105) (.tmp 107) 28 rfl w.heap.size 30 i0 (.agg #[.string ⟨#[]⟩, .int .i64 0, .int .i64 0, .string ⟨#[]⟩]) 4 48 Tryd.underlying28 hi hz0 hz1 hz2 rfl (by decide) _ _ _ rfl (hM11.alloc _) ⟨w11.heap.size, 0, none⟩ 1 1 b1.cells rfl rfl ?c1 ?c2 (by decide) ?c3 ?c4 ?c5 ?_)
        case c1 => exact rec_cells_at _ _ _
        case c2 => exact rec_cells_one _
        case c3 => unfold maxLen; omega
        case c4 => omega
        case c5 => simp; omega
        intro v' w12 hO12 hg12 hk12
        obtain ⟨a1, c1, hv⟩ := own_form hO12
        rw [hv] at hO12
        rw [hv]
        rw [HRC.out] at hO12
        have qA : Q w11 (w11.alloc (.cells #[.string b1.key, .int .i64 b1.stamp, .int .i64 b1.kind, .string b1.body] 30)) := (Q.refl w11).alloc _ _
        have hK12 : ∀ k j, k < (w11.alloc (.cells #[.string b1.key, .int .i64 b1.stamp, .int .i64 b1.kind, .string b1.body] 30)).heap.size → ((Value.slice am L.length cm).ownBlock = some k → j < L.length * 4) → w12.cell? ⟨k, j, none⟩ = (w11.alloc (.cells #[.string b1.key, .int .i64 b1.stamp, .int .i64 b1.kind, .string b1.body] 30)).cell? ⟨k, j, none⟩ := fun k j hk => hk12 k j (by simpa using hk)
        have rM12 := (rM11.kept qA).keeps (n := L.length) (by rw [HRl.out]; exact Nat.le_refl _) hg12.size hK12
        have rN12 := (rN11.kept qA).keeps (n := L.length) (Nat.le_refl _) hg12.size hK12
        have hq12 : Q w w12 := ⟨((hq11.trans qA).below).grown hg12 (by simp; omega) (fun k hk => (hM11.lt k hk).1)⟩
        have HO12 : Hid _ := hO12
        clear hO12 hg12 hk12 hK12 hv rM11 rN11 hM11 qA hq11 hs11
        go_wp2_with fail
        refine (HB1.out _).mono ?_
        rintro e w13 ⟨rfl, q13⟩
        have hM13 := own_below HO12.out q13.below
        have rO13 := HOr.out _ _ _ _ _ hM13
        have rM13 := rM12.kept q13
        have rN13 := rN12.kept q13
        have hq13 := hq12.trans q13
        have hs13 := hq13.below.size
        clear HO12 q13 hq12 rM12 rN12
        go_wp2_with (at_builtin; refine wpList_append_keeps rfl (.tmp 109) (.tmp 111) 28 rfl w.heap.size 30 i0 (.agg #[.string ⟨#[]⟩, .int .i64 0, .int .i64 0, .string ⟨#[]⟩]) 4 48 Tryd.underlying28 hi hz0 hz1 hz2 rfl (by decide) _ _ _ rfl (hM13.alloc _) ⟨w13.heap.size, 0, none⟩ 1 1 b1.cells rfl rfl ?c1 ?c2 (by decide) ?c3 ?c4 ?c5 ?_)
        case c1 => exact rec_cells_at _ _ _
        case c2 => exact rec_cells_one _
        case c3 => unfold maxLen; omega
        case c4 => omega
        case c5 => simp; omega
        intro v' w14 hO14 hg14 hk14
        obtain ⟨a2, c2, hv⟩ := own_form hO14
        rw [hv] at hO14
        rw [hv]
        rw [HRC.out] at hO14
        have qB : Q w13 (w13.alloc (.cells #[.string b1.key, .int .i64 b1.stamp, .int .i64 b1.kind, .string b1.body] 30)) := (Q.refl w13).alloc _ _
        have hK14 : ∀ k j, k < (w13.alloc (.cells #[.string b1.key, .int .i64 b1.stamp, .int .i64 b1.kind, .string b1.body] 30)).heap.size → ((Value.slice a1 (L.length + 1) c1).ownBlock = some k → j < (L.length + 1) * 4) → w14.cell? ⟨k, j, none⟩ = (w13.alloc (.cells #[.string b1.key, .int .i64 b1.stamp, .int .i64 b1.kind, .string b1.body] 30)).cell? ⟨k, j, none⟩ := fun k j hk => hk14 k j (by simpa using hk)
        have rM14 := (rM13.kept qB).keeps (n := L.length + 1) (by rw [HRl.out]; omega) hg14.size hK14
        have rN14 := (rN13.kept qB).keeps (n := L.length + 1) (by omega) hg14.size hK14
        have rO14 := (rO13.kept qB).keeps (n := L.length + 1) (by rw [HRl.out]; exact Nat.le_refl _) hg14.size hK14
        have rT14 := HOr.out _ _ _ _ _ hO14
        have hq14 : Q w w14 := ⟨((hq13.trans qB).below).grown hg14 (by simp; omega) (fun k hk => (hM13.lt k hk).1)⟩
        clear hO14 hg14 hk14 hK14 hv rM13 rN13 rO13 hM13 qB hq13 hs13
        have A1 := fun W (h : Rcs W am (List.replicate L.length b1)) => HAl.out L.length am cm W h (by omega)
        have A2 := fun W (h : Rcs W a1 (List.replicate (L.length + 1) b1)) => HAl.out (L.length + 1) a1 c1 W h (by omega)
        have A3 := fun W (h : Rcs W a2 (List.replicate (L.length + 1 + 1) b1)) => HAl.out (L.length + 1 + 1) a2 c2 W h (by omega)
        simp only [HRl.out, Rec.val] at A1 A2 A3
        have HA1 : Hid _ := A1
        have HA2 : Hid _ := A2
        have HA3 : Hid _ := A3
        clear A1 A2 A3 HAl
        go_wp2_with fail
        refine (HP1.out w14 (tab_kept hT hq14)).mono ?_
        rintro e w15 ⟨⟨ap, cp, bp, rfl, hbp, hp15⟩, q15⟩
        go_wp2_with fail
        refine (HSame.out L ap an cp cn w15 (own_rcs hp15) (rN14.kept q15).rcs (by omega)).mono ?_
        rintro e w16 ⟨rfl, q16⟩
        have q16' := q15.trans q16
        go_wp2_with fail
        refine (HB1.out _).mono ?_
        rintro e w17 ⟨rfl, q17⟩
        have q17' := q16'.trans q17
        go_wp2_with fail
        refine (HA1.out _ (rM14.kept q17').rcs).mono ?_
        rintro e w18 ⟨rfl, q18⟩
        have q18' := q17'.trans q18
        clear q15 q16 q16' q17 q17' q18
        go_wp2_with fail
        refine (HB1.out _).mono ?_
        rintro e w19 ⟨rfl, q19⟩
        have q19' := q18'.trans q19
        go_wp2_with fail
        refine (HA2.out _ (rO14.kept q19').rcs).mono ?_
        rintro e w20 ⟨rfl, q20⟩
        have q20' := q19'.trans q20
        clear q18' q19 q19' q20
        go_wp2_with fail
        refine (HB1.out _).mono ?_
        rintro e w21 ⟨rfl, q21⟩
        have q21' := q20'.trans q21
        go_wp2_with fail
        refine (HA3.out _ (rT14.kept q21').rcs).mono ?_
        rintro e w22 ⟨rfl, q22⟩
        have q22' := (hq14.trans q21').trans q22
        clear q20' q21 q21' q22
        go_wp2_with fail
        go_ret
        exact ⟨rfl, q22'⟩
end Go.Proofs.YtekdenkllipehaaDoor
