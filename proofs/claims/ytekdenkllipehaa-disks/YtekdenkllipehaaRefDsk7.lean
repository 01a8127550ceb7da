/-
  The document's disk: Flip.
-/
import Derived.Test.YtekdenkllipehaaRefDsk6
import Derived.Test.YtekdenkllipehaaBits
namespace Go.Proofs.Ytekdenkllipehaa
open Go.RowKit

/-- The bytes' row, where there is a byte. -/
theorem FileAt.bytesAt {w : World} {tg : Tags} {o p id : Nat} {f : M.Fil} {bo : Option Addr} {bc : Nat} (h : FileAt w tg o p id f bo bc) {j : Nat} (hj : j < f.bytes.length) :
    ∃ g, bo = some ⟨g, 0, none⟩ ∧ g < w.heap.size ∧ tg g = (o, 3 + 2 * id) ∧ w.cell? ⟨g, j, none⟩ = some (.int .u8 ((f.bytes.getD j 0).toNat : Int)) ∧ w.frozen? ⟨g, j, none⟩ = false := by
  rcases h.own.2 with ⟨_, h0⟩ | ⟨g, c, cur, hv, hg, hh, _⟩
  · omega
  · injection hv with e1 e2 e3
    subst e1 e3
    refine ⟨g, rfl, (Array.getElem?_eq_some_iff.1 hh).1, h.tb g rfl, ?_, h.own.frozenAt j⟩
    rw [h.own.cellAt j (by omega)]
    simp [byteVals, List.getElem?_eq_getElem hj]

theorem FileAt.byteSet {w : World} {tg : Tags} {o p id g : Nat} {f : M.Fil} {bc : Nat} (h : FileAt w tg o p id f (some ⟨g, 0, none⟩) bc) (j : Nat) (b : UInt8) : FileAt (w.setCell ⟨g, j, none⟩ (.int .u8 (b.toNat : Int))) tg o p id { f with bytes := f.bytes.set j b } (some ⟨g, 0, none⟩) bc := by
  have hne : p ≠ g := fun e => by
    have h1 := h.tp
    have h2 := h.tb g rfl
    rw [e, h2] at h1
    simp only [Prod.mk.injEq, true_and] at h1
    omega
  have hx : ∀ k, (⟨g, j, none⟩ : Addr) ≠ ⟨p, k, none⟩ := fun k e => by injection e with e1; exact hne e1.symm
  have hst := (h.own.stored j (.int .u8 (b.toNat : Int))).1
  refine ⟨by rw [World.cell?_setCell_other _ _ _ _ (hx 0)]; exact h.c0, by rw [World.cell?_setCell_other _ _ _ _ (hx 1)]; simpa using h.c1, by rw [World.cell?_setCell_other _ _ _ _ (hx 2)]; exact h.c2, fun k => by rw [World.frozen?_setCell]; exact h.fr k, ?_, h.tp, ?_, by simpa using h.top⟩
  · have : (byteVals f.bytes).set j (.int .u8 (b.toNat : Int)) = byteVals (f.bytes.set j b) := by simp [byteVals, List.map_set]
    rw [this] at hst
    simpa using hst
  · intro k hk
    exact h.tb k (by simpa using hk)

theorem DiskAt.byteSet {w : World} {tg : Tags} {o d : Nat} {D : M.Dsk} {ids ps : List Nat} (h : DiskAt w tg o d D ids ps) {i p id g : Nat} {f : M.Fil} {bc : Nat} (hp : ps[i]? = some p) (hid : ids[i]? = some id) (hF : FileAt w tg o p id f (some ⟨g, 0, none⟩) bc) (j : Nat) (b : UInt8) :
    DiskAt (w.setCell ⟨g, j, none⟩ (.int .u8 (b.toNat : Int))) tg o d ⟨D.cap, D.files.set i { f with bytes := f.bytes.set j b }, D.dead, D.fuse⟩ ids ps :=
  h.turn hp hid (w' := w.setCell ⟨g, j, none⟩ (.int .u8 (b.toNat : Int))) (tg' := tg) (by simp) (fun _ _ => rfl) (fun k _ _ h2 => heap_setCell_other w ⟨g, j, none⟩ k _ (fun e => h2 (by simp at e; rw [e]; exact hF.tb g rfl))) _ (hF.byteSet j b)

set_option maxRecDepth 100000 in
set_option maxHeartbeats 1600000 in
theorem refFlip (tg : Tags) (o d : Nat) (D : M.Dsk) (ids ps : List Nat) (nm : ByteArray) (at_ mask : Int) (hl : D.files.length ≤ 64) (w : World) (h : DiskAt w tg o d D ids ps) :
    Calls Try.prog 83 #[.pointer (some ⟨d, 0, none⟩), .string nm, .int .i64 at_, .int .i64 mask] w fun e w' => e = .returned (.int .i64 ((D.flip nm at_ mask).2 : Nat)) ∧ DiskAt w' tg o d (D.flip nm at_ mask).1 ids ps ∧ Only o tg w w' := by
  have HPl : Hid _ := fun (_ : Unit) => refPlace tg o d D ids ps nm hl w h
  have HD : Hid (DiskAt w tg o d D ids ps) := h
  clear h
  unfold M.Dsk.flip
  cases hpl : M.place D.files nm with
  | none =>
    rw [hpl] at HPl
    simp only [placeInt] at HPl
    simp only
    go_enter Try.func83, Try.ntmps83
    go_wp2_with fail
    refine (HPl.out ()).mono ?_
    rintro e w1 ⟨rfl, q1⟩
    have HD1 : Hid _ := HD.out.kept q1
    go_wp2_with fail
    go_ret
    exact ⟨rfl, HD1.out, Only.of_q q1⟩
  | some i =>
    obtain ⟨f, hf, _, _⟩ := M.place_some hpl
    rw [hpl] at HPl
    simp only [placeInt] at HPl
    simp only [hf]
    have hil : i < D.files.length := (List.getElem?_eq_some_iff.1 hf).1
    have i1 : (i : Int) < (D.files.length : Int) := by omega
    have i0 : (0 : Int) ≤ (i : Int) := by omega
    clear hpl
    by_cases hbad : at_ < 0 ∨ (f.bytes.length : Int) ≤ at_ ∨ mask < 0 ∨ 255 < mask
    · rw [if_pos hbad]
      have arms : ∃ b1 b2 b3 b4 : Bool, b1 = decide (at_ < 0) ∧ b2 = decide ((f.bytes.length : Int) ≤ at_) ∧ b3 = decide (mask < 0) ∧ b4 = decide (255 < mask) := ⟨_, _, _, _, rfl, rfl, rfl, rfl⟩
      obtain ⟨b1, b2, b3, b4, h1, h2, h3, h4⟩ := arms
      have hor : (b1 || b2 || b3 || b4) = true := by
        rw [h1, h2, h3, h4]
        simp only [Bool.or_eq_true, decide_eq_true_eq]
        omega
      clear hbad
      cases b1 <;> cases b2 <;> cases b3 <;> cases b4
      all_goals first
        | (exfalso; simp at hor; done)
        | skip
      all_goals
        have g1 := h1.symm
        have g2 := h2.symm
        have g3 := h3.symm
        have g4 := h4.symm
        clear h1 h2 h3 h4 hor
        go_enter Try.func83, Try.ntmps83
        go_wp2_with fail
        refine (HPl.out ()).mono ?_
        rintro e w1 ⟨rfl, q1⟩
        have hD1 := HD.out.kept q1
        obtain ⟨g, cap, p, id, bo, bc, r1, hg, _, _, r2, hF⟩ := hD1.at hf
        have c1 := hF.c1
        have hpt := hF.top
        have ht1 := hD1.top
        have HD1 : Hid _ := hD1
        clear hD1 hF
        go_wp2_with fail
        go_ret
        exact ⟨rfl, HD1.out, Only.of_q q1⟩
    · rw [if_neg hbad]
      have a1 : 0 ≤ at_ := by omega
      obtain ⟨j, rfl⟩ := Int.eq_ofNat_of_zero_le a1
      obtain ⟨m, rfl⟩ := Int.eq_ofNat_of_zero_le (show 0 ≤ mask by omega)
      have hj : j < f.bytes.length := by omega
      have hm : m < 256 := by omega
      have d1 : decide ((j : Int) < 0) = false := by rw [decide_eq_false_iff_not]; omega
      have d2 : decide ((f.bytes.length : Int) ≤ (j : Int)) = false := by rw [decide_eq_false_iff_not]; omega
      have d3 : decide ((m : Int) < 0) = false := by rw [decide_eq_false_iff_not]; omega
      have d4 : decide ((255 : Int) < (m : Int)) = false := by rw [decide_eq_false_iff_not]; omega
      have j1 : (j : Int) < (f.bytes.length : Int) := by omega
      have j0 : (0 : Int) ≤ (j : Int) := by omega
      have hmw : IntKind.u8.wrap (m : Int) = (m : Int) := by rw [IntKind.wrap_u8]; omega
      have hmt : (UInt8.ofNat m).toNat = m := by rw [UInt8.toNat_ofNat']; omega
      simp only [Int.toNat_natCast]
      rw [modify_set _ hf]
      clear hbad a1
      go_enter Try.func83, Try.ntmps83
      go_wp2_with fail
      refine (HPl.out ()).mono ?_
      rintro e w1 ⟨rfl, q1⟩
      have hD1 := HD.out.kept q1
      obtain ⟨gr, cap, p, id, bo, bc, r1, hg, hp, hid, r2, hF⟩ := hD1.at hf
      obtain ⟨g, rfl, hgt, htg, cb, fb⟩ := hF.bytesAt hj
      have c1 := hF.c1
      have hpt := hF.top
      have ht1 := hD1.top
      have hxr := byte_xor (f.bytes.getD j 0) (UInt8.ofNat m)
      rw [hmt] at hxr
      have HDs : Hid _ := hD1.byteSet hp hid hF j (f.bytes.getD j 0 ^^^ UInt8.ofNat m)
      have HOs : Hid _ := (Only.of_q q1 : Only o tg w w1).trans (only_set (Only.refl o tg w1) (fun k _ e => by rw [e, htg]) j (.int .u8 ((f.bytes.getD j 0 ^^^ UInt8.ofNat m).toNat : Int)))
      have n1 : ¬ (p = g) := fun e => by have h1 := hF.tp; rw [e, htg] at h1; simp only [Prod.mk.injEq, true_and] at h1; omega
      clear hD1 hF hf hp hid htg hmt
      generalize (f.bytes.getD j 0 ^^^ UInt8.ofNat m).toNat = xr at *
      generalize (f.bytes.getD j 0).toNat = xb at *
      go_upto_region 7 with fail
      · skip
        refine wp_region_held_drew (S := fun w' => w'.cell? ⟨p, 1, none⟩ = some (.slice (some ⟨g, 0, none⟩) f.bytes.length bc)) (by kernel_rfl) c1 (fun hHeld => ?_)
        refine wpAnyH_take (i := 0) (v := ?_) rfl (by kernel_rfl) (by kernel_rfl) (by kernel_rfl) (fun _ _ _ h => h) (Or.inl ⟨by kernel_rfl, ?_⟩) hHeld ?_
        rotate_left
        · (intro w hSw; (try dsimp only at hSw); go_simp; try with_reducible rfl)
        try simp only [Act.put, List.getElem_toArray, List.getElem_cons_zero, List.setIfInBounds_toArray, List.set_cons_succ, List.set_cons_zero]
        refine wpAnyH_take (i := 1) (v := ?_) rfl (by kernel_rfl) (by kernel_rfl) (by kernel_rfl) (fun _ _ _ h => h) (Or.inl ⟨by kernel_rfl, ?_⟩) hHeld ?_
        rotate_left
        · (intro w hSw; (try dsimp only at hSw); go_simp; try with_reducible rfl)
        try simp only [Act.put, List.getElem_toArray, List.getElem_cons_succ, List.getElem_cons_zero, List.setIfInBounds_toArray, List.set_cons_succ, List.set_cons_zero]
        refine wpAnyH_take (i := 2) (v := ?_) rfl (by kernel_rfl) (by kernel_rfl) (by kernel_rfl) (fun _ _ _ h => h) (Or.inl ⟨by kernel_rfl, ?_⟩) hHeld ?_
        rotate_left
        · (intro w hSw; (try dsimp only at hSw); go_simp; try with_reducible rfl)
        try simp only [Act.put, List.getElem_toArray, List.getElem_cons_succ, List.getElem_cons_zero, List.setIfInBounds_toArray, List.set_cons_succ, List.set_cons_zero]
        refine wpAnyH_take (i := 3) (v := ?_) rfl (by kernel_rfl) (by kernel_rfl) (by kernel_rfl) (fun _ _ _ h => h) (Or.inl ⟨by kernel_rfl, ?_⟩) hHeld ?_
        rotate_left
        · (intro w hSw; (try dsimp only at hSw); go_simp; try with_reducible rfl)
        try simp only [Act.put, List.getElem_toArray, List.getElem_cons_succ, List.getElem_cons_zero, List.setIfInBounds_toArray, List.set_cons_succ, List.set_cons_zero]
        refine wpAnyH_take (i := 4) (v := ?_) rfl (by kernel_rfl) (by kernel_rfl) (by kernel_rfl) (fun _ _ _ h => h) (Or.inl ⟨by kernel_rfl, ?_⟩) hHeld ?_
        rotate_left
        · (intro w hSw; (try dsimp only at hSw); go_simp; try with_reducible rfl)
        try simp only [Act.put, List.getElem_toArray, List.getElem_cons_succ, List.getElem_cons_zero, List.setIfInBounds_toArray, List.set_cons_succ, List.set_cons_zero]
        refine wpAnyH_take (i := 5) (v := ?_) rfl (by kernel_rfl) (by kernel_rfl) (by kernel_rfl) (fun _ _ _ h => h) (Or.inl ⟨by kernel_rfl, ?_⟩) hHeld ?_
        rotate_left
        · (intro w hSw; (try dsimp only at hSw); go_simp; try with_reducible rfl)
        try simp only [Act.put, List.getElem_toArray, List.getElem_cons_succ, List.getElem_cons_zero, List.setIfInBounds_toArray, List.set_cons_succ, List.set_cons_zero]
        refine wpAnyH_take (i := 6) (v := ?_) rfl (by kernel_rfl) (by kernel_rfl) (by kernel_rfl) (fun _ _ _ h => h) (Or.inl ⟨by kernel_rfl, ?_⟩) hHeld ?_
        rotate_left
        · (intro w hSw; (try dsimp only at hSw); go_simp; try with_reducible rfl)
        try simp only [Act.put, List.getElem_toArray, List.getElem_cons_succ, List.getElem_cons_zero, List.setIfInBounds_toArray, List.set_cons_succ, List.set_cons_zero]
        refine wpAnyH_take (i := 7) (v := ?_) rfl (by kernel_rfl) (by kernel_rfl) (by kernel_rfl) (fun _ _ _ h => h) (Or.inl ⟨by kernel_rfl, ?_⟩) hHeld ?_
        rotate_left
        · (intro w hSw; (try dsimp only at hSw); go_simp; try with_reducible rfl)
        try simp only [Act.put, List.getElem_toArray, List.getElem_cons_succ, List.getElem_cons_zero, List.setIfInBounds_toArray, List.set_cons_succ, List.set_cons_zero]
        refine wpAnyH_take (i := 8) (v := ?_) rfl (by kernel_rfl) (by kernel_rfl) (by kernel_rfl) (fun _ _ _ h => h) (Or.inl ⟨by kernel_rfl, ?_⟩) hHeld ?_
        rotate_left
        · (intro w hSw; (try dsimp only at hSw); go_simp; try with_reducible rfl)
        try simp only [Act.put, List.getElem_toArray, List.getElem_cons_succ, List.getElem_cons_zero, List.setIfInBounds_toArray, List.set_cons_succ, List.set_cons_zero]
        refine wpAnyH_take (i := 9) (v := ?_) rfl (by kernel_rfl) (by kernel_rfl) (by kernel_rfl) (fun _ _ _ h => h) (Or.inl ⟨by kernel_rfl, ?_⟩) hHeld ?_
        rotate_left
        · (intro w hSw; (try dsimp only at hSw); go_simp; try with_reducible rfl)
        try simp only [Act.put, List.getElem_toArray, List.getElem_cons_succ, List.getElem_cons_zero, List.setIfInBounds_toArray, List.set_cons_succ, List.set_cons_zero]
        refine wpAnyH_take (i := 10) (v := ?_) rfl (by kernel_rfl) (by kernel_rfl) (by kernel_rfl) (fun _ _ _ h => h) (Or.inl ⟨by kernel_rfl, ?_⟩) hHeld ?_
        rotate_left
        · (intro w hSw; (try dsimp only at hSw); go_simp; try with_reducible rfl)
        try simp only [Act.put, List.getElem_toArray, List.getElem_cons_succ, List.getElem_cons_zero, List.setIfInBounds_toArray, List.set_cons_succ, List.set_cons_zero]
        refine wpAnyH_take (i := 12) (v := ?_) rfl (by kernel_rfl) (by kernel_rfl) (by kernel_rfl) (fun _ _ _ h => h) (Or.inl ⟨by kernel_rfl, ?_⟩) hHeld ?_
        rotate_left
        · (intro w hSw; (try dsimp only at hSw); go_simp; try with_reducible rfl)
        try simp only [Act.put, List.getElem_toArray, List.getElem_cons_succ, List.getElem_cons_zero, List.setIfInBounds_toArray, List.set_cons_succ, List.set_cons_zero]
        refine wpAnyH_take (i := 13) (v := ?_) rfl (by kernel_rfl) (by kernel_rfl) (by kernel_rfl) (fun _ _ _ h => h) (Or.inl ⟨by kernel_rfl, ?_⟩) hHeld ?_
        rotate_left
        · (intro w hSw; (try dsimp only at hSw); go_simp; try with_reducible rfl)
        try simp only [Act.put, List.getElem_toArray, List.getElem_cons_succ, List.getElem_cons_zero, List.setIfInBounds_toArray, List.set_cons_succ, List.set_cons_zero]
        refine wpAnyH_ready (rs := [11]) (by kernel_rfl) (by simp) ?_
        refine AllReadyH.cons rfl (fun K hK => ?_) AllReadyH.nil
        go_simp
        refine hK.out _ _ hHeld (fun hHeld0 => ?_)
        clear hK K hHeld0
        try simp only [Act.put, List.getElem_toArray, List.getElem_cons_succ, List.getElem_cons_zero, List.setIfInBounds_toArray, List.set_cons_succ, List.set_cons_zero]
        refine wpAnyH_take (i := 14) (v := ?_) rfl (by kernel_rfl) (by kernel_rfl) (by kernel_rfl) (fun _ _ _ h => h) (Or.inl ⟨by kernel_rfl, ?_⟩) hHeld ?_
        rotate_left
        · (intro w hSw; (try dsimp only at hSw); go_simp; try with_reducible rfl)
        try simp only [Act.put, List.getElem_toArray, List.getElem_cons_succ, List.getElem_cons_zero, List.setIfInBounds_toArray, List.set_cons_succ, List.set_cons_zero]
        refine wpAnyH_take (i := 15) (v := ?_) rfl (by kernel_rfl) (by kernel_rfl) (by kernel_rfl) (fun _ _ _ h => h) (Or.inl ⟨by kernel_rfl, ?_⟩) hHeld ?_
        rotate_left
        · (intro w hSw; (try dsimp only at hSw); go_simp; try with_reducible rfl)
        try simp only [Act.put, List.getElem_toArray, List.getElem_cons_succ, List.getElem_cons_zero, List.setIfInBounds_toArray, List.set_cons_succ, List.set_cons_zero]
        refine wpAnyH_ready (rs := [16]) (by kernel_rfl) (by simp) ?_
        refine AllReadyH.cons rfl (fun K hK => ?_) AllReadyH.nil
        go_simp
        refine hK.out _ _ (kept_set c1 (by intro e; injection e with e1; exact n1 e1)) (fun hHeld0 => ?_)
        clear hK K hHeld hHeld0
        refine wpAnyH_done (by kernel_rfl) ?_ _
        go_wp2_with fail
        go_ret
        exact ⟨rfl, HDs.out.kept (Q.refl _).drew, HOs.out.trans (Only.of_q (Q.refl _).drew)⟩
end Go.Proofs.Ytekdenkllipehaa
