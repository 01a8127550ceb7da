/-
  The document's disk: Sync.
-/
import Derived.Test.YtekdenkllipehaaRefDsk
namespace Go.Proofs.Ytekdenkllipehaa
open Go.RowKit

theorem FileAt.syncSet {w : World} {tg : Tags} {o p id : Nat} {f : M.Fil} {bo : Option Addr} {bc : Nat} (h : FileAt w tg o p id f bo bc) (n : Nat) : FileAt (w.setCell ⟨p, 2, none⟩ (.int .i64 (n : Int))) tg o p id { f with synced := n } bo bc := by
  refine ⟨by rw [World.cell?_setCell_other _ _ _ _ (by simp)]; exact h.c0, by rw [World.cell?_setCell_other _ _ _ _ (by simp)]; exact h.c1, World.cell?_setCell_same _ _ _ h.c2, fun j => by rw [World.frozen?_setCell]; exact h.fr j, ?_, h.tp, h.tb, by simpa using h.top⟩
  refine row_keep h.own (fun g hg => heap_setCell_other w ⟨p, 2, none⟩ g _ (fun e => ?_))
  have h1 := h.tb g hg
  have h2 := h.tp
  simp at e
  rw [e] at h1
  rw [h2] at h1
  simp only [Prod.mk.injEq, true_and] at h1
  omega

theorem DiskAt.rowTag {w : World} {tg : Tags} {o d g n cap : Nat} {D : M.Dsk} {ids ps : List Nat} (h : DiskAt w tg o d D ids ps) (r : w.cell? ⟨d, 1, none⟩ = some (.slice (some ⟨g, 0, none⟩) n cap)) : tg g = (o, 1) := by
  obtain ⟨ao, c, r1, _, r3⟩ := h.row
  rw [r] at r1
  injection r1 with e
  injection e with e1 e2 e3
  subst e1
  exact r3 g rfl

theorem kept_set {w : World} {a b : Addr} {u v : Value} (h : w.cell? a = some u) (hne : a ≠ b) : (w.setCell b v).drew.cell? a = some u := by
  show (w.setCell b v).cell? a = some u
  rw [World.cell?_setCell_other _ _ _ _ (Ne.symm hne)]
  exact h

theorem modify_set {α : Type} {l : List α} {i : Nat} {a : α} (f : α → α) (h : l[i]? = some a) : l.modify i f = l.set i (f a) := by
  apply List.ext_getElem?
  intro j
  rw [List.getElem?_modify]
  by_cases e : i = j
  · subst e
    rw [h, List.getElem?_set_self (List.getElem?_eq_some_iff.1 h).1]
    simp
  · rw [List.getElem?_set_ne e]
    simp [e]

theorem DiskAt.syncSet {w : World} {tg : Tags} {o d : Nat} {D : M.Dsk} {ids ps : List Nat} (h : DiskAt w tg o d D ids ps) {i p id : Nat} {f : M.Fil} {bo : Option Addr} {bc : Nat} (hp : ps[i]? = some p) (hid : ids[i]? = some id) (hf : D.files[i]? = some f) (hF : FileAt w tg o p id f bo bc) (n : Nat) :
    DiskAt (w.setCell ⟨p, 2, none⟩ (.int .i64 (n : Int))) tg o d ⟨D.cap, D.files.modify i fun f => { f with synced := n }, D.dead, D.fuse⟩ ids ps := by
  have := h.turn hp hid (w' := w.setCell ⟨p, 2, none⟩ (.int .i64 (n : Int))) (tg' := tg) (by simp) (fun _ _ => rfl) (fun k hk h1 _ => heap_setCell_other w ⟨p, 2, none⟩ k _ (fun e => h1 (by simp at e; rw [e]; exact hF.tp))) { f with synced := n } (hF.syncSet n)
  rw [modify_set _ hf]
  exact this

set_option maxRecDepth 100000 in
set_option maxHeartbeats 1600000 in
theorem refSync (tg : Tags) (o d : Nat) (D : M.Dsk) (ids ps : List Nat) (nm : ByteArray) (hl : D.files.length ≤ 64) (hfu : D.fuse ≤ 9223372036854775807) (w : World) (h : DiskAt w tg o d D ids ps) :
    Calls Try.prog 75 #[.pointer (some ⟨d, 0, none⟩), .string nm] w fun e w' => e = .returned (.int .i64 ((D.sync nm).2 : Nat)) ∧ DiskAt w' tg o d (D.sync nm).1 ids ps ∧ Only o tg w w' := by
  have HCh : Hid _ := fun (_ : Unit) => refChanged tg o d D ids ps nm M.one hl hfu w h
  have hone : M.one = ⟨#[97]⟩ := rfl
  have HFi : Hid (∀ (E : M.Dsk) (i : Nat), D.changed nm M.one = (E, i, 0) → ∃ f, E.files[i]? = some f) := fun E i hE => by
    unfold M.Dsk.changed at hE
    split at hE
    · simp at hE
    · split at hE
      · simp at hE
      · rename_i k hk
        split at hE
        · simp at hE
        · obtain ⟨f, hf, _⟩ := M.place_some hk
          split at hE
          · simp at hE
          · rename_i E' hE'
            simp only [Prod.mk.injEq] at hE
            obtain ⟨rfl, rfl, _⟩ := hE
            refine ⟨f, ?_⟩
            unfold M.Dsk.dies at hE'
            split at hE'
            · simp only [Prod.mk.injEq] at hE'
              rw [← hE'.1]
              exact hf
            · simp only [Prod.mk.injEq] at hE'
              rw [← hE'.1]
              exact hf
  clear h
  unfold M.Dsk.sync
  obtain ⟨⟨E, i, c⟩, hE⟩ : ∃ p, p = D.changed nm M.one := ⟨_, rfl⟩
  rw [← hE] at HCh
  simp only at HCh
  rw [hone] at HCh
  by_cases hc : c = 0
  · subst hc
    obtain ⟨f, hf⟩ := HFi.out E i hE.symm
    simp only [← hE]
    clear hE HFi
    have hil : i < E.files.length := (List.getElem?_eq_some_iff.1 hf).1
    have i1 : (i : Int) < (E.files.length : Int) := by omega
    have i0 : (0 : Int) ≤ (i : Int) := by omega
    go_enter Try.func75, Try.ntmps75
    go_wp2_with fail
    refine (HCh.out ()).mono ?_
    rintro e w1 ⟨rfl, hD1, hO1⟩
    obtain ⟨g, cap, p, id, bo, bc, r1, hg, hp, hid, r2, hF⟩ := hD1.at hf
    have c1 := hF.c1
    have c2 := hF.c2
    have f2 := hF.fr 2
    have hpt := hF.top
    have ht1 := hD1.top
    have hDs := hD1.syncSet hp hid hf hF f.bytes.length
    have hmo : (E.files.modify i fun g => { g with synced := f.bytes.length }) = E.files.modify i fun g => { g with synced := g.bytes.length } := by rw [modify_set _ hf, modify_set _ hf]
    rw [hmo] at hDs
    have HDs : Hid _ := hDs
    clear hmo hDs
    have HOs : Hid _ := hO1.trans (only_set (Only.refl o tg w1) (fun k _ e => by rw [e, hF.tp]) 2 (.int .i64 (f.bytes.length : Int)))
    have n1 : ¬ (d = p) := fun e => by have h1 := hD1.td; have h2 := hF.tp; rw [e, h2] at h1; simp at h1
    have n2 : ¬ (g = p) := fun e => by have h1 := hD1.rowTag r1; have h2 := hF.tp; rw [e, h2] at h1; simp at h1; omega
    clear hD1 hO1 hF hf hp hid
    go_upto_region 3 with fail
    refine wp_region_held_drew (S := fun w' => w'.cell? ⟨d, 1, none⟩ = some (.slice (some ⟨g, 0, none⟩) E.files.length cap) ∧ w'.cell? ⟨g, i, none⟩ = some (.pointer (some ⟨p, 0, none⟩)) ∧ w'.cell? ⟨p, 1, none⟩ = some (.slice bo f.bytes.length bc)) (by kernel_rfl) ⟨r1, r2, c1⟩ (fun hHeld => ?_)
    refine wpAnyH_take (i := 0) (v := ?_) rfl (by kernel_rfl) (by kernel_rfl) (by kernel_rfl) (fun _ _ _ h => h) (Or.inl ⟨by kernel_rfl, ?_⟩) hHeld ?_
    rotate_left
    · (intro w hSw; (try dsimp only at hSw); go_simp; try with_reducible rfl)
    try simp only [Act.put, List.getElem_toArray, List.getElem_cons_zero, List.setIfInBounds_toArray, List.set_cons_succ, List.set_cons_zero]
    refine wpAnyH_take (i := 1) (v := ?_) rfl (by kernel_rfl) (by kernel_rfl) (by kernel_rfl) (fun _ _ _ h => h) (Or.inl ⟨by kernel_rfl, ?_⟩) hHeld ?_
    rotate_left
    · (intro w hSw; (try dsimp only at hSw); go_simp; try with_reducible rfl)
    try simp only [Act.put, List.getElem_toArray, List.getElem_cons_succ, List.getElem_cons_zero, List.setIfInBounds_toArray, List.set_cons_succ, List.set_cons_zero]
    refine wpAnyH_take (i := 2) (v := ?_) rfl (by kernel_rfl) (by kernel_rfl) (by kernel_rfl) (fun _ _ _ h => h) (Or.inl ⟨by kernel_rfl, ?_⟩) hHeld ?_
    rotate_left
    · (intro w hSw; (try dsimp only at hSw); go_simp; try with_reducible rfl)
    try simp only [Act.put, List.getElem_toArray, List.getElem_cons_succ, List.getElem_cons_zero, List.setIfInBounds_toArray, List.set_cons_succ, List.set_cons_zero]
    refine wpAnyH_take (i := 3) (v := ?_) rfl (by kernel_rfl) (by kernel_rfl) (by kernel_rfl) (fun _ _ _ h => h) (Or.inl ⟨by kernel_rfl, ?_⟩) hHeld ?_
    rotate_left
    · (intro w hSw; (try dsimp only at hSw); go_simp; try with_reducible rfl)
    try simp only [Act.put, List.getElem_toArray, List.getElem_cons_succ, List.getElem_cons_zero, List.setIfInBounds_toArray, List.set_cons_succ, List.set_cons_zero]
    refine wpAnyH_take (i := 4) (v := ?_) rfl (by kernel_rfl) (by kernel_rfl) (by kernel_rfl) (fun _ _ _ h => h) (Or.inl ⟨by kernel_rfl, ?_⟩) hHeld ?_
    rotate_left
    · (intro w hSw; (try dsimp only at hSw); go_simp; try with_reducible rfl)
    try simp only [Act.put, List.getElem_toArray, List.getElem_cons_succ, List.getElem_cons_zero, List.setIfInBounds_toArray, List.set_cons_succ, List.set_cons_zero]
    refine wpAnyH_take (i := 5) (v := ?_) rfl (by kernel_rfl) (by kernel_rfl) (by kernel_rfl) (fun _ _ _ h => h) (Or.inl ⟨by kernel_rfl, ?_⟩) hHeld ?_
    rotate_left
    · (intro w hSw; (try dsimp only at hSw); go_simp; try with_reducible rfl)
    try simp only [Act.put, List.getElem_toArray, List.getElem_cons_succ, List.getElem_cons_zero, List.setIfInBounds_toArray, List.set_cons_succ, List.set_cons_zero]
    refine wpAnyH_take (i := 6) (v := ?_) rfl (by kernel_rfl) (by kernel_rfl) (by kernel_rfl) (fun _ _ _ h => h) (Or.inl ⟨by kernel_rfl, ?_⟩) hHeld ?_
    rotate_left
    · (intro w hSw; (try dsimp only at hSw); go_simp; try with_reducible rfl)
    try simp only [Act.put, List.getElem_toArray, List.getElem_cons_succ, List.getElem_cons_zero, List.setIfInBounds_toArray, List.set_cons_succ, List.set_cons_zero]
    refine wpAnyH_take (i := 7) (v := ?_) rfl (by kernel_rfl) (by kernel_rfl) (by kernel_rfl) (fun _ _ _ h => h) (Or.inl ⟨by kernel_rfl, ?_⟩) hHeld ?_
    rotate_left
    · (intro w hSw; (try dsimp only at hSw); go_simp; try with_reducible rfl)
    try simp only [Act.put, List.getElem_toArray, List.getElem_cons_succ, List.getElem_cons_zero, List.setIfInBounds_toArray, List.set_cons_succ, List.set_cons_zero]
    refine wpAnyH_take (i := 8) (v := ?_) rfl (by kernel_rfl) (by kernel_rfl) (by kernel_rfl) (fun _ _ _ h => h) (Or.inl ⟨by kernel_rfl, ?_⟩) hHeld ?_
    rotate_left
    · (intro w hSw; (try dsimp only at hSw); go_simp; try with_reducible rfl)
    try simp only [Act.put, List.getElem_toArray, List.getElem_cons_succ, List.getElem_cons_zero, List.setIfInBounds_toArray, List.set_cons_succ, List.set_cons_zero]
    refine wpAnyH_take (i := 9) (v := ?_) rfl (by kernel_rfl) (by kernel_rfl) (by kernel_rfl) (fun _ _ _ h => h) (Or.inl ⟨by kernel_rfl, ?_⟩) hHeld ?_
    rotate_left
    · (intro w hSw; (try dsimp only at hSw); go_simp; try with_reducible rfl)
    try simp only [Act.put, List.getElem_toArray, List.getElem_cons_succ, List.getElem_cons_zero, List.setIfInBounds_toArray, List.set_cons_succ, List.set_cons_zero]
    refine wpAnyH_take (i := 10) (v := ?_) rfl (by kernel_rfl) (by kernel_rfl) (by kernel_rfl) (fun _ _ _ h => h) (Or.inl ⟨by kernel_rfl, ?_⟩) hHeld ?_
    rotate_left
    · (intro w hSw; (try dsimp only at hSw); go_simp; try with_reducible rfl)
    try simp only [Act.put, List.getElem_toArray, List.getElem_cons_succ, List.getElem_cons_zero, List.setIfInBounds_toArray, List.set_cons_succ, List.set_cons_zero]
    refine wpAnyH_take (i := 11) (v := ?_) rfl (by kernel_rfl) (by kernel_rfl) (by kernel_rfl) (fun _ _ _ h => h) (Or.inl ⟨by kernel_rfl, ?_⟩) hHeld ?_
    rotate_left
    · (intro w hSw; (try dsimp only at hSw); go_simp; try with_reducible rfl)
    try simp only [Act.put, List.getElem_toArray, List.getElem_cons_succ, List.getElem_cons_zero, List.setIfInBounds_toArray, List.set_cons_succ, List.set_cons_zero]
    refine wpAnyH_take (i := 12) (v := ?_) rfl (by kernel_rfl) (by kernel_rfl) (by kernel_rfl) (fun _ _ _ h => h) (Or.inl ⟨by kernel_rfl, ?_⟩) hHeld ?_
    rotate_left
    · (intro w hSw; (try dsimp only at hSw); go_simp; try with_reducible rfl)
    try simp only [Act.put, List.getElem_toArray, List.getElem_cons_succ, List.getElem_cons_zero, List.setIfInBounds_toArray, List.set_cons_succ, List.set_cons_zero]
    refine wpAnyH_take (i := 13) (v := ?_) rfl (by kernel_rfl) (by kernel_rfl) (by kernel_rfl) (fun _ _ _ h => h) (Or.inl ⟨by kernel_rfl, ?_⟩) hHeld ?_
    rotate_left
    · (intro w hSw; (try dsimp only at hSw); go_simp; try with_reducible rfl)
    try simp only [Act.put, List.getElem_toArray, List.getElem_cons_succ, List.getElem_cons_zero, List.setIfInBounds_toArray, List.set_cons_succ, List.set_cons_zero]
    refine wpAnyH_take (i := 14) (v := ?_) rfl (by kernel_rfl) (by kernel_rfl) (by kernel_rfl) (fun _ _ _ h => h) (Or.inl ⟨by kernel_rfl, ?_⟩) hHeld ?_
    rotate_left
    · (intro w hSw; (try dsimp only at hSw); go_simp; try with_reducible rfl)
    try simp only [Act.put, List.getElem_toArray, List.getElem_cons_succ, List.getElem_cons_zero, List.setIfInBounds_toArray, List.set_cons_succ, List.set_cons_zero]
    refine wpAnyH_take (i := 15) (v := ?_) rfl (by kernel_rfl) (by kernel_rfl) (by kernel_rfl) (fun _ _ _ h => h) (Or.inl ⟨by kernel_rfl, ?_⟩) hHeld ?_
    rotate_left
    · (intro w hSw; (try dsimp only at hSw); go_simp; try with_reducible rfl)
    try simp only [Act.put, List.getElem_toArray, List.getElem_cons_succ, List.getElem_cons_zero, List.setIfInBounds_toArray, List.set_cons_succ, List.set_cons_zero]
    refine wpAnyH_take (i := 16) (v := ?_) rfl (by kernel_rfl) (by kernel_rfl) (by kernel_rfl) (fun _ _ _ h => h) (Or.inl ⟨by kernel_rfl, ?_⟩) hHeld ?_
    rotate_left
    · (intro w hSw; (try dsimp only at hSw); go_simp; try with_reducible rfl)
    try simp only [Act.put, List.getElem_toArray, List.getElem_cons_succ, List.getElem_cons_zero, List.setIfInBounds_toArray, List.set_cons_succ, List.set_cons_zero]
    refine wpAnyH_take (i := 17) (v := ?_) rfl (by kernel_rfl) (by kernel_rfl) (by kernel_rfl) (fun _ _ _ h => h) (Or.inl ⟨by kernel_rfl, ?_⟩) hHeld ?_
    rotate_left
    · (intro w hSw; (try dsimp only at hSw); go_simp; try with_reducible rfl)
    try simp only [Act.put, List.getElem_toArray, List.getElem_cons_succ, List.getElem_cons_zero, List.setIfInBounds_toArray, List.set_cons_succ, List.set_cons_zero]
    refine wpAnyH_take (i := 18) (v := ?_) rfl (by kernel_rfl) (by kernel_rfl) (by kernel_rfl) (fun _ _ _ h => h) (Or.inl ⟨by kernel_rfl, ?_⟩) hHeld ?_
    rotate_left
    · (intro w hSw; (try dsimp only at hSw); go_simp; try with_reducible rfl)
    try simp only [Act.put, List.getElem_toArray, List.getElem_cons_succ, List.getElem_cons_zero, List.setIfInBounds_toArray, List.set_cons_succ, List.set_cons_zero]
    refine wpAnyH_take (i := 19) (v := ?_) rfl (by kernel_rfl) (by kernel_rfl) (by kernel_rfl) (fun _ _ _ h => h) (Or.inl ⟨by kernel_rfl, ?_⟩) hHeld ?_
    rotate_left
    · (intro w hSw; (try dsimp only at hSw); go_simp; try with_reducible rfl)
    try simp only [Act.put, List.getElem_toArray, List.getElem_cons_succ, List.getElem_cons_zero, List.setIfInBounds_toArray, List.set_cons_succ, List.set_cons_zero]

    refine wpAnyH_ready (rs := [20]) (by kernel_rfl) (by simp) ?_
    refine AllReadyH.cons rfl (fun K hK => ?_) AllReadyH.nil
    go_simp
    refine hK.out _ _ ⟨kept_set r1 (by simp), kept_set r2 (by intro e; injection e with e1; exact n2 e1), kept_set c1 (by simp)⟩ (fun hHeld0 => ?_)
    clear hK K hHeld hHeld0
    refine wpAnyH_done (by kernel_rfl) ?_ _
    go_wp2_with fail
    go_ret
    exact ⟨rfl, HDs.out.kept (Q.refl _).drew, HOs.out.trans (Only.of_q (Q.refl _).drew)⟩
  · simp only [← hE]
    clear hE HFi
    have hcb : ((c : Int) == 0) = false := by simpa using hc
    go_enter Try.func75, Try.ntmps75
    go_wp2_with fail
    refine (HCh.out ()).mono ?_
    rintro e w1 ⟨rfl, hD1, hO1⟩
    have HD1 : Hid _ := hD1
    have HO1 : Hid _ := hO1
    clear hD1 hO1
    go_wp2_with fail
    go_ret
    exact ⟨rfl, HD1.out, HO1.out⟩
end Go.Proofs.Ytekdenkllipehaa
