import Derived.Test.YtcacednpgpkejaaDoorTNum
import Derived.Test.YtcacednpgpkejaaDoorLrdM
import Derived.Test.YtcacednpgpkejaaDoorRefScan
import Derived.Test.YtcacednpgpkejaaDoorOwn
import Derived.Test.YtcacednpgpkejaaDoorParseM
import Derived.Deep.RegionHeld3
import Derived.Deep.DeepCutAuto
/-
  The landed block's reader: a number and bytes read at its place.
-/
namespace Go.Proofs.YtcacednpgpkejaaDoor
open Go.RowKit

/-- A reader lies in block C: its text, its place. -/
structure RdAt (w : World) (C : Nat) (s : ByteArray) (a : Nat) : Prop where
  c0 : w.cell? ⟨C, 0, none⟩ = some (.string s)
  c1 : w.cell? ⟨C, 1, none⟩ = some (.int .i64 (a : Int))
  f1 : w.frozen? ⟨C, 1, none⟩ = false
  top : C < w.heap.size

theorem RdAt.kept {w w' : World} {C a : Nat} {s : ByteArray} (h : RdAt w C s a) (q : Q w w') : RdAt w' C s a :=
  ⟨kept_cell h.c0 q, kept_cell h.c1 q, (q.below.frozen (p := ⟨C, 1, none⟩) h.top).trans h.f1, Nat.lt_of_lt_of_le h.top q.below.size⟩

theorem RdAt.moved {w : World} {C a : Nat} {s : ByteArray} (h : RdAt w C s a) (a' : Nat) : RdAt (w.setCell ⟨C, 1, none⟩ (.int .i64 (a' : Int))) C s a' := by
  refine ⟨?_, World.cell?_setCell_same _ _ _ h.c1, ?_, by simpa using h.top⟩
  · rw [World.cell?_setCell_other _ _ _ _ (by simp)]; exact h.c0
  · rw [World.frozen?_setCell]; exact h.f1

theorem RdAt.grown {w w' : World} {C a : Nat} {s : ByteArray} {row : Option Nat} (h : RdAt w C s a) (hg : w.grownBy w' row) (hne : row ≠ some C) : RdAt w' C s a := by
  have hb : w'.heap[C]? = w.heap[C]? := hg.block C h.top (fun e => hne e.symm)
  exact ⟨(World.cell?_of_block (a := ⟨C, 0, none⟩) hb).trans h.c0, (World.cell?_of_block (a := ⟨C, 1, none⟩) hb).trans h.c1, (World.frozen?_of_block (a := ⟨C, 1, none⟩) hb).trans h.f1, Nat.lt_of_lt_of_le h.top hg.size⟩

set_option maxRecDepth 100000 in
theorem rdNum_some (s : ByteArray) (hs : s.size ≤ 140737488351232) (a v nx C most : Nat) (hm : v ≤ most) (h : M.getAt s.data.toList a = some (v, nx)) (w : World) (hA : RdAt w C s a) :
    Calls Tryd.prog 40 #[.pointer (some ⟨C, 0, none⟩), .int .i64 (most : Int)] w fun e w' => e = .returned (.int .i64 (v : Int)) ∧ RdAt w' C s nx ∧ w.grownBy w' (some C) := by
  have HG : Hid _ := get_some s a v nx hs h
  have HA : Hid _ := hA
  obtain ⟨c0, c1, f1, top⟩ := hA
  clear h
  have hd : decide ((most : Int) < (v : Int)) = false := by simp; omega
  go_enter Tryd.func40, Tryd.ntmps40
  go_wp2_with fail
  go_quiet ((go_at_call 48; refine Calls.quiet_of_same (HG.out _)))
  go_wp2_with fail
  go_ret
  exact ⟨rfl, (HA.out.kept ((Q.refl _).drewN _)).moved nx, grown_set (grown_of_q ((Q.refl _).drewN _) _) _⟩

set_option maxRecDepth 100000 in
theorem rdNum_much (s : ByteArray) (hs : s.size ≤ 140737488351232) (a v nx C most : Nat) (hm : most < v) (h : M.getAt s.data.toList a = some (v, nx)) (w : World) (hA : RdAt w C s a) :
    Calls Tryd.prog 40 #[.pointer (some ⟨C, 0, none⟩), .int .i64 (most : Int)] w fun e w' => e = .returned (.int .i64 0) ∧ RdAt w' C s a ∧ w.grownBy w' (some C) := by
  have HG : Hid _ := get_some s a v nx hs h
  have HA : Hid _ := hA
  obtain ⟨c0, c1, f1, top⟩ := hA
  clear h
  have hd : (most : Int) < (v : Int) := by omega
  go_enter Tryd.func40, Tryd.ntmps40
  go_wp2_with fail
  go_quiet ((go_at_call 48; refine Calls.quiet_of_same (HG.out _)))
  go_wp2_with fail
  go_ret
  exact ⟨rfl, HA.out.kept ((Q.refl _).drewN _), grown_of_q ((Q.refl _).drewN _) _⟩

set_option maxRecDepth 100000 in
theorem rdNum_none (s : ByteArray) (hs : s.size ≤ 140737488351232) (a C most : Nat) (h : M.getAt s.data.toList a = none) (w : World) (hA : RdAt w C s a) :
    Calls Tryd.prog 40 #[.pointer (some ⟨C, 0, none⟩), .int .i64 (most : Int)] w fun e w' => e = .returned (.int .i64 0) ∧ RdAt w' C s a ∧ w.grownBy w' (some C) := by
  have HG : Hid _ := get_none s a hs h
  have HA : Hid _ := hA
  obtain ⟨c0, c1, f1, top⟩ := hA
  clear h
  go_enter Tryd.func40, Tryd.ntmps40
  go_wp2_with fail
  go_quiet ((go_at_call 48; refine Calls.quiet_of_same (HG.out _)))
  go_wp2_with fail
  go_ret
  exact ⟨rfl, HA.out.kept ((Q.refl _).drewN _), grown_of_q ((Q.refl _).drewN _) _⟩

/-- A number, whatever stands there. -/
theorem rdNum (s : ByteArray) (hs : s.size ≤ 140737488351232) (a C most : Nat) (w : World) (hA : RdAt w C s a) :
    Calls Tryd.prog 40 #[.pointer (some ⟨C, 0, none⟩), .int .i64 (most : Int)] w fun e w' => e = .returned (.int .i64 ((numTo s.data.toList most a).1 : Int)) ∧ RdAt w' C s (numTo s.data.toList most a).2 ∧ w.grownBy w' (some C) := by
  unfold numTo
  cases h : M.getAt s.data.toList a with
  | none => exact rdNum_none s hs a C most h w hA
  | some p =>
    obtain ⟨v, nx⟩ := p
    by_cases hm : most < v
    · simp only [if_pos hm]
      exact rdNum_much s hs a v nx C most hm h w hA
    · simp only [if_neg hm]
      exact rdNum_some s hs a v nx C most (by omega) h w hA

set_option maxRecDepth 100000 in
theorem rdTxt_long (s : ByteArray) (hs : s.size ≤ 140737488351232) (a C n : Nat) (hn : n < 72057594037927936) (ha : a ≤ s.size) (hl : s.size - a < n) (w : World) (hA : RdAt w C s a) :
    Calls Tryd.prog 49 #[.pointer (some ⟨C, 0, none⟩), .int .i64 (n : Int)] w fun e w' => e = .returned (.string ⟨#[]⟩) ∧ RdAt w' C s a ∧ w.grownBy w' (some C) := by
  have HA : Hid _ := hA
  obtain ⟨m, hm⟩ : ∃ m : Nat, m = s.size - a := ⟨_, rfl⟩
  have hw : IntKind.i64.wrap ((s.size : Int) - (a : Int)) = (m : Int) := by rw [IntKind.wrap_i64]; omega
  have hd : decide (m < n) = true := by simp; omega
  obtain ⟨c0, c1, f1, top⟩ := hA
  go_enter Tryd.func49, Tryd.ntmps49
  go_wp2_with fail
  go_quiet (fail)
  go_wp2_with fail
  go_ret
  exact ⟨rfl, HA.out.kept ((Q.refl _).drewN _), grown_of_q ((Q.refl _).drewN _) _⟩

set_option maxRecDepth 100000 in
set_option maxHeartbeats 800000 in
theorem rdTxt_good (s : ByteArray) (hs : s.size ≤ 140737488351232) (a C n : Nat) (ha : a + n ≤ s.size) (w : World) (hA : RdAt w C s a) :
    Calls Tryd.prog 49 #[.pointer (some ⟨C, 0, none⟩), .int .i64 (n : Int)] w fun e w' => e = .returned (.string (s.extract a (a + n))) ∧ RdAt w' C s (a + n) ∧ w.grownBy w' (some C) := by
  have HA : Hid _ := hA
  obtain ⟨m, hm⟩ : ∃ m : Nat, m = s.size - a := ⟨_, rfl⟩
  obtain ⟨z, hz⟩ : ∃ z : Nat, z = a + n := ⟨_, rfl⟩
  have hw : IntKind.i64.wrap ((s.size : Int) - (a : Int)) = (m : Int) := by rw [IntKind.wrap_i64]; omega
  have he : IntKind.i64.wrap ((a : Int) + (n : Int)) = (z : Int) := by rw [IntKind.wrap_i64]; omega
  have hd : decide (m < n) = false := by simp; omega
  have b1 : (a : Int) ≤ (z : Int) := by omega
  have b2 : (z : Int) ≤ (s.size : Int) := by omega
  have hx : (a : Int) + (n : Int) = (z : Int) := by omega
  rw [← hz]
  obtain ⟨c0, c1, f1, top⟩ := hA
  clear hz hm
  go_enter Tryd.func49, Tryd.ntmps49
  go_wp2_with fail
  go_quiet (fail)
  go_wp2_with fail
  go_quiet (fail)
  go_wp2_with fail
  go_ret
  exact ⟨rfl, (HA.out.kept ((Q.refl _).drewN _)).moved z, grown_set (grown_of_q ((Q.refl _).drewN _) _) _⟩

/-- Bytes, whatever stands there. -/
theorem rdTxt (s : ByteArray) (hs : s.size ≤ 140737488351232) (a C n : Nat) (hn : n < 72057594037927936) (ha : a ≤ s.size) (w : World) (hA : RdAt w C s a) :
    Calls Tryd.prog 49 #[.pointer (some ⟨C, 0, none⟩), .int .i64 (n : Int)] w fun e w' => e = .returned (.string ⟨(bytTo s.data.toList n a).1.toArray⟩) ∧ RdAt w' C s (bytTo s.data.toList n a).2 ∧ w.grownBy w' (some C) := by
  have hl : s.data.toList.length = s.size := by simp
  unfold bytTo
  by_cases h : s.size - a < n
  · rw [if_pos (by omega)]
    exact rdTxt_long s hs a C n hn ha h w hA
  · rw [if_neg (by omega)]
    have := rdTxt_good s hs a C n (by omega) w hA
    have e : s.extract a (a + n) = ⟨((s.data.toList.drop a).take n).toArray⟩ := by
      apply ByteArray.ext
      apply Array.toList_inj.1
      simp
    rw [e] at this
    exact this
end Go.Proofs.YtcacednpgpkejaaDoor

/-
  The landed block's reader: a record.
-/
namespace Go.Proofs.YtcacednpgpkejaaDoor
open Go.RowKit

theorem grown_trans {w w1 w2 : World} {row : Option Nat} (h : w.grownBy w1 row) (k : w1.grownBy w2 row) : w.grownBy w2 row :=
  ⟨k.os.trans h.os, k.tape.trans h.tape, k.output.trans h.output, Nat.le_trans h.size k.size, fun b hb hne => (k.block b (Nat.lt_of_lt_of_le hb h.size) hne).trans (h.block b hb hne)⟩
theorem grown_drew {w w1 : World} {row : Option Nat} (h : w.drew.grownBy w1 row) : w.grownBy w1 row := ⟨h.os, h.tape, h.output, h.size, h.block⟩

set_option maxRecDepth 100000 in
set_option maxHeartbeats 1600000 in
theorem record_any (s : ByteArray) (hs : s.size ≤ 140737488351232) (ah : ByteArray) (hah : ah.size ≤ 140737488351232) (a C : Nat) (ha : a ≤ s.size) (w : World) (hA : RdAt w C s a) :
    Calls Tryd.prog 41 #[.pointer (some ⟨C, 0, none⟩), .string ah] w fun e w' => e = .returned (recTo s.data.toList ah.data.toList a).1.val ∧ RdAt w' C s (recTo s.data.toList ah.data.toList a).2 ∧ w.grownBy w' (some C) := by
  have hlen : s.data.toList.length = s.size := by simp
  have hal : ah.data.toList.length = ah.size := by simp
  have hTl : a ≤ s.data.toList.length := by omega
  obtain ⟨⟨k, a1⟩, h1⟩ : ∃ p, p = numTo s.data.toList ah.data.toList.length a := ⟨_, rfl⟩
  have l1 := numTo_le (T := s.data.toList) (most := ah.data.toList.length) hTl
  rw [← h1] at l1
  obtain ⟨⟨m, a2⟩, h2⟩ : ∃ p, p = numTo s.data.toList 64 a1 := ⟨_, rfl⟩
  have l2 := numTo_le (T := s.data.toList) (most := 64) l1.1
  rw [← h2] at l2
  obtain ⟨⟨t, a3⟩, h3⟩ : ∃ p, p = bytTo s.data.toList m a2 := ⟨_, rfl⟩
  have l3 := bytTo_le (T := s.data.toList) (n := m) l2.1
  rw [← h3] at l3
  obtain ⟨⟨st, a4⟩, h4⟩ : ∃ p, p = numTo s.data.toList 1099511627776 a3 := ⟨_, rfl⟩
  have l4 := numTo_le (T := s.data.toList) (most := 1099511627776) l3.1
  rw [← h4] at l4
  obtain ⟨⟨kd, a5⟩, h5⟩ : ∃ p, p = numTo s.data.toList 2 a4 := ⟨_, rfl⟩
  have l5 := numTo_le (T := s.data.toList) (most := 2) l4.1
  rw [← h5] at l5
  obtain ⟨⟨z, a6⟩, h6⟩ : ∃ p, p = numTo s.data.toList 4200 a5 := ⟨_, rfl⟩
  have l6 := numTo_le (T := s.data.toList) (most := 4200) l5.1
  rw [← h6] at l6
  obtain ⟨⟨bd, a7⟩, h7⟩ : ∃ p, p = bytTo s.data.toList z a6 := ⟨_, rfl⟩
  have N1 : Hid _ := rdNum s hs a C ah.data.toList.length
  have N2 : Hid _ := rdNum s hs a1 C 64
  have X3 : Hid _ := rdTxt s hs a2 C m l2.2.2 (by rw [← hlen]; exact l2.1)
  have N4 : Hid _ := rdNum s hs a3 C 1099511627776
  have N5 : Hid _ := rdNum s hs a4 C 2
  have N6 : Hid _ := rdNum s hs a5 C 4200
  have X7 : Hid _ := rdTxt s hs a6 C z l6.2.2 (by rw [← hlen]; exact l6.1)
  rw [← h1, hal] at N1
  rw [← h2] at N2
  rw [← h3] at X3
  rw [← h4] at N4
  rw [← h5] at N5
  rw [← h6] at N6
  rw [← h7] at X7
  have E : recTo s.data.toList ah.data.toList a = (⟨⟨(ah.data.toList.take k ++ t).toArray⟩, (st : Int), (kd : Int), ⟨bd.toArray⟩⟩, a7) := by
    unfold recTo
    simp only [← h1]
    simp only [← h2]
    simp only [← h3]
    simp only [← h4]
    simp only [← h5]
    simp only [← h6]
    simp only [← h7]
  rw [E]
  have hk : k ≤ ah.size := by rw [← hal]; exact l1.2.1
  have ht : t.length ≤ 64 := by have := l3.2; have := l2.2.1; simp only at *; omega
  have hkey : ah.extract 0 k ++ ⟨t.toArray⟩ = (⟨(ah.data.toList.take k ++ t).toArray⟩ : ByteArray) := by
    apply ByteArray.ext
    apply Array.toList_inj.1
    simp
  simp only [Rec.val]
  rw [← hkey]
  have hts : (⟨t.toArray⟩ : ByteArray).size = t.length := rfl
  have hadd : ∀ W, (Op.stringOp .add (ah.extract 0 k) ⟨t.toArray⟩).run Tryd.prog W = .ok (.string (ah.extract 0 k ++ ⟨t.toArray⟩)) W := fun W => run_string_add_sum W _ _ (by rw [hts]; simp; omega)
  generalize (⟨t.toArray⟩ : ByteArray) = tx at *
  generalize (⟨bd.toArray⟩ : ByteArray) = bx at *
  obtain ⟨key, hke⟩ : ∃ key, key = ah.extract 0 k ++ tx := ⟨_, rfl⟩
  rw [← hke] at hadd ⊢
  have hC := hA.top
  have hA0 := hA.kept ((Q.refl w).alloc #[.string ⟨#[]⟩, .int .i64 0, .int .i64 0, .string ⟨#[]⟩] 30)
  have hV0 := var4_new w (.string ⟨#[]⟩) (.int .i64 0) (.int .i64 0) (.string ⟨#[]⟩) 30
  have hCR : (some C : Option Nat) ≠ some w.heap.size := by simp; omega
  have hkI : (k : Int) ≤ (ah.size : Int) := by omega
  clear h1 h2 h3 h4 h5 h6 h7 l1 l2 l3 l4 l5 l6 E hTl hts hkey hke hA ht
  go_enter Tryd.func41, Tryd.ntmps41
  go_wp2_with fail
  refine (N1.out _ hA0).mono ?_
  rintro e w1 ⟨rfl, hA1', g1⟩
  have hV1 := hV0.grown g1 hCR
  have hA1 := hA1'.kept (Q.refl _).drew
  go_upto_region 2 with fail
  refine wp_region_held_drew (S := fun _ => True) (by kernel_rfl) trivial (fun hHeld => ?_)
  refine wpAnyH_take (i := 0) (v := ?_) rfl (by kernel_rfl) (by kernel_rfl) (by kernel_rfl) (fun _ _ _ h => h) (Or.inl ⟨by kernel_rfl, ?_⟩) hHeld ?_
  rotate_left
  · (intro w hSw; (try dsimp only at hSw); go_simp; try with_reducible rfl)
  try simp only [Act.put, List.getElem_toArray, List.getElem_cons_zero, List.setIfInBounds_toArray, List.set_cons_succ, List.set_cons_zero]
  refine wpAnyH_take (i := 1) (v := ?_) rfl (by kernel_rfl) (by kernel_rfl) (by kernel_rfl) (fun _ _ _ h => h) (Or.inl ⟨by kernel_rfl, ?_⟩) hHeld ?_
  rotate_left
  · (intro w hSw; (try dsimp only at hSw); go_simp; try with_reducible rfl)
  try simp only [Act.put, List.getElem_toArray, List.getElem_cons_succ, List.getElem_cons_zero, List.setIfInBounds_toArray, List.set_cons_succ, List.set_cons_zero]
  refine wpAnyH_take (i := 2) (v := ?_) rfl (by kernel_rfl) (by kernel_rfl) (by kernel_rfl) (fun _ _ _ h => h) (Or.inl ⟨by kernel_rfl, ?_⟩) hHeld ?_
  rotate_left
  · (intro w hSw; (try dsimp only at hSw); go_simp; try with_reducible rfl)
  try simp only [Act.put, List.getElem_toArray, List.getElem_cons_succ, List.getElem_cons_zero, List.setIfInBounds_toArray, List.set_cons_succ, List.set_cons_zero]
  refine wpAnyH_take (i := 3) (v := ?_) rfl (by kernel_rfl) (by kernel_rfl) (by kernel_rfl) (fun _ _ _ h => h) (Or.inl ⟨by kernel_rfl, ?_⟩) hHeld ?_
  rotate_left
  · (intro w hSw; (try dsimp only at hSw); go_simp; try with_reducible rfl)
  try simp only [Act.put, List.getElem_toArray, List.getElem_cons_succ, List.getElem_cons_zero, List.setIfInBounds_toArray, List.set_cons_succ, List.set_cons_zero]
  refine wpAnyH_take (i := 4) (v := ?_) rfl (by kernel_rfl) (by kernel_rfl) (by kernel_rfl) (fun _ _ _ h => h) (Or.inl ⟨by kernel_rfl, ?_⟩) hHeld ?_
  rotate_left
  · (intro w hSw; (try dsimp only at hSw); go_simp; try with_reducible rfl)
  try simp only [Act.put, List.getElem_toArray, List.getElem_cons_succ, List.getElem_cons_zero, List.setIfInBounds_toArray, List.set_cons_succ, List.set_cons_zero]
  refine wpAnyH_take (i := 8) (v := ?_) rfl (by kernel_rfl) (by kernel_rfl) (by kernel_rfl) (fun _ _ _ h => h) (Or.inl ⟨by kernel_rfl, ?_⟩) hHeld ?_
  rotate_left
  · (intro w hSw; (try dsimp only at hSw); go_simp; try with_reducible rfl)
  try simp only [Act.put, List.getElem_toArray, List.getElem_cons_succ, List.getElem_cons_zero, List.setIfInBounds_toArray, List.set_cons_succ, List.set_cons_zero]
  refine wpAnyH_take (i := 10) (v := ?_) rfl (by kernel_rfl) (by kernel_rfl) (by kernel_rfl) (fun _ _ _ h => h) (Or.inl ⟨by kernel_rfl, ?_⟩) hHeld ?_
  rotate_left
  · (intro w hSw; (try dsimp only at hSw); go_simp; try with_reducible rfl)
  try simp only [Act.put, List.getElem_toArray, List.getElem_cons_succ, List.getElem_cons_zero, List.setIfInBounds_toArray, List.set_cons_succ, List.set_cons_zero]
  refine wpAnyH_take (i := 12) (v := ?_) rfl (by kernel_rfl) (by kernel_rfl) (by kernel_rfl) (fun _ _ _ h => h) (Or.inl ⟨by kernel_rfl, ?_⟩) hHeld ?_
  rotate_left
  · (intro w hSw; (try dsimp only at hSw); go_simp; try with_reducible rfl)
  try simp only [Act.put, List.getElem_toArray, List.getElem_cons_succ, List.getElem_cons_zero, List.setIfInBounds_toArray, List.set_cons_succ, List.set_cons_zero]
  refine wpAnyH_take (i := 13) (v := ?_) rfl (by kernel_rfl) (by kernel_rfl) (by kernel_rfl) (fun _ _ _ h => h) (Or.inl ⟨by kernel_rfl, ?_⟩) hHeld ?_
  rotate_left
  · (intro w hSw; (try dsimp only at hSw); go_simp; try with_reducible rfl)
  try simp only [Act.put, List.getElem_toArray, List.getElem_cons_succ, List.getElem_cons_zero, List.setIfInBounds_toArray, List.set_cons_succ, List.set_cons_zero]
  refine wpAnyH_ready (rs := [5]) (by kernel_rfl) (by simp) ?_
  refine AllReadyH.cons rfl (fun K hK => ?_) AllReadyH.nil
  go_simp
  refine (N2.out _ hA1).mono ?_
  rintro e w2 ⟨rfl, hA2, g2⟩
  try go_wp2_with fail
  refine hK.out _ _ trivial (fun hHeld0 => ?_)
  clear hK K hHeld
  have hHeld := hHeld0
  clear hHeld0
  try simp only [Act.put, List.getElem_toArray, List.getElem_cons_succ, List.getElem_cons_zero, List.setIfInBounds_toArray, List.set_cons_succ, List.set_cons_zero]
  refine wpAnyH_ready (rs := [6]) (by kernel_rfl) (by simp) ?_
  refine AllReadyH.cons rfl (fun K hK => ?_) AllReadyH.nil
  go_simp
  refine (X3.out _ hA2).mono ?_
  rintro e w3 ⟨rfl, hA3, g3⟩
  try go_wp2_with fail
  refine hK.out _ _ trivial (fun hHeld0 => ?_)
  clear hK K hHeld
  have hHeld := hHeld0
  clear hHeld0
  try simp only [Act.put, List.getElem_toArray, List.getElem_cons_succ, List.getElem_cons_zero, List.setIfInBounds_toArray, List.set_cons_succ, List.set_cons_zero]
  refine wpAnyH_take (i := 7) (v := ?_) rfl (by kernel_rfl) (by kernel_rfl) (by kernel_rfl) (fun _ _ _ h => h) (Or.inl ⟨by kernel_rfl, ?_⟩) hHeld ?_
  rotate_left
  · (intro w hSw; (try dsimp only at hSw); go_simp; try with_reducible rfl)
  try simp only [Act.put, List.getElem_toArray, List.getElem_cons_succ, List.getElem_cons_zero, List.setIfInBounds_toArray, List.set_cons_succ, List.set_cons_zero]
  refine wpAnyH_ready (rs := [9]) (by kernel_rfl) (by simp) ?_
  refine AllReadyH.cons rfl (fun K hK => ?_) AllReadyH.nil
  go_simp
  refine (N4.out _ hA3).mono ?_
  rintro e w4 ⟨rfl, hA4, g4⟩
  try go_wp2_with fail
  refine hK.out _ _ trivial (fun hHeld0 => ?_)
  clear hK K hHeld
  have hHeld := hHeld0
  clear hHeld0
  try simp only [Act.put, List.getElem_toArray, List.getElem_cons_succ, List.getElem_cons_zero, List.setIfInBounds_toArray, List.set_cons_succ, List.set_cons_zero]
  refine wpAnyH_ready (rs := [11]) (by kernel_rfl) (by simp) ?_
  refine AllReadyH.cons rfl (fun K hK => ?_) AllReadyH.nil
  go_simp
  refine (N5.out _ hA4).mono ?_
  rintro e w5 ⟨rfl, hA5, g5⟩
  try go_wp2_with fail
  refine hK.out _ _ trivial (fun hHeld0 => ?_)
  clear hK K hHeld
  have hHeld := hHeld0
  clear hHeld0
  try simp only [Act.put, List.getElem_toArray, List.getElem_cons_succ, List.getElem_cons_zero, List.setIfInBounds_toArray, List.set_cons_succ, List.set_cons_zero]
  refine wpAnyH_ready (rs := [14]) (by kernel_rfl) (by simp) ?_
  refine AllReadyH.cons rfl (fun K hK => ?_) AllReadyH.nil
  go_simp
  refine (N6.out _ hA5).mono ?_
  rintro e w6 ⟨rfl, hA6, g6⟩
  try go_wp2_with fail
  refine hK.out _ _ trivial (fun hHeld0 => ?_)
  clear hK K hHeld
  have hHeld := hHeld0
  clear hHeld0
  try simp only [Act.put, List.getElem_toArray, List.getElem_cons_succ, List.getElem_cons_zero, List.setIfInBounds_toArray, List.set_cons_succ, List.set_cons_zero]
  refine wpAnyH_ready (rs := [15]) (by kernel_rfl) (by simp) ?_
  refine AllReadyH.cons rfl (fun K hK => ?_) AllReadyH.nil
  go_simp
  refine (X7.out _ hA6).mono ?_
  rintro e w7 ⟨rfl, hA7, g7⟩
  try go_wp2_with fail
  refine hK.out _ _ trivial (fun hHeld0 => ?_)
  clear hK K hHeld
  have hHeld := hHeld0
  clear hHeld0
  try simp only [Act.put, List.getElem_toArray, List.getElem_cons_succ, List.getElem_cons_zero, List.setIfInBounds_toArray, List.set_cons_succ, List.set_cons_zero]
  refine wpAnyH_take (i := 16) (v := ?_) rfl (by kernel_rfl) (by kernel_rfl) (by kernel_rfl) (fun _ _ _ h => h) (Or.inl ⟨by kernel_rfl, ?_⟩) hHeld ?_
  rotate_left
  · (intro w hSw; (try dsimp only at hSw); go_simp; try with_reducible rfl)
  try simp only [Act.put, List.getElem_toArray, List.getElem_cons_succ, List.getElem_cons_zero, List.setIfInBounds_toArray, List.set_cons_succ, List.set_cons_zero]
  have hV := (((((hV1.grown (grown_drew g2) hCR).grown g3 hCR).grown g4 hCR).grown g5 hCR).grown g6 hCR).grown g7 hCR
  have r0 := hV.c0
  have r1 := hV.c1
  have r2 := hV.c2
  have r3 := hV.c3
  have r4 := hV.fr 0
  have r5 := hV.fr 1
  have r6 := hV.fr 2
  have r7 := hV.fr 3
  refine wpAnyH_ready (rs := [17]) (by kernel_rfl) (by simp) ?_
  refine AllReadyH.cons rfl (fun K hK => ?_) AllReadyH.nil
  go_simp
  have hVs := hV.set (.string key) (.int .i64 (st : Int)) (.int .i64 (kd : Int)) (.string bx)
  have hgs := set4_grown w7 w.heap.size (.string key) (.int .i64 (st : Int)) (.int .i64 (kd : Int)) (.string bx)
  generalize ((((w7.setCell ⟨w.heap.size, 0, none⟩ (.string key)).setCell ⟨w.heap.size, 1, none⟩ (.int .i64 (st : Int))).setCell ⟨w.heap.size, 2, none⟩ (.int .i64 (kd : Int))).setCell ⟨w.heap.size, 3, none⟩ (.string bx)) = wz at *
  refine hK.out _ _ trivial (fun hHeld0 => ?_)
  clear hK K hHeld hHeld0
  refine wpAnyH_done (by kernel_rfl) ?_ _
  have y0 := hVs.c0
  have y1 := hVs.c1
  have y2 := hVs.c2
  have y3 := hVs.c3
  go_wp2_with fail
  refine bodyPost_ret (v := .agg #[.string key, .int .i64 (st : Int), .int .i64 (kd : Int), .string bx]) (by simp [results, Tryd.results41, go_sem, y0, y1, y2, y3]) rfl ?_
  refine ⟨rfl, hA7.grown hgs (by simp; omega), ?_⟩
  have G := grown_trans (grown_trans (grown_trans (grown_trans (grown_trans (grown_trans g1 (grown_drew g2)) g3) g4) g5) g6) g7
  refine ⟨hgs.os.trans G.os, hgs.tape.trans G.tape, hgs.output.trans G.output, ?_, fun b hb hne => ?_⟩
  · have h1 := G.size
    have h2 := hgs.size
    simp at h1
    omega
  · have h1 := G.size
    simp at h1
    exact (hgs.block b (by omega) (by simp; omega)).trans ((G.block b (by simp; omega) hne).trans (heap_alloc_old w _ hb))
end Go.Proofs.YtcacednpgpkejaaDoor
