/-
  The reference's scan: a number and a text read at its place.
-/
import Derived.Test.YtekdenkllipehaaDoorOwn
import Derived.Test.YtekdenkllipehaaDoorRefGetAt
import Derived.Test.YtekdenkllipehaaDoorDrawn
import Derived.Deep.QuietTactic
import Derived.BigQuiet
import Derived.Deep.RegionWith
import Derived.Laws.Cover1
namespace Go.Proofs.YtekdenkllipehaaDoor
open Go.RowKit

/-- A scan lies in block C: its text, its place, whether it has failed. -/
structure ScanAt (w : World) (C : Nat) (s : ByteArray) (a : Nat) (bad : Bool) : Prop where
  c0 : w.cell? ⟨C, 0, none⟩ = some (.string s)
  c1 : w.cell? ⟨C, 1, none⟩ = some (.int .i64 (a : Int))
  c2 : w.cell? ⟨C, 2, none⟩ = some (.bool bad)
  f1 : w.frozen? ⟨C, 1, none⟩ = false
  f2 : w.frozen? ⟨C, 2, none⟩ = false
  top : C < w.heap.size

theorem ScanAt.kept {w w' : World} {C a : Nat} {s : ByteArray} {bad : Bool} (h : ScanAt w C s a bad) (q : Q w w') : ScanAt w' C s a bad :=
  ⟨kept_cell h.c0 q, kept_cell h.c1 q, kept_cell h.c2 q, (q.below.frozen (p := ⟨C, 1, none⟩) h.top).trans h.f1, (q.below.frozen (p := ⟨C, 2, none⟩) h.top).trans h.f2, Nat.lt_of_lt_of_le h.top q.below.size⟩

theorem ScanAt.moved {w : World} {C a : Nat} {s : ByteArray} {bad : Bool} (h : ScanAt w C s a bad) (a' : Nat) : ScanAt (w.setCell ⟨C, 1, none⟩ (.int .i64 (a' : Int))) C s a' bad := by
  refine ⟨?_, World.cell?_setCell_same _ _ _ h.c1, ?_, ?_, ?_, by simpa using h.top⟩
  · rw [World.cell?_setCell_other _ _ _ _ (by simp)]; exact h.c0
  · rw [World.cell?_setCell_other _ _ _ _ (by simp)]; exact h.c2
  · rw [World.frozen?_setCell]; exact h.f1
  · rw [World.frozen?_setCell]; exact h.f2

theorem ScanAt.failed {w : World} {C a : Nat} {s : ByteArray} {bad : Bool} (h : ScanAt w C s a bad) : ScanAt (w.setCell ⟨C, 2, none⟩ (.bool true)) C s a true := by
  refine ⟨?_, ?_, World.cell?_setCell_same _ _ _ h.c2, ?_, ?_, by simpa using h.top⟩
  · rw [World.cell?_setCell_other _ _ _ _ (by simp)]; exact h.c0
  · rw [World.cell?_setCell_other _ _ _ _ (by simp)]; exact h.c1
  · rw [World.frozen?_setCell]; exact h.f1
  · rw [World.frozen?_setCell]; exact h.f2

set_option maxRecDepth 100000 in
theorem number_some (s : ByteArray) (hs : s.size ≤ 140737488351232) (a v nx C : Nat) (bad : Bool) (h : M.getAt s.data.toList a = some (v, nx)) (w : World) (hA : ScanAt w C s a bad) :
    Calls Tryd.prog 29 #[.pointer (some ⟨C, 0, none⟩)] w fun e w' => e = .returned (.int .i64 (v : Int)) ∧ ScanAt w' C s nx bad ∧ w.grownBy w' (some C) := by
  have HG : Hid _ := refGet_some s a v nx hs h
  have HA : Hid _ := hA
  obtain ⟨c0, c1, c2, f1, f2, top⟩ := hA
  clear h
  go_enter Tryd.func29, Tryd.ntmps29
  go_wp2_with fail
  go_region_with (go_at_call 43; refine (HG.out _).mono ?_; rintro e w1 ⟨rfl, q1⟩)
  all_goals
    have hk := HA.out.kept (q_undrew q1)
    have k1 := hk.c1
    have g1 := hk.f1
    go_wp2_with fail
    go_ret
    exact ⟨rfl, hk.moved nx, grown_set (grown_of_q (q_undrew q1) _) _⟩

set_option maxRecDepth 100000 in
theorem number_none (s : ByteArray) (hs : s.size ≤ 140737488351232) (a C : Nat) (bad : Bool) (h : M.getAt s.data.toList a = none) (w : World) (hA : ScanAt w C s a bad) :
    Calls Tryd.prog 29 #[.pointer (some ⟨C, 0, none⟩)] w fun e w' => e = .returned (.int .i64 0) ∧ ScanAt w' C s a true ∧ w.grownBy w' (some C) := by
  have HG : Hid _ := refGet_none s a hs h
  have HA : Hid _ := hA
  obtain ⟨c0, c1, c2, f1, f2, top⟩ := hA
  clear h
  go_enter Tryd.func29, Tryd.ntmps29
  go_wp2_with fail
  go_region_with (go_at_call 43; refine (HG.out _).mono ?_; rintro e w1 ⟨rfl, q1⟩)
  all_goals
    have hk := HA.out.kept (q_undrew q1)
    have k1 := hk.c2
    have g1 := hk.f2
    go_wp2_with fail
    go_ret
    exact ⟨rfl, hk.failed, grown_set (grown_of_q (q_undrew q1) _) _⟩

set_option maxRecDepth 100000 in
theorem text_bad (s : ByteArray) (a C n : Nat) (w : World) (hA : ScanAt w C s a true) :
    Calls Tryd.prog 30 #[.pointer (some ⟨C, 0, none⟩), .int .i64 (n : Int)] w fun e w' => e = .returned (.string ⟨#[]⟩) ∧ ScanAt w' C s a true ∧ w.grownBy w' (some C) := by
  have HA : Hid _ := hA
  obtain ⟨c0, c1, c2, f1, f2, top⟩ := hA
  go_enter Tryd.func30, Tryd.ntmps30
  go_wp2_with fail
  go_quiet (fail)
  go_wp2_with fail
  go_ret
  exact ⟨rfl, (HA.out.kept ((Q.refl _).drewN _)).failed, grown_set (grown_of_q ((Q.refl _).drewN _) _) _⟩

set_option maxRecDepth 100000 in
theorem text_long (s : ByteArray) (hs : s.size ≤ 140737488351232) (a C n : Nat) (hn : n < 72057594037927936) (ha : a ≤ s.size) (hl : s.size - a < n) (w : World) (hA : ScanAt w C s a false) :
    Calls Tryd.prog 30 #[.pointer (some ⟨C, 0, none⟩), .int .i64 (n : Int)] w fun e w' => e = .returned (.string ⟨#[]⟩) ∧ ScanAt w' C s a true ∧ w.grownBy w' (some C) := by
  have HA : Hid _ := hA
  obtain ⟨m, hm⟩ : ∃ m : Nat, m = s.size - a := ⟨_, rfl⟩
  have hw : IntKind.i64.wrap ((s.size : Int) - (a : Int)) = (m : Int) := by rw [IntKind.wrap_i64]; omega
  have hd : decide (m < n) = true := by simp; omega
  obtain ⟨c0, c1, c2, f1, f2, top⟩ := hA
  go_enter Tryd.func30, Tryd.ntmps30
  go_wp2_with fail
  go_quiet (fail)
  go_wp2_with fail
  go_ret
  exact ⟨rfl, (HA.out.kept ((Q.refl _).drewN _)).failed, grown_set (grown_of_q ((Q.refl _).drewN _) _) _⟩

set_option maxRecDepth 100000 in
set_option maxHeartbeats 800000 in
theorem text_good (s : ByteArray) (hs : s.size ≤ 140737488351232) (a C n : Nat) (ha : a + n ≤ s.size) (w : World) (hA : ScanAt w C s a false) :
    Calls Tryd.prog 30 #[.pointer (some ⟨C, 0, none⟩), .int .i64 (n : Int)] w fun e w' => e = .returned (.string (s.extract a (a + n))) ∧ ScanAt w' C s (a + n) false ∧ w.grownBy w' (some C) := by
  have HA : Hid _ := hA
  obtain ⟨m, hm⟩ : ∃ m : Nat, m = s.size - a := ⟨_, rfl⟩
  obtain ⟨z, hz⟩ : ∃ z : Nat, z = a + n := ⟨_, rfl⟩
  have hw : IntKind.i64.wrap ((s.size : Int) - (a : Int)) = (m : Int) := by rw [IntKind.wrap_i64]; omega
  have he : Hid ((a : Int) + (n : Int) = (z : Int)) := by show _ = _; omega
  have hu : IntKind.i64.wrap ((z : Int) - (n : Int)) = (a : Int) := by rw [IntKind.wrap_i64]; omega
  have hd : decide (m < n) = false := by simp; omega
  have b1 : (a : Int) ≤ (z : Int) := by omega
  have b2 : (z : Int) ≤ (s.size : Int) := by omega
  rw [← hz]
  obtain ⟨c0, c1, c2, f1, f2, top⟩ := hA
  clear hz hm
  go_enter Tryd.func30, Tryd.ntmps30
  go_wp2_with fail
  go_quiet (fail)
  go_wp2_with fail
  rw [he.out]
  go_quiet (fail)
  go_wp2_with fail
  go_ret
  exact ⟨rfl, ((HA.out.kept ((Q.refl _).drewN _)).moved z).kept ((Q.refl _).drewN _), grown_q (grown_set (grown_of_q ((Q.refl _).drewN _) _) _) ((Q.refl _).drewN _)⟩

end Go.Proofs.YtekdenkllipehaaDoor
