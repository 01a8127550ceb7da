import Derived.Test.YtekdenkllipehaaDoorTNum
import Derived.Test.YtekdenkllipehaaDoorLrdM
import Derived.Test.YtekdenkllipehaaDoorOwn
import Derived.Deep.RegionHeld3
import Derived.Deep.DeepCutAuto
import Derived.Deep.QuietTactic
import Derived.BigQuiet
import Derived.Deep.RegionWith
import Derived.Laws.Cover1
/-
  The landed reader of texts: a number and bytes read at its place.
-/
namespace Go.Proofs.YtekdenkllipehaaDoor
open Go.RowKit

/-- A reader lies in block C: its text, its place, whether something was not there. -/
structure RdAt (w : World) (C : Nat) (s : ByteArray) (a : Nat) (fl : Bool) : Prop where
  c0 : w.cell? ⟨C, 0, none⟩ = some (.string s)
  c1 : w.cell? ⟨C, 1, none⟩ = some (.int .i64 (a : Int))
  c2 : w.cell? ⟨C, 2, none⟩ = some (.bool fl)
  f1 : w.frozen? ⟨C, 1, none⟩ = false
  f2 : w.frozen? ⟨C, 2, none⟩ = false
  top : C < w.heap.size

theorem RdAt.kept {w w' : World} {C a : Nat} {s : ByteArray} {fl : Bool} (h : RdAt w C s a fl) (q : Q w w') : RdAt w' C s a fl :=
  ⟨kept_cell h.c0 q, kept_cell h.c1 q, kept_cell h.c2 q, (q.below.frozen (p := ⟨C, 1, none⟩) h.top).trans h.f1, (q.below.frozen (p := ⟨C, 2, none⟩) h.top).trans h.f2, Nat.lt_of_lt_of_le h.top q.below.size⟩

theorem RdAt.moved {w : World} {C a : Nat} {s : ByteArray} {fl : Bool} (h : RdAt w C s a fl) (a' : Nat) : RdAt (w.setCell ⟨C, 1, none⟩ (.int .i64 (a' : Int))) C s a' fl := by
  refine ⟨?_, World.cell?_setCell_same _ _ _ h.c1, ?_, ?_, ?_, by simpa using h.top⟩
  · rw [World.cell?_setCell_other _ _ _ _ (by simp)]; exact h.c0
  · rw [World.cell?_setCell_other _ _ _ _ (by simp)]; exact h.c2
  · rw [World.frozen?_setCell]; exact h.f1
  · rw [World.frozen?_setCell]; exact h.f2

theorem RdAt.marked {w : World} {C a : Nat} {s : ByteArray} {fl : Bool} (h : RdAt w C s a fl) (fl' : Bool) : RdAt (w.setCell ⟨C, 2, none⟩ (.bool fl')) C s a fl' := by
  refine ⟨?_, ?_, World.cell?_setCell_same _ _ _ h.c2, ?_, ?_, by simpa using h.top⟩
  · rw [World.cell?_setCell_other _ _ _ _ (by simp)]; exact h.c0
  · rw [World.cell?_setCell_other _ _ _ _ (by simp)]; exact h.c1
  · rw [World.frozen?_setCell]; exact h.f1
  · rw [World.frozen?_setCell]; exact h.f2

theorem RdAt.grown {w w' : World} {C a : Nat} {s : ByteArray} {fl : Bool} {row : Option Nat} (h : RdAt w C s a fl) (hg : w.grownBy w' row) (hne : row ≠ some C) : RdAt w' C s a fl := by
  have hb : w'.heap[C]? = w.heap[C]? := hg.block C h.top (fun e => hne e.symm)
  exact ⟨(World.cell?_of_block (a := ⟨C, 0, none⟩) hb).trans h.c0, (World.cell?_of_block (a := ⟨C, 1, none⟩) hb).trans h.c1, (World.cell?_of_block (a := ⟨C, 2, none⟩) hb).trans h.c2, (World.frozen?_of_block (a := ⟨C, 1, none⟩) hb).trans h.f1, (World.frozen?_of_block (a := ⟨C, 2, none⟩) hb).trans h.f2, Nat.lt_of_lt_of_le h.top hg.size⟩

theorem grown_trans {w w1 w2 : World} {row : Option Nat} (h : w.grownBy w1 row) (k : w1.grownBy w2 row) : w.grownBy w2 row :=
  ⟨k.os.trans h.os, k.tape.trans h.tape, k.output.trans h.output, Nat.le_trans h.size k.size, fun b hb hne => (k.block b (Nat.lt_of_lt_of_le hb h.size) hne).trans (h.block b hb hne)⟩

set_option maxRecDepth 100000 in
theorem rdRead (s : ByteArray) (w : World) :
    Calls Tryd.prog 40 #[.string s] w fun e w' => e = .returned (.pointer (some ⟨w.heap.size, 0, none⟩)) ∧ RdAt w' w.heap.size s 0 false ∧ Q w w' := by
  go_enter Tryd.func40, Tryd.ntmps40
  go_wp2_with fail
  go_ret
  exact ⟨rfl, ⟨by simp, by simp, by simp, by simp, by simp, by simp⟩, (Q.refl w).alloc _ _⟩

set_option maxRecDepth 100000 in
theorem rdFail (s : ByteArray) (_hs : s.size ≤ 140737488351232) (a C : Nat) (fl : Bool) (w : World) (hA : RdAt w C s a fl) :
    Calls Tryd.prog 50 #[.pointer (some ⟨C, 0, none⟩)] w fun e w' => e = .returned (.tuple #[]) ∧ RdAt w' C s s.size true ∧ w.grownBy w' (some C) := by
  have HA : Hid _ := (hA.moved s.size).marked true
  obtain ⟨c0, c1, c2, f1, f2, top⟩ := hA
  go_enter Tryd.func50, Tryd.ntmps50
  go_wp2_with fail
  go_end0
  exact ⟨rfl, HA.out, grown_set (grown_set (grown_of_q (Q.refl _) _) _) _⟩

set_option maxRecDepth 100000 in
theorem rdNum_some (s : ByteArray) (hs : s.size ≤ 140737488351232) (a v nx C most : Nat) (fl : Bool) (hm : v ≤ most) (h : M.getAt s.data.toList a = some (v, nx)) (w : World) (hA : RdAt w C s a fl) :
    Calls Tryd.prog 41 #[.pointer (some ⟨C, 0, none⟩), .int .i64 (most : Int)] w fun e w' => e = .returned (.int .i64 (v : Int)) ∧ RdAt w' C s nx fl ∧ w.grownBy w' (some C) := by
  have HG : Hid _ := get_some s a v nx hs h
  have HA : Hid _ := hA
  obtain ⟨c0, c1, c2, f1, f2, top⟩ := hA
  clear h
  have hd : decide ((most : Int) < (v : Int)) = false := by simp; omega
  go_enter Tryd.func41, Tryd.ntmps41
  go_wp2_with fail
  go_quiet ((go_at_call 49; refine Calls.quiet_of_same (HG.out _)))
  go_wp2_with fail
  go_ret
  exact ⟨rfl, (HA.out.kept ((Q.refl _).drewN _)).moved nx, grown_set (grown_of_q ((Q.refl _).drewN _) _) _⟩

set_option maxRecDepth 100000 in
theorem rdNum_much (s : ByteArray) (hs : s.size ≤ 140737488351232) (a v nx C most : Nat) (fl : Bool) (hm : most < v) (h : M.getAt s.data.toList a = some (v, nx)) (w : World) (hA : RdAt w C s a fl) :
    Calls Tryd.prog 41 #[.pointer (some ⟨C, 0, none⟩), .int .i64 (most : Int)] w fun e w' => e = .returned (.int .i64 0) ∧ RdAt w' C s s.size true ∧ w.grownBy w' (some C) := by
  have HG : Hid _ := get_some s a v nx hs h
  have HA : Hid _ := hA
  have HFl : Hid _ := fun W (q : Q w W) => rdFail s hs a C fl W (hA.kept q)
  obtain ⟨c0, c1, c2, f1, f2, top⟩ := hA
  clear h
  have hd : (most : Int) < (v : Int) := by omega
  go_enter Tryd.func41, Tryd.ntmps41
  go_wp2_with fail
  go_quiet ((go_at_call 49; refine Calls.quiet_of_same (HG.out _)))
  go_wp2_with fail
  refine (HFl.out _ ((Q.refl _).drewN _)).mono ?_
  rintro e w1 ⟨rfl, hA1, g1⟩
  go_wp2_with fail
  go_ret
  exact ⟨rfl, hA1, grown_trans (grown_of_q ((Q.refl _).drewN _) _) g1⟩

set_option maxRecDepth 100000 in
theorem rdNum_none (s : ByteArray) (hs : s.size ≤ 140737488351232) (a C most : Nat) (fl : Bool) (h : M.getAt s.data.toList a = none) (w : World) (hA : RdAt w C s a fl) :
    Calls Tryd.prog 41 #[.pointer (some ⟨C, 0, none⟩), .int .i64 (most : Int)] w fun e w' => e = .returned (.int .i64 0) ∧ RdAt w' C s s.size true ∧ w.grownBy w' (some C) := by
  have HG : Hid _ := get_none s a hs h
  have HA : Hid _ := hA
  have HFl : Hid _ := fun W (q : Q w W) => rdFail s hs a C fl W (hA.kept q)
  obtain ⟨c0, c1, c2, f1, f2, top⟩ := hA
  clear h
  go_enter Tryd.func41, Tryd.ntmps41
  go_wp2_with fail
  go_quiet ((go_at_call 49; refine Calls.quiet_of_same (HG.out _)))
  go_wp2_with fail
  refine (HFl.out _ ((Q.refl _).drewN _)).mono ?_
  rintro e w1 ⟨rfl, hA1, g1⟩
  go_wp2_with fail
  go_ret
  exact ⟨rfl, hA1, grown_trans (grown_of_q ((Q.refl _).drewN _) _) g1⟩

/-- A number, whatever stands there. -/
theorem rdNum (s : ByteArray) (hs : s.size ≤ 140737488351232) (a C most : Nat) (fl : Bool) (w : World) (hA : RdAt w C s a fl) :
    Calls Tryd.prog 41 #[.pointer (some ⟨C, 0, none⟩), .int .i64 (most : Int)] w fun e w' => e = .returned (.int .i64 ((numTo s.data.toList most a).1 : Int)) ∧ RdAt w' C s (numTo s.data.toList most a).2 (fl || numBad s.data.toList most a) ∧ w.grownBy w' (some C) := by
  have hl : s.data.toList.length = s.size := by simp
  unfold numTo numBad
  cases h : M.getAt s.data.toList a with
  | none =>
    simp only [Bool.or_true, hl]
    exact rdNum_none s hs a C most fl h w hA
  | some p =>
    obtain ⟨v, nx⟩ := p
    by_cases hm : most < v
    · simp only [hm, if_true, decide_true, Bool.or_true, hl]
      exact rdNum_much s hs a v nx C most fl hm h w hA
    · simp only [hm, if_false, decide_false, Bool.or_false]
      exact rdNum_some s hs a v nx C most fl (by omega) h w hA

set_option maxRecDepth 100000 in
theorem rdTxt_long (s : ByteArray) (hs : s.size ≤ 140737488351232) (a C n : Nat) (fl : Bool) (hn : n < 72057594037927936) (ha : a ≤ s.size) (hl : s.size - a < n) (w : World) (hA : RdAt w C s a fl) :
    Calls Tryd.prog 51 #[.pointer (some ⟨C, 0, none⟩), .int .i64 (n : Int)] w fun e w' => e = .returned (.string ⟨#[]⟩) ∧ RdAt w' C s s.size true ∧ w.grownBy w' (some C) := by
  have HFl : Hid _ := fun W (q : Q w W) => rdFail s hs a C fl W (hA.kept q)
  obtain ⟨m, hm⟩ : ∃ m : Nat, m = s.size - a := ⟨_, rfl⟩
  have hw : IntKind.i64.wrap ((s.size : Int) - (a : Int)) = (m : Int) := by rw [IntKind.wrap_i64]; omega
  have hd : decide (m < n) = true := by simp; omega
  obtain ⟨c0, c1, c2, f1, f2, top⟩ := hA
  go_enter Tryd.func51, Tryd.ntmps51
  go_wp2_with fail
  go_quiet (fail)
  go_wp2_with fail
  refine (HFl.out _ ((Q.refl _).drewN _)).mono ?_
  rintro e w1 ⟨rfl, hA1, g1⟩
  go_wp2_with fail
  go_ret
  exact ⟨rfl, hA1, grown_trans (grown_of_q ((Q.refl _).drewN _) _) g1⟩

set_option maxRecDepth 100000 in
set_option maxHeartbeats 800000 in
theorem rdTxt_good (s : ByteArray) (hs : s.size ≤ 140737488351232) (a C n : Nat) (fl : Bool) (ha : a + n ≤ s.size) (w : World) (hA : RdAt w C s a fl) :
    Calls Tryd.prog 51 #[.pointer (some ⟨C, 0, none⟩), .int .i64 (n : Int)] w fun e w' => e = .returned (.string (s.extract a (a + n))) ∧ RdAt w' C s (a + n) fl ∧ w.grownBy w' (some C) := by
  have HA : Hid _ := hA
  obtain ⟨m, hm⟩ : ∃ m : Nat, m = s.size - a := ⟨_, rfl⟩
  obtain ⟨z, hz⟩ : ∃ z : Nat, z = a + n := ⟨_, rfl⟩
  have hw : IntKind.i64.wrap ((s.size : Int) - (a : Int)) = (m : Int) := by rw [IntKind.wrap_i64]; omega
  have he : IntKind.i64.wrap ((a : Int) + (n : Int)) = (z : Int) := by rw [IntKind.wrap_i64]; omega
  have hd : decide (m < n) = false := by simp; omega
  have b1 : (a : Int) ≤ (z : Int) := by omega
  have b2 : (z : Int) ≤ (s.size : Int) := by omega
  have hx : (a : Int) + (n : Int) = (z : Int) := by omega
  rw [← hz]
  obtain ⟨c0, c1, c2, f1, f2, top⟩ := hA
  clear hz hm
  go_enter Tryd.func51, Tryd.ntmps51
  go_wp2_with fail
  go_quiet (fail)
  go_wp2_with fail
  go_quiet (fail)
  go_wp2_with fail
  go_ret
  exact ⟨rfl, (HA.out.kept ((Q.refl _).drewN _)).moved z, grown_set (grown_of_q ((Q.refl _).drewN _) _) _⟩

/-- Bytes, whatever stands there. -/
theorem rdTxt (s : ByteArray) (hs : s.size ≤ 140737488351232) (a C n : Nat) (fl : Bool) (hn : n < 72057594037927936) (ha : a ≤ s.size) (w : World) (hA : RdAt w C s a fl) :
    Calls Tryd.prog 51 #[.pointer (some ⟨C, 0, none⟩), .int .i64 (n : Int)] w fun e w' => e = .returned (.string ⟨(bytTo s.data.toList n a).1.toArray⟩) ∧ RdAt w' C s (bytTo s.data.toList n a).2 (fl || bytBad s.data.toList n a) ∧ w.grownBy w' (some C) := by
  have hl : s.data.toList.length = s.size := by simp
  unfold bytTo bytBad
  rw [hl]
  by_cases h : s.size - a < n
  · rw [if_pos h, decide_eq_true h, Bool.or_true]
    exact rdTxt_long s hs a C n fl hn ha h w hA
  · rw [if_neg h, decide_eq_false h, Bool.or_false]
    have := rdTxt_good s hs a C n fl (by omega) w hA
    have e : s.extract a (a + n) = ⟨((s.data.toList.drop a).take n).toArray⟩ := by
      apply ByteArray.ext
      apply Array.toList_inj.1
      simp
    rw [e] at this
    exact this

/-! Where nobody asks whether something was not there. -/
def RdIn (w : World) (C : Nat) (s : ByteArray) (a : Nat) : Prop := ∃ fl, RdAt w C s a fl
theorem RdIn.top {w : World} {C a : Nat} {s : ByteArray} (h : RdIn w C s a) : C < w.heap.size := by obtain ⟨_, h⟩ := h; exact h.top
theorem RdIn.kept {w w' : World} {C a : Nat} {s : ByteArray} (h : RdIn w C s a) (q : Q w w') : RdIn w' C s a := by obtain ⟨fl, h⟩ := h; exact ⟨fl, h.kept q⟩
theorem RdIn.grown {w w' : World} {C a : Nat} {s : ByteArray} {row : Option Nat} (h : RdIn w C s a) (hg : w.grownBy w' row) (hne : row ≠ some C) : RdIn w' C s a := by obtain ⟨fl, h⟩ := h; exact ⟨fl, h.grown hg hne⟩

theorem rdNumIn (s : ByteArray) (hs : s.size ≤ 140737488351232) (a C most : Nat) (w : World) (hA : RdIn w C s a) :
    Calls Tryd.prog 41 #[.pointer (some ⟨C, 0, none⟩), .int .i64 (most : Int)] w fun e w' => e = .returned (.int .i64 ((numTo s.data.toList most a).1 : Int)) ∧ RdIn w' C s (numTo s.data.toList most a).2 ∧ w.grownBy w' (some C) := by
  obtain ⟨fl, h⟩ := hA
  refine (rdNum s hs a C most fl w h).mono ?_
  rintro e w' ⟨h1, h2, h3⟩
  exact ⟨h1, ⟨_, h2⟩, h3⟩

theorem rdTxtIn (s : ByteArray) (hs : s.size ≤ 140737488351232) (a C n : Nat) (hn : n < 72057594037927936) (ha : a ≤ s.size) (w : World) (hA : RdIn w C s a) :
    Calls Tryd.prog 51 #[.pointer (some ⟨C, 0, none⟩), .int .i64 (n : Int)] w fun e w' => e = .returned (.string ⟨(bytTo s.data.toList n a).1.toArray⟩) ∧ RdIn w' C s (bytTo s.data.toList n a).2 ∧ w.grownBy w' (some C) := by
  obtain ⟨fl, h⟩ := hA
  refine (rdTxt s hs a C n fl hn ha w h).mono ?_
  rintro e w' ⟨h1, h2, h3⟩
  exact ⟨h1, ⟨_, h2⟩, h3⟩
end Go.Proofs.YtekdenkllipehaaDoor
