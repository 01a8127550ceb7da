/-
  The landed disk: New, Arm, and what decides on a changing call.
-/
import Derived.Test.YtekdenkllipehaaLSize
import Derived.Test.YtekdenkllipehaaLGet
namespace Go.Proofs.Ytekdenkllipehaa
open Go.RowKit

/-- What a changing call comes to whose own error is c. -/
def M.Dsk.chg (D : M.Dsk) (c : Nat) : M.Dsk × Nat :=
  if D.dead = true then (D, 10) else if c ≠ 0 then (D, c) else match D.dies with | (E, true) => (E, 10) | (E, false) => (E, 0)

theorem chg_files (D : M.Dsk) (c : Nat) : (D.chg c).1.files = D.files := by
  unfold M.Dsk.chg
  have h := (M.dies_same D).1
  split
  · rfl
  · split
    · rfl
    · split
      · rename_i E hE; rw [hE] at h; exact h
      · rename_i E hE; rw [hE] at h; exact h

theorem M.Dsk.Fine.chg {D : M.Dsk} (h : D.Fine) (c : Nat) : (D.chg c).1.Fine := by
  unfold M.Dsk.chg
  have hd := h.dies
  split
  · exact h
  · split
    · exact h
    · split
      · rename_i E hE; rw [hE] at hd; exact hd
      · rename_i E hE; rw [hE] at hd; exact hd

/-- The error of a call that goes only if its names do. -/
def codeOf (b : Bool) : Nat := if b = true then 0 else 7

theorem changed_chg (D : M.Dsk) (nm new : ByteArray) : D.changed nm new = ((D.chg (codeOf ((M.place D.files nm).isSome && M.okName new))).1, (if (D.chg (codeOf ((M.place D.files nm).isSome && M.okName new))).2 = 0 then (M.place D.files nm).getD 0 else 0), (D.chg (codeOf ((M.place D.files nm).isSome && M.okName new))).2) := by
  unfold M.Dsk.changed M.Dsk.chg codeOf
  by_cases hd : D.dead = true
  · simp [hd]
  · simp only [if_neg hd]
    cases hp : M.place D.files nm with
    | none => simp
    | some i =>
      cases ho : M.okName new
      · simp
      · simp only [Option.isSome_some, Bool.and_true, if_true, ne_eq, not_true_eq_false, if_false, Option.getD_some, Bool.true_eq_false]
        split <;> simp_all

/-- The error of putting bytes behind a file. -/
def appCode (D : M.Dsk) (nm : ByteArray) (n : Nat) : Nat :=
  if M.okName nm = false then 7 else if D.cap < M.total D.files + n ∨ (M.place D.files nm = none ∧ 64 ≤ D.files.length) then 9 else 0

theorem append_chg (D : M.Dsk) (nm : ByteArray) (s : List UInt8) : D.append nm s = match D.chg (appCode D nm s.length) with
    | (E, 0) => (match M.place E.files nm with
      | some i => ({ E with files := E.files.modify i fun f => { f with bytes := f.bytes ++ s } }, 0)
      | none => ({ E with files := M.put E.files ⟨nm, s, 0⟩ }, 0))
    | (E, c) => (E, c) := by
  unfold M.Dsk.append M.Dsk.chg appCode
  by_cases hd : D.dead = true
  · simp [hd]
  · simp only [if_neg hd]
    by_cases ho : M.okName nm = false
    · simp [ho]
    · simp only [if_neg ho]
      by_cases hr : D.cap < M.total D.files + s.length ∨ (M.place D.files nm = none ∧ 64 ≤ D.files.length)
      · simp only [if_pos hr]
        simp
      · simp only [if_neg hr]
        simp only [ne_eq, not_true_eq_false, if_false]
        split
        · rename_i E hE; simp [hE]
        · rename_i E hE
          simp only [hE]
          cases M.place E.files nm <;> rfl

theorem LDiskAt.fuseSet {w : World} {tg : Tags} {o d : Nat} {D : M.Dsk} {ids ps : List Nat} (h : LDiskAt w tg o d D ids ps) (n : Nat) : LDiskAt (w.setCell ⟨d, 4, none⟩ (.int .i64 (n : Int))) tg o d ⟨D.cap, D.files, D.dead, n⟩ ids ps := by
  have hg : w.grownBy (w.setCell ⟨d, 4, none⟩ (.int .i64 (n : Int))) (some d) := ⟨rfl, rfl, rfl, by simp, fun k _ hk => heap_setCell_other w ⟨d, 4, none⟩ k _ (fun e => hk (by simp [e]))⟩
  exact h.header hg (fun j => by rw [World.frozen?_setCell]; exact h.map.fr j) (World.cell?_setCell_other _ _ _ _ (by simp)) (World.cell?_setCell_other _ _ _ _ (by simp)) D.dead n (by rw [World.cell?_setCell_other _ _ _ _ (by simp)]; exact h.c0) (by rw [World.cell?_setCell_other _ _ _ _ (by simp)]; exact h.c3) (World.cell?_setCell_same _ _ _ h.c4)

theorem LDiskAt.deadSet {w : World} {tg : Tags} {o d : Nat} {D : M.Dsk} {ids ps : List Nat} (h : LDiskAt w tg o d D ids ps) (b : Bool) : LDiskAt (w.setCell ⟨d, 3, none⟩ (.bool b)) tg o d ⟨D.cap, D.files, b, D.fuse⟩ ids ps := by
  have hg : w.grownBy (w.setCell ⟨d, 3, none⟩ (.bool b)) (some d) := ⟨rfl, rfl, rfl, by simp, fun k _ hk => heap_setCell_other w ⟨d, 3, none⟩ k _ (fun e => hk (by simp [e]))⟩
  exact h.header hg (fun j => by rw [World.frozen?_setCell]; exact h.map.fr j) (World.cell?_setCell_other _ _ _ _ (by simp)) (World.cell?_setCell_other _ _ _ _ (by simp)) b D.fuse (by rw [World.cell?_setCell_other _ _ _ _ (by simp)]; exact h.c0) (World.cell?_setCell_same _ _ _ h.c3) (by rw [World.cell?_setCell_other _ _ _ _ (by simp)]; exact h.c4)

set_option maxRecDepth 100000 in
theorem diskChange (tg : Tags) (o d : Nat) (D : M.Dsk) (ids ps : List Nat) (c : Nat) (hf : D.fuse ≤ 9223372036854775807) (w : World) (h : LDiskAt w tg o d D ids ps) :
    Calls Try.prog 96 #[.pointer (some ⟨d, 0, none⟩), .int .i64 (c : Int)] w fun e w' => e = .returned (.int .i64 ((D.chg c).2 : Nat)) ∧ LDiskAt w' tg o d (D.chg c).1 ids ps ∧ Only o tg w w' := by
  have HD : Hid (LDiskAt w tg o d D ids ps) := h
  have htop := h.map.top
  have htd := h.map.td
  have c3 := h.c3
  have c4 := h.c4
  have f3 := h.map.fr 3
  have f4 := h.map.fr 4
  clear h
  unfold M.Dsk.chg
  cases hd : D.dead
  · rw [hd] at c3
    simp only [Bool.false_eq_true, if_false]
    by_cases hc : c = 0
    · subst hc
      simp only [ne_eq, not_true_eq_false, if_false]
      unfold M.Dsk.dies
      by_cases h0 : 0 < D.fuse
      · obtain ⟨n, hn⟩ : ∃ n, D.fuse = n + 1 := ⟨D.fuse - 1, by omega⟩
        rw [if_pos h0]
        simp only [hn, Nat.add_sub_cancel]
        rw [hn] at c4
        have w1 : IntKind.i64.wrap ((n : Int) + 1 - 1) = (n : Int) := by rw [IntKind.wrap_i64]; omega
        have w2 : IntKind.i64.wrap (n : Int) = (n : Int) := by rw [IntKind.wrap_i64]; omega
        have hd0 : (((n : Int) + 1) == 0) = false := by rw [beq_eq_false_iff_ne]; omega
        by_cases hn0 : n = 0
        · subst hn0
          simp only [decide_true]
          have HD2 : Hid (LDiskAt ((w.setCell ⟨d, 4, none⟩ (.int .i64 ((0 : Nat) : Int))).setCell ⟨d, 3, none⟩ (.bool true)) tg o d ⟨D.cap, D.files, true, 0⟩ ids ps) := (HD.out.fuseSet 0).deadSet _
          have HO : Hid (Only o tg w ((w.setCell ⟨d, 4, none⟩ (.int .i64 ((0 : Nat) : Int))).setCell ⟨d, 3, none⟩ (.bool true))) := only_set (only_set (Only.refl o tg w) (fun k _ e => by rw [e, htd]) 4 _) (fun k _ e => by rw [e, htd]) 3 _
          clear h0 hn hf HD hd
          go_enter Try.func96, Try.ntmps96
          go_wp2_with fail
          go_ret
          exact ⟨rfl, HD2.out, HO.out⟩
        · simp only [decide_eq_false hn0]
          have HD2 : Hid (LDiskAt (w.setCell ⟨d, 4, none⟩ (.int .i64 (n : Int))) tg o d ⟨D.cap, D.files, D.dead, n⟩ ids ps) := HD.out.fuseSet n
          rw [hd] at HD2
          have HO : Hid (Only o tg w (w.setCell ⟨d, 4, none⟩ (.int .i64 (n : Int)))) := only_set (Only.refl o tg w) (fun k _ e => by rw [e, htd]) 4 _
          have hz0 : ((n : Int) == 0) = false := by rw [beq_eq_false_iff_ne]; omega
          clear h0 hn hf HD hd hn0
          go_enter Try.func96, Try.ntmps96
          go_wp2_with fail
          go_ret
          exact ⟨rfl, HD2.out, HO.out⟩
      · rw [if_neg h0]
        have hz : D.fuse = 0 := by omega
        rw [hz] at c4
        simp only [hd]
        clear h0 hz hf hd
        go_enter Try.func96, Try.ntmps96
        go_wp2_with fail
        go_ret
        exact ⟨rfl, HD.out, Only.refl o tg w⟩
    · rw [if_pos hc]
      have hcz : ((c : Int) == 0) = false := by rw [beq_eq_false_iff_ne]; omega
      clear hf hd
      go_enter Try.func96, Try.ntmps96
      go_wp2_with fail
      go_ret
      exact ⟨rfl, HD.out, Only.refl o tg w⟩
  · rw [hd] at c3
    simp only [if_true]
    clear hf hd
    go_enter Try.func96, Try.ntmps96
    go_wp2_with fail
    go_ret
    exact ⟨rfl, HD.out, Only.refl o tg w⟩

set_option maxRecDepth 100000 in
theorem diskArm (tg : Tags) (o d : Nat) (D : M.Dsk) (ids ps : List Nat) (n : Int) (w : World) (h : LDiskAt w tg o d D ids ps) :
    Calls Try.prog 80 #[.pointer (some ⟨d, 0, none⟩), .int .i64 n] w fun e w' => e = .returned (.int .i64 ((D.arm n).2 : Nat)) ∧ LDiskAt w' tg o d (D.arm n).1 ids ps ∧ Only o tg w w' := by
  have HD : Hid (LDiskAt w tg o d D ids ps) := h
  have htop := h.map.top
  have htd := h.map.td
  have c4 := h.c4
  have f4 := h.map.fr 4
  clear h
  unfold M.Dsk.arm
  by_cases h0 : n < 0
  · rw [if_pos h0]
    go_enter Try.func80, Try.ntmps80
    go_wp2_with fail
    go_ret
    exact ⟨rfl, HD.out, Only.refl o tg w⟩
  · rw [if_neg h0]
    obtain ⟨m, rfl⟩ := Int.eq_ofNat_of_zero_le (show 0 ≤ n by omega)
    have HD2 : Hid _ := HD.out.fuseSet m
    have HO : Hid _ := only_set (Only.refl o tg w) (fun k _ e => by rw [e, htd]) 4 (.int .i64 (m : Int))
    go_enter Try.func80, Try.ntmps80
    go_wp2_with fail
    go_ret
    exact ⟨rfl, HD2.out, HO.out⟩

set_option maxRecDepth 100000 in
theorem diskNamed (b : Bool) (w : World) :
    Calls Try.prog 101 #[.bool b] w fun e w' => e = .returned (.int .i64 (codeOf b : Nat)) ∧ w' = w := by
  cases b
  · go_enter Try.func101, Try.ntmps101
    go_wp2_with fail
    go_ret
    exact ⟨rfl, rfl⟩
  · go_enter Try.func101, Try.ntmps101
    go_wp2_with fail
    go_ret
    exact ⟨rfl, rfl⟩

set_option maxRecDepth 100000 in
theorem diskIsName (nm : ByteArray) (w : World) :
    Calls Try.prog 103 #[.string nm] w fun e w' => e = .returned (.bool (M.okName nm)) ∧ Q w w' := by
  have h1 : M.okName nm = (decide (1 ≤ nm.size) && decide (nm.size ≤ 32)) := by unfold M.okName; rw [Bool.decide_and]
  rw [h1]
  by_cases ha : 1 ≤ nm.size
  · by_cases hb : nm.size ≤ 32
    · have d1 : decide ((1 : Int) ≤ (nm.size : Int)) = true := by rw [decide_eq_true_eq]; omega
      have d2 : decide ((nm.size : Int) ≤ 32) = true := by rw [decide_eq_true_eq]; omega
      rw [decide_eq_true ha, decide_eq_true hb]
      go_enter Try.func103, Try.ntmps103
      go_wp2_with fail
      go_ret
      exact ⟨rfl, Q.refl w⟩
    · have d1 : decide ((1 : Int) ≤ (nm.size : Int)) = true := by rw [decide_eq_true_eq]; omega
      have d2 : decide ((nm.size : Int) ≤ 32) = false := by rw [decide_eq_false_iff_not]; omega
      rw [decide_eq_true ha, decide_eq_false hb]
      go_enter Try.func103, Try.ntmps103
      go_wp2_with fail
      go_ret
      exact ⟨rfl, Q.refl w⟩
  · have d1 : decide ((1 : Int) ≤ (nm.size : Int)) = false := by rw [decide_eq_false_iff_not]; omega
    rw [decide_eq_false ha]
    go_enter Try.func103, Try.ntmps103
    go_wp2_with fail
    go_ret
    exact ⟨rfl, Q.refl w⟩

theorem ldiskAt_new (tg : Tags) (o : Nat) (w : World) (c : Nat) (t : TypeId) : LDiskAt (w.alloc (.cells #[.int .i64 (c : Int), .slice none 0 0, .slice none 0 0, .bool false, .int .i64 0] t)) (tg.more w.heap.size o 0) o w.heap.size ⟨c, [], false, 0⟩ [] [] := by
  refine ⟨⟨fun j => by simp, Tags.more_new (Nat.le_refl _), by simp, ⟨none, 0, by simp [namesOf], World.ownsRow_nil _ _ _ _, fun g hg => by simp [Value.ownBlock] at hg⟩, ⟨none, 0, by simp [namesOf], World.ownsRow_nil _ _ _ _, fun g hg => by simp [Value.ownBlock] at hg⟩, rfl⟩, by simp, by simp, by simp, List.nodup_nil, rfl, fun i p id f h1 _ _ => by simp at h1⟩

set_option maxRecDepth 100000 in
theorem diskNew_yes (c : Nat) (hc : c ≤ 1048576) (tg : Tags) (o : Nat) (w : World) :
    Calls Try.prog 42 #[.int .i64 (c : Int)] w fun e w' => e = .returned (.tuple #[.pointer (some ⟨w.heap.size, 0, none⟩), .int .i64 0]) ∧ LDiskAt w' (tg.more w.heap.size o 0) o w.heap.size ⟨c, [], false, 0⟩ [] [] ∧ Q w w' := by
  have d1 : decide ((c : Int) < 0) = false := by rw [decide_eq_false_iff_not]; omega
  have d2 : decide ((1048576 : Int) < (c : Int)) = false := by rw [decide_eq_false_iff_not]; omega
  have HN : Hid _ := ldiskAt_new tg o w c 114
  go_enter Try.func42, Try.ntmps42
  go_wp2_with fail
  go_ret2
  exact ⟨rfl, HN.out, (Q.refl w).alloc _ _⟩

set_option maxRecDepth 100000 in
theorem diskNew_no (c : Int) (hc : c < 0 ∨ 1048576 < c) (w : World) :
    Calls Try.prog 42 #[.int .i64 c] w fun e w' => e = .returned (.tuple #[.pointer none, .int .i64 8]) ∧ Q w w' := by
  rcases hc with hc | hc
  · go_enter Try.func42, Try.ntmps42
    go_wp2_with fail
    go_ret2
    exact ⟨rfl, Q.refl w⟩
  · have d1 : decide (c < 0) = false := by rw [decide_eq_false_iff_not]; omega
    go_enter Try.func42, Try.ntmps42
    go_wp2_with fail
    go_ret2
    exact ⟨rfl, Q.refl w⟩
end Go.Proofs.Ytekdenkllipehaa
