/-
  The statement on disks: one plate asked and changed.
-/
import Derived.Test.YtekdenkllipehaaYardM
import Derived.Test.YtekdenkllipehaaRefDsk13
import Derived.Deep.RegionHeld3
namespace Go.Proofs.Ytekdenkllipehaa
open Go.RowKit

set_option maxRecDepth 100000 in
set_option maxHeartbeats 800000 in
theorem plate_reads (tg : Tags) (i pb : Nat) (D : M.Dsk) (nm : ByteArray) (w : World) (hp : Plate w tg i pb D) :
    Calls Try.prog 45 #[.pointer (some ⟨pb, 0, none⟩), .string nm] w fun e w' => e = .returned (.bool true) ∧ Q w w' := by
  obtain ⟨x, y, ids, ps, ids', ps', h⟩ := hp
  have HL : Hid _ := fun (W : World) (q : Q w W) => diskRead tg (2 * i + 1) x D ids ps h.fine nm W (h.land.kept q)
  have HR : Hid _ := fun (W : World) (q : Q w W) => refRead tg (2 * i + 2) y D ids' ps' nm h.fine.good.few W (h.ref.kept q)
  have cx := h.cx
  have cy := h.cy
  obtain ⟨rt, hrt⟩ : ∃ rt : ByteArray, (⟨(D.read nm).1.toArray⟩ : ByteArray) = rt := ⟨_, rfl⟩
  obtain ⟨rc, hrc⟩ : ∃ rc, (D.read nm).2 = rc := ⟨_, rfl⟩
  rw [hrt, hrc] at HL HR
  clear h hrt hrc
  go_enter Try.func45, Try.ntmps45
  go_wp2_with fail
  refine (HL.out w (Q.refl w)).mono ?_
  rintro e w1 ⟨rfl, q1⟩
  have cy1 := kept_cell cy q1
  have HR1 : Hid _ := fun (_ : Unit) => HR.out w1 q1
  clear HL HR cx cy
  go_wp2_with fail
  refine (HR1.out ()).mono ?_
  rintro e w2 ⟨rfl, q2⟩
  clear HR1
  go_wp2_with fail
  go_ret
  exact ⟨by simp, q1.trans q2⟩

set_option maxRecDepth 100000 in
set_option maxHeartbeats 800000 in
theorem plate_sizes (tg : Tags) (i pb : Nat) (D : M.Dsk) (w : World) (hp : Plate w tg i pb D) :
    Calls Try.prog 47 #[.pointer (some ⟨pb, 0, none⟩)] w fun e w' => e = .returned (.bool true) ∧ Q w w' := by
  obtain ⟨x, y, ids, ps, ids', ps', h⟩ := hp
  have HL : Hid _ := fun (W : World) (q : Q w W) => diskSize tg (2 * i + 1) x D ids ps h.fine W (h.land.kept q)
  have HR : Hid _ := fun (W : World) (q : Q w W) => refSize tg (2 * i + 2) y D ids' ps' h.fine.good.few (Nat.le_trans h.fine.good.fits h.fine.good.cap) W (h.ref.kept q)
  have cx := h.cx
  have cy := h.cy
  generalize M.total D.files = tot at *
  clear h
  go_enter Try.func47, Try.ntmps47
  go_wp2_with fail
  refine (HL.out w (Q.refl w)).mono ?_
  rintro e w1 ⟨rfl, q1⟩
  have cy1 := kept_cell cy q1
  have HR1 : Hid _ := fun (_ : Unit) => HR.out w1 q1
  clear HL HR cx cy
  go_wp2_with fail
  refine (HR1.out ()).mono ?_
  rintro e w2 ⟨rfl, q2⟩
  clear HR1
  go_wp2_with fail
  go_ret
  exact ⟨by simp, q1.trans q2⟩

/-- Which of n things a raw number speaks of. -/
def pickOf (c : Int) (n : Nat) : Nat := if c < 0 then (-(c + 1)).toNat % n else c.toNat % n

theorem pickOf_lt (c : Int) {n : Nat} (hn : 0 < n) : pickOf c n < n := by
  unfold pickOf
  split <;> exact Nat.mod_lt _ hn

set_option maxRecDepth 100000 in
set_option maxHeartbeats 800000 in
theorem pick_any (c : Int) (hc : -9223372036854775808 ≤ c ∧ c ≤ 9223372036854775807) (n : Nat) (hn : 0 < n) (w : World) :
    Calls Try.prog 44 #[.int .i64 c, .int .i64 (n : Int)] w fun e w' => e = .returned (.int .i64 (pickOf c n : Nat)) ∧ w' = w := by
  have hn0 : ¬ ((n : Int) = 0) := by omega
  have hnb : ((n : Int) == 0) = false := by rw [beq_eq_false_iff_ne]; exact hn0
  unfold pickOf
  by_cases h0 : c < 0
  · rw [if_pos h0]
    obtain ⟨k, hk⟩ := Int.eq_ofNat_of_zero_le (show 0 ≤ -(c + 1) by omega)
    have w1 : IntKind.i64.wrap (c + 1) = c + 1 := by rw [IntKind.wrap_i64]; omega
    have w2 : IntKind.i64.wrap (-(c + 1)) = (k : Int) := by rw [IntKind.wrap_i64]; omega
    have e1 : ((k : Int)).tmod (n : Int) = ((k % n : Nat) : Int) := rfl
    have d0 : decide (c < 0) = true := by rw [decide_eq_true_eq]; exact h0
    rw [hk, Int.toNat_natCast]
    clear hk
    go_enter Try.func44, Try.ntmps44
    go_wp2_with fail
    go_ret
    exact ⟨rfl, rfl⟩
  · rw [if_neg h0]
    obtain ⟨k, rfl⟩ := Int.eq_ofNat_of_zero_le (show 0 ≤ c by omega)
    have e1 : ((k : Int)).tmod (n : Int) = ((k % n : Nat) : Int) := rfl
    have d0 : decide ((k : Int) < 0) = false := by rw [decide_eq_false_iff_not]; exact h0
    rw [Int.toNat_natCast]
    go_enter Try.func44, Try.ntmps44
    go_wp2_with fail
    go_ret
    exact ⟨rfl, rfl⟩

/-- An operation, as it lies in memory. -/
abbrev opCells (kind dk : Int) (nm s : ByteArray) (a b : Int) (ko : Option Addr) (kl kc : Nat) : Array Value := #[.int .i64 kind, .int .i64 dk, .string nm, .string s, .int .i64 a, .int .i64 b, .slice ko kl kc]

set_option maxRecDepth 100000 in
set_option maxHeartbeats 1600000 in
theorem changes_Append (tg : Tags) (i pb : Nat) (D : M.Dsk) (dk : Int) (nm s : ByteArray) (a b : Int) (ko : Option Addr) (kl kc : Nat) (hs : s.size ≤ 140737488351232) (w : World) (hp : Plate w tg i pb D) :
    Calls Try.prog 49 #[.pointer (some ⟨pb, 0, none⟩), .agg (opCells 2 dk nm s a b ko kl kc)] w fun e w' => e = .returned (.bool true) ∧ PlateNew tg i pb (D.append nm s.data.toList).1 w w' := by
  obtain ⟨x, y, ids, ps, ids', ps', h⟩ := hp
  obtain ⟨wa, hwa⟩ : ∃ wa, wa = w.alloc (.cells (opCells 2 dk nm s a b ko kl kc) 65) := ⟨_, rfl⟩
  have qa : Q w wa := by rw [hwa]; exact (Q.refl w).alloc _ _
  have hsz : w.heap.size < wa.heap.size := by rw [hwa]; simp
  have hA := h.more qa (tgB := tg.more w.heap.size 0 9) (fun k hk => Tags.more_old hk)
  obtain ⟨c, hc⟩ : ∃ c, (D.append nm s.data.toList).2 = c := ⟨_, rfl⟩
  obtain ⟨D', hD'⟩ : ∃ D', (D.append nm s.data.toList).1 = D' := ⟨_, rfl⟩
  have hF' : D'.Fine := by rw [← hD']; exact h.fine.append nm _
  have HL : Hid (∀ W, Q wa W → Calls Try.prog 72 #[.pointer (some ⟨x, 0, none⟩), .string nm, .string s] W fun e w' => e = .returned (.int .i64 (c : Nat)) ∧ Mid tg i pb D D' y ids' ps' w wa w') := fun W q => by
    refine (diskAppend (tg.more w.heap.size 0 9) (2 * i + 1) x D ids ps h.fine nm s W (hA.land.kept q)).mono ?_
    rintro e w1 ⟨rfl, hen⟩
    exact ⟨by rw [hc], mid_of h hF' qa hsz q (by rw [← hD']; exact hen)⟩
  have HR : Hid (∀ w1, Mid tg i pb D D' y ids' ps' w wa w1 → ∀ W, Q w1 W → Calls Try.prog 73 #[.pointer (some ⟨y, 0, none⟩), .string nm, .string s] W fun e w' => e = .returned (.int .i64 (c : Nat)) ∧ PlateNew tg i pb D' w w' ∧ SameCells pb w.heap.size wa w') := fun w1 hm W q => by
    obtain ⟨_, _, tg1, _, m3, m4⟩ := hm
    refine (refAppend tg1 (2 * i + 2) y D ids' ps' nm s h.fine.good.few (Nat.le_trans h.fine.good.fits h.fine.good.cap) h.fine.good.cap h.fine.fuse hs W (m3.kept q)).mono ?_
    rintro e w2 ⟨rfl, hen⟩
    exact ⟨by rw [hc], m4 W w2 q (by rw [← hD']; exact hen)⟩
  have cx : wa.cell? ⟨pb, 0, none⟩ = _ := hA.cx
  have cy : wa.cell? ⟨pb, 1, none⟩ = _ := hA.cy
  have cxw := h.cx
  have hptop := h.top
  have k2 : wa.cell? ⟨w.heap.size, 2, none⟩ = some (.string nm) := by rw [hwa]; simp
  have k3 : wa.cell? ⟨w.heap.size, 3, none⟩ = some (.string s) := by rw [hwa]; simp
  rw [hD']
  have hHW : Hid (wa = w.alloc (.cells (opCells 2 dk nm s a b ko kl kc) 65)) := hwa
  clear h hA hwa hc hD' hF'
  go_enter Try.func49, Try.ntmps49
  go_upto_region 5 with fail
  rw [← hHW.out]
  clear hHW
  go_region_held3 (fun w' => w'.cell? ⟨pb, 0, none⟩ = some (.pointer (some ⟨x, 0, none⟩)) ∧ w'.cell? ⟨w.heap.size, 2, none⟩ = some (.string nm) ∧ w'.cell? ⟨w.heap.size, 3, none⟩ = some (.string s)) (first | exact ⟨cx, k2, k3⟩ | exact hS4)
    (first
      | (go_at_call 72; refine (HL.out _ ((Q.refl wa).drew)).mono ?_; rintro e w1 ⟨rfl, hm⟩; have hS4 : w1.cell? ⟨pb, 0, none⟩ = some (.pointer (some ⟨x, 0, none⟩)) ∧ w1.cell? ⟨w.heap.size, 2, none⟩ = some (.string nm) ∧ w1.cell? ⟨w.heap.size, 3, none⟩ = some (.string s) := ⟨(hm.1.1 0).trans cx, (hm.1.2 2).trans k2, (hm.1.2 3).trans k3⟩))
  have HM : Hid _ := hm
  have cy1 := (hm.1.1 1).trans cy
  have b2 := (hm.1.2 2).trans k2
  have b3 := (hm.1.2 3).trans k3
  clear hm hS4 HL
  go_upto_region 6 with fail
  go_region_held3 (fun w' => w'.cell? ⟨pb, 1, none⟩ = some (.pointer (some ⟨y, 0, none⟩)) ∧ w'.cell? ⟨w.heap.size, 2, none⟩ = some (.string nm) ∧ w'.cell? ⟨w.heap.size, 3, none⟩ = some (.string s)) (first | exact ⟨cy1, b2, b3⟩ | exact hS5)
    (first
      | (go_at_call 73; refine (HR.out _ HM.out _ ((Q.refl w1).drew)).mono ?_; rintro e w2 ⟨rfl, hpn, hsc⟩; have hS5 : w2.cell? ⟨pb, 1, none⟩ = some (.pointer (some ⟨y, 0, none⟩)) ∧ w2.cell? ⟨w.heap.size, 2, none⟩ = some (.string nm) ∧ w2.cell? ⟨w.heap.size, 3, none⟩ = some (.string s) := ⟨(hsc.1 1).trans cy, (hsc.2 2).trans k2, (hsc.2 3).trans k3⟩; have HPN : Hid _ := hpn; clear hpn hsc))
  go_wp2_with fail
  go_ret
  exact ⟨by simp, HPN.out⟩

set_option maxRecDepth 100000 in
set_option maxHeartbeats 1600000 in
theorem changes_Sync (tg : Tags) (i pb : Nat) (D : M.Dsk) (dk : Int) (nm s : ByteArray) (a b : Int) (ko : Option Addr) (kl kc : Nat)  (w : World) (hp : Plate w tg i pb D) :
    Calls Try.prog 49 #[.pointer (some ⟨pb, 0, none⟩), .agg (opCells 3 dk nm s a b ko kl kc)] w fun e w' => e = .returned (.bool true) ∧ PlateNew tg i pb (D.sync nm).1 w w' := by
  obtain ⟨x, y, ids, ps, ids', ps', h⟩ := hp
  obtain ⟨wa, hwa⟩ : ∃ wa, wa = w.alloc (.cells (opCells 3 dk nm s a b ko kl kc) 65) := ⟨_, rfl⟩
  have qa : Q w wa := by rw [hwa]; exact (Q.refl w).alloc _ _
  have hsz : w.heap.size < wa.heap.size := by rw [hwa]; simp
  have hA := h.more qa (tgB := tg.more w.heap.size 0 9) (fun k hk => Tags.more_old hk)
  obtain ⟨c, hc⟩ : ∃ c, (D.sync nm).2 = c := ⟨_, rfl⟩
  obtain ⟨D', hD'⟩ : ∃ D', (D.sync nm).1 = D' := ⟨_, rfl⟩
  have hF' : D'.Fine := by rw [← hD']; exact h.fine.sync nm
  have HL : Hid (∀ W, Q wa W → Calls Try.prog 74 #[.pointer (some ⟨x, 0, none⟩), .string nm] W fun e w' => e = .returned (.int .i64 (c : Nat)) ∧ Mid tg i pb D D' y ids' ps' w wa w') := fun W q => by
    refine (diskSync (tg.more w.heap.size 0 9) (2 * i + 1) x D ids ps h.fine nm W (hA.land.kept q)).mono ?_
    rintro e w1 ⟨rfl, hen⟩
    exact ⟨by rw [hc], mid_of h hF' qa hsz q (by rw [← hD']; exact hen)⟩
  have HR : Hid (∀ w1, Mid tg i pb D D' y ids' ps' w wa w1 → ∀ W, Q w1 W → Calls Try.prog 75 #[.pointer (some ⟨y, 0, none⟩), .string nm] W fun e w' => e = .returned (.int .i64 (c : Nat)) ∧ PlateNew tg i pb D' w w' ∧ SameCells pb w.heap.size wa w') := fun w1 hm W q => by
    obtain ⟨_, _, tg1, _, m3, m4⟩ := hm
    refine (refSync tg1 (2 * i + 2) y D ids' ps' nm h.fine.good.few h.fine.fuse W (m3.kept q)).mono ?_
    rintro e w2 ⟨rfl, hd2, ho2⟩
    have hen := Ended.same hd2 ho2
    exact ⟨by rw [hc], m4 W w2 q (by rw [← hD']; exact hen)⟩
  have cx : wa.cell? ⟨pb, 0, none⟩ = _ := hA.cx
  have cy : wa.cell? ⟨pb, 1, none⟩ = _ := hA.cy
  have cxw := h.cx
  have hptop := h.top
  have k2 : wa.cell? ⟨w.heap.size, 2, none⟩ = some (.string nm) := by rw [hwa]; simp
  rw [hD']
  have hHW : Hid (wa = w.alloc (.cells (opCells 3 dk nm s a b ko kl kc) 65)) := hwa
  clear h hA hwa hc hD' hF'
  go_enter Try.func49, Try.ntmps49
  go_upto_region 8 with fail
  rw [← hHW.out]
  clear hHW
  go_region_held3 (fun w' => w'.cell? ⟨pb, 0, none⟩ = some (.pointer (some ⟨x, 0, none⟩)) ∧ w'.cell? ⟨w.heap.size, 2, none⟩ = some (.string nm)) (first | exact ⟨cx, k2⟩ | exact hS4)
    (first
      | (go_at_call 74; refine (HL.out _ ((Q.refl wa).drew)).mono ?_; rintro e w1 ⟨rfl, hm⟩; have hS4 : w1.cell? ⟨pb, 0, none⟩ = some (.pointer (some ⟨x, 0, none⟩)) ∧ w1.cell? ⟨w.heap.size, 2, none⟩ = some (.string nm) := ⟨(hm.1.1 0).trans cx, (hm.1.2 2).trans k2⟩))
  have HM : Hid _ := hm
  have cy1 := (hm.1.1 1).trans cy
  have b2 := (hm.1.2 2).trans k2
  clear hm hS4 HL
  go_upto_region 9 with fail
  go_region_held3 (fun w' => w'.cell? ⟨pb, 1, none⟩ = some (.pointer (some ⟨y, 0, none⟩)) ∧ w'.cell? ⟨w.heap.size, 2, none⟩ = some (.string nm)) (first | exact ⟨cy1, b2⟩ | exact hS5)
    (first
      | (go_at_call 75; refine (HR.out _ HM.out _ ((Q.refl w1).drew)).mono ?_; rintro e w2 ⟨rfl, hpn, hsc⟩; have hS5 : w2.cell? ⟨pb, 1, none⟩ = some (.pointer (some ⟨y, 0, none⟩)) ∧ w2.cell? ⟨w.heap.size, 2, none⟩ = some (.string nm) := ⟨(hsc.1 1).trans cy, (hsc.2 2).trans k2⟩; have HPN : Hid _ := hpn; clear hpn hsc))
  go_wp2_with fail
  go_ret
  exact ⟨by simp, HPN.out⟩

set_option maxRecDepth 100000 in
set_option maxHeartbeats 1600000 in
theorem changes_Rename (tg : Tags) (i pb : Nat) (D : M.Dsk) (dk : Int) (nm s : ByteArray) (a b : Int) (ko : Option Addr) (kl kc : Nat)  (w : World) (hp : Plate w tg i pb D) :
    Calls Try.prog 49 #[.pointer (some ⟨pb, 0, none⟩), .agg (opCells 4 dk nm s a b ko kl kc)] w fun e w' => e = .returned (.bool true) ∧ PlateNew tg i pb (D.rename nm s).1 w w' := by
  obtain ⟨x, y, ids, ps, ids', ps', h⟩ := hp
  obtain ⟨wa, hwa⟩ : ∃ wa, wa = w.alloc (.cells (opCells 4 dk nm s a b ko kl kc) 65) := ⟨_, rfl⟩
  have qa : Q w wa := by rw [hwa]; exact (Q.refl w).alloc _ _
  have hsz : w.heap.size < wa.heap.size := by rw [hwa]; simp
  have hA := h.more qa (tgB := tg.more w.heap.size 0 9) (fun k hk => Tags.more_old hk)
  obtain ⟨c, hc⟩ : ∃ c, (D.rename nm s).2 = c := ⟨_, rfl⟩
  obtain ⟨D', hD'⟩ : ∃ D', (D.rename nm s).1 = D' := ⟨_, rfl⟩
  have hF' : D'.Fine := by rw [← hD']; exact h.fine.rename nm s
  have HL : Hid (∀ W, Q wa W → Calls Try.prog 76 #[.pointer (some ⟨x, 0, none⟩), .string nm, .string s] W fun e w' => e = .returned (.int .i64 (c : Nat)) ∧ Mid tg i pb D D' y ids' ps' w wa w') := fun W q => by
    refine (diskRename (tg.more w.heap.size 0 9) (2 * i + 1) x D ids ps h.fine nm s W (hA.land.kept q)).mono ?_
    rintro e w1 ⟨rfl, hen⟩
    exact ⟨by rw [hc], mid_of h hF' qa hsz q (by rw [← hD']; exact hen)⟩
  have HR : Hid (∀ w1, Mid tg i pb D D' y ids' ps' w wa w1 → ∀ W, Q w1 W → Calls Try.prog 77 #[.pointer (some ⟨y, 0, none⟩), .string nm, .string s] W fun e w' => e = .returned (.int .i64 (c : Nat)) ∧ PlateNew tg i pb D' w w' ∧ SameCells pb w.heap.size wa w') := fun w1 hm W q => by
    obtain ⟨_, _, tg1, _, m3, m4⟩ := hm
    refine (refRename tg1 (2 * i + 2) y D ids' ps' nm s h.fine.good.few h.fine.fuse W (m3.kept q)).mono ?_
    rintro e w2 ⟨rfl, hen⟩
    exact ⟨by rw [hc], m4 W w2 q (by rw [← hD']; exact hen)⟩
  have cx : wa.cell? ⟨pb, 0, none⟩ = _ := hA.cx
  have cy : wa.cell? ⟨pb, 1, none⟩ = _ := hA.cy
  have cxw := h.cx
  have hptop := h.top
  have k2 : wa.cell? ⟨w.heap.size, 2, none⟩ = some (.string nm) := by rw [hwa]; simp
  have k3 : wa.cell? ⟨w.heap.size, 3, none⟩ = some (.string s) := by rw [hwa]; simp
  rw [hD']
  have hHW : Hid (wa = w.alloc (.cells (opCells 4 dk nm s a b ko kl kc) 65)) := hwa
  clear h hA hwa hc hD' hF'
  go_enter Try.func49, Try.ntmps49
  go_upto_region 11 with fail
  rw [← hHW.out]
  clear hHW
  go_region_held3 (fun w' => w'.cell? ⟨pb, 0, none⟩ = some (.pointer (some ⟨x, 0, none⟩)) ∧ w'.cell? ⟨w.heap.size, 2, none⟩ = some (.string nm) ∧ w'.cell? ⟨w.heap.size, 3, none⟩ = some (.string s)) (first | exact ⟨cx, k2, k3⟩ | exact hS4)
    (first
      | (go_at_call 76; refine (HL.out _ ((Q.refl wa).drew)).mono ?_; rintro e w1 ⟨rfl, hm⟩; have hS4 : w1.cell? ⟨pb, 0, none⟩ = some (.pointer (some ⟨x, 0, none⟩)) ∧ w1.cell? ⟨w.heap.size, 2, none⟩ = some (.string nm) ∧ w1.cell? ⟨w.heap.size, 3, none⟩ = some (.string s) := ⟨(hm.1.1 0).trans cx, (hm.1.2 2).trans k2, (hm.1.2 3).trans k3⟩))
  have HM : Hid _ := hm
  have cy1 := (hm.1.1 1).trans cy
  have b2 := (hm.1.2 2).trans k2
  have b3 := (hm.1.2 3).trans k3
  clear hm hS4 HL
  go_upto_region 12 with fail
  go_region_held3 (fun w' => w'.cell? ⟨pb, 1, none⟩ = some (.pointer (some ⟨y, 0, none⟩)) ∧ w'.cell? ⟨w.heap.size, 2, none⟩ = some (.string nm) ∧ w'.cell? ⟨w.heap.size, 3, none⟩ = some (.string s)) (first | exact ⟨cy1, b2, b3⟩ | exact hS5)
    (first
      | (go_at_call 77; refine (HR.out _ HM.out _ ((Q.refl w1).drew)).mono ?_; rintro e w2 ⟨rfl, hpn, hsc⟩; have hS5 : w2.cell? ⟨pb, 1, none⟩ = some (.pointer (some ⟨y, 0, none⟩)) ∧ w2.cell? ⟨w.heap.size, 2, none⟩ = some (.string nm) ∧ w2.cell? ⟨w.heap.size, 3, none⟩ = some (.string s) := ⟨(hsc.1 1).trans cy, (hsc.2 2).trans k2, (hsc.2 3).trans k3⟩; have HPN : Hid _ := hpn; clear hpn hsc))
  go_wp2_with fail
  go_ret
  exact ⟨by simp, HPN.out⟩

set_option maxRecDepth 100000 in
set_option maxHeartbeats 1600000 in
theorem changes_Remove (tg : Tags) (i pb : Nat) (D : M.Dsk) (dk : Int) (nm s : ByteArray) (a b : Int) (ko : Option Addr) (kl kc : Nat)  (w : World) (hp : Plate w tg i pb D) :
    Calls Try.prog 49 #[.pointer (some ⟨pb, 0, none⟩), .agg (opCells 5 dk nm s a b ko kl kc)] w fun e w' => e = .returned (.bool true) ∧ PlateNew tg i pb (D.remove nm).1 w w' := by
  obtain ⟨x, y, ids, ps, ids', ps', h⟩ := hp
  obtain ⟨wa, hwa⟩ : ∃ wa, wa = w.alloc (.cells (opCells 5 dk nm s a b ko kl kc) 65) := ⟨_, rfl⟩
  have qa : Q w wa := by rw [hwa]; exact (Q.refl w).alloc _ _
  have hsz : w.heap.size < wa.heap.size := by rw [hwa]; simp
  have hA := h.more qa (tgB := tg.more w.heap.size 0 9) (fun k hk => Tags.more_old hk)
  obtain ⟨c, hc⟩ : ∃ c, (D.remove nm).2 = c := ⟨_, rfl⟩
  obtain ⟨D', hD'⟩ : ∃ D', (D.remove nm).1 = D' := ⟨_, rfl⟩
  have hF' : D'.Fine := by rw [← hD']; exact h.fine.remove nm
  have HL : Hid (∀ W, Q wa W → Calls Try.prog 78 #[.pointer (some ⟨x, 0, none⟩), .string nm] W fun e w' => e = .returned (.int .i64 (c : Nat)) ∧ Mid tg i pb D D' y ids' ps' w wa w') := fun W q => by
    refine (diskRemove (tg.more w.heap.size 0 9) (2 * i + 1) x D ids ps h.fine nm W (hA.land.kept q)).mono ?_
    rintro e w1 ⟨rfl, hen⟩
    exact ⟨by rw [hc], mid_of h hF' qa hsz q (by rw [← hD']; exact hen)⟩
  have HR : Hid (∀ w1, Mid tg i pb D D' y ids' ps' w wa w1 → ∀ W, Q w1 W → Calls Try.prog 79 #[.pointer (some ⟨y, 0, none⟩), .string nm] W fun e w' => e = .returned (.int .i64 (c : Nat)) ∧ PlateNew tg i pb D' w w' ∧ SameCells pb w.heap.size wa w') := fun w1 hm W q => by
    obtain ⟨_, _, tg1, _, m3, m4⟩ := hm
    refine (refRemove tg1 (2 * i + 2) y D ids' ps' nm h.fine.good.few h.fine.fuse W (m3.kept q)).mono ?_
    rintro e w2 ⟨rfl, hen⟩
    exact ⟨by rw [hc], m4 W w2 q (by rw [← hD']; exact hen)⟩
  have cx : wa.cell? ⟨pb, 0, none⟩ = _ := hA.cx
  have cy : wa.cell? ⟨pb, 1, none⟩ = _ := hA.cy
  have cxw := h.cx
  have hptop := h.top
  have k2 : wa.cell? ⟨w.heap.size, 2, none⟩ = some (.string nm) := by rw [hwa]; simp
  rw [hD']
  have hHW : Hid (wa = w.alloc (.cells (opCells 5 dk nm s a b ko kl kc) 65)) := hwa
  clear h hA hwa hc hD' hF'
  go_enter Try.func49, Try.ntmps49
  go_upto_region 14 with fail
  rw [← hHW.out]
  clear hHW
  go_region_held3 (fun w' => w'.cell? ⟨pb, 0, none⟩ = some (.pointer (some ⟨x, 0, none⟩)) ∧ w'.cell? ⟨w.heap.size, 2, none⟩ = some (.string nm)) (first | exact ⟨cx, k2⟩ | exact hS4)
    (first
      | (go_at_call 78; refine (HL.out _ ((Q.refl wa).drew)).mono ?_; rintro e w1 ⟨rfl, hm⟩; have hS4 : w1.cell? ⟨pb, 0, none⟩ = some (.pointer (some ⟨x, 0, none⟩)) ∧ w1.cell? ⟨w.heap.size, 2, none⟩ = some (.string nm) := ⟨(hm.1.1 0).trans cx, (hm.1.2 2).trans k2⟩))
  have HM : Hid _ := hm
  have cy1 := (hm.1.1 1).trans cy
  have b2 := (hm.1.2 2).trans k2
  clear hm hS4 HL
  go_upto_region 15 with fail
  go_region_held3 (fun w' => w'.cell? ⟨pb, 1, none⟩ = some (.pointer (some ⟨y, 0, none⟩)) ∧ w'.cell? ⟨w.heap.size, 2, none⟩ = some (.string nm)) (first | exact ⟨cy1, b2⟩ | exact hS5)
    (first
      | (go_at_call 79; refine (HR.out _ HM.out _ ((Q.refl w1).drew)).mono ?_; rintro e w2 ⟨rfl, hpn, hsc⟩; have hS5 : w2.cell? ⟨pb, 1, none⟩ = some (.pointer (some ⟨y, 0, none⟩)) ∧ w2.cell? ⟨w.heap.size, 2, none⟩ = some (.string nm) := ⟨(hsc.1 1).trans cy, (hsc.2 2).trans k2⟩; have HPN : Hid _ := hpn; clear hpn hsc))
  go_wp2_with fail
  go_ret
  exact ⟨by simp, HPN.out⟩

set_option maxRecDepth 100000 in
set_option maxHeartbeats 1600000 in
theorem changes_Arm (tg : Tags) (i pb : Nat) (D : M.Dsk) (dk : Int) (nm s : ByteArray) (a b : Int) (ko : Option Addr) (kl kc : Nat) (ha : a ≤ 9223372036854775807) (w : World) (hp : Plate w tg i pb D) :
    Calls Try.prog 49 #[.pointer (some ⟨pb, 0, none⟩), .agg (opCells 9 dk nm s a b ko kl kc)] w fun e w' => e = .returned (.bool true) ∧ PlateNew tg i pb (D.arm a).1 w w' := by
  obtain ⟨x, y, ids, ps, ids', ps', h⟩ := hp
  obtain ⟨wa, hwa⟩ : ∃ wa, wa = w.alloc (.cells (opCells 9 dk nm s a b ko kl kc) 65) := ⟨_, rfl⟩
  have qa : Q w wa := by rw [hwa]; exact (Q.refl w).alloc _ _
  have hsz : w.heap.size < wa.heap.size := by rw [hwa]; simp
  have hA := h.more qa (tgB := tg.more w.heap.size 0 9) (fun k hk => Tags.more_old hk)
  obtain ⟨c, hc⟩ : ∃ c, (D.arm a).2 = c := ⟨_, rfl⟩
  obtain ⟨D', hD'⟩ : ∃ D', (D.arm a).1 = D' := ⟨_, rfl⟩
  have hF' : D'.Fine := by rw [← hD']; exact h.fine.arm ha
  have HL : Hid (∀ W, Q wa W → Calls Try.prog 80 #[.pointer (some ⟨x, 0, none⟩), .int .i64 a] W fun e w' => e = .returned (.int .i64 (c : Nat)) ∧ Mid tg i pb D D' y ids' ps' w wa w') := fun W q => by
    refine (diskArm (tg.more w.heap.size 0 9) (2 * i + 1) x D ids ps a W (hA.land.kept q)).mono ?_
    rintro e w1 ⟨rfl, hd1, ho1⟩
    have hen := LEnded.same hd1 ho1
    exact ⟨by rw [hc], mid_of h hF' qa hsz q (by rw [← hD']; exact hen)⟩
  have HR : Hid (∀ w1, Mid tg i pb D D' y ids' ps' w wa w1 → ∀ W, Q w1 W → Calls Try.prog 81 #[.pointer (some ⟨y, 0, none⟩), .int .i64 a] W fun e w' => e = .returned (.int .i64 (c : Nat)) ∧ PlateNew tg i pb D' w w' ∧ SameCells pb w.heap.size wa w') := fun w1 hm W q => by
    obtain ⟨_, _, tg1, _, m3, m4⟩ := hm
    refine (refArm tg1 (2 * i + 2) y D ids' ps' a W (m3.kept q)).mono ?_
    rintro e w2 ⟨rfl, hd2, ho2⟩
    have hen := Ended.same hd2 ho2
    exact ⟨by rw [hc], m4 W w2 q (by rw [← hD']; exact hen)⟩
  have cx : wa.cell? ⟨pb, 0, none⟩ = _ := hA.cx
  have cy : wa.cell? ⟨pb, 1, none⟩ = _ := hA.cy
  have cxw := h.cx
  have hptop := h.top
  have k4 : wa.cell? ⟨w.heap.size, 4, none⟩ = some (.int .i64 a) := by rw [hwa]; simp
  rw [hD']
  have hHW : Hid (wa = w.alloc (.cells (opCells 9 dk nm s a b ko kl kc) 65)) := hwa
  clear h hA hwa hc hD' hF'
  go_enter Try.func49, Try.ntmps49
  go_upto_region 17 with fail
  rw [← hHW.out]
  clear hHW
  go_region_held3 (fun w' => w'.cell? ⟨pb, 0, none⟩ = some (.pointer (some ⟨x, 0, none⟩)) ∧ w'.cell? ⟨w.heap.size, 4, none⟩ = some (.int .i64 a)) (first | exact ⟨cx, k4⟩ | exact hS4)
    (first
      | (go_at_call 80; refine (HL.out _ ((Q.refl wa).drew)).mono ?_; rintro e w1 ⟨rfl, hm⟩; have hS4 : w1.cell? ⟨pb, 0, none⟩ = some (.pointer (some ⟨x, 0, none⟩)) ∧ w1.cell? ⟨w.heap.size, 4, none⟩ = some (.int .i64 a) := ⟨(hm.1.1 0).trans cx, (hm.1.2 4).trans k4⟩))
  have HM : Hid _ := hm
  have cy1 := (hm.1.1 1).trans cy
  have b4 := (hm.1.2 4).trans k4
  clear hm hS4 HL
  go_upto_region 18 with fail
  go_region_held3 (fun w' => w'.cell? ⟨pb, 1, none⟩ = some (.pointer (some ⟨y, 0, none⟩)) ∧ w'.cell? ⟨w.heap.size, 4, none⟩ = some (.int .i64 a)) (first | exact ⟨cy1, b4⟩ | exact hS5)
    (first
      | (go_at_call 81; refine (HR.out _ HM.out _ ((Q.refl w1).drew)).mono ?_; rintro e w2 ⟨rfl, hpn, hsc⟩; have hS5 : w2.cell? ⟨pb, 1, none⟩ = some (.pointer (some ⟨y, 0, none⟩)) ∧ w2.cell? ⟨w.heap.size, 4, none⟩ = some (.int .i64 a) := ⟨(hsc.1 1).trans cy, (hsc.2 4).trans k4⟩; have HPN : Hid _ := hpn; clear hpn hsc))
  go_wp2_with fail
  go_ret
  exact ⟨by simp, HPN.out⟩

set_option maxRecDepth 100000 in
set_option maxHeartbeats 1600000 in
theorem changes_Flip (tg : Tags) (i pb : Nat) (D : M.Dsk) (dk : Int) (nm s : ByteArray) (a b : Int) (ko : Option Addr) (kl kc : Nat)  (w : World) (hp : Plate w tg i pb D) :
    Calls Try.prog 49 #[.pointer (some ⟨pb, 0, none⟩), .agg (opCells 11 dk nm s a b ko kl kc)] w fun e w' => e = .returned (.bool true) ∧ PlateNew tg i pb (D.flip nm a b).1 w w' := by
  obtain ⟨x, y, ids, ps, ids', ps', h⟩ := hp
  obtain ⟨wa, hwa⟩ : ∃ wa, wa = w.alloc (.cells (opCells 11 dk nm s a b ko kl kc) 65) := ⟨_, rfl⟩
  have qa : Q w wa := by rw [hwa]; exact (Q.refl w).alloc _ _
  have hsz : w.heap.size < wa.heap.size := by rw [hwa]; simp
  have hA := h.more qa (tgB := tg.more w.heap.size 0 9) (fun k hk => Tags.more_old hk)
  obtain ⟨c, hc⟩ : ∃ c, (D.flip nm a b).2 = c := ⟨_, rfl⟩
  obtain ⟨D', hD'⟩ : ∃ D', (D.flip nm a b).1 = D' := ⟨_, rfl⟩
  have hF' : D'.Fine := by rw [← hD']; exact h.fine.flip nm a b
  have HL : Hid (∀ W, Q wa W → Calls Try.prog 82 #[.pointer (some ⟨x, 0, none⟩), .string nm, .int .i64 a, .int .i64 b] W fun e w' => e = .returned (.int .i64 (c : Nat)) ∧ Mid tg i pb D D' y ids' ps' w wa w') := fun W q => by
    refine (diskFlip (tg.more w.heap.size 0 9) (2 * i + 1) x D ids ps h.fine nm a b W (hA.land.kept q)).mono ?_
    rintro e w1 ⟨rfl, hd1, ho1⟩
    have hen := LEnded.same hd1 ho1
    exact ⟨by rw [hc], mid_of h hF' qa hsz q (by rw [← hD']; exact hen)⟩
  have HR : Hid (∀ w1, Mid tg i pb D D' y ids' ps' w wa w1 → ∀ W, Q w1 W → Calls Try.prog 83 #[.pointer (some ⟨y, 0, none⟩), .string nm, .int .i64 a, .int .i64 b] W fun e w' => e = .returned (.int .i64 (c : Nat)) ∧ PlateNew tg i pb D' w w' ∧ SameCells pb w.heap.size wa w') := fun w1 hm W q => by
    obtain ⟨_, _, tg1, _, m3, m4⟩ := hm
    refine (refFlip tg1 (2 * i + 2) y D ids' ps' nm a b h.fine.good.few W (m3.kept q)).mono ?_
    rintro e w2 ⟨rfl, hd2, ho2⟩
    have hen := Ended.same hd2 ho2
    exact ⟨by rw [hc], m4 W w2 q (by rw [← hD']; exact hen)⟩
  have cx : wa.cell? ⟨pb, 0, none⟩ = _ := hA.cx
  have cy : wa.cell? ⟨pb, 1, none⟩ = _ := hA.cy
  have cxw := h.cx
  have hptop := h.top
  have k2 : wa.cell? ⟨w.heap.size, 2, none⟩ = some (.string nm) := by rw [hwa]; simp
  have k4 : wa.cell? ⟨w.heap.size, 4, none⟩ = some (.int .i64 a) := by rw [hwa]; simp
  have k5 : wa.cell? ⟨w.heap.size, 5, none⟩ = some (.int .i64 b) := by rw [hwa]; simp
  rw [hD']
  have hHW : Hid (wa = w.alloc (.cells (opCells 11 dk nm s a b ko kl kc) 65)) := hwa
  clear h hA hwa hc hD' hF'
  go_enter Try.func49, Try.ntmps49
  go_upto_region 20 with fail
  rw [← hHW.out]
  clear hHW
  go_region_held3 (fun w' => w'.cell? ⟨pb, 0, none⟩ = some (.pointer (some ⟨x, 0, none⟩)) ∧ w'.cell? ⟨w.heap.size, 2, none⟩ = some (.string nm) ∧ w'.cell? ⟨w.heap.size, 4, none⟩ = some (.int .i64 a) ∧ w'.cell? ⟨w.heap.size, 5, none⟩ = some (.int .i64 b)) (first | exact ⟨cx, k2, k4, k5⟩ | exact hS4)
    (first
      | (go_at_call 82; refine (HL.out _ ((Q.refl wa).drew)).mono ?_; rintro e w1 ⟨rfl, hm⟩; have hS4 : w1.cell? ⟨pb, 0, none⟩ = some (.pointer (some ⟨x, 0, none⟩)) ∧ w1.cell? ⟨w.heap.size, 2, none⟩ = some (.string nm) ∧ w1.cell? ⟨w.heap.size, 4, none⟩ = some (.int .i64 a) ∧ w1.cell? ⟨w.heap.size, 5, none⟩ = some (.int .i64 b) := ⟨(hm.1.1 0).trans cx, (hm.1.2 2).trans k2, (hm.1.2 4).trans k4, (hm.1.2 5).trans k5⟩))
  have HM : Hid _ := hm
  have cy1 := (hm.1.1 1).trans cy
  have b2 := (hm.1.2 2).trans k2
  have b4 := (hm.1.2 4).trans k4
  have b5 := (hm.1.2 5).trans k5
  clear hm hS4 HL
  go_upto_region 21 with fail
  go_region_held3 (fun w' => w'.cell? ⟨pb, 1, none⟩ = some (.pointer (some ⟨y, 0, none⟩)) ∧ w'.cell? ⟨w.heap.size, 2, none⟩ = some (.string nm) ∧ w'.cell? ⟨w.heap.size, 4, none⟩ = some (.int .i64 a) ∧ w'.cell? ⟨w.heap.size, 5, none⟩ = some (.int .i64 b)) (first | exact ⟨cy1, b2, b4, b5⟩ | exact hS5)
    (first
      | (go_at_call 83; refine (HR.out _ HM.out _ ((Q.refl w1).drew)).mono ?_; rintro e w2 ⟨rfl, hpn, hsc⟩; have hS5 : w2.cell? ⟨pb, 1, none⟩ = some (.pointer (some ⟨y, 0, none⟩)) ∧ w2.cell? ⟨w.heap.size, 2, none⟩ = some (.string nm) ∧ w2.cell? ⟨w.heap.size, 4, none⟩ = some (.int .i64 a) ∧ w2.cell? ⟨w.heap.size, 5, none⟩ = some (.int .i64 b) := ⟨(hsc.1 1).trans cy, (hsc.2 2).trans k2, (hsc.2 4).trans k4, (hsc.2 5).trans k5⟩; have HPN : Hid _ := hpn; clear hpn hsc))
  go_wp2_with fail
  go_ret
  exact ⟨by simp, HPN.out⟩
end Go.Proofs.Ytekdenkllipehaa
