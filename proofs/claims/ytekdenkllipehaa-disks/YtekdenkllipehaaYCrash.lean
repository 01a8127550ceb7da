/-
  The statement on disks: one plate crashes; the list that is handed in, and its spare room, are as they were.
-/
import Derived.Test.YtekdenkllipehaaYPlate
import Derived.Test.YtekdenkllipehaaRowCells
import Derived.Laws.MakeOwn
namespace Go.Proofs.Ytekdenkllipehaa
open Go.RowKit

/-- A list of numbers of the script's. -/
def KeepArg (w : World) (tg : Tags) (ks : List Int) (ko : Option Addr) : Prop := (ko = none → ks = []) ∧ ∀ j x, ks[j]? = some x → ∃ b off, ko = some ⟨b, off, none⟩ ∧ w.cell? ⟨b, off + j, none⟩ = some (.int .i64 x) ∧ b < w.heap.size ∧ tg b = (0, 9)

theorem infoI64 : (Try.prog.info? 3).map (fun i => (i.zero, i.size, i.bytes)) = some (some (.int .i64 0), 1, 8) := by kernel_rfl

def intVals (l : List Int) : List Value := l.map (Value.int .i64)

set_option maxRecDepth 100000 in
/-- The copy of a list of numbers into a new row. -/
theorem copy_keep (ks : List Int) (ko : Option Addr) (kc lb n : Nat) (tg : Tags) (w W : World) (hk : KeepArg w tg ks ko) (hq : Q w W) (hn : n = ks.length) {cur : Array Value} (hl : W.heap[lb]? = some (.cells cur 3 (0, 0))) (hc : ks.length ≤ cur.size) (ty : TypeId) :
    (Builtin.copy_ #[31, 31] ty #[.slice (some ⟨lb, 0, none⟩) (n + 1) (n + 1), .slice ko n kc]).run Try.prog W = .ok (.int .i64 (n : Int)) (W.setCells lb 0 (intVals ks)) := by
  subst hn
  obtain ⟨i0, hi, hz0, hz1, hz2⟩ := info_parts infoI64
  have hsz : (Try.prog.info? 3).map (·.size) = some 1 := by rw [hi]; simp [hz1]
  have hil : (intVals ks).length = ks.length := by simp [intVals]
  cases ko with
  | none =>
    have h0 := hk.1 rfl
    subst h0
    simp [Builtin.copy_, run_underlying Try.underlying31, Go.sizeOf, typeInfo, hi, hz1, Builtin.lenOf, intVals, World.setCells]
    rfl
  | some a =>
    have := run_copy_cells (P := Try.prog) W 31 31 ty 3 lb 0 (ks.length + 1) (ks.length + 1) a ks.length kc (intVals ks) Try.underlying31 hsz (by rw [hil]; simp only [Nat.min_def]; split <;> omega)
      (fun j v hj => by
        simp only [intVals, List.getElem?_map, Option.map_eq_some_iff] at hj
        obtain ⟨x, hx, rfl⟩ := hj
        obtain ⟨b, off, e, hcell, hb, _⟩ := hk.2 j x hx
        injection e with e
        subst e
        rw [Addr.add_lit]
        exact kept_cell hcell hq)
      (fun j hj => by rw [hil] at hj; simp [World.cell?, hl, Array.getElem?_eq_getElem (show j < cur.size by omega)]) (fun j hj => frozen_of_row W lb _ cur _ hl) (fun v hv => by simp only [intVals, List.mem_map] at hv; obtain ⟨_, _, rfl⟩ := hv; rfl)
    rw [hil] at this
    exact this

/-- The row of the call's own copy: the numbers, and one more. -/
theorem copied_row (ks : List Int) (w : World) (m : Array Value) (hm : m.size = ks.length + 1) :
    let W1 := (w.alloc (.cells m 3)).setCells w.heap.size 0 (intVals ks)
    Q w (W1.setCell ⟨w.heap.size, ks.length, none⟩ (.int .i64 (-77))) ∧ (∃ v, W1.cell? ⟨w.heap.size, ks.length, none⟩ = some v) ∧ W1.frozen? ⟨w.heap.size, ks.length, none⟩ = false ∧ w.heap.size < (W1.setCell ⟨w.heap.size, ks.length, none⟩ (.int .i64 (-77))).heap.size ∧
      (∀ j x, ks[j]? = some x → (W1.setCell ⟨w.heap.size, ks.length, none⟩ (.int .i64 (-77))).cell? ⟨w.heap.size, j, none⟩ = some (.int .i64 x)) ∧ (W1.setCell ⟨w.heap.size, ks.length, none⟩ (.int .i64 (-77))).cell? ⟨w.heap.size, ks.length, none⟩ = some (.int .i64 (-77)) := by
  intro W1
  have hil : (intVals ks).length = ks.length := by simp [intVals]
  obtain ⟨c1, h1, h2, h3⟩ := setCells_row w.heap.size 3 (intVals ks) 0 (w.alloc (.cells m 3)) m (heap_alloc_new w _) (by rw [hil]; omega)
  have hW1 : W1.heap[w.heap.size]? = some (.cells c1 3 (0, 0)) := h1
  have hlen : c1.size = ks.length + 1 := h2.trans hm
  have hcell : ∃ v, W1.cell? ⟨w.heap.size, ks.length, none⟩ = some v := ⟨c1[ks.length], by simp [World.cell?, hW1, Array.getElem?_eq_getElem (show ks.length < c1.size by omega)]⟩
  have hg := grown_setCells (w.alloc (.cells m 3)) w.heap.size 0 (intVals ks)
  have hb1 : Below w.heap.size w W1 := ((Below.refl _ w).alloc (Nat.le_refl _) _).grown hg (by simp) (fun k e => by cases e; exact Nat.le_refl _)
  have hlt : w.heap.size < W1.heap.size := (Array.getElem?_eq_some_iff.1 hW1).1
  refine ⟨⟨hb1.setCell (p := ⟨w.heap.size, ks.length, none⟩) (Nat.le_refl _) _⟩, hcell, frozen_of_row W1 _ _ c1 _ hW1, by simpa using hlt, fun j x hj => ?_, ?_⟩
  · have hjl : j < ks.length := (List.getElem?_eq_some_iff.1 hj).1
    rw [World.cell?_setCell_other _ _ _ _ (by intro e; injection e with _ e2; omega)]
    have hcj : c1.toList[j]? = some (.int .i64 x) := by
      rw [h3, List.take_zero, List.nil_append, List.getElem?_append_left (by rw [hil]; exact hjl)]
      simp [intVals, hj]
    simp only [World.cell?, hW1]
    simpa using hcj
  · obtain ⟨v, hv⟩ := hcell
    exact World.cell?_setCell_same _ _ _ hv

set_option maxRecDepth 100000 in
set_option maxHeartbeats 4000000 in
theorem plate_crashes (tg : Tags) (i pb : Nat) (D : M.Dsk) (ks : List Int) (ko : Option Addr) (kc : Nat) (hkl : ks.length * 8 ≤ 140737488351232) (w : World) (hk : KeepArg w tg ks ko) (hp : Plate w tg i pb D) :
    Calls Try.prog 48 #[.pointer (some ⟨pb, 0, none⟩), .slice ko ks.length kc] w fun e w' => e = .returned (.bool true) ∧ PlateNew tg i pb (D.crash ks) w w' := by
  obtain ⟨x, y, ids, ps, ids', ps', h⟩ := hp
  obtain ⟨i0, hi, hz0, hz1, hz2⟩ := info_parts infoI64
  obtain ⟨n, hn⟩ : ∃ n, ks.length = n := ⟨_, rfl⟩
  obtain ⟨m, hm⟩ : ∃ m : Array Value, m = madeCells #[.int .i64 0] (n + 1) := ⟨_, rfl⟩
  have hms : m.size = n + 1 := by rw [hm, size_madeCells]
  have hmk : ∀ W : World, (Instr.makeSlice 31 (.int .i64 ((n : Int) + 1)) (.int .i64 ((n : Int) + 1))).run Try.prog W = .ok (.slice (some ⟨W.heap.size, 0, none⟩) (n + 1) (n + 1)) (W.alloc (.cells m 3)) := fun W => by
    have h := run_make (P := Try.prog) W 31 3 i0 (.int .i64 0) Try.underlying31 hi hz0 .i64 .i64 ((n : Int) + 1) ((n : Int) + 1) (by omega) (by omega) (by rw [hz2]; omega) (by omega)
    rw [show ((n : Int) + 1).toNat = n + 1 by omega, hz1, Nat.mul_one] at h
    rw [hm]
    exact h
  have hcr := copied_row ks w m (by rw [hms, hn])
  obtain ⟨W1, hW1⟩ : ∃ W1, W1 = (w.alloc (.cells m 3)).setCells w.heap.size 0 (intVals ks) := ⟨_, rfl⟩
  simp only [← hW1] at hcr
  rw [hn] at hcr
  obtain ⟨q2, ⟨v0, cv0⟩, fv0, hlt2, crow, clast⟩ := hcr
  have hcp : ∀ ty, (Builtin.copy_ #[31, 31] ty #[.slice (some ⟨w.heap.size, 0, none⟩) (n + 1) (n + 1), .slice ko n kc]).run Try.prog (w.alloc (.cells m 3)) = .ok (.int .i64 (n : Int)) W1 := fun ty => by
    rw [hW1]
    exact copy_keep ks ko kc w.heap.size n tg w _ hk ((Q.refl w).alloc _ _) hn.symm (heap_alloc_new w _) (by omega) ty
  obtain ⟨W2, hW2⟩ : ∃ W2, W2 = W1.setCell ⟨w.heap.size, n, none⟩ (.int .i64 (-77)) := ⟨_, rfl⟩
  rw [← hW2] at q2 hlt2 crow clast
  have hA := h.more q2 (tgB := tg.more w.heap.size 0 9) (fun k hk => Tags.more_old hk)
  obtain ⟨D', hD'⟩ : ∃ D', D.crash ks = D' := ⟨_, rfl⟩
  have hF' : D'.Fine := by rw [← hD']; exact h.fine.crash ks
  have HL : Hid (∀ W, Q W2 W → Calls Try.prog 70 #[.pointer (some ⟨x, 0, none⟩), .slice (some ⟨w.heap.size, 0, none⟩) n (n + 1)] W fun e w' => e = .returned (.tuple #[]) ∧ Mid tg i pb D D' y ids' ps' w W2 w') := fun W q => by
    have hrow : KeepRow W (tg.more w.heap.size 0 9) (2 * i + 1) ks (some ⟨w.heap.size, 0, none⟩) := fun j z hj => ⟨w.heap.size, 0, rfl, by rw [Nat.zero_add]; exact kept_cell (crow j z hj) q, Nat.lt_of_lt_of_le hlt2 q.below.size, by rw [Tags.more_new (Nat.le_refl _)]; simp⟩
    have := diskCrash (tg.more w.heap.size 0 9) (2 * i + 1) x D ids ps h.fine ks (some ⟨w.heap.size, 0, none⟩) (n + 1) W hrow (hA.land.kept q)
    rw [hn] at this
    refine this.mono ?_
    rintro e w1 ⟨rfl, hen⟩
    exact ⟨rfl, mid_of h hF' q2 hlt2 q (by rw [← hD']; exact hen)⟩
  have HR : Hid (∀ w1, Mid tg i pb D D' y ids' ps' w W2 w1 → Calls Try.prog 71 #[.pointer (some ⟨y, 0, none⟩), .slice ko n kc] w1 fun e w' => e = .returned (.tuple #[]) ∧ PlateNew tg i pb D' w w' ∧ SameCells pb w.heap.size W2 w') := fun w1 hmid => by
    obtain ⟨_, m0, tg1, m2, m3, m4⟩ := hmid
    have hrow : KeepRow w1 tg1 (2 * i + 2) ks ko := fun j z hj => by
      obtain ⟨b, off, e, hc, hb, ht⟩ := hk.2 j z hj
      have hblk := m0 b hb (by rw [ht])
      have hb1 : b < w1.heap.size := by
        obtain ⟨hx, _⟩ := Array.getElem?_eq_some_iff.1 (hblk.trans (Array.getElem?_eq_getElem hb))
        exact hx
      exact ⟨b, off, e, (World.cell?_of_block (a := ⟨b, off + j, none⟩) hblk).trans hc, hb1, by rw [m2 b hb, ht]; simp⟩
    have := refCrash tg1 (2 * i + 2) y D ids' ps' h.fine ks ko kc w1 hrow m3
    rw [hn] at this
    refine this.mono ?_
    rintro e w2 ⟨rfl, hd2, ho2⟩
    exact ⟨rfl, m4 w1 w2 (Q.refl _) (by rw [← hD']; exact Ended.same hd2 ho2)⟩
  have cx : W2.cell? ⟨pb, 0, none⟩ = _ := hA.cx
  have cy : W2.cell? ⟨pb, 1, none⟩ = _ := hA.cy
  have HKA : Hid (KeepArg w tg ks ko) := hk
  have HCR : Hid _ := crow
  have HW2 : Hid (W2 = W1.setCell ⟨w.heap.size, n, none⟩ (.int .i64 (-77))) := hW2
  have wn : IntKind.i64.wrap ((n : Int) + 1) = (n : Int) + 1 := by rw [IntKind.wrap_i64]; omega
  have hnn : (n : Int) < (n : Int) + 1 := by omega
  have hslice : ∀ W : World, (Instr.slice 31 (.slice (some ⟨w.heap.size, 0, none⟩) (n + 1) (n + 1)) none (some (.int .i64 (n : Int))) none).run Try.prog W = .ok (.slice (some ⟨w.heap.size, 0, none⟩) n (n + 1)) W := fun W => by
    rw [run_slice_h W 31 (some ⟨w.heap.size, 0, none⟩) (n + 1) (n + 1) Try.underlying31 .i64 (n : Int) (by omega) (by omega)]
    have hs : (Go.sizeOf (Try.prog.elem 31)).run Try.prog W = .ok 1 W := Try.sizeOf3 W
    rw [hs]
    simp [Result.andThen, sliced, Addr.add]
  rw [hn, hD']
  clear h hA hW2 hW1 hm hms hF' hk q2 crow hD'
  go_enter Try.func48, Try.ntmps48
  go_wp2_with (at_builtin; refine wpList_copy_runI _ rfl _ _ 31 31 rfl _ _ rfl rfl (hcp _) ?_)
  rw [← HW2.out]
  clear HW2 hcp hmk cv0 fv0
  go_region_held3 (fun w' => w'.cell? ⟨pb, 0, none⟩ = some (.pointer (some ⟨x, 0, none⟩))) (first | exact cx | exact hS4)
    (first
      | (go_at_call 70; refine (HL.out _ ((Q.refl W2).drew)).mono ?_; rintro e w1 ⟨rfl, hmid⟩; have hS4 : w1.cell? ⟨pb, 0, none⟩ = some (.pointer (some ⟨x, 0, none⟩)) := (hmid.1.1 0).trans cx))
  have cy1 := (hmid.1.1 1).trans cy
  have HR1 : Hid _ := fun (_ : Unit) => HR.out w1 hmid
  clear hmid hS4 HL HR
  go_wp2_with fail
  refine (HR1.out ()).mono ?_
  rintro e w2 ⟨rfl, hpn, hsc⟩
  have HPN : Hid _ := hpn
  have HCL : Hid (∀ j z, ks[j]? = some z → w2.cell? ⟨w.heap.size, j, none⟩ = some (.int .i64 z) ∧ ∃ b off, ko = some ⟨b, off, none⟩ ∧ w2.cell? ⟨b, off + j, none⟩ = some (.int .i64 z)) := fun j z hj => by
    obtain ⟨b, off, e, hc, hb, ht⟩ := HKA.out.2 j z hj
    obtain ⟨_, _, _, hduo⟩ := hpn
    exact ⟨(hsc.2 j).trans (HCR.out j z hj), b, off, e, (World.cell?_of_block (a := ⟨b, off + j, none⟩) (hduo.block b hb (by rw [ht]; simp) (by rw [ht]; simp))).trans hc⟩
  have cl2 := (hsc.2 n).trans clast
  clear hpn hsc HR1 HKA HCR cx cy cy1 clast
  go_wp2_with fail
  go_loopw [6] (fun j wr => ∃ k : Nat, j = .int .i64 k ∧ k ≤ n ∧ Q w2 wr) (fun j _ => n - (intOf j).toNat)
  case atStart => exact ⟨0, rfl, Nat.zero_le _, Q.refl _⟩
  case round =>
    obtain ⟨k, rfl, hkn, hq⟩ := hrel
    by_cases hlt : k < n
    · obtain ⟨g1, b, off, hko, g2⟩ := HCL.out k _ (List.getElem?_eq_getElem (by omega))
      subst hko
      have g1 := kept_cell g1 hq
      have g2 := kept_cell g2 hq
      generalize ks[k]'(by omega) = z at *
      have i1 : (k : Int) < (n : Int) := by omega
      have i2 : (k : Int) < (n : Int) + 1 := by omega
      have i0 : (0 : Int) ≤ (k : Int) := by omega
      have wk : IntKind.i64.wrap ((k : Int) + 1) = (k : Int) + 1 := by rw [IntKind.wrap_i64]; omega
      go_wp2_with fail
      go_quiet (fail)
      go_wp2_with fail
      go_roundw
      case rel => exact ⟨k + 1, by go_num, by omega, hq.drewN _⟩
      case measure => simp [intOf]; omega
    · obtain rfl : k = n := by omega
      have cl3 := kept_cell cl2 hq
      have hfin : Hid (PlateNew tg i pb D' w wr) := by
        obtain ⟨tg', a1, a2, a3⟩ := HPN.out
        exact ⟨tg', a1, a2.keep hq.below.size (fun _ _ => rfl) (fun j hj _ => hq.below.block j hj), ⟨hq.below.os.trans a3.os, hq.below.tape.trans a3.tape, hq.below.output.trans a3.output, Nat.le_trans a3.size hq.below.size, fun j hj e1 e2 => (hq.below.block j (Nat.lt_of_lt_of_le hj a3.size)).trans (a3.block j hj e1 e2)⟩⟩
      go_wp2_with fail
      go_ret
      exact ⟨rfl, hfin.out⟩
end Go.Proofs.Ytekdenkllipehaa
