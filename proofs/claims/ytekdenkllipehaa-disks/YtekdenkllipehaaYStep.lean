/-
  The statement's yard: one step of a script.
-/
import Derived.Test.YtekdenkllipehaaYOpened
import Derived.Deep.RegionHeld3
namespace Go.Proofs.Ytekdenkllipehaa
open Go.RowKit

/-- The yard behind a step, and how much it has grown. -/
def YardStep (tg : Tags) (yb : Nat) (Ds : List M.Dsk) (L : List Value) (w w' : World) : Prop :=
  ∃ Ds' L', YardNew tg yb Ds' L' w w' ∧ L'.length + 3 * Ds'.length ≤ L.length + 3 * Ds.length + 3 ∧ (∃ q, L'.length = 3 * q) ∧ 0 < Ds'.length

theorem YardNew.pre {tg tgB : Tags} {yb : Nat} {Ds : List M.Dsk} {L : List Value} {w wa w' : World} (h : YardNew tgB yb Ds L wa w') (q : Q w wa) (ht : ∀ k, k < w.heap.size → tgB k = tg k) : YardNew tg yb Ds L w w' := by
  obtain ⟨tg', pl, a1, a2, a3⟩ := h
  exact ⟨tg', pl, fun k hk => (a1 k (Nat.lt_of_lt_of_le hk q.below.size)).trans (ht k hk), a2, (Old.of_q q).trans a3 ht⟩

theorem YardNew.of_plate {tg : Tags} {yb : Nat} {Ds : List M.Dsk} {pl : List Nat} {L : List Value} {w w' : World} (h : YardAt w tg yb Ds pl L) {i pb : Nat} {D : M.Dsk} (hp : pl[i]? = some pb) (hi : i < Ds.length) (hn : PlateNew tg i pb D w w') : YardNew tg yb (Ds.set i D) L w w' := by
  obtain ⟨tg', a1, a2, a3⟩ := h.turn hp hi hn
  exact ⟨tg', pl, a1, a2, ⟨a3.os, a3.tape, a3.output, a3.size, fun k hk e => a3.block k hk (by rw [e]; simp) (by rw [e]; simp)⟩⟩

theorem YardKept.step {tg : Tags} {yb : Nat} {Ds : List M.Dsk} {pl : List Nat} {L : List Value} {w w' : World} (h : YardKept tg yb Ds pl L w w') {q : Nat} (hL : L.length = 3 * q) (hd : 0 < Ds.length) : YardStep tg yb Ds L w w' := by
  obtain ⟨tg', v1, v2, v3, a1, a2, a3, a4, a5, a6, a7⟩ := h
  exact ⟨Ds, L ++ [v1, v2, v3], ⟨tg', pl, a1, a2, ⟨a3, a4, a5, a6, fun k hk e => a7 k hk (by rw [e]; decide) (by rw [e]; decide)⟩⟩, by simp; omega, ⟨q + 1, by simp; omega⟩, hd⟩

theorem YardStep.pre {tg tgB : Tags} {yb : Nat} {Ds : List M.Dsk} {L : List Value} {w wa w' : World} (h : YardStep tgB yb Ds L wa w') (q : Q w wa) (ht : ∀ k, k < w.heap.size → tgB k = tg k) : YardStep tg yb Ds L w w' := by
  obtain ⟨Ds', L', a1, a2⟩ := h
  exact ⟨Ds', L', a1.pre q ht, a2⟩

theorem YardStep.of_new {tg : Tags} {yb : Nat} {Ds Ds' : List M.Dsk} {L : List Value} {w w' : World} (h : YardNew tg yb Ds' L w w') (hl : Ds'.length = Ds.length) {q : Nat} (hL : L.length = 3 * q) (hd : 0 < Ds.length) : YardStep tg yb Ds L w w' :=
  ⟨Ds', L, h, by omega, ⟨q, hL⟩, by omega⟩

theorem KeepArg.more {w wa : World} {tg tgB : Tags} {ks : List Int} {ko : Option Addr} (h : KeepArg w tg ks ko) (q : Q w wa) (ht : ∀ k, k < w.heap.size → tgB k = tg k) : KeepArg wa tgB ks ko :=
  ⟨h.1, fun j x hj => by
    obtain ⟨b, off, e, hc, hb, htb⟩ := h.2 j x hj
    exact ⟨b, off, e, kept_cell hc q, Nat.lt_of_lt_of_le hb q.below.size, (ht b hb).trans htb⟩⟩

/-- What a step asks of its operation. -/
structure OpFit (w : World) (tg : Tags) (dk : Int) (s : ByteArray) (a : Int) (ks : List Int) (ko : Option Addr) : Prop where
  dk : -9223372036854775808 ≤ dk ∧ dk ≤ 9223372036854775807
  s : s.size ≤ 140737488351232
  a : a ≤ 9223372036854775807
  kl : ks.length * 8 ≤ 140737488351232
  keep : KeepArg w tg ks ko

set_option maxRecDepth 100000 in
set_option maxHeartbeats 1600000 in
theorem step_reads (tg : Tags) (yb : Nat) (Ds : List M.Dsk) (pl : List Nat) (L : List Value) (q : Nat) (hL : L.length = 3 * q) (hd : 0 < Ds.length) (hsz : (L.length + 3 * Ds.length + 3) * 24 ≤ 140737488355328) (dk : Int) (nm s : ByteArray) (a b : Int) (ks : List Int) (ko : Option Addr) (kc : Nat) (w : World) (hf : OpFit w tg dk s a ks ko) (h : YardAt w tg yb Ds pl L) :
    Calls Try.prog 30 #[.pointer (some ⟨yb, 0, none⟩), .agg (opCells 6 dk nm s a b ko ks.length kc)] w fun e w' => e = .returned (.bool true) ∧ YardStep tg yb Ds L w w' := by
  obtain ⟨wa, hwa⟩ : ∃ wa, wa = w.alloc (.cells (opCells 6 dk nm s a b ko ks.length kc) 65) := ⟨_, rfl⟩
  have qa : Q w wa := by rw [hwa]; exact (Q.refl w).alloc _ _
  have hA : YardAt wa (tg.more w.heap.size 0 9) yb Ds pl L := h.keep qa.below.size (fun k hk => Tags.more_old hk) (fun k hk _ => qa.below.block k hk)
  have HPRE : Hid (∀ w', YardStep (tg.more w.heap.size 0 9) yb Ds L wa w' → YardStep tg yb Ds L w w') := fun w' hs => hs.pre qa (fun k hk => Tags.more_old hk)
  have hi := pickOf_lt dk hd
  obtain ⟨g, gc, pb, y0, hpb, yc⟩ := hA.at hi
  obtain ⟨D, hD⟩ : ∃ D, Ds[pickOf dk Ds.length]? = some D := ⟨_, List.getElem?_eq_getElem hi⟩
  have hP := hA.plate _ pb D hpb hD
  have HPK : Hid _ := fun (W : World) => pick_any dk hf.dk Ds.length hd W
  have hdl : Ds.length ≤ 9223372036854775807 := by omega
  obtain ⟨i, hie⟩ : ∃ i, pickOf dk Ds.length = i := ⟨_, rfl⟩
  rw [hie] at hi hpb hD yc hP HPK
  have HQL : Hid (L.length = 3 * q ∧ 0 < Ds.length) := ⟨hL, hd⟩
  have HC : Hid (∀ W, Q wa W → Calls Try.prog 45 #[.pointer (some ⟨pb, 0, none⟩), .string nm] W fun e w' => e = .returned (.bool true) ∧ YardStep tg yb Ds L w w') := fun W q => by
    refine (plate_reads (tg.more w.heap.size 0 9) i pb D nm W (hP.keep q.below.size (fun _ _ => rfl) (fun k hk _ => q.below.block k hk))).mono ?_
    rintro e w' ⟨rfl, q2⟩
    exact ⟨rfl, HPRE.out w' (YardStep.of_new (YardNew.of_q hA (q.trans q2)) rfl HQL.out.1 HQL.out.2)⟩
  have k1 : wa.cell? ⟨w.heap.size, 1, none⟩ = some (.int .i64 dk) := by rw [hwa]; simp
  have i1 : (i : Int) < (Ds.length : Int) := by omega
  have i0 : (0 : Int) ≤ (i : Int) := by omega
  have hHW : Hid (wa = w.alloc (.cells (opCells 6 dk nm s a b ko ks.length kc) 65)) := hwa
  have k0 : wa.cell? ⟨w.heap.size, 0, none⟩ = some (.int .i64 6) := by rw [hwa]; simp
  have k2 : wa.cell? ⟨w.heap.size, 2, none⟩ = some (.string nm) := by rw [hwa]; simp
  clear hP hA hf h hwa hD hpb hie hL hd hsz hi qa
  go_enter Try.func30, Try.ntmps30
  go_upto_region 5 with fail
  rw [← hHW.out]
  clear hHW
  go_region_held3 (fun w' => w'.cell? ⟨yb, 0, none⟩ = some (.slice (some ⟨g, 0, none⟩) Ds.length gc) ∧ w'.cell? ⟨w.heap.size, 1, none⟩ = some (.int .i64 dk) ∧ w'.cell? ⟨g, i, none⟩ = some (.pointer (some ⟨pb, 0, none⟩))) (first | exact ⟨y0, k1, yc⟩ | exact hS4)
    (first
      | (go_at_call 44; refine (HPK.out _).mono ?_; rintro e w1 ⟨rfl, hw1⟩; have hS4 : w1.cell? ⟨yb, 0, none⟩ = some (.slice (some ⟨g, 0, none⟩) Ds.length gc) ∧ w1.cell? ⟨w.heap.size, 1, none⟩ = some (.int .i64 dk) ∧ w1.cell? ⟨g, i, none⟩ = some (.pointer (some ⟨pb, 0, none⟩)) := (by rw [hw1]; exact ⟨y0, k1, yc⟩)))
  clear hS4 HPK hw1
  have HC1 : Hid _ := fun (_ : Unit) => HC.out wa.drew ((Q.refl wa).drew)
  clear HC
  go_wp2_with fail
  refine (HC1.out ()).mono ?_
  rintro e w2 ⟨rfl, hs2⟩
  have HS2 : Hid _ := hs2
  clear hs2 HC1
  go_wp2_with fail
  go_ret
  exact ⟨rfl, HS2.out⟩

set_option maxRecDepth 100000 in
set_option maxHeartbeats 1600000 in
theorem step_sizes (tg : Tags) (yb : Nat) (Ds : List M.Dsk) (pl : List Nat) (L : List Value) (q : Nat) (hL : L.length = 3 * q) (hd : 0 < Ds.length) (hsz : (L.length + 3 * Ds.length + 3) * 24 ≤ 140737488355328) (dk : Int) (nm s : ByteArray) (a b : Int) (ks : List Int) (ko : Option Addr) (kc : Nat) (w : World) (hf : OpFit w tg dk s a ks ko) (h : YardAt w tg yb Ds pl L) :
    Calls Try.prog 30 #[.pointer (some ⟨yb, 0, none⟩), .agg (opCells 8 dk nm s a b ko ks.length kc)] w fun e w' => e = .returned (.bool true) ∧ YardStep tg yb Ds L w w' := by
  obtain ⟨wa, hwa⟩ : ∃ wa, wa = w.alloc (.cells (opCells 8 dk nm s a b ko ks.length kc) 65) := ⟨_, rfl⟩
  have qa : Q w wa := by rw [hwa]; exact (Q.refl w).alloc _ _
  have hA : YardAt wa (tg.more w.heap.size 0 9) yb Ds pl L := h.keep qa.below.size (fun k hk => Tags.more_old hk) (fun k hk _ => qa.below.block k hk)
  have HPRE : Hid (∀ w', YardStep (tg.more w.heap.size 0 9) yb Ds L wa w' → YardStep tg yb Ds L w w') := fun w' hs => hs.pre qa (fun k hk => Tags.more_old hk)
  have hi := pickOf_lt dk hd
  obtain ⟨g, gc, pb, y0, hpb, yc⟩ := hA.at hi
  obtain ⟨D, hD⟩ : ∃ D, Ds[pickOf dk Ds.length]? = some D := ⟨_, List.getElem?_eq_getElem hi⟩
  have hP := hA.plate _ pb D hpb hD
  have HPK : Hid _ := fun (W : World) => pick_any dk hf.dk Ds.length hd W
  have hdl : Ds.length ≤ 9223372036854775807 := by omega
  obtain ⟨i, hie⟩ : ∃ i, pickOf dk Ds.length = i := ⟨_, rfl⟩
  rw [hie] at hi hpb hD yc hP HPK
  have HQL : Hid (L.length = 3 * q ∧ 0 < Ds.length) := ⟨hL, hd⟩
  have HC : Hid (∀ W, Q wa W → Calls Try.prog 47 #[.pointer (some ⟨pb, 0, none⟩)] W fun e w' => e = .returned (.bool true) ∧ YardStep tg yb Ds L w w') := fun W q => by
    refine (plate_sizes (tg.more w.heap.size 0 9) i pb D W (hP.keep q.below.size (fun _ _ => rfl) (fun k hk _ => q.below.block k hk))).mono ?_
    rintro e w' ⟨rfl, q2⟩
    exact ⟨rfl, HPRE.out w' (YardStep.of_new (YardNew.of_q hA (q.trans q2)) rfl HQL.out.1 HQL.out.2)⟩
  have k1 : wa.cell? ⟨w.heap.size, 1, none⟩ = some (.int .i64 dk) := by rw [hwa]; simp
  have i1 : (i : Int) < (Ds.length : Int) := by omega
  have i0 : (0 : Int) ≤ (i : Int) := by omega
  have hHW : Hid (wa = w.alloc (.cells (opCells 8 dk nm s a b ko ks.length kc) 65)) := hwa
  have k0 : wa.cell? ⟨w.heap.size, 0, none⟩ = some (.int .i64 8) := by rw [hwa]; simp
  clear hP hA hf h hwa hD hpb hie hL hd hsz hi qa
  go_enter Try.func30, Try.ntmps30
  go_upto_region 5 with fail
  rw [← hHW.out]
  clear hHW
  go_region_held3 (fun w' => w'.cell? ⟨yb, 0, none⟩ = some (.slice (some ⟨g, 0, none⟩) Ds.length gc) ∧ w'.cell? ⟨w.heap.size, 1, none⟩ = some (.int .i64 dk) ∧ w'.cell? ⟨g, i, none⟩ = some (.pointer (some ⟨pb, 0, none⟩))) (first | exact ⟨y0, k1, yc⟩ | exact hS4)
    (first
      | (go_at_call 44; refine (HPK.out _).mono ?_; rintro e w1 ⟨rfl, hw1⟩; have hS4 : w1.cell? ⟨yb, 0, none⟩ = some (.slice (some ⟨g, 0, none⟩) Ds.length gc) ∧ w1.cell? ⟨w.heap.size, 1, none⟩ = some (.int .i64 dk) ∧ w1.cell? ⟨g, i, none⟩ = some (.pointer (some ⟨pb, 0, none⟩)) := (by rw [hw1]; exact ⟨y0, k1, yc⟩)))
  clear hS4 HPK hw1
  have HC1 : Hid _ := fun (_ : Unit) => HC.out wa.drew ((Q.refl wa).drew)
  clear HC
  go_wp2_with fail
  refine (HC1.out ()).mono ?_
  rintro e w2 ⟨rfl, hs2⟩
  have HS2 : Hid _ := hs2
  clear hs2 HC1
  go_wp2_with fail
  go_ret
  exact ⟨rfl, HS2.out⟩

set_option maxRecDepth 100000 in
set_option maxHeartbeats 1600000 in
theorem step_crashes (tg : Tags) (yb : Nat) (Ds : List M.Dsk) (pl : List Nat) (L : List Value) (q : Nat) (hL : L.length = 3 * q) (hd : 0 < Ds.length) (hsz : (L.length + 3 * Ds.length + 3) * 24 ≤ 140737488355328) (dk : Int) (nm s : ByteArray) (a b : Int) (ks : List Int) (ko : Option Addr) (kc : Nat) (w : World) (hf : OpFit w tg dk s a ks ko) (h : YardAt w tg yb Ds pl L) :
    Calls Try.prog 30 #[.pointer (some ⟨yb, 0, none⟩), .agg (opCells 10 dk nm s a b ko ks.length kc)] w fun e w' => e = .returned (.bool true) ∧ YardStep tg yb Ds L w w' := by
  obtain ⟨wa, hwa⟩ : ∃ wa, wa = w.alloc (.cells (opCells 10 dk nm s a b ko ks.length kc) 65) := ⟨_, rfl⟩
  have qa : Q w wa := by rw [hwa]; exact (Q.refl w).alloc _ _
  have hA : YardAt wa (tg.more w.heap.size 0 9) yb Ds pl L := h.keep qa.below.size (fun k hk => Tags.more_old hk) (fun k hk _ => qa.below.block k hk)
  have HPRE : Hid (∀ w', YardStep (tg.more w.heap.size 0 9) yb Ds L wa w' → YardStep tg yb Ds L w w') := fun w' hs => hs.pre qa (fun k hk => Tags.more_old hk)
  have hi := pickOf_lt dk hd
  obtain ⟨g, gc, pb, y0, hpb, yc⟩ := hA.at hi
  obtain ⟨D, hD⟩ : ∃ D, Ds[pickOf dk Ds.length]? = some D := ⟨_, List.getElem?_eq_getElem hi⟩
  have hP := hA.plate _ pb D hpb hD
  have HPK : Hid _ := fun (W : World) => pick_any dk hf.dk Ds.length hd W
  have hdl : Ds.length ≤ 9223372036854775807 := by omega
  obtain ⟨i, hie⟩ : ∃ i, pickOf dk Ds.length = i := ⟨_, rfl⟩
  rw [hie] at hi hpb hD yc hP HPK
  have HQL : Hid (L.length = 3 * q ∧ 0 < Ds.length) := ⟨hL, hd⟩
  have HC : Hid (∀ W, Q wa W → Calls Try.prog 48 #[.pointer (some ⟨pb, 0, none⟩), .slice ko ks.length kc] W fun e w' => e = .returned (.bool true) ∧ YardStep tg yb Ds L w w') := fun W q => by
    refine (plate_crashes (tg.more w.heap.size 0 9) i pb D ks ko kc hf.kl W ((hf.keep.more qa (fun k hk => Tags.more_old hk)).more q (fun _ _ => rfl)) (hP.keep q.below.size (fun _ _ => rfl) (fun k hk _ => q.below.block k hk))).mono ?_
    rintro e w' ⟨rfl, hn⟩
    exact ⟨rfl, HPRE.out w' (YardStep.of_new (YardNew.of_plate hA hpb hi (hn.pre q (fun _ _ => rfl))) (by simp) HQL.out.1 HQL.out.2)⟩
  have k1 : wa.cell? ⟨w.heap.size, 1, none⟩ = some (.int .i64 dk) := by rw [hwa]; simp
  have i1 : (i : Int) < (Ds.length : Int) := by omega
  have i0 : (0 : Int) ≤ (i : Int) := by omega
  have hHW : Hid (wa = w.alloc (.cells (opCells 10 dk nm s a b ko ks.length kc) 65)) := hwa
  have k0 : wa.cell? ⟨w.heap.size, 0, none⟩ = some (.int .i64 10) := by rw [hwa]; simp
  have k6 : wa.cell? ⟨w.heap.size, 6, none⟩ = some (.slice ko ks.length kc) := by rw [hwa]; simp
  clear hP hA hf h hwa hD hpb hie hL hd hsz hi qa
  go_enter Try.func30, Try.ntmps30
  go_upto_region 5 with fail
  rw [← hHW.out]
  clear hHW
  go_region_held3 (fun w' => w'.cell? ⟨yb, 0, none⟩ = some (.slice (some ⟨g, 0, none⟩) Ds.length gc) ∧ w'.cell? ⟨w.heap.size, 1, none⟩ = some (.int .i64 dk) ∧ w'.cell? ⟨g, i, none⟩ = some (.pointer (some ⟨pb, 0, none⟩))) (first | exact ⟨y0, k1, yc⟩ | exact hS4)
    (first
      | (go_at_call 44; refine (HPK.out _).mono ?_; rintro e w1 ⟨rfl, hw1⟩; have hS4 : w1.cell? ⟨yb, 0, none⟩ = some (.slice (some ⟨g, 0, none⟩) Ds.length gc) ∧ w1.cell? ⟨w.heap.size, 1, none⟩ = some (.int .i64 dk) ∧ w1.cell? ⟨g, i, none⟩ = some (.pointer (some ⟨pb, 0, none⟩)) := (by rw [hw1]; exact ⟨y0, k1, yc⟩)))
  clear hS4 HPK hw1
  have HC1 : Hid _ := fun (_ : Unit) => HC.out wa.drew ((Q.refl wa).drew)
  clear HC
  go_wp2_with fail
  refine (HC1.out ()).mono ?_
  rintro e w2 ⟨rfl, hs2⟩
  have HS2 : Hid _ := hs2
  clear hs2 HC1
  go_wp2_with fail
  go_ret
  exact ⟨rfl, HS2.out⟩
end Go.Proofs.Ytekdenkllipehaa
