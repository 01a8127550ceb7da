import Derived.Test.YtekdenkllipehaaYStep
/-
  The statement's yard: one step of a script that asks for names.
-/
namespace Go.Proofs.Ytekdenkllipehaa
open Go.RowKit

set_option maxRecDepth 100000 in
set_option maxHeartbeats 1600000 in
theorem step_names (tg : Tags) (yb : Nat) (Ds : List M.Dsk) (pl : List Nat) (L : List Value) (q : Nat) (hL : L.length = 3 * q) (hd : 0 < Ds.length) (hsz : (L.length + 3 * Ds.length + 3) * 24 ≤ 140737488355328) (dk : Int) (nm s : ByteArray) (a b : Int) (ks : List Int) (ko : Option Addr) (kc : Nat) (w : World) (hf : OpFit w tg dk s a ks ko) (h : YardAt w tg yb Ds pl L) :
    Calls Try.prog 30 #[.pointer (some ⟨yb, 0, none⟩), .agg (opCells 7 dk nm s a b ko ks.length kc)] w fun e w' => e = .returned (.bool true) ∧ YardStep tg yb Ds L w w' := by
  obtain ⟨wa, hwa⟩ : ∃ wa, wa = w.alloc (.cells (opCells 7 dk nm s a b ko ks.length kc) 65) := ⟨_, rfl⟩
  have qa : Q w wa := by rw [hwa]; exact (Q.refl w).alloc _ _
  have hA : YardAt wa (tg.more w.heap.size 0 9) yb Ds pl L := h.keep qa.below.size (fun k hk => Tags.more_old hk) (fun k hk _ => qa.below.block k hk)
  have HPRE : Hid (∀ w', YardStep (tg.more w.heap.size 0 9) yb Ds L wa w' → YardStep tg yb Ds L w w') := fun w' hs => hs.pre qa (fun k hk => Tags.more_old hk)
  have hi := pickOf_lt dk hd
  obtain ⟨g, gc, pb, y0, hpb, yc⟩ := hA.at hi
  obtain ⟨D, hD⟩ : ∃ D, Ds[pickOf dk Ds.length]? = some D := ⟨_, List.getElem?_eq_getElem hi⟩
  have hP := hA.plate _ pb D hpb hD
  have HPK : Hid _ := fun (W : World) => pick_any dk hf.dk Ds.length hd W
  have hdl : Ds.length ≤ 9223372036854775807 := by omega
  obtain ⟨i, hie⟩ : ∃ i, pickOf dk Ds.length = i := ⟨_, rfl⟩
  rw [hie] at hi hpb hD yc hP HPK
  have HQL : Hid (L.length = 3 * q ∧ 0 < Ds.length) := ⟨hL, hd⟩
  have hls : (L.length + 3) * 24 ≤ 140737488355328 := Nat.le_trans (Nat.mul_le_mul_right 24 (Nat.add_le_add_right (Nat.le_add_right _ _) 3)) hsz
  have HC : Hid (∀ W, Q wa W → Calls Try.prog 46 #[.pointer (some ⟨yb, 0, none⟩), .pointer (some ⟨pb, 0, none⟩)] W fun e w' => e = .returned (.bool true) ∧ YardStep tg yb Ds L w w') := fun W qq => by
    have hcall := yard_names (tg.more w.heap.size 0 9) yb Ds pl L q HQL.out.1 hls W (hA.kept qq) i pb D hpb hD
    refine Calls.mono hcall ?_
    rintro e w' ⟨rfl, hn⟩
    have h1 : YardStep (tg.more w.heap.size 0 9) yb Ds L W w' := YardKept.step hn hL hd
    have h2 : YardStep (tg.more w.heap.size 0 9) yb Ds L wa w' := YardStep.pre h1 qq (fun _ _ => rfl)
    exact ⟨rfl, HPRE.out w' h2⟩
  have k1 : wa.cell? ⟨w.heap.size, 1, none⟩ = some (.int .i64 dk) := by rw [hwa]; simp
  have i1 : (i : Int) < (Ds.length : Int) := by omega
  have i0 : (0 : Int) ≤ (i : Int) := by omega
  have hHW : Hid (wa = w.alloc (.cells (opCells 7 dk nm s a b ko ks.length kc) 65)) := hwa
  have k0 : wa.cell? ⟨w.heap.size, 0, none⟩ = some (.int .i64 7) := by rw [hwa]; simp
  clear hP hA hf h hwa hD hpb hie hL hd hsz hi qa
  go_enter Try.func30, Try.ntmps30
  go_upto_region 5 with fail
  rw [← hHW.out]
  clear hHW
  go_region_held3 (fun w' => w'.cell? ⟨yb, 0, none⟩ = some (.slice (some ⟨g, 0, none⟩) Ds.length gc) ∧ w'.cell? ⟨w.heap.size, 1, none⟩ = some (.int .i64 dk) ∧ w'.cell? ⟨g, i, none⟩ = some (.pointer (some ⟨pb, 0, none⟩))) (first | exact ⟨y0, k1, yc⟩ | exact hS4)
    (first
      | (go_at_call 44; refine (HPK.out _).mono ?_; rintro e w1 ⟨rfl, hw1⟩; have hS4 : w1.cell? ⟨yb, 0, none⟩ = some (.slice (some ⟨g, 0, none⟩) Ds.length gc) ∧ w1.cell? ⟨w.heap.size, 1, none⟩ = some (.int .i64 dk) ∧ w1.cell? ⟨g, i, none⟩ = some (.pointer (some ⟨pb, 0, none⟩)) := (by rw [hw1]; exact ⟨y0, k1, yc⟩)))
  clear hS4 HPK hw1
  have HC1 : Hid _ := fun (_ : Unit) => HC.out wa.drew ((Q.refl wa).drew)
  clear HC
  go_wp2_with fail
  refine (HC1.out ()).mono ?_
  rintro e w2 ⟨rfl, hs2⟩
  have HS2 : Hid _ := hs2
  clear hs2 HC1
  go_wp2_with fail
  go_ret
  exact ⟨rfl, HS2.out⟩
end Go.Proofs.Ytekdenkllipehaa

/-
  The statement's yard: one step of a script that changes a disk.
-/
namespace Go.Proofs.Ytekdenkllipehaa
open Go.RowKit

set_option maxRecDepth 100000 in
set_option maxHeartbeats 1600000 in
theorem step_Append (tg : Tags) (yb : Nat) (Ds : List M.Dsk) (pl : List Nat) (L : List Value) (q : Nat) (hL : L.length = 3 * q) (hd : 0 < Ds.length) (hsz : (L.length + 3 * Ds.length + 3) * 24 ≤ 140737488355328) (dk : Int) (nm s : ByteArray) (a b : Int) (ks : List Int) (ko : Option Addr) (kc : Nat) (w : World) (hf : OpFit w tg dk s a ks ko) (h : YardAt w tg yb Ds pl L) :
    Calls Try.prog 30 #[.pointer (some ⟨yb, 0, none⟩), .agg (opCells 2 dk nm s a b ko ks.length kc)] w fun e w' => e = .returned (.bool true) ∧ YardStep tg yb Ds L w w' := by
  obtain ⟨wa, hwa⟩ : ∃ wa, wa = w.alloc (.cells (opCells 2 dk nm s a b ko ks.length kc) 65) := ⟨_, rfl⟩
  have qa : Q w wa := by rw [hwa]; exact (Q.refl w).alloc _ _
  have hA : YardAt wa (tg.more w.heap.size 0 9) yb Ds pl L := h.keep qa.below.size (fun k hk => Tags.more_old hk) (fun k hk _ => qa.below.block k hk)
  have HPRE : Hid (∀ w', YardStep (tg.more w.heap.size 0 9) yb Ds L wa w' → YardStep tg yb Ds L w w') := fun w' hs => hs.pre qa (fun k hk => Tags.more_old hk)
  have hi := pickOf_lt dk hd
  obtain ⟨g, gc, pb, y0, hpb, yc⟩ := hA.at hi
  obtain ⟨D, hD⟩ : ∃ D, Ds[pickOf dk Ds.length]? = some D := ⟨_, List.getElem?_eq_getElem hi⟩
  have hP := hA.plate _ pb D hpb hD
  have HPK : Hid _ := fun (W : World) => pick_any dk hf.dk Ds.length hd W
  have hdl : Ds.length ≤ 9223372036854775807 := by omega
  obtain ⟨i, hie⟩ : ∃ i, pickOf dk Ds.length = i := ⟨_, rfl⟩
  rw [hie] at hi hpb hD yc hP HPK
  have HQL : Hid (L.length = 3 * q ∧ 0 < Ds.length) := ⟨hL, hd⟩
  have HC : Hid (∀ W, Q wa W → Calls Try.prog 49 #[.pointer (some ⟨pb, 0, none⟩), .agg (opCells 2 dk nm s a b ko ks.length kc)] W fun e w' => e = .returned (.bool true) ∧ YardStep tg yb Ds L w w') := fun W q => by
    refine (changes_Append (tg.more w.heap.size 0 9) i pb D dk nm s a b ko ks.length kc hf.s W (hP.keep q.below.size (fun _ _ => rfl) (fun k hk _ => q.below.block k hk))).mono ?_
    rintro e w' ⟨rfl, hn⟩
    exact ⟨rfl, HPRE.out w' (YardStep.of_new (YardNew.of_plate hA hpb hi (hn.pre q (fun _ _ => rfl))) (by simp) HQL.out.1 HQL.out.2)⟩
  have k1 : wa.cell? ⟨w.heap.size, 1, none⟩ = some (.int .i64 dk) := by rw [hwa]; simp
  have i1 : (i : Int) < (Ds.length : Int) := by omega
  have i0 : (0 : Int) ≤ (i : Int) := by omega
  have hHW : Hid (wa = w.alloc (.cells (opCells 2 dk nm s a b ko ks.length kc) 65)) := hwa
  have k0 : wa.cell? ⟨w.heap.size, 0, none⟩ = some (.int .i64 2) := by rw [hwa]; simp
  have k2 : wa.cell? ⟨w.heap.size, 2, none⟩ = some (.string nm) := by rw [hwa]; simp
  have k3 : wa.cell? ⟨w.heap.size, 3, none⟩ = some (.string s) := by rw [hwa]; simp
  have k4 : wa.cell? ⟨w.heap.size, 4, none⟩ = some (.int .i64 a) := by rw [hwa]; simp
  have k5 : wa.cell? ⟨w.heap.size, 5, none⟩ = some (.int .i64 b) := by rw [hwa]; simp
  have k6 : wa.cell? ⟨w.heap.size, 6, none⟩ = some (.slice ko ks.length kc) := by rw [hwa]; simp
  clear hP hA hf h hwa hD hpb hie hL hd hsz hi qa
  go_enter Try.func30, Try.ntmps30
  go_upto_region 5 with fail
  rw [← hHW.out]
  clear hHW
  go_region_held3 (fun w' => w'.cell? ⟨yb, 0, none⟩ = some (.slice (some ⟨g, 0, none⟩) Ds.length gc) ∧ w'.cell? ⟨w.heap.size, 1, none⟩ = some (.int .i64 dk) ∧ w'.cell? ⟨g, i, none⟩ = some (.pointer (some ⟨pb, 0, none⟩))) (first | exact ⟨y0, k1, yc⟩ | exact hS4)
    (first
      | (go_at_call 44; refine (HPK.out _).mono ?_; rintro e w1 ⟨rfl, hw1⟩; have hS4 : w1.cell? ⟨yb, 0, none⟩ = some (.slice (some ⟨g, 0, none⟩) Ds.length gc) ∧ w1.cell? ⟨w.heap.size, 1, none⟩ = some (.int .i64 dk) ∧ w1.cell? ⟨g, i, none⟩ = some (.pointer (some ⟨pb, 0, none⟩)) := (by rw [hw1]; exact ⟨y0, k1, yc⟩)))
  clear hS4 HPK hw1
  have HC1 : Hid _ := fun (_ : Unit) => HC.out wa.drew ((Q.refl wa).drew)
  clear HC
  go_wp2_with fail
  refine (HC1.out ()).mono ?_
  rintro e w2 ⟨rfl, hs2⟩
  have HS2 : Hid _ := hs2
  clear hs2 HC1
  go_wp2_with fail
  go_ret
  exact ⟨rfl, HS2.out⟩

set_option maxRecDepth 100000 in
set_option maxHeartbeats 1600000 in
theorem step_Sync (tg : Tags) (yb : Nat) (Ds : List M.Dsk) (pl : List Nat) (L : List Value) (q : Nat) (hL : L.length = 3 * q) (hd : 0 < Ds.length) (hsz : (L.length + 3 * Ds.length + 3) * 24 ≤ 140737488355328) (dk : Int) (nm s : ByteArray) (a b : Int) (ks : List Int) (ko : Option Addr) (kc : Nat) (w : World) (hf : OpFit w tg dk s a ks ko) (h : YardAt w tg yb Ds pl L) :
    Calls Try.prog 30 #[.pointer (some ⟨yb, 0, none⟩), .agg (opCells 3 dk nm s a b ko ks.length kc)] w fun e w' => e = .returned (.bool true) ∧ YardStep tg yb Ds L w w' := by
  obtain ⟨wa, hwa⟩ : ∃ wa, wa = w.alloc (.cells (opCells 3 dk nm s a b ko ks.length kc) 65) := ⟨_, rfl⟩
  have qa : Q w wa := by rw [hwa]; exact (Q.refl w).alloc _ _
  have hA : YardAt wa (tg.more w.heap.size 0 9) yb Ds pl L := h.keep qa.below.size (fun k hk => Tags.more_old hk) (fun k hk _ => qa.below.block k hk)
  have HPRE : Hid (∀ w', YardStep (tg.more w.heap.size 0 9) yb Ds L wa w' → YardStep tg yb Ds L w w') := fun w' hs => hs.pre qa (fun k hk => Tags.more_old hk)
  have hi := pickOf_lt dk hd
  obtain ⟨g, gc, pb, y0, hpb, yc⟩ := hA.at hi
  obtain ⟨D, hD⟩ : ∃ D, Ds[pickOf dk Ds.length]? = some D := ⟨_, List.getElem?_eq_getElem hi⟩
  have hP := hA.plate _ pb D hpb hD
  have HPK : Hid _ := fun (W : World) => pick_any dk hf.dk Ds.length hd W
  have hdl : Ds.length ≤ 9223372036854775807 := by omega
  obtain ⟨i, hie⟩ : ∃ i, pickOf dk Ds.length = i := ⟨_, rfl⟩
  rw [hie] at hi hpb hD yc hP HPK
  have HQL : Hid (L.length = 3 * q ∧ 0 < Ds.length) := ⟨hL, hd⟩
  have HC : Hid (∀ W, Q wa W → Calls Try.prog 49 #[.pointer (some ⟨pb, 0, none⟩), .agg (opCells 3 dk nm s a b ko ks.length kc)] W fun e w' => e = .returned (.bool true) ∧ YardStep tg yb Ds L w w') := fun W q => by
    refine (changes_Sync (tg.more w.heap.size 0 9) i pb D dk nm s a b ko ks.length kc W (hP.keep q.below.size (fun _ _ => rfl) (fun k hk _ => q.below.block k hk))).mono ?_
    rintro e w' ⟨rfl, hn⟩
    exact ⟨rfl, HPRE.out w' (YardStep.of_new (YardNew.of_plate hA hpb hi (hn.pre q (fun _ _ => rfl))) (by simp) HQL.out.1 HQL.out.2)⟩
  have k1 : wa.cell? ⟨w.heap.size, 1, none⟩ = some (.int .i64 dk) := by rw [hwa]; simp
  have i1 : (i : Int) < (Ds.length : Int) := by omega
  have i0 : (0 : Int) ≤ (i : Int) := by omega
  have hHW : Hid (wa = w.alloc (.cells (opCells 3 dk nm s a b ko ks.length kc) 65)) := hwa
  have k0 : wa.cell? ⟨w.heap.size, 0, none⟩ = some (.int .i64 3) := by rw [hwa]; simp
  have k2 : wa.cell? ⟨w.heap.size, 2, none⟩ = some (.string nm) := by rw [hwa]; simp
  have k3 : wa.cell? ⟨w.heap.size, 3, none⟩ = some (.string s) := by rw [hwa]; simp
  have k4 : wa.cell? ⟨w.heap.size, 4, none⟩ = some (.int .i64 a) := by rw [hwa]; simp
  have k5 : wa.cell? ⟨w.heap.size, 5, none⟩ = some (.int .i64 b) := by rw [hwa]; simp
  have k6 : wa.cell? ⟨w.heap.size, 6, none⟩ = some (.slice ko ks.length kc) := by rw [hwa]; simp
  clear hP hA hf h hwa hD hpb hie hL hd hsz hi qa
  go_enter Try.func30, Try.ntmps30
  go_upto_region 5 with fail
  rw [← hHW.out]
  clear hHW
  go_region_held3 (fun w' => w'.cell? ⟨yb, 0, none⟩ = some (.slice (some ⟨g, 0, none⟩) Ds.length gc) ∧ w'.cell? ⟨w.heap.size, 1, none⟩ = some (.int .i64 dk) ∧ w'.cell? ⟨g, i, none⟩ = some (.pointer (some ⟨pb, 0, none⟩))) (first | exact ⟨y0, k1, yc⟩ | exact hS4)
    (first
      | (go_at_call 44; refine (HPK.out _).mono ?_; rintro e w1 ⟨rfl, hw1⟩; have hS4 : w1.cell? ⟨yb, 0, none⟩ = some (.slice (some ⟨g, 0, none⟩) Ds.length gc) ∧ w1.cell? ⟨w.heap.size, 1, none⟩ = some (.int .i64 dk) ∧ w1.cell? ⟨g, i, none⟩ = some (.pointer (some ⟨pb, 0, none⟩)) := (by rw [hw1]; exact ⟨y0, k1, yc⟩)))
  clear hS4 HPK hw1
  have HC1 : Hid _ := fun (_ : Unit) => HC.out wa.drew ((Q.refl wa).drew)
  clear HC
  go_wp2_with fail
  refine (HC1.out ()).mono ?_
  rintro e w2 ⟨rfl, hs2⟩
  have HS2 : Hid _ := hs2
  clear hs2 HC1
  go_wp2_with fail
  go_ret
  exact ⟨rfl, HS2.out⟩

set_option maxRecDepth 100000 in
set_option maxHeartbeats 1600000 in
theorem step_Rename (tg : Tags) (yb : Nat) (Ds : List M.Dsk) (pl : List Nat) (L : List Value) (q : Nat) (hL : L.length = 3 * q) (hd : 0 < Ds.length) (hsz : (L.length + 3 * Ds.length + 3) * 24 ≤ 140737488355328) (dk : Int) (nm s : ByteArray) (a b : Int) (ks : List Int) (ko : Option Addr) (kc : Nat) (w : World) (hf : OpFit w tg dk s a ks ko) (h : YardAt w tg yb Ds pl L) :
    Calls Try.prog 30 #[.pointer (some ⟨yb, 0, none⟩), .agg (opCells 4 dk nm s a b ko ks.length kc)] w fun e w' => e = .returned (.bool true) ∧ YardStep tg yb Ds L w w' := by
  obtain ⟨wa, hwa⟩ : ∃ wa, wa = w.alloc (.cells (opCells 4 dk nm s a b ko ks.length kc) 65) := ⟨_, rfl⟩
  have qa : Q w wa := by rw [hwa]; exact (Q.refl w).alloc _ _
  have hA : YardAt wa (tg.more w.heap.size 0 9) yb Ds pl L := h.keep qa.below.size (fun k hk => Tags.more_old hk) (fun k hk _ => qa.below.block k hk)
  have HPRE : Hid (∀ w', YardStep (tg.more w.heap.size 0 9) yb Ds L wa w' → YardStep tg yb Ds L w w') := fun w' hs => hs.pre qa (fun k hk => Tags.more_old hk)
  have hi := pickOf_lt dk hd
  obtain ⟨g, gc, pb, y0, hpb, yc⟩ := hA.at hi
  obtain ⟨D, hD⟩ : ∃ D, Ds[pickOf dk Ds.length]? = some D := ⟨_, List.getElem?_eq_getElem hi⟩
  have hP := hA.plate _ pb D hpb hD
  have HPK : Hid _ := fun (W : World) => pick_any dk hf.dk Ds.length hd W
  have hdl : Ds.length ≤ 9223372036854775807 := by omega
  obtain ⟨i, hie⟩ : ∃ i, pickOf dk Ds.length = i := ⟨_, rfl⟩
  rw [hie] at hi hpb hD yc hP HPK
  have HQL : Hid (L.length = 3 * q ∧ 0 < Ds.length) := ⟨hL, hd⟩
  have HC : Hid (∀ W, Q wa W → Calls Try.prog 49 #[.pointer (some ⟨pb, 0, none⟩), .agg (opCells 4 dk nm s a b ko ks.length kc)] W fun e w' => e = .returned (.bool true) ∧ YardStep tg yb Ds L w w') := fun W q => by
    refine (changes_Rename (tg.more w.heap.size 0 9) i pb D dk nm s a b ko ks.length kc W (hP.keep q.below.size (fun _ _ => rfl) (fun k hk _ => q.below.block k hk))).mono ?_
    rintro e w' ⟨rfl, hn⟩
    exact ⟨rfl, HPRE.out w' (YardStep.of_new (YardNew.of_plate hA hpb hi (hn.pre q (fun _ _ => rfl))) (by simp) HQL.out.1 HQL.out.2)⟩
  have k1 : wa.cell? ⟨w.heap.size, 1, none⟩ = some (.int .i64 dk) := by rw [hwa]; simp
  have i1 : (i : Int) < (Ds.length : Int) := by omega
  have i0 : (0 : Int) ≤ (i : Int) := by omega
  have hHW : Hid (wa = w.alloc (.cells (opCells 4 dk nm s a b ko ks.length kc) 65)) := hwa
  have k0 : wa.cell? ⟨w.heap.size, 0, none⟩ = some (.int .i64 4) := by rw [hwa]; simp
  have k2 : wa.cell? ⟨w.heap.size, 2, none⟩ = some (.string nm) := by rw [hwa]; simp
  have k3 : wa.cell? ⟨w.heap.size, 3, none⟩ = some (.string s) := by rw [hwa]; simp
  have k4 : wa.cell? ⟨w.heap.size, 4, none⟩ = some (.int .i64 a) := by rw [hwa]; simp
  have k5 : wa.cell? ⟨w.heap.size, 5, none⟩ = some (.int .i64 b) := by rw [hwa]; simp
  have k6 : wa.cell? ⟨w.heap.size, 6, none⟩ = some (.slice ko ks.length kc) := by rw [hwa]; simp
  clear hP hA hf h hwa hD hpb hie hL hd hsz hi qa
  go_enter Try.func30, Try.ntmps30
  go_upto_region 5 with fail
  rw [← hHW.out]
  clear hHW
  go_region_held3 (fun w' => w'.cell? ⟨yb, 0, none⟩ = some (.slice (some ⟨g, 0, none⟩) Ds.length gc) ∧ w'.cell? ⟨w.heap.size, 1, none⟩ = some (.int .i64 dk) ∧ w'.cell? ⟨g, i, none⟩ = some (.pointer (some ⟨pb, 0, none⟩))) (first | exact ⟨y0, k1, yc⟩ | exact hS4)
    (first
      | (go_at_call 44; refine (HPK.out _).mono ?_; rintro e w1 ⟨rfl, hw1⟩; have hS4 : w1.cell? ⟨yb, 0, none⟩ = some (.slice (some ⟨g, 0, none⟩) Ds.length gc) ∧ w1.cell? ⟨w.heap.size, 1, none⟩ = some (.int .i64 dk) ∧ w1.cell? ⟨g, i, none⟩ = some (.pointer (some ⟨pb, 0, none⟩)) := (by rw [hw1]; exact ⟨y0, k1, yc⟩)))
  clear hS4 HPK hw1
  have HC1 : Hid _ := fun (_ : Unit) => HC.out wa.drew ((Q.refl wa).drew)
  clear HC
  go_wp2_with fail
  refine (HC1.out ()).mono ?_
  rintro e w2 ⟨rfl, hs2⟩
  have HS2 : Hid _ := hs2
  clear hs2 HC1
  go_wp2_with fail
  go_ret
  exact ⟨rfl, HS2.out⟩

set_option maxRecDepth 100000 in
set_option maxHeartbeats 1600000 in
theorem step_Remove (tg : Tags) (yb : Nat) (Ds : List M.Dsk) (pl : List Nat) (L : List Value) (q : Nat) (hL : L.length = 3 * q) (hd : 0 < Ds.length) (hsz : (L.length + 3 * Ds.length + 3) * 24 ≤ 140737488355328) (dk : Int) (nm s : ByteArray) (a b : Int) (ks : List Int) (ko : Option Addr) (kc : Nat) (w : World) (hf : OpFit w tg dk s a ks ko) (h : YardAt w tg yb Ds pl L) :
    Calls Try.prog 30 #[.pointer (some ⟨yb, 0, none⟩), .agg (opCells 5 dk nm s a b ko ks.length kc)] w fun e w' => e = .returned (.bool true) ∧ YardStep tg yb Ds L w w' := by
  obtain ⟨wa, hwa⟩ : ∃ wa, wa = w.alloc (.cells (opCells 5 dk nm s a b ko ks.length kc) 65) := ⟨_, rfl⟩
  have qa : Q w wa := by rw [hwa]; exact (Q.refl w).alloc _ _
  have hA : YardAt wa (tg.more w.heap.size 0 9) yb Ds pl L := h.keep qa.below.size (fun k hk => Tags.more_old hk) (fun k hk _ => qa.below.block k hk)
  have HPRE : Hid (∀ w', YardStep (tg.more w.heap.size 0 9) yb Ds L wa w' → YardStep tg yb Ds L w w') := fun w' hs => hs.pre qa (fun k hk => Tags.more_old hk)
  have hi := pickOf_lt dk hd
  obtain ⟨g, gc, pb, y0, hpb, yc⟩ := hA.at hi
  obtain ⟨D, hD⟩ : ∃ D, Ds[pickOf dk Ds.length]? = some D := ⟨_, List.getElem?_eq_getElem hi⟩
  have hP := hA.plate _ pb D hpb hD
  have HPK : Hid _ := fun (W : World) => pick_any dk hf.dk Ds.length hd W
  have hdl : Ds.length ≤ 9223372036854775807 := by omega
  obtain ⟨i, hie⟩ : ∃ i, pickOf dk Ds.length = i := ⟨_, rfl⟩
  rw [hie] at hi hpb hD yc hP HPK
  have HQL : Hid (L.length = 3 * q ∧ 0 < Ds.length) := ⟨hL, hd⟩
  have HC : Hid (∀ W, Q wa W → Calls Try.prog 49 #[.pointer (some ⟨pb, 0, none⟩), .agg (opCells 5 dk nm s a b ko ks.length kc)] W fun e w' => e = .returned (.bool true) ∧ YardStep tg yb Ds L w w') := fun W q => by
    refine (changes_Remove (tg.more w.heap.size 0 9) i pb D dk nm s a b ko ks.length kc W (hP.keep q.below.size (fun _ _ => rfl) (fun k hk _ => q.below.block k hk))).mono ?_
    rintro e w' ⟨rfl, hn⟩
    exact ⟨rfl, HPRE.out w' (YardStep.of_new (YardNew.of_plate hA hpb hi (hn.pre q (fun _ _ => rfl))) (by simp) HQL.out.1 HQL.out.2)⟩
  have k1 : wa.cell? ⟨w.heap.size, 1, none⟩ = some (.int .i64 dk) := by rw [hwa]; simp
  have i1 : (i : Int) < (Ds.length : Int) := by omega
  have i0 : (0 : Int) ≤ (i : Int) := by omega
  have hHW : Hid (wa = w.alloc (.cells (opCells 5 dk nm s a b ko ks.length kc) 65)) := hwa
  have k0 : wa.cell? ⟨w.heap.size, 0, none⟩ = some (.int .i64 5) := by rw [hwa]; simp
  have k2 : wa.cell? ⟨w.heap.size, 2, none⟩ = some (.string nm) := by rw [hwa]; simp
  have k3 : wa.cell? ⟨w.heap.size, 3, none⟩ = some (.string s) := by rw [hwa]; simp
  have k4 : wa.cell? ⟨w.heap.size, 4, none⟩ = some (.int .i64 a) := by rw [hwa]; simp
  have k5 : wa.cell? ⟨w.heap.size, 5, none⟩ = some (.int .i64 b) := by rw [hwa]; simp
  have k6 : wa.cell? ⟨w.heap.size, 6, none⟩ = some (.slice ko ks.length kc) := by rw [hwa]; simp
  clear hP hA hf h hwa hD hpb hie hL hd hsz hi qa
  go_enter Try.func30, Try.ntmps30
  go_upto_region 5 with fail
  rw [← hHW.out]
  clear hHW
  go_region_held3 (fun w' => w'.cell? ⟨yb, 0, none⟩ = some (.slice (some ⟨g, 0, none⟩) Ds.length gc) ∧ w'.cell? ⟨w.heap.size, 1, none⟩ = some (.int .i64 dk) ∧ w'.cell? ⟨g, i, none⟩ = some (.pointer (some ⟨pb, 0, none⟩))) (first | exact ⟨y0, k1, yc⟩ | exact hS4)
    (first
      | (go_at_call 44; refine (HPK.out _).mono ?_; rintro e w1 ⟨rfl, hw1⟩; have hS4 : w1.cell? ⟨yb, 0, none⟩ = some (.slice (some ⟨g, 0, none⟩) Ds.length gc) ∧ w1.cell? ⟨w.heap.size, 1, none⟩ = some (.int .i64 dk) ∧ w1.cell? ⟨g, i, none⟩ = some (.pointer (some ⟨pb, 0, none⟩)) := (by rw [hw1]; exact ⟨y0, k1, yc⟩)))
  clear hS4 HPK hw1
  have HC1 : Hid _ := fun (_ : Unit) => HC.out wa.drew ((Q.refl wa).drew)
  clear HC
  go_wp2_with fail
  refine (HC1.out ()).mono ?_
  rintro e w2 ⟨rfl, hs2⟩
  have HS2 : Hid _ := hs2
  clear hs2 HC1
  go_wp2_with fail
  go_ret
  exact ⟨rfl, HS2.out⟩

set_option maxRecDepth 100000 in
set_option maxHeartbeats 1600000 in
theorem step_Arm (tg : Tags) (yb : Nat) (Ds : List M.Dsk) (pl : List Nat) (L : List Value) (q : Nat) (hL : L.length = 3 * q) (hd : 0 < Ds.length) (hsz : (L.length + 3 * Ds.length + 3) * 24 ≤ 140737488355328) (dk : Int) (nm s : ByteArray) (a b : Int) (ks : List Int) (ko : Option Addr) (kc : Nat) (w : World) (hf : OpFit w tg dk s a ks ko) (h : YardAt w tg yb Ds pl L) :
    Calls Try.prog 30 #[.pointer (some ⟨yb, 0, none⟩), .agg (opCells 9 dk nm s a b ko ks.length kc)] w fun e w' => e = .returned (.bool true) ∧ YardStep tg yb Ds L w w' := by
  obtain ⟨wa, hwa⟩ : ∃ wa, wa = w.alloc (.cells (opCells 9 dk nm s a b ko ks.length kc) 65) := ⟨_, rfl⟩
  have qa : Q w wa := by rw [hwa]; exact (Q.refl w).alloc _ _
  have hA : YardAt wa (tg.more w.heap.size 0 9) yb Ds pl L := h.keep qa.below.size (fun k hk => Tags.more_old hk) (fun k hk _ => qa.below.block k hk)
  have HPRE : Hid (∀ w', YardStep (tg.more w.heap.size 0 9) yb Ds L wa w' → YardStep tg yb Ds L w w') := fun w' hs => hs.pre qa (fun k hk => Tags.more_old hk)
  have hi := pickOf_lt dk hd
  obtain ⟨g, gc, pb, y0, hpb, yc⟩ := hA.at hi
  obtain ⟨D, hD⟩ : ∃ D, Ds[pickOf dk Ds.length]? = some D := ⟨_, List.getElem?_eq_getElem hi⟩
  have hP := hA.plate _ pb D hpb hD
  have HPK : Hid _ := fun (W : World) => pick_any dk hf.dk Ds.length hd W
  have hdl : Ds.length ≤ 9223372036854775807 := by omega
  obtain ⟨i, hie⟩ : ∃ i, pickOf dk Ds.length = i := ⟨_, rfl⟩
  rw [hie] at hi hpb hD yc hP HPK
  have HQL : Hid (L.length = 3 * q ∧ 0 < Ds.length) := ⟨hL, hd⟩
  have HC : Hid (∀ W, Q wa W → Calls Try.prog 49 #[.pointer (some ⟨pb, 0, none⟩), .agg (opCells 9 dk nm s a b ko ks.length kc)] W fun e w' => e = .returned (.bool true) ∧ YardStep tg yb Ds L w w') := fun W q => by
    refine (changes_Arm (tg.more w.heap.size 0 9) i pb D dk nm s a b ko ks.length kc hf.a W (hP.keep q.below.size (fun _ _ => rfl) (fun k hk _ => q.below.block k hk))).mono ?_
    rintro e w' ⟨rfl, hn⟩
    exact ⟨rfl, HPRE.out w' (YardStep.of_new (YardNew.of_plate hA hpb hi (hn.pre q (fun _ _ => rfl))) (by simp) HQL.out.1 HQL.out.2)⟩
  have k1 : wa.cell? ⟨w.heap.size, 1, none⟩ = some (.int .i64 dk) := by rw [hwa]; simp
  have i1 : (i : Int) < (Ds.length : Int) := by omega
  have i0 : (0 : Int) ≤ (i : Int) := by omega
  have hHW : Hid (wa = w.alloc (.cells (opCells 9 dk nm s a b ko ks.length kc) 65)) := hwa
  have k0 : wa.cell? ⟨w.heap.size, 0, none⟩ = some (.int .i64 9) := by rw [hwa]; simp
  have k2 : wa.cell? ⟨w.heap.size, 2, none⟩ = some (.string nm) := by rw [hwa]; simp
  have k3 : wa.cell? ⟨w.heap.size, 3, none⟩ = some (.string s) := by rw [hwa]; simp
  have k4 : wa.cell? ⟨w.heap.size, 4, none⟩ = some (.int .i64 a) := by rw [hwa]; simp
  have k5 : wa.cell? ⟨w.heap.size, 5, none⟩ = some (.int .i64 b) := by rw [hwa]; simp
  have k6 : wa.cell? ⟨w.heap.size, 6, none⟩ = some (.slice ko ks.length kc) := by rw [hwa]; simp
  clear hP hA hf h hwa hD hpb hie hL hd hsz hi qa
  go_enter Try.func30, Try.ntmps30
  go_upto_region 5 with fail
  rw [← hHW.out]
  clear hHW
  go_region_held3 (fun w' => w'.cell? ⟨yb, 0, none⟩ = some (.slice (some ⟨g, 0, none⟩) Ds.length gc) ∧ w'.cell? ⟨w.heap.size, 1, none⟩ = some (.int .i64 dk) ∧ w'.cell? ⟨g, i, none⟩ = some (.pointer (some ⟨pb, 0, none⟩))) (first | exact ⟨y0, k1, yc⟩ | exact hS4)
    (first
      | (go_at_call 44; refine (HPK.out _).mono ?_; rintro e w1 ⟨rfl, hw1⟩; have hS4 : w1.cell? ⟨yb, 0, none⟩ = some (.slice (some ⟨g, 0, none⟩) Ds.length gc) ∧ w1.cell? ⟨w.heap.size, 1, none⟩ = some (.int .i64 dk) ∧ w1.cell? ⟨g, i, none⟩ = some (.pointer (some ⟨pb, 0, none⟩)) := (by rw [hw1]; exact ⟨y0, k1, yc⟩)))
  clear hS4 HPK hw1
  have HC1 : Hid _ := fun (_ : Unit) => HC.out wa.drew ((Q.refl wa).drew)
  clear HC
  go_wp2_with fail
  refine (HC1.out ()).mono ?_
  rintro e w2 ⟨rfl, hs2⟩
  have HS2 : Hid _ := hs2
  clear hs2 HC1
  go_wp2_with fail
  go_ret
  exact ⟨rfl, HS2.out⟩

set_option maxRecDepth 100000 in
set_option maxHeartbeats 1600000 in
theorem step_Flip (tg : Tags) (yb : Nat) (Ds : List M.Dsk) (pl : List Nat) (L : List Value) (q : Nat) (hL : L.length = 3 * q) (hd : 0 < Ds.length) (hsz : (L.length + 3 * Ds.length + 3) * 24 ≤ 140737488355328) (dk : Int) (nm s : ByteArray) (a b : Int) (ks : List Int) (ko : Option Addr) (kc : Nat) (w : World) (hf : OpFit w tg dk s a ks ko) (h : YardAt w tg yb Ds pl L) :
    Calls Try.prog 30 #[.pointer (some ⟨yb, 0, none⟩), .agg (opCells 11 dk nm s a b ko ks.length kc)] w fun e w' => e = .returned (.bool true) ∧ YardStep tg yb Ds L w w' := by
  obtain ⟨wa, hwa⟩ : ∃ wa, wa = w.alloc (.cells (opCells 11 dk nm s a b ko ks.length kc) 65) := ⟨_, rfl⟩
  have qa : Q w wa := by rw [hwa]; exact (Q.refl w).alloc _ _
  have hA : YardAt wa (tg.more w.heap.size 0 9) yb Ds pl L := h.keep qa.below.size (fun k hk => Tags.more_old hk) (fun k hk _ => qa.below.block k hk)
  have HPRE : Hid (∀ w', YardStep (tg.more w.heap.size 0 9) yb Ds L wa w' → YardStep tg yb Ds L w w') := fun w' hs => hs.pre qa (fun k hk => Tags.more_old hk)
  have hi := pickOf_lt dk hd
  obtain ⟨g, gc, pb, y0, hpb, yc⟩ := hA.at hi
  obtain ⟨D, hD⟩ : ∃ D, Ds[pickOf dk Ds.length]? = some D := ⟨_, List.getElem?_eq_getElem hi⟩
  have hP := hA.plate _ pb D hpb hD
  have HPK : Hid _ := fun (W : World) => pick_any dk hf.dk Ds.length hd W
  have hdl : Ds.length ≤ 9223372036854775807 := by omega
  obtain ⟨i, hie⟩ : ∃ i, pickOf dk Ds.length = i := ⟨_, rfl⟩
  rw [hie] at hi hpb hD yc hP HPK
  have HQL : Hid (L.length = 3 * q ∧ 0 < Ds.length) := ⟨hL, hd⟩
  have HC : Hid (∀ W, Q wa W → Calls Try.prog 49 #[.pointer (some ⟨pb, 0, none⟩), .agg (opCells 11 dk nm s a b ko ks.length kc)] W fun e w' => e = .returned (.bool true) ∧ YardStep tg yb Ds L w w') := fun W q => by
    refine (changes_Flip (tg.more w.heap.size 0 9) i pb D dk nm s a b ko ks.length kc W (hP.keep q.below.size (fun _ _ => rfl) (fun k hk _ => q.below.block k hk))).mono ?_
    rintro e w' ⟨rfl, hn⟩
    exact ⟨rfl, HPRE.out w' (YardStep.of_new (YardNew.of_plate hA hpb hi (hn.pre q (fun _ _ => rfl))) (by simp) HQL.out.1 HQL.out.2)⟩
  have k1 : wa.cell? ⟨w.heap.size, 1, none⟩ = some (.int .i64 dk) := by rw [hwa]; simp
  have i1 : (i : Int) < (Ds.length : Int) := by omega
  have i0 : (0 : Int) ≤ (i : Int) := by omega
  have hHW : Hid (wa = w.alloc (.cells (opCells 11 dk nm s a b ko ks.length kc) 65)) := hwa
  have k0 : wa.cell? ⟨w.heap.size, 0, none⟩ = some (.int .i64 11) := by rw [hwa]; simp
  have k2 : wa.cell? ⟨w.heap.size, 2, none⟩ = some (.string nm) := by rw [hwa]; simp
  have k3 : wa.cell? ⟨w.heap.size, 3, none⟩ = some (.string s) := by rw [hwa]; simp
  have k4 : wa.cell? ⟨w.heap.size, 4, none⟩ = some (.int .i64 a) := by rw [hwa]; simp
  have k5 : wa.cell? ⟨w.heap.size, 5, none⟩ = some (.int .i64 b) := by rw [hwa]; simp
  have k6 : wa.cell? ⟨w.heap.size, 6, none⟩ = some (.slice ko ks.length kc) := by rw [hwa]; simp
  clear hP hA hf h hwa hD hpb hie hL hd hsz hi qa
  go_enter Try.func30, Try.ntmps30
  go_upto_region 5 with fail
  rw [← hHW.out]
  clear hHW
  go_region_held3 (fun w' => w'.cell? ⟨yb, 0, none⟩ = some (.slice (some ⟨g, 0, none⟩) Ds.length gc) ∧ w'.cell? ⟨w.heap.size, 1, none⟩ = some (.int .i64 dk) ∧ w'.cell? ⟨g, i, none⟩ = some (.pointer (some ⟨pb, 0, none⟩))) (first | exact ⟨y0, k1, yc⟩ | exact hS4)
    (first
      | (go_at_call 44; refine (HPK.out _).mono ?_; rintro e w1 ⟨rfl, hw1⟩; have hS4 : w1.cell? ⟨yb, 0, none⟩ = some (.slice (some ⟨g, 0, none⟩) Ds.length gc) ∧ w1.cell? ⟨w.heap.size, 1, none⟩ = some (.int .i64 dk) ∧ w1.cell? ⟨g, i, none⟩ = some (.pointer (some ⟨pb, 0, none⟩)) := (by rw [hw1]; exact ⟨y0, k1, yc⟩)))
  clear hS4 HPK hw1
  have HC1 : Hid _ := fun (_ : Unit) => HC.out wa.drew ((Q.refl wa).drew)
  clear HC
  go_wp2_with fail
  refine (HC1.out ()).mono ?_
  rintro e w2 ⟨rfl, hs2⟩
  have HS2 : Hid _ := hs2
  clear hs2 HC1
  go_wp2_with fail
  go_ret
  exact ⟨rfl, HS2.out⟩
end Go.Proofs.Ytekdenkllipehaa
