import Derived.Test.YtekdenkllipehaaYStepB
/-
  The statement's yard: one step of a script, whatever it is.
-/
namespace Go.Proofs.Ytekdenkllipehaa
open Go.RowKit

theorem opened_length (Ds : List M.Dsk) (c : Int) : (opened Ds c).length = Ds.length ∨ (opened Ds c).length = Ds.length + 1 := by
  unfold opened
  split
  · right; simp
  · left; rfl

theorem opened_step {tg : Tags} {yb : Nat} {Ds : List M.Dsk} {L : List Value} {w w' : World} {a : Int} (h : YardNew tg yb (opened Ds a) L w w') {q : Nat} (hL : L.length = 3 * q) (hd : 0 < Ds.length) : YardStep tg yb Ds L w w' := by
  have hl := opened_length Ds a
  exact ⟨opened Ds a, L, h, by omega, ⟨q, hL⟩, by omega⟩

set_option maxRecDepth 100000 in
set_option maxHeartbeats 800000 in
theorem step_new (tg : Tags) (yb : Nat) (Ds : List M.Dsk) (pl : List Nat) (L : List Value) (q : Nat) (hL : L.length = 3 * q) (hd : 0 < Ds.length) (hsz : (Ds.length + 1) * 8 ≤ 140737488355328) (dk : Int) (nm s : ByteArray) (a b : Int) (ko : Option Addr) (kl kc : Nat) (w : World) (h : YardAt w tg yb Ds pl L) :
    Calls Try.prog 30 #[.pointer (some ⟨yb, 0, none⟩), .agg (opCells 1 dk nm s a b ko kl kc)] w fun e w' => e = .returned (.bool true) ∧ YardStep tg yb Ds L w w' := by
  obtain ⟨wa, hwa⟩ : ∃ wa, wa = w.alloc (.cells (opCells 1 dk nm s a b ko kl kc) 65) := ⟨_, rfl⟩
  have qa : Q w wa := by rw [hwa]; exact (Q.refl w).alloc _ _
  have hA : YardAt wa (tg.more w.heap.size 0 9) yb Ds pl L := h.keep qa.below.size (fun k hk => Tags.more_old hk) (fun k hk _ => qa.below.block k hk)
  have HC : Hid (Calls Try.prog 29 #[.pointer (some ⟨yb, 0, none⟩), .int .i64 a] (w.alloc (.cells (opCells 1 dk nm s a b ko kl kc) 65)) fun e w' => e = .returned (.bool true) ∧ YardStep tg yb Ds L w w') := by
    rw [← hwa]
    refine Calls.mono (yard_opened (tg.more w.heap.size 0 9) yb Ds pl L a hsz wa hA) ?_
    rintro e w' ⟨rfl, hn⟩
    exact ⟨rfl, (opened_step hn hL hd).pre qa (fun k hk => Tags.more_old hk)⟩
  clear hA h hwa hL hd hsz qa
  go_enter Try.func30, Try.ntmps30
  go_wp2_with fail
  refine HC.out.mono ?_
  rintro e w2 ⟨rfl, hs2⟩
  have HS2 : Hid _ := hs2
  clear hs2 HC
  go_wp2_with fail
  go_ret
  exact ⟨rfl, HS2.out⟩

set_option maxRecDepth 100000 in
set_option maxHeartbeats 800000 in
theorem yard_step_none (tg : Tags) (yb : Nat) (Ds : List M.Dsk) (pl : List Nat) (L : List Value) (q : Nat) (hL : L.length = 3 * q) (hd : 0 < Ds.length) (kind dk : Int) (hk : kind < 1 ∨ 11 < kind) (nm s : ByteArray) (a b : Int) (ko : Option Addr) (kl kc : Nat) (w : World) (h : YardAt w tg yb Ds pl L) :
    Calls Try.prog 30 #[.pointer (some ⟨yb, 0, none⟩), .agg (opCells kind dk nm s a b ko kl kc)] w fun e w' => e = .returned (.bool true) ∧ YardStep tg yb Ds L w w' := by
  have HS : Hid (YardStep tg yb Ds L w (w.alloc (.cells (opCells kind dk nm s a b ko kl kc) 65))) := YardStep.of_new (YardNew.of_q h ((Q.refl w).alloc _ _)) rfl hL hd
  have e1 : (kind == 1) = false := by rw [beq_eq_false_iff_ne]; omega
  rcases hk with hk | hk
  · have e2 : decide (kind < 2) = true := by rw [decide_eq_true_eq]; omega
    clear h hL hd hk
    go_enter Try.func30, Try.ntmps30
    go_wp2_with fail
    go_ret
    exact ⟨rfl, HS.out⟩
  · have e2 : decide (kind < 2) = false := by rw [decide_eq_false_iff_not]; omega
    have e3 : decide (11 < kind) = true := by rw [decide_eq_true_eq]; omega
    clear h hL hd hk
    go_enter Try.func30, Try.ntmps30
    go_wp2_with fail
    go_ret
    exact ⟨rfl, HS.out⟩

theorem step_any (tg : Tags) (yb : Nat) (Ds : List M.Dsk) (pl : List Nat) (L : List Value) (q : Nat) (hL : L.length = 3 * q) (hd : 0 < Ds.length) (hsz : (L.length + 3 * Ds.length + 3) * 24 ≤ 140737488355328) (kind dk : Int) (nm s : ByteArray) (a b : Int) (ks : List Int) (ko : Option Addr) (kc : Nat) (w : World) (hf : OpFit w tg dk s a ks ko) (h : YardAt w tg yb Ds pl L) :
    Calls Try.prog 30 #[.pointer (some ⟨yb, 0, none⟩), .agg (opCells kind dk nm s a b ko ks.length kc)] w fun e w' => e = .returned (.bool true) ∧ YardStep tg yb Ds L w w' := by
  have hs8 : (Ds.length + 1) * 8 ≤ 140737488355328 := by
    have h1 : (Ds.length + 1) * 8 ≤ (L.length + 3 * Ds.length + 3) * 24 := Nat.mul_le_mul (by omega) (by decide)
    exact Nat.le_trans h1 hsz
  by_cases h0 : kind < 1 ∨ 11 < kind
  · exact yard_step_none tg yb Ds pl L q hL hd kind dk h0 nm s a b ko ks.length kc w h
  · have hcases : kind = 1 ∨ kind = 2 ∨ kind = 3 ∨ kind = 4 ∨ kind = 5 ∨ kind = 6 ∨ kind = 7 ∨ kind = 8 ∨ kind = 9 ∨ kind = 10 ∨ kind = 11 := by omega
    rcases hcases with e | e | e | e | e | e | e | e | e | e | e <;> rw [e]
    · exact step_new tg yb Ds pl L q hL hd hs8 dk nm s a b ko ks.length kc w h
    · exact step_Append tg yb Ds pl L q hL hd hsz dk nm s a b ks ko kc w hf h
    · exact step_Sync tg yb Ds pl L q hL hd hsz dk nm s a b ks ko kc w hf h
    · exact step_Rename tg yb Ds pl L q hL hd hsz dk nm s a b ks ko kc w hf h
    · exact step_Remove tg yb Ds pl L q hL hd hsz dk nm s a b ks ko kc w hf h
    · exact step_reads tg yb Ds pl L q hL hd hsz dk nm s a b ks ko kc w hf h
    · exact step_names tg yb Ds pl L q hL hd hsz dk nm s a b ks ko kc w hf h
    · exact step_sizes tg yb Ds pl L q hL hd hsz dk nm s a b ks ko kc w hf h
    · exact step_Arm tg yb Ds pl L q hL hd hsz dk nm s a b ks ko kc w hf h
    · exact step_crashes tg yb Ds pl L q hL hd hsz dk nm s a b ks ko kc w hf h
    · exact step_Flip tg yb Ds pl L q hL hd hsz dk nm s a b ks ko kc w hf h
end Go.Proofs.Ytekdenkllipehaa

/-
  The statement's yard: all that is asked in the end.
-/
namespace Go.Proofs.Ytekdenkllipehaa
open Go.RowKit

/-- The yard between two plates that are asked. -/
structure AskIn (tg : Tags) (yb : Nat) (Ds : List M.Dsk) (pl : List Nat) (q k : Nat) (w W : World) : Prop where
  yard : ∃ (tg' : Tags) (L : List Value), (∀ j, j < w.heap.size → tg' j = tg j) ∧ YardAt W tg' yb Ds pl L ∧ L.length = 3 * (q + k)
  old : Old tg w W

theorem AskIn.kept {tg : Tags} {yb : Nat} {Ds : List M.Dsk} {pl : List Nat} {q k : Nat} {w W W' : World} (h : AskIn tg yb Ds pl q k w W) (qq : Q W W') : AskIn tg yb Ds pl q k w W' := by
  obtain ⟨⟨tg', L, a1, a2, a3⟩, ho⟩ := h
  exact ⟨⟨tg', L, a1, a2.kept qq, a3⟩, ho.trans (Old.of_q qq (tg := tg)) (fun _ _ => rfl)⟩

set_option maxRecDepth 100000 in
set_option maxHeartbeats 1600000 in
theorem yard_asked (tg : Tags) (yb : Nat) (Ds : List M.Dsk) (pl : List Nat) (L : List Value) (q : Nat) (hL : L.length = 3 * q) (hsz : (3 * (q + Ds.length) + 3) * 24 ≤ 140737488355328) (w : World) (h : YardAt w tg yb Ds pl L) :
    Calls Try.prog 32 #[.pointer (some ⟨yb, 0, none⟩)] w fun e w' => e = .returned (.bool true) ∧ Old tg w w' := by
  have HS : Hid (AskIn tg yb Ds pl q 0 w w) := ⟨⟨tg, L, fun _ _ => rfl, h, by omega⟩, Old.of_q (Q.refl w)⟩
  have HSZ : Hid ((3 * (q + Ds.length) + 3) * 24 ≤ 140737488355328) := hsz
  have hdl : Ds.length ≤ 9223372036854775806 := by omega
  clear h hL hsz
  go_enter Try.func32, Try.ntmps32
  go_wp2_with fail
  go_loopw [3] (fun j wr => ∃ k : Nat, j = .int .i64 k ∧ k ≤ Ds.length ∧ Hid (AskIn tg yb Ds pl q k w wr)) (fun j _ => Ds.length - (intOf j).toNat)
  case atStart => exact ⟨0, rfl, Nat.zero_le _, HS.out⟩
  case round =>
    obtain ⟨k, rfl, hk, HI⟩ := hrel
    obtain ⟨⟨tg', L', a1, a2, a3⟩, ho⟩ := HI.out
    by_cases hlt : k < Ds.length
    · obtain ⟨g, gc, pb, y0, hpb, yc⟩ := a2.at hlt
      obtain ⟨D, hD⟩ : ∃ D, Ds[k]? = some D := ⟨_, List.getElem?_eq_getElem hlt⟩
      have hls : (L'.length + 3) * 24 ≤ 140737488355328 := by
        rw [a3]
        exact Nat.le_trans (Nat.mul_le_mul_right 24 (by omega)) HSZ.out
      have HN : Hid _ := fun (_ : Unit) => yard_names tg' yb Ds pl L' (q + k) a3 hls wr a2 k pb D hpb hD
      have HP : Hid (pl[k]? = some pb ∧ Ds[k]? = some D) := ⟨hpb, hD⟩
      have HO : Hid (Old tg w wr) := ho
      have HA1 : Hid (∀ j, j < w.heap.size → tg' j = tg j) := a1
      have HL3 : Hid (L'.length = 3 * (q + k)) := a3
      have i1 : (k : Int) < (Ds.length : Int) := by omega
      have i0 : (0 : Int) ≤ (k : Int) := by omega
      have wk : IntKind.i64.wrap ((k : Int) + 1) = (k : Int) + 1 := by rw [IntKind.wrap_i64]; omega
      clear a1 a2 a3 ho hpb hD hls HI HS
      go_wp2_with fail
      refine (HN.out ()).mono ?_
      rintro e w1 ⟨rfl, hyk⟩
      obtain ⟨tg1, v1, v2, v3, b1, b2, b3, b4, b5, b6, b7⟩ := hyk
      have HI1 : Hid (AskIn tg yb Ds pl q (k + 1) w w1) := by
        have hs0 := HO.out.size
        refine ⟨⟨tg1, L' ++ [v1, v2, v3], fun j hj => (b1 j (Nat.lt_of_lt_of_le hj hs0)).trans (HA1.out j hj), b2, by have := HL3.out; simp; omega⟩, HO.out.trans (tg1 := tg') ⟨b3, b4, b5, b6, fun j hj e => b7 j hj (by rw [e]; decide) (by rw [e]; decide)⟩ HA1.out⟩
      have hPl := b2.plate k pb D HP.out.1 HP.out.2
      have HSi : Hid _ := fun (_ : Unit) => plate_sizes tg1 k pb D w1 hPl
      have HPl : Hid (Plate w1 tg1 k pb D) := hPl
      clear b1 b2 b3 b4 b5 b6 b7 hPl HN y0 yc
      go_wp2_with fail
      refine (HSi.out ()).mono ?_
      rintro e w2 ⟨rfl, q2⟩
      have hP2 : Plate w2 tg1 k pb D := HPl.out.keep q2.below.size (fun _ _ => rfl) (fun j hj _ => q2.below.block j hj)
      have HI2 : Hid _ := HI1.out.kept q2
      have HP2 : Hid (Plate w2 tg1 k pb D) := hP2
      obtain ⟨x, y, ids, ps, ids', ps', hPA⟩ := hP2
      have HRef : Hid (DiskAt w2 tg1 (2 * k + 2) y D ids' ps') := hPA.ref
      have cy := hPA.cy
      have hfl := hPA.fine.good.few
      clear HSi HI1 HPl hPA
      go_wp2_with fail
      go_loopw [7] (fun j wr2 => ∃ t : Nat, j = .int .i64 t ∧ t ≤ D.files.length ∧ Q w2 wr2) (fun j _ => D.files.length - (intOf j).toNat)
      case atStart => exact ⟨0, rfl, Nat.zero_le _, Q.refl _⟩
      case round =>
        obtain ⟨t, rfl, ht, hqt⟩ := hrel
        have cy1 := kept_cell cy hqt
        have hR := HRef.out.kept hqt
        by_cases hltn : t < D.files.length
        · obtain ⟨g1, cap1, p1, id1, bo1, bc1, r1, _, _, _, r2, hF⟩ := hR.at (List.getElem?_eq_getElem hltn)
          have f0 := hF.c0
          have HRd : Hid _ := fun (W : World) (qq : Q wr W) => plate_reads tg1 k pb D D.files[t].name W (HP2.out.keep (hqt.trans qq).below.size (fun _ _ => rfl) (fun j hj _ => (hqt.trans qq).below.block j hj))
          generalize D.files[t].name = nm at *
          have j1 : (t : Int) < (D.files.length : Int) := by omega
          have j0 : (0 : Int) ≤ (t : Int) := by omega
          have wt : IntKind.i64.wrap ((t : Int) + 1) = (t : Int) + 1 := by rw [IntKind.wrap_i64]; omega
          have HR1 : Hid _ := fun (_ : Unit) => HRd.out wr (Q.refl _)
          clear hF hR HRd
          go_wp2_with fail
          refine (HR1.out ()).mono ?_
          rintro e w4 ⟨rfl, q4⟩
          clear HR1
          go_wp2_with fail
          go_roundw
          case rel => exact ⟨t + 1, by go_num, by omega, hqt.trans q4⟩
          case measure => simp [intOf]; omega
        · obtain rfl : t = D.files.length := by omega
          obtain ⟨ao1, cap1, r1⟩ := hR.len
          have HI3 : Hid (AskIn tg yb Ds pl q (k + 1) w wr) := HI2.out.kept hqt
          clear hR
          go_wp2_with fail
          go_roundw
          case rel => exact ⟨k + 1, by go_num, by omega, HI3.out⟩
          case measure => simp [intOf]; omega
    · obtain rfl : k = Ds.length := by omega
      obtain ⟨b1, c1, r1, r2, r3⟩ := a2.plates
      have hpl := a2.len
      rw [hpl] at r1
      have hwl : L'.length ≤ 13194139533312 := by rw [a3]; have := HSZ.out; omega
      have HW : Hid _ := fun (_ : Unit) => yard_whole tg' yb Ds pl L' hwl wr a2
      have HO : Hid (Old tg w wr) := ho
      clear a1 a2 a3 ho HI HS r2 r3 hpl hwl
      go_wp2_with fail
      refine (HW.out ()).mono ?_
      rintro e w5 ⟨rfl, q5⟩
      have HO5 : Hid (Old tg w w5) := HO.out.trans (Old.of_q q5 (tg := tg)) (fun _ _ => rfl)
      clear HW HO
      go_wp2_with fail
      go_ret
      exact ⟨rfl, HO5.out⟩
end Go.Proofs.Ytekdenkllipehaa

/-
  The statement on disks: a whole script.
-/
namespace Go.Proofs.Ytekdenkllipehaa
open Go.RowKit

/-- An operation of a script. -/
structure Opn where
  kind : Int
  dk : Int
  nm : ByteArray
  s : ByteArray
  a : Int
  b : Int
  ks : List Int
  ko : Option Addr
  kc : Nat

def Opn.cells (o : Opn) : Array Value := opCells o.kind o.dk o.nm o.s o.a o.b o.ko o.ks.length o.kc

/-- What is known of an operation that came in. -/
structure OpnOk (w : World) (o : Opn) : Prop where
  dk : -9223372036854775808 ≤ o.dk ∧ o.dk ≤ 9223372036854775807
  s : o.s.size ≤ 140737488351232
  a : o.a ≤ 9223372036854775807
  kl : o.ks.length * 8 ≤ 140737488351232
  nil : o.ko = none → o.ks = []
  keep : ∀ j x, o.ks[j]? = some x → ∃ b off, o.ko = some ⟨b, off, none⟩ ∧ w.cell? ⟨b, off + j, none⟩ = some (.int .i64 x) ∧ b < w.heap.size

/-- A script in memory. -/
def ScrAt (w : World) (so : Option Addr) (ops : List Opn) : Prop :=
  ∀ i o, ops[i]? = some o → OpnOk w o ∧ ∃ b off, so = some ⟨b, off, none⟩ ∧ b < w.heap.size ∧ w.cell? ⟨b, off + i * 7, none⟩ = some (.int .i64 o.kind) ∧ w.cell? ⟨b, off + i * 7 + 1, none⟩ = some (.int .i64 o.dk) ∧ w.cell? ⟨b, off + i * 7 + 2, none⟩ = some (.string o.nm) ∧ w.cell? ⟨b, off + i * 7 + 3, none⟩ = some (.string o.s) ∧ w.cell? ⟨b, off + i * 7 + 4, none⟩ = some (.int .i64 o.a) ∧ w.cell? ⟨b, off + i * 7 + 5, none⟩ = some (.int .i64 o.b) ∧ w.cell? ⟨b, off + i * 7 + 6, none⟩ = some (.slice o.ko o.ks.length o.kc)

/-- The yard between two steps. -/
structure UpIn (w : World) (yb k : Nat) (W : World) : Prop where
  yard : ∃ (tg : Tags) (Ds : List M.Dsk) (pl : List Nat) (L : List Value), (∀ j, j < w.heap.size → tg j = (0, 9)) ∧ YardAt W tg yb Ds pl L ∧ L.length + 3 * Ds.length ≤ 3 + 3 * k ∧ (∃ q, L.length = 3 * q) ∧ 0 < Ds.length
  below : Below w.heap.size w W

theorem Old.below {tg : Tags} {w W W' : World} (h : Old tg W W') (hB : Below w.heap.size w W) (ht : ∀ j, j < w.heap.size → tg j = (0, 9)) : Below w.heap.size w W' :=
  ⟨h.os.trans hB.os, h.tape.trans hB.tape, h.output.trans hB.output, Nat.le_trans hB.size h.size, fun k hk => (h.block k (Nat.lt_of_lt_of_le hk hB.size) (ht k hk)).trans (hB.block k hk)⟩

theorem UpIn.kept {w : World} {yb k : Nat} {W W' : World} (h : UpIn w yb k W) (qq : Q W W') : UpIn w yb k W' := by
  obtain ⟨⟨tg, Ds, pl, L, a1, a2, a3⟩, hb⟩ := h
  exact ⟨⟨tg, Ds, pl, L, a1, a2.kept qq, a3⟩, hb.trans (qq.below.mono hb.size)⟩

/-- One step. -/
theorem up_step (w : World) (yb k : Nat) (W : World) (h : UpIn w yb k W) (hj : (3 + 3 * k + 3) * 24 ≤ 140737488355328) (kind dk : Int) (nm s : ByteArray) (a b : Int) (ks : List Int) (ko : Option Addr) (kc : Nat) (hdk : -9223372036854775808 ≤ dk ∧ dk ≤ 9223372036854775807) (hs : s.size ≤ 140737488351232) (ha : a ≤ 9223372036854775807) (hkl : ks.length * 8 ≤ 140737488351232) (hn : ko = none → ks = [])
    (hk : ∀ i x, ks[i]? = some x → ∃ b off, ko = some ⟨b, off, none⟩ ∧ w.cell? ⟨b, off + i, none⟩ = some (.int .i64 x) ∧ b < w.heap.size) :
    Calls Try.prog 30 #[.pointer (some ⟨yb, 0, none⟩), .agg (opCells kind dk nm s a b ko ks.length kc)] W fun e w' => e = .returned (.bool true) ∧ UpIn w yb (k + 1) w' := by
  obtain ⟨⟨tg, Ds, pl, L, a1, a2, a3, ⟨q, a4⟩, a5⟩, hb⟩ := h
  have hbound : (L.length + 3 * Ds.length + 3) * 24 ≤ 140737488355328 := Nat.le_trans (Nat.mul_le_mul_right 24 (by omega)) hj
  have hfit : OpFit W tg dk s a ks ko := ⟨hdk, hs, ha, hkl, hn, fun i x hi => by
    obtain ⟨b', off, e, hc, hlt⟩ := hk i x hi
    exact ⟨b', off, e, (hb.cell (p := ⟨b', off + i, none⟩) hlt).trans hc, Nat.lt_of_lt_of_le hlt hb.size, a1 b' hlt⟩⟩
  refine Calls.mono (step_any tg yb Ds pl L q a4 a5 hbound kind dk nm s a b ks ko kc W hfit a2) ?_
  rintro e w' ⟨rfl, Ds', L', ⟨tg', pl', c1, c2, c3⟩, d1, d2, d3⟩
  exact ⟨rfl, ⟨⟨tg', Ds', pl', L', fun i hi => (c1 i (Nat.lt_of_lt_of_le hi hb.size)).trans (a1 i hi), c2, by omega, d2, d3⟩, c3.below hb a1⟩⟩

theorem up_whole (w : World) (yb k : Nat) (W : World) (h : UpIn w yb k W) (hk : 3 + 3 * k ≤ 13194139533312) :
    Calls Try.prog 31 #[.pointer (some ⟨yb, 0, none⟩)] W fun e w' => e = .returned (.bool true) ∧ UpIn w yb k w' := by
  obtain ⟨tg, Ds, pl, L, a1, a2, a3, a4, a5⟩ := h.yard
  refine Calls.mono (yard_whole tg yb Ds pl L (by omega) W a2) ?_
  rintro e w' ⟨rfl, qq⟩
  exact ⟨rfl, h.kept qq⟩

theorem up_asked (w : World) (yb k : Nat) (W : World) (h : UpIn w yb k W) (hk : (3 + 3 * k + 3) * 24 ≤ 140737488355328) :
    Calls Try.prog 32 #[.pointer (some ⟨yb, 0, none⟩)] W fun e w' => e = .returned (.bool true) ∧ Below w.heap.size w w' := by
  obtain ⟨⟨tg, Ds, pl, L, a1, a2, a3, ⟨q, a4⟩, a5⟩, hb⟩ := h
  have hbound : (3 * (q + Ds.length) + 3) * 24 ≤ 140737488355328 := Nat.le_trans (Nat.mul_le_mul_right 24 (by omega)) hk
  refine Calls.mono (yard_asked tg yb Ds pl L q a4 hbound W a2) ?_
  rintro e w' ⟨rfl, ho⟩
  exact ⟨rfl, ho.below hb a1⟩

def tag9 : Tags := fun _ => (0, 9)

/-- The empty yard. -/
theorem yard_new (w : World) : YardAt (w.alloc (.cells #[.slice none 0 0, .slice none 0 0] 61)) (tag9.more w.heap.size 0 0) w.heap.size [] [] [] := by
  refine ⟨by simp, Tags.more_new (Nat.le_refl _), fun j => by simp, ⟨none, 0, by simp, World.ownsRow_nil _ _ _ _, fun g hg => by simp [Value.ownBlock] at hg⟩, ⟨none, 0, by simp, World.ownsRow_nil _ _ _ _, fun g hg => by simp [Value.ownBlock] at hg⟩, rfl, fun i pb D h1 _ => by simp at h1, fun i v h1 => by simp at h1⟩

def firstName : ByteArray := ⟨#[102, 105, 114, 115, 116]⟩
def abcText : ByteArray := ⟨#[97, 98, 99]⟩

set_option maxRecDepth 100000 in
set_option maxHeartbeats 1600000 in
theorem upTo_walk (ops : List Opn) (so : Option Addr) (sc : Nat) (w : World) (hS : ScrAt w so ops) (hl : ops.length * 88 ≤ 140737488351232) :
    Calls Try.prog 18 #[.slice so ops.length sc] w fun e w' => e = .returned (.int .i64 (-1)) ∧ Below w.heap.size w w' := by
  have qy : Q w (w.alloc (.cells #[.slice none 0 0, .slice none 0 0] 61)) := (Q.refl w).alloc _ _
  have HS : Hid (ScrAt w so ops) := hS
  have HL : Hid (ops.length * 88 ≤ 140737488351232) := hl
  have hol : ops.length ≤ 9223372036854775806 := by omega
  have HO : Hid (Calls Try.prog 29 #[.pointer (some ⟨w.heap.size, 0, none⟩), .int .i64 100] (w.alloc (.cells #[.slice none 0 0, .slice none 0 0] 61)) fun e w' => e = .returned (.bool true) ∧ UpIn w w.heap.size 0 w' ∧ ∃ g c, w'.cell? ⟨w.heap.size, 0, none⟩ = some (.slice (some ⟨g, 0, none⟩) 1 c)) := by
    refine Calls.mono (yard_opened _ w.heap.size [] [] [] 100 (by decide) _ (yard_new w)) ?_
    rintro e w' ⟨rfl, tg', pl', c1, c2, c3⟩
    have hop : opened [] 100 = [⟨100, [], false, 0⟩] := by unfold opened; rw [if_pos (by decide)]; rfl
    rw [hop] at c2
    have ht : ∀ j, j < w.heap.size → (tag9.more w.heap.size 0 0) j = (0, 9) := fun j hj => Tags.more_old hj
    obtain ⟨g, gc, pb, y0, _, _⟩ := c2.at (i := 0) (by simp)
    refine ⟨rfl, ⟨⟨tg', _, pl', [], fun j hj => (c1 j (by simp; omega)).trans (ht j hj), c2, by simp, ⟨0, rfl⟩, by simp⟩, c3.below qy.below ht⟩, g, gc, by simpa using y0⟩
  have HP1 : Hid (∀ W, UpIn w w.heap.size 0 W → Calls Try.prog 30 #[.pointer (some ⟨w.heap.size, 0, none⟩), .agg #[.int .i64 2, .int .i64 0, .string ⟨#[102, 105, 114, 115, 116]⟩, .string ⟨#[97, 98, 99]⟩, .int .i64 0, .int .i64 0, .slice none 0 0]] W fun e w' => e = .returned (.bool true) ∧ UpIn w w.heap.size 1 w') := fun W hW =>
    up_step w w.heap.size 0 W hW (by decide) 2 0 ⟨#[102, 105, 114, 115, 116]⟩ ⟨#[97, 98, 99]⟩ 0 0 [] none 0 (by decide) (by decide) (by decide) (by decide) (fun _ => rfl) (fun i x hx => by simp at hx)
  have HP2 : Hid (∀ W, UpIn w w.heap.size 1 W → Calls Try.prog 30 #[.pointer (some ⟨w.heap.size, 0, none⟩), .agg #[.int .i64 6, .int .i64 0, .string ⟨#[102, 105, 114, 115, 116]⟩, .string ⟨#[]⟩, .int .i64 0, .int .i64 0, .slice none 0 0]] W fun e w' => e = .returned (.bool true) ∧ UpIn w w.heap.size 2 w') := fun W hW =>
    up_step w w.heap.size 1 W hW (by decide) 6 0 ⟨#[102, 105, 114, 115, 116]⟩ ⟨#[]⟩ 0 0 [] none 0 (by decide) (by decide) (by decide) (by decide) (fun _ => rfl) (fun i x hx => by simp at hx)
  clear hS hl qy
  go_enter Try.func18, Try.ntmps18
  go_wp2_with fail
  refine HO.out.mono ?_
  rintro e w1 ⟨rfl, hU1, g, gc, cg⟩
  have HC1 : Hid _ := fun (_ : Unit) => HP1.out w1 hU1
  clear HO HP1 hU1
  go_wp2_with fail
  refine (HC1.out ()).mono ?_
  rintro e w2 ⟨rfl, hU2⟩
  have HC2 : Hid _ := fun (_ : Unit) => HP2.out w2 hU2
  clear HC1 HP2 hU2 cg
  go_wp2_with fail
  refine (HC2.out ()).mono ?_
  rintro e w3 ⟨rfl, hU3⟩
  have HU3 : Hid (UpIn w w.heap.size 2 w3) := hU3
  clear HC2 hU3
  go_wp2_with fail
  go_loopw [4, 7] (fun b j wr => ∃ k : Nat, j = .int .i64 k ∧ k ≤ ops.length ∧ Hid (UpIn w w.heap.size (k + 2) wr)) (fun _ j _ => ops.length - (intOf j).toNat)
  case atStart => exact ⟨0, rfl, Nat.zero_le _, HU3.out⟩
  case round =>
    obtain ⟨k, rfl, hk, HI⟩ := hrel
    by_cases hlt : k < ops.length
    · obtain ⟨hok, b, off, hso, hbw, c0, c1, c2, c3, c4, c5, c6⟩ := HS.out k _ (List.getElem?_eq_getElem hlt)
      subst hso
      have hB := HI.out.below
      have kc : ∀ f v, w.cell? ⟨b, off + k * 7 + f, none⟩ = some v → wr.cell? ⟨b, off + k * 7 + f, none⟩ = some v := fun f v h => (hB.cell (p := ⟨b, off + k * 7 + f, none⟩) hbw).trans h
      have d0 := kc 0 _ c0
      have d1 := kc 1 _ c1
      have d2 := kc 2 _ c2
      have d3 := kc 3 _ c3
      have d4 := kc 4 _ c4
      have d5 := kc 5 _ c5
      have d6 := kc 6 _ c6
      simp only [Nat.add_zero] at d0
      have hb1 : (3 + 3 * (k + 2) + 3) * 24 ≤ 140737488355328 := by have := HL.out; omega
      have hb2 : 3 + 3 * (k + 2 + 1) ≤ 13194139533312 := by have := HL.out; omega
      have HST : Hid _ := fun (W : World) (hW : UpIn w w.heap.size (k + 2) W) => up_step w w.heap.size (k + 2) W hW hb1 ops[k].kind ops[k].dk ops[k].nm ops[k].s ops[k].a ops[k].b ops[k].ks ops[k].ko ops[k].kc hok.dk hok.s hok.a hok.kl hok.nil hok.keep
      have HWH : Hid _ := fun (W : World) (hW : UpIn w w.heap.size (k + 2 + 1) W) => up_whole w w.heap.size (k + 2 + 1) W hW hb2
      generalize ops[k] = op at *
      have i1 : (k : Int) < (ops.length : Int) := by omega
      have i0 : (0 : Int) ≤ (k : Int) := by omega
      have wk : IntKind.i64.wrap ((k : Int) + 1) = (k : Int) + 1 := by rw [IntKind.wrap_i64]; omega
      have HC1 : Hid _ := fun (_ : Unit) => HST.out wr HI.out
      clear c0 c1 c2 c3 c4 c5 c6 kc hB hok hb1 hb2 HST HU3
      go_wp2_with fail
      refine (HC1.out ()).mono ?_
      rintro e w4 ⟨rfl, hU4⟩
      have HW1 : Hid _ := fun (_ : Unit) => HWH.out w4 hU4
      clear HC1 HWH hU4
      go_wp2_with fail
      refine (HW1.out ()).mono ?_
      rintro e w5 ⟨rfl, hU5⟩
      have HU5 : Hid (UpIn w w.heap.size (k + 2 + 1) w5) := hU5
      clear HW1 hU5
      go_wp2_with fail
      go_roundw
      case rel => exact ⟨k + 1, by go_num, by omega, HU5.out⟩
      case measure => simp [intOf]; omega
    · obtain rfl : k = ops.length := by omega
      have hb1 : (3 + 3 * (ops.length + 2) + 3) * 24 ≤ 140737488355328 := by have := HL.out; omega
      have HAs : Hid _ := fun (_ : Unit) => up_asked w w.heap.size (ops.length + 2) wr HI.out hb1
      clear hb1 HI HU3
      go_wp2_with fail
      refine (HAs.out ()).mono ?_
      rintro e w5 ⟨rfl, hB5⟩
      have HB5 : Hid _ := hB5
      clear HAs hB5
      go_wp2_with fail
      go_ret
      exact ⟨rfl, HB5.out⟩
end Go.Proofs.Ytekdenkllipehaa
