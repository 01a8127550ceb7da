/-
  The document's disk: what only reads.
-/
import Derived.Test.YtekdenkllipehaaDskMem2
import Derived.Test.YtekdenkllipehaaRows
import Derived.Deep.QuietTactic
import Derived.BigQuiet
import Derived.Deep.DeepCutAuto
import Derived.Deep.RegionHeld3
import Derived.Laws.Cover1
import Derived.Laws.IdiomStrings
namespace Go.Proofs.Ytekdenkllipehaa
open Go.RowKit

/-- A place as the code tells it. -/
def placeInt (o : Option Nat) : Int := match o with | some i => (i : Int) | none => -1

set_option maxRecDepth 100000 in
set_option maxHeartbeats 400000 in
theorem refPlace (tg : Tags) (o d : Nat) (D : M.Dsk) (ids ps : List Nat) (nm : ByteArray) (hl : D.files.length ≤ 64) (w : World) (h : DiskAt w tg o d D ids ps) :
    Calls Try.prog 91 #[.pointer (some ⟨d, 0, none⟩), .string nm] w fun e w' => e = .returned (.int .i64 (placeInt (M.place D.files nm))) ∧ Q w w' := by
  have HD : Hid (DiskAt w tg o d D ids ps) := h
  have htop := h.top
  clear h
  go_enter Try.func91, Try.ntmps91
  go_wp2_with fail
  go_loopw [5] (fun i wr => ∃ k : Nat, i = .int .i64 k ∧ k ≤ D.files.length ∧ (∀ (j : Nat) (g : M.Fil), j < k → D.files[j]? = some g → M.named nm g = false) ∧ Q w wr) (fun i _ => D.files.length - (intOf i).toNat)
  case atStart => exact ⟨0, rfl, Nat.zero_le _, fun j g hj => by omega, Q.refl w⟩
  case round =>
    obtain ⟨k, rfl, hk, hno, hq⟩ := hrel
    have HNo : Hid _ := hno
    clear hno
    by_cases hlt : k < D.files.length
    · have hf : D.files[k]? = some D.files[k] := List.getElem?_eq_getElem hlt
      obtain ⟨g, cap, p, id, bo, bc, r1, hg, _, _, r2, hF⟩ := (HD.out.kept hq).at hf
      have c0 := hF.c0
      have hpt := hF.top
      have hdr : d < wr.heap.size := Nat.lt_of_lt_of_le htop hq.below.size
      have i1 : (k : Int) < (D.files.length : Int) := by omega
      have i0 : (0 : Int) ≤ (k : Int) := by omega
      cases hnm : M.named nm D.files[k] with
      | true =>
        have HP : Hid (M.place D.files nm = some k) := M.place_at hf hnm (fun j hj g hg => HNo.out j g hj hg)
        unfold M.named at hnm
        generalize D.files[k] = f at *
        clear hF hf
        go_wp2_with fail
        go_ret
        exact ⟨by rw [HP.out]; rfl, hq⟩
      | false =>
        have HN : Hid (∀ (j : Nat) (g : M.Fil), j < k + 1 → D.files[j]? = some g → M.named nm g = false) := fun j g hj hg => by
          rcases Nat.lt_or_ge j k with hjk | hjk
          · exact HNo.out j g hjk hg
          · obtain rfl : j = k := by omega
            rw [hf] at hg
            obtain rfl := Option.some.inj hg
            exact hnm
        unfold M.named at hnm
        generalize D.files[k] = f at *
        clear hF hf
        go_wp2_with fail
        go_roundw
        case rel => exact ⟨k + 1, by go_num, by omega, HN.out, hq⟩
        case measure => simp [intOf]; omega
    · obtain rfl : k = D.files.length := by omega
      obtain ⟨ao, cap, r1⟩ := (HD.out.kept hq).len
      have hdr : d < wr.heap.size := Nat.lt_of_lt_of_le htop hq.below.size
      have HP : Hid (M.place D.files nm = none) := M.place_not (fun j g hg => HNo.out j g (List.getElem?_eq_some_iff.1 hg).1 hg)
      go_wp2_with fail
      go_ret
      exact ⟨by rw [HP.out]; rfl, hq⟩

theorem total_take {fs : List M.Fil} {k : Nat} {f : M.Fil} (h : fs[k]? = some f) : M.total (fs.take (k + 1)) = M.total (fs.take k) + f.bytes.length := by
  have e : fs.take (k + 1) = fs.take k ++ [f] := by rw [List.take_add_one, h]; rfl
  rw [e]
  simp [M.total]

theorem total_take_le (fs : List M.Fil) (k : Nat) : M.total (fs.take k) ≤ M.total fs := by
  have : M.total fs = M.total (fs.take k) + M.total (fs.drop k) := by
    conv => lhs; rw [← List.take_append_drop k fs]
    simp only [M.total, List.map_append, List.sum_append_nat]
  omega

set_option maxRecDepth 100000 in
set_option maxHeartbeats 400000 in
theorem refSize (tg : Tags) (o d : Nat) (D : M.Dsk) (ids ps : List Nat) (hl : D.files.length ≤ 64) (ht : M.total D.files ≤ 1048576) (w : World) (h : DiskAt w tg o d D ids ps) :
    Calls Try.prog 69 #[.pointer (some ⟨d, 0, none⟩)] w fun e w' => e = .returned (.int .i64 (M.total D.files : Nat)) ∧ Q w w' := by
  have HD : Hid (DiskAt w tg o d D ids ps) := h
  have HT : Hid (∀ (k : Nat) (f : M.Fil), D.files[k]? = some f → M.total (D.files.take (k + 1)) = M.total (D.files.take k) + f.bytes.length) := fun k f => total_take
  have HL : Hid (∀ k, M.total (D.files.take k) ≤ M.total D.files) := total_take_le D.files
  have HE : Hid (M.total (D.files.take D.files.length) = M.total D.files) := by rw [List.take_length]; exact rfl
  have htop := h.top
  clear h
  go_enter Try.func69, Try.ntmps69
  go_wp2_with fail
  go_loopw [3, 4] (fun n i wr => ∃ k : Nat, i = .int .i64 k ∧ n = .int .i64 (M.total (D.files.take k) : Nat) ∧ k ≤ D.files.length ∧ Q w wr) (fun _ i _ => D.files.length - (intOf i).toNat)
  case atStart => exact ⟨0, rfl, by simp [M.total], Nat.zero_le _, Q.refl w⟩
  case round =>
    obtain ⟨k, rfl, rfl, hk, hq⟩ := hrel
    have hlk := HL.out k
    have hdr : d < wr.heap.size := Nat.lt_of_lt_of_le htop hq.below.size
    by_cases hlt : k < D.files.length
    · have hf : D.files[k]? = some D.files[k] := List.getElem?_eq_getElem hlt
      obtain ⟨g, cap, p, id, bo, bc, r1, hg, _, _, r2, hF⟩ := (HD.out.kept hq).at hf
      have c1 := hF.c1
      have hpt := hF.top
      have hS := HT.out k _ hf
      have hlk1 := HL.out (k + 1)
      have i1 : (k : Int) < (D.files.length : Int) := by omega
      have i0 : (0 : Int) ≤ (k : Int) := by omega
      generalize D.files[k] = f at *
      have HS : Hid _ := hS
      have hb : M.total (D.files.take k) + f.bytes.length ≤ 1048576 := by omega
      clear hF hf hS hlk1
      go_wp2_with fail
      go_roundw
      case rel => exact ⟨k + 1, by go_num, by rw [HS.out]; go_num, by omega, hq⟩
      case measure => simp [intOf]; omega
    · obtain rfl : k = D.files.length := by omega
      obtain ⟨ao, cap, r1⟩ := (HD.out.kept hq).len
      go_wp2_with fail
      go_ret
      exact ⟨congrArg (fun n : Nat => Ending.returned (.int .i64 (n : Int))) HE.out, hq⟩

/-- The disk's cells, one set. -/
theorem DiskAt.fuseSet {w : World} {tg : Tags} {o d : Nat} {D : M.Dsk} {ids ps : List Nat} (h : DiskAt w tg o d D ids ps) (n : Nat) : DiskAt (w.setCell ⟨d, 3, none⟩ (.int .i64 (n : Int))) tg o d ⟨D.cap, D.files, D.dead, n⟩ ids ps := by
  have hg : w.grownBy (w.setCell ⟨d, 3, none⟩ (.int .i64 (n : Int))) (some d) := ⟨rfl, rfl, rfl, by simp, fun k _ hk => heap_setCell_other w ⟨d, 3, none⟩ k _ (fun e => hk (by simp [e]))⟩
  exact h.header hg (fun j => by rw [World.frozen?_setCell]; exact h.fr j) (World.cell?_setCell_other _ _ _ _ (by simp)) D.dead n (by rw [World.cell?_setCell_other _ _ _ _ (by simp)]; exact h.c0) (by rw [World.cell?_setCell_other _ _ _ _ (by simp)]; exact h.c2) (World.cell?_setCell_same _ _ _ h.c3)

theorem DiskAt.deadSet {w : World} {tg : Tags} {o d : Nat} {D : M.Dsk} {ids ps : List Nat} (h : DiskAt w tg o d D ids ps) (b : Bool) : DiskAt (w.setCell ⟨d, 2, none⟩ (.bool b)) tg o d ⟨D.cap, D.files, b, D.fuse⟩ ids ps := by
  have hg : w.grownBy (w.setCell ⟨d, 2, none⟩ (.bool b)) (some d) := ⟨rfl, rfl, rfl, by simp, fun k _ hk => heap_setCell_other w ⟨d, 2, none⟩ k _ (fun e => hk (by simp [e]))⟩
  exact h.header hg (fun j => by rw [World.frozen?_setCell]; exact h.fr j) (World.cell?_setCell_other _ _ _ _ (by simp)) b D.fuse (by rw [World.cell?_setCell_other _ _ _ _ (by simp)]; exact h.c0) (World.cell?_setCell_same _ _ _ h.c2) (by rw [World.cell?_setCell_other _ _ _ _ (by simp)]; exact h.c3)

set_option maxRecDepth 100000 in
theorem refDies (tg : Tags) (o d : Nat) (D : M.Dsk) (ids ps : List Nat) (hf : D.fuse ≤ 9223372036854775807) (w : World) (h : DiskAt w tg o d D ids ps) :
    Calls Try.prog 99 #[.pointer (some ⟨d, 0, none⟩)] w fun e w' => e = .returned (.bool D.dies.2) ∧ DiskAt w' tg o d D.dies.1 ids ps ∧ Only o tg w w' := by
  have HD : Hid (DiskAt w tg o d D ids ps) := h
  have htop := h.top
  have htd := h.td
  have c2 := h.c2
  have c3 := h.c3
  have f2 := h.fr 2
  have f3 := h.fr 3
  clear h
  unfold M.Dsk.dies
  by_cases h0 : 0 < D.fuse
  · obtain ⟨n, hn⟩ : ∃ n, D.fuse = n + 1 := ⟨D.fuse - 1, by omega⟩
    rw [if_pos h0]
    simp only [hn, Nat.add_sub_cancel]
    have HD2 : Hid (DiskAt ((w.setCell ⟨d, 3, none⟩ (.int .i64 (n : Int))).setCell ⟨d, 2, none⟩ (.bool (decide (n = 0)))) tg o d ⟨D.cap, D.files, decide (n = 0), n⟩ ids ps) := (HD.out.fuseSet n).deadSet _
    have HO : Hid (Only o tg w ((w.setCell ⟨d, 3, none⟩ (.int .i64 (n : Int))).setCell ⟨d, 2, none⟩ (.bool (decide (n = 0))))) := only_set (only_set (Only.refl o tg w) (fun k _ e => by rw [e, htd]) 3 _) (fun k _ e => by rw [e, htd]) 2 _
    rw [hn] at c3
    have w1 : IntKind.i64.wrap ((n : Int) + 1 - 1) = (n : Int) := by rw [IntKind.wrap_i64]; omega
    have w2 : IntKind.i64.wrap (n : Int) = (n : Int) := by rw [IntKind.wrap_i64]; omega
    have hz : ((n : Int) == 0) = decide (n = 0) := by rw [Bool.eq_iff_iff]; simp
    have hd0 : decide ((0 : Int) < (n : Int) + 1) = true := by rw [decide_eq_true_eq]; omega
    clear h0 hn hf HD
    go_enter Try.func99, Try.ntmps99
    go_wp2_with fail
    go_ret
    exact ⟨rfl, HD2.out, HO.out⟩
  · rw [if_neg h0]
    have hz : D.fuse = 0 := by omega
    rw [hz] at c3
    clear h0 hz hf
    go_enter Try.func99, Try.ntmps99
    go_wp2_with fail
    go_ret
    exact ⟨rfl, HD.out, Only.refl o tg w⟩

set_option maxRecDepth 100000 in
theorem refArm (tg : Tags) (o d : Nat) (D : M.Dsk) (ids ps : List Nat) (n : Int) (w : World) (h : DiskAt w tg o d D ids ps) :
    Calls Try.prog 81 #[.pointer (some ⟨d, 0, none⟩), .int .i64 n] w fun e w' => e = .returned (.int .i64 ((D.arm n).2 : Nat)) ∧ DiskAt w' tg o d (D.arm n).1 ids ps ∧ Only o tg w w' := by
  have HD : Hid (DiskAt w tg o d D ids ps) := h
  have htop := h.top
  have htd := h.td
  have c3 := h.c3
  have f3 := h.fr 3
  clear h
  unfold M.Dsk.arm
  by_cases h0 : n < 0
  · rw [if_pos h0]
    go_enter Try.func81, Try.ntmps81
    go_wp2_with fail
    go_ret
    exact ⟨rfl, HD.out, Only.refl o tg w⟩
  · rw [if_neg h0]
    obtain ⟨m, rfl⟩ := Int.eq_ofNat_of_zero_le (show 0 ≤ n by omega)
    have HD2 : Hid _ := HD.out.fuseSet m
    have HO : Hid _ := only_set (Only.refl o tg w) (fun k _ e => by rw [e, htd]) 3 (.int .i64 (m : Int))
    go_enter Try.func81, Try.ntmps81
    go_wp2_with fail
    go_ret
    exact ⟨rfl, HD2.out, HO.out⟩

set_option maxRecDepth 100000 in
set_option maxHeartbeats 800000 in
theorem refChanged (tg : Tags) (o d : Nat) (D : M.Dsk) (ids ps : List Nat) (nm new : ByteArray) (hl : D.files.length ≤ 64) (hf : D.fuse ≤ 9223372036854775807) (w : World) (h : DiskAt w tg o d D ids ps) :
    Calls Try.prog 102 #[.pointer (some ⟨d, 0, none⟩), .string nm, .string new] w fun e w' => e = .returned (.tuple #[.int .i64 ((D.changed nm new).2.1 : Nat), .int .i64 ((D.changed nm new).2.2 : Nat)]) ∧ DiskAt w' tg o d (D.changed nm new).1 ids ps ∧ Only o tg w w' := by
  have HPl : Hid _ := fun (_ : Unit) => refPlace tg o d D ids ps nm hl w h
  have HDi : Hid _ := fun W (hW : DiskAt W tg o d D ids ps) => refDies tg o d D ids ps hf W hW
  have HD : Hid (DiskAt w tg o d D ids ps) := h
  have htop := h.top
  clear h
  unfold M.Dsk.changed
  cases hdd : D.dead with
  | true =>
    simp only [if_true]
    go_enter Try.func102, Try.ntmps102
    go_wp2_with fail
    refine (HPl.out ()).mono ?_
    rintro e w1 ⟨rfl, q1⟩
    have hD1 := HD.out.kept q1
    have c2 := hD1.c2
    have ht1 := hD1.top
    rw [hdd] at c2
    have HD1 : Hid _ := hD1
    clear hD1
    go_wp2_with fail
    go_ret2
    exact ⟨rfl, HD1.out, Only.of_q q1⟩
  | false =>
    simp only [if_neg (show ¬ (false = true) by decide)]
    cases hpl : M.place D.files nm with
    | none =>
      rw [hpl] at HPl
      simp only [placeInt] at HPl
      simp only
      go_enter Try.func102, Try.ntmps102
      go_wp2_with fail
      refine (HPl.out ()).mono ?_
      rintro e w1 ⟨rfl, q1⟩
      have hD1 := HD.out.kept q1
      have c2 := hD1.c2
      have ht1 := hD1.top
      rw [hdd] at c2
      have HD1 : Hid _ := hD1
      clear hD1
      go_wp2_with fail
      go_ret2
      exact ⟨rfl, HD1.out, Only.of_q q1⟩
    | some i =>
      rw [hpl] at HPl
      simp only [placeInt] at HPl
      simp only
      cases hok : M.okName new with
      | false =>
        simp only [if_true]
        have hn : new.size < 1 ∨ 32 < new.size := by
          simp only [M.okName, decide_eq_false_iff_not] at hok
          omega
        rcases hn with hn | hn
        · have d1 : decide ((new.size : Int) < 1) = true := by rw [decide_eq_true_eq]; omega
          have d1' : new.size = 0 := by omega
          go_enter Try.func102, Try.ntmps102
          go_wp2_with fail
          refine (HPl.out ()).mono ?_
          rintro e w1 ⟨rfl, q1⟩
          have hD1 := HD.out.kept q1
          have c2 := hD1.c2
          have ht1 := hD1.top
          rw [hdd] at c2
          have HD1 : Hid _ := hD1
          clear hD1
          go_wp2_with fail
          go_ret2
          exact ⟨rfl, HD1.out, Only.of_q q1⟩
        · have d1 : decide ((new.size : Int) < 1) = false := by rw [decide_eq_false_iff_not]; omega
          have d2 : decide ((32 : Int) < (new.size : Int)) = true := by rw [decide_eq_true_eq]; omega
          go_enter Try.func102, Try.ntmps102
          go_wp2_with fail
          refine (HPl.out ()).mono ?_
          rintro e w1 ⟨rfl, q1⟩
          have hD1 := HD.out.kept q1
          have c2 := hD1.c2
          have ht1 := hD1.top
          rw [hdd] at c2
          have HD1 : Hid _ := hD1
          clear hD1
          go_wp2_with fail
          go_ret2
          exact ⟨rfl, HD1.out, Only.of_q q1⟩
      | true =>
        simp only [if_neg (show ¬ (true = false) by decide)]
        have hn : 1 ≤ new.size ∧ new.size ≤ 32 := by simpa [M.okName] using hok
        have d1 : decide ((new.size : Int) < 1) = false := by rw [decide_eq_false_iff_not]; omega
        have d2 : decide ((32 : Int) < (new.size : Int)) = false := by rw [decide_eq_false_iff_not]; omega
        obtain ⟨⟨E, b⟩, hE⟩ : ∃ p, p = D.dies := ⟨_, rfl⟩
        rw [← hE] at HDi
        simp only [← hE]
        clear hE hok hpl
        cases b with
        | true =>
          simp only
          go_enter Try.func102, Try.ntmps102
          go_wp2_with fail
          refine (HPl.out ()).mono ?_
          rintro e w1 ⟨rfl, q1⟩
          have hD1 := HD.out.kept q1
          have c2 := hD1.c2
          have ht1 := hD1.top
          rw [hdd] at c2
          have HD1 : Hid _ := hD1
          clear hD1
          go_wp2_with fail
          refine (HDi.out w1 HD1.out).mono ?_
          rintro e w2 ⟨rfl, hD2, hO2⟩
          have HD2 : Hid _ := hD2
          have HO2 : Hid _ := hO2
          clear hD2 hO2
          go_wp2_with fail
          go_ret2
          exact ⟨rfl, HD2.out, (Only.of_q q1).trans HO2.out⟩
        | false =>
          simp only
          go_enter Try.func102, Try.ntmps102
          go_wp2_with fail
          refine (HPl.out ()).mono ?_
          rintro e w1 ⟨rfl, q1⟩
          have hD1 := HD.out.kept q1
          have c2 := hD1.c2
          have ht1 := hD1.top
          rw [hdd] at c2
          have HD1 : Hid _ := hD1
          clear hD1
          go_wp2_with fail
          refine (HDi.out w1 HD1.out).mono ?_
          rintro e w2 ⟨rfl, hD2, hO2⟩
          have HD2 : Hid _ := hD2
          have HO2 : Hid _ := hO2
          clear hD2 hO2
          go_wp2_with fail
          go_ret2
          exact ⟨rfl, HD2.out, (Only.of_q q1).trans HO2.out⟩

set_option maxRecDepth 100000 in
/-- A file's bytes as a text. -/
theorem FileAt.text {w : World} {tg : Tags} {o p id : Nat} {f : M.Fil} {bo : Option Addr} {bc : Nat} (h : FileAt w tg o p id f bo bc) : (convert 41 9 (.slice bo f.bytes.length bc)).run Try.prog w = .ok (.string ⟨f.bytes.toArray⟩) w := by
  rcases h.own.2 with ⟨hv, h0⟩ | ⟨g, c, cur, hv, hg, hh, _⟩
  · injection hv with e1 e2 e3
    subst e1 e3
    have hb : f.bytes = [] := List.eq_nil_of_length_eq_zero h0
    rw [hb]
    simp [run_convert_bytes_string w 41 9 5 none 0 0 Try.underlying41 Try.underlying5 Try.underlying9, Conv.bytesToString]
    rfl
  · injection hv with e1 e2 e3
    subst e1 e3
    exact run_convert_bytes_back (P := Try.prog) w 41 9 5 ⟨g, 0, none⟩ bc f.bytes Try.underlying41 Try.underlying5 Try.underlying9 (fun j hj => by
      have hp : (⟨g, 0, none⟩ : Addr).add j = ⟨g, j, none⟩ := by unfold Addr.add; split <;> simp_all
      rw [hp, h.own.cellAt j (by omega)]
      simp [byteVals, List.getElem?_eq_getElem hj])

set_option maxRecDepth 100000 in
set_option maxHeartbeats 400000 in
theorem refRead (tg : Tags) (o d : Nat) (D : M.Dsk) (ids ps : List Nat) (nm : ByteArray) (hl : D.files.length ≤ 64) (w : World) (h : DiskAt w tg o d D ids ps) :
    Calls Try.prog 63 #[.pointer (some ⟨d, 0, none⟩), .string nm] w fun e w' => e = .returned (.tuple #[.string ⟨(D.read nm).1.toArray⟩, .int .i64 ((D.read nm).2 : Nat)]) ∧ Q w w' := by
  have HPl : Hid _ := fun (_ : Unit) => refPlace tg o d D ids ps nm hl w h
  have HD : Hid (DiskAt w tg o d D ids ps) := h
  clear h
  unfold M.Dsk.read
  cases hdd : D.dead with
  | true =>
    simp only [if_true]
    go_enter Try.func63, Try.ntmps63
    go_wp2_with fail
    refine (HPl.out ()).mono ?_
    rintro e w1 ⟨rfl, q1⟩
    have hD1 := HD.out.kept q1
    have c2 := hD1.c2
    have ht1 := hD1.top
    rw [hdd] at c2
    clear hD1
    go_wp2_with fail
    go_ret2
    exact ⟨rfl, q1⟩
  | false =>
    simp only [if_neg (show ¬ (false = true) by decide)]
    cases hpl : M.place D.files nm with
    | none =>
      rw [hpl] at HPl
      simp only [placeInt] at HPl
      simp only
      go_enter Try.func63, Try.ntmps63
      go_wp2_with fail
      refine (HPl.out ()).mono ?_
      rintro e w1 ⟨rfl, q1⟩
      have hD1 := HD.out.kept q1
      have c2 := hD1.c2
      have ht1 := hD1.top
      rw [hdd] at c2
      clear hD1
      go_wp2_with fail
      go_ret2
      exact ⟨rfl, q1⟩
    | some i =>
      obtain ⟨f, hf, _, _⟩ := M.place_some hpl
      rw [hpl] at HPl
      simp only [placeInt] at HPl
      simp only [hf, Option.map_some, Option.getD_some]
      have hil : i < D.files.length := (List.getElem?_eq_some_iff.1 hf).1
      have i1 : (i : Int) < (D.files.length : Int) := by omega
      have i0 : (0 : Int) ≤ (i : Int) := by omega
      go_enter Try.func63, Try.ntmps63
      go_wp2_with fail
      refine (HPl.out ()).mono ?_
      rintro e w1 ⟨rfl, q1⟩
      have hD1 := HD.out.kept q1
      have c2 := hD1.c2
      have ht1 := hD1.top
      rw [hdd] at c2
      obtain ⟨g, cap, p, id, bo, bc, r1, hg, _, _, r2, hF⟩ := hD1.at hf
      have c1 := hF.c1
      have hpt := hF.top
      have hcv := hF.text
      clear hD1 hF hf hpl
      go_wp2_with fail
      go_ret2
      exact ⟨rfl, q1⟩
end Go.Proofs.Ytekdenkllipehaa
