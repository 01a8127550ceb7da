/-
  The landed disk: Remove, Read, Flip.
-/
import Derived.Test.YtekdenkllipehaaLSync
namespace Go.Proofs.Ytekdenkllipehaa
open Go.RowKit

theorem LDiskAt.erased {w w' : World} {tg : Tags} {o d : Nat} {D : M.Dsk} {ids ps : List Nat} (h : LDiskAt w tg o d D ids ps) (i : Nat) (hn : MapNew tg o d (namesOf (D.files.eraseIdx i)) (ps.eraseIdx i) w w') :
    ∃ tg' : Tags, (∀ k, k < w.heap.size → tg' k = tg k) ∧ LDiskAt w' tg' o d ⟨D.cap, D.files.eraseIdx i, D.dead, D.fuse⟩ (ids.eraseIdx i) (ps.eraseIdx i) ∧ MapOnly tg o d w w' := by
  obtain ⟨tg', h1, h2, h3⟩ := hn
  refine ⟨tg', h1, h.remap h3 h1 h2 (h.nodup.sublist (List.eraseIdx_sublist ..)) (by have := h.lenI; rw [List.length_eraseIdx, List.length_eraseIdx, this]) (fun j p id f e1 e2 e3 => h.file _ p id f (erase_from e1) (erase_from e2) (erase_from e3)), h3⟩

set_option maxRecDepth 100000 in
set_option maxHeartbeats 800000 in
theorem diskRemove (tg : Tags) (o d : Nat) (D : M.Dsk) (ids ps : List Nat) (hD : D.Fine) (nm : ByteArray) (w : World) (h : LDiskAt w tg o d D ids ps) :
    Calls Try.prog 78 #[.pointer (some ⟨d, 0, none⟩), .string nm] w fun e w' => e = .returned (.int .i64 ((D.remove nm).2 : Nat)) ∧ LEnded tg o d (D.remove nm).1 w w' := by
  rw [remove_chg]
  have HG : Hid _ := fun (_ : Unit) => mapGet tg o d D.files ps hD.sorted hD.good.few nm w h.map
  have HC : Hid _ := fun (c : Nat) (W : World) (hW : LDiskAt W tg o d D ids ps) => diskChange tg o d D ids ps c hD.fuse W hW
  have HD : Hid (LDiskAt w tg o d D ids ps) := h
  have HF : Hid _ := chg_files D (codeOf (M.place D.files nm).isSome)
  cases hp : M.place D.files nm with
  | none =>
    rw [hp] at HG HF
    obtain ⟨⟨E, c⟩, hE⟩ : ∃ p, D.chg (codeOf false) = p := ⟨_, rfl⟩
    have hc : ¬ (c = 0) := fun e => by
      have := chg_zero (D := D) (c := codeOf false) (by rw [hE]; exact e)
      simp [codeOf] at this
    have hcb : ((c : Int) == 0) = false := by rw [beq_eq_false_iff_ne]; omega
    simp only [Option.isSome_none, hE, if_neg hc]
    have HCC : Hid _ := fun (W : World) (hW : LDiskAt W tg o d D ids ps) => HC.out (codeOf false) W hW
    rw [hE] at HCC
    clear h HC HF
    go_enter Try.func78, Try.ntmps78
    go_wp2_with fail
    refine (HG.out ()).mono ?_
    rintro e w1 ⟨rfl, q1⟩
    have HC1 : Hid _ := fun (_ : Unit) => HCC.out w1 (HD.out.kept q1)
    simp only [ptrAt, Option.isSome_none]
    clear HG HCC
    go_wp2_with fail
    refine (diskNamed false w1).mono ?_
    rintro e w2 ⟨rfl, hw2⟩
    subst hw2
    go_wp2_with fail
    refine (HC1.out ()).mono ?_
    rintro e w3 ⟨rfl, hL, hO⟩
    have HEn : Hid (LEnded tg o d E w w3) := LEnded.same hL ((Only.of_q q1).trans hO)
    clear hL hO HC1
    go_wp2_with fail
    go_ret
    exact ⟨rfl, HEn.out⟩
  | some i =>
    rw [hp] at HG HF
    obtain ⟨f, p, id, e1, e2, e3, e4, _⟩ := place_ptr h hp
    rw [e4] at HG
    obtain ⟨⟨E, c⟩, hE⟩ : ∃ p, D.chg (codeOf true) = p := ⟨_, rfl⟩
    have hfe : E.files = D.files := by have := HF.out; rw [Option.isSome_some, hE] at this; exact this
    simp only [Option.isSome_some, hE, Option.getD_some]
    have HCC : Hid _ := fun (W : World) (hW : LDiskAt W tg o d D ids ps) => HC.out (codeOf true) W hW
    rw [hE] at HCC
    have hi : i < E.files.length := by rw [hfe]; exact (List.getElem?_eq_some_iff.1 e1).1
    by_cases hc : c = 0
    · subst hc
      rw [if_pos rfl]
      have HDr : Hid _ := fun (W : World) (hW : LDiskAt W tg o d E ids ps) => mapDrop tg o d E.files ps (by rw [hfe]; exact hD.sorted) (by rw [hfe]; exact hD.good.few) nm i (by rw [hfe]; exact hp) W hW.map
      rw [← hfe]
      clear h HC HF e1 e2 e3 e4 hfe hE hp hi
      go_enter Try.func78, Try.ntmps78
      go_wp2_with fail
      refine (HG.out ()).mono ?_
      rintro e w1 ⟨rfl, q1⟩
      have HC1 : Hid _ := fun (_ : Unit) => HCC.out w1 (HD.out.kept q1)
      simp only [Option.isSome_some]
      clear HG HCC
      go_wp2_with fail
      refine (diskNamed true w1).mono ?_
      rintro e w2 ⟨rfl, hw2⟩
      subst hw2
      go_wp2_with fail
      refine (HC1.out ()).mono ?_
      rintro e w3 ⟨rfl, hL, hO⟩
      have HC2 : Hid _ := fun (_ : Unit) => HDr.out w3 hL
      have HL : Hid _ := hL
      have HO : Hid (Only o tg w w3) := (Only.of_q q1).trans hO
      clear hL hO HC1 HDr
      go_wp2_with fail
      refine (HC2.out ()).mono ?_
      rintro e w4 ⟨rfl, hN⟩
      have HEn : Hid (LEnded tg o d ⟨E.cap, E.files.eraseIdx i, E.dead, E.fuse⟩ w w4) := by
        obtain ⟨tg', a1, a2, a3⟩ := HL.out.erased i hN
        exact ⟨tg', _, _, fun k hk => a1 k (Nat.lt_of_lt_of_le hk HO.out.size), a2, HO.out.trans a3.only⟩
      clear hN HC2
      go_wp2_with fail
      go_ret
      exact ⟨rfl, HEn.out⟩
    · rw [if_neg hc]
      have hcb : ((c : Int) == 0) = false := by rw [beq_eq_false_iff_ne]; omega
      clear h HC HF e1 e2 e3 e4 hfe hE hp hi
      go_enter Try.func78, Try.ntmps78
      go_wp2_with fail
      refine (HG.out ()).mono ?_
      rintro e w1 ⟨rfl, q1⟩
      have HC1 : Hid _ := fun (_ : Unit) => HCC.out w1 (HD.out.kept q1)
      simp only [Option.isSome_some]
      clear HG HCC
      go_wp2_with fail
      refine (diskNamed true w1).mono ?_
      rintro e w2 ⟨rfl, hw2⟩
      subst hw2
      go_wp2_with fail
      refine (HC1.out ()).mono ?_
      rintro e w3 ⟨rfl, hL, hO⟩
      have HEn : Hid (LEnded tg o d E w w3) := LEnded.same hL ((Only.of_q q1).trans hO)
      clear hL hO HC1
      go_wp2_with fail
      go_ret
      exact ⟨rfl, HEn.out⟩

set_option maxRecDepth 100000 in
/-- A file's bytes as a text. -/
theorem LFileAt.text {w : World} {tg : Tags} {o p id : Nat} {f : M.Fil} {bo : Option Addr} {bc : Nat} (h : LFileAt w tg o p id f bo bc) : (convert 41 9 (.slice bo f.bytes.length bc)).run Try.prog w = .ok (.string ⟨f.bytes.toArray⟩) w := by
  rcases h.own.2 with ⟨hv, h0⟩ | ⟨g, c, cur, hv, hg, hh, _⟩
  · injection hv with e1 e2 e3
    subst e1 e3
    have hb : f.bytes = [] := List.eq_nil_of_length_eq_zero h0
    rw [hb]
    simp [run_convert_bytes_string w 41 9 5 none 0 0 Try.underlying41 Try.underlying5 Try.underlying9, Conv.bytesToString]
    rfl
  · injection hv with e1 e2 e3
    subst e1 e3
    exact run_convert_bytes_back (P := Try.prog) w 41 9 5 ⟨g, 0, none⟩ bc f.bytes Try.underlying41 Try.underlying5 Try.underlying9 (fun j hj => by
      have hp : (⟨g, 0, none⟩ : Addr).add j = ⟨g, j, none⟩ := by unfold Addr.add; split <;> simp_all
      rw [hp, h.own.cellAt j (by omega)]
      simp [byteVals, List.getElem?_eq_getElem hj])

set_option maxRecDepth 100000 in
set_option maxHeartbeats 800000 in
theorem diskRead (tg : Tags) (o d : Nat) (D : M.Dsk) (ids ps : List Nat) (hD : D.Fine) (nm : ByteArray) (w : World) (h : LDiskAt w tg o d D ids ps) :
    Calls Try.prog 62 #[.pointer (some ⟨d, 0, none⟩), .string nm] w fun e w' => e = .returned (.tuple #[.string ⟨(D.read nm).1.toArray⟩, .int .i64 ((D.read nm).2 : Nat)]) ∧ Q w w' := by
  have HG : Hid _ := fun (_ : Unit) => mapGet tg o d D.files ps hD.sorted hD.good.few nm w h.map
  have HD : Hid (LDiskAt w tg o d D ids ps) := h
  have c3 := h.c3
  unfold M.Dsk.read
  cases hd : D.dead
  · rw [hd] at c3
    simp only [Bool.false_eq_true, if_false]
    cases hp : M.place D.files nm with
    | none =>
      rw [hp] at HG
      clear h hd
      go_enter Try.func62, Try.ntmps62
      go_wp2_with fail
      refine (HG.out ()).mono ?_
      rintro e w1 ⟨rfl, q1⟩
      simp only [ptrAt, Option.isSome_none]
      go_wp2_with fail
      go_ret2
      exact ⟨rfl, q1⟩
    | some i =>
      rw [hp] at HG
      obtain ⟨f, p, id, e1, e2, e3, e4, _⟩ := place_ptr h hp
      rw [e4] at HG
      have he : ((D.files[i]?).map fun f => f.bytes).getD [] = f.bytes := by rw [e1]; rfl
      simp only [he]
      clear h hd hp e4 he
      go_enter Try.func62, Try.ntmps62
      go_wp2_with fail
      refine (HG.out ()).mono ?_
      rintro e w1 ⟨rfl, q1⟩
      simp only [Option.isSome_some]
      obtain ⟨bo, bc, hF⟩ := (HD.out.kept q1).file i p id f e2 e3 e1
      have c0 := hF.c0
      have ht := hF.text
      clear hF HG e1 e2 e3
      obtain ⟨n, hn⟩ : ∃ n, f.bytes.length = n := ⟨_, rfl⟩
      rw [hn] at c0 ht
      clear hn
      go_wp2_with fail
      go_ret2
      exact ⟨rfl, q1⟩
  · rw [hd] at c3
    simp only [if_true]
    clear h hd HG
    go_enter Try.func62, Try.ntmps62
    go_wp2_with fail
    go_ret2
    exact ⟨rfl, Q.refl w⟩

theorem LFileAt.bytesAt {w : World} {tg : Tags} {o p id : Nat} {f : M.Fil} {bo : Option Addr} {bc : Nat} (h : LFileAt w tg o p id f bo bc) {j : Nat} (hj : j < f.bytes.length) :
    ∃ g, bo = some ⟨g, 0, none⟩ ∧ g < w.heap.size ∧ tg g = (o, 4 + 2 * id) ∧ w.cell? ⟨g, j, none⟩ = some (.int .u8 ((f.bytes.getD j 0).toNat : Int)) ∧ w.frozen? ⟨g, j, none⟩ = false := by
  rcases h.own.2 with ⟨_, h0⟩ | ⟨g, c, cur, hv, _, hh, _⟩
  · omega
  · injection hv with e1 e2 e3
    subst e1
    refine ⟨g, rfl, (Array.getElem?_eq_some_iff.1 hh).1, h.tb g rfl, ?_, frozen_of_row w g j cur _ hh⟩
    rw [h.own.cellAt j (by omega)]
    simp [byteVals, List.getElem?_eq_getElem hj, List.getD]

theorem LFileAt.byteSet {w : World} {tg : Tags} {o p id g : Nat} {f : M.Fil} {bc : Nat} (h : LFileAt w tg o p id f (some ⟨g, 0, none⟩) bc) (j : Nat) (b : UInt8) : LFileAt (w.setCell ⟨g, j, none⟩ (.int .u8 (b.toNat : Int))) tg o p id { f with bytes := f.bytes.set j b } (some ⟨g, 0, none⟩) bc := by
  have hne : p ≠ g := fun e => by
    have h2 := h.tb g rfl
    rw [← e] at h2
    exact tag_ne h2 (by omega) h.tp
  have hx : ∀ k, (⟨g, j, none⟩ : Addr) ≠ ⟨p, k, none⟩ := fun k e => by injection e with e1; exact hne e1.symm
  have hst := (h.own.stored j (.int .u8 (b.toNat : Int))).1
  refine ⟨by rw [World.cell?_setCell_other _ _ _ _ (hx 0)]; simpa using h.c0, by rw [World.cell?_setCell_other _ _ _ _ (hx 1)]; exact h.c1, fun k => by rw [World.frozen?_setCell]; exact h.fr k, ?_, h.tp, ?_, by simpa using h.top⟩
  · have : (byteVals f.bytes).set j (.int .u8 (b.toNat : Int)) = byteVals (f.bytes.set j b) := by simp [byteVals, List.map_set]
    rw [this] at hst
    simpa using hst
  · intro k hk
    exact h.tb k (by simpa using hk)

theorem LDiskAt.byteSet {w : World} {tg : Tags} {o d : Nat} {D : M.Dsk} {ids ps : List Nat} (h : LDiskAt w tg o d D ids ps) {i p id g : Nat} {f : M.Fil} {bc : Nat} (hp : ps[i]? = some p) (hid : ids[i]? = some id) (hf : D.files[i]? = some f) (hF : LFileAt w tg o p id f (some ⟨g, 0, none⟩) bc) (j : Nat) (b : UInt8) :
    LDiskAt (w.setCell ⟨g, j, none⟩ (.int .u8 (b.toNat : Int))) tg o d ⟨D.cap, D.files.set i { f with bytes := f.bytes.set j b }, D.dead, D.fuse⟩ ids ps :=
  h.turn hp hid hf (by simp) (fun _ _ => rfl) (fun k _ _ h2 => heap_setCell_other w ⟨g, j, none⟩ k _ (fun e => h2 (by simp at e; rw [e]; exact hF.tb g rfl))) _ rfl (hF.byteSet j b)

set_option maxRecDepth 100000 in
set_option maxHeartbeats 1600000 in
theorem diskFlip (tg : Tags) (o d : Nat) (D : M.Dsk) (ids ps : List Nat) (hD : D.Fine) (nm : ByteArray) (at_ mask : Int) (w : World) (h : LDiskAt w tg o d D ids ps) :
    Calls Try.prog 82 #[.pointer (some ⟨d, 0, none⟩), .string nm, .int .i64 at_, .int .i64 mask] w fun e w' => e = .returned (.int .i64 ((D.flip nm at_ mask).2 : Nat)) ∧ LDiskAt w' tg o d (D.flip nm at_ mask).1 ids ps ∧ Only o tg w w' := by
  have HG : Hid _ := fun (_ : Unit) => mapGet tg o d D.files ps hD.sorted hD.good.few nm w h.map
  have HD : Hid (LDiskAt w tg o d D ids ps) := h
  unfold M.Dsk.flip
  cases hpl : M.place D.files nm with
  | none =>
    rw [hpl] at HG
    simp only
    clear h
    go_enter Try.func82, Try.ntmps82
    go_wp2_with fail
    refine (HG.out ()).mono ?_
    rintro e w1 ⟨rfl, q1⟩
    have HD1 : Hid _ := HD.out.kept q1
    simp only [ptrAt, Option.isSome_none]
    go_wp2_with fail
    go_ret
    exact ⟨rfl, HD1.out, Only.of_q q1⟩
  | some i =>
    rw [hpl] at HG
    obtain ⟨f, p, id, e1, e2, e3, e4, _⟩ := place_ptr h hpl
    rw [e4] at HG
    simp only [e1]
    clear h hpl e4
    by_cases hbad : at_ < 0 ∨ (f.bytes.length : Int) ≤ at_ ∨ mask < 0 ∨ 255 < mask
    · rw [if_pos hbad]
      have arms : ∃ b1 b2 b3 b4 : Bool, b1 = decide (at_ < 0) ∧ b2 = decide ((f.bytes.length : Int) ≤ at_) ∧ b3 = decide (mask < 0) ∧ b4 = decide (255 < mask) := ⟨_, _, _, _, rfl, rfl, rfl, rfl⟩
      obtain ⟨b1, b2, b3, b4, h1, h2, h3, h4⟩ := arms
      have hor : (b1 || b2 || b3 || b4) = true := by
        rw [h1, h2, h3, h4]
        simp only [Bool.or_eq_true, decide_eq_true_eq]
        omega
      clear hbad
      cases b1 <;> cases b2 <;> cases b3 <;> cases b4
      all_goals first
        | (exfalso; simp at hor; done)
        | skip
      all_goals
        have g1 := h1.symm
        have g2 := h2.symm
        have g3 := h3.symm
        have g4 := h4.symm
        clear h1 h2 h3 h4 hor
        go_enter Try.func82, Try.ntmps82
        go_wp2_with fail
        refine (HG.out ()).mono ?_
        rintro e w1 ⟨rfl, q1⟩
        have hD1 := HD.out.kept q1
        obtain ⟨bo, bc, hF⟩ := hD1.file i p id f e2 e3 e1
        have c0 := hF.c0
        have HD1 : Hid _ := hD1
        simp only [Option.isSome_some]
        clear hD1 hF
        go_wp2_with fail
        go_ret
        exact ⟨rfl, HD1.out, Only.of_q q1⟩
    · rw [if_neg hbad]
      have a1 : 0 ≤ at_ := by omega
      obtain ⟨j, rfl⟩ := Int.eq_ofNat_of_zero_le a1
      obtain ⟨m, rfl⟩ := Int.eq_ofNat_of_zero_le (show 0 ≤ mask by omega)
      have hj : j < f.bytes.length := by omega
      have hm : m < 256 := by omega
      have d1 : decide ((j : Int) < 0) = false := by rw [decide_eq_false_iff_not]; omega
      have d2 : decide ((f.bytes.length : Int) ≤ (j : Int)) = false := by rw [decide_eq_false_iff_not]; omega
      have d3 : decide ((m : Int) < 0) = false := by rw [decide_eq_false_iff_not]; omega
      have d4 : decide ((255 : Int) < (m : Int)) = false := by rw [decide_eq_false_iff_not]; omega
      have j1 : (j : Int) < (f.bytes.length : Int) := by omega
      have j0 : (0 : Int) ≤ (j : Int) := by omega
      have hmw : IntKind.u8.wrap (m : Int) = (m : Int) := by rw [IntKind.wrap_u8]; omega
      have hmt : (UInt8.ofNat m).toNat = m := by rw [UInt8.toNat_ofNat']; omega
      simp only [Int.toNat_natCast]
      rw [M.modify_one _ e1]
      clear hbad a1
      go_enter Try.func82, Try.ntmps82
      go_wp2_with fail
      refine (HG.out ()).mono ?_
      rintro e w1 ⟨rfl, q1⟩
      have hD1 := HD.out.kept q1
      obtain ⟨bo, bc, hF⟩ := hD1.file i p id f e2 e3 e1
      obtain ⟨g, rfl, hgt, htg, cb, fb⟩ := hF.bytesAt hj
      have c0 := hF.c0
      have hpt := hF.top
      have hxr := byte_xor (f.bytes.getD j 0) (UInt8.ofNat m)
      rw [hmt] at hxr
      have HDs : Hid _ := hD1.byteSet e2 e3 e1 hF j (f.bytes.getD j 0 ^^^ UInt8.ofNat m)
      have HOs : Hid _ := (Only.of_q q1 : Only o tg w w1).trans (only_set (Only.refl o tg w1) (fun k _ e => by rw [e, htg]) j (.int .u8 ((f.bytes.getD j 0 ^^^ UInt8.ofNat m).toNat : Int)))
      have n1 : ¬ (p = g) := fun e => by rw [← e] at htg; exact tag_ne htg (by omega) hF.tp
      simp only [Option.isSome_some]
      clear hD1 hF e1 e2 e3 htg hmt HG
      generalize (f.bytes.getD j 0 ^^^ UInt8.ofNat m).toNat = xr at *
      generalize (f.bytes.getD j 0).toNat = xb at *
      go_wp2_with fail
      go_ret
      exact ⟨rfl, HDs.out, HOs.out⟩
end Go.Proofs.Ytekdenkllipehaa
