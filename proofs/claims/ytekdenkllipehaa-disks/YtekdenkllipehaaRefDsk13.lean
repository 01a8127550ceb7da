/-
  The document's disk: Rename.
-/
import Derived.Test.YtekdenkllipehaaRefDsk12
namespace Go.Proofs.Ytekdenkllipehaa
open Go.RowKit

/-- A file's block with another name, its row taken over. -/
theorem FileAt.moved {w : World} {tg : Tags} {o p id : Nat} {f : M.Fil} {bo : Option Addr} {bc : Nat} (h : FileAt w tg o p id f bo bc) (nm : ByteArray) (t : TypeId) :
    FileAt (w.alloc (.cells #[.string nm, .slice bo f.bytes.length bc, .int .i64 (f.synced : Int)] t)) (tg.more w.heap.size o (2 + 2 * id)) o w.heap.size id { f with name := nm } bo bc := by
  refine ⟨by simp, by simp, by simp, fun j => by simp, ?_, Tags.more_new (Nat.le_refl _), fun g hg => (Tags.more_old (h.own.lt g hg).2).trans (h.tb g hg), by simp⟩
  exact row_keep h.own fun g hg => heap_alloc_old w _ (h.own.lt g hg).2

theorem FileAt.movedDrew {w : World} {tg : Tags} {o p id : Nat} {f : M.Fil} {bo : Option Addr} {bc : Nat} (h : FileAt w tg o p id f bo bc) (nm : ByteArray) (t : TypeId) :
    FileAt (w.alloc (.cells #[.string nm, .slice bo f.bytes.length bc, .int .i64 (f.synced : Int)] t)).drew (tg.more w.heap.size o (2 + 2 * id)) o w.heap.size id { f with name := nm } bo bc :=
  (h.moved nm t).keep (Nat.le_refl _) (fun _ _ => rfl) (fun _ _ _ => rfl)

theorem DiskAt.moreDrew {w : World} {tg : Tags} {o d : Nat} {D : M.Dsk} {ids ps : List Nat} (h : DiskAt w tg o d D ids ps) (u : Nat) (ob : Obj) : DiskAt (w.alloc ob).drew (tg.more w.heap.size o u) o d D ids ps :=
  h.keep (by show _ ≤ (w.alloc ob).heap.size; simp) (fun k hk => Tags.more_old hk) (fun k hk _ => heap_alloc_old w _ hk)

theorem FileAt.stays {w w' : World} {tg tg' : Tags} {o p id d : Nat} {f : M.Fil} {bo : Option Addr} {bc : Nat} (h : FileAt w tg o p id f bo bc) (hd : tg d = (o, 0)) (hs : w.heap.size ≤ w'.heap.size) (ht : ∀ k, k < w.heap.size → tg' k = tg k)
    (hk : ∀ q, q < w.heap.size → q ≠ d → w'.heap[q]? = w.heap[q]?) : FileAt w' tg' o p id f bo bc :=
  h.keep hs ht fun k hk' e => hk k hk' fun e2 => by
    subst e2
    rw [hd] at e
    simp at e
    omega

theorem ended_with {tg tg4 : Tags} {o d u : Nat} {w w4 w5 : World} {ob : Obj} {D' : M.Dsk} {ids' ps' : List Nat} (hO4 : Only o tg w w4) (hT4 : ∀ q, q < w.heap.size → tg4 q = tg q)
    (hD5 : DiskAt w5 ((tg4.more w4.heap.size o u).more (w4.alloc ob).heap.size o 1) o d D' ids' ps') (hO5 : Only o (tg4.more w4.heap.size o u) (w4.alloc ob) w5) : Ended tg o d D' w w5 := by
  have hs := hO4.size
  refine ⟨_, _, _, fun q hq => ?_, hD5, ?_⟩
  · rw [Tags.more_old (by simp; omega), Tags.more_old (by omega)]
    exact hT4 q hq
  · refine (hO4.trans' (tg' := tg4) (c := w4.alloc ob) ⟨rfl, rfl, rfl, by simp, fun q hq _ => heap_alloc_old w4 _ hq⟩ hT4).trans' hO5 (fun q hq => ?_)
    rw [Tags.more_old (by omega)]
    exact hT4 q hq

set_option maxRecDepth 100000 in
set_option maxHeartbeats 1600000 in
theorem refRename (tg : Tags) (o d : Nat) (D : M.Dsk) (ids ps : List Nat) (old nm : ByteArray) (hl : D.files.length ≤ 64) (hfu : D.fuse ≤ 9223372036854775807) (w : World) (h : DiskAt w tg o d D ids ps) :
    Calls Try.prog 77 #[.pointer (some ⟨d, 0, none⟩), .string old, .string nm] w fun e w' => e = .returned (.int .i64 ((D.rename old nm).2 : Nat)) ∧ Ended tg o d (D.rename old nm).1 w w' := by
  have HCh : Hid _ := fun (_ : Unit) => refChanged tg o d D ids ps old nm hl hfu w h
  clear h
  unfold M.Dsk.rename
  obtain ⟨⟨E, i, c⟩, hE⟩ : ∃ p, p = D.changed old nm := ⟨_, rfl⟩
  rw [← hE] at HCh
  simp only at HCh
  by_cases hc : c = 0
  · subst hc
    obtain ⟨⟨f, hf⟩, hfs⟩ := changed_at hE.symm
    have hlE : E.files.length ≤ 64 := by rw [hfs]; exact hl
    simp only [← hE, hf]
    clear hE hfs
    cases hsm : old.toList == nm.toList with
    | true =>
      simp only [if_true]
      go_enter Try.func77, Try.ntmps77
      go_wp2_with fail
      refine (HCh.out ()).mono ?_
      rintro e w1 ⟨rfl, hD1, hO1⟩
      have HEn : Hid _ := Ended.same hD1 hO1
      clear hD1 hO1
      go_wp2_with fail
      go_ret
      exact ⟨rfl, HEn.out⟩
    | false =>
      simp only [Bool.false_eq_true, if_false]
      obtain ⟨R, hR⟩ : ∃ R : M.Dsk, R = ⟨E.cap, M.put (match M.place (E.files.eraseIdx i) nm with | some k => (E.files.eraseIdx i).eraseIdx k | none => E.files.eraseIdx i) { f with name := nm }, E.dead, E.fuse⟩ := ⟨_, rfl⟩
      have HR0 : Hid (M.place (E.files.eraseIdx i) nm = none → R = ⟨E.cap, M.put (E.files.eraseIdx i) { f with name := nm }, E.dead, E.fuse⟩) := fun e => by rw [hR, e]
      have HR1 : Hid (∀ k, M.place (E.files.eraseIdx i) nm = some k → R = ⟨E.cap, M.put ((E.files.eraseIdx i).eraseIdx k) { f with name := nm }, E.dead, E.fuse⟩) := fun k e => by rw [hR, e]
      suffices HS : Calls Try.prog 77 #[.pointer (some ⟨d, 0, none⟩), .string old, .string nm] w fun e w' => e = .returned (.int .i64 0) ∧ Ended tg o d R w w' by
        refine HS.mono ?_
        rintro e w' ⟨h1, h2⟩
        rw [hR] at h2
        exact ⟨h1, h2⟩
      clear hR
      have hil : i < E.files.length := (List.getElem?_eq_some_iff.1 hf).1
      have i1 : (i : Int) < (E.files.length : Int) := by omega
      have i0 : (0 : Int) ≤ (i : Int) := by omega
      have HW : Hid _ := fun W (hW : DiskAt W tg o d E ids ps) => refWithout_all tg o d E ids ps i hlE W hW
      go_enter Try.func77, Try.ntmps77
      go_wp2_with fail
      refine (HCh.out ()).mono ?_
      rintro e w1 ⟨rfl, hD1, hO1⟩
      obtain ⟨g, capr, p, id, bo, bc, r1, hg, hp, hid, r2, hF⟩ := hD1.at hf
      have ht1 := hD1.top
      have hpt := hF.top
      have HD1 : Hid _ := hD1
      have HO1 : Hid _ := hO1
      have HF1 : Hid _ := hF
      clear hD1 hO1 hF
      go_wp2_with fail
      refine (HW.out w1 HD1.out).mono ?_
      rintro e w2 ⟨rfl, hD2, hO2, hK2⟩
      have HF2 : Hid (FileAt w2 (tg.more w1.heap.size o 1) o p id f bo bc) := HF1.out.stays HD1.out.td hO2.size (fun k hk => Tags.more_old hk) hK2
      have HO2 : Hid (Only o tg w w2) := HO1.out.trans hO2
      have HT2 : Hid (∀ q, q < w.heap.size → (tg.more w1.heap.size o 1) q = tg q) := fun q hq => Tags.more_old (Nat.lt_of_lt_of_le hq HO1.out.size)
      have HN2 : Hid (id ∉ ids.eraseIdx i) := erase_notin HD1.out.nodup hid
      have hl2 : (E.files.eraseIdx i).length ≤ 64 := by
        rw [List.length_eraseIdx]
        split <;> omega
      have HD2 : Hid _ := hD2
      clear hD2 hO2 hK2 hid hp hf HD1 HF1 HO1 HW HCh r1 r2
      generalize (tg.more w1.heap.size o 1) = tg2 at *
      generalize E.files.eraseIdx i = fs at *
      generalize ids.eraseIdx i = ids2 at *
      generalize ps.eraseIdx i = ps2 at *
      have ht2 := HD2.out.top
      have HP : Hid _ := fun (_ : Unit) => refPlace tg2 o d ⟨E.cap, fs, E.dead, E.fuse⟩ ids2 ps2 nm hl2 w2 HD2.out
      simp only at HP
      cases hpl : M.place fs nm with
      | none =>
        have HR : Hid _ := HR0.out hpl
        simp only [hpl, placeInt] at HP
        clear hpl HR0 HR1
        go_wp2_with fail
        refine (HP.out ()).mono ?_
        rintro e w3 ⟨rfl, q3⟩
        have HD3 : Hid _ := HD2.out.kept q3
        have HF3 : Hid (FileAt w3 tg2 o p id f bo bc) := HF2.out.keep q3.below.size (fun _ _ => rfl) (fun k hk _ => q3.below.block k hk)
        have HO3 : Hid (Only o tg w w3) := HO2.out.trans (Only.of_q q3)
        clear q3
        have c1 := HF3.out.c1
        have c2 := HF3.out.c2
        have hp4 := HF3.out.top
        go_wp2_with fail
        have HA : Hid _ := HD3.out.moreDrew (2 + 2 * id) (.cells #[.string nm, .slice bo f.bytes.length bc, .int .i64 (f.synced : Int)] 92)
        have HB : Hid _ := HF3.out.movedDrew nm 92
        go_region_with (go_at_call 100; refine (refWith _ o d ⟨E.cap, fs, E.dead, E.fuse⟩ ids2 ps2 w3.heap.size id { f with name := nm } bo bc hl2 HN2.out _ HA.out HB.out).mono ?_; rintro e w5 ⟨rfl, hD5, hO5⟩; have HEn : Hid (Ended tg o d _ w w5) := ended_with HO3.out HT2.out hD5 ⟨hO5.os, hO5.tape, hO5.output, hO5.size, hO5.block⟩; clear hD5 hO5)
        all_goals
          go_wp2_with fail
          go_ret
          exact ⟨rfl, by rw [HR.out]; exact HEn.out⟩
      | some k =>
        have HR : Hid _ := HR1.out k hpl
        simp only [hpl, placeInt] at HP
        clear hpl HR0 HR1
        have k0 : decide ((0 : Int) ≤ (k : Int)) = true := decide_eq_true (by omega)
        go_wp2_with fail
        refine (HP.out ()).mono ?_
        rintro e w3 ⟨rfl, q3⟩
        have HD3 : Hid _ := HD2.out.kept q3
        have HF3 : Hid (FileAt w3 tg2 o p id f bo bc) := HF2.out.keep q3.below.size (fun _ _ => rfl) (fun k hk _ => q3.below.block k hk)
        have HO3 : Hid (Only o tg w w3) := HO2.out.trans (Only.of_q q3)
        have ht3 := HD3.out.top
        clear q3
        go_wp2_with fail
        refine (refWithout_all tg2 o d ⟨E.cap, fs, E.dead, E.fuse⟩ ids2 ps2 k hl2 w3 HD3.out).mono ?_
        rintro e w4 ⟨rfl, hD4, hO4, hK4⟩
        have HF4 : Hid (FileAt w4 (tg2.more w3.heap.size o 1) o p id f bo bc) := HF3.out.stays HD3.out.td hO4.size (fun k hk => Tags.more_old hk) hK4
        have HT4 : Hid (∀ q, q < w.heap.size → (tg2.more w3.heap.size o 1) q = tg q) := fun q hq => (Tags.more_old (Nat.lt_of_lt_of_le hq HO3.out.size)).trans (HT2.out q hq)
        have HO4 : Hid (Only o tg w w4) := HO3.out.trans' hO4 HT2.out
        have HN4 : Hid (id ∉ ids2.eraseIdx k) := fun hm => HN2.out ((List.eraseIdx_sublist _ _).subset hm)
        have hl4 : (fs.eraseIdx k).length ≤ 64 := by
          rw [List.length_eraseIdx]
          split <;> omega
        have HD4 : Hid _ := hD4
        have ht4 := hD4.top
        clear hD4 hO4 hK4
        have c1 := HF4.out.c1
        have c2 := HF4.out.c2
        have hp4 := HF4.out.top
        go_wp2_with fail
        have HA : Hid _ := HD4.out.moreDrew (2 + 2 * id) (.cells #[.string nm, .slice bo f.bytes.length bc, .int .i64 (f.synced : Int)] 92)
        have HB : Hid _ := HF4.out.movedDrew nm 92
        go_region_with (go_at_call 100; refine (refWith _ o d ⟨E.cap, fs.eraseIdx k, E.dead, E.fuse⟩ (ids2.eraseIdx k) (ps2.eraseIdx k) w4.heap.size id { f with name := nm } bo bc hl4 HN4.out _ HA.out HB.out).mono ?_; rintro e w5 ⟨rfl, hD5, hO5⟩; have HEn : Hid (Ended tg o d _ w w5) := ended_with HO4.out HT4.out hD5 ⟨hO5.os, hO5.tape, hO5.output, hO5.size, hO5.block⟩; clear hD5 hO5)
        all_goals
          go_wp2_with fail
          go_ret
          exact ⟨rfl, by rw [HR.out]; exact HEn.out⟩
  · simp only [← hE]
    clear hE
    have hcb : ((c : Int) == 0) = false := by simpa using hc
    go_enter Try.func77, Try.ntmps77
    go_wp2_with fail
    refine (HCh.out ()).mono ?_
    rintro e w1 ⟨rfl, hD1, hO1⟩
    have HEn : Hid _ := Ended.same hD1 hO1
    clear hD1 hO1
    go_wp2_with fail
    go_ret
    exact ⟨rfl, HEn.out⟩
end Go.Proofs.Ytekdenkllipehaa
