/-
  The document's disk: Append to a new file.
-/
import Derived.Test.YtekdenkllipehaaRefDsk10
namespace Go.Proofs.Ytekdenkllipehaa
open Go.RowKit

theorem file_new (w : World) (tg : Tags) (o id : Nat) (nm : ByteArray) (t : TypeId) :
    FileAt (w.alloc (.cells #[.string nm, .slice none 0 0, .int .i64 0] t)) (tg.more w.heap.size o (2 + 2 * id)) o w.heap.size id ⟨nm, [], 0⟩ none 0 := by
  refine ⟨by simp, by simp, by simp, fun j => by simp, ⟨rfl, Or.inl ⟨rfl, rfl⟩⟩, Tags.more_new (Nat.le_refl _), fun g hg => by simp [Value.ownBlock] at hg, by simp⟩

set_option maxRecDepth 100000 in
set_option maxHeartbeats 1600000 in
theorem refAppend_new (tg : Tags) (o d : Nat) (D : M.Dsk) (ids ps : List Nat) (nm s : ByteArray) (hl : D.files.length ≤ 64) (htl : M.total D.files ≤ 1048576) (hcp : D.cap ≤ 1048576) (hfu : D.fuse ≤ 9223372036854775807) (hs : s.size ≤ 140737488351232)
    (hdd : D.dead = false) (hok : M.okName nm = true) (hfit : M.total D.files + s.size ≤ D.cap) (hpl : M.place D.files nm = none) (h64 : D.files.length < 64) (E : M.Dsk) (hE : D.dies = (E, false)) (hEf : E.files = D.files) (w : World) (h : DiskAt w tg o d D ids ps) :
    Calls Try.prog 73 #[.pointer (some ⟨d, 0, none⟩), .string nm, .string s] w fun e w' => e = .returned (.int .i64 0) ∧ Ended tg o d ⟨E.cap, M.put E.files ⟨nm, s.data.toList, 0⟩, E.dead, E.fuse⟩ w w' := by
  have HPl : Hid _ := fun (_ : Unit) => refPlace tg o d D ids ps nm hl w h
  have HSz : Hid _ := fun W (hW : DiskAt W tg o d D ids ps) => refSize tg o d D ids ps hl htl W hW
  have HDi : Hid _ := fun W (hW : DiskAt W tg o d D ids ps) => refDies tg o d D ids ps hfu W hW
  have HD : Hid (DiskAt w tg o d D ids ps) := h
  clear h
  rw [hpl] at HPl
  simp only [placeInt] at HPl
  rw [hE] at HDi
  simp only at HDi
  have hn : 1 ≤ nm.size ∧ nm.size ≤ 32 := by simpa [M.okName] using hok
  have d1 : decide ((nm.size : Int) < 1) = false := by rw [decide_eq_false_iff_not]; omega
  have d2 : decide ((32 : Int) < (nm.size : Int)) = false := by rw [decide_eq_false_iff_not]; omega
  have wsz : IntKind.i64.wrap ((M.total D.files : Int) + (s.size : Int)) = (M.total D.files : Int) + (s.size : Int) := by rw [IntKind.wrap_i64]; omega
  have d3 : decide ((D.cap : Int) < (M.total D.files : Int) + (s.size : Int)) = false := by rw [decide_eq_false_iff_not]; omega
  have d6 : decide ((64 : Int) ≤ (D.files.length : Int)) = false := by rw [decide_eq_false_iff_not]; omega
  have HPn : Hid (M.place E.files nm = none) := by rw [hEf]; exact hpl
  have HEl : Hid (E.files.length < 64) := by rw [hEf]; exact h64
  have HIx : Hid _ := index_text s
  obtain ⟨iu, hi, hz0, hz1, hz2⟩ := info_parts infoU8
  clear hok hpl hE hEf
  go_enter Try.func73, Try.ntmps73
  go_wp2_with fail
  refine (HPl.out ()).mono ?_
  rintro e w1 ⟨rfl, q1⟩
  have HD1 : Hid (DiskAt w1 tg o d D ids ps) := HD.out.kept q1
  go_wp2_with fail
  refine (HSz.out w1 HD1.out).mono ?_
  rintro e w2 ⟨rfl, q2⟩
  have HD2 : Hid (DiskAt w2 tg o d D ids ps) := HD1.out.kept q2
  have c0 := HD2.out.c0
  have c2 := HD2.out.c2
  obtain ⟨ax, cx, r1⟩ := HD2.out.len
  have ht2 := HD2.out.top
  rw [hdd] at c2
  have HQ : Hid (Q w w2) := q1.trans q2
  clear q1 q2 HD1
  go_wp2_with fail
  refine (HDi.out w2 HD2.out).mono ?_
  rintro e w3 ⟨rfl, hD3, hO3⟩
  have HO3 : Hid (Only o tg w w3) := (Only.of_q HQ.out).trans hO3
  have HD3 : Hid _ := hD3
  have ht3 := hD3.top
  clear hD3 hO3 c0 c2 r1
  go_wp2_with fail
  obtain ⟨id0, hid0⟩ := fresh_id ids
  have HT4 : Hid (DiskAt (w3.alloc (.cells #[.string nm, .slice none 0 0, .int .i64 0] 92)) (tg.more w3.heap.size o (2 + 2 * id0)) o d E ids ps) := HD3.out.keep (by simp) (fun k hk => Tags.more_old hk) (fun k hk _ => heap_alloc_old w3 _ hk)
  refine (refWith _ o d E ids ps w3.heap.size id0 ⟨nm, [], 0⟩ none 0 (Nat.le_of_lt HEl.out) hid0 _ HT4.out (file_new w3 tg o id0 nm _)).mono ?_
  rintro e w5 ⟨rfl, hD5, hO5⟩
  have HO5 : Hid (Only o tg w w5) := by
    refine (HO3.out.trans' (tg' := tg) (c := w3.alloc (.cells #[.string nm, .slice none 0 0, .int .i64 0] 92)) ⟨rfl, rfl, rfl, by simp, fun q hq _ => heap_alloc_old w3 _ hq⟩ (fun _ _ => rfl)).trans' hO5 (fun q hq => Tags.more_old (Nat.lt_of_lt_of_le hq HO3.out.size))
  have HT5 : Hid (∀ q, q < w.heap.size → ((tg.more w3.heap.size o (2 + 2 * id0)).more (w3.alloc (.cells #[.string nm, .slice none 0 0, .int .i64 0] 92)).heap.size o 1) q = tg q) := fun q hq => by
    have h1 := HO3.out.size
    rw [Tags.more_old (by simp; omega), Tags.more_old (by omega)]
  obtain ⟨tg6, htg⟩ : ∃ T, T = (tg.more w3.heap.size o (2 + 2 * id0)).more (w3.alloc (.cells #[.string nm, .slice none 0 0, .int .i64 0] 92)).heap.size o 1 := ⟨_, rfl⟩
  rw [← htg] at hD5 HT5
  have HD5 : Hid _ := hD5
  clear hD5 hO5 htg HT4
  have ht5 := HD5.out.top
  have hle : (M.put E.files ⟨nm, [], 0⟩).length ≤ 64 := by
    rw [put_insAt, insAt_length (putAt_le _ _)]
    exact HEl.out
  have HP5 : Hid _ := fun (_ : Unit) => refPlace tg6 o d ⟨E.cap, M.put E.files ⟨nm, [], 0⟩, E.dead, E.fuse⟩ _ _ nm hle w5 HD5.out
  obtain ⟨i, hi0⟩ : ∃ i, i = putAt E.files nm := ⟨_, rfl⟩
  have HI : Hid _ := hi0
  clear hi0
  have HPp : Hid (M.place (M.put E.files ⟨nm, [], 0⟩) nm = some i) := by
    rw [put_insAt, HI.out]
    exact place_put HPn.out [] 0
  simp only [HPp.out, placeInt] at HP5
  go_wp2_with fail
  refine (HP5.out ()).mono ?_
  rintro e w6 ⟨rfl, q6⟩
  have HD6 : Hid _ := HD5.out.kept q6
  have HO6 : Hid (Only o tg w w6) := HO5.out.trans (Only.of_q q6)
  have HT6 : Hid _ := HT5.out
  have hf : (M.put E.files ⟨nm, [], 0⟩)[i]? = some ⟨nm, [], 0⟩ := by
    rw [put_insAt, HI.out]
    exact insAt_self (putAt_le _ _) _
  obtain ⟨g, capr, p, id, bo, bc, r1', hg, hp, hid, r2, hF⟩ := HD6.out.at hf
  have ht6 := HD6.out.top
  have hpt := hF.top
  have hil : i < (M.put E.files ⟨nm, [], 0⟩).length := (List.getElem?_eq_some_iff.1 hf).1
  have i1 : (i : Int) < ((M.put E.files ⟨nm, [], 0⟩).length : Int) := by omega
  have i0 : (0 : Int) ≤ (i : Int) := by omega
  have HF6 : Hid (FileAt w6 (tg6.more w6.heap.size o (3 + 2 * id)) o p id ⟨nm, [], 0⟩ bo bc) := hF.keep (Nat.le_refl _) (fun k hk => Tags.more_old hk) (fun _ _ _ => rfl)
  clear q6 hF hf
  go_wp2_with fail
  go_loopw [11] (fun j wr => ∃ (k : Nat) (bk : Option Addr) (ck : Nat), j = .int .i64 k ∧ k ≤ s.size ∧ Hid (FileAt wr (tg6.more w6.heap.size o (3 + 2 * id)) o p id ({ name := nm, bytes := ([] : List UInt8) ++ s.data.toList.take k, synced := 0 } : M.Fil) bk ck) ∧ Hid (Frame tg6 o id w6 wr)) (fun j _ => s.size - (intOf j).toNat)
  case atStart => exact ⟨0, bo, bc, rfl, Nat.zero_le _, by simpa using HF6, ⟨Nat.le_refl _, rfl, rfl, rfl, fun _ _ _ _ => rfl⟩⟩
  case round =>
    obtain ⟨k, bk, ck, rfl, hk, HFk, HFr⟩ := hrel
    by_cases hlt : k < s.size
    · obtain ⟨B, hB⟩ : ∃ B, ([] : List UInt8) ++ s.data.toList.take k = B := ⟨_, rfl⟩
      have hL : B.length ≤ k := by
        rw [← hB, List.length_append, List.length_take, List.length_nil]
        omega
      rw [hB] at HFk
      have HB : Hid _ := hB
      clear hB
      have c1 := HFk.out.c1
      have fr1 := HFk.out.fr 1
      have hptr := HFk.out.top
      have hix := HIx.out k hlt
      have hown := HFk.out.own
      dsimp only at c1 hown
      go_upto_region 19 with fail
      go_region_law (refine step_append_at rfl (.tmp 83) (.tmp 87) 41 rfl 0 5 iu (.int .u8 0) 1 1 Try.underlying41 hi hz0 hz1 hz2 rfl (by decide) (.slice bk B.length ck) B.length (byteVals B) (by simp [Act.eval]) (by exact hown.alloc _) ⟨wr.heap.size, 0, none⟩ 1 1 [.int .u8 (s[k].toNat : Int)] (by simp [Act.eval]) rfl (one_cell _ _ _) (one_valU _) (by decide) (by unfold maxLen; omega) (by omega) (by simp) ?_; intro v' w' hown' hgrow hwh; obtain ⟨ao3, cap3, rfl, kc, kf, HFn, HFrn⟩ := FileAt.pushed (f := ⟨nm, [], 0⟩) s k hlt HB.out HFk.out hpt HFr.out _ (grown_undrew hgrow) hown' hwh; clear hown' hgrow hwh)
      all_goals
        go_wp2
        go_roundw
        case rel => exact ⟨k + 1, ao3, cap3, by go_num, by omega, HFn, HFrn⟩
        case measure => simp [intOf]; omega
    · obtain rfl : k = s.size := by omega
      have HEn : Hid (Ended tg o d ⟨E.cap, M.put E.files ⟨nm, s.data.toList, 0⟩, E.dead, E.fuse⟩ w wr) := by
        obtain ⟨z1, z2, z3, z4, z5⟩ := HFr.out
        have hF := HFk.out
        rw [List.take_of_length_le (by simp), List.nil_append] at hF
        have hT := HD6.out.turn hp hid z1 (fun q hq => Tags.more_old (o := o) (u := 3 + 2 * id) hq) (fun q hq n1 n2 => z5 q hq n1 n2) _ hF
        rw [put_insAt] at hT ⊢
        simp only at hT ⊢
        rw [HI.out, insAt_set (putAt_le _ _)] at hT
        refine ⟨_, _, _, fun q hq => ?_, hT, ?_⟩
        · rw [Tags.more_old (Nat.lt_of_lt_of_le hq HO6.out.size)]
          exact HT6.out q hq
        · refine HO6.out.trans' (tg' := tg6) ⟨z2, z3, z4, z1, fun q hq hn => z5 q hq (fun e => hn (by rw [e])) (fun e => hn (by rw [e]))⟩ HT6.out
      go_wp2_with fail
      go_ret
      exact ⟨rfl, HEn.out⟩
end Go.Proofs.Ytekdenkllipehaa
