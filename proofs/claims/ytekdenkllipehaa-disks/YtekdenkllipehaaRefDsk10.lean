/-
  The document's disk: Append to a file that is there.
-/
import Derived.Test.YtekdenkllipehaaRefDsk9
namespace Go.Proofs.Ytekdenkllipehaa
open Go.RowKit

theorem index_text (s : ByteArray) (i : Nat) (h : i < s.size) (W : World) :
    (Instr.index 9 (.string s) (.int .i64 (i : Int))).run Try.prog W = .ok (.int .u8 ((s[i]).toNat : Int)) W := by
  rw [run_index_string W 9 s .i64 (i : Int) Try.underlying9]
  simp [h]

/-- What lies where while bytes are put behind one file's. -/
def Frame (tg : Tags) (o id : Nat) (w w' : World) : Prop :=
  w.heap.size ≤ w'.heap.size ∧ w'.os = w.os ∧ w'.tape = w.tape ∧ w'.output = w.output ∧ ∀ q, q < w.heap.size → tg q ≠ (o, 2 + 2 * id) → tg q ≠ (o, 3 + 2 * id) → w'.heap[q]? = w.heap[q]?

theorem take_next (s : ByteArray) (k : Nat) (h : k < s.size) : s.data.toList.take (k + 1) = s.data.toList.take k ++ [s[k]] := by
  have hl : k < s.data.toList.length := by simpa using h
  rw [List.take_succ_eq_append_getElem hl]
  rfl

theorem FileAt.pushed {w3 wr w' : World} {tg : Tags} {o p id : Nat} {f : M.Fil} {bo : Option Addr} {bc : Nat} (s : ByteArray) (k : Nat) (hk : k < s.size) {B : List UInt8} (hB : f.bytes ++ s.data.toList.take k = B)
    (h : FileAt wr (tg.more w3.heap.size o (3 + 2 * id)) o p id { f with bytes := B } bo bc) (hp : p < w3.heap.size) (hfr : Frame tg o id w3 wr) (ob : Obj) {v : Value}
    (hg : (wr.alloc ob).grownBy w' (Value.slice bo B.length bc).ownBlock)
    (ho : w'.ownsRow 0 5 1 v (B.length + 1) (byteVals B ++ [.int .u8 (s[k].toNat : Int)]))
    (hw : v.ownBlock = (Value.slice bo B.length bc).ownBlock ∨ v.ownBlock = some (wr.alloc ob).heap.size) :
    ∃ ao cap, v = .slice ao (B.length + 1) cap ∧ w'.cell? ⟨p, 1, none⟩ = some (.slice bo B.length bc) ∧ w'.frozen? ⟨p, 1, none⟩ = false
      ∧ Hid (FileAt (w'.setCell ⟨p, 1, none⟩ v) (tg.more w3.heap.size o (3 + 2 * id)) o p id { f with bytes := f.bytes ++ s.data.toList.take (k + 1) } ao cap) ∧ Hid (Frame tg o id w3 (w'.setCell ⟨p, 1, none⟩ v)) := by
  obtain ⟨ao, cap, rfl⟩ := own_form ho
  obtain ⟨z1, z2, z3, z4, z5⟩ := hfr
  have hsz := hg.size
  have hpne : ∀ g, (Value.slice bo B.length bc).ownBlock = some g → g ≠ p := fun g hgb e => by
    have h1 := h.tb g hgb
    rw [e, h.tp] at h1
    simp only [Prod.mk.injEq, true_and] at h1
    omega
  have hpb : w'.heap[p]? = wr.heap[p]? := (hg.block p (by simp; have := h.top; omega) (fun e => hpne p e.symm rfl)).trans (heap_alloc_old wr ob h.top)
  refine ⟨ao, cap, rfl, (World.cell?_of_block (a := ⟨p, 1, none⟩) hpb).trans h.c1, (World.frozen?_of_block (a := ⟨p, 1, none⟩) hpb).trans (h.fr 1), ?_, ?_⟩
  · have h1 := h.push (s[k]) ob hg ho hw (Tags.more_new (by simp; omega))
    rw [take_next s k hk, ← List.append_assoc, hB]
    exact h1
  · refine ⟨by simp at hsz ⊢; omega, hg.os.trans z2, hg.tape.trans z3, hg.output.trans z4, fun q hq n1 n2 => ?_⟩
    have e1 : q ≠ p := fun e => n1 (by rw [e, ← h.tp]; exact (Tags.more_old hp).symm)
    rw [heap_setCell_other w' ⟨p, 1, none⟩ q _ (by simpa using e1)]
    refine ((hg.block q (by simp; omega) (fun e => n2 ?_)).trans (heap_alloc_old wr ob (by omega))).trans (z5 q hq n1 n2)
    have := h.tb q e.symm
    rw [← this]
    exact (Tags.more_old hq).symm

set_option maxRecDepth 100000 in
set_option maxHeartbeats 1600000 in
theorem refAppend_some (tg : Tags) (o d : Nat) (D : M.Dsk) (ids ps : List Nat) (nm s : ByteArray) (i : Nat) (hl : D.files.length ≤ 64) (htl : M.total D.files ≤ 1048576) (hcp : D.cap ≤ 1048576) (hfu : D.fuse ≤ 9223372036854775807) (hs : s.size ≤ 140737488351232)
    (hdd : D.dead = false) (hok : M.okName nm = true) (hfit : M.total D.files + s.size ≤ D.cap) (hpl : M.place D.files nm = some i) (E : M.Dsk) (hE : D.dies = (E, false)) (f : M.Fil) (hf : E.files[i]? = some f) (hsum : f.bytes.length + s.size ≤ 140737488351232) (w : World) (h : DiskAt w tg o d D ids ps) :
    Calls Try.prog 73 #[.pointer (some ⟨d, 0, none⟩), .string nm, .string s] w fun e w' => e = .returned (.int .i64 0) ∧ Ended tg o d ⟨E.cap, E.files.set i { f with bytes := f.bytes ++ s.data.toList }, E.dead, E.fuse⟩ w w' := by
  have HPl : Hid _ := fun (_ : Unit) => refPlace tg o d D ids ps nm hl w h
  have HSz : Hid _ := fun W (hW : DiskAt W tg o d D ids ps) => refSize tg o d D ids ps hl htl W hW
  have HDi : Hid _ := fun W (hW : DiskAt W tg o d D ids ps) => refDies tg o d D ids ps hfu W hW
  have HD : Hid (DiskAt w tg o d D ids ps) := h
  clear h
  rw [hpl] at HPl
  simp only [placeInt] at HPl
  rw [hE] at HDi
  simp only at HDi
  have hn : 1 ≤ nm.size ∧ nm.size ≤ 32 := by simpa [M.okName] using hok
  have d1 : decide ((nm.size : Int) < 1) = false := by rw [decide_eq_false_iff_not]; omega
  have d2 : decide ((32 : Int) < (nm.size : Int)) = false := by rw [decide_eq_false_iff_not]; omega
  have wsz : IntKind.i64.wrap ((M.total D.files : Int) + (s.size : Int)) = (M.total D.files : Int) + (s.size : Int) := by rw [IntKind.wrap_i64]; omega
  have d3 : decide ((D.cap : Int) < (M.total D.files : Int) + (s.size : Int)) = false := by rw [decide_eq_false_iff_not]; omega
  have d5 : decide ((i : Int) < 0) = false := by rw [decide_eq_false_iff_not]; omega
  have hil : i < E.files.length := (List.getElem?_eq_some_iff.1 hf).1
  have i1 : (i : Int) < (E.files.length : Int) := by omega
  have i0 : (0 : Int) ≤ (i : Int) := by omega
  have HIx : Hid _ := index_text s
  obtain ⟨iu, hi, hz0, hz1, hz2⟩ := info_parts infoU8
  clear hok hpl hE
  go_enter Try.func73, Try.ntmps73
  go_wp2_with fail
  refine (HPl.out ()).mono ?_
  rintro e w1 ⟨rfl, q1⟩
  have HD1 : Hid (DiskAt w1 tg o d D ids ps) := HD.out.kept q1
  go_wp2_with fail
  refine (HSz.out w1 HD1.out).mono ?_
  rintro e w2 ⟨rfl, q2⟩
  have HD2 : Hid (DiskAt w2 tg o d D ids ps) := HD1.out.kept q2
  have c0 := HD2.out.c0
  have c2 := HD2.out.c2
  obtain ⟨ax, cx, r1⟩ := HD2.out.len
  have ht2 := HD2.out.top
  rw [hdd] at c2
  have HQ : Hid (Q w w2) := q1.trans q2
  clear q1 q2 HD1
  go_wp2_with fail
  refine (HDi.out w2 HD2.out).mono ?_
  rintro e w3 ⟨rfl, hD3, hO3⟩
  have HO3 : Hid (Only o tg w w3) := (Only.of_q HQ.out).trans hO3
  obtain ⟨g, capr, p, id, bo, bc, r1', hg, hp, hid, r2, hF⟩ := hD3.at hf
  have ht3 := hD3.top
  have hpt := hF.top
  have HD3 : Hid _ := hD3
  have HF3 : Hid (FileAt w3 (tg.more w3.heap.size o (3 + 2 * id)) o p id f bo bc) := hF.keep (Nat.le_refl _) (fun k hk => Tags.more_old hk) (fun _ _ _ => rfl)
  clear hD3 hO3 hF c0 c2 r1
  go_wp2_with fail
  go_loopw [11] (fun j wr => ∃ (k : Nat) (bk : Option Addr) (ck : Nat), j = .int .i64 k ∧ k ≤ s.size ∧ Hid (FileAt wr (tg.more w3.heap.size o (3 + 2 * id)) o p id { f with bytes := f.bytes ++ s.data.toList.take k } bk ck) ∧ Hid (Frame tg o id w3 wr)) (fun j _ => s.size - (intOf j).toNat)
  case atStart => exact ⟨0, bo, bc, rfl, Nat.zero_le _, by simpa using HF3, ⟨Nat.le_refl _, rfl, rfl, rfl, fun _ _ _ _ => rfl⟩⟩
  case round =>
    obtain ⟨k, bk, ck, rfl, hk, HFk, HFr⟩ := hrel
    by_cases hlt : k < s.size
    · obtain ⟨B, hB⟩ : ∃ B, f.bytes ++ s.data.toList.take k = B := ⟨_, rfl⟩
      have hL : B.length ≤ f.bytes.length + k := by
        rw [← hB, List.length_append, List.length_take]
        omega
      rw [hB] at HFk
      have HB : Hid _ := hB
      clear hB
      have c1 := HFk.out.c1
      have fr1 := HFk.out.fr 1
      have hptr := HFk.out.top
      have hix := HIx.out k hlt
      have hown := HFk.out.own
      dsimp only at c1 hown
      go_upto_region 19 with fail
      go_region_law (refine step_append_at rfl (.tmp 83) (.tmp 87) 41 rfl 0 5 iu (.int .u8 0) 1 1 Try.underlying41 hi hz0 hz1 hz2 rfl (by decide) (.slice bk B.length ck) B.length (byteVals B) (by simp [Act.eval]) (by exact hown.alloc _) ⟨wr.heap.size, 0, none⟩ 1 1 [.int .u8 (s[k].toNat : Int)] (by simp [Act.eval]) rfl (one_cell _ _ _) (one_valU _) (by decide) (by unfold maxLen; omega) (by omega) (by simp) ?_; intro v' w' hown' hgrow hwh; obtain ⟨ao3, cap3, rfl, kc, kf, HFn, HFrn⟩ := FileAt.pushed s k hlt HB.out HFk.out hpt HFr.out _ (grown_undrew hgrow) hown' hwh; clear hown' hgrow hwh)
      all_goals
        go_wp2
        go_roundw
        case rel => exact ⟨k + 1, ao3, cap3, by go_num, by omega, HFn, HFrn⟩
        case measure => simp [intOf]; omega
    · obtain rfl : k = s.size := by omega
      have HEn : Hid (Ended tg o d ⟨E.cap, E.files.set i { f with bytes := f.bytes ++ s.data.toList }, E.dead, E.fuse⟩ w wr) := by
        obtain ⟨z1, z2, z3, z4, z5⟩ := HFr.out
        have hF := HFk.out
        rw [List.take_of_length_le (by simp)] at hF
        refine ⟨_, _, _, fun q hq => Tags.more_old (Nat.lt_of_lt_of_le hq HO3.out.size), HD3.out.turn hp hid z1 (fun q hq => Tags.more_old hq) (fun q hq n1 n2 => z5 q hq n1 n2) _ hF, ?_⟩
        refine HO3.out.trans ⟨z2, z3, z4, z1, fun q hq hn => z5 q hq (fun e => hn (by rw [e])) (fun e => hn (by rw [e]))⟩
      go_wp2_with fail
      go_ret
      exact ⟨rfl, HEn.out⟩
end Go.Proofs.Ytekdenkllipehaa
