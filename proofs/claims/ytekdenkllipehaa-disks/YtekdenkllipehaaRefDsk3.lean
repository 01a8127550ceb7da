/-
  The document's disk: its row of files made anew.
-/
import Derived.Test.YtekdenkllipehaaRefDsk2
namespace Go.Proofs.Ytekdenkllipehaa
open Go.RowKit

theorem infoPtr : (Try.prog.info? 93).map (fun i => (i.zero, i.size, i.bytes)) = some (some (.pointer none), 1, 8) := by kernel_rfl

/-- The row of files is a new one. -/
theorem DiskAt.newRow {w wr : World} {tg tg' : Tags} {o d : Nat} {D : M.Dsk} {ids ps : List Nat} (h : DiskAt w tg o d D ids ps) (hq : Below w.heap.size w wr) (ht : ∀ k, k < w.heap.size → tg' k = tg k) {ao : Option Addr} {cap : Nat} (ps' ids' : List Nat) (files' : List M.Fil)
    (own : wr.ownsRow 0 93 1 (.slice ao ps'.length cap) ps'.length (ptrVals ps')) (htg : ∀ g, (Value.slice ao ps'.length cap).ownBlock = some g → tg' g = (o, 1)) (hn : ids'.Nodup) (hi : ids'.length = files'.length) (hp : ps'.length = files'.length)
    (hfile : ∀ (i p id : Nat) (f : M.Fil), ps'[i]? = some p → ids'[i]? = some id → files'[i]? = some f → ∃ bo bc, FileAt wr tg' o p id f bo bc) :
    DiskAt (wr.setCell ⟨d, 1, none⟩ (.slice ao ps'.length cap)) tg' o d ⟨D.cap, files', D.dead, D.fuse⟩ ids' ps' := by
  have hdw : d < w.heap.size := h.top
  have hd : wr.heap[d]? = w.heap[d]? := hq.block d hdw
  have htd : tg' d = (o, 0) := (ht d hdw).trans h.td
  have hdr : d < wr.heap.size := Nat.lt_of_lt_of_le hdw hq.size
  obtain ⟨ao0, cap0, r1, _, _⟩ := h.row
  have k0 : wr.cell? ⟨d, 0, none⟩ = _ := (World.cell?_of_block (a := ⟨d, 0, none⟩) hd).trans h.c0
  have k1 : wr.cell? ⟨d, 1, none⟩ = _ := (World.cell?_of_block (a := ⟨d, 1, none⟩) hd).trans r1
  have k2 : wr.cell? ⟨d, 2, none⟩ = _ := (World.cell?_of_block (a := ⟨d, 2, none⟩) hd).trans h.c2
  have k3 : wr.cell? ⟨d, 3, none⟩ = _ := (World.cell?_of_block (a := ⟨d, 3, none⟩) hd).trans h.c3
  have hoth : ∀ k, tg' k ≠ (o, 0) → (wr.setCell ⟨d, 1, none⟩ (.slice ao ps'.length cap)).heap[k]? = wr.heap[k]? := fun k hk => heap_setCell_other wr ⟨d, 1, none⟩ k _ (fun e => hk (by simp at e; rw [e]; exact htd))
  refine ⟨by rw [World.cell?_setCell_other _ _ _ _ (by simp)]; exact k0, by rw [World.cell?_setCell_other _ _ _ _ (by simp)]; exact k2, by rw [World.cell?_setCell_other _ _ _ _ (by simp)]; exact k3, fun j => by rw [World.frozen?_setCell]; exact (World.frozen?_of_block (a := ⟨d, j, none⟩) hd).trans (h.fr j), htd, by simpa using hdr,
    ⟨ao, cap, World.cell?_setCell_same _ _ _ k1, row_keep own (fun g hg => hoth g (by rw [htg g hg]; simp)), htg⟩, hn, hi, hp, fun i p id f h1 h2 h3 => ?_⟩
  obtain ⟨bo, bc, hF⟩ := hfile i p id f h1 h2 h3
  exact ⟨bo, bc, hF.keep (by simp) (fun _ _ => rfl) (fun k _ ho => hoth k (by rcases ho with e | e <;> rw [e] <;> simp))⟩

/-- A row of pointers that the call makes. -/
structure Ptrs (w : World) (P : List Nat) (ao : Option Addr) (cap : Nat) (wr : World) : Prop where
  below : Below w.heap.size w wr
  own : wr.ownsRow w.heap.size 93 1 (.slice ao P.length cap) P.length (ptrVals P)

theorem Ptrs.start (w : World) : Ptrs w [] none 0 w := ⟨Below.refl _ _, World.ownsRow_nil _ _ _ _⟩

theorem Ptrs.push {w wr w' : World} {P : List Nat} {ao ao' : Option Addr} {cap cap' : Nat} (h : Ptrs w P ao cap wr) (p : Nat) (o : Obj)
    (hg : (wr.alloc o).grownBy w' (Value.slice ao P.length cap).ownBlock)
    (ho : w'.ownsRow w.heap.size 93 1 (.slice ao' (P.length + 1) cap') (P.length + 1) (ptrVals P ++ [.pointer (some ⟨p, 0, none⟩)])) : Ptrs w (P ++ [p]) ao' cap' w' := by
  have hs := h.below.size
  refine ⟨(h.below.alloc hs _).grown hg (by simp; omega) (own_base h.own), ?_⟩
  have : ptrVals (P ++ [p]) = ptrVals P ++ [.pointer (some ⟨p, 0, none⟩)] := by simp [ptrVals]
  rw [this, List.length_append]
  exact ho

set_option maxRecDepth 100000 in
set_option maxHeartbeats 800000 in
theorem refWithout_all (tg : Tags) (o d : Nat) (D : M.Dsk) (ids ps : List Nat) (i : Nat) (hl : D.files.length ≤ 64) (w : World) (h : DiskAt w tg o d D ids ps) :
    Calls Try.prog 105 #[.pointer (some ⟨d, 0, none⟩), .int .i64 (i : Int)] w fun e w' => e = .returned (.tuple #[]) ∧ DiskAt w' (tg.more w.heap.size o 1) o d ⟨D.cap, D.files.eraseIdx i, D.dead, D.fuse⟩ (ids.eraseIdx i) (ps.eraseIdx i) ∧ Only o tg w w' ∧ ∀ q, q < w.heap.size → q ≠ d → w'.heap[q]? = w.heap[q]? := by
  have HD : Hid (DiskAt w tg o d D ids ps) := h
  have HS : Hid (∀ k, (ps.take (k + 1)).eraseIdx k = (ps.take k).eraseIdx k) := erase_same ps
  have HM : Hid (∀ (k p : Nat), ps[k]? = some p → k ≠ i → (ps.take (k + 1)).eraseIdx i = (ps.take k).eraseIdx i ++ [p]) := fun k p => erase_more
  have HE : Hid ((ps.take D.files.length).eraseIdx i = ps.eraseIdx i) := by
    show _ = _
    rw [← h.lenP, List.take_length]
  have HLn : Hid (∀ k, ((ps.take k).eraseIdx i).length ≤ 64) := fun k => by
    have h1 : ((ps.take k).eraseIdx i).length ≤ (ps.take k).length := by rw [List.length_eraseIdx]; split <;> omega
    have h2 := h.lenP
    simp at h1
    omega
  have htop := h.top
  have htd := h.td
  obtain ⟨i0, hi, hz0, hz1, hz2⟩ := info_parts infoPtr
  clear h
  go_enter Try.func105, Try.ntmps105
  go_wp2_with fail
  go_loopw [4, 5] (fun p j wr => ∃ (k : Nat) (ap : Option Addr) (cp : Nat), j = .int .i64 k ∧ p = .slice ap ((ps.take k).eraseIdx i).length cp ∧ k ≤ D.files.length ∧ Hid (Ptrs w ((ps.take k).eraseIdx i) ap cp wr)) (fun _ j _ => D.files.length - (intOf j).toNat)
  case atStart => exact ⟨0, none, 0, rfl, by simp, Nat.zero_le _, by show Ptrs w _ none 0 w; simpa using Ptrs.start w⟩
  case round =>
    obtain ⟨k, ap, cp, rfl, rfl, hk, HP⟩ := hrel
    have hq : Q w wr := ⟨HP.out.below⟩
    have hdr : d < wr.heap.size := Nat.lt_of_lt_of_le htop hq.below.size
    by_cases hlt : k < D.files.length
    · have hf : D.files[k]? = some D.files[k] := List.getElem?_eq_getElem hlt
      obtain ⟨g, cap, p, id, bo, bc, r1, hg, hp, _, r2, hF⟩ := (HD.out.kept hq).at hf
      have hpt := hF.top
      have i1 : (k : Int) < (D.files.length : Int) := by omega
      have i0' : (0 : Int) ≤ (k : Int) := by omega
      clear hF hf
      by_cases hki : k = i
      · have hSk : Hid ((ps.take (k + 1)).eraseIdx i = (ps.take k).eraseIdx i) := by show _ = _; rw [← hki]; exact HS.out k
        have hb : ((k : Int) == (i : Int)) = true := by rw [beq_iff_eq, hki]
        clear hp hki
        go_wp2_with fail
        go_roundw
        case rel => exact ⟨k + 1, ap, cp, by go_num, by rw [hSk.out], by omega, by rw [hSk.out]; exact HP⟩
        case measure => simp [intOf]; omega
      · have hMk : Hid _ := HM.out k p hp hki
        have hb : ((k : Int) == (i : Int)) = false := by rw [beq_eq_false_iff_ne]; omega
        have hln := HLn.out k
        have hown := HP.out.own
        have hsz := HP.out.below.size
        have RP := HP.out
        generalize (ps.take k).eraseIdx i = L at *
        clear hp hki HP
        go_wp2_with (at_builtin; refine wpList_append_own _ rfl (.tmp 18) (.tmp 26) 88 rfl w.heap.size 93 i0 (.pointer none) 1 8 Try.underlying88 hi hz0 hz1 hz2 rfl (by decide) _ _ _ rfl (hown.alloc _) ⟨wr.heap.size, 0, none⟩ 1 1 [.pointer (some ⟨p, 0, none⟩)] rfl rfl ?c1 ?c2 ?c3 ?c4 ?c5 ?_)
        case c1 => exact one_cell _ _ _
        case c2 => intro u hu; simp at hu; subst hu; rfl
        case c3 => unfold maxLen; omega
        case c4 => omega
        case c5 => simp; omega
        intro v' w' hown' hgrow _
        obtain ⟨ao3, cap3, hv⟩ := own_form hown'
        rw [hv] at hown'
        rw [hv]
        have hp2 := RP.push p _ hgrow hown'
        clear hown' hgrow hown hv RP
        go_wp2_with fail
        go_roundw
        case rel => exact ⟨k + 1, ao3, cap3, by go_num, by rw [hMk.out]; simp, by omega, by rw [hMk.out]; exact hp2⟩
        case measure => simp [intOf]; omega
    · obtain rfl : k = D.files.length := by omega
      obtain ⟨ao, cap, r1⟩ := (HD.out.kept hq).len
      have RP := HP.out
      rw [HE.out] at RP
      rw [HE.out]
      have HF : Hid (DiskAt (wr.setCell ⟨d, 1, none⟩ (.slice ap (ps.eraseIdx i).length cp)) (tg.more w.heap.size o 1) o d ⟨D.cap, D.files.eraseIdx i, D.dead, D.fuse⟩ (ids.eraseIdx i) (ps.eraseIdx i)) := by
        have h0 := HD.out
        refine h0.newRow RP.below (fun k hk => Tags.more_old hk) (ps.eraseIdx i) (ids.eraseIdx i) (D.files.eraseIdx i) ⟨RP.own.1, RP.own.2.imp id fun ⟨g, c, cur, hv, _, r⟩ => ⟨g, c, cur, hv, Nat.zero_le _, r⟩⟩ (fun g hg => Tags.more_new (RP.own.lt g hg).1) (h0.nodup.sublist (List.eraseIdx_sublist _ _)) (by rw [List.length_eraseIdx, List.length_eraseIdx, h0.lenI]) (by rw [List.length_eraseIdx, List.length_eraseIdx, h0.lenP]) (fun j p id f h1 h2 h3 => ?_)
        obtain ⟨bo, bc, hF⟩ := h0.file _ p id f (erase_from h1) (erase_from h2) (erase_from h3)
        exact ⟨bo, bc, hF.keep RP.below.size (fun k hk => Tags.more_old hk) (fun k hk _ => RP.below.block k hk)⟩
      have HO : Hid (Only o tg w (wr.setCell ⟨d, 1, none⟩ (.slice ap (ps.eraseIdx i).length cp))) := only_set (Only.of_q hq) (fun k _ e => by rw [e, htd]) 1 _
      have hfd : wr.frozen? ⟨d, 1, none⟩ = false := (HD.out.kept hq).fr 1
      have HK : Hid (∀ q, q < w.heap.size → q ≠ d → (wr.setCell ⟨d, 1, none⟩ (.slice ap (ps.eraseIdx i).length cp)).heap[q]? = w.heap[q]?) := fun q hq' hn => (heap_setCell_other wr ⟨d, 1, none⟩ q _ (by simpa using hn)).trans (RP.below.block q hq')
      clear RP HP
      go_wp2_with fail
      refine bodyPost_end (v := .tuple #[]) (by simp [results, Try.results105, go_sem]) rfl ?_
      exact ⟨rfl, HF.out, HO.out, HK.out⟩

theorem refWithout (tg : Tags) (o d : Nat) (D : M.Dsk) (ids ps : List Nat) (i : Nat) (hl : D.files.length ≤ 64) (w : World) (h : DiskAt w tg o d D ids ps) :
    Calls Try.prog 105 #[.pointer (some ⟨d, 0, none⟩), .int .i64 (i : Int)] w fun e w' => e = .returned (.tuple #[]) ∧ DiskAt w' (tg.more w.heap.size o 1) o d ⟨D.cap, D.files.eraseIdx i, D.dead, D.fuse⟩ (ids.eraseIdx i) (ps.eraseIdx i) ∧ Only o tg w w' := by
  refine (refWithout_all tg o d D ids ps i hl w h).mono ?_
  rintro e w' ⟨h1, h2, h3, _⟩
  exact ⟨h1, h2, h3⟩

end Go.Proofs.Ytekdenkllipehaa
