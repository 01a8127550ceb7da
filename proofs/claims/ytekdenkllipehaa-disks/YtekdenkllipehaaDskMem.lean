/-
  The document's disks in memory. Each block has a tag: whose it is, and what for; what has other tags is another block.
-/
import Derived.Test.YtekdenkllipehaaTagMem
import Derived.Laws.OwnMore
namespace Go.Proofs.Ytekdenkllipehaa
open Go.RowKit

/-- A file lies in the block p. -/
structure FileAt (w : World) (tg : Tags) (o p id : Nat) (f : M.Fil) (bo : Option Addr) (bc : Nat) : Prop where
  c0 : w.cell? ⟨p, 0, none⟩ = some (.string f.name)
  c1 : w.cell? ⟨p, 1, none⟩ = some (.slice bo f.bytes.length bc)
  c2 : w.cell? ⟨p, 2, none⟩ = some (.int .i64 (f.synced : Int))
  fr : ∀ j, w.frozen? ⟨p, j, none⟩ = false
  own : w.ownsRow 0 5 1 (.slice bo f.bytes.length bc) f.bytes.length (byteVals f.bytes)
  tp : tg p = (o, 2 + 2 * id)
  tb : ∀ g, (Value.slice bo f.bytes.length bc).ownBlock = some g → tg g = (o, 3 + 2 * id)
  top : p < w.heap.size

/-- A disk lies in the block d: its files in the blocks ps. -/
structure DiskAt (w : World) (tg : Tags) (o d : Nat) (D : M.Dsk) (ids ps : List Nat) : Prop where
  c0 : w.cell? ⟨d, 0, none⟩ = some (.int .i64 (D.cap : Int))
  c2 : w.cell? ⟨d, 2, none⟩ = some (.bool D.dead)
  c3 : w.cell? ⟨d, 3, none⟩ = some (.int .i64 (D.fuse : Int))
  fr : ∀ j, w.frozen? ⟨d, j, none⟩ = false
  td : tg d = (o, 0)
  top : d < w.heap.size
  row : ∃ ao cap, w.cell? ⟨d, 1, none⟩ = some (.slice ao ps.length cap) ∧ w.ownsRow 0 93 1 (.slice ao ps.length cap) ps.length (ptrVals ps) ∧ ∀ g, (Value.slice ao ps.length cap).ownBlock = some g → tg g = (o, 1)
  nodup : ids.Nodup
  lenI : ids.length = D.files.length
  lenP : ps.length = D.files.length
  file : ∀ (i p id : Nat) (f : M.Fil), ps[i]? = some p → ids[i]? = some id → D.files[i]? = some f → ∃ bo bc, FileAt w tg o p id f bo bc

/-- The file's block, where its blocks stay as they were. -/
theorem FileAt.keep {w w' : World} {tg tg' : Tags} {o p id : Nat} {f : M.Fil} {bo : Option Addr} {bc : Nat} (h : FileAt w tg o p id f bo bc) (hs : w.heap.size ≤ w'.heap.size) (ht : ∀ k, k < w.heap.size → tg' k = tg k)
    (hb : ∀ k, k < w.heap.size → tg k = (o, 2 + 2 * id) ∨ tg k = (o, 3 + 2 * id) → w'.heap[k]? = w.heap[k]?) : FileAt w' tg' o p id f bo bc := by
  have hp : w'.heap[p]? = w.heap[p]? := hb p h.top (Or.inl h.tp)
  refine ⟨(World.cell?_of_block (a := ⟨p, 0, none⟩) hp).trans h.c0, (World.cell?_of_block (a := ⟨p, 1, none⟩) hp).trans h.c1, (World.cell?_of_block (a := ⟨p, 2, none⟩) hp).trans h.c2, fun j => (World.frozen?_of_block (a := ⟨p, j, none⟩) hp).trans (h.fr j), ?_, (ht p h.top).trans h.tp, fun g hg => (ht g (h.own.lt g hg).2).trans (h.tb g hg), Nat.lt_of_lt_of_le h.top hs⟩
  refine ⟨h.own.1, ?_⟩
  rcases h.own.2 with h2 | ⟨g, cap, cur, hv, hg, hh, r⟩
  · exact Or.inl h2
  · have hlt : g < w.heap.size := (Array.getElem?_eq_some_iff.1 hh).1
    have hob : (Value.slice bo f.bytes.length bc).ownBlock = some g := by rw [hv]; rfl
    exact Or.inr ⟨g, cap, cur, hv, hg, by rw [hb g hlt (Or.inr (h.tb g hob))]; exact hh, r⟩

/-- A disk whose blocks all stay as they were. -/
theorem DiskAt.keep {w w' : World} {tg tg' : Tags} {o d : Nat} {D : M.Dsk} {ids ps : List Nat} (h : DiskAt w tg o d D ids ps) (hs : w.heap.size ≤ w'.heap.size) (ht : ∀ k, k < w.heap.size → tg' k = tg k)
    (hb : ∀ k, k < w.heap.size → (tg k).1 = o → w'.heap[k]? = w.heap[k]?) : DiskAt w' tg' o d D ids ps := by
  have hd : w'.heap[d]? = w.heap[d]? := hb d h.top (by rw [h.td])
  obtain ⟨ao, cap, r1, r2, r3⟩ := h.row
  refine ⟨(World.cell?_of_block (a := ⟨d, 0, none⟩) hd).trans h.c0, (World.cell?_of_block (a := ⟨d, 2, none⟩) hd).trans h.c2, (World.cell?_of_block (a := ⟨d, 3, none⟩) hd).trans h.c3, fun j => (World.frozen?_of_block (a := ⟨d, j, none⟩) hd).trans (h.fr j), (ht d h.top).trans h.td, Nat.lt_of_lt_of_le h.top hs, ⟨ao, cap, (World.cell?_of_block (a := ⟨d, 1, none⟩) hd).trans r1, ?_, fun g hg => (ht g (r2.lt g hg).2).trans (r3 g hg)⟩, h.nodup, h.lenI, h.lenP, fun i p id f hp hi hf => ?_⟩
  · refine ⟨r2.1, ?_⟩
    rcases r2.2 with h2 | ⟨g, c, cur, hv, hg, hh, r⟩
    · exact Or.inl h2
    · have hlt : g < w.heap.size := (Array.getElem?_eq_some_iff.1 hh).1
      have hob : (Value.slice ao ps.length cap).ownBlock = some g := by rw [hv]; rfl
      exact Or.inr ⟨g, c, cur, hv, hg, by rw [hb g hlt (by rw [r3 g hob])]; exact hh, r⟩
  · obtain ⟨bo, bc, hF⟩ := h.file i p id f hp hi hf
    exact ⟨bo, bc, hF.keep hs ht (fun k hk ho => hb k hk (by rcases ho with e | e <;> rw [e]))⟩

theorem DiskAt.kept {w w' : World} {tg : Tags} {o d : Nat} {D : M.Dsk} {ids ps : List Nat} (h : DiskAt w tg o d D ids ps) (q : Q w w') : DiskAt w' tg o d D ids ps :=
  h.keep q.below.size (fun _ _ => rfl) (fun k hk _ => q.below.block k hk)

/-- .. of another owner. -/
theorem DiskAt.apart {w w' : World} {tg tg' : Tags} {o o' d : Nat} {D : M.Dsk} {ids ps : List Nat} (h : DiskAt w tg o d D ids ps) (hn : o ≠ o') (hq : Only o' tg w w') (ht : ∀ k, k < w.heap.size → tg' k = tg k) : DiskAt w' tg' o d D ids ps :=
  h.keep hq.size ht (fun k hk e => hq.block k hk (by rw [e]; exact hn))

/-- The i-th file, for a walk: the row's cell, the file's cells. -/
theorem DiskAt.at {w : World} {tg : Tags} {o d : Nat} {D : M.Dsk} {ids ps : List Nat} (h : DiskAt w tg o d D ids ps) {i : Nat} {f : M.Fil} (hf : D.files[i]? = some f) :
    ∃ g cap p id bo bc, w.cell? ⟨d, 1, none⟩ = some (.slice (some ⟨g, 0, none⟩) D.files.length cap) ∧ g < w.heap.size ∧ ps[i]? = some p ∧ ids[i]? = some id ∧ w.cell? ⟨g, i, none⟩ = some (.pointer (some ⟨p, 0, none⟩)) ∧ FileAt w tg o p id f bo bc := by
  obtain ⟨ao, cap, r1, r2, r3⟩ := h.row
  have hi : i < D.files.length := (List.getElem?_eq_some_iff.1 hf).1
  obtain ⟨p, hp⟩ : ∃ p, ps[i]? = some p := ⟨_, List.getElem?_eq_getElem (by rw [h.lenP]; exact hi)⟩
  obtain ⟨id, hid⟩ : ∃ id, ids[i]? = some id := ⟨_, List.getElem?_eq_getElem (by rw [h.lenI]; exact hi)⟩
  obtain ⟨bo, bc, hF⟩ := h.file i _ _ f hp hid hf
  rcases r2.2 with ⟨hv, h0⟩ | ⟨g, c, cur, hv, hg, hh, _⟩
  · rw [h.lenP] at h0; omega
  · injection hv with e1 e2 e3
    subst e1 e3
    refine ⟨g, cap, p, id, bo, bc, by rw [← h.lenP]; exact r1, (Array.getElem?_eq_some_iff.1 hh).1, hp, hid, ?_, hF⟩
    rw [r2.cellAt i (by rw [h.lenP]; omega)]
    simp [ptrVals, hp]

/-- The number of files, for a walk. -/
theorem DiskAt.len {w : World} {tg : Tags} {o d : Nat} {D : M.Dsk} {ids ps : List Nat} (h : DiskAt w tg o d D ids ps) : ∃ ao cap, w.cell? ⟨d, 1, none⟩ = some (.slice ao D.files.length cap) := by
  obtain ⟨ao, cap, r1, _⟩ := h.row
  rw [h.lenP] at r1
  exact ⟨ao, cap, r1⟩
end Go.Proofs.Ytekdenkllipehaa
