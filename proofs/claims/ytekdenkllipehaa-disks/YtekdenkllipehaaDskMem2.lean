/-
  The document's disks in memory: one part of one turns.
-/
import Derived.Test.YtekdenkllipehaaDskMem
namespace Go.Proofs.Ytekdenkllipehaa
open Go.RowKit

/-- The disk's own variable turns. -/
theorem DiskAt.header {w w' : World} {tg : Tags} {o d : Nat} {D : M.Dsk} {ids ps : List Nat} (h : DiskAt w tg o d D ids ps) (hg : w.grownBy w' (some d)) (hfr : ∀ j, w'.frozen? ⟨d, j, none⟩ = false)
    (h1 : w'.cell? ⟨d, 1, none⟩ = w.cell? ⟨d, 1, none⟩) (dead : Bool) (fuse : Nat) (k0 : w'.cell? ⟨d, 0, none⟩ = some (.int .i64 (D.cap : Int))) (k2 : w'.cell? ⟨d, 2, none⟩ = some (.bool dead)) (k3 : w'.cell? ⟨d, 3, none⟩ = some (.int .i64 (fuse : Int))) :
    DiskAt w' tg o d ⟨D.cap, D.files, dead, fuse⟩ ids ps := by
  obtain ⟨ao, cap, r1, r2, r3⟩ := h.row
  have hne : ∀ k, k < w.heap.size → tg k ≠ (o, 0) → w'.heap[k]? = w.heap[k]? := fun k hk ht => hg.block k hk (fun e => ht (by simp at e; rw [e]; exact h.td))
  refine ⟨k0, k2, k3, hfr, h.td, Nat.lt_of_lt_of_le h.top hg.size, ⟨ao, cap, h1.trans r1, row_keep r2 (fun g hgb => hne g (r2.lt g hgb).2 (by rw [r3 g hgb]; simp)), r3⟩, h.nodup, h.lenI, h.lenP, fun i p id f hp hi hf => ?_⟩
  obtain ⟨bo, bc, hF⟩ := h.file i p id f hp hi hf
  exact ⟨bo, bc, hF.keep hg.size (fun _ _ => rfl) (fun k hk ho => hne k hk (by rcases ho with e | e <;> rw [e] <;> simp))⟩

/-- One file turns. -/
theorem DiskAt.turn {w w' : World} {tg tg' : Tags} {o d : Nat} {D : M.Dsk} {ids ps : List Nat} (h : DiskAt w tg o d D ids ps) {i p id : Nat} (hp : ps[i]? = some p) (hid : ids[i]? = some id) (hs : w.heap.size ≤ w'.heap.size) (ht : ∀ k, k < w.heap.size → tg' k = tg k)
    (hb : ∀ k, k < w.heap.size → tg k ≠ (o, 2 + 2 * id) → tg k ≠ (o, 3 + 2 * id) → w'.heap[k]? = w.heap[k]?) (f' : M.Fil) {bo : Option Addr} {bc : Nat} (hF : FileAt w' tg' o p id f' bo bc) :
    DiskAt w' tg' o d ⟨D.cap, D.files.set i f', D.dead, D.fuse⟩ ids ps := by
  obtain ⟨ao, cap, r1, r2, r3⟩ := h.row
  have hd : w'.heap[d]? = w.heap[d]? := hb d h.top (by rw [h.td]; simp; omega) (by rw [h.td]; simp; omega)
  refine ⟨(World.cell?_of_block (a := ⟨d, 0, none⟩) hd).trans h.c0, (World.cell?_of_block (a := ⟨d, 2, none⟩) hd).trans h.c2, (World.cell?_of_block (a := ⟨d, 3, none⟩) hd).trans h.c3, fun j => (World.frozen?_of_block (a := ⟨d, j, none⟩) hd).trans (h.fr j), (ht d h.top).trans h.td, Nat.lt_of_lt_of_le h.top hs,
    ⟨ao, cap, (World.cell?_of_block (a := ⟨d, 1, none⟩) hd).trans r1, row_keep r2 (fun g hgb => hb g (r2.lt g hgb).2 (by rw [r3 g hgb]; simp; omega) (by rw [r3 g hgb]; simp; omega)), fun g hg => (ht g (r2.lt g hg).2).trans (r3 g hg)⟩, h.nodup, by rw [h.lenI]; simp, by rw [h.lenP]; simp, fun j p' id' f hp' hi' hf => ?_⟩
  by_cases hj : j = i
  · subst hj
    rw [hp] at hp'
    rw [hid] at hi'
    obtain rfl := Option.some.inj hp'
    obtain rfl := Option.some.inj hi'
    have : f = f' := by
      have hl : j < D.files.length := by have := (List.getElem?_eq_some_iff.1 hf).1; simpa using this
      simp only [List.getElem?_set_self hl, Option.some.injEq] at hf
      exact hf.symm
    subst this
    exact ⟨bo, bc, hF⟩
  · rw [List.getElem?_set_ne (Ne.symm hj)] at hf
    obtain ⟨bo', bc', hF'⟩ := h.file j p' id' f hp' hi' hf
    have hne : id' ≠ id := fun e => by
      subst e
      have h1 := (List.getElem?_eq_some_iff.1 hid)
      have h2 := (List.getElem?_eq_some_iff.1 hi')
      obtain ⟨l1, e1⟩ := h1
      obtain ⟨l2, e2⟩ := h2
      exact hj ((List.getElem_inj h.nodup).1 (e2.trans e1.symm))
    exact ⟨bo', bc', hF'.keep hs ht (fun k hk ho => hb k hk (by rcases ho with e | e <;> rw [e] <;> simp <;> omega) (by rcases ho with e | e <;> rw [e] <;> simp <;> omega))⟩
end Go.Proofs.Ytekdenkllipehaa
