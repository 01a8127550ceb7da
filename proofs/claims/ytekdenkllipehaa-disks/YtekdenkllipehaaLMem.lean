/-
  The landed disk in memory. Its sorted map lies within it: the names' row and the files' row.
-/
import Derived.Test.YtekdenkllipehaaTagMem
namespace Go.Proofs.Ytekdenkllipehaa
open Go.RowKit

theorem tag_ne {tg : Tags} {k o a b : Nat} (h : tg k = (o, a)) (hn : a ≠ b) : tg k ≠ (o, b) := fun e => hn (by rw [h] at e; injection e)

/-- The sorted map of the disk in block d: names and, with each, a file's block. (Uses: 0 the disk's variable; 1, 2 the map's rows; 3 + 2 k a file; 4 + 2 k its bytes.) -/
structure MapAt (w : World) (tg : Tags) (o d : Nat) (names : List ByteArray) (ps : List Nat) : Prop where
  fr : ∀ j, w.frozen? ⟨d, j, none⟩ = false
  td : tg d = (o, 0)
  top : d < w.heap.size
  keys : ∃ ao cap, w.cell? ⟨d, 1, none⟩ = some (.slice ao names.length cap) ∧ w.ownsRow 0 9 1 (.slice ao names.length cap) names.length (strVals names) ∧ ∀ g, (Value.slice ao names.length cap).ownBlock = some g → tg g = (o, 1)
  vals : ∃ ao cap, w.cell? ⟨d, 2, none⟩ = some (.slice ao names.length cap) ∧ w.ownsRow 0 131 1 (.slice ao names.length cap) names.length (ptrVals ps) ∧ ∀ g, (Value.slice ao names.length cap).ownBlock = some g → tg g = (o, 2)
  len : ps.length = names.length

/-- A file of the landed disk lies in the block p. -/
structure LFileAt (w : World) (tg : Tags) (o p id : Nat) (f : M.Fil) (bo : Option Addr) (bc : Nat) : Prop where
  c0 : w.cell? ⟨p, 0, none⟩ = some (.slice bo f.bytes.length bc)
  c1 : w.cell? ⟨p, 1, none⟩ = some (.int .i64 (f.synced : Int))
  fr : ∀ j, w.frozen? ⟨p, j, none⟩ = false
  own : w.ownsRow 0 5 1 (.slice bo f.bytes.length bc) f.bytes.length (byteVals f.bytes)
  tp : tg p = (o, 3 + 2 * id)
  tb : ∀ g, (Value.slice bo f.bytes.length bc).ownBlock = some g → tg g = (o, 4 + 2 * id)
  top : p < w.heap.size

def namesOf (fs : List M.Fil) : List ByteArray := fs.map fun f => f.name
@[simp] theorem namesOf_length (fs : List M.Fil) : (namesOf fs).length = fs.length := by simp [namesOf]

/-- The landed disk lies in the block d. -/
structure LDiskAt (w : World) (tg : Tags) (o d : Nat) (D : M.Dsk) (ids ps : List Nat) : Prop where
  map : MapAt w tg o d (namesOf D.files) ps
  c0 : w.cell? ⟨d, 0, none⟩ = some (.int .i64 (D.cap : Int))
  c3 : w.cell? ⟨d, 3, none⟩ = some (.bool D.dead)
  c4 : w.cell? ⟨d, 4, none⟩ = some (.int .i64 (D.fuse : Int))
  nodup : ids.Nodup
  lenI : ids.length = D.files.length
  file : ∀ (i p id : Nat) (f : M.Fil), ps[i]? = some p → ids[i]? = some id → D.files[i]? = some f → ∃ bo bc, LFileAt w tg o p id f bo bc

theorem MapAt.keep {w w' : World} {tg tg' : Tags} {o d : Nat} {names : List ByteArray} {ps : List Nat} (h : MapAt w tg o d names ps) (hs : w.heap.size ≤ w'.heap.size) (ht : ∀ k, k < w.heap.size → tg' k = tg k)
    (hb : ∀ k, k < w.heap.size → (tg k = (o, 0) ∨ tg k = (o, 1) ∨ tg k = (o, 2)) → w'.heap[k]? = w.heap[k]?) : MapAt w' tg' o d names ps := by
  have hd : w'.heap[d]? = w.heap[d]? := hb d h.top (Or.inl h.td)
  obtain ⟨a1, k1, r1, r2, r3⟩ := h.keys
  obtain ⟨a2, k2, s1, s2, s3⟩ := h.vals
  exact ⟨fun j => (World.frozen?_of_block (a := ⟨d, j, none⟩) hd).trans (h.fr j), (ht d h.top).trans h.td, Nat.lt_of_lt_of_le h.top hs,
    ⟨a1, k1, (World.cell?_of_block (a := ⟨d, 1, none⟩) hd).trans r1, row_keep r2 (fun g hg => hb g (r2.lt g hg).2 (Or.inr (Or.inl (r3 g hg)))), fun g hg => (ht g (r2.lt g hg).2).trans (r3 g hg)⟩,
    ⟨a2, k2, (World.cell?_of_block (a := ⟨d, 2, none⟩) hd).trans s1, row_keep s2 (fun g hg => hb g (s2.lt g hg).2 (Or.inr (Or.inr (s3 g hg)))), fun g hg => (ht g (s2.lt g hg).2).trans (s3 g hg)⟩, h.len⟩

theorem LFileAt.keep {w w' : World} {tg tg' : Tags} {o p id : Nat} {f : M.Fil} {bo : Option Addr} {bc : Nat} (h : LFileAt w tg o p id f bo bc) (hs : w.heap.size ≤ w'.heap.size) (ht : ∀ k, k < w.heap.size → tg' k = tg k)
    (hb : ∀ k, k < w.heap.size → tg k = (o, 3 + 2 * id) ∨ tg k = (o, 4 + 2 * id) → w'.heap[k]? = w.heap[k]?) : LFileAt w' tg' o p id f bo bc := by
  have hp : w'.heap[p]? = w.heap[p]? := hb p h.top (Or.inl h.tp)
  exact ⟨(World.cell?_of_block (a := ⟨p, 0, none⟩) hp).trans h.c0, (World.cell?_of_block (a := ⟨p, 1, none⟩) hp).trans h.c1, fun j => (World.frozen?_of_block (a := ⟨p, j, none⟩) hp).trans (h.fr j), row_keep h.own (fun g hg => hb g (h.own.lt g hg).2 (Or.inr (h.tb g hg))), (ht p h.top).trans h.tp, fun g hg => (ht g (h.own.lt g hg).2).trans (h.tb g hg), Nat.lt_of_lt_of_le h.top hs⟩

theorem LDiskAt.keep {w w' : World} {tg tg' : Tags} {o d : Nat} {D : M.Dsk} {ids ps : List Nat} (h : LDiskAt w tg o d D ids ps) (hs : w.heap.size ≤ w'.heap.size) (ht : ∀ k, k < w.heap.size → tg' k = tg k)
    (hb : ∀ k, k < w.heap.size → (tg k).1 = o → w'.heap[k]? = w.heap[k]?) : LDiskAt w' tg' o d D ids ps := by
  have hd : w'.heap[d]? = w.heap[d]? := hb d h.map.top (by rw [h.map.td])
  refine ⟨h.map.keep hs ht (fun k hk e => hb k hk (by rcases e with e | e | e <;> rw [e])), (World.cell?_of_block (a := ⟨d, 0, none⟩) hd).trans h.c0, (World.cell?_of_block (a := ⟨d, 3, none⟩) hd).trans h.c3, (World.cell?_of_block (a := ⟨d, 4, none⟩) hd).trans h.c4, h.nodup, h.lenI, fun i p id f h1 h2 h3 => ?_⟩
  obtain ⟨bo, bc, hF⟩ := h.file i p id f h1 h2 h3
  exact ⟨bo, bc, hF.keep hs ht (fun k hk e => hb k hk (by rcases e with e | e <;> rw [e]))⟩

theorem LDiskAt.kept {w w' : World} {tg : Tags} {o d : Nat} {D : M.Dsk} {ids ps : List Nat} (h : LDiskAt w tg o d D ids ps) (q : Q w w') : LDiskAt w' tg o d D ids ps :=
  h.keep q.below.size (fun _ _ => rfl) (fun k hk _ => q.below.block k hk)

theorem MapAt.kept {w w' : World} {tg : Tags} {o d : Nat} {names : List ByteArray} {ps : List Nat} (h : MapAt w tg o d names ps) (q : Q w w') : MapAt w' tg o d names ps :=
  h.keep q.below.size (fun _ _ => rfl) (fun k hk _ => q.below.block k hk)

theorem LDiskAt.apart {w w' : World} {tg tg' : Tags} {o o' d : Nat} {D : M.Dsk} {ids ps : List Nat} (h : LDiskAt w tg o d D ids ps) (hn : o ≠ o') (hq : Only o' tg w w') (ht : ∀ k, k < w.heap.size → tg' k = tg k) : LDiskAt w' tg' o d D ids ps :=
  h.keep hq.size ht (fun k hk e => hq.block k hk (by rw [e]; exact hn))

/-- What a change of the map alone leaves as it was. -/
structure MapOnly (tg : Tags) (o d : Nat) (w w' : World) : Prop where
  os : w'.os = w.os
  tape : w'.tape = w.tape
  output : w'.output = w.output
  size : w.heap.size ≤ w'.heap.size
  block : ∀ k, k < w.heap.size → tg k ≠ (o, 0) → tg k ≠ (o, 1) → tg k ≠ (o, 2) → w'.heap[k]? = w.heap[k]?
  c0 : w'.cell? ⟨d, 0, none⟩ = w.cell? ⟨d, 0, none⟩
  c3 : w'.cell? ⟨d, 3, none⟩ = w.cell? ⟨d, 3, none⟩
  c4 : w'.cell? ⟨d, 4, none⟩ = w.cell? ⟨d, 4, none⟩

theorem MapOnly.only {tg : Tags} {o d : Nat} {w w' : World} (h : MapOnly tg o d w w') : Only o tg w w' := ⟨h.os, h.tape, h.output, h.size, fun k hk hn => h.block k hk (fun e => hn (by rw [e])) (fun e => hn (by rw [e])) (fun e => hn (by rw [e]))⟩

/-- A disk whose map has turned. -/
theorem LDiskAt.remap {w w' : World} {tg tg' : Tags} {o d : Nat} {D : M.Dsk} {ids ps : List Nat} (h : LDiskAt w tg o d D ids ps) (ho : MapOnly tg o d w w') (ht : ∀ k, k < w.heap.size → tg' k = tg k) {ps' ids' : List Nat} {files' : List M.Fil}
    (hm : MapAt w' tg' o d (namesOf files') ps') (hn : ids'.Nodup) (hl : ids'.length = files'.length)
    (hfile : ∀ (i p id : Nat) (f : M.Fil), ps'[i]? = some p → ids'[i]? = some id → files'[i]? = some f → ∃ bo bc, LFileAt w tg o p id f bo bc) : LDiskAt w' tg' o d ⟨D.cap, files', D.dead, D.fuse⟩ ids' ps' := by
  refine ⟨hm, ho.c0.trans h.c0, ho.c3.trans h.c3, ho.c4.trans h.c4, hn, hl, fun i p id f h1 h2 h3 => ?_⟩
  obtain ⟨bo, bc, hF⟩ := hfile i p id f h1 h2 h3
  exact ⟨bo, bc, hF.keep ho.size ht (fun k hk e => ho.block k hk (by rcases e with e | e <;> exact tag_ne e (by omega)) (by rcases e with e | e <;> exact tag_ne e (by omega)) (by rcases e with e | e <;> exact tag_ne e (by omega)))⟩

/-- The disk's own variable turns. -/
theorem LDiskAt.header {w w' : World} {tg : Tags} {o d : Nat} {D : M.Dsk} {ids ps : List Nat} (h : LDiskAt w tg o d D ids ps) (hg : w.grownBy w' (some d)) (hfr : ∀ j, w'.frozen? ⟨d, j, none⟩ = false)
    (h1 : w'.cell? ⟨d, 1, none⟩ = w.cell? ⟨d, 1, none⟩) (h2 : w'.cell? ⟨d, 2, none⟩ = w.cell? ⟨d, 2, none⟩) (dead : Bool) (fuse : Nat) (k0 : w'.cell? ⟨d, 0, none⟩ = some (.int .i64 (D.cap : Int))) (k3 : w'.cell? ⟨d, 3, none⟩ = some (.bool dead)) (k4 : w'.cell? ⟨d, 4, none⟩ = some (.int .i64 (fuse : Int))) :
    LDiskAt w' tg o d ⟨D.cap, D.files, dead, fuse⟩ ids ps := by
  have hne : ∀ k, k < w.heap.size → tg k ≠ (o, 0) → w'.heap[k]? = w.heap[k]? := fun k hk ht => hg.block k hk (fun e => ht (by simp at e; rw [e]; exact h.map.td))
  obtain ⟨a1, q1, r1, r2, r3⟩ := h.map.keys
  obtain ⟨a2, q2, s1, s2, s3⟩ := h.map.vals
  refine ⟨⟨hfr, h.map.td, Nat.lt_of_lt_of_le h.map.top hg.size, ⟨a1, q1, h1.trans r1, row_keep r2 (fun g hgb => hne g (r2.lt g hgb).2 (tag_ne (r3 g hgb) (by omega))), r3⟩, ⟨a2, q2, h2.trans s1, row_keep s2 (fun g hgb => hne g (s2.lt g hgb).2 (tag_ne (s3 g hgb) (by omega))), s3⟩, h.map.len⟩, k0, k3, k4, h.nodup, h.lenI, fun i p id f e1 e2 e3 => ?_⟩
  obtain ⟨bo, bc, hF⟩ := h.file i p id f e1 e2 e3
  exact ⟨bo, bc, hF.keep hg.size (fun _ _ => rfl) (fun k hk ho => hne k hk (by rcases ho with e | e <;> exact tag_ne e (by omega)))⟩

theorem nodup_get {ids : List Nat} (h : ids.Nodup) {i j x : Nat} (hi : ids[i]? = some x) (hj : ids[j]? = some x) : i = j := by
  obtain ⟨l1, e1⟩ := List.getElem?_eq_some_iff.1 hi
  obtain ⟨l2, e2⟩ := List.getElem?_eq_some_iff.1 hj
  exact (List.getElem_inj h).1 (e1.trans e2.symm)

/-- One file turns. -/
theorem LDiskAt.turn {w w' : World} {tg tg' : Tags} {o d : Nat} {D : M.Dsk} {ids ps : List Nat} (h : LDiskAt w tg o d D ids ps) {i p id : Nat} {f : M.Fil} (hp : ps[i]? = some p) (hid : ids[i]? = some id) (hf : D.files[i]? = some f) (hs : w.heap.size ≤ w'.heap.size) (ht : ∀ k, k < w.heap.size → tg' k = tg k)
    (hb : ∀ k, k < w.heap.size → tg k ≠ (o, 3 + 2 * id) → tg k ≠ (o, 4 + 2 * id) → w'.heap[k]? = w.heap[k]?) (f' : M.Fil) (hn : f'.name = f.name) {bo : Option Addr} {bc : Nat} (hF : LFileAt w' tg' o p id f' bo bc) :
    LDiskAt w' tg' o d ⟨D.cap, D.files.set i f', D.dead, D.fuse⟩ ids ps := by
  have hd : w'.heap[d]? = w.heap[d]? := hb d h.map.top (tag_ne h.map.td (by omega)) (tag_ne h.map.td (by omega))
  have hnm : namesOf (D.files.set i f') = namesOf D.files := by
    unfold namesOf
    rw [List.map_set]
    obtain ⟨hi, he⟩ := List.getElem?_eq_some_iff.1 hf
    apply List.ext_getElem (by simp)
    intro n h1 h2
    rw [List.getElem_set]
    split
    · rename_i e
      subst e
      rw [List.getElem_map, he, hn]
    · rfl
  refine ⟨by rw [hnm]; exact h.map.keep hs ht (fun k hk e => hb k hk (by rcases e with e | e | e <;> exact tag_ne e (by omega)) (by rcases e with e | e | e <;> exact tag_ne e (by omega))), (World.cell?_of_block (a := ⟨d, 0, none⟩) hd).trans h.c0, (World.cell?_of_block (a := ⟨d, 3, none⟩) hd).trans h.c3, (World.cell?_of_block (a := ⟨d, 4, none⟩) hd).trans h.c4, h.nodup, by simpa using h.lenI, fun j p' id' g hp' hi' hg => ?_⟩
  by_cases hj : j = i
  · subst hj
    rw [hp] at hp'
    rw [hid] at hi'
    obtain rfl := Option.some.inj hp'
    obtain rfl := Option.some.inj hi'
    have hl : j < D.files.length := by have := (List.getElem?_eq_some_iff.1 hg).1; simpa using this
    simp only [List.getElem?_set_self hl, Option.some.injEq] at hg
    subst hg
    exact ⟨bo, bc, hF⟩
  · simp only at hg
    rw [List.getElem?_set_ne (Ne.symm hj)] at hg
    obtain ⟨bo', bc', hF'⟩ := h.file j p' id' g hp' hi' hg
    have hne : id' ≠ id := fun e => by
      subst e
      exact hj (nodup_get h.nodup hi' hid)
    exact ⟨bo', bc', hF'.keep hs ht (fun k hk ho => hb k hk (by rcases ho with e | e <;> exact tag_ne e (by omega)) (by rcases ho with e | e <;> exact tag_ne e (by omega)))⟩

/-- The i-th entry of the map. -/
theorem MapAt.at {w : World} {tg : Tags} {o d : Nat} {names : List ByteArray} {ps : List Nat} (h : MapAt w tg o d names ps) {i : Nat} (hi : i < names.length) :
    ∃ g cap gv capv p, w.cell? ⟨d, 1, none⟩ = some (.slice (some ⟨g, 0, none⟩) names.length cap) ∧ w.cell? ⟨d, 2, none⟩ = some (.slice (some ⟨gv, 0, none⟩) names.length capv) ∧ tg g = (o, 1) ∧ tg gv = (o, 2) ∧ g < w.heap.size ∧ gv < w.heap.size ∧ ps[i]? = some p ∧
      (∀ j nm, names[j]? = some nm → w.cell? ⟨g, j, none⟩ = some (.string nm)) ∧ (∀ j q, ps[j]? = some q → w.cell? ⟨gv, j, none⟩ = some (.pointer (some ⟨q, 0, none⟩))) := by
  obtain ⟨a1, k1, r1, r2, r3⟩ := h.keys
  obtain ⟨a2, k2, s1, s2, s3⟩ := h.vals
  obtain ⟨p, hp⟩ : ∃ p, ps[i]? = some p := ⟨_, List.getElem?_eq_getElem (by rw [h.len]; exact hi)⟩
  rcases r2.2 with ⟨_, h0⟩ | ⟨g, c, cur, hv, _, hh, _⟩
  · omega
  rcases s2.2 with ⟨_, h0⟩ | ⟨gv, cv, curv, hvv, _, hhv, _⟩
  · omega
  injection hv with e1 e2 e3
  injection hvv with f1 f2 f3
  subst e1 e3 f1 f3
  refine ⟨g, k1, gv, k2, p, r1, s1, r3 g rfl, s3 gv rfl, (Array.getElem?_eq_some_iff.1 hh).1, (Array.getElem?_eq_some_iff.1 hhv).1, hp, fun j nm hj => ?_, fun j q hj => ?_⟩
  · rw [r2.cellAt j (by have := (List.getElem?_eq_some_iff.1 hj).1; omega)]
    simp [strVals, hj]
  · rw [s2.cellAt j (by have := (List.getElem?_eq_some_iff.1 hj).1; have := h.len; omega)]
    simp [ptrVals, hj]

/-- A call of the owner's has ended: his disk is D' now. -/
def LEnded (tg : Tags) (o d : Nat) (D' : M.Dsk) (w w' : World) : Prop := ∃ (tg' : Tags) (ids' ps' : List Nat), (∀ k, k < w.heap.size → tg' k = tg k) ∧ LDiskAt w' tg' o d D' ids' ps' ∧ Only o tg w w'

theorem LEnded.same {tg : Tags} {o d : Nat} {D' : M.Dsk} {w w' : World} {ids ps : List Nat} (h : LDiskAt w' tg o d D' ids ps) (ho : Only o tg w w') : LEnded tg o d D' w w' := ⟨tg, ids, ps, fun _ _ => rfl, h, ho⟩
end Go.Proofs.Ytekdenkllipehaa
