import Derived.Test.YtekdenkllipehaaLenRd
import Derived.Test.YtekdenkllipehaaDrawn
namespace Go.Proofs.Ytekdenkllipehaa
open Go.RowKit

/-- Rows of two kinds lie in two blocks. -/
theorem own_apart {w : World} {b1 b2 : Nat} {e1 e2 : TypeId} {s1 s2 : Nat} {v1 v2 : Value} {n1 n2 : Nat} {x1 x2 : List Value} (h1 : w.ownsRow b1 e1 s1 v1 n1 x1) (h2 : w.ownsRow b2 e2 s2 v2 n2 x2) (hne : e1 ≠ e2) : v1.ownBlock = none ∨ v1.ownBlock ≠ v2.ownBlock := by
  rcases h1.2 with ⟨rfl, _⟩ | ⟨g, c, cur, rfl, _, hg, _⟩
  · exact Or.inl rfl
  · rcases h2.2 with ⟨rfl, _⟩ | ⟨g', c', cur', rfl, _, hg', _⟩
    · exact Or.inr (by simp [Value.ownBlock])
    · refine Or.inr ?_
      simp only [Value.ownBlock, ne_eq, Option.some.injEq]
      rintro rfl
      rw [hg] at hg'
      simp only [Option.some.injEq, Obj.cells.injEq] at hg'
      exact hne hg'.2.1

/-- What lies in memory while a change is read into steps: the result's variable (B), the edit so far (B + 1), its rows behind. -/
structure Rd (w : World) (L E : List M.St) (so eo : Option Addr) (sc ec : Nat) (wr : World) : Prop where
  below : Below w.heap.size w wr
  r0 : wr.cell? ⟨w.heap.size, 0, none⟩ = some (.slice none 0 0)
  r1 : wr.cell? ⟨w.heap.size, 1, none⟩ = some (.slice none 0 0)
  f0 : wr.frozen? ⟨w.heap.size, 0, none⟩ = false
  f1 : wr.frozen? ⟨w.heap.size, 1, none⟩ = false
  c0 : wr.cell? ⟨w.heap.size + 1, 0, none⟩ = some (.slice so L.length sc)
  c1 : wr.cell? ⟨w.heap.size + 1, 1, none⟩ = some (.slice eo E.length ec)
  g0 : wr.frozen? ⟨w.heap.size + 1, 0, none⟩ = false
  g1 : wr.frozen? ⟨w.heap.size + 1, 1, none⟩ = false
  ownS : wr.ownsRow (w.heap.size + 2) 53 3 (.slice so L.length sc) L.length (cellsOf L)
  ownE : wr.ownsRow (w.heap.size + 2) 3 1 (.slice eo E.length ec) E.length (endVals E)
  top : w.heap.size + 2 ≤ wr.heap.size

theorem Rd.kept {w wr wr' : World} {L E : List M.St} {so eo : Option Addr} {sc ec : Nat} (h : Rd w L E so eo sc ec wr) (q : Q wr wr') : Rd w L E so eo sc ec wr' := by
  have ht := h.top
  have cl : ∀ (b o : Nat), b < wr.heap.size → wr'.cell? ⟨b, o, none⟩ = wr.cell? ⟨b, o, none⟩ := fun b o hlt => q.below.cell (p := ⟨b, o, none⟩) hlt
  have fr : ∀ (b o : Nat), b < wr.heap.size → wr'.frozen? ⟨b, o, none⟩ = wr.frozen? ⟨b, o, none⟩ := fun b o hlt => q.below.frozen (p := ⟨b, o, none⟩) hlt
  exact ⟨h.below.trans (q.below.mono (by omega)), (cl _ _ (by omega)).trans h.r0, (cl _ _ (by omega)).trans h.r1, (fr _ _ (by omega)).trans h.f0, (fr _ _ (by omega)).trans h.f1,
    (cl _ _ (by omega)).trans h.c0, (cl _ _ (by omega)).trans h.c1, (fr _ _ (by omega)).trans h.g0, (fr _ _ (by omega)).trans h.g1, own_below h.ownS q.below, own_below h.ownE q.below, by have := q.below.size; omega⟩

theorem Rd.start (w : World) : Rd w [] [] none none 0 0 ((w.alloc (.cells #[.slice none 0 0, .slice none 0 0] 46)).alloc (.cells #[.slice none 0 0, .slice none 0 0] 46)) := by
  have hsz : (w.alloc (.cells #[.slice none 0 0, .slice none 0 0] 46)).heap.size = w.heap.size + 1 := by simp
  obtain ⟨⟨x0, x1⟩, ⟨y0, y1⟩⟩ := new2 ((Q.refl (w.alloc (.cells #[.slice none 0 0, .slice none 0 0] 46))).alloc #[.slice none 0 0, .slice none 0 0] 46)
  obtain ⟨⟨z0, z1⟩, ⟨v0, v1⟩⟩ := new2 (Q.refl ((w.alloc (.cells #[.slice none 0 0, .slice none 0 0] 46)).alloc (.cells #[.slice none 0 0, .slice none 0 0] 46)))
  rw [hsz] at z0 z1 v0 v1
  exact ⟨((Below.refl _ w).alloc (Nat.le_refl _) _).alloc (by simp) _, x0, x1, y0, y1, z0, z1, v0, v1, World.ownsRow_nil _ _ _ _, World.ownsRow_nil _ _ _ _, by simp⟩

/-- The result's variable is written anew. -/
theorem Rd.stored {w wr : World} {L E : List M.St} {so eo : Option Addr} {sc ec : Nat} (h : Rd w L E so eo sc ec wr) (a b : Value) :
    ((wr.setCell ⟨w.heap.size, 0, none⟩ a).setCell ⟨w.heap.size, 1, none⟩ b).cell? ⟨w.heap.size, 0, none⟩ = some a ∧
    ((wr.setCell ⟨w.heap.size, 0, none⟩ a).setCell ⟨w.heap.size, 1, none⟩ b).cell? ⟨w.heap.size, 1, none⟩ = some b ∧
    Q w ((wr.setCell ⟨w.heap.size, 0, none⟩ a).setCell ⟨w.heap.size, 1, none⟩ b) ∧
    Steps ((wr.setCell ⟨w.heap.size, 0, none⟩ a).setCell ⟨w.heap.size, 1, none⟩ b) so L ∧
    Ends ((wr.setCell ⟨w.heap.size, 0, none⟩ a).setCell ⟨w.heap.size, 1, none⟩ b) eo E := by
  obtain ⟨k0, k1⟩ := stored2 h.r0 h.r1 a b
  exact ⟨k0, k1, (Q.mk h.below).set2 (Nat.le_refl _) a b,
    own_steps (ownsRow_setCell_below (ownsRow_setCell_below h.ownS (a := ⟨w.heap.size, 0, none⟩) (by show w.heap.size < _; omega) a) (a := ⟨w.heap.size, 1, none⟩) (by show w.heap.size < _; omega) b),
    own_ends (ownsRow_setCell_below (ownsRow_setCell_below h.ownE (a := ⟨w.heap.size, 0, none⟩) (by show w.heap.size < _; omega) a) (a := ⟨w.heap.size, 1, none⟩) (by show w.heap.size < _; omega) b)⟩

/-- One end more. -/
theorem Rd.pushE {w wr w' : World} {L E : List M.St} {so eo eo' : Option Addr} {sc ec ec' : Nat} (h : Rd w L E so eo sc ec wr) (s : M.St) (x : Int) (hx : x = ((M.tot E + s.size : Nat) : Int))
    (hg : wr.grownBy w' (Value.slice eo E.length ec).ownBlock)
    (ho : w'.ownsRow (w.heap.size + 2) 3 1 (.slice eo' (E.length + 1) ec') (E.length + 1) (endVals E ++ [.int .i64 x])) :
    w'.cell? ⟨w.heap.size + 1, 1, none⟩ = some (.slice eo E.length ec) ∧ w'.frozen? ⟨w.heap.size + 1, 1, none⟩ = false ∧
    Rd w L (E ++ [s]) so eo' sc ec' (w'.setCell ⟨w.heap.size + 1, 1, none⟩ (.slice eo' (E.length + 1) ec')) := by
  subst hx
  have ht := h.top
  have hb : Below (w.heap.size + 2) wr w' := (Below.refl _ wr).grown hg ht (own_base h.ownE)
  have cl : ∀ (b o : Nat), b < w.heap.size + 2 → w'.cell? ⟨b, o, none⟩ = wr.cell? ⟨b, o, none⟩ := fun b o hl => hb.cell (p := ⟨b, o, none⟩) hl
  have fr : ∀ (b o : Nat), b < w.heap.size + 2 → w'.frozen? ⟨b, o, none⟩ = wr.frozen? ⟨b, o, none⟩ := fun b o hl => hb.frozen (p := ⟨b, o, none⟩) hl
  have k1 := (cl _ 1 (by omega)).trans h.c1
  have oc : ∀ (b o : Nat), b < w.heap.size + 2 → (b ≠ w.heap.size + 1 ∨ o ≠ 1) → (w'.setCell ⟨w.heap.size + 1, 1, none⟩ (.slice eo' (E.length + 1) ec')).cell? ⟨b, o, none⟩ = wr.cell? ⟨b, o, none⟩ := fun b o hl hn => by
    rw [World.cell?_setCell_other _ _ _ _ (by intro e; injection e; omega)]; exact cl b o hl
  have of : ∀ (b o : Nat), b < w.heap.size + 2 → (w'.setCell ⟨w.heap.size + 1, 1, none⟩ (.slice eo' (E.length + 1) ec')).frozen? ⟨b, o, none⟩ = wr.frozen? ⟨b, o, none⟩ := fun b o hl => by
    rw [World.frozen?_setCell]; exact fr b o hl
  refine ⟨k1, (fr _ 1 (by omega)).trans h.g1, ⟨(h.below.trans (hb.mono (by omega))).setCell (by show w.heap.size ≤ w.heap.size + 1; omega) _, (oc _ _ (by omega) (by omega)).trans h.r0, (oc _ _ (by omega) (by omega)).trans h.r1, (of _ _ (by omega)).trans h.f0, (of _ _ (by omega)).trans h.f1, (oc _ _ (by omega) (by omega)).trans h.c0, ?_, (of _ _ (by omega)).trans h.g0, (of _ _ (by omega)).trans h.g1, ?_, ?_, ?_⟩⟩
  · rw [World.cell?_setCell_same _ _ _ k1]; simp
  · exact ownsRow_setCell_below (h.ownS.kept hg (own_apart h.ownS h.ownE (by decide))) (a := ⟨w.heap.size + 1, 1, none⟩) (by show w.heap.size + 1 < _; omega) _
  · have := ownsRow_setCell_below ho (a := ⟨w.heap.size + 1, 1, none⟩) (by show w.heap.size + 1 < w.heap.size + 2; omega) (.slice eo' (E.length + 1) ec')
    rw [endVals_snoc, List.length_append]; exact this
  · have := hb.size; simp; omega

/-- One step more. -/
theorem Rd.pushS {w wr w' : World} {L E : List M.St} {so so' eo : Option Addr} {sc sc' ec : Nat} (h : Rd w L E so eo sc ec wr) (s : M.St)
    (hg : wr.grownBy w' (Value.slice so L.length sc).ownBlock)
    (ho : w'.ownsRow (w.heap.size + 2) 53 3 (.slice so' (L.length + 1) sc') (L.length + 1) (cellsOf L ++ s.cells)) :
    w'.cell? ⟨w.heap.size + 1, 0, none⟩ = some (.slice so L.length sc) ∧ w'.frozen? ⟨w.heap.size + 1, 0, none⟩ = false ∧
    Rd w (L ++ [s]) E so' eo sc' ec (w'.setCell ⟨w.heap.size + 1, 0, none⟩ (.slice so' (L.length + 1) sc')) := by
  have ht := h.top
  have hb : Below (w.heap.size + 2) wr w' := (Below.refl _ wr).grown hg ht (own_base h.ownS)
  have cl : ∀ (b o : Nat), b < w.heap.size + 2 → w'.cell? ⟨b, o, none⟩ = wr.cell? ⟨b, o, none⟩ := fun b o hl => hb.cell (p := ⟨b, o, none⟩) hl
  have fr : ∀ (b o : Nat), b < w.heap.size + 2 → w'.frozen? ⟨b, o, none⟩ = wr.frozen? ⟨b, o, none⟩ := fun b o hl => hb.frozen (p := ⟨b, o, none⟩) hl
  have k1 := (cl _ 0 (by omega)).trans h.c0
  have oc : ∀ (b o : Nat), b < w.heap.size + 2 → (b ≠ w.heap.size + 1 ∨ o ≠ 0) → (w'.setCell ⟨w.heap.size + 1, 0, none⟩ (.slice so' (L.length + 1) sc')).cell? ⟨b, o, none⟩ = wr.cell? ⟨b, o, none⟩ := fun b o hl hn => by
    rw [World.cell?_setCell_other _ _ _ _ (by intro e; injection e; omega)]; exact cl b o hl
  have of : ∀ (b o : Nat), b < w.heap.size + 2 → (w'.setCell ⟨w.heap.size + 1, 0, none⟩ (.slice so' (L.length + 1) sc')).frozen? ⟨b, o, none⟩ = wr.frozen? ⟨b, o, none⟩ := fun b o hl => by
    rw [World.frozen?_setCell]; exact fr b o hl
  refine ⟨k1, (fr _ 0 (by omega)).trans h.g0, ⟨(h.below.trans (hb.mono (by omega))).setCell (by show w.heap.size ≤ w.heap.size + 1; omega) _, (oc _ _ (by omega) (by omega)).trans h.r0, (oc _ _ (by omega) (by omega)).trans h.r1, (of _ _ (by omega)).trans h.f0, (of _ _ (by omega)).trans h.f1, ?_, (oc _ _ (by omega) (by omega)).trans h.c1, (of _ _ (by omega)).trans h.g0, (of _ _ (by omega)).trans h.g1, ?_, ?_, ?_⟩⟩
  · rw [World.cell?_setCell_same _ _ _ k1]; simp
  · have := ownsRow_setCell_below ho (a := ⟨w.heap.size + 1, 0, none⟩) (by show w.heap.size + 1 < w.heap.size + 2; omega) (.slice so' (L.length + 1) sc')
    rw [cellsOf_append, cellsOf_one, List.length_append]; exact this
  · exact ownsRow_setCell_below (h.ownE.kept hg (own_apart h.ownE h.ownS (by decide))) (a := ⟨w.heap.size + 1, 0, none⟩) (by show w.heap.size + 1 < _; omega) _
  · have := hb.size; simp; omega

/-! ### What is read, against the mathematics -/

theorem step_none {s : ByteArray} {a size : Nat} {acc : List Nat} (h : M.stepOf s a = none) : M.stepAt s.data.toList size a acc = none := by
  unfold M.stepOf at h
  unfold M.stepAt
  cases hg : M.getAt s.data.toList a with
  | none => rfl
  | some p =>
    obtain ⟨u, nx⟩ := p
    have hb := M.getAt_bound hg
    have hl : s.data.toList.length = s.size := by simp
    rw [hg] at h
    simp only at h ⊢
    by_cases h0 : u / 2 < 1 ∨ size - acc.length < u / 2
    · rw [if_pos h0]
    · rw [if_neg (by omega)] at h
      rw [if_neg h0]
      by_cases hev : u % 2 = 0
      · rw [if_pos hev] at h
        rw [if_neg (by omega)]
        split at h
        · rw [if_neg (by omega)]
        · simp at h
      · rw [if_neg hev] at h
        rw [if_pos (by omega)]
        cases hg2 : M.getAt s.data.toList nx with
        | none => rfl
        | some q =>
          obtain ⟨p, n2⟩ := q
          rw [hg2] at h
          simp only at h ⊢
          split at h
          · rw [if_pos (by assumption)]
          · simp at h

theorem step_some {s : ByteArray} {a a' size : Nat} {acc : List Nat} {st : M.St} (h : M.stepOf s a = some (st, a')) (hs : size ≤ 4096) :
    (size - acc.length < st.size → M.stepAt s.data.toList size a acc = none) ∧
    (¬ size - acc.length < st.size → M.stepAt s.data.toList size a acc = some (acc ++ st.acc, a') ∧ st.Good) ∧ a < a' ∧ a' ≤ s.size ∧ st.size < 72057594037927936 ∧ st.place < 72057594037927936 := by
  unfold M.stepOf at h
  unfold M.stepAt
  cases hg : M.getAt s.data.toList a with
  | none => rw [hg] at h; simp at h
  | some p =>
    obtain ⟨u, nx⟩ := p
    have hb := M.getAt_bound hg
    have hl : s.data.toList.length = s.size := by simp
    rw [hg] at h
    simp only at h ⊢
    by_cases h0 : u / 2 = 0
    · rw [if_pos h0] at h; simp at h
    · rw [if_neg h0] at h
      by_cases hev : u % 2 = 0
      · rw [if_pos hev] at h
        split at h
        · simp at h
        · rename_i hlong
          simp only [Option.some.injEq, Prod.mk.injEq] at h
          obtain ⟨rfl, rfl⟩ := h
          have hsz : (s.extract nx (nx + u / 2)).size = u / 2 := by simp; omega
          refine ⟨fun hx => by rw [if_pos (by simp only at hx; omega)], fun hx => ?_, by omega, by omega, by simp only; omega, by simp only; omega⟩
          simp only at hx
          refine ⟨?_, Or.inr ⟨by simp only; omega, by simp only; omega, rfl, by simp only; omega⟩⟩
          rw [if_neg (by omega), if_neg (by omega), if_pos (by omega)]
          simp only [Option.some.injEq, Prod.mk.injEq, and_true]
          unfold M.St.acc M.putB
          rw [if_neg (by simp only; omega)]
          simp [ByteArray.data_extract]
      · rw [if_neg hev] at h
        cases hg2 : M.getAt s.data.toList nx with
        | none => rw [hg2] at h; simp at h
        | some q =>
          obtain ⟨p, n2⟩ := q
          have hb2 := M.getAt_bound hg2
          rw [hg2] at h
          simp only at h
          split at h
          · simp at h
          · simp only [Option.some.injEq, Prod.mk.injEq] at h
            obtain ⟨rfl, rfl⟩ := h
            refine ⟨fun hx => by rw [if_pos (by simp only at hx; omega)], fun hx => ?_, by omega, by omega, by simp only; omega, by simp only; omega⟩
            simp only at hx
            refine ⟨?_, Or.inl ⟨rfl, by simp only; omega, by simp only; omega, by simp only; omega⟩⟩
            rw [if_neg (by omega), if_pos (by omega)]
            simp only
            rw [if_neg (by omega)]
            simp only [Option.some.injEq, Prod.mk.injEq, and_true]
            unfold M.St.acc
            rw [if_pos (by rfl)]
end Go.Proofs.Ytekdenkllipehaa
