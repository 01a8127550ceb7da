import Derived.Test.YtcacednpgpkejaaSameEnd
import Derived.Deep.MidRow
namespace Go.Proofs.Ytcacednpgpkejaa
open Go.RowKit

set_option maxRecDepth 1000000 in
theorem infoWords : (Try.prog.info? 125).map (fun i => (i.zero, i.size)) = some (some (.agg (Value.string ⟨#[]⟩ :: (List.replicate 4096 (Value.int .i64 0) ++ [Value.slice none 0 0])).toArray), 4098) := by kernel_rfl

theorem words_zero : ∃ (i : TypeInfo) (z : Array Value), Try.prog.info? 125 = some i ∧ i.zero = some (.agg z) ∧ i.size = 4098 ∧ z.size = 4098 ∧ ∀ j, j < 4096 → z[1 + j]? = some (.int .i64 0) := by
  have h := infoWords
  cases hi : Try.prog.info? 125 with
  | none => rw [hi, Option.map_none] at h; cases h
  | some i =>
    rw [hi] at h
    simp only [Option.map_some, Option.some.injEq, Prod.mk.injEq] at h
    refine ⟨i, _, rfl, h.1, h.2, ?_, fun j hj => ?_⟩
    · rw [List.size_toArray, List.length_cons, List.length_append, List.length_replicate]; rfl
    · rw [List.getElem?_toArray, Nat.add_comm, List.getElem?_cons_succ, List.getElem?_append_left (by rw [List.length_replicate]; exact hj), List.getElem?_replicate, if_pos hj]

theorem words_made : ∃ z : Array Value, z.size = 4098 ∧ z ≠ #[] ∧ (∀ W : World, (zeroValue 125).run Try.prog W = .ok (.agg z) W) ∧
    ∀ (b : ByteArray) (v : Value), ((z.setIfInBounds 0 (.string b)).setIfInBounds 4097 v)[0]? = some (.string b) ∧ (∀ i, i < 4096 → ((z.setIfInBounds 0 (.string b)).setIfInBounds 4097 v)[1 + i]? = some (.int .i64 0)) ∧ ((z.setIfInBounds 0 (.string b)).setIfInBounds 4097 v)[4097]? = some v := by
  obtain ⟨i, z, hi, hz, hs, hzs, hzc⟩ := words_zero
  refine ⟨z, hzs, fun e => by rw [e] at hzs; simp at hzs, fun W => by simp [zeroValue, typeInfo, hi, hz], fun b v => ⟨?_, fun j hj => ?_, ?_⟩⟩
  · simp [hzs]
  · rw [Array.getElem?_setIfInBounds, if_neg (by omega), Array.getElem?_setIfInBounds, if_neg (by omega)]; exact hzc j hj
  · simp [hzs]

/-- What index lays: the text, for each slot the first place (one higher) of its words, for each place the next. -/
structure Words (w : World) (X N : Nat) (b : ByteArray) (f g : Nat → Nat) : Prop where
  c0 : w.cell? ⟨X, 0, none⟩ = some (.string b)
  cf : ∀ i, i < 4096 → w.cell? ⟨X, 1 + i, none⟩ = some (.int .i64 (f i : Int))
  cn : w.cell? ⟨X, 4097, none⟩ = some (.slice (some ⟨N, 0, none⟩) b.size b.size)
  cg : ∀ j, j < b.size → w.cell? ⟨N, j, none⟩ = some (.int .i64 (g j : Int))
  bf : ∀ i, f i ≤ b.size
  bg : ∀ j, g j ≤ b.size

theorem Words.kept {w w' : World} {X N : Nat} {b : ByteArray} {f g : Nat → Nat} (h : Words w X N b f g) (q : Q w w') : Words w' X N b f g :=
  ⟨kept_cell h.c0 q, fun i hi => kept_cell (h.cf i hi) q, kept_cell h.cn q, fun j hj => kept_cell (h.cg j hj) q, h.bf, h.bg⟩

/-- .. while it is laid: the two blocks may be written. -/
structure Laying (w0 w : World) (X N : Nat) (b : ByteArray) (f g : Nat → Nat) : Prop where
  words : Words w X N b f g
  below : Below w0.heap.size w0 w
  xn : w0.heap.size ≤ N ∧ N < X
  fx : ∀ j, w.frozen? ⟨X, j, none⟩ = false
  fn : ∀ j, w.frozen? ⟨N, j, none⟩ = false

theorem cell_lt {w : World} {p : Addr} {v : Value} (h : w.cell? p = some v) : p.block < w.heap.size := by
  rcases Nat.lt_or_ge p.block w.heap.size with hl | hl
  · exact hl
  · unfold World.cell? at h
    rw [Array.getElem?_eq_none hl] at h
    simp at h

theorem Laying.kept {w0 w w' : World} {X N : Nat} {b : ByteArray} {f g : Nat → Nat} (h : Laying w0 w X N b f g) (q : Q w w') : Laying w0 w' X N b f g := by
  have hx : X < w.heap.size := cell_lt h.words.c0
  have hn : N < w.heap.size := by have := h.xn.2; omega
  exact ⟨h.words.kept q, h.below.trans (q.below.mono h.below.size), h.xn, fun j => (q.below.frozen (p := ⟨X, j, none⟩) hx).trans (h.fx j), fun j => (q.below.frozen (p := ⟨N, j, none⟩) hn).trans (h.fn j)⟩

theorem Laying.setNext {w0 w : World} {X N : Nat} {b : ByteArray} {f g : Nat → Nat} (h : Laying w0 w X N b f g) (p v : Nat) (hp : p < b.size) (hv : v ≤ b.size) : Laying w0 (w.setCell ⟨N, p, none⟩ (.int .i64 (v : Int))) X N b f (fun j => if j = p then v else g j) := by
  have hne := h.xn.2
  have ox : ∀ j, (w.setCell ⟨N, p, none⟩ (.int .i64 (v : Int))).cell? ⟨X, j, none⟩ = w.cell? ⟨X, j, none⟩ := fun j => World.cell?_setCell_other _ _ _ _ (by intro e; injection e; omega)
  refine ⟨⟨(ox 0).trans h.words.c0, fun i hi => (ox _).trans (h.words.cf i hi), (ox _).trans h.words.cn, fun j hj => ?_, h.words.bf, fun j => ?_⟩, h.below.setCell h.xn.1 _, h.xn, fun j => by rw [World.frozen?_setCell]; exact h.fx j, fun j => by rw [World.frozen?_setCell]; exact h.fn j⟩
  · by_cases e : j = p
    · subst e; rw [World.cell?_setCell_same _ _ _ (h.words.cg j hj)]; simp
    · rw [World.cell?_setCell_other _ _ _ _ (by intro e2; injection e2; omega), h.words.cg j hj]; simp [e]
  · show (if j = p then v else g j) ≤ b.size; split
    · exact hv
    · exact h.words.bg j

theorem Laying.setFirst {w0 w : World} {X N : Nat} {b : ByteArray} {f g : Nat → Nat} (h : Laying w0 w X N b f g) (i v : Nat) (hi : i < 4096) (hv : v ≤ b.size) : Laying w0 (w.setCell ⟨X, 1 + i, none⟩ (.int .i64 (v : Int))) X N b (fun j => if j = i then v else f j) g := by
  have hne := h.xn.2
  have on : ∀ j, (w.setCell ⟨X, 1 + i, none⟩ (.int .i64 (v : Int))).cell? ⟨N, j, none⟩ = w.cell? ⟨N, j, none⟩ := fun j => World.cell?_setCell_other _ _ _ _ (by intro e; injection e; omega)
  have ox : ∀ j, j ≠ 1 + i → (w.setCell ⟨X, 1 + i, none⟩ (.int .i64 (v : Int))).cell? ⟨X, j, none⟩ = w.cell? ⟨X, j, none⟩ := fun j hj => World.cell?_setCell_other _ _ _ _ (by intro e; injection e; omega)
  refine ⟨⟨(ox 0 (by omega)).trans h.words.c0, fun j hj => ?_, (ox _ (by omega)).trans h.words.cn, fun j hj => (on j).trans (h.words.cg j hj), fun j => ?_, h.words.bg⟩, h.below.setCell (by have := h.xn.1; show w0.heap.size ≤ X; omega) _, h.xn, fun j => by rw [World.frozen?_setCell]; exact h.fx j, fun j => by rw [World.frozen?_setCell]; exact h.fn j⟩
  · by_cases e : j = i
    · subst e; rw [World.cell?_setCell_same _ _ _ (h.words.cf j hj)]; simp
    · rw [ox _ (by omega), h.words.cf j hj]; simp [e]
  · show (if j = i then v else f j) ≤ b.size; split
    · exact hv
    · exact h.words.bf j
end Go.Proofs.Ytcacednpgpkejaa
