/-
  A list of records that came in.
-/
import Derived.Test.YtekdenkllipehaaDoorFitAll
import Derived.Test.YtekdenkllipehaaDoorRecMem
import Derived.Test.YtekdenkllipehaaDoorParseM
import Derived.Deep.Slices
import Derived.SizedLaws
namespace Go.Proofs.YtekdenkllipehaaDoor
open Go.RowKit Go.Deep Go.ChangeShapes Go.WideShapes

/-- A record as a datum. -/
def Rec.dat {H : Type} (r : Rec) : DataW H := .agg [.lit (.string r.key.data.toList), .lit (.int .i64 r.stamp), .lit (.int .i64 r.kind), .lit (.string r.body.data.toList)]

theorem cellsRec : Tryd.prog.cellsOf 30 = 4 := by kernel_rfl
theorem cellsStr : Tryd.prog.cellsOf 9 = 1 := by kernel_rfl
theorem cellsInt : Tryd.prog.cellsOf 3 = 1 := by kernel_rfl
theorem bytesRec : Tryd.prog.bytesOf 30 = 48 := by kernel_rfl

theorem open_recs {H : Type} {enc : TypeId × Value → H} {W : World} {ao : Option Addr} {len cap : Nat} {d : DataW H} {ps : List MemPlace} (h : DataW.Trod enc Tryd.prog W 0 (fun _ => true) true 28 (.slice ao len cap) d ps) :
    ∃ rs : List Rec, len = rs.length ∧ ((rs = [] ∧ d = .nil) ∨ ∃ sp, d = .slice (rs.map Rec.dat) sp) ∧ Rcs W ao rs ∧ ∀ r ∈ rs, (Lit.int .i64 r.stamp).wf = true ∧ (Lit.int .i64 r.kind).wf = true := by
  obtain ⟨fuel, hf⟩ := h
  rcases open_slice Tryd.underlying28 hf with ⟨hcs, hx⟩ | ⟨a, len', cap', m, n, D, Pl, hcs, hb, hl, hm, hmm, hx, hall⟩
  · simp [Value.cells] at hcs
    obtain ⟨rfl, rfl, rfl⟩ := hcs
    simp only [Prod.mk.injEq] at hx
    exact ⟨[], rfl, Or.inl ⟨rfl, hx.1⟩, Or.inl rfl, fun r hr => by simp at hr⟩
  · simp [Value.cells] at hcs
    obtain ⟨rfl, rfl, rfl⟩ := hcs
    simp only [Prod.mk.injEq] at hx
    have hlm : len ≤ m := by rw [hmm]; simp; omega
    have each : ∀ i, i < len → ∃ r : Rec, D i = r.dat ∧ W.cell? (a.add (i * 4)) = some (.string r.key) ∧ W.cell? (a.add (i * 4 + 1)) = some (.int .i64 r.stamp) ∧ W.cell? (a.add (i * 4 + 2)) = some (.int .i64 r.kind) ∧ W.cell? (a.add (i * 4 + 3)) = some (.string r.body) ∧ (Lit.int .i64 r.stamp).wf = true ∧ (Lit.int .i64 r.kind).wf = true := by
      intro i hi
      obtain ⟨cs', h1, h2⟩ := hall i (by omega)
      rw [cellsRec] at h1
      obtain ⟨_, hlen, hcell⟩ := World.cells?_some h1
      obtain ⟨xs, k, hk, hxy, _, hxl, hf⟩ := DataW.trod_struct Tryd.underlying30 h2
      match xs, hxl, cs', hlen with
      | [y0, y1, y2, y3], _, [v0, v1, v2, v3], _ =>
        have g0 := hf 0 _ rfl
        have g1 := hf 1 _ rfl
        have g2 := hf 2 _ rfl
        have g3 := hf 3 _ rfl
        simp [cellsStr, cellsInt] at g0 g1 g2 g3
        obtain ⟨s0, e0, x0, _⟩ := DataW.trod_string Tryd.underlying9 g0
        obtain ⟨z1, e1, x1, w1⟩ := DataW.trod_int Tryd.underlying3 g1
        obtain ⟨z2, e2, x2, w2⟩ := DataW.trod_int Tryd.underlying3 g2
        obtain ⟨s3, e3, x3, _⟩ := DataW.trod_string Tryd.underlying9 g3
        simp only [List.cons.injEq, and_true] at e0 e1 e2 e3
        subst e0 e1 e2 e3 x0 x1 x2 x3
        have c0 := hcell 0 (by omega)
        have c1 := hcell 1 (by omega)
        have c2 := hcell 2 (by omega)
        have c3 := hcell 3 (by omega)
        rw [add_add] at c0 c1 c2 c3
        simp only [Prod.mk.injEq] at hxy
        refine ⟨⟨s0, z1, z2, s3⟩, by simpa [Rec.dat] using hxy.1, by simpa using c0, by simpa using c1, by simpa using c2, by simpa using c3, w1, w2⟩
    haveI : Inhabited Rec := ⟨⟨⟨#[]⟩, 0, 0, ⟨#[]⟩⟩⟩
    obtain ⟨q, hq⟩ := choose_lt each
    refine ⟨(List.range len).map q, by simp, Or.inr ⟨(List.range (m - len)).map fun j => D (len + j), ?_⟩, ?_, ?_⟩
    · rw [hx.1, List.map_map]
      congr 1
      exact List.map_congr_left fun i hi => (hq i (List.mem_range.1 hi)).1
    · by_cases h0 : len = 0
      · subst h0; exact Or.inl (by simp)
      · right
        obtain ⟨b, off, spot⟩ := a
        have hspot : spot = none := by simpa [Addr.add] using World.cell?_spot (hq 0 (by omega)).2.1
        subst hspot
        have hblk := cell_lt4 (hq 0 (by omega)).2.1
        refine ⟨b, off, rfl, by simpa [Addr.add] using hblk, fun i r hi => ?_⟩
        have hil : i < len := by have := (List.getElem?_eq_some_iff.1 hi).1; simpa using this
        have hr : r = q i := by
          rw [List.getElem?_map, List.getElem?_range hil] at hi
          simpa using hi.symm
        subst hr
        obtain ⟨_, k0, k1, k2, k3, _⟩ := hq i hil
        rw [add_plain] at k0 k1 k2 k3
        exact ⟨k0, by rw [← Nat.add_assoc] at k1; exact k1, by rw [← Nat.add_assoc] at k2; exact k2, by rw [← Nat.add_assoc] at k3; exact k3⟩
    · intro r hr
      obtain ⟨i, hi, rfl⟩ := List.mem_map.1 hr
      exact (hq i (List.mem_range.1 hi)).2.2.2.2.2

theorem weightsAll_mem {H : Type} {P : Program} {e : TypeId} : ∀ {l : List (DataW H)} {d : DataW H} {n : Nat}, d ∈ l → n ∈ DataW.weights P e d → n ∈ DataW.weightsAll P e l
  | [], _, _, h, _ => by simp at h
  | x :: l, d, n, h, hn => by
    simp only [DataW.weightsAll, List.mem_append]
    rcases List.mem_cons.1 h with rfl | h
    · exact Or.inl hn
    · exact Or.inr (weightsAll_mem h hn)

theorem dat_weights {H : Type} (r : Rec) : r.key.size ∈ DataW.weights Tryd.prog 30 (r.dat : DataW H) ∧ r.body.size ∈ DataW.weights Tryd.prog 30 (r.dat : DataW H) := by
  simp [Rec.dat, DataW.weights, DataW.weightsEach, Tryd.underlying30]
end Go.Proofs.YtekdenkllipehaaDoor
