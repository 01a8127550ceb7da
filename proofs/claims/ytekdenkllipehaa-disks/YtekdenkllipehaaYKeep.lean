import Derived.Laws.OwnMore
import Derived.Laws.CopyRow
import Derived.Laws.Cells
import Derived.WalkKit
import Derived.Test.YtekdenkllipehaaYCrash
/-
  An append keeps what it is put to.
-/
namespace Go.Proofs.Ytekdenkllipehaa
open Go.RowKit

/-- Below a row's length an append changes no cell. -/
theorem append_stays {P : Program} {w : World} {base : Nat} {t ty e : TypeId} {i : TypeInfo} {z : Value} {size bytes : Nat} (ht : P.underlying t = some (.slice e)) (hi : P.info? e = some i) (hz : i.zero = some z)
    (hsize : i.size = size) (hby : i.bytes = bytes) (hzs : z.cells.size = size) (hsz : 0 < size)
    {v : Value} {n : Nat} {xs : List Value} (hown : w.ownsRow base e size v n xs)
    {a : Addr} {m c : Nat} {news : List Value} (hl : news.length = m * size) (hnews : ∀ j u, news[j]? = some u → w.cell? (a.add j) = some u) (h1 : ∀ u ∈ news, u.oneCell' = true)
    (hm : 0 < m) (h63 : n + m ≤ maxLen) (hbytes : (n + m) * bytes ≤ 140737488355328) {v' : Value} {w' : World}
    (hrun : (Builtin.append_ #[t, t] ty #[v, .slice (some a) m c]).run P w = .ok v' w') :
    ∀ k j, k < w.heap.size → (v.ownBlock = some k → j < n * size) → w'.cell? ⟨k, j, none⟩ = w.cell? ⟨k, j, none⟩ := by
  intro k j hk hj
  subst hsize
  subst hby
  have hsmall : n + m ≤ 9223372036854775807 := by simp only [maxLen] at h63; omega
  rcases hown.2 with ⟨rfl, rfl⟩ | ⟨g, cap, cur, rfl, hbg, hg, hnc, hcm, hcs, htake⟩
  · have hx : xs = [] := List.eq_nil_of_length_eq_zero (by simpa using hown.1)
    subst hx
    have hr := run_append_nil (P := P) w t ty e i z ht hi hz a m c news hl hnews (by omega) (by omega) (by have hb := hbytes; simp only [Nat.zero_add] at hb; omega)
    rw [hr] at hrun
    injection hrun with _ hw
    subst hw
    exact World.cell?_of_block (heap_alloc_old w.drew _ hk)
  · by_cases hroom : n + m ≤ cap
    · have hfit : n * i.size + news.length ≤ cur.size := by rw [hl, hcs, ← Nat.add_mul]; exact Nat.mul_le_mul_right _ hroom
      have hr := run_append_room (P := P) w t ty e i ht hi g n cap cur hg a m c news hl hnews h1 hroom hfit
      rw [hr] at hrun
      injection hrun with _ hw
      subst hw
      by_cases hkg : k = g
      · subst hkg
        have hjn := hj rfl
        rw [cell_of_row _ k j _ e (0, 0) (setRow_heap w k cur _ e _ hg), cell_of_row w k j cur e (0, 0) hg]
        have hjc : j < cur.size := by omega
        rw [List.getElem?_toArray, List.append_assoc, List.getElem?_append_left (by simp; omega), List.getElem?_take_of_lt hjn]
        simp
      · exact World.cell?_of_block (setRow_other w g k _ hkg)
    · have holds : ∀ j u, xs[j]? = some u → w.cell? ((⟨g, 0, none⟩ : Addr).add j) = some u := hown.cells (g := g) rfl
      have hr := run_append_grow (P := P) w t ty e i z ht hi hz ⟨g, 0, none⟩ n cap xs hown.1 holds a m c news hl hnews (by omega) (by omega) (growslice_fits (by omega) hbytes)
      rw [hr] at hrun
      injection hrun with _ hw
      subst hw
      exact World.cell?_of_block (heap_alloc_old w.drew _ hk)

end Go.Proofs.Ytekdenkllipehaa

/-
  The statement's yard: a list that came out is written full by its owner, and kept.
-/
namespace Go.Proofs.Ytekdenkllipehaa
open Go.RowKit

/-- One mark more behind a row of marks. -/
theorem mark_append (w0 w : World) (hB : Below w0.heap.size w0 w) (ao : Option Addr) (n cap : Nat) (m : ByteArray) (hn : n ≤ 90) (hown : w.ownsRow w0.heap.size 9 1 (.slice ao n cap) n (List.replicate n (.string m))) :
    ∃ ao' cap' w', (Builtin.append_ #[69, 69] 69 #[.slice ao n cap, .slice (some ⟨w.heap.size, 0, none⟩) 1 1]).run Try.prog (w.alloc (.cells #[.string m] 9)) = .ok (.slice ao' (n + 1) cap') w' ∧
      w'.ownsRow w0.heap.size 9 1 (.slice ao' (n + 1) cap') (n + 1) (List.replicate (n + 1) (.string m)) ∧ Below w0.heap.size w0 w' ∧ w.heap.size ≤ w'.heap.size ∧ ∀ g j, g < w.heap.size → ((Value.slice ao n cap).ownBlock = some g → j < n) → w'.cell? ⟨g, j, none⟩ = w.cell? ⟨g, j, none⟩ := by
  obtain ⟨i0, hi, hz0, hz1, hz2⟩ := info_parts infoName
  have hs := hB.size
  have h1c : ∀ u ∈ [Value.string m], u.oneCell' = true := by intro u hu; simp at hu; subst hu; rfl
  obtain ⟨v', w', hrun, r1, r2, _⟩ := run_append_own (P := Try.prog) (w.alloc (.cells #[.string m] 9)) w0.heap.size 69 69 9 i0 (.string ⟨#[]⟩) 1 16 Try.underlying69 hi hz0 hz1 hz2 rfl (by decide) (.slice ao n cap) n _ (hown.alloc _) ⟨w.heap.size, 0, none⟩ 1 1 [.string m] rfl (one_cell w (.string m) 9) h1c (by simp [maxLen]; omega) (by omega) (by simp; omega)
  have hk := append_stays (ty := 69) Try.underlying69 hi hz0 hz1 hz2 rfl (by decide) (hown.alloc (.cells #[.string m] 9)) (m := 1) (c := 1) rfl (one_cell w (.string m) 9) h1c (by decide) (by simp [maxLen]; omega) (by omega) hrun
  obtain ⟨ao', cap', rfl⟩ := own_form r1
  refine ⟨ao', cap', w', hrun, by rw [List.replicate_succ']; exact r1, (hB.alloc hs _).grown r2 (by simp; omega) (own_base hown), by have := r2.size; simp at this; omega, fun g j hg hj => ?_⟩
  rw [hk g j (by simp; omega) (fun e => by have := hj e; omega)]
  exact (((Below.refl _ w).alloc (Nat.le_refl _) _).cell (p := ⟨g, j, none⟩) hg)

/-- The yard behind a list that was kept. -/
def YardKept (tg : Tags) (yb : Nat) (Ds : List M.Dsk) (pl : List Nat) (L : List Value) (w0 w' : World) : Prop :=
  ∃ (tg' : Tags) (v1 v2 v3 : Value), (∀ k, k < w0.heap.size → tg' k = tg k) ∧ YardAt w' tg' yb Ds pl (L ++ [v1, v2, v3]) ∧ w'.os = w0.os ∧ w'.tape = w0.tape ∧ w'.output = w0.output ∧ w0.heap.size ≤ w'.heap.size ∧ ∀ k, k < w0.heap.size → tg k ≠ (0, 0) → tg k ≠ (0, 2) → w'.heap[k]? = w0.heap[k]?

theorem infoList : (Try.prog.info? 69).map (fun i => (i.zero, i.size, i.bytes)) = some (some (.slice none 0 0), 1, 24) := by kernel_rfl

/-- Marks in memory, at or above a place. -/
def Marked (base : Nat) (m : ByteArray) (v : Value) (w : World) : Prop := ∃ ao n cap, v = .slice ao n cap ∧ n ≤ 100 ∧ ((ao = none ∧ n = 0) ∨ ∃ g, ao = some ⟨g, 0, none⟩ ∧ base ≤ g ∧ g < w.heap.size ∧ ∀ k, k < n → w.cell? ⟨g, k, none⟩ = some (.string m))

theorem marked_own {base : Nat} {m : ByteArray} {w : World} {ao : Option Addr} {n cap : Nat} (hn : n ≤ 100) (h : w.ownsRow base 9 1 (.slice ao n cap) n (List.replicate n (.string m))) : Marked base m (.slice ao n cap) w := by
  refine ⟨ao, n, cap, rfl, hn, ?_⟩
  rcases h.2 with ⟨hv, h0⟩ | ⟨g, c, cur, hv, hg, hh, _⟩
  · injection hv with e1
    exact Or.inl ⟨e1, h0⟩
  · injection hv with e1
    subst e1
    refine Or.inr ⟨g, rfl, hg, (Array.getElem?_eq_some_iff.1 hh).1, fun k hk => ?_⟩
    rw [h.cellAt k (by omega)]
    simp [hk]

theorem Marked.keep {base : Nat} {m : ByteArray} {v : Value} {w w' : World} (h : Marked base m v w) (hs : w.heap.size ≤ w'.heap.size) (hc : ∀ ao n cap, v = .slice ao n cap → ∀ g k, ao = some ⟨g, 0, none⟩ → k < n → base ≤ g → g < w.heap.size → w'.cell? ⟨g, k, none⟩ = w.cell? ⟨g, k, none⟩) : Marked base m v w' := by
  obtain ⟨ao, n, cap, rfl, hn, h1 | ⟨g, rfl, hb, hg, hk⟩⟩ := h
  · exact ⟨ao, n, cap, rfl, hn, Or.inl h1⟩
  · exact ⟨_, n, cap, rfl, hn, Or.inr ⟨g, rfl, hb, Nat.lt_of_lt_of_le hg hs, fun k hkn => (hc _ n cap rfl g k rfl hkn hb hg).trans (hk k hkn)⟩⟩

/-- Three lists more. -/
theorem yard_kept {tg : Tags} {yb : Nat} {Ds : List M.Dsk} {pl : List Nat} {L : List Value} {w0 wL w4 : World} (h : YardAt w0 tg yb Ds pl L) (hB : Below w0.heap.size w0 wL) {ao : Option Addr} {cap : Nat} (hc1 : w0.cell? ⟨yb, 1, none⟩ = some (.slice ao L.length cap)) (htag : ∀ g, (Value.slice ao L.length cap).ownBlock = some g → tg g = (0, 2))
    {v1 v2 v3 : Value} {q : Nat} (hL : L.length = 3 * q) (m1 : Marked w0.heap.size (markOf q) v1 wL) (m2 : Marked w0.heap.size (markOf q) v2 wL) (m3 : Marked w0.heap.size (markOf q) v3 wL) {ob : Obj} {ao' : Option Addr} {cap' : Nat}
    (hg : (wL.alloc ob).grownBy w4 (Value.slice ao L.length cap).ownBlock) (ho : w4.ownsRow 0 69 1 (.slice ao' (L.length + 3) cap') (L.length + 3) (L ++ [v1, v2, v3]))
    (hw : (Value.slice ao' (L.length + 3) cap').ownBlock = (Value.slice ao L.length cap).ownBlock ∨ (Value.slice ao' (L.length + 3) cap').ownBlock = some (wL.alloc ob).heap.size) :
    YardKept tg yb Ds pl L w0 (w4.setCell ⟨yb, 1, none⟩ (.slice ao' (L.length + 3) cap')) ∧ w4.cell? ⟨yb, 1, none⟩ = some (.slice ao L.length cap) ∧ w4.frozen? ⟨yb, 1, none⟩ = false := by
  have hs1 := hB.size
  have hs2 : wL.heap.size ≤ w4.heap.size := by have := hg.size; simp at this; omega
  have hyt := h.top
  have hrowlt : ∀ g, (Value.slice ao L.length cap).ownBlock = some g → g < w0.heap.size := fun g e => by
    obtain ⟨a2, c2, s1, s2, s3⟩ := h.lists
    rw [hc1] at s1
    injection s1 with s1
    rw [s1] at e
    exact (s2.lt g e).2
  have hb4 : ∀ k, k < wL.heap.size → (Value.slice ao L.length cap).ownBlock ≠ some k → w4.heap[k]? = wL.heap[k]? := fun k hk hn => (hg.block k (by simp; omega) (fun e => hn e.symm)).trans (((Below.refl _ wL).alloc (Nat.le_refl _) ob).block k hk)
  have hyb4 : w4.heap[yb]? = w0.heap[yb]? := (hb4 yb (by omega) (fun e => tag_ne (htag yb e) (by decide) h.td)).trans (hB.block yb hyt)
  have hset : ∀ k, k ≠ yb → (w4.setCell ⟨yb, 1, none⟩ (.slice ao' (L.length + 3) cap')).heap[k]? = w4.heap[k]? := fun k hk => heap_setCell_other w4 ⟨yb, 1, none⟩ k _ hk
  have hold : ∀ k, k < w0.heap.size → tg k ≠ (0, 0) → tg k ≠ (0, 2) → (w4.setCell ⟨yb, 1, none⟩ (.slice ao' (L.length + 3) cap')).heap[k]? = w0.heap[k]? := fun k hk h0 h2 => by
    rw [hset k (fun e => h0 (by rw [e]; exact h.td)), hb4 k (by omega) (fun e => h2 (htag k e))]
    exact hB.block k hk
  obtain ⟨tg', htg'⟩ : ∃ tg' : Tags, tg' = (tg.more w0.heap.size 0 4).more wL.heap.size 0 2 := ⟨_, rfl⟩
  have ht0 : ∀ k, k < w0.heap.size → tg' k = tg k := fun k hk => by rw [htg', Tags.more_old (by omega), Tags.more_old hk]
  have ht4 : ∀ k, w0.heap.size ≤ k → k < wL.heap.size → tg' k = (0, 4) := fun k h1 h2 => by rw [htg', Tags.more_old h2, Tags.more_new h1]
  have ht2 : ∀ k, wL.heap.size ≤ k → tg' k = (0, 2) := fun k h1 => by rw [htg', Tags.more_new h1]
  have htag' : ∀ g, (Value.slice ao' (L.length + 3) cap').ownBlock = some g → tg' g = (0, 2) := fun g e => by
    rcases hw with e1 | e1
    · rw [e1] at e
      exact (ht0 g (hrowlt g e)).trans (htag g e)
    · rw [e1] at e
      injection e with e
      exact ht2 g (by rw [← e]; simp)
  have mk : ∀ v, Marked w0.heap.size (markOf q) v wL → MarkRow (w4.setCell ⟨yb, 1, none⟩ (.slice ao' (L.length + 3) cap')) tg' (markOf q) v := fun v hm => by
    obtain ⟨a, n, c, rfl, hn, h1 | ⟨g, rfl, hb, hgl, hk⟩⟩ := hm
    · exact ⟨a, n, c, rfl, hn, Or.inl h1⟩
    · refine ⟨_, n, c, rfl, hn, Or.inr ⟨g, rfl, by simp; omega, ht4 g hb hgl, fun k hkn => ?_⟩⟩
      exact (World.cell?_of_block (a := ⟨g, k, none⟩) ((hset g (by omega)).trans (hb4 g hgl (fun e => by have := hrowlt g e; omega)))).trans (hk k hkn)
  have hlen3 : (L ++ [v1, v2, v3]).length = L.length + 3 := by simp
  obtain ⟨b1, c1, r1, r2, r3⟩ := h.plates
  refine ⟨⟨tg', v1, v2, v3, ht0, ⟨by simp; omega, (ht0 yb hyt).trans h.td, fun j => by rw [World.frozen?_setCell]; exact (World.frozen?_of_block (a := ⟨yb, j, none⟩) hyb4).trans (h.fr j), ⟨b1, c1, ?_, ?_, fun g hg => (ht0 g (r2.lt g hg).2).trans (r3 g hg)⟩, ⟨ao', cap', ?_, ?_, ?_⟩, h.len, fun i pb D e1 e2 => ?_, fun i v e => ?_⟩, ?_, ?_, ?_, ?_, hold⟩, (World.cell?_of_block (a := ⟨yb, 1, none⟩) hyb4).trans hc1, (World.frozen?_of_block (a := ⟨yb, 1, none⟩) hyb4).trans (h.fr 1)⟩
  · rw [World.cell?_setCell_other _ _ _ _ (by simp)]
    exact (World.cell?_of_block (a := ⟨yb, 0, none⟩) hyb4).trans r1
  · exact row_keep r2 (fun g hg => hold g (r2.lt g hg).2 (tag_ne (r3 g hg) (by decide)) (tag_ne (r3 g hg) (by decide)))
  · rw [hlen3]
    exact World.cell?_setCell_same _ _ _ ((World.cell?_of_block (a := ⟨yb, 1, none⟩) hyb4).trans hc1)
  · rw [hlen3]
    exact row_keep ho (fun g hg => hset g (fun e => by have h1 := htag' g hg; rw [e, ht0 yb hyt] at h1; exact tag_ne h1 (by decide) h.td))
  · rw [hlen3]
    exact htag'
  · refine (h.plate i pb D e1 e2).keep (by simp; omega) ht0 (fun k hk e => ?_)
    rcases e with e | e | e
    · exact hold k hk (tag_ne e (by decide)) (tag_ne e (by decide))
    · exact hold k hk (fun e9 => by rw [e9] at e; simp at e) (fun e9 => by rw [e9] at e; simp at e)
    · exact hold k hk (fun e9 => by rw [e9] at e; simp at e) (fun e9 => by rw [e9] at e; simp at e)
  · by_cases hi : i < L.length
    · rw [List.getElem?_append_left hi] at e
      exact (h.list i v e).keep (by simp; omega) ht0 (fun k hk e4 => hold k hk (tag_ne e4 (by decide)) (tag_ne e4 (by decide)))
    · have hi3 : i / 3 = q := by
        have := (List.getElem?_eq_some_iff.1 e).1
        rw [hlen3] at this
        omega
      rw [hi3]
      rw [List.getElem?_append_right (by omega)] at e
      have hv : v = v1 ∨ v = v2 ∨ v = v3 := by
        have := List.mem_of_getElem? e
        simpa using this
      rcases hv with rfl | rfl | rfl
      · exact mk _ m1
      · exact mk _ m2
      · exact mk _ m3
  · exact hg.os.trans hB.os
  · exact hg.tape.trans hB.tape
  · exact hg.output.trans hB.output
  · simp; omega
end Go.Proofs.Ytekdenkllipehaa
