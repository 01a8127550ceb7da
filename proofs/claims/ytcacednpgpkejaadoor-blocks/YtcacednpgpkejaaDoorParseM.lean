/-
  The reference's Parse: its state in memory while a block is read.
-/
import Derived.Test.YtcacednpgpkejaaDoorRefScan
import Derived.Test.YtcacednpgpkejaaDoorScanM
import Derived.Test.YtcacednpgpkejaaDoorRecMem
namespace Go.Proofs.YtcacednpgpkejaaDoor
open Go.RowKit

/-- scan.number, whatever stands there. -/
theorem scanNum (s : ByteArray) (hs : s.size ≤ 140737488351232) (a C : Nat) (bad : Bool) (w : World) (hA : ScanAt w C s a bad) :
    Calls Tryd.prog 29 #[.pointer (some ⟨C, 0, none⟩)] w fun e w' => e = .returned (.int .i64 ((numAt s.data.toList a bad).1 : Int)) ∧ ScanAt w' C s (numAt s.data.toList a bad).2.1 (numAt s.data.toList a bad).2.2 ∧ w.grownBy w' (some C) := by
  unfold numAt
  cases h : M.getAt s.data.toList a with
  | none => exact number_none s hs a C bad h w hA
  | some p =>
    obtain ⟨v, nx⟩ := p
    exact number_some s hs a v nx C bad h w hA

/-- scan.text, whatever stands there. -/
theorem scanTxt (s : ByteArray) (hs : s.size ≤ 140737488351232) (a C n : Nat) (bad : Bool) (hn : n < 72057594037927936) (ha : a ≤ s.size) (w : World) (hA : ScanAt w C s a bad) :
    Calls Tryd.prog 30 #[.pointer (some ⟨C, 0, none⟩), .int .i64 (n : Int)] w fun e w' => e = .returned (.string ⟨(txtAt s.data.toList n a bad).1.toArray⟩) ∧ ScanAt w' C s (txtAt s.data.toList n a bad).2.1 (txtAt s.data.toList n a bad).2.2 ∧ w.grownBy w' (some C) := by
  have hl : s.data.toList.length = s.size := by simp
  unfold txtAt
  cases bad with
  | true =>
    rw [if_pos (Or.inl rfl)]
    exact text_bad s a C n w hA
  | false =>
    by_cases h : s.size - a < n
    · rw [if_pos (Or.inr (by omega))]
      exact text_long s hs a C n hn ha h w hA
    · rw [if_neg (by simp; omega)]
      have := text_good s hs a C n (by omega) w hA
      have e : s.extract a (a + n) = ⟨((s.data.toList.drop a).take n).toArray⟩ := by
        apply ByteArray.ext
        apply Array.toList_inj.1
        simp
      rw [e] at this
      exact this

/-- The place stays within the text. -/
theorem numAt_le {T : List UInt8} {a : Nat} {bad : Bool} (h : a ≤ T.length) : (numAt T a bad).2.1 ≤ T.length ∧ (numAt T a bad).1 < 72057594037927936 := by
  unfold numAt
  cases hg : M.getAt T a with
  | none => exact ⟨h, by simp⟩
  | some p =>
    obtain ⟨v, nx⟩ := p
    have := M.getAt_bound hg
    exact ⟨this.2.2.1, this.1⟩
theorem txtAt_le {T : List UInt8} {n a : Nat} {bad : Bool} (h : a ≤ T.length) : (txtAt T n a bad).2.1 ≤ T.length ∧ (txtAt T n a bad).1.length ≤ T.length := by
  unfold txtAt
  split
  · exact ⟨h, by simp⟩
  · rename_i hc
    refine ⟨?_, ?_⟩
    · simp only; omega
    · simp; omega

theorem numAt_ge {T : List UInt8} {a : Nat} {bad : Bool} : a ≤ (numAt T a bad).2.1 := by
  unfold numAt
  cases hg : M.getAt T a with
  | none => exact Nat.le_refl _
  | some p =>
    obtain ⟨v, nx⟩ := p
    have := M.getAt_bound hg
    show a ≤ nx
    omega
theorem txtAt_len {T : List UInt8} {n a : Nat} {bad : Bool} : (txtAt T n a bad).1.length + a ≤ (txtAt T n a bad).2.1 := by
  unfold txtAt
  split
  · simp
  · simp; omega

/-- A variable of four cells. -/
structure Var4 (w : World) (B : Nat) (x y z u : Value) : Prop where
  c0 : w.cell? ⟨B, 0, none⟩ = some x
  c1 : w.cell? ⟨B, 1, none⟩ = some y
  c2 : w.cell? ⟨B, 2, none⟩ = some z
  c3 : w.cell? ⟨B, 3, none⟩ = some u
  fr : ∀ j, w.frozen? ⟨B, j, none⟩ = false

theorem cell_lt4 {w : World} {p : Addr} {v : Value} (h : w.cell? p = some v) : p.block < w.heap.size := by
  rcases Nat.lt_or_ge p.block w.heap.size with hl | hl
  · exact hl
  · unfold World.cell? at h
    rw [Array.getElem?_eq_none hl] at h
    simp at h

theorem Var4.grown {w w' : World} {row : Option Nat} {B : Nat} {x y z u : Value} (h : Var4 w B x y z u) (hg : w.grownBy w' row) (hne : row ≠ some B) : Var4 w' B x y z u := by
  have hb : w'.heap[B]? = w.heap[B]? := hg.block B (cell_lt4 h.c0) (fun e => hne e.symm)
  exact ⟨(World.cell?_of_block (a := ⟨B, 0, none⟩) hb).trans h.c0, (World.cell?_of_block (a := ⟨B, 1, none⟩) hb).trans h.c1, (World.cell?_of_block (a := ⟨B, 2, none⟩) hb).trans h.c2, (World.cell?_of_block (a := ⟨B, 3, none⟩) hb).trans h.c3, fun j => (World.frozen?_of_block (a := ⟨B, j, none⟩) hb).trans (h.fr j)⟩

theorem var4_new (w : World) (x y z u : Value) (t : TypeId) : Var4 (w.alloc (.cells #[x, y, z, u] t)) w.heap.size x y z u := ⟨by simp, by simp, by simp, by simp, fun j => by simp⟩

theorem Var4.set {w : World} {B : Nat} {x y z u : Value} (h : Var4 w B x y z u) (a b c d : Value) : Var4 ((((w.setCell ⟨B, 0, none⟩ a).setCell ⟨B, 1, none⟩ b).setCell ⟨B, 2, none⟩ c).setCell ⟨B, 3, none⟩ d) B a b c d := by
  have k1 : (w.setCell ⟨B, 0, none⟩ a).cell? ⟨B, 1, none⟩ = some y := by rw [World.cell?_setCell_other _ _ _ _ (by simp)]; exact h.c1
  have k2 : ((w.setCell ⟨B, 0, none⟩ a).setCell ⟨B, 1, none⟩ b).cell? ⟨B, 2, none⟩ = some z := by rw [World.cell?_setCell_other _ _ _ _ (by simp), World.cell?_setCell_other _ _ _ _ (by simp)]; exact h.c2
  have k3 : (((w.setCell ⟨B, 0, none⟩ a).setCell ⟨B, 1, none⟩ b).setCell ⟨B, 2, none⟩ c).cell? ⟨B, 3, none⟩ = some u := by rw [World.cell?_setCell_other _ _ _ _ (by simp), World.cell?_setCell_other _ _ _ _ (by simp), World.cell?_setCell_other _ _ _ _ (by simp)]; exact h.c3
  refine ⟨?_, ?_, ?_, World.cell?_setCell_same _ _ _ k3, fun j => by simp only [World.frozen?_setCell]; exact h.fr j⟩
  · rw [World.cell?_setCell_other _ _ _ _ (by simp), World.cell?_setCell_other _ _ _ _ (by simp), World.cell?_setCell_other _ _ _ _ (by simp)]; exact World.cell?_setCell_same _ _ _ h.c0
  · rw [World.cell?_setCell_other _ _ _ _ (by simp), World.cell?_setCell_other _ _ _ _ (by simp)]; exact World.cell?_setCell_same _ _ _ k1
  · rw [World.cell?_setCell_other _ _ _ _ (by simp)]; exact World.cell?_setCell_same _ _ _ k2

/-- What lies in memory while a block is read: the scan in block C; the records so far, in a row behind it. -/
structure Psg (w : World) (C : Nat) (s : ByteArray) (a : Nat) (bad : Bool) (l : List Rec) (ao : Option Addr) (cap : Nat) (wr : World) : Prop where
  below : Below C w wr
  low : w.heap.size ≤ C
  scan : ScanAt wr C s a bad
  own : wr.ownsRow (C + 1) 30 4 (.slice ao l.length cap) l.length (recCells l)

/-- .. behind a call of the scan's. -/
theorem Psg.next {w wr w' : World} {C a a' : Nat} {s : ByteArray} {bad bad' : Bool} {l : List Rec} {ao : Option Addr} {cap : Nat} (h : Psg w C s a bad l ao cap wr) (hg : wr.grownBy w' (some C)) (hs : ScanAt w' C s a' bad') : Psg w C s a' bad' l ao cap w' := by
  refine ⟨h.below.grown hg (Nat.le_of_lt h.scan.top) (fun k hk => by simp at hk; omega), h.low, hs, h.own.kept hg ?_⟩
  rcases hb : (Value.slice ao l.length cap).ownBlock with _ | k
  · exact Or.inl rfl
  · right
    have := (h.own.lt k hb).1
    simp
    omega

/-- .. where nothing of it turns. -/
theorem Psg.kept {w wr w' : World} {C a : Nat} {s : ByteArray} {bad : Bool} {l : List Rec} {ao : Option Addr} {cap : Nat} (h : Psg w C s a bad l ao cap wr) (q : Q wr w') : Psg w C s a bad l ao cap w' :=
  ⟨h.below.trans (q.below.mono (Nat.le_of_lt h.scan.top)), h.low, h.scan.kept q, own_below h.own q.below⟩

theorem Psg.q {w wr : World} {C a : Nat} {s : ByteArray} {bad : Bool} {l : List Rec} {ao : Option Addr} {cap : Nat} (h : Psg w C s a bad l ao cap wr) : Q w wr := ⟨h.below.mono h.low⟩

theorem ScanAt.grown {w w' : World} {C a R : Nat} {s : ByteArray} {bad : Bool} (h : ScanAt w C s a bad) (hg : w.grownBy w' (some R)) (hne : C ≠ R) : ScanAt w' C s a bad := by
  have hb : w'.heap[C]? = w.heap[C]? := hg.block C h.top (by simpa using hne)
  exact ⟨(World.cell?_of_block (a := ⟨C, 0, none⟩) hb).trans h.c0, (World.cell?_of_block (a := ⟨C, 1, none⟩) hb).trans h.c1, (World.cell?_of_block (a := ⟨C, 2, none⟩) hb).trans h.c2, (World.frozen?_of_block (a := ⟨C, 1, none⟩) hb).trans h.f1, (World.frozen?_of_block (a := ⟨C, 2, none⟩) hb).trans h.f2, Nat.lt_of_lt_of_le h.top hg.size⟩

/-- .. where another variable is written. -/
theorem Psg.other {w wr w' : World} {C a R : Nat} {s : ByteArray} {bad : Bool} {l : List Rec} {ao : Option Addr} {cap : Nat} (h : Psg w C s a bad l ao cap wr) (hg : wr.grownBy w' (some R)) (hR : C < R) (hne : ∀ k, (Value.slice ao l.length cap).ownBlock = some k → k ≠ R) : Psg w C s a bad l ao cap w' := by
  refine ⟨h.below.grown hg (Nat.le_of_lt h.scan.top) (fun k hk => by simp at hk; omega), h.low, h.scan.grown hg (by omega), h.own.kept hg ?_⟩
  rcases hb : (Value.slice ao l.length cap).ownBlock with _ | k
  · exact Or.inl rfl
  · right
    have := hne k hb
    simpa using this

theorem set_grown (w : World) (R o : Nat) (v : Value) : w.grownBy (w.setCell ⟨R, o, none⟩ v) (some R) := grown_set (grown_of_q (Q.refl w) _) v

theorem Var4.set1 {w : World} {B : Nat} {x y z u : Value} (h : Var4 w B x y z u) (b : Value) : Var4 (w.setCell ⟨B, 1, none⟩ b) B x b z u :=
  ⟨by rw [World.cell?_setCell_other _ _ _ _ (by simp)]; exact h.c0, World.cell?_setCell_same _ _ _ h.c1, by rw [World.cell?_setCell_other _ _ _ _ (by simp)]; exact h.c2, by rw [World.cell?_setCell_other _ _ _ _ (by simp)]; exact h.c3, fun j => by rw [World.frozen?_setCell]; exact h.fr j⟩
theorem Var4.set2 {w : World} {B : Nat} {x y z u : Value} (h : Var4 w B x y z u) (b : Value) : Var4 (w.setCell ⟨B, 2, none⟩ b) B x y b u :=
  ⟨by rw [World.cell?_setCell_other _ _ _ _ (by simp)]; exact h.c0, by rw [World.cell?_setCell_other _ _ _ _ (by simp)]; exact h.c1, World.cell?_setCell_same _ _ _ h.c2, by rw [World.cell?_setCell_other _ _ _ _ (by simp)]; exact h.c3, fun j => by rw [World.frozen?_setCell]; exact h.fr j⟩
theorem Var4.set3 {w : World} {B : Nat} {x y z u : Value} (h : Var4 w B x y z u) (b : Value) : Var4 (w.setCell ⟨B, 3, none⟩ b) B x y z b :=
  ⟨by rw [World.cell?_setCell_other _ _ _ _ (by simp)]; exact h.c0, by rw [World.cell?_setCell_other _ _ _ _ (by simp)]; exact h.c1, by rw [World.cell?_setCell_other _ _ _ _ (by simp)]; exact h.c2, World.cell?_setCell_same _ _ _ h.c3, fun j => by rw [World.frozen?_setCell]; exact h.fr j⟩

/-- .. all four. -/
theorem set4_grown (w : World) (R : Nat) (a b c d : Value) : w.grownBy ((((w.setCell ⟨R, 0, none⟩ a).setCell ⟨R, 1, none⟩ b).setCell ⟨R, 2, none⟩ c).setCell ⟨R, 3, none⟩ d) (some R) :=
  grown_set (grown_set (grown_set (set_grown w R 0 a) b) c) d

/-- One record more. -/
theorem Psg.push {w wr w' : World} {C a : Nat} {s : ByteArray} {bad : Bool} {l : List Rec} {r : Rec} {ao ao' : Option Addr} {cap cap' : Nat} (h : Psg w C s a bad l ao cap wr)
    (hg : wr.grownBy w' (Value.slice ao l.length cap).ownBlock)
    (ho : w'.ownsRow (C + 1) 30 4 (.slice ao' (l.length + 1) cap') (l.length + 1) (recCells l ++ r.cells)) : Psg w C s a bad (l ++ [r]) ao' cap' w' := by
  have hlow : ∀ k, (Value.slice ao l.length cap).ownBlock = some k → C < k := fun k hk => (h.own.lt k hk).1
  have hb : w'.heap[C]? = wr.heap[C]? := hg.block C h.scan.top (fun e => by have := hlow C e.symm; omega)
  refine ⟨h.below.grown hg (Nat.le_of_lt h.scan.top) (fun k hk => by have := hlow k hk; omega), h.low, ?_, ?_⟩
  · exact ⟨(World.cell?_of_block (a := ⟨C, 0, none⟩) hb).trans h.scan.c0, (World.cell?_of_block (a := ⟨C, 1, none⟩) hb).trans h.scan.c1, (World.cell?_of_block (a := ⟨C, 2, none⟩) hb).trans h.scan.c2, (World.frozen?_of_block (a := ⟨C, 1, none⟩) hb).trans h.scan.f1, (World.frozen?_of_block (a := ⟨C, 2, none⟩) hb).trans h.scan.f2, Nat.lt_of_lt_of_le h.scan.top hg.size⟩
  · rw [recCells_append, recCells_one, List.length_append]
    exact ho

theorem infoRecord : (Tryd.prog.info? 30).map (fun i => (i.zero, i.size, i.bytes)) = some (some (.agg #[.string ⟨#[]⟩, .int .i64 0, .int .i64 0, .string ⟨#[]⟩]), 4, 48) := by kernel_rfl

/-- The first byte of a text. -/
theorem index_first (kb : UInt8) (ks : List UInt8) (W : World) : (Instr.index 9 (.string ⟨(kb :: ks).toArray⟩) (.int .i64 0)).run Tryd.prog W = .ok (.int .u8 (kb.toNat : Int)) W := by
  have h : 0 < (⟨(kb :: ks).toArray⟩ : ByteArray).size := by simp [ByteArray.size]
  rw [run_index_string W 9 _ .i64 0 Tryd.underlying9]
  simp [h]
  rfl
end Go.Proofs.YtcacednpgpkejaaDoor
