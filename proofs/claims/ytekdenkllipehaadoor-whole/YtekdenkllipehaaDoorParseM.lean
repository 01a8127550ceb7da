/-
  The reference's Parse: its state in memory while a block is read.
-/
import Derived.Test.YtekdenkllipehaaDoorRefScan
import Derived.Test.YtekdenkllipehaaDoorScanM
import Derived.Test.YtekdenkllipehaaDoorRecMem
namespace Go.Proofs.YtekdenkllipehaaDoor
open Go.RowKit

/-- scan.number, whatever stands there. -/
theorem scanNum (s : ByteArray) (hs : s.size ≤ 140737488351232) (a C : Nat) (bad : Bool) (w : World) (hA : ScanAt w C s a bad) :
    Calls Tryd.prog 29 #[.pointer (some ⟨C, 0, none⟩)] w fun e w' => e = .returned (.int .i64 ((numAt s.data.toList a bad).1 : Int)) ∧ ScanAt w' C s (numAt s.data.toList a bad).2.1 (numAt s.data.toList a bad).2.2 ∧ w.grownBy w' (some C) := by
  unfold numAt
  cases h : M.getAt s.data.toList a with
  | none => exact number_none s hs a C bad h w hA
  | some p =>
    obtain ⟨v, nx⟩ := p
    exact number_some s hs a v nx C bad h w hA

/-- scan.text, whatever stands there. -/
theorem scanTxt (s : ByteArray) (hs : s.size ≤ 140737488351232) (a C n : Nat) (bad : Bool) (hn : n < 72057594037927936) (ha : a ≤ s.size) (w : World) (hA : ScanAt w C s a bad) :
    Calls Tryd.prog 30 #[.pointer (some ⟨C, 0, none⟩), .int .i64 (n : Int)] w fun e w' => e = .returned (.string ⟨(txtAt s.data.toList n a bad).1.toArray⟩) ∧ ScanAt w' C s (txtAt s.data.toList n a bad).2.1 (txtAt s.data.toList n a bad).2.2 ∧ w.grownBy w' (some C) := by
  have hl : s.data.toList.length = s.size := by simp
  unfold txtAt
  cases bad with
  | true =>
    rw [if_pos (Or.inl rfl)]
    exact text_bad s a C n w hA
  | false =>
    by_cases h : s.size - a < n
    · rw [if_pos (Or.inr (by omega))]
      exact text_long s hs a C n hn ha h w hA
    · rw [if_neg (by simp; omega)]
      have := text_good s hs a C n (by omega) w hA
      have e : s.extract a (a + n) = ⟨((s.data.toList.drop a).take n).toArray⟩ := by
        apply ByteArray.ext
        apply Array.toList_inj.1
        simp
      rw [e] at this
      exact this

/-- The place stays within the text. -/
theorem numAt_le {T : List UInt8} {a : Nat} {bad : Bool} (h : a ≤ T.length) : (numAt T a bad).2.1 ≤ T.length ∧ (numAt T a bad).1 < 72057594037927936 := by
  unfold numAt
  cases hg : M.getAt T a with
  | none => exact ⟨h, by simp⟩
  | some p =>
    obtain ⟨v, nx⟩ := p
    have := M.getAt_bound hg
    exact ⟨this.2.2.1, this.1⟩
theorem txtAt_le {T : List UInt8} {n a : Nat} {bad : Bool} (h : a ≤ T.length) : (txtAt T n a bad).2.1 ≤ T.length ∧ (txtAt T n a bad).1.length ≤ T.length := by
  unfold txtAt
  split
  · exact ⟨h, by simp⟩
  · rename_i hc
    refine ⟨?_, ?_⟩
    · simp only; omega
    · simp; omega

theorem numAt_ge {T : List UInt8} {a : Nat} {bad : Bool} : a ≤ (numAt T a bad).2.1 := by
  unfold numAt
  cases hg : M.getAt T a with
  | none => exact Nat.le_refl _
  | some p =>
    obtain ⟨v, nx⟩ := p
    have := M.getAt_bound hg
    show a ≤ nx
    omega
theorem txtAt_len {T : List UInt8} {n a : Nat} {bad : Bool} : (txtAt T n a bad).1.length + a ≤ (txtAt T n a bad).2.1 := by
  unfold txtAt
  split
  · simp
  · simp; omega

/-- What lies in memory while a block is read: the scan in block C; the records so far, in a row behind it. -/
structure Psg (w : World) (C : Nat) (s : ByteArray) (a : Nat) (bad : Bool) (l : List Rec) (ao : Option Addr) (cap : Nat) (wr : World) : Prop where
  below : Below C w wr
  low : w.heap.size ≤ C
  scan : ScanAt wr C s a bad
  own : wr.ownsRow (C + 1) 30 4 (.slice ao l.length cap) l.length (recCells l)

/-- .. behind a call of the scan's. -/
theorem Psg.next {w wr w' : World} {C a a' : Nat} {s : ByteArray} {bad bad' : Bool} {l : List Rec} {ao : Option Addr} {cap : Nat} (h : Psg w C s a bad l ao cap wr) (hg : wr.grownBy w' (some C)) (hs : ScanAt w' C s a' bad') : Psg w C s a' bad' l ao cap w' := by
  refine ⟨h.below.grown hg (Nat.le_of_lt h.scan.top) (fun k hk => by simp at hk; omega), h.low, hs, h.own.kept hg ?_⟩
  rcases hb : (Value.slice ao l.length cap).ownBlock with _ | k
  · exact Or.inl rfl
  · right
    have := (h.own.lt k hb).1
    simp
    omega

/-- .. where nothing of it turns. -/
theorem Psg.kept {w wr w' : World} {C a : Nat} {s : ByteArray} {bad : Bool} {l : List Rec} {ao : Option Addr} {cap : Nat} (h : Psg w C s a bad l ao cap wr) (q : Q wr w') : Psg w C s a bad l ao cap w' :=
  ⟨h.below.trans (q.below.mono (Nat.le_of_lt h.scan.top)), h.low, h.scan.kept q, own_below h.own q.below⟩

theorem Psg.q {w wr : World} {C a : Nat} {s : ByteArray} {bad : Bool} {l : List Rec} {ao : Option Addr} {cap : Nat} (h : Psg w C s a bad l ao cap wr) : Q w wr := ⟨h.below.mono h.low⟩

theorem ScanAt.grown {w w' : World} {C a R : Nat} {s : ByteArray} {bad : Bool} (h : ScanAt w C s a bad) (hg : w.grownBy w' (some R)) (hne : C ≠ R) : ScanAt w' C s a bad := by
  have hb : w'.heap[C]? = w.heap[C]? := hg.block C h.top (by simpa using hne)
  exact ⟨(World.cell?_of_block (a := ⟨C, 0, none⟩) hb).trans h.c0, (World.cell?_of_block (a := ⟨C, 1, none⟩) hb).trans h.c1, (World.cell?_of_block (a := ⟨C, 2, none⟩) hb).trans h.c2, (World.frozen?_of_block (a := ⟨C, 1, none⟩) hb).trans h.f1, (World.frozen?_of_block (a := ⟨C, 2, none⟩) hb).trans h.f2, Nat.lt_of_lt_of_le h.top hg.size⟩

/-- .. where another variable is written. -/
theorem Psg.other {w wr w' : World} {C a R : Nat} {s : ByteArray} {bad : Bool} {l : List Rec} {ao : Option Addr} {cap : Nat} (h : Psg w C s a bad l ao cap wr) (hg : wr.grownBy w' (some R)) (hR : C < R) (hne : ∀ k, (Value.slice ao l.length cap).ownBlock = some k → k ≠ R) : Psg w C s a bad l ao cap w' := by
  refine ⟨h.below.grown hg (Nat.le_of_lt h.scan.top) (fun k hk => by simp at hk; omega), h.low, h.scan.grown hg (by omega), h.own.kept hg ?_⟩
  rcases hb : (Value.slice ao l.length cap).ownBlock with _ | k
  · exact Or.inl rfl
  · right
    have := hne k hb
    simpa using this

/-- One record more. -/
theorem Psg.push {w wr w' : World} {C a : Nat} {s : ByteArray} {bad : Bool} {l : List Rec} {r : Rec} {ao ao' : Option Addr} {cap cap' : Nat} (h : Psg w C s a bad l ao cap wr)
    (hg : wr.grownBy w' (Value.slice ao l.length cap).ownBlock)
    (ho : w'.ownsRow (C + 1) 30 4 (.slice ao' (l.length + 1) cap') (l.length + 1) (recCells l ++ r.cells)) : Psg w C s a bad (l ++ [r]) ao' cap' w' := by
  have hlow : ∀ k, (Value.slice ao l.length cap).ownBlock = some k → C < k := fun k hk => (h.own.lt k hk).1
  have hb : w'.heap[C]? = wr.heap[C]? := hg.block C h.scan.top (fun e => by have := hlow C e.symm; omega)
  refine ⟨h.below.grown hg (Nat.le_of_lt h.scan.top) (fun k hk => by have := hlow k hk; omega), h.low, ?_, ?_⟩
  · exact ⟨(World.cell?_of_block (a := ⟨C, 0, none⟩) hb).trans h.scan.c0, (World.cell?_of_block (a := ⟨C, 1, none⟩) hb).trans h.scan.c1, (World.cell?_of_block (a := ⟨C, 2, none⟩) hb).trans h.scan.c2, (World.frozen?_of_block (a := ⟨C, 1, none⟩) hb).trans h.scan.f1, (World.frozen?_of_block (a := ⟨C, 2, none⟩) hb).trans h.scan.f2, Nat.lt_of_lt_of_le h.scan.top hg.size⟩
  · rw [recCells_append, recCells_one, List.length_append]
    exact ho

/-- The first byte of a text. -/
theorem index_first (kb : UInt8) (ks : List UInt8) (W : World) : (Instr.index 9 (.string ⟨(kb :: ks).toArray⟩) (.int .i64 0)).run Tryd.prog W = .ok (.int .u8 (kb.toNat : Int)) W := by
  have h : 0 < (⟨(kb :: ks).toArray⟩ : ByteArray).size := by simp [ByteArray.size]
  rw [run_index_string W 9 _ .i64 0 Tryd.underlying9]
  simp [h]
  rfl
end Go.Proofs.YtekdenkllipehaaDoor
