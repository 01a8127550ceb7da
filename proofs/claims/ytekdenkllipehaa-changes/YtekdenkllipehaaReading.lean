import Derived.Test.YtekdenkllipehaaRefGetAt
import Derived.Test.YtekdenkllipehaaOwn
namespace Go.Proofs.Ytekdenkllipehaa
open Go.RowKit

theorem infoInt : (Try.prog.info? 3).map (fun i => (i.zero, i.size, i.bytes)) = some (some (.int .i64 0), 1, 8) := by kernel_rfl

/-- The numbers of a list as values. -/
def vals (acc : List Nat) : List Value := acc.map fun x : Nat => Value.int .i64 (x : Int)

/-- What lies in memory while a change is read: the result's variable (block B), the change so far (block C), its row behind C. -/
structure Reading (w : World) (B C size : Nat) (acc : List Nat) (ao : Option Addr) (cap : Nat) (wr : World) : Prop where
  below : Below B w wr
  lt : B < C
  r0 : wr.cell? ⟨B, 0, none⟩ = some (.int .i64 0)
  r1 : wr.cell? ⟨B, 1, none⟩ = some (.slice none 0 0)
  f0 : wr.frozen? ⟨B, 0, none⟩ = false
  f1 : wr.frozen? ⟨B, 1, none⟩ = false
  c0 : wr.cell? ⟨C, 0, none⟩ = some (.int .i64 size)
  c1 : wr.cell? ⟨C, 1, none⟩ = some (.slice ao acc.length cap)
  g0 : wr.frozen? ⟨C, 0, none⟩ = false
  g1 : wr.frozen? ⟨C, 1, none⟩ = false
  own : wr.ownsRow (C + 1) 3 1 (.slice ao acc.length cap) acc.length (vals acc)
  top : C < wr.heap.size

theorem Reading.kept {w wr wr' : World} {B C size : Nat} {acc : List Nat} {ao : Option Addr} {cap : Nat} (h : Reading w B C size acc ao cap wr) (hb : Below wr.heap.size wr wr') : Reading w B C size acc ao cap wr' := by
  have hB : B < wr.heap.size := by have := h.lt; have := h.top; omega
  have cl : ∀ (b o : Nat), b < wr.heap.size → wr'.cell? ⟨b, o, none⟩ = wr.cell? ⟨b, o, none⟩ := fun b o hlt => hb.cell (p := ⟨b, o, none⟩) hlt
  have fr : ∀ (b o : Nat), b < wr.heap.size → wr'.frozen? ⟨b, o, none⟩ = wr.frozen? ⟨b, o, none⟩ := fun b o hlt => hb.frozen (p := ⟨b, o, none⟩) hlt
  exact ⟨h.below.trans (hb.mono (by omega)), h.lt, (cl _ _ hB).trans h.r0, (cl _ _ hB).trans h.r1, (fr _ _ hB).trans h.f0, (fr _ _ hB).trans h.f1,
    (cl _ _ h.top).trans h.c0, (cl _ _ h.top).trans h.c1, (fr _ _ h.top).trans h.g0, (fr _ _ h.top).trans h.g1, own_below h.own hb, by have := hb.size; have := h.top; omega⟩

/-- A reading begins: the result's variable lies in block B; the change so far, of no byte, is laid behind. -/
theorem reading_start (w w1 : World) (size : Nat) (q : Q (w.alloc (.cells #[.int .i64 0, .slice none 0 0] 33)) w1) :
    Reading w w.heap.size w1.heap.size size [] none 0 (w1.alloc (.cells #[.int .i64 size, .slice none 0 0] 33)) := by
  have hsz := q.below.size
  simp at hsz
  have hlt : w.heap.size < w1.heap.size := by omega
  have cl : ∀ o, (w1.alloc (.cells #[.int .i64 size, .slice none 0 0] 33)).cell? ⟨w.heap.size, o, none⟩ = (w.alloc (.cells #[.int .i64 0, .slice none 0 0] 33)).cell? ⟨w.heap.size, o, none⟩ := fun o =>
    (((Below.refl w1.heap.size w1).alloc (Nat.le_refl _) _).cell (p := ⟨w.heap.size, o, none⟩) hlt).trans (q.below.cell (p := ⟨w.heap.size, o, none⟩) (by simp))
  have fr : ∀ o, (w1.alloc (.cells #[.int .i64 size, .slice none 0 0] 33)).frozen? ⟨w.heap.size, o, none⟩ = (w.alloc (.cells #[.int .i64 0, .slice none 0 0] 33)).frozen? ⟨w.heap.size, o, none⟩ := fun o =>
    (((Below.refl w1.heap.size w1).alloc (Nat.le_refl _) _).frozen (p := ⟨w.heap.size, o, none⟩) hlt).trans (q.below.frozen (p := ⟨w.heap.size, o, none⟩) (by simp))
  refine ⟨?_, hlt, (cl 0).trans (by simp), (cl 1).trans (by simp), (fr 0).trans (by simp), (fr 1).trans (by simp), by simp, by simp, by simp, by simp, World.ownsRow_nil _ _ _ _, by simp⟩
  exact (((Below.refl _ w).alloc (Nat.le_refl _) _).trans (q.below.mono (by simp))).alloc (by omega) _

/-- The result's variable written anew, all zeros: a reading that failed. -/
theorem Reading.failed {w wr : World} {B C size : Nat} {acc : List Nat} {ao : Option Addr} {cap : Nat} (h : Reading w B C size acc ao cap wr) :
    ((wr.setCell ⟨B, 0, none⟩ (.int .i64 0)).setCell ⟨B, 1, none⟩ (.slice none 0 0)).cell? ⟨B, 0, none⟩ = some (.int .i64 0) ∧
    ((wr.setCell ⟨B, 0, none⟩ (.int .i64 0)).setCell ⟨B, 1, none⟩ (.slice none 0 0)).cell? ⟨B, 1, none⟩ = some (.slice none 0 0) ∧
    Below B w ((wr.setCell ⟨B, 0, none⟩ (.int .i64 0)).setCell ⟨B, 1, none⟩ (.slice none 0 0)) := by
  have k1 : (wr.setCell ⟨B, 0, none⟩ (.int .i64 0)).cell? ⟨B, 1, none⟩ = some (.slice none 0 0) := by
    rw [World.cell?_setCell_other _ _ _ _ (by simp)]; exact h.r1
  refine ⟨?_, World.cell?_setCell_same _ _ _ k1, (h.below.setCell (Nat.le_refl _) _).setCell (Nat.le_refl _) _⟩
  rw [World.cell?_setCell_other _ _ _ _ (by simp)]
  exact World.cell?_setCell_same _ _ _ h.r0

/-- One number more: what lies in memory behind the append, and behind the store of the new slice. -/
theorem Reading.push {w wr w' : World} {B C size : Nat} {acc : List Nat} {ao ao' : Option Addr} {cap cap' : Nat} (h : Reading w B C size acc ao cap wr) (x : Nat)
    (hg : (wr.alloc (.cells #[.int .i64 (x : Int)] 3)).grownBy w' (Value.slice ao acc.length cap).ownBlock)
    (ho : w'.ownsRow (C + 1) 3 1 (.slice ao' (acc.length + 1) cap') (acc.length + 1) (vals acc ++ [.int .i64 (x : Int)])) :
    w'.cell? ⟨C, 1, none⟩ = some (.slice ao acc.length cap) ∧ w'.frozen? ⟨C, 1, none⟩ = false ∧
    Reading w B C size (acc ++ [x]) ao' cap' (w'.setCell ⟨C, 1, none⟩ (.slice ao' (acc.length + 1) cap')) := by
  have hlt := h.lt
  have htop := h.top
  have hb : Below (C + 1) wr w' := ((Below.refl (C + 1) wr).alloc (by omega) _).grown hg (by simp; omega) (own_base h.own)
  have cl : ∀ (b o : Nat), b < C + 1 → w'.cell? ⟨b, o, none⟩ = wr.cell? ⟨b, o, none⟩ := fun b o hl => hb.cell (p := ⟨b, o, none⟩) hl
  have fr : ∀ (b o : Nat), b < C + 1 → w'.frozen? ⟨b, o, none⟩ = wr.frozen? ⟨b, o, none⟩ := fun b o hl => hb.frozen (p := ⟨b, o, none⟩) hl
  have k1 := (cl C 1 (by omega)).trans h.c1
  have fz : ∀ (b o : Nat), b < C + 1 → (w'.setCell ⟨C, 1, none⟩ (.slice ao' (acc.length + 1) cap')).frozen? ⟨b, o, none⟩ = wr.frozen? ⟨b, o, none⟩ := fun b o hl => by
    rw [World.frozen?_setCell]; exact fr b o hl
  refine ⟨k1, (fr C 1 (by omega)).trans h.g1, ⟨(h.below.trans (hb.mono (by omega))).setCell (by show B ≤ C; omega) _, hlt, ?_, ?_, (fz _ _ (by omega)).trans h.f0, (fz _ _ (by omega)).trans h.f1, ?_, ?_, (fz _ _ (by omega)).trans h.g0, (fz _ _ (by omega)).trans h.g1, ?_, ?_⟩⟩
  · rw [World.cell?_setCell_other _ _ _ _ (by intro e; injection e; omega)]; exact (cl _ _ (by omega)).trans h.r0
  · rw [World.cell?_setCell_other _ _ _ _ (by intro e; injection e; omega)]; exact (cl _ _ (by omega)).trans h.r1
  · rw [World.cell?_setCell_other _ _ _ _ (by intro e; injection e; omega)]; exact (cl _ _ (by omega)).trans h.c0
  · rw [World.cell?_setCell_same _ _ _ k1]; simp
  · have := ownsRow_setCell_below ho (a := ⟨C, 1, none⟩) (by show C < C + 1; omega) (.slice ao' (acc.length + 1) cap')
    simpa [vals] using this
  · have := hb.size; simp; omega

/-- A reading that fails at its first number. -/
theorem first_failed (w w1 : World) (q : Q (w.alloc (.cells #[.int .i64 0, .slice none 0 0] 33)) w1) :
    (w1.cell? ⟨w.heap.size, 0, none⟩ = some (.int .i64 0) ∧ w1.cell? ⟨w.heap.size, 1, none⟩ = some (.slice none 0 0) ∧ w1.frozen? ⟨w.heap.size, 0, none⟩ = false ∧ w1.frozen? ⟨w.heap.size, 1, none⟩ = false) ∧
    ((w1.setCell ⟨w.heap.size, 0, none⟩ (.int .i64 0)).setCell ⟨w.heap.size, 1, none⟩ (.slice none 0 0)).cell? ⟨w.heap.size, 0, none⟩ = some (.int .i64 0) ∧
    ((w1.setCell ⟨w.heap.size, 0, none⟩ (.int .i64 0)).setCell ⟨w.heap.size, 1, none⟩ (.slice none 0 0)).cell? ⟨w.heap.size, 1, none⟩ = some (.slice none 0 0) ∧
    Below w.heap.size w ((w1.setCell ⟨w.heap.size, 0, none⟩ (.int .i64 0)).setCell ⟨w.heap.size, 1, none⟩ (.slice none 0 0)) := by
  have cl : ∀ o, w1.cell? ⟨w.heap.size, o, none⟩ = (w.alloc (.cells #[.int .i64 0, .slice none 0 0] 33)).cell? ⟨w.heap.size, o, none⟩ := fun o => q.below.cell (p := ⟨w.heap.size, o, none⟩) (by simp)
  have fr : ∀ o, w1.frozen? ⟨w.heap.size, o, none⟩ = (w.alloc (.cells #[.int .i64 0, .slice none 0 0] 33)).frozen? ⟨w.heap.size, o, none⟩ := fun o => q.below.frozen (p := ⟨w.heap.size, o, none⟩) (by simp)
  have c0 : w1.cell? ⟨w.heap.size, 0, none⟩ = some (.int .i64 0) := (cl 0).trans (by simp)
  have c1 : w1.cell? ⟨w.heap.size, 1, none⟩ = some (.slice none 0 0) := (cl 1).trans (by simp)
  have k1 : (w1.setCell ⟨w.heap.size, 0, none⟩ (.int .i64 0)).cell? ⟨w.heap.size, 1, none⟩ = some (.slice none 0 0) := by
    rw [World.cell?_setCell_other _ _ _ _ (by simp)]; exact c1
  have hb : Below w.heap.size w w1 := ((Below.refl _ w).alloc (Nat.le_refl _) _).trans (q.below.mono (by simp))
  refine ⟨⟨c0, c1, (fr 0).trans (by simp), (fr 1).trans (by simp)⟩, ?_, World.cell?_setCell_same _ _ _ k1, (hb.setCell (Nat.le_refl _) _).setCell (Nat.le_refl _) _⟩
  rw [World.cell?_setCell_other _ _ _ _ (by simp)]
  exact World.cell?_setCell_same _ _ _ c0

/-- The result's variable holds the change. -/
theorem Reading.stored {w wr : World} {B C size : Nat} {acc : List Nat} {ao : Option Addr} {cap : Nat} (h : Reading w B C size acc ao cap wr) :
    ((wr.setCell ⟨B, 0, none⟩ (.int .i64 size)).setCell ⟨B, 1, none⟩ (.slice ao acc.length cap)).cell? ⟨B, 0, none⟩ = some (.int .i64 size) ∧
    ((wr.setCell ⟨B, 0, none⟩ (.int .i64 size)).setCell ⟨B, 1, none⟩ (.slice ao acc.length cap)).cell? ⟨B, 1, none⟩ = some (.slice ao acc.length cap) ∧
    ((wr.setCell ⟨B, 0, none⟩ (.int .i64 size)).setCell ⟨B, 1, none⟩ (.slice ao acc.length cap)).cell? ⟨C, 1, none⟩ = some (.slice ao acc.length cap) ∧
    ((wr.setCell ⟨B, 0, none⟩ (.int .i64 size)).setCell ⟨B, 1, none⟩ (.slice ao acc.length cap)).ownsRow B 3 1 (.slice ao acc.length cap) acc.length (vals acc) ∧
    Below B w ((wr.setCell ⟨B, 0, none⟩ (.int .i64 size)).setCell ⟨B, 1, none⟩ (.slice ao acc.length cap)) := by
  have hlt := h.lt
  have k1 : (wr.setCell ⟨B, 0, none⟩ (.int .i64 size)).cell? ⟨B, 1, none⟩ = some (.slice none 0 0) := by
    rw [World.cell?_setCell_other _ _ _ _ (by simp)]; exact h.r1
  refine ⟨?_, World.cell?_setCell_same _ _ _ k1, ?_, ?_, (h.below.setCell (Nat.le_refl _) _).setCell (Nat.le_refl _) _⟩
  · rw [World.cell?_setCell_other _ _ _ _ (by simp)]
    exact World.cell?_setCell_same _ _ _ h.r0
  · rw [World.cell?_setCell_other _ _ _ _ (by intro e; injection e; omega), World.cell?_setCell_other _ _ _ _ (by intro e; injection e; omega)]; exact h.c1
  · have ho := ownsRow_setCell_below (ownsRow_setCell_below h.own (a := ⟨B, 0, none⟩) (by show B < C + 1; omega) (.int .i64 size)) (a := ⟨B, 1, none⟩) (by show B < C + 1; omega) (.slice ao acc.length cap)
    refine ⟨ho.1, ?_⟩
    rcases ho.2 with h2 | ⟨g, c, cur, hv, hg, r⟩
    · exact Or.inl h2
    · exact Or.inr ⟨g, c, cur, hv, by omega, r⟩

/-- No change: what the call answers. -/
def ReadNo (w : World) (e : Ending) (w' : World) : Prop :=
  ∃ (x : Int) (ao : Option Addr) (n cap : Nat), e = .returned (.tuple #[.agg #[.int .i64 x, .slice ao n cap], .bool false]) ∧ Below w.heap.size w w'

/-- A change: what the call answers. -/
def ReadYes (size : Nat) (acc : List Nat) (w : World) (e : Ending) (w' : World) : Prop :=
  ∃ (ao : Option Addr) (cap : Nat), e = .returned (.tuple #[.agg #[.int .i64 size, .slice ao acc.length cap], .bool true]) ∧ w'.ownsRow w.heap.size 3 1 (.slice ao acc.length cap) acc.length (vals acc) ∧ Below w.heap.size w w'

/-- What the call answers, by the steps' reading. -/
def ReadEnd (size : Nat) (r : Option (List Nat)) (w : World) (e : Ending) (w' : World) : Prop :=
  match r with
  | none => ReadNo w e w'
  | some acc => if acc.length = size then ReadYes size acc w e w' else ReadNo w e w'

end Go.Proofs.Ytekdenkllipehaa
