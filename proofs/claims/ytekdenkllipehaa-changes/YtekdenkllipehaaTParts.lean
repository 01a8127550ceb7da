import Derived.Test.YtekdenkllipehaaTNum
import Derived.Test.YtekdenkllipehaaLaidB
namespace Go.Proofs.Ytekdenkllipehaa
open Go.RowKit

/-- Texts lie where a slice's address says. -/
def Strs (w : World) (ao : Option Addr) (P : List ByteArray) : Prop := P = [] ∨ ∃ g o, ao = some ⟨g, o, none⟩ ∧ g < w.heap.size ∧ ∀ (k : Nat) (s : ByteArray), P[k]? = some s → w.cell? ⟨g, o + k, none⟩ = some (.string s)

theorem Strs.kept {w w' : World} {ao : Option Addr} {P : List ByteArray} (h : Strs w ao P) (q : Below w.heap.size w w') : Strs w' ao P := by
  rcases h with h | ⟨g, o, rfl, hg, hs⟩
  · exact Or.inl h
  · exact Or.inr ⟨g, o, rfl, by have := q.size; omega, fun k s hk => (q.cell (p := ⟨g, o + k, none⟩) hg).trans (hs k s hk)⟩

theorem Strs.at {w : World} {ao : Option Addr} {P : List ByteArray} (h : Strs w ao P) {k : Nat} (hk : k < P.length) : ∃ g o, ao = some ⟨g, o, none⟩ ∧ g < w.heap.size ∧ w.cell? ⟨g, o + k, none⟩ = some (.string P[k]) := by
  rcases h with h | ⟨g, o, rfl, hg, hs⟩
  · subst h; simp at hk
  · exact ⟨g, o, rfl, hg, hs k _ (List.getElem?_eq_getElem hk)⟩

theorem cat_take_le (P : List ByteArray) (k : Nat) : (M.cat (P.take k)).length ≤ (M.cat P).length := by
  have : M.cat P = M.cat (P.take k) ++ M.cat (P.drop k) := by rw [← M.cat_append, List.take_append_drop]
  rw [this, List.length_append]; omega

/-- strings.Builder's Grow, at a new builder. -/
theorem grow_fresh (n : Nat) (hn : n ≤ 281474976710656) (w : World) :
    Calls Try.prog 57 #[.pointer (some ⟨w.heap.size, 0, none⟩), .int .i64 n] (w.alloc (.cells #[.pointer none, .slice none 0 0] 102)) fun e w' => e = .returned (.tuple #[]) ∧ (Lib.BuilderAt 102 5 w.heap.size w.heap.size (.pointer (some ⟨w.heap.size, 0, none⟩)) [] w' ∧ Below w.heap.size (w.alloc (.cells #[.pointer none, .slice none 0 0] 102)) w') :=
  Any.Builder_Grow_fresh lays165 extra165 w.heap.size w.heap.size n (w.alloc (.cells #[.pointer none, .slice none 0 0] 102)) (Nat.le_refl _) (heap_alloc_new w _) (by simp) hn

/-- strings.Builder's WriteString. -/
theorem write_string (B b : Nat) (l : List UInt8) (s : ByteArray) (w : World) (h : Lib.BuilderAt 102 5 B b (.pointer (some ⟨b, 0, none⟩)) (Lib.byteCells l) w) (hlen : l.length + s.size ≤ 140737488355328) (hBw : B ≤ w.heap.size) :
    Calls Try.prog 58 #[.pointer (some ⟨b, 0, none⟩), .string s] w fun e w' => e = .returned (.tuple #[.int .i64 s.size, .nilIface]) ∧ (Lib.BuilderAt 102 5 B b (.pointer (some ⟨b, 0, none⟩)) (Lib.byteCells (l ++ s.data.toList)) w' ∧ Below B w w') := by
  have c := Any.Builder_WriteString lays166 extra166 B b (Lib.byteCells l) s w (Or.inr h) (by rw [Lib.byteCells_length]; exact hlen) hBw
  rw [Lib.strCells_eq, ← Lib.byteCells_append] at c
  exact c

/-- strings.Builder's String. -/
theorem builder_string (B b : Nat) (l : List UInt8) (w : World) (h : Lib.BuilderAt 102 5 B b (.pointer (some ⟨b, 0, none⟩)) (Lib.byteCells l) w) (hBw : B ≤ w.heap.size) :
    Calls Try.prog 59 #[.pointer (some ⟨b, 0, none⟩)] w fun e w' => e = .returned (.string ⟨l.toArray⟩) ∧ Below B w w' :=
  Any.Builder_String_any lays169 extra169 B b l w (Or.inr h) hBw

set_option maxRecDepth 100000 in
set_option maxHeartbeats 800000 in
theorem join_any (P : List ByteArray) (ao : Option Addr) (cap : Nat) (w : World) (h : Strs w ao P) (hl : (M.cat P).length ≤ 140737488355328) (hn : P.length ≤ 140737488355328) :
    Calls Try.prog 35 #[.slice ao P.length cap] w fun e w' => e = .returned (.string ⟨(M.cat P).toArray⟩) ∧ Q w w' := by
  have HT : Hid (∀ k s, P[k]? = some s → M.cat (P.take (k + 1)) = M.cat (P.take k) ++ s.data.toList) := fun k s hk => M.cat_take hk
  have HE : Hid (M.cat (P.take P.length) = M.cat P) := by rw [List.take_length]; exact rfl
  have HL : Hid (∀ k, (M.cat (P.take k)).length ≤ (M.cat P).length) := cat_take_le P
  have HH : Hid (Strs w ao P) := h
  clear h
  go_enter Try.func35, Try.ntmps35
  go_wp2_with fail
  go_loop [3, 11] (fun n i => ∃ k : Nat, k ≤ P.length ∧ i = .int .i64 k ∧ n = .int .i64 ((M.cat (P.take k)).length : Nat)) (fun _ i => P.length - (intOf i).toNat)
  case atStart => exact ⟨0, Nat.zero_le _, rfl, by simp [M.cat]⟩
  case round =>
    obtain ⟨k, hk, rfl, rfl⟩ := hrel
    have hlk := HL.out k
    by_cases hlt : k < P.length
    · obtain ⟨g, o, rfl, hg, hc⟩ := HH.out.at hlt
      have hlk1 := HL.out (k + 1)
      have HS : Hid _ := HT.out k _ (List.getElem?_eq_getElem hlt)
      have hlk2 : (M.cat (P.take (k + 1))).length = (M.cat (P.take k)).length + P[k].size := by rw [HS.out, List.length_append]; simp
      go_wp2_with fail
      go_round
      case rel => exact ⟨k + 1, by omega, by go_num, by rw [hlk2]; go_num⟩
      case measure => simp [intOf]; omega
    · obtain rfl : k = P.length := by omega
      have hgr := grow_fresh (M.cat P).length (by omega) w
      rw [HE.out]
      have HG : Hid _ := fun (_ : Unit) => hgr
      clear hgr hlk
      have hc0 : M.cat (P.take 0) = [] := by simp [M.cat]
      have HC0 : Hid (M.cat (P.take 0) = []) := hc0
      clear hc0
      generalize hN : (M.cat P).length = N at *
      clear hN
      go_wp2_with fail
      refine (HG.out ()).mono ?_
      rintro e w1 ⟨rfl, hb1, hw1⟩
      have hB1 : Below w.heap.size w w1 := ((Below.refl _ w).alloc (Nat.le_refl _) _).trans hw1
      clear hw1
      go_wp2_with fail
      go_loopw [24] (fun i wr => ∃ k : Nat, k ≤ P.length ∧ i = .int .i64 k ∧ Lib.BuilderAt 102 5 w.heap.size w.heap.size (.pointer (some ⟨w.heap.size, 0, none⟩)) (Lib.byteCells (M.cat (P.take k))) wr ∧ Below w.heap.size w wr) (fun i _ => P.length - (intOf i).toNat)
      case atStart => exact ⟨0, Nat.zero_le _, rfl, by rw [HC0.out]; exact hb1, hB1⟩
      case round =>
        obtain ⟨k, hk, rfl, hbk, hBk⟩ := hrel
        by_cases hlt : k < P.length
        · obtain ⟨g, o, rfl, hg, hc⟩ := (HH.out.kept hBk).at hlt
          have HS : Hid _ := HT.out k _ (List.getElem?_eq_getElem hlt)
          have hlk1 := HL.out (k + 1)
          rw [HS.out, List.length_append] at hlk1
          have hsz : P[k].data.toList.length = P[k].size := by simp
          have HW : Hid _ := fun (_ : Unit) => write_string _ _ _ P[k] wr hbk (by omega) hBk.size
          generalize P[k] = s at *
          clear hbk hlk1
          go_wp2_with fail
          refine (HW.out ()).mono ?_
          rintro e w2 ⟨rfl, hb2, hw2⟩
          go_wp2_with fail
          go_roundw
          case rel => exact ⟨k + 1, by omega, by go_num, by rw [HS.out]; exact hb2, hBk.trans hw2⟩
          case measure => simp [intOf]; omega
        · obtain rfl : k = P.length := by omega
          rw [HE.out] at hbk
          have HW : Hid _ := fun (_ : Unit) => builder_string _ _ _ wr hbk hBk.size
          clear hbk
          go_wp2_with fail
          refine (HW.out ()).mono ?_
          rintro e w2 ⟨rfl, hw2⟩
          go_wp2_with fail
          go_ret
          exact ⟨rfl, ⟨hBk.trans hw2⟩⟩
end Go.Proofs.Ytekdenkllipehaa

/-
  A row of texts that a call makes.
-/
namespace Go.Proofs.Ytekdenkllipehaa
open Go.RowKit

theorem infoString : (Try.prog.info? 9).map (fun i => (i.zero, i.size, i.bytes)) = some (some (.string ⟨#[]⟩), 1, 16) := by kernel_rfl

theorem own_strs {w : World} {base n cap : Nat} {ao : Option Addr} {P : List ByteArray} (h : w.ownsRow base 9 1 (.slice ao n cap) n (strVals P)) : n = P.length ∧ Strs w ao P := by
  have hn : n = P.length := by have := h.1; simp [strVals] at this; omega
  refine ⟨hn, ?_⟩
  by_cases hP : P = []
  · exact Or.inl hP
  · obtain ⟨g, rfl, _, hlt, hc⟩ := own_cells h (by simpa [strVals] using hP)
    exact Or.inr ⟨g, 0, rfl, hlt, fun k s hk => by rw [Nat.zero_add]; exact hc k _ (by simp [strVals, hk])⟩

theorem one_str (s : ByteArray) : ∀ u ∈ [Value.string s], u.oneCell' = true := by
  intro u hu; simp at hu; subst hu; rfl

/-- A row of texts that the call makes. -/
structure Parts (w : World) (P : List ByteArray) (ao : Option Addr) (cap : Nat) (wr : World) : Prop where
  below : Below w.heap.size w wr
  own : wr.ownsRow w.heap.size 9 1 (.slice ao P.length cap) P.length (strVals P)

theorem Parts.kept {w wr wr' : World} {P : List ByteArray} {ao : Option Addr} {cap : Nat} (h : Parts w P ao cap wr) (q : Q wr wr') : Parts w P ao cap wr' :=
  ⟨h.below.trans (q.below.mono h.below.size), own_below h.own q.below⟩

/-- The cells of a new block of seven texts. -/
theorem seven_cells (w : World) (a b c d e f g : Value) (t : TypeId) : ∀ j u, [a, b, c, d, e, f, g][j]? = some u → (w.alloc (.cells #[a, b, c, d, e, f, g] t)).cell? ((⟨w.heap.size, 0, none⟩ : Addr).add j) = some u := by
  intro j u hj
  match j, hj with
  | 0, hj => simp at hj; subst hj; simp [Addr.add]
  | 1, hj => simp at hj; subst hj; simp [Addr.add]
  | 2, hj => simp at hj; subst hj; simp [Addr.add]
  | 3, hj => simp at hj; subst hj; simp [Addr.add]
  | 4, hj => simp at hj; subst hj; simp [Addr.add]
  | 5, hj => simp at hj; subst hj; simp [Addr.add]
  | 6, hj => simp at hj; subst hj; simp [Addr.add]
  | j + 7, hj => simp at hj

/-- Texts more. -/
theorem Parts.more {w wr w' : World} {P : List ByteArray} {ao ao' : Option Addr} {cap cap' : Nat} (h : Parts w P ao cap wr) (N : List ByteArray)
    (hg : wr.grownBy w' (Value.slice ao P.length cap).ownBlock)
    (ho : w'.ownsRow w.heap.size 9 1 (.slice ao' (P.length + N.length) cap') (P.length + N.length) (strVals P ++ strVals N)) :
    Parts w (P ++ N) ao' cap' w' := by
  refine ⟨h.below.grown hg h.below.size (own_base h.own), ?_⟩
  have : strVals (P ++ N) = strVals P ++ strVals N := by simp [strVals]
  rw [this, List.length_append]
  exact ho
end Go.Proofs.Ytekdenkllipehaa
