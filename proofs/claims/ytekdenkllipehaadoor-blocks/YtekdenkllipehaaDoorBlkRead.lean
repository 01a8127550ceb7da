/-
  The landed block: read.
-/
import Derived.Test.YtekdenkllipehaaDoorRdRec
import Derived.Test.YtekdenkllipehaaDoorFitAll
import Derived.Laws.MakeOwn
namespace Go.Proofs.YtekdenkllipehaaDoor
open Go.RowKit

/-- What lies in memory while a text is read: the reader in block C; the records so far, in a row behind it. -/
structure Rdg (w : World) (C : Nat) (s : ByteArray) (a : Nat) (l : List Rec) (ao : Option Addr) (cap : Nat) (wr : World) : Prop where
  below : Below C w wr
  low : w.heap.size ≤ C
  rd : RdIn wr C s a
  own : wr.ownsRow (C + 1) 30 4 (.slice ao l.length cap) l.length (recCells l)

theorem Rdg.next {w wr w' : World} {C a a' : Nat} {s : ByteArray} {l : List Rec} {ao : Option Addr} {cap : Nat} (h : Rdg w C s a l ao cap wr) (hg : wr.grownBy w' (some C)) (hs : RdIn w' C s a') : Rdg w C s a' l ao cap w' := by
  refine ⟨h.below.grown hg (Nat.le_of_lt h.rd.top) (fun k hk => by simp at hk; omega), h.low, hs, h.own.kept hg ?_⟩
  rcases hb : (Value.slice ao l.length cap).ownBlock with _ | k
  · exact Or.inl rfl
  · right
    have := (h.own.lt k hb).1
    simp
    omega

theorem Rdg.kept {w wr w' : World} {C a : Nat} {s : ByteArray} {l : List Rec} {ao : Option Addr} {cap : Nat} (h : Rdg w C s a l ao cap wr) (q : Q wr w') : Rdg w C s a l ao cap w' :=
  ⟨h.below.trans (q.below.mono (Nat.le_of_lt h.rd.top)), h.low, h.rd.kept q, own_below h.own q.below⟩

theorem Rdg.q {w wr : World} {C a : Nat} {s : ByteArray} {l : List Rec} {ao : Option Addr} {cap : Nat} (h : Rdg w C s a l ao cap wr) : Q w wr := ⟨h.below.mono h.low⟩

theorem Rdg.push {w wr w' : World} {C a : Nat} {s : ByteArray} {l : List Rec} {r : Rec} {ao ao' : Option Addr} {cap cap' : Nat} (h : Rdg w C s a l ao cap wr)
    (hg : wr.grownBy w' (Value.slice ao l.length cap).ownBlock)
    (ho : w'.ownsRow (C + 1) 30 4 (.slice ao' (l.length + 1) cap') (l.length + 1) (recCells l ++ r.cells)) : Rdg w C s a (l ++ [r]) ao' cap' w' := by
  have hlow : ∀ k, (Value.slice ao l.length cap).ownBlock = some k → C < k := fun k hk => (h.own.lt k hk).1
  refine ⟨h.below.grown hg (Nat.le_of_lt h.rd.top) (fun k hk => by have := hlow k hk; omega), h.low, h.rd.grown hg (fun e => by have := hlow C e; omega), ?_⟩
  rw [recCells_append, recCells_one, List.length_append]
  exact ho

theorem aheadKey_data (l : List Rec) (k : Nat) : (aheadKey l k).data.toList = aheadAt l k := by
  unfold aheadKey aheadAt
  by_cases h : k % 8 = 0
  · rw [if_pos h, if_pos h]
  · rw [if_neg h, if_neg h]
    match k with
    | 0 => simp at h
    | k + 1 =>
      simp only [Nat.add_sub_cancel, lastAt]
      cases l[k]? with
      | none => rfl
      | some r => rfl

set_option maxRecDepth 100000 in
set_option maxHeartbeats 1600000 in
theorem read_any (s : ByteArray) (hs : s.size ≤ 140737488351232) (w : World) :
    Calls Tryd.prog 28 #[.string s] w fun e w' => (∃ (ao : Option Addr) (cap : Nat), e = .returned (.slice ao (readAllTo s.data.toList).length cap) ∧ w'.ownsRow (w.heap.size + 1) 30 4 (.slice ao (readAllTo s.data.toList).length cap) (readAllTo s.data.toList).length (recCells (readAllTo s.data.toList))) ∧ Q w w' := by
  have hlen : s.data.toList.length = s.size := by simp
  have l0 := numTo_le (T := s.data.toList) (most := 64) (a := 0) (by omega)
  obtain ⟨⟨n, a0⟩, h0⟩ : ∃ p, p = numTo s.data.toList 64 0 := ⟨_, rfl⟩
  have N0 : Hid _ := rdNumIn s hs 0 w.heap.size 64
  have E : readAllTo s.data.toList = (rdTo s.data.toList a0 n).1 := by unfold readAllTo; rw [← h0]
  rw [← h0] at N0 l0
  simp only at l0
  rw [E]
  have HB : Hid (∀ i, (rdTo s.data.toList a0 i).2 ≤ s.size ∧ ∀ (j : Nat) (r : Rec), (rdTo s.data.toList a0 i).1[j]? = some r → r.key.size ≤ 64 * (j + 1)) := fun i => by
    have := rdTo_le (T := s.data.toList) (a0 := a0) (by omega) i
    exact ⟨by omega, fun j r hj => (this.2 j r hj).1⟩
  have HL : Hid (∀ i, (rdTo s.data.toList a0 i).1.length = i) := rdTo_length _ _
  have HN : Hid (∀ i, rdTo s.data.toList a0 (i + 1) = ((rdTo s.data.toList a0 i).1 ++ [(recTo s.data.toList (aheadAt (rdTo s.data.toList a0 i).1 i) (rdTo s.data.toList a0 i).2).1], (recTo s.data.toList (aheadAt (rdTo s.data.toList a0 i).1 i) (rdTo s.data.toList a0 i).2).2)) := fun i => rfl
  have HR : Hid _ := record_any s hs
  have HKA : Hid _ := keyAhead_any
  obtain ⟨i0, hi, hz0, hz1, hz2⟩ := info_parts infoRecord
  have hMk := fun W => run_make_own (P := Tryd.prog) W (w.heap.size + 1) 28 30 i0 (.agg #[.string ⟨#[]⟩, .int .i64 0, .int .i64 0, .string ⟨#[]⟩]) 4 Tryd.underlying28 hi hz0 hz1 .i64 .i64 n (by rw [hz2]; omega) (by unfold maxLen; omega)
  have HM : Hid _ := hMk
  clear hMk h0 E
  have HRd : Hid _ := fun (_ : Unit) => rdRead s w
  go_enter Tryd.func28, Tryd.ntmps28
  go_wp2_with fail
  refine (HRd.out ()).mono ?_
  rintro e w0 ⟨rfl, hA0, q0⟩
  clear HRd
  go_wp2_with fail
  refine (N0.out _ ⟨_, hA0⟩).mono ?_
  rintro e w1 ⟨rfl, hA1, g1⟩
  have ht0 := hA0.top
  have hs1 : w.heap.size + 1 ≤ w1.heap.size := by have := g1.size; omega
  obtain ⟨w2, hrun, hown, hgr⟩ := HM.out w1 (by omega)
  have hrd2 := hA1.grown hgr (by simp)
  have hP0 : Rdg w w.heap.size s (rdTo s.data.toList a0 0).2 (rdTo s.data.toList a0 0).1 (some ⟨w1.heap.size, 0, none⟩) n w2 := by
    refine ⟨?_, Nat.le_refl _, hrd2, hown⟩
    exact (q0.below.grown g1 (by omega) (by simp)).grown hgr (by omega) (by simp)
  clear hown hgr hrd2 hA1 g1 hA0 q0
  go_wp2_with fail
  go_loopw [5, 14] (fun p i wr => ∃ (k : Nat) (ap : Option Addr) (cp : Nat), k ≤ n ∧ i = .int .i64 k ∧ p = .slice ap k cp ∧ Hid (Rdg w w.heap.size s (rdTo s.data.toList a0 k).2 (rdTo s.data.toList a0 k).1 ap cp wr)) (fun _ i _ => n - (intOf i).toNat)
  case atStart => exact ⟨0, _, _, Nat.zero_le _, rfl, rfl, hP0⟩
  case round =>
    obtain ⟨k, ap, cp, hk, rfl, rfl, HP⟩ := hrel
    by_cases hlt : k < n
    · have hB := HB.out k
      have hL := HL.out k
      have hN := HN.out k
      have hP := HP.out
      generalize rdTo s.data.toList a0 k = pr at *
      obtain ⟨l, a⟩ := pr
      simp only at hB hL hN hP
      have hown := hP.own
      have KA := HKA.out l ap l.length cp l.length (Nat.le_refl _) (Or.inl (Nat.le_refl _)) (by omega) (fun _ => Nat.le_refl _) wr (by
        by_cases hne : l = []
        · exact Or.inl hne
        · obtain ⟨g, rfl, hlt, hr⟩ := own_recs hown hne
          exact Or.inr ⟨g, 0, rfl, hr⟩)
      have hkb : (aheadKey l l.length).size ≤ 4096 := by
        unfold aheadKey
        split
        · exact Nat.zero_le _
        · cases hx : l[l.length - 1]? with
          | none => exact Nat.zero_le _
          | some r =>
            have := hB.2 _ r hx
            show r.key.size ≤ 4096
            omega
      have REC := fun W => HR.out (aheadKey l l.length) (by omega) a w.heap.size hB.1 W
      rw [aheadKey_data] at REC
      rw [hL] at KA REC hkb
      generalize aheadKey l k = ah at *
      obtain ⟨⟨r, a'⟩, hrec⟩ : ∃ p, p = recTo s.data.toList (aheadAt l k) a := ⟨_, rfl⟩
      rw [← hrec] at REC hN
      simp only [Rec.val] at REC
      have HKA2 : Hid _ := fun (_ : Unit) => KA
      have HREC : Hid _ := REC
      have HN2 : Hid _ := hN
      clear KA REC hN hrec HP
      go_wp2_with fail
      refine (HKA2.out ()).mono ?_
      rintro e w3 ⟨rfl, q3⟩
      have hP3 := hP.kept q3
      go_wp2_with fail
      refine (HREC.out _ hP3.rd).mono ?_
      rintro e w4 ⟨rfl, rd4, g4⟩
      have hP4 := hP3.next g4 rd4
      have hP5 := hP4.kept ((Q.refl w4).alloc #[.string r.key, .int .i64 r.stamp, .int .i64 r.kind, .string r.body] 30)
      have hown5 := hP5.own
      have hsz : w.heap.size + 1 ≤ w4.heap.size := by have := hP4.rd.top; omega
      clear hP hP3 hP4 hown
      go_wp2_with (at_builtin; refine wpList_append_own _ rfl (.tmp 17) (.tmp 23) 28 rfl (w.heap.size + 1) 30 i0 (.agg #[.string ⟨#[]⟩, .int .i64 0, .int .i64 0, .string ⟨#[]⟩]) 4 48 Tryd.underlying28 hi hz0 hz1 hz2 rfl (by decide) _ _ _ (congrArg (fun n => Value.slice ap n cp) hL.symm) hown5 ⟨w4.heap.size, 0, none⟩ 1 1 r.cells rfl rfl ?c1 ?c2 ?c3 ?c4 ?c5 ?_)
      case c1 => exact rec_cells_at _ _ _
      case c2 => exact rec_cells_one _
      case c3 => unfold maxLen; omega
      case c4 => omega
      case c5 => simp; omega
      intro v' w' hown' hgrow _
      obtain ⟨ao3, cap3, hv⟩ := own_form hown'
      rw [hv] at hown'
      rw [hv]
      rw [← hL] at hown' hgrow
      have hp2 := hP5.push hgrow hown'
      clear hown' hgrow hv
      go_wp2_with fail
      go_roundw
      case rel => exact ⟨k + 1, ao3, cap3, by omega, by go_num, rfl, by rw [HN2.out]; exact hp2⟩
      case measure => simp [intOf]; omega
    · obtain rfl : k = n := by omega
      have hL := HL.out k
      have hP := HP.out
      have HF : Hid (w.heap.size = w.heap.size) := rfl
      go_wp2_with fail
      go_ret
      exact ⟨⟨ap, cp, rfl, by have := hP.own; rw [hL] at this; exact this⟩, hP.q⟩
end Go.Proofs.YtekdenkllipehaaDoor
