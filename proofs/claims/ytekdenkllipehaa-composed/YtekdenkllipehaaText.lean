import Derived.Test.YtekdenkllipehaaFolds
namespace Go.Proofs.Ytekdenkllipehaa
open Go.RowKit

theorem Parts.push {w wr w' : World} {P : List ByteArray} {ao ao' : Option Addr} {cap cap' : Nat} (h : Parts w P ao cap wr) (s : ByteArray) (o : Obj)
    (hg : (wr.alloc o).grownBy w' (Value.slice ao P.length cap).ownBlock)
    (ho : w'.ownsRow w.heap.size 9 1 (.slice ao' (P.length + 1) cap') (P.length + 1) (strVals P ++ [.string s])) :
    Parts w (P ++ [s]) ao' cap' w' := by
  have hs := h.below.size
  refine ⟨(h.below.alloc hs _).grown hg (by simp; omega) (own_base h.own), ?_⟩
  have : strVals (P ++ [s]) = strVals P ++ [.string s] := by simp [strVals]
  rw [this, List.length_append]
  exact ho

theorem text_take {L : List M.St} {k : Nat} {s : M.St} (b : ByteArray) (h : L[k]? = some s) : (L.take (k + 1)).map (M.St.text · b) = (L.take k).map (M.St.text · b) ++ [s.text b] := by
  rw [M.take_succ h]; simp

theorem cat_text (L : List M.St) (b : ByteArray) (h : ∀ s ∈ L, s.put.size = 0 → s.place + s.size ≤ b.size) : M.cat (L.map (M.St.text · b)) = M.made (M.flat L) b.data.toList := by
  induction L with
  | nil => rfl
  | cons s L ih =>
    rw [M.flat_cons, M.made_append, M.made_acc s b (h s (by simp)), ← ih fun t ht => h t (by simp [ht])]
    rfl

theorem reach_in {L : List M.St} (hg : M.Goods L) {s : M.St} (hs : s ∈ L) (h0 : s.put.size = 0) : s.place + s.size ≤ M.reach (M.flat L) := by
  have h1 := M.reach_acc (hg s hs)
  rw [if_pos h0] at h1
  rw [← h1]
  refine M.reach_le fun x hx => M.reach_mem ?_
  simp only [M.flat, List.mem_flatMap]
  exact ⟨s, hs, hx⟩

set_option maxRecDepth 100000 in
set_option maxHeartbeats 1600000 in
theorem text_any (b : ByteArray) (L : List M.St) (ao : Option Addr) (cap : Nat) (w : World) (h : Steps w ao L) (hb : b.size ≤ 140737488351232) (ht : M.tot L ≤ 4096) (hg : M.Goods L) (hr : M.reach (M.flat L) ≤ b.size) :
    Calls Try.prog 23 #[.string b, .slice ao L.length cap] w fun e w' => e = .returned (.string ⟨(M.made (M.flat L) b.data.toList).toArray⟩) ∧ Q w w' := by
  have hn := M.length_le_tot hg
  have hrs : ∀ s ∈ L, s.put.size = 0 → s.place + s.size ≤ b.size := fun s hs h0 => Nat.le_trans (reach_in hg hs h0) hr
  have hcat := cat_text L b hrs
  have hcl : (M.cat (L.map (M.St.text · b))).length ≤ 4096 := by rw [hcat]; simp [M.made]; rw [M.flat_length hg]; exact ht
  have HC : Hid _ := fun (_ : Unit) => hcat
  have HR : Hid (∀ (k : Nat) (s : M.St), L[k]? = some s → s.put.size = 0 → s.place + s.size ≤ b.size) := fun k s hk => hrs s (List.mem_of_getElem? hk)
  have HT : Hid (∀ (k : Nat) (s : M.St), L[k]? = some s → (L.take (k + 1)).map (M.St.text · b) = (L.take k).map (M.St.text · b) ++ [s.text b]) := fun k s hk => text_take b hk
  have HN : Hid (∀ k, k ≤ L.length → ((L.take k).map (M.St.text · b)).length = k) := fun k hk => by simp; omega
  have HE : Hid ((L.take L.length).map (M.St.text · b) = L.map (M.St.text · b)) := by rw [List.take_length]; exact rfl
  have HH : Hid (Steps w ao L) := h
  have hZ0 : (L.take 0).map (M.St.text · b) = [] := by simp
  obtain ⟨i0, hi, hz0, hz1, hz2⟩ := info_parts infoString
  obtain ⟨w0, hrun, hown, hgr⟩ := run_make_own (P := Try.prog) w w.heap.size 69 9 i0 (.string ⟨#[]⟩) 1 Try.underlying69 hi hz0 hz1 .i64 .i64 L.length (by rw [hz2]; omega) (by unfold maxLen; omega) (Nat.le_refl _)
  have hp0 : Parts w ((L.take 0).map (M.St.text · b)) (some ⟨w.heap.size, 0, none⟩) L.length w0 := by
    rw [hZ0]
    exact ⟨(Below.refl _ w).grown hgr (Nat.le_refl _) (by simp), hown⟩
  clear h hg hcat hrs hr hown hgr hZ0
  go_enter Try.func23, Try.ntmps23
  go_wp2_with fail
  go_loopw [5, 13] (fun p i wr => ∃ (k : Nat) (ap : Option Addr) (cp : Nat), k ≤ L.length ∧ i = .int .i64 k ∧ p = .slice ap k cp ∧ Parts w ((L.take k).map (M.St.text · b)) ap cp wr) (fun _ i _ => L.length - (intOf i).toNat)
  case atStart => exact ⟨0, _, _, Nat.zero_le _, rfl, rfl, hp0⟩
  case round =>
    obtain ⟨k, ap, cp, hk, rfl, rfl, hp⟩ := hrel
    have hkl := HN.out k hk
    by_cases hlt : k < L.length
    · obtain ⟨g, o, rfl, hg, hc⟩ := (HH.out.kept ⟨hp.below⟩).at hlt
      obtain ⟨c0, c1, c2⟩ := hc k _ (List.getElem?_eq_getElem hlt)
      have hS := HT.out k _ (List.getElem?_eq_getElem hlt)
      have hR := HR.out k _ (List.getElem?_eq_getElem hlt)
      generalize L[k] = s at *
      have HS : Hid _ := hS
      generalize (L.take k).map (M.St.text · b) = PP at *
      subst hkl
      clear hS hc hp0 hrun
      by_cases hz : s.put.size = 0
      · have PC : Hid _ := puts_no s hz
        simp only [M.St.val] at PC
        have hR2 := hR hz
        have htx : s.text b = b.extract s.place (s.place + s.size) := by simp [M.St.text, hz]
        rw [htx] at HS
        have e1 := cut_str b s.place s.size hR2
        clear hR htx
        go_wp2_with fail
        refine (PC.out _).mono ?_
        rintro e w1 ⟨rfl, q1⟩
        have d1 : w1.cell? ⟨wr.heap.size, 1, none⟩ = some (.int .i64 s.place) := (q1.below.cell (p := ⟨wr.heap.size, 1, none⟩) (by simp)).trans (by simp)
        have d2 : w1.cell? ⟨wr.heap.size, 2, none⟩ = some (.int .i64 s.size) := (q1.below.cell (p := ⟨wr.heap.size, 2, none⟩) (by simp)).trans (by simp)
        have hp1 := (hp.kept ((Q.refl wr).alloc _ _)).kept q1
        clear hp q1
        have hown := hp1.own
        have hsz := hp1.below.size
        go_wp2_with (at_builtin; refine wpList_append_own _ rfl (.tmp 24) (.tmp 34) 69 rfl w.heap.size 9 i0 (.string ⟨#[]⟩) 1 16 Try.underlying69 hi hz0 hz1 hz2 rfl (by decide) _ _ _ rfl (hown.alloc _) ⟨w1.heap.size, 0, none⟩ 1 1 [.string (b.extract s.place (s.place + s.size))] rfl rfl ?c1 ?c2 ?c3 ?c4 ?c5 ?_)
        case c1 => exact one_cell _ _ _
        case c2 => exact one_str _
        case c3 => unfold maxLen; omega
        case c4 => omega
        case c5 => simp; omega
        intro v' w' hown' hgrow _
        obtain ⟨ao3, cap3, hv⟩ := own_form hown'
        rw [hv] at hown'
        rw [hv]
        have hp2 := hp1.push _ _ hgrow hown'
        clear hown' hgrow hown hv
        go_wp2_with fail
        go_roundw
        case rel => exact ⟨PP.length + 1, ao3, cap3, by omega, by go_num, by go_num, by rw [HS.out]; exact hp2⟩
        case measure => simp [intOf]; omega
      · have PC : Hid _ := puts_yes s hz
        simp only [M.St.val] at PC
        have htx : s.text b = s.put := by simp [M.St.text, hz]
        rw [htx] at HS
        clear hR htx
        go_wp2_with fail
        refine (PC.out _).mono ?_
        rintro e w1 ⟨rfl, q1⟩
        have d0 : w1.cell? ⟨wr.heap.size, 0, none⟩ = some (.string s.put) := (q1.below.cell (p := ⟨wr.heap.size, 0, none⟩) (by simp)).trans (by simp)
        have hp1 := (hp.kept ((Q.refl wr).alloc _ _)).kept q1
        clear hp q1
        have hown := hp1.own
        have hsz := hp1.below.size
        go_wp2_with (at_builtin; refine wpList_append_own _ rfl (.tmp 19) (.tmp 22) 69 rfl w.heap.size 9 i0 (.string ⟨#[]⟩) 1 16 Try.underlying69 hi hz0 hz1 hz2 rfl (by decide) _ _ _ rfl (hown.alloc _) ⟨w1.heap.size, 0, none⟩ 1 1 [.string s.put] rfl rfl ?c1 ?c2 ?c3 ?c4 ?c5 ?_)
        case c1 => exact one_cell _ _ _
        case c2 => exact one_str _
        case c3 => unfold maxLen; omega
        case c4 => omega
        case c5 => simp; omega
        intro v' w' hown' hgrow _
        obtain ⟨ao3, cap3, hv⟩ := own_form hown'
        rw [hv] at hown'
        rw [hv]
        have hp2 := hp1.push _ _ hgrow hown'
        clear hown' hgrow hown hv
        go_wp2_with fail
        go_roundw
        case rel => exact ⟨PP.length + 1, ao3, cap3, by omega, by go_num, by go_num, by rw [HS.out]; exact hp2⟩
        case measure => simp [intOf]; omega
    · obtain rfl : k = L.length := by omega
      rw [HE.out] at hp
      have JC := join_any _ ap cp wr (own_strs hp.own).2 (by omega) (by simp; omega)
      rw [List.length_map] at JC
      have HJ : Hid _ := fun (_ : Unit) => JC
      have HQ : Hid _ := fun (_ : Unit) => hp.below
      clear JC hp hrun hp0 hkl
      go_wp2_with fail
      refine (HJ.out ()).mono ?_
      rintro e w1 ⟨rfl, q1⟩
      go_wp2_with fail
      go_ret
      exact ⟨by rw [← HC.out ()]; rfl, (Q.mk (HQ.out ())).trans q1⟩
end Go.Proofs.Ytekdenkllipehaa
