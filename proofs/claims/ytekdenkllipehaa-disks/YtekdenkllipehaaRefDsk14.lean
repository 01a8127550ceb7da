/-
  The document's disk: Names.
-/
import Derived.Test.YtekdenkllipehaaRefDsk13
namespace Go.Proofs.Ytekdenkllipehaa
open Go.RowKit

set_option maxRecDepth 100000 in
set_option maxHeartbeats 800000 in
theorem refNames (tg : Tags) (o d : Nat) (D : M.Dsk) (ids ps : List Nat) (hl : D.files.length ≤ 64) (w : World) (h : DiskAt w tg o d D ids ps) :
    Calls Try.prog 65 #[.pointer (some ⟨d, 0, none⟩)] w fun e w' => ∃ ao cap, e = .returned (.slice ao D.names.length cap) ∧ NameRow w D.names ao cap w' := by
  have HD : Hid (DiskAt w tg o d D ids ps) := h
  have htop := h.top
  obtain ⟨i0, hi, hz0, hz1, hz2⟩ := info_parts infoName
  have HM : Hid (∀ k (hk : k < D.files.length), ((D.files.take (k + 1)).map fun f => f.name) = ((D.files.take k).map fun f => f.name) ++ [D.files[k].name]) := fun k hk => by
    rw [List.take_succ_eq_append_getElem hk, List.map_append]
    rfl
  have HE : Hid (((D.files.take D.files.length).map fun f => f.name) = D.files.map fun f => f.name) := by
    show _ = _
    rw [List.take_length]
  have HLn : Hid (∀ k, ((D.files.take k).map fun f => f.name).length ≤ 64) := fun k => by
    rw [List.length_map, List.length_take]
    omega
  have c2 := h.c2
  obtain ⟨ax, cx, r0⟩ := h.len
  clear h
  cases hdd : D.dead with
  | true =>
    have HN : Hid (D.names = []) := by show _ = _; simp [M.Dsk.names, hdd]
    rw [hdd] at c2
    clear hdd
    go_enter Try.func65, Try.ntmps65
    go_wp2_with fail
    go_loopw [3, 4] (fun p j wr => p = .slice none 0 0 ∧ j = .int .i64 0 ∧ Hid (Q w wr)) (fun _ j _ => 1 - (intOf j).toNat)
    case atStart => exact ⟨rfl, rfl, Q.refl _⟩
    case round =>
      obtain ⟨rfl, rfl, HQ⟩ := hrel
      have hq := HQ.out
      have hdr : d < wr.heap.size := Nat.lt_of_lt_of_le htop hq.below.size
      have k2 := (World.cell?_of_block (a := ⟨d, 2, none⟩) (hq.below.block d htop)).trans c2
      have k1 := (World.cell?_of_block (a := ⟨d, 1, none⟩) (hq.below.block d htop)).trans r0
      by_cases hz : (0 : Int) < (D.files.length : Int)
      · have hz' : decide ((0 : Int) < (D.files.length : Int)) = true := decide_eq_true hz
        go_wp2_with fail
        go_ret
        exact ⟨none, 0, by rw [HN.out]; rfl, by rw [HN.out]; exact ⟨HQ.out.below, World.ownsRow_nil _ _ _ _⟩⟩
      · have hz' : decide ((0 : Int) < (D.files.length : Int)) = false := decide_eq_false hz
        go_wp2_with fail
        go_ret
        exact ⟨none, 0, by rw [HN.out]; rfl, by rw [HN.out]; exact ⟨HQ.out.below, World.ownsRow_nil _ _ _ _⟩⟩
  | false =>
    have HN : Hid (D.names = D.files.map fun f => f.name) := by show _ = _; simp [M.Dsk.names, hdd]
    rw [hdd] at c2
    have HDd : Hid _ := hdd
    clear hdd
    go_enter Try.func65, Try.ntmps65
    go_wp2_with fail
    go_loopw [3, 4] (fun p j wr => ∃ (k : Nat) (ap : Option Addr) (cp : Nat), j = .int .i64 k ∧ p = .slice ap ((D.files.take k).map fun f => f.name).length cp ∧ k ≤ D.files.length ∧ Hid (NameRow w ((D.files.take k).map fun f => f.name) ap cp wr)) (fun _ j _ => D.files.length - (intOf j).toNat)
    case atStart => exact ⟨0, none, 0, rfl, by simp, Nat.zero_le _, by show NameRow w _ none 0 w; simpa using NameRow.start w⟩
    case round =>
      obtain ⟨k, ap, cp, rfl, rfl, hk, HP⟩ := hrel
      have hq : Q w wr := ⟨HP.out.below⟩
      have hdr : d < wr.heap.size := Nat.lt_of_lt_of_le htop hq.below.size
      have k2 := (World.cell?_of_block (a := ⟨d, 2, none⟩) (hq.below.block d htop)).trans c2
      by_cases hlt : k < D.files.length
      · have hf : D.files[k]? = some D.files[k] := List.getElem?_eq_getElem hlt
        obtain ⟨g, cap, p, id, bo, bc, r1, hg, hp, _, r2, hF⟩ := (HD.out.kept hq).at hf
        have hpt := hF.top
        have n0 := hF.c0
        have i1 : (k : Int) < (D.files.length : Int) := by omega
        have i0' : (0 : Int) ≤ (k : Int) := by omega
        have hMk : Hid _ := HM.out k hlt
        have hln := HLn.out k
        have hown := HP.out.own
        have hsz := HP.out.below.size
        have RP := HP.out
        generalize ((D.files.take k).map fun f => f.name) = L at *
        generalize D.files[k].name = nm at *
        clear hp HP hF hf
        go_wp2_with (at_builtin; refine wpList_append_own _ rfl (.tmp 21) (.tmp 32) 69 rfl w.heap.size 9 i0 (.string ⟨#[]⟩) 1 16 Try.underlying69 hi hz0 hz1 hz2 rfl (by decide) _ _ _ rfl (hown.alloc _) ⟨wr.heap.size, 0, none⟩ 1 1 [.string nm] rfl rfl ?c1 ?c2 ?c3 ?c4 ?c5 ?_)
        case c1 => exact one_cell _ _ _
        case c2 => intro u hu; simp at hu; subst hu; rfl
        case c3 => unfold maxLen; omega
        case c4 => omega
        case c5 => simp; omega
        intro v' w' hown' hgrow _
        obtain ⟨ao3, cap3, hv⟩ := own_form hown'
        rw [hv] at hown'
        rw [hv]
        have hp2 := RP.push nm _ hgrow hown'
        clear hown' hgrow hown hv RP
        go_wp2_with fail
        go_roundw
        case rel => exact ⟨k + 1, ao3, cap3, by go_num, by rw [hMk.out]; simp, by omega, by rw [hMk.out]; exact hp2⟩
        case measure => simp [intOf]; omega
      · obtain rfl : k = D.files.length := by omega
        obtain ⟨ao, cap, r1⟩ := (HD.out.kept hq).len
        have RP := HP.out
        rw [HE.out, ← HN.out] at RP
        rw [HE.out, ← HN.out]
        have HR : Hid _ := RP
        clear RP HP
        go_wp2_with fail
        go_ret
        exact ⟨ap, cp, rfl, HR.out⟩
end Go.Proofs.Ytekdenkllipehaa
