/-
  slices.Insert of one element and slices.Delete of one, at pointers: what they leave of a row.
-/
import Derived.Test.YtekdenkllipehaaRowCells
import Derived.Test.YtekdenkllipehaaTagMem
import Derived.Shelf.Spec.SlicesInsertGrow
namespace Go.Proofs.Ytekdenkllipehaa
open Go.RowKit Go.Lib

theorem infoP : (Try.prog.info? 131).map (fun i => (i.zero, i.size, i.bytes)) = some (some (.pointer none), 1, 8) := by kernel_rfl

/-- What an insertion leaves. -/
def InsertedP (v : Value) (n : Nat) (xs : List Value) (i : Nat) (u : Value) (w : World) (e : Ending) (w' : World) : Prop :=
  ∃ v', e = .returned v' ∧ w'.ownsRow 0 131 1 v' (n + 1) (insAt xs i u) ∧ w.grownBy w' v.ownBlock ∧ (v'.ownBlock = v.ownBlock ∨ ∃ g, v'.ownBlock = some g ∧ w.heap.size ≤ g)

set_option maxRecDepth 100000 in
set_option maxHeartbeats 1600000 in
/-- Behind the last. -/
theorem insertEndP (v : Value) (n : Nat) (xs : List Value) (vb : Nat) (u : Value) (w : World) (hn : n ≤ 1048576) (hown : w.ownsRow 0 131 1 v n xs) (h1u : u.oneCell' = true) (hcell : w.heap[vb]? = some (.cells #[u] 131 (0, 0))) :
    Calls Try.prog 114 #[v, .int .i64 (n : Int), .slice (some ⟨vb, 0, none⟩) 1 1] w (InsertedP v n xs n u w) := by
  obtain ⟨i0, hi, hz0, hz1, hz2⟩ := info_parts infoP
  have hnews : ∀ j a, [u][j]? = some a → w.cell? ((⟨vb, 0, none⟩ : Addr).add j) = some a := fun j a hj => by
    match j, hj with
    | 0, hj => simp at hj; subst hj; simp [Addr.add, World.cell?, hcell]
  have h1 : ∀ a ∈ [u], a.oneCell' = true := fun a ha => by simp at ha; subst ha; exact h1u
  obtain ⟨v', w', hrun, r1, r2, _⟩ := run_append_own (P := Try.prog) w 0 110 110 131 i0 (.pointer none) 1 8 Try.underlying110 hi hz0 hz1 hz2 rfl (by decide) v n xs hown ⟨vb, 0, none⟩ 1 1 [u] rfl hnews h1 (by simp [maxLen]; omega) (by omega) (Nat.zero_le _)
  have r3 := append_where (ty := 110) Try.underlying110 hi hz0 hz1 hz2 hown (m := 1) (c := 1) rfl hnews h1 (by decide) (by simp [maxLen]; omega) (by omega) hrun
  have hlen := hown.1
  have HE : Hid (InsertedP v n xs n u w (.returned v') w') := ⟨v', rfl, by
    have : insAt xs n u = xs ++ [u] := by unfold insAt; rw [List.take_of_length_le (by omega), List.drop_of_length_le (by omega)]
    rw [this]; exact r1, r2, r3.imp id (fun h => ⟨_, h, Nat.le_refl _⟩)⟩
  clear r1 r2 r3 hnews h1 hlen
  obtain ⟨ao, cap, rfl⟩ := own_form hown
  have hnc : n ≤ cap := by
    rcases hown.2 with ⟨hv, h0⟩ | ⟨g, c, cur, hv, _, _, hc, _⟩
    · omega
    · injection hv with _ _ e3; omega
  clear hown hcell
  by_cases hcn : cap = n
  · subst hcn
    go_enter Try.func114, Try.ntmps114
    go_wp2_with (at_builtin; refine Lib.wpList_append_run _ rfl _ _ _ _ rfl _ _ rfl rfl _ _ hrun ?_)
    go_ret
    exact HE.out
  · go_enter Try.func114, Try.ntmps114
    go_wp2_with (at_builtin; refine Lib.wpList_append_run _ rfl _ _ _ _ rfl _ _ rfl rfl _ _ hrun ?_)
    go_ret
    exact HE.out

set_option maxRecDepth 100000 in
set_option maxHeartbeats 4000000 in
/-- Ahead of another, there is room. -/
theorem insertRoomP (g cap n : Nat) (xs : List Value) (i vb : Nat) (u : Value) (w : World) (hi : i < n) (hn : n ≤ 1048576) (hroom : n + 1 ≤ cap) (hown : w.ownsRow 0 131 1 (.slice (some ⟨g, 0, none⟩) n cap) n xs) (h1 : ∀ x ∈ xs, x.oneCell' = true) (h1u : u.oneCell' = true)
    (hvb : vb ≠ g) (hcell : w.heap[vb]? = some (.cells #[u] 131 (0, 0))) :
    Calls Try.prog 114 #[.slice (some ⟨g, 0, none⟩) n cap, .int .i64 (i : Int), .slice (some ⟨vb, 0, none⟩) 1 1] w (InsertedP (.slice (some ⟨g, 0, none⟩) n cap) n xs i u w) := by
  obtain ⟨i0, hi0, hz0, hzs, hzb⟩ := info_parts infoP
  have hsz : (Try.prog.info? 131).map (·.size) = some 1 := by rw [hi0]; simp [hzs]
  have hco : ∀ w, (Go.sizeOf 131).run Try.prog w = .ok 1 w := Try.sizeOf131
  obtain ⟨cur, hg, hcm, hcs, htake⟩ : ∃ cur, w.heap[g]? = some (.cells cur 131 (0, 0)) ∧ cap ≤ maxLen ∧ cur.size = cap ∧ cur.toList.take n = xs := by
    rcases hown.2 with ⟨hv, _⟩ | ⟨g', c, cur, hv, _, hh, _, h2, h3, h4⟩
    · injection hv with e; simp at e
    · injection hv with e1 e2 e3
      injection e1 with e1
      injection e1 with e1
      subst e1 e3
      exact ⟨cur, hh, h2, by omega, by simpa using h4⟩
  have hxl : xs.length = n := by have := hown.1; omega
  have hc63 : cap ≤ 9223372036854775807 := by simp [maxLen] at hcm; omega
  have hcs' : ∀ j v, xs[j]? = some v → w.cell? ⟨g, j, none⟩ = some v := fun j v hj => by
    have := hown.cells (g := g) rfl j v hj
    have hp : (⟨g, 0, none⟩ : Addr).add j = ⟨g, j, none⟩ := by rw [Addr.add_lit]; simp
    rwa [hp] at this
  have hsp : ∀ j, j < n + 1 → (w.cell? ⟨g, j, none⟩).isSome = true := fun j hj => by simp [World.cell?, hg, Array.getElem?_eq_getElem (show j < cur.size by omega)]
  have hfz : ∀ j, w.frozen? ⟨g, j, none⟩ = false := fun j => frozen_of_row w g j cur _ hg
  have hov : ∀ lb cb, (callFunc 121 #[.slice (some ⟨vb, 0, none⟩) 1 1, .slice (some ⟨g, i + 1, none⟩) lb cb]).run Try.prog w = .ok (.value (.bool false)) w := fun lb cb => by
    rw [run_callFunc_extern Try.func121 (by kernel_rfl) (by kernel_rfl) (by kernel_rfl) (e := Extern.SlicesOverlaps.overlaps #[110, 110] #[4]) (by kernel_rfl),
      Lib.run_overlaps_apart w 110 4 131 Try.underlying110 1 hco ⟨vb, 0, none⟩ ⟨g, i + 1, none⟩ 1 1 lb cb hvb 131 131 1 cap (by simp [World.shape?, hcell]) (by simp [World.shape?, hg, hcs]) (by omega) (frozen_of_row w vb 0 _ _ hcell) (frozen_of_row w vb 1 _ _ hcell)]
    rfl
  have hdl : (xs.drop i).length = n - i := by rw [List.length_drop, hxl]
  obtain ⟨W1, hW1⟩ : ∃ W1, W1 = w.drew.setCells g (i + 1) (xs.drop i) := ⟨_, rfl⟩
  have hcp1 : ∀ ty dc sc, (Builtin.copy_ #[110, 110] ty #[.slice (some ⟨g, i + 1, none⟩) (n - i) dc, .slice (some ⟨g, i, none⟩) (n + 1 - i) sc]).run Try.prog w.drew = .ok (goInt (xs.drop i).length) W1 := fun ty dc sc => by
    rw [hW1]
    exact run_copy_cells w.drew _ _ ty 131 g (i + 1) (n - i) dc ⟨g, i, none⟩ (n + 1 - i) sc (xs.drop i) Try.underlying110 hsz (by rw [hdl]; simp only [Nat.min_def]; split <;> omega)
      (fun j v hj => by rw [Addr.add_lit]; exact hcs' (i + j) v (by rwa [List.getElem?_drop] at hj))
      (fun j hj => hsp _ (by omega)) (fun j hj => hfz _) (fun v hv => h1 v (List.mem_of_mem_drop hv))
  have hsp1 : ∀ k, k < n + 1 → (W1.cell? ⟨g, k, none⟩).isSome = true := fun k hk => by
    rw [hW1]
    exact isSome_setCells g (xs.drop i) (i + 1) w.drew (fun j hj => hsp _ (by rw [hdl] at hj; omega)) _ (hsp k hk)
  have hcp2 : ∀ ty dc, (Builtin.copy_ #[110, 110] ty #[.slice (some ⟨g, i, none⟩) (n + 1 - i) dc, .slice (some ⟨vb, 0, none⟩) 1 1]).run Try.prog W1 = .ok (goInt 1) (W1.setCells g i [u]) := fun ty dc =>
    run_copy_cells W1 _ _ ty 131 g i (n + 1 - i) dc ⟨vb, 0, none⟩ 1 1 [u] Try.underlying110 hsz (by simp only [Nat.min_def, List.length_cons, List.length_nil]; split <;> omega)
      (fun j v hj => by
        match j, hj with
        | 0, hj =>
          simp at hj; subst hj
          rw [Addr.add_lit, hW1, World.cell?_setCells_out g _ _ _ _ (fun h _ => absurd h hvb)]
          show w.cell? ⟨vb, 0, none⟩ = some u
          simp [World.cell?, hcell])
      (fun j hj => by simp at hj; subst hj; exact hsp1 i (by omega)) (fun j hj => by rw [hW1, World.frozen?_setCells]; exact hfz _) (fun v hv => by simp at hv; subst hv; exact h1u)
  have HE : Hid (InsertedP (.slice (some ⟨g, 0, none⟩) n cap) n xs i u w (.returned (.slice (some ⟨g, 0, none⟩) (n + 1) cap)) (W1.setCells g i [u])) := by
    obtain ⟨c1, a1, a2, a3⟩ := setCells_row g 131 (xs.drop i) (i + 1) w.drew cur hg (by rw [hdl]; omega)
    rw [← hW1] at a1
    obtain ⟨c2, b1, b2, b3⟩ := setCells_row g 131 [u] i W1 c1 a1 (by simp; omega)
    have hl1 : (cur.toList.take (i + 1)).length = i + 1 := by simp; omega
    have hti : c1.toList.take i = xs.take i := by
      rw [a3, List.append_assoc, List.take_append_of_le_length (by omega), List.take_take, Nat.min_eq_left (by omega), ← htake, List.take_take, Nat.min_eq_left (by omega)]
    have hdi : c1.toList.drop (i + 1) = xs.drop i ++ cur.toList.drop (i + 1 + (xs.drop i).length) := by
      rw [a3, List.append_assoc, List.drop_append_of_le_length (by omega), List.drop_of_length_le (by omega), List.nil_append]
    refine ⟨_, rfl, ⟨by unfold insAt; simp; omega, Or.inr ⟨g, cap, c2, rfl, Nat.zero_le _, b1, by omega, hcm, by omega, ?_⟩⟩, ?_, Or.inl rfl⟩
    · rw [b3, hti]
      simp only [List.length_cons, List.length_nil, Nat.zero_add, Nat.mul_one]
      rw [hdi]
      unfold insAt
      have hA : (xs.take i ++ [u] ++ xs.drop i).length = n + 1 := by simp; omega
      rw [show xs.take i ++ [u] ++ (xs.drop i ++ cur.toList.drop (i + 1 + (xs.drop i).length)) = (xs.take i ++ [u] ++ xs.drop i) ++ cur.toList.drop (i + 1 + (xs.drop i).length) by simp, List.take_append_of_le_length (by omega), List.take_of_length_le (by omega)]
      simp
    · have q1 : w.grownBy W1 (some g) := by
        have := grown_setCells w.drew g (i + 1) (xs.drop i)
        rw [← hW1] at this
        exact grown_undrew this
      exact q1.trans (grown_setCells W1 g i [u])
  have hW : Hid (W1 = w.drew.setCells g (i + 1) (xs.drop i)) := hW1
  have hz2 : ¬ ((i : Int) = (n : Int)) := by omega
  have hz3 : ¬ ((cap : Int) < (n : Int) + 1) := by omega
  have hw1 : IntKind.i64.wrap ((i : Int) + 1) = (i : Int) + 1 := by rw [IntKind.wrap_i64]; omega
  have hw2 : IntKind.i64.wrap ((n : Int) + 1) = (n : Int) + 1 := by rw [IntKind.wrap_i64]; omega
  have hb1 : (0 : Int) ≤ (i : Int) + 1 := by omega
  have htn : ((i : Int) + 1).toNat = i + 1 := by omega
  have htn2 : ((n : Int) + 1).toNat = n + 1 := by omega
  have hb2 : ¬ (cap = i + 1) := by omega
  have hb3 : (i : Int) ≤ (n : Int) + 1 := by omega
  have hb4 : ¬ (cap = i) := by omega
  have hin : i ≤ n := by omega
  have hnc : n ≤ cap := by omega
  clear hW1 hsp hsp1 hfz hcs' hcell hown hg htake hcs h1 hdl hxl
  go_enter Try.func114, Try.ntmps114
  go_wp2_with (simp only [hov])
  go_region_law (refine step_copy_runI rfl _ _ 110 110 rfl _ _ (by simp [Act.eval, Act.put]) (by simp [Act.eval, Act.put]) (hcp1 _ _ _) ?_)
  go_wp2_with (at_builtin; refine wpList_copy_runI _ rfl _ _ 110 110 rfl _ _ rfl rfl (hcp2 _ _) ?_)
  go_ret
  exact HE.out
end Go.Proofs.Ytekdenkllipehaa
