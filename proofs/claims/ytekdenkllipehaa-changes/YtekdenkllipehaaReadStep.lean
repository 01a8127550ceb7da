import Derived.Test.YtekdenkllipehaaText
namespace Go.Proofs.Ytekdenkllipehaa
open Go.RowKit

/-- A step as it stands in a text: what readStep reads. -/
def M.stepOf (s : ByteArray) (a : Nat) : Option (M.St × Nat) :=
  match M.getAt s.data.toList a with
  | none => none
  | some (u, nx) =>
    if u / 2 = 0 then none
    else if u % 2 = 0 then (if s.size - nx < u / 2 then none else some (⟨s.extract nx (nx + u / 2), 0, u / 2⟩, nx + u / 2))
    else
      match M.getAt s.data.toList nx with
      | none => none
      | some (p, n2) => if 72057594037927935 - u / 2 < p then none else some (⟨⟨#[]⟩, p, u / 2⟩, n2)

/-- readStep's answer. -/
def stepEnd (r : Option (M.St × Nat)) : Ending :=
  match r with
  | none => .returned (.tuple #[.agg #[.string ⟨#[]⟩, .int .i64 0, .int .i64 0], .int .i64 0, .bool false])
  | some (s, a) => .returned (.tuple #[.agg #[.string s.put, .int .i64 (s.place : Int), .int .i64 (s.size : Int)], .int .i64 (a : Int), .bool true])

set_option maxRecDepth 100000 in
set_option maxHeartbeats 1600000 in
theorem readStep_any (s : ByteArray) (hs : s.size ≤ 140737488351232) (a : Nat) (w : World) :
    Calls Try.prog 34 #[.string s, .int .i64 a] w fun e w' => e = stepEnd (M.stepOf s a) ∧ Q w w' := by
  have hl : s.data.toList.length = s.size := by simp
  cases hg : M.getAt s.data.toList a with
  | none =>
    have E : M.stepOf s a = none := by unfold M.stepOf; rw [hg]
    rw [E]
    have G : Hid _ := get_none s a hs hg
    clear hg E hl
    go_enter Try.func34, Try.ntmps34
    go_wp2_with fail
    refine (G.out _).mono ?_
    rintro e w1 ⟨rfl, rfl⟩
    go_wp2_with fail
    refine bodyPost_ret (v := .tuple #[.agg #[.string ⟨#[]⟩, .int .i64 0, .int .i64 0], .int .i64 0, .bool false]) (by simp [results, Try.results34, go_sem]) rfl ?_
    exact ⟨rfl, (Q.refl w).alloc _ _⟩
  | some p =>
    obtain ⟨u, nx⟩ := p
    have hb := M.getAt_bound hg
    have G : Hid _ := get_some s a u nx hs hg
    have hu2 : ((u / 2 : Nat) : Int) = (u : Int) / 2 := by omega
    by_cases h0 : u / 2 = 0
    · have E : M.stepOf s a = none := by unfold M.stepOf; rw [hg]; simp only; rw [if_pos h0]
      rw [E]
      have t0 : ((u : Int) / 2) = 0 := by omega
      clear hg E
      go_enter Try.func34, Try.ntmps34
      go_wp2_with fail
      refine (G.out _).mono ?_
      rintro e w1 ⟨rfl, rfl⟩
      go_wp2_with fail
      refine bodyPost_ret (v := .tuple #[.agg #[.string ⟨#[]⟩, .int .i64 0, .int .i64 0], .int .i64 0, .bool false]) (by simp [results, Try.results34, go_sem]) rfl ?_
      exact ⟨rfl, (Q.refl w).alloc _ _⟩
    · by_cases hev : u % 2 = 0
      · have t1 : ((u : Int) % 2 == 0) = true := by simp; omega
        have t0 : ((u : Int) / 2 == 0) = false := by simp; omega
        by_cases hlong : s.size - nx < u / 2
        · have E : M.stepOf s a = none := by unfold M.stepOf; rw [hg]; simp only; rw [if_neg h0, if_pos hev, if_pos hlong]
          rw [E]
          have t2 : decide ((s.size : Int) - (nx : Int) < (u : Int) / 2) = true := by simp; omega
          clear hg E
          go_enter Try.func34, Try.ntmps34
          go_wp2_with fail
          refine (G.out _).mono ?_
          rintro e w1 ⟨rfl, rfl⟩
          go_wp2_with fail
          refine bodyPost_ret (v := .tuple #[.agg #[.string ⟨#[]⟩, .int .i64 0, .int .i64 0], .int .i64 0, .bool false]) (by simp [results, Try.results34, go_sem]) rfl ?_
          exact ⟨rfl, (Q.refl w).alloc _ _⟩
        · have E : M.stepOf s a = some (⟨s.extract nx (nx + u / 2), 0, u / 2⟩, nx + u / 2) := by unfold M.stepOf; rw [hg]; simp only; rw [if_neg h0, if_pos hev, if_neg hlong]
          rw [E]
          have t2 : decide ((s.size : Int) - (nx : Int) < (u : Int) / 2) = false := by simp; omega
          have hcs := cut_str s nx (u / 2) (by omega)
          rw [hu2] at hcs
          have hsz : (s.extract nx (nx + u / 2)).size = u / 2 := by simp; omega
          have PS := putStep_any (s.extract nx (nx + u / 2))
          rw [hsz, hu2] at PS
          have PH : Hid _ := PS
          generalize s.extract nx (nx + u / 2) = piece at *
          clear hg E PS
          go_enter Try.func34, Try.ntmps34
          go_wp2_with fail
          refine (G.out _).mono ?_
          rintro e w1 ⟨rfl, rfl⟩
          go_wp2_with fail
          refine (PH.out _).mono ?_
          rintro e w2 ⟨rfl, q2⟩
          obtain ⟨⟨x0, x1, x2⟩, ⟨y0, y1, y2⟩⟩ := new3 q2
          go_wp2_with fail
          obtain ⟨z0, z1, z2⟩ := stored3 x0 x1 x2 (.string piece) (.int .i64 0) (.int .i64 ((u : Int) / 2))
          refine bodyPost_ret (v := .tuple #[.agg #[.string piece, .int .i64 0, .int .i64 ((u : Int) / 2)], .int .i64 ((nx : Int) + (u : Int) / 2), .bool true]) (by simp [results, Try.results34, go_sem, z0, z1, z2]) rfl ?_
          exact ⟨by simp only [stepEnd, Int.natCast_add, hu2, Int.natCast_zero], (((Q.refl w).alloc _ _).trans q2).set3 (Nat.le_refl _) _ _ _⟩
      · have t1 : ((u : Int) % 2 == 0) = false := by simp; omega
        have t0 : ((u : Int) / 2 == 0) = false := by simp; omega
        cases hg2 : M.getAt s.data.toList nx with
        | none =>
          have E : M.stepOf s a = none := by unfold M.stepOf; rw [hg]; simp only; rw [if_neg h0, if_neg hev, hg2]
          rw [E]
          have G2 : Hid _ := get_none s nx hs hg2
          clear hg hg2 E
          go_enter Try.func34, Try.ntmps34
          go_wp2_with fail
          refine (G.out _).mono ?_
          rintro e w1 ⟨rfl, rfl⟩
          go_wp2_with fail
          refine (G2.out _).mono ?_
          rintro e w1 ⟨rfl, rfl⟩
          go_wp2_with fail
          refine bodyPost_ret (v := .tuple #[.agg #[.string ⟨#[]⟩, .int .i64 0, .int .i64 0], .int .i64 0, .bool false]) (by simp [results, Try.results34, go_sem]) rfl ?_
          exact ⟨rfl, (Q.refl w).alloc _ _⟩
        | some p =>
          obtain ⟨p, n2⟩ := p
          have hb2 := M.getAt_bound hg2
          have G2 : Hid _ := get_some s nx p n2 hs hg2
          by_cases hfar : 72057594037927935 - u / 2 < p
          · have E : M.stepOf s a = none := by unfold M.stepOf; rw [hg]; simp only; rw [if_neg h0, if_neg hev, hg2]; simp only; rw [if_pos hfar]
            rw [E]
            have t2 : decide (72057594037927935 - (u : Int) / 2 < (p : Int)) = true := by simp; omega
            clear hg hg2 E
            go_enter Try.func34, Try.ntmps34
            go_wp2_with fail
            refine (G.out _).mono ?_
            rintro e w1 ⟨rfl, rfl⟩
            go_wp2_with fail
            refine (G2.out _).mono ?_
            rintro e w1 ⟨rfl, rfl⟩
            go_wp2_with fail
            refine bodyPost_ret (v := .tuple #[.agg #[.string ⟨#[]⟩, .int .i64 0, .int .i64 0], .int .i64 0, .bool false]) (by simp [results, Try.results34, go_sem]) rfl ?_
            exact ⟨rfl, (Q.refl w).alloc _ _⟩
          · have E : M.stepOf s a = some (⟨⟨#[]⟩, p, u / 2⟩, n2) := by unfold M.stepOf; rw [hg]; simp only; rw [if_neg h0, if_neg hev, hg2]; simp only; rw [if_neg hfar]
            rw [E]
            have t2 : decide (72057594037927935 - (u : Int) / 2 < (p : Int)) = false := by simp; omega
            have TS := takeStep_any (p : Int) ((u / 2 : Nat) : Int)
            rw [hu2] at TS
            have TH : Hid _ := TS
            clear hg hg2 E TS
            go_enter Try.func34, Try.ntmps34
            go_wp2_with fail
            refine (G.out _).mono ?_
            rintro e w1 ⟨rfl, rfl⟩
            go_wp2_with fail
            refine (G2.out _).mono ?_
            rintro e w1 ⟨rfl, rfl⟩
            go_wp2_with fail
            refine (TH.out _).mono ?_
            rintro e w2 ⟨rfl, q2⟩
            obtain ⟨⟨x0, x1, x2⟩, ⟨y0, y1, y2⟩⟩ := new3 q2
            go_wp2_with fail
            obtain ⟨z0, z1, z2⟩ := stored3 x0 x1 x2 (.string ⟨#[]⟩) (.int .i64 (p : Int)) (.int .i64 ((u : Int) / 2))
            refine bodyPost_ret (v := .tuple #[.agg #[.string ⟨#[]⟩, .int .i64 (p : Int), .int .i64 ((u : Int) / 2)], .int .i64 (n2 : Int), .bool true]) (by simp [results, Try.results34, go_sem, z0, z1, z2]) rfl ?_
            exact ⟨by simp only [stepEnd, hu2], (((Q.refl w).alloc _ _).trans q2).set3 (Nat.le_refl _) _ _ _⟩
end Go.Proofs.Ytekdenkllipehaa
