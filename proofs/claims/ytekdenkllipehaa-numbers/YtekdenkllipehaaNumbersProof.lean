import Derived.Test.YtekdenkllipehaaRows
import Derived.Test.YtekdenkllipehaaPut
import Derived.Test.YtekdenkllipehaaGet
import Derived.Test.YtekdenkllipehaaRefPut
import Derived.Test.YtekdenkllipehaaRefGet
import Derived.WalkKit
import Derived.ProofKit
import Derived.OpenShut
import Derived.ShutString
import Derived.SizedLaws
import Derived.Test.YtekdenkllipehaaPut
import Derived.Test.YtekdenkllipehaaRefGet
import Derived.Test.YtekdenkllipehaaGet
namespace Go.Proofs.Ytekdenkllipehaa
namespace numbers
open Go.ChangeShapes Go.WideShapes Go.ChangeAt Go.RowKit
open Go.ChangeMaps (open_string shut_string)
set_option linter.unusedVariables false      -- a walk need not use every 'w<i>' (that an integer argument fits its kind)

theorem own : ownKnob Try.prog.godebug = none := by kernel_rfl

/-- Both Puts answer alike. -/
theorem puts (n : Int) (hn : (Lit.int .i64 n).wf = true) : ∃ (sv : ByteArray) (ev : Int),
    (∀ w, Calls Try.prog 9 #[.int .i64 n] w fun e w' => e = .returned (.tuple #[.string sv, .int .i64 ev]) ∧ Q w w') ∧
    (∀ w, Calls Try.prog 10 #[.int .i64 n] w fun e w' => e = .returned (.tuple #[.string sv, .int .i64 ev]) ∧ Q w w') := by
  by_cases h : n < 0 ∨ 72057594037927936 ≤ n
  · exact ⟨_, _, fun w => (put_no n h w).mono fun e w' ⟨he, hw⟩ => ⟨he, hw ▸ Q.refl w⟩, fun w => (refPut_no n h w).mono fun e w' ⟨he, hw⟩ => ⟨he, hw ▸ Q.refl w⟩⟩
  · obtain ⟨m, rfl⟩ := Int.eq_ofNat_of_zero_le (show 0 ≤ n by omega)
    exact ⟨_, _, fun w => put_yes m (by omega) w, fun w => refPut_yes m (by omega) w⟩

/-- Both Gets answer alike. -/
theorem gets (s : ByteArray) (a : Int) (hs : s.size ≤ 140737488351232) : ∃ (x y g : Int),
    (∀ w, Calls Try.prog 11 #[.string s, .int .i64 a] w fun e w' => e = .returned (.tuple #[.int .i64 x, .int .i64 y, .int .i64 g]) ∧ Q w w') ∧
    (∀ w, Calls Try.prog 12 #[.string s, .int .i64 a] w fun e w' => e = .returned (.tuple #[.int .i64 x, .int .i64 y, .int .i64 g]) ∧ Q w w') := by
  have hm : s.size ≤ maxLen := by unfold maxLen; omega
  by_cases h : a < 0 ∨ (s.size : Int) ≤ a
  · exact ⟨_, _, _, fun w => (get_out s a hm h w).mono fun e w' ⟨he, hw⟩ => ⟨he, hw ▸ Q.refl w⟩, fun w => (refGet_out s a hm h w).mono fun e w' ⟨he, hw⟩ => ⟨he, hw ▸ Q.refl w⟩⟩
  · obtain ⟨m, rfl⟩ := Int.eq_ofNat_of_zero_le (show 0 ≤ a by omega)
    have h1 := fun w => get_in s m hm (by omega) w
    have h2 := fun w => refGet_in s m hs (by omega) w
    generalize M.rd 8 [] (s.data.toList.drop m) = o at h1 h2
    cases o with
    | none => exact ⟨_, _, _, fun w => (h1 w).mono fun e w' ⟨he, hw⟩ => ⟨he, hw ▸ Q.refl w⟩, h2⟩
    | some p => exact ⟨_, _, _, fun w => (h1 w).mono fun e w' ⟨he, hw⟩ => ⟨he, hw ▸ Q.refl w⟩, h2⟩

set_option maxRecDepth 100000 in
theorem walk (a0 : Int) (a1 : ByteArray) (a2 : Int) (w0 : (Lit.int .i64 a0).wf = true) (w1 : a1.size ≤ 140737488351232) (w : World) :
    Calls Try.prog 3 #[.int .i64 a0, .string a1, .int .i64 a2] w fun e w' => e = .returned (.bool true) ∧ Q w w' := by
  obtain ⟨sv, ev, p1, p2⟩ := puts a0 w0
  obtain ⟨x, y, g, p3, p4⟩ := gets a1 a2 w1
  have P1 : Hid _ := p1
  have P2 : Hid _ := p2
  have P3 : Hid _ := p3
  have P4 : Hid _ := p4
  clear p1 p2 p3 p4
  go_enter Try.func3, Try.ntmps3
  go_wp2_with fail
  refine (P1.out _).mono ?_
  rintro e w1 ⟨rfl, q1⟩
  go_wp2_with fail
  refine (P2.out _).mono ?_
  rintro e w2 ⟨rfl, q2⟩
  go_wp2_with fail
  refine (P3.out _).mono ?_
  rintro e w3 ⟨rfl, q3⟩
  go_wp2_with fail
  refine (P4.out _).mono ?_
  rintro e w4 ⟨rfl, q4⟩
  go_wp2_with fail
  go_ret
  exact ⟨rfl, ((q1.trans q2).trans q3).trans q4⟩

/-! ### THE ROW's STEP: WRITTEN OUT: LEAVE IT -/
set_option maxRecDepth 100000 in
theorem lifted (os : Os) (started : os.Started) (H : Type) (enc : TypeId × Value → H) :
    ReturnsInHanded {} Try.checked os 3 .any (Rows.numbersSpec.pre6 enc Try.prog Try.f3 Rows.numbersRow.domain false) (Rows.numbersSpec.post enc Try.prog Try.f3 false true false false) := by
  refine returnsInHanded_of_change_sized (C := Try.checked) own started (by kernel_rfl) Try.func3
    (ChangeSpec.witness6 (enc := enc) (C := Try.checked) false ⟨#[], #[.int .i64 0, .string ByteArray.empty, .int .i64 0], []⟩ 8 (by kernel_rfl) (by kernel_rfl) (by kernel_rfl) (by kernel_rfl)) ?_
  intro W base args ds gs before hval0 hW hcnd hsz0 _
  have hsz : (DataW.weightsEach Try.prog (Try.f3.params.toList ++ Rows.numbersSpec.plain.varTypes Try.prog) (ds ++ gs)).all (· ≤ reachBytes) = true := hsz0
  have hval : ∀ (j : Nat) t v, Try.f3.params[j]? = some t → args[j]? = some v → Value.okWide Try.prog W .any base t v := hval0
  have hW' := hW
  obtain ⟨p, q, hA0, hV, rfl, hfz, hnd⟩ := hW
  have hA : DataW.TrodAll enc Try.prog W 0 (fun _ => true) true Try.f3.params.toList args.toList ds p := hA0
  rw [Try.params3] at hA hval hsz
  obtain ⟨v0, vs0, d0, ds0, p0, q0, hargs, rfl, rfl, h0, r0⟩ := trodAll_cons hA
  obtain ⟨v1, vs1, d1, ds1, p1, q1, rfl, rfl, rfl, h1, r1⟩ := trodAll_cons r0
  obtain ⟨v2, vs2, d2, ds2, p2, q2, rfl, rfl, rfl, h2, r2⟩ := trodAll_cons r1
  obtain ⟨rfl, rfl, rfl⟩ := trodAll_nil r2
  obtain rfl : args = #[v0, v1, v2] := by cases args; simp_all
  obtain ⟨rfl, rfl⟩ := trodVars_none hV
  obtain ⟨a0, rfl, rfl, rfl, w0⟩ := open_int Try.underlying3 (hval 0 3 v0 rfl rfl) h0
  obtain ⟨a1, rfl, rfl, rfl, w1⟩ := open_string Try.underlying9 (hval 1 9 v1 rfl rfl) h1
  obtain ⟨a2, rfl, rfl, rfl, w2⟩ := open_int Try.underlying3 (hval 2 3 v2 rfl rfl) h2
  have hr0 := sized_string hsz (j := 1) (t := 9) rfl rfl
  have hreach : a1.size ≤ 140737488351232 := by simpa [reachBytes] using hr0
  clear hA0 hval0
  simp only [List.append_nil] at hW'
  refine (walk a0 a1 a2 w0 hreach W).mono fun e W' ⟨he, hg⟩ => ?_
  subst he
  exact ⟨_, rfl, _, _, _, [], [], [], hW', trodAll_cons_mk (shut_bool Try.underlying4 _) trodAll_mk0, trodAll_cons_mk (shut_int Try.underlying3 w0) (trodAll_cons_mk (shut_string Try.underlying9 w1) (trodAll_cons_mk (shut_int Try.underlying3 w2) trodAll_mk0)), rfl, hg.below.frame _, fun h => by cases h⟩

theorem over : Rows.numbersRow.holds Try.pinned (OpenSpec.ofChange Rows.numbersSpec) :=
  OpenClaim.holds_of_wide 3 Try.f3 rfl rfl rfl rfl rfl rfl rfl ⟨rfl, rfl, rfl, rfl, rfl⟩ rfl rfl rfl rfl rfl (by kernel_rfl) Try.func3 (by kernel_rfl)
    (of_decide_eq_true (by kernel_rfl)) (by unfold Func.isWrapper; first | (rw [if_pos (by decide +kernel)]; kernel_rfl) | (rw [if_neg (by decide +kernel)]; exact ⟨rfl, rfl⟩))
    (fun os started H enc _ => lifted os started H enc)

end numbers

/-- THE STATEMENT. -/
theorem numbers_holds : Rows.NumbersSaid :=
  numbers.over
#print axioms numbers_holds
end Go.Proofs.Ytekdenkllipehaa
