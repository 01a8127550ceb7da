import Derived.Test.YtekdenkllipehaaDoorCards
import Derived.Test.YtekdenkllipehaaDoorTie
import Derived.Test.YtekdenkllipehaaDoorUnseal
import Derived.Test.YtekdenkllipehaaDoorRefUnseal
import Derived.WalkKit
import Derived.ProofKit
import Derived.OpenShut
import Derived.ShutString
import Derived.SizedLaws
import Derived.Deep.DeepHandedRow
import Derived.Lib.LaidTab
namespace Go.Proofs.YtekdenkllipehaaDoor
namespace seals
open Go.ChangeShapes Go.WideShapes Go.ChangeAt Go.RowKit
open Go.ChangeMaps (open_string shut_string)

theorem own : ownKnob Tryd.prog.godebug = none := by kernel_rfl
theorem gTab : Tryd.prog.globalNamed "strata/wire.halves" = some 0 := by kernel_rfl
theorem gTabType : (Tryd.prog.globals[0]?).map (·.type) = some 45 := by kernel_rfl
theorem cellsTab : Tryd.prog.cellsOf 45 = 16 := by kernel_rfl
theorem cellsWord : Tryd.prog.cellsOf 43 = 1 := by kernel_rfl

/-- The numbers of the table. -/
def nums : List Int := [0, 274646895, 549293790, 820201905, 1098587580, 1361435347, 1640403810, 1905808397, 2197175160, 2460548119, 2722870694, 2987750089, 3280807620, 3553878443, 3811616794, 4084100981]

theorem table {W : World} (h : laidMetH Tryd.prog Rows.sealsRow.laid W) : Lib.TabIs Tryd.prog W "strata/wire.halves" .u32 nums :=
  Lib.tabIs_of_head (rest := []) gTab gTabType Tryd.underlying45 Tryd.underlying43 cellsWord cellsTab h

theorem tab {W : World} (h : laidMetH Tryd.prog Rows.sealsRow.laid W) : Tab W := by
  intro i hi
  have hc := (table h).cell gTab i hi
  rw [hc]
  have hall : ∀ x : Fin 16, nums.getD x.val 0 = (M.half x.val : Int) := by decide
  rw [hall ⟨i, hi⟩]

theorem tabPos {w : World} (h : Tab w) : 0 < w.heap.size := by
  have h0 := h 0 (by omega)
  rcases Nat.eq_zero_or_pos w.heap.size with e | e
  · exfalso
    unfold World.cell? at h0
    rw [Array.getElem?_eq_none (by omega)] at h0
    simp at h0
  · exact e

theorem tabBelow {w w' : World} (h : Tab w) (hb : Below w.heap.size w w') : Tab w' := fun i hi => (hb.cell (p := ⟨0, i, none⟩) (tabPos h)).trans (h i hi)

/-- Both Unseals answer alike. -/
theorem unseals (s : ByteArray) (hs : s.size ≤ 281474976710656) : ∃ (T : ByteArray) (c : Int),
    (∀ w, Tab w → Calls Tryd.prog 10 #[.string s] w fun e w' => e = .returned (.tuple #[.string T, .int .i64 c]) ∧ Below w.heap.size w w') ∧
    (∀ w, Calls Tryd.prog 11 #[.string s] w fun e w' => e = .returned (.tuple #[.string T, .int .i64 c]) ∧ Below w.heap.size w w') := by
  by_cases h : s.size < 4
  · exact ⟨_, _, fun w _ => (unseal_short s h w).mono fun e w' ⟨he, hw⟩ => ⟨he, by subst hw; exact Below.refl _ _⟩, fun w => (refUnseal_short s h w).mono fun e w' ⟨he, hw⟩ => ⟨he, by subst hw; exact Below.refl _ _⟩⟩
  · obtain ⟨n, hn⟩ : ∃ n, s.size = n + 4 := ⟨s.size - 4, by omega⟩
    have hR : s = s.extract 0 n ++ s.extract n (n + 4) := by
      apply bytes_inj
      rw [ByteArray.data_append, Array.toList_append, ByteArray.data_extract, ByteArray.data_extract, Array.toList_extract, Array.toList_extract, List.extract_eq_take_drop, List.extract_eq_take_drop,
        List.drop_zero, Nat.sub_zero, show n + 4 - n = 4 by omega, List.take_of_length_le (l := s.data.toList.drop n) (by simp; omega), List.take_append_drop]
    have h8 := fun w hT => unseal_long s (s.extract 0 n) (s.extract n (n + 4)) n (by omega) hn rfl rfl w hT
    have h9 := fun w => refUnseal_long s (s.extract 0 n) (s.extract n (n + 4)) n (by omega) hn rfl hR w
    unfold opened at h8 h9
    by_cases hc : (s.extract n (n + 4)).data.toList = M.le4 (M.sum (s.extract 0 n).data.toList)
    · simp only [if_pos hc] at h8 h9
      exact ⟨_, _, h8, h9⟩
    · simp only [if_neg hc] at h8 h9
      exact ⟨_, _, h8, h9⟩

/-- A sealed text is opened. -/
theorem reopened (s : ByteArray) (hs : s.size ≤ 140737488351232) (w : World) (hT : Tab w) :
    Calls Tryd.prog 10 #[.string ⟨(M.sealed s.data.toList).toArray⟩] w fun e w' => e = .returned (.tuple #[.string s, .int .i64 0]) ∧ Below w.heap.size w w' := by
  refine unseal_yes _ s ⟨(M.le4 (M.sum s.data.toList)).toArray⟩ s.size (by omega) ?_ ?_ ?_ w hT rfl
  · show (M.sealed s.data.toList).toArray.size = _
    simp [M.sealed_length]
  · apply bytes_inj
    rw [ByteArray.data_extract, Array.toList_extract, List.extract_eq_take_drop]
    simp [M.sealed]
  · apply bytes_inj
    rw [ByteArray.data_extract, Array.toList_extract, List.extract_eq_take_drop]
    simp [M.sealed, M.le4]

set_option maxRecDepth 100000 in
set_option maxHeartbeats 400000 in
theorem walk (s : ByteArray) (hs : s.size ≤ 140737488351232) (w : World) (hT : Tab w) :
    Calls Tryd.prog 3 #[.string s] w fun e w' => e = .returned (.bool true) ∧ Below w.heap.size w w' := by
  obtain ⟨T, c, p5, p6⟩ := unseals s (by omega)
  have p1 := fun w hT => sum_any s (by omega) w hT
  have p2 := fun w => refSum_any s (by omega) w
  have p3 := fun w hT => wireSeal_any s (by omega) w hT
  have p4 := fun w => refSeal_any s (by omega) w
  have p7 := fun w hT => reopened s hs w hT
  generalize M.sum s.data.toList = n at *
  generalize (⟨(M.sealed s.data.toList).toArray⟩ : ByteArray) = b at *
  have P1 : Hid _ := p1
  have P2 : Hid _ := p2
  have P3 : Hid _ := p3
  have P4 : Hid _ := p4
  have P5 : Hid _ := p5
  have P6 : Hid _ := p6
  have P7 : Hid _ := p7
  clear p1 p2 p3 p4 p5 p6 p7
  go_enter Tryd.func3, Tryd.ntmps3
  go_wp2_with fail
  refine (P1.out _ hT).mono ?_
  rintro e w1 ⟨rfl, rfl⟩
  go_wp2_with fail
  refine (P2.out _).mono ?_
  rintro e w2 ⟨rfl, rfl⟩
  go_wp2_with fail
  refine (P3.out _ hT).mono ?_
  rintro e w3 ⟨rfl, q3⟩
  go_wp2_with fail
  refine (P4.out _).mono ?_
  rintro e w4 ⟨rfl, q4⟩
  have hT4 := tabBelow (tabBelow hT q3) q4
  go_wp2_with fail
  refine (P5.out _ hT4).mono ?_
  rintro e w5 ⟨rfl, q5⟩
  go_wp2_with fail
  refine (P6.out _).mono ?_
  rintro e w6 ⟨rfl, q6⟩
  have hT6 := tabBelow (tabBelow hT4 q5) q6
  go_wp2_with fail
  refine (P7.out _ hT6).mono ?_
  rintro e w7 ⟨rfl, q7⟩
  have r4 := q3.trans (q4.mono q3.size)
  have r5 := r4.trans (q5.mono r4.size)
  have r6 := r5.trans (q6.mono r5.size)
  have r7 := r6.trans (q7.mono r6.size)
  clear q3 q4 q5 q6 q7 r4 r5 r6
  go_wp2_with fail
  go_ret
  exact ⟨rfl, r7⟩

/-- What the walk gives, for every argument and every world that holds the table. -/
theorem contract (H : Type) (enc : TypeId × Value → H) (W : World) (base : Nat) (args : Array Value) (ds gs : List (DataW H)) (before : List MemPlace)
    (hval : ∀ (j : Nat) t v, Tryd.f3.params[j]? = some t → args[j]? = some v → Value.okWide Tryd.prog W .any base t v)
    (hW : DataW.Whole enc Tryd.prog Tryd.f3.params.toList Rows.sealsSpec.vars false W args.toList ds gs before)
    (hsz : (DataW.weightsEach Tryd.prog (Tryd.f3.params.toList ++ Rows.sealsSpec.plain.varTypes Tryd.prog) (ds ++ gs)).all (· ≤ reachBytes) = true) (hL : laidMetH Tryd.prog Rows.sealsRow.laid W) :
    Calls Tryd.prog 3 args W fun e W' => ∃ v, e = .returned v ∧ Rows.sealsSpec.post enc Tryd.prog Tryd.f3 false true false false W args v W' := by
  have hW' := hW
  obtain ⟨p, q, hA0, hV, rfl, hfz, hnd⟩ := hW
  have hA : DataW.TrodAll enc Tryd.prog W 0 (fun _ => true) true Tryd.f3.params.toList args.toList ds p := hA0
  rw [Tryd.params3] at hA hval hsz
  obtain ⟨v0, vs0, d0, ds0, p0, q0, hargs, rfl, rfl, h0, r0⟩ := trodAll_cons hA
  obtain ⟨rfl, rfl, rfl⟩ := trodAll_nil r0
  obtain rfl : args = #[v0] := by cases args; simp_all
  obtain ⟨rfl, rfl⟩ := trodVars_none hV
  obtain ⟨a0, rfl, rfl, rfl, w0⟩ := open_string Tryd.underlying9 (hval 0 9 v0 rfl rfl) h0
  have hr0 := sized_string hsz (j := 0) (t := 9) rfl rfl
  have hreach : a0.size ≤ 140737488351232 := by simpa [reachBytes] using hr0
  clear hA0
  simp only [List.append_nil] at hW'
  refine (walk a0 hreach W (tab hL)).mono fun e W' ⟨he, hb⟩ => ?_
  subst he
  exact ⟨_, rfl, _, _, _, [], [], [], hW', trodAll_cons_mk (shut_bool Tryd.underlying4 _) trodAll_mk0, trodAll_cons_mk (shut_string Tryd.underlying9 w0) trodAll_mk0, rfl, hb.frame _, fun h => by cases h⟩

/-- A world for the witness: the settled one, the table (block 0) holding what its initialiser lays. -/
def laidIn (P : Program) (os : Os) : World :=
  { World.holding P os ⟨#[], #[], []⟩ with heap := (World.holding P os ⟨#[], #[], []⟩).heap.modify 0 fun
      | .cells _ t frozen => .cells #[.int .u32 0, .int .u32 274646895, .int .u32 549293790, .int .u32 820201905, .int .u32 1098587580, .int .u32 1361435347, .int .u32 1640403810, .int .u32 1905808397, .int .u32 2197175160, .int .u32 2460548119, .int .u32 2722870694, .int .u32 2987750089, .int .u32 3280807620, .int .u32 3553878443, .int .u32 3811616794, .int .u32 4084100981] t frozen
      | o => o }
theorem laid_met (os : Os) : laidMet Tryd.prog Rows.sealsRow.laid ((laidIn Tryd.prog os).forCall (fun _ _ => 0) ⟨#[], #[.string ByteArray.empty], []⟩).memory :=
  laidMet_of_run' 8 (by kernel_rfl) (by kernel_rfl)
theorem reads (os : Os) {H : Type} (enc : TypeId × Value → H) : ∃ places, DataW.whole enc Tryd.prog ((laidIn Tryd.prog os).forCall (fun _ _ => 0) ⟨#[], #[.string ByteArray.empty], []⟩).memory Tryd.f3.params.toList Rows.sealsSpec.vars false #[Value.string ByteArray.empty].toList 8 = some ([.lit (.string [])], [], places) :=
  ⟨[], by kernel_rfl⟩

set_option maxRecDepth 100000 in
theorem lifted (os : Os) (started : os.Started) (H : Type) (enc : TypeId × Value → H) (F : Stop.Interp) :
    ReturnsInHanded {} Tryd.checked os 3 .any ((OpenSpec.ofChange Rows.sealsSpec).preRow enc Tryd.prog Tryd.f3 Rows.sealsRow.domain false Rows.sealsRow.laid) (((OpenSpec.ofChange Rows.sealsSpec).at F).post enc Tryd.prog Tryd.f3 false true false false) := by
  obtain ⟨places, hx⟩ := reads os enc
  refine returnsInHanded_of_row (C := Tryd.checked) (s := OpenSpec.ofChange Rows.sealsSpec) own started (by kernel_rfl) Tryd.func3
    (witness_row_at (enc := enc) (C := Tryd.checked) false (laidIn Tryd.prog os) #[.string ByteArray.empty] rfl (by kernel_rfl) (by kernel_rfl) (by kernel_rfl)
      (OpenSpec.preRow_of_cond 8 hx (by kernel_rfl) (fun k hk => by cases hk) (by kernel_rfl) (laid_met os))) ?_
  intro W base args ds gs before hval hW _ _ hsz hL _ _
  exact contract H enc W base args ds gs before hval hW hsz hL

theorem said : Rows.SealsSaid :=
  OpenClaim.holds_of_cond 3 Tryd.f3 rfl rfl rfl rfl rfl rfl rfl ⟨rfl, rfl, rfl, rfl, rfl⟩ rfl rfl rfl rfl rfl (by kernel_rfl) Tryd.func3 (by kernel_rfl)
    (of_decide_eq_true (by kernel_rfl)) (by unfold Func.isWrapper; first | (rw [if_pos (by decide +kernel)]; kernel_rfl) | (rw [if_neg (by decide +kernel)]; exact ⟨rfl, rfl⟩))
    (fun os started H enc _ F => by rw [OpenClaim.pre_eq_preRow]; exact lifted os started H enc F)

/-- No parameter wants a stand-in; the program's own looks are off. -/
theorem plain (f : FuncId) (fn : Func) (hf : Tryd.pinned.checked.prog.funcNamed "strata/stratalaw.Seals" = some f) (hfn : Tryd.pinned.checked.prog.funcs[f]? = some fn) :
    false = Tryd.pinned.checked.prog.looks [] ∧ ∀ (j : Nat) t, fn.params[j]? = some t → Tryd.pinned.checked.prog.wantsStandIn t = false := by
  obtain rfl : f = 3 := Option.some.inj ((show Tryd.prog.funcNamed "strata/stratalaw.Seals" = some 3 by kernel_rfl).symm.trans hf) |>.symm
  obtain rfl : fn = Tryd.f3 := (Option.some.inj (Tryd.func3.symm.trans hfn)).symm
  refine ⟨by kernel_rfl, fun j t ht => ?_⟩
  rw [Tryd.params3] at ht
  obtain rfl : t = 9 := by simpa using Array.mem_of_getElem? ht
  exact (show Tryd.prog.wantsStandIn 9 = false by kernel_rfl)
end seals

/-- The tied card. -/
theorem seals_holds : Rows.SealsCardSaid :=
  Claim7.holds_tied_plain_at .later [] _ _ _ _ seals.said (fun _ h => by cases h) (by kernel_rfl) (fun _ h => by cases h) seals_row_tie rfl ⟨rfl, rfl⟩ (by kernel_rfl) rfl seals.plain (by kernel_rfl)
#print axioms seals_holds
end Go.Proofs.YtekdenkllipehaaDoor
