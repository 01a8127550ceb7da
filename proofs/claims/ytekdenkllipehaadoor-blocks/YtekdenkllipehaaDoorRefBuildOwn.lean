/-
  The reference's Build on a row that the call owns (the records that Parse has read); its Parse where Unseal refuses.
-/
import Derived.Test.YtekdenkllipehaaDoorRefBuild
import Derived.Test.YtekdenkllipehaaDoorRefParse
import Derived.Test.YtekdenkllipehaaDoorRefUnseal
namespace Go.Proofs.YtekdenkllipehaaDoor
open Go.RowKit

set_option maxRecDepth 100000 in
set_option maxHeartbeats 400000 in
theorem refBuild_nil (cap : Nat) (w : World) :
    Calls Tryd.prog 14 #[.slice none 0 cap] w fun e w' => e = builtEnd (textTo [] 0) ∧ Q w w' := by
  obtain ⟨p, hp, HP, HW0⟩ := piece 0 (by omega)
  have hS := fun w => refSeal_any p (by omega) w
  rw [HP.out] at hS
  have HS : Hid _ := hS
  clear hS
  go_enter Tryd.func14, Tryd.ntmps14
  go_wp2_with fail
  refine (HW0.out _).mono ?_
  rintro e w1 ⟨rfl, q1⟩
  go_wp2_with fail
  go_loopw [4, 5] (fun s i wr => i = .int .i64 0 ∧ s = .string p ∧ Q w wr) (fun _ _ _ => 0)
  case atStart => exact ⟨rfl, rfl, q1⟩
  case round =>
    obtain ⟨rfl, rfl, hq⟩ := hrel
    go_wp2_with fail
    refine (HS.out _).mono ?_
    rintro e w2 ⟨rfl, q2⟩
    go_wp2_with fail
    go_ret2
    exact ⟨rfl, hq.trans ⟨q2⟩⟩

theorem builtAs_seal (o : Option (List UInt8)) : builtAs sealText o = builtEnd o := by cases o <;> rfl

theorem refBuild_own (l : List Rec) (ao : Option Addr) (cap base : Nat) (w : World) (hwf : ∀ r ∈ l, r.Wf) (hl : l.length ≤ 65) (h : w.ownsRow base 30 4 (.slice ao l.length cap) l.length (recCells l)) :
    Calls Tryd.prog 14 #[.slice ao l.length cap] w fun e w' => e = builtAs sealText (plainText l) ∧ Q w w' := by
  rw [builtAs_seal]
  by_cases h64 : 64 < l.length
  · refine (refBuild_many ao l.length cap h64 (by omega) w).mono ?_
    rintro e w' ⟨rfl, rfl⟩
    refine ⟨?_, Q.refl _⟩
    unfold plainText
    rw [if_pos h64]
    rfl
  · have hpl : plainText l = textTo l l.length := by unfold plainText; rw [if_neg h64]
    rw [hpl]
    rcases h.2 with ⟨hv, h0⟩ | ⟨g, c, cur, hv, hg, hh, _⟩
    · have hl0 : l = [] := List.eq_nil_of_length_eq_zero h0
      subst hl0
      injection hv with e1 _ e3
      subst e1
      exact refBuild_nil cap w
    · by_cases hne : l = []
      · subst hne
        injection hv with e1 _ e3
        subst e1
        have hlt : g < w.heap.size := by
          rcases Nat.lt_or_ge g w.heap.size with hl | hl
          · exact hl
          · rw [Array.getElem?_eq_none hl] at hh; simp at hh
        exact refBuild_few g 0 cap [] (by simp) hwf w (fun k r hr => by simp at hr) hlt
      · obtain ⟨g', rfl, hlt, hr⟩ := own_recs h hne
        exact refBuild_few g' 0 cap l (by omega) hwf w hr hlt

set_option maxRecDepth 100000 in
set_option maxHeartbeats 400000 in
/-- Parse, where Unseal refuses. -/
theorem refParse_refused (s u : ByteArray) (x : Int) (hx : x ≠ 0) (w : World) (hU : Calls Tryd.prog 11 #[.string s] w fun e w' => e = .returned (.tuple #[.string u, .int .i64 x]) ∧ Q w w') :
    Calls Tryd.prog 17 #[.string s] w fun e w' => e = .returned (.tuple #[.slice none 0 0, .int .i64 x]) ∧ Q w w' := by
  have HU : Hid _ := fun (_ : Unit) => hU
  clear hU
  go_enter Tryd.func17, Tryd.ntmps17
  go_wp2_with fail
  refine (HU.out ()).mono ?_
  rintro e w1 ⟨rfl, q1⟩
  go_wp2_with fail
  go_ret2
  exact ⟨rfl, q1⟩

theorem refParse_any (s : ByteArray) (hs : s.size ≤ 140737488351232) (w : World) :
    Calls Tryd.prog 17 #[.string s] w fun e w' => ParsedAny s w e w' ∧ Q w w' := by
  by_cases h4 : s.size < 4
  · refine (refParse_refused s ⟨#[]⟩ 2 (by decide) w ((refUnseal_short s h4 w).mono ?_)).mono ?_
    · rintro e w' ⟨rfl, rfl⟩
      exact ⟨rfl, Q.refl _⟩
    · rintro e w' ⟨rfl, q⟩
      exact ⟨Or.inl ⟨h4, rfl⟩, q⟩
  · obtain ⟨n, hn⟩ : ∃ n, s.size = n + 4 := ⟨s.size - 4, by omega⟩
    obtain ⟨T, hT⟩ : ∃ T, s.extract 0 n = T := ⟨_, rfl⟩
    obtain ⟨R, hR⟩ : ∃ R, s.extract n (n + 4) = R := ⟨_, rfl⟩
    have hsR : s = T ++ R := by
      rw [← hT, ← hR, ByteArray.extract_append_extract]
      simp [← hn]
    have hTs : T.size = n := by rw [← hT]; simp; omega
    have hU := fun w => refUnseal_long s T R n (by omega) hn hT hsR w
    by_cases hc : R.data.toList = M.le4 (M.sum T.data.toList)
    · have hse : sealText T.data.toList = s := (sealed_of T R hc).trans hsR.symm
      refine (refParse_open s T (by omega) (fun w => (hU w).mono ?_) sealText ?_ refBuild_own w).mono ?_
      · rintro e w' ⟨rfl, q⟩
        refine ⟨?_, ⟨q⟩⟩
        unfold opened
        rw [if_pos hc]
      · intro t
        constructor
        · intro h
          exact sealText_inj (h.trans hse.symm)
        · rintro rfl
          exact hse
      · rintro e w' ⟨hp, q⟩
        exact ⟨Or.inr (Or.inr ⟨T, hse, hp⟩), q⟩
    · refine (refParse_refused s ⟨#[]⟩ 3 (by decide) w ((hU w).mono ?_)).mono ?_
      · rintro e w' ⟨rfl, q⟩
        refine ⟨?_, ⟨q⟩⟩
        unfold opened
        rw [if_neg hc]
      · rintro e w' ⟨rfl, q⟩
        refine ⟨Or.inr (Or.inl ⟨by omega, ?_, rfl⟩), q⟩
        intro t ht
        have h1 : M.sealed t = T.data.toList ++ R.data.toList := by
          have := congrArg (fun x : ByteArray => x.data.toList) (ht.trans hsR)
          simpa [sealText] using this
        have hRs : R.data.toList.length = 4 := by
          have : R.size = 4 := by rw [← hR]; simp; omega
          exact Array.length_toList.trans this
        have hl := congrArg List.length h1
        rw [M.sealed_length, List.length_append, hRs] at hl
        unfold M.sealed at h1
        obtain ⟨e1, e2⟩ := List.append_inj h1 (by omega)
        rw [← e1] at hc
        exact hc e2.symm

end Go.Proofs.YtekdenkllipehaaDoor
