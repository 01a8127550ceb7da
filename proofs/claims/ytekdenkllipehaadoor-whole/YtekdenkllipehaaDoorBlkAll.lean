/-
  The landed block: Build and Parse.
-/
import Derived.Test.YtekdenkllipehaaDoorBlkEnd
import Derived.Test.YtekdenkllipehaaDoorBlkWrite
import Derived.Test.YtekdenkllipehaaDoorUnseal
namespace Go.Proofs.YtekdenkllipehaaDoor
open Go.RowKit

set_option maxRecDepth 100000 in
set_option maxHeartbeats 400000 in
theorem build_any (rs : List Rec) (ao : Option Addr) (cap : Nat) (w : World) (h : Rcs w ao rs) (hl : rs.length ≤ 140737488351232) (hT : Tab w) :
    Calls Tryd.prog 13 #[.slice ao rs.length cap] w fun e w' => e = builtEnd (plainText rs) ∧ Q w w' := by
  have HF := fit_any rs ao cap w h hl
  cases ht : plainText rs with
  | none =>
    rw [ht] at HF
    have HFi : Hid _ := fun (_ : Unit) => HF
    clear HF
    go_enter Tryd.func13, Tryd.ntmps13
    go_wp2_with fail
    refine (HFi.out ()).mono ?_
    rintro e w1 ⟨rfl, q1⟩
    go_wp2_with fail
    go_ret2
    exact ⟨rfl, q1⟩
  | some t =>
    rw [ht] at HF
    have HFi : Hid _ := fun (_ : Unit) => HF
    have HWr : Hid _ := fun W (q : Q w W) => blkWrite_any rs t ht ao cap W (h.kept q)
    have hlt := textTo_length (plainText_some ht).2
    have h64 := (plainText_some ht).1
    have hts : (⟨t.toArray⟩ : ByteArray).size = t.length := rfl
    have hSe := fun W (hT : Tab W) => wireSeal_any ⟨t.toArray⟩ (by rw [hts]; omega) W hT
    rw [show (⟨t.toArray⟩ : ByteArray).data.toList = t from List.toList_toArray] at hSe
    have HS : Hid _ := hSe
    have HR : Hid (builtEnd (some t) = .returned (.tuple #[.string ⟨(M.sealed t).toArray⟩, .int .i64 0])) := (rfl : builtEnd (some t) = _)
    rw [HR.out]
    generalize (⟨(M.sealed t).toArray⟩ : ByteArray) = sx at *
    generalize (⟨t.toArray⟩ : ByteArray) = tx at *
    clear HF hSe hts
    go_enter Tryd.func13, Tryd.ntmps13
    go_wp2_with fail
    refine (HFi.out ()).mono ?_
    rintro e w1 ⟨rfl, q1⟩
    go_wp2_with fail
    refine (HWr.out _ q1).mono ?_
    rintro e w2 ⟨rfl, q2⟩
    go_wp2_with fail
    refine (HS.out _ (tab_kept hT (q1.trans q2))).mono ?_
    rintro e w3 ⟨rfl, q3⟩
    go_wp2_with fail
    go_ret2
    exact ⟨rfl, (q1.trans q2).trans ⟨q3⟩⟩

set_option maxRecDepth 100000 in
set_option maxHeartbeats 400000 in
/-- Parse, where Unseal refuses. -/
theorem parse_refused (s u : ByteArray) (x : Int) (hx : x ≠ 0) (w : World) (hU : Calls Tryd.prog 10 #[.string s] w fun e w' => e = .returned (.tuple #[.string u, .int .i64 x]) ∧ Q w w') :
    Calls Tryd.prog 16 #[.string s] w fun e w' => e = .returned (.tuple #[.slice none 0 0, .int .i64 x]) ∧ Q w w' := by
  have HU : Hid _ := fun (_ : Unit) => hU
  clear hU
  go_enter Tryd.func16, Tryd.ntmps16
  go_wp2_with fail
  refine (HU.out ()).mono ?_
  rintro e w1 ⟨rfl, q1⟩
  go_wp2_with fail
  go_ret2
  exact ⟨rfl, q1⟩

theorem own_rcs {w : World} {base : Nat} {ao : Option Addr} {cap : Nat} {L : List Rec} (h : w.ownsRow base 30 4 (.slice ao L.length cap) L.length (recCells L)) : Rcs w ao L := by
  by_cases hne : L = []
  · exact Or.inl hne
  · obtain ⟨g, e, hg, hr⟩ := own_recs h hne
    exact Or.inr ⟨g, 0, e, hg, hr⟩

set_option maxRecDepth 100000 in
set_option maxHeartbeats 800000 in
/-- Parse, where Unseal opens. -/
theorem parse_open (s T : ByteArray) (hs : T.size ≤ 140737488351232) (w : World) (hU : Calls Tryd.prog 10 #[.string s] w fun e w' => e = .returned (.tuple #[.string T, .int .i64 0]) ∧ Q w w') :
    Calls Tryd.prog 16 #[.string s] w fun e w' => Parsed T w e w' ∧ Q w w' := by
  have HU : Hid _ := fun (_ : Unit) => hU
  have HRd : Hid _ := fun W => read_any T hs W
  have hbl : (readAllTo T.data.toList).length ≤ 64 := by
    unfold readAllTo
    rw [rdTo_length]
    exact (numTo_le (T := T.data.toList) (most := 64) (a := 0) (by omega)).2.1
  have HP : Hid (∀ rs, plainText rs = some T.data.toList → readAllTo T.data.toList = rs) := fun rs => readAllTo_plain
  generalize readAllTo T.data.toList = l at *
  have HFt : Hid _ := fun ao cap W h => fit_any l ao cap W h (by omega)
  clear hU
  cases hp : plainText l with
  | none =>
    rw [hp] at HFt
    have HN : Hid (∀ rs, plainText rs ≠ some T.data.toList) := fun rs hr => by
      have := HP.out rs hr
      subst this
      rw [hp] at hr
      cases hr
    go_enter Tryd.func16, Tryd.ntmps16
    go_wp2_with fail
    refine (HU.out ()).mono ?_
    rintro e w1 ⟨rfl, q1⟩
    go_wp2_with fail
    refine (HRd.out _).mono ?_
    rintro e w2 ⟨⟨ao, cap, rfl, hown⟩, q2⟩
    go_wp2_with fail
    refine (HFt.out ao cap _ (own_rcs hown)).mono ?_
    rintro e w3 ⟨rfl, q3⟩
    go_wp2_with fail
    go_ret2
    exact ⟨Or.inr ⟨rfl, HN.out⟩, (q1.trans q2).trans q3⟩
  | some t =>
    rw [hp] at HFt
    have HWr : Hid _ := fun ao cap W h => blkWrite_any l t hp ao cap W h
    have htl : (⟨t.toArray⟩ : ByteArray).toList = t := by rw [ByteArray.toList_eq]
    have hTl : T.toList = T.data.toList := by rw [ByteArray.toList_eq]
    by_cases hEq : t = T.data.toList
    · have hb : ((⟨t.toArray⟩ : ByteArray).toList == T.toList) = true := by rw [htl, hTl]; simpa using hEq
      have HPl : Hid (plainText l = some T.data.toList) := by show _ = _; rw [hp, hEq]
      clear htl hTl hEq hp
      generalize (⟨t.toArray⟩ : ByteArray) = tx at *
      go_enter Tryd.func16, Tryd.ntmps16
      go_wp2_with fail
      refine (HU.out ()).mono ?_
      rintro e w1 ⟨rfl, q1⟩
      go_wp2_with fail
      refine (HRd.out _).mono ?_
      rintro e w2 ⟨⟨ao, cap, rfl, hown⟩, q2⟩
      go_wp2_with fail
      refine (HFt.out ao cap _ (own_rcs hown)).mono ?_
      rintro e w3 ⟨rfl, q3⟩
      have hown3 := own_below hown q3.below
      go_wp2_with fail
      refine (HWr.out ao cap _ (own_rcs hown3)).mono ?_
      rintro e w4 ⟨rfl, q4⟩
      have hown4 := own_below hown3 q4.below
      go_wp2_with fail
      go_ret2
      exact ⟨Or.inl ⟨l, ao, cap, _, rfl, HPl.out, by have := q1.below.size; omega, hown4⟩, ((q1.trans q2).trans q3).trans q4⟩
    · have hb : ((⟨t.toArray⟩ : ByteArray).toList == T.toList) = false := by rw [htl, hTl]; simpa using hEq
      have HN : Hid (∀ rs, plainText rs ≠ some T.data.toList) := fun rs hr => by
        have := HP.out rs hr
        subst this
        rw [hp] at hr
        exact hEq (Option.some.inj hr)
      clear htl hTl hEq hp
      generalize (⟨t.toArray⟩ : ByteArray) = tx at *
      go_enter Tryd.func16, Tryd.ntmps16
      go_wp2_with fail
      refine (HU.out ()).mono ?_
      rintro e w1 ⟨rfl, q1⟩
      go_wp2_with fail
      refine (HRd.out _).mono ?_
      rintro e w2 ⟨⟨ao, cap, rfl, hown⟩, q2⟩
      go_wp2_with fail
      refine (HFt.out ao cap _ (own_rcs hown)).mono ?_
      rintro e w3 ⟨rfl, q3⟩
      have hown3 := own_below hown q3.below
      go_wp2_with fail
      refine (HWr.out ao cap _ (own_rcs hown3)).mono ?_
      rintro e w4 ⟨rfl, q4⟩
      go_wp2_with fail
      go_ret2
      exact ⟨Or.inr ⟨rfl, HN.out⟩, ((q1.trans q2).trans q3).trans q4⟩

theorem parse_any (s : ByteArray) (hs : s.size ≤ 140737488351232) (w : World) (hTab : Tab w) :
    Calls Tryd.prog 16 #[.string s] w fun e w' => ParsedAny s w e w' ∧ Q w w' := by
  by_cases h4 : s.size < 4
  · refine (parse_refused s ⟨#[]⟩ 2 (by decide) w ((unseal_short s h4 w).mono ?_)).mono ?_
    · rintro e w' ⟨rfl, rfl⟩
      exact ⟨rfl, Q.refl _⟩
    · rintro e w' ⟨rfl, q⟩
      exact ⟨Or.inl ⟨h4, rfl⟩, q⟩
  · obtain ⟨n, hn⟩ : ∃ n, s.size = n + 4 := ⟨s.size - 4, by omega⟩
    obtain ⟨T, hT⟩ : ∃ T, s.extract 0 n = T := ⟨_, rfl⟩
    obtain ⟨R, hR⟩ : ∃ R, s.extract n (n + 4) = R := ⟨_, rfl⟩
    have hsR : s = T ++ R := by
      rw [← hT, ← hR, ByteArray.extract_append_extract]
      simp [← hn]
    have hTs : T.size = n := by rw [← hT]; simp; omega
    have hU := unseal_long s T R n (by omega) hn hT hR w hTab
    by_cases hc : R.data.toList = M.le4 (M.sum T.data.toList)
    · have hse : sealText T.data.toList = s := (sealed_of T R hc).trans hsR.symm
      refine (parse_open s T (by omega) w (hU.mono ?_)).mono ?_
      · rintro e w' ⟨rfl, q⟩
        refine ⟨?_, ⟨q⟩⟩
        unfold opened
        rw [if_pos hc]
      · rintro e w' ⟨hp, q⟩
        exact ⟨Or.inr (Or.inr ⟨T, hse, hp⟩), q⟩
    · refine (parse_refused s ⟨#[]⟩ 3 (by decide) w (hU.mono ?_)).mono ?_
      · rintro e w' ⟨rfl, q⟩
        refine ⟨?_, ⟨q⟩⟩
        unfold opened
        rw [if_neg hc]
      · rintro e w' ⟨rfl, q⟩
        refine ⟨Or.inr (Or.inl ⟨by omega, ?_, rfl⟩), q⟩
        intro t ht
        have h1 : M.sealed t = T.data.toList ++ R.data.toList := by
          have := congrArg (fun x : ByteArray => x.data.toList) (ht.trans hsR)
          simpa [sealText] using this
        have hRs : R.data.toList.length = 4 := by
          have : R.size = 4 := by rw [← hR]; simp; omega
          exact Array.length_toList.trans this
        have hl := congrArg List.length h1
        rw [M.sealed_length, List.length_append, hRs] at hl
        unfold M.sealed at h1
        obtain ⟨e1, e2⟩ := List.append_inj h1 (by omega)
        rw [← e1] at hc
        exact hc e2.symm
end Go.Proofs.YtekdenkllipehaaDoor
