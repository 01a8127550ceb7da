import Derived.Test.YtekdenkllipehaaReading
namespace Go.Proofs.Ytekdenkllipehaa
open Go.RowKit

set_option maxRecDepth 100000 in
set_option maxHeartbeats 800000 in
theorem refRead_some (s : ByteArray) (hs : s.size ≤ 140737488351232) (size a0 : Nat) (h0 : M.getAt s.data.toList 0 = some (size, a0)) (hsz : ¬ 4096 < size) (w : World) :
    Calls Try.prog 17 #[.string s] w fun e w' => ReadEnd size (M.stepsAt s.data.toList size (s.data.toList.length + 1) a0 []) w e w' := by
  have hb0 := M.getAt_bound h0
  have hG := refGet_some s 0 size a0 hs h0
  rw [show ((0 : Nat) : Int) = 0 from rfl] at hG
  have HG : Hid _ := hG
  have hl : s.data.toList.length = s.size := by simp
  have HB : Hid (∀ (k : Nat) (h : k < s.size), s.data.toList[k]? = some s[k]) := fun k h => by rw [List.getElem?_eq_getElem (by simpa using h)]; rfl
  have hA := M.at_start s.data.toList size a0 (by omega)
  have hnone := refGet_none s
  have hsome := refGet_some s
  have HN : Hid _ := hnone
  have HM : Hid _ := hsome
  generalize M.stepsAt s.data.toList size (s.data.toList.length + 1) a0 [] = r at *
  generalize s.data.toList = l at *
  have HL : Hid (l.length = s.size) := hl
  have t1 : decide ((4096 : Int) < (size : Int)) = false := by simp; omega
  clear hG hnone hsome h0 hl
  go_enter Try.func17, Try.ntmps17
  go_wp2_with fail
  refine (HG.out _).mono ?_
  rintro e w1 ⟨rfl, q1⟩
  have hR := reading_start w w1 size q1
  clear q1
  go_wp2_with fail
  go_loopw [5] (fun t wr => ∃ (a : Nat) (acc : List Nat) (ao : Option Addr) (cap : Nat), M.At l size r a acc ∧ acc.length ≤ size ∧ t = .int .i64 a ∧ Reading w w.heap.size w1.heap.size size acc ao cap wr) (fun t _ => s.size - (intOf t).toNat)
  case atStart => exact ⟨a0, [], none, 0, hA, Nat.zero_le _, rfl, hR⟩
  case round =>
    obtain ⟨a, acc, ao, cap, hat, hle, rfl, hr⟩ := hrel
    have hal : a ≤ s.size := by have := M.at_le hat; rw [HL.out] at this; exact this
    by_cases hlt : a < s.size
    · cases hg : M.getAt l a with
      | none =>
        have hn := HN.out a hs hg
        have HNa : Hid _ := hn
        have E : Hid (r = none) := M.at_none hat (by rw [HL.out]; exact hlt) (by unfold M.stepAt; rw [hg])
        clear hn hg
        go_wp2_with fail
        refine (HNa.out _).mono ?_
        rintro e w2 ⟨rfl, q2⟩
        have hr2 := hr.kept q2.below
        have hx0 := hr2.r0
        have hx1 := hr2.r1
        have hx2 := hr2.f0
        have hx3 := hr2.f1
        obtain ⟨k0, k1, kb⟩ := hr2.failed
        go_wp2_with fail
        refine bodyPost_ret (v := .tuple #[.agg #[.int .i64 0, .slice none 0 0], .bool false]) (by simp [results, Try.results17, go_sem, k0, k1]) rfl ?_
        rw [E.out]
        exact ⟨0, none, 0, 0, rfl, kb⟩
      | some p =>
        obtain ⟨u, nx⟩ := p
        have hgb := M.getAt_bound hg
        have hm := HM.out a u nx hs hg
        have HMa : Hid _ := hm
        by_cases hbad : u / 2 < 1 ∨ size - acc.length < u / 2
        · have E : Hid (r = none) := M.at_none hat (by rw [HL.out]; exact hlt) (by unfold M.stepAt; rw [hg]; simp only; rw [if_pos hbad])
          clear hm hg
          by_cases hbad1 : u / 2 < 1
          · go_wp2_with fail
            refine (HMa.out _).mono ?_
            rintro e w2 ⟨rfl, q2⟩
            have hr2 := hr.kept q2.below
            have hx0 := hr2.r0
            have hx1 := hr2.r1
            have hx2 := hr2.f0
            have hx3 := hr2.f1
            obtain ⟨k0, k1, kb⟩ := hr2.failed
            go_wp2_with fail
            refine bodyPost_ret (v := .tuple #[.agg #[.int .i64 0, .slice none 0 0], .bool false]) (by simp [results, Try.results17, go_sem, k0, k1]) rfl ?_
            rw [E.out]
            exact ⟨0, none, 0, 0, rfl, kb⟩
          · go_wp2_with fail
            refine (HMa.out _).mono ?_
            rintro e w2 ⟨rfl, q2⟩
            have hr2 := hr.kept q2.below
            have hc1 := hr2.c1
            have hx0 := hr2.r0
            have hx1 := hr2.r1
            have hx2 := hr2.f0
            have hx3 := hr2.f1
            obtain ⟨k0, k1, kb⟩ := hr2.failed
            go_wp2_with fail
            refine bodyPost_ret (v := .tuple #[.agg #[.int .i64 0, .slice none 0 0], .bool false]) (by simp [results, Try.results17, go_sem, k0, k1]) rfl ?_
            rw [E.out]
            exact ⟨0, none, 0, 0, rfl, kb⟩
        · have hn1 : ¬ u / 2 < 1 := fun h => hbad (Or.inl h)
          have hn2 : ¬ size - acc.length < u / 2 := fun h => hbad (Or.inr h)
          have t2 : decide ((u : Int) / 2 < 1) = false := by simp; omega
          have t3 : decide ((size : Int) - (acc.length : Int) < (u : Int) / 2) = false := by simp; omega
          by_cases hodd : u % 2 = 1
          · have ho : ((u : Int) % 2 == 1) = true := by simp; omega
            cases hg2 : M.getAt l nx with
            | none =>
              have E : Hid (r = none) := M.at_none hat (by rw [HL.out]; exact hlt) (by unfold M.stepAt; rw [hg]; simp only; rw [if_neg hbad, if_pos hodd, hg2])
              have hm2 := HN.out nx hs hg2
              have HMb : Hid _ := hm2
              clear hm hm2 hg hg2 hbad hodd
              go_wp2_with fail
              refine (HMa.out _).mono ?_
              rintro e w2 ⟨rfl, q2⟩
              have hr2 := hr.kept q2.below
              have hc1 := hr2.c1
              go_wp2_with fail
              refine (HMb.out _).mono ?_
              rintro e w3 ⟨rfl, q3⟩
              have hr3 := hr2.kept q3.below
              have hx0 := hr3.r0
              have hx1 := hr3.r1
              have hx2 := hr3.f0
              have hx3 := hr3.f1
              obtain ⟨k0, k1, kb⟩ := hr3.failed
              go_wp2_with fail
              refine bodyPost_ret (v := .tuple #[.agg #[.int .i64 0, .slice none 0 0], .bool false]) (by simp [results, Try.results17, go_sem, k0, k1]) rfl ?_
              rw [E.out]
              exact ⟨0, none, 0, 0, rfl, kb⟩
            | some p =>
              obtain ⟨p, n2⟩ := p
              have hgb2 := M.getAt_bound hg2
              have hm2 := HM.out nx p n2 hs hg2
              have HMb : Hid _ := hm2
              by_cases hfar : 72057594037927935 - u / 2 < p
              · have E : Hid (r = none) := M.at_none hat (by rw [HL.out]; exact hlt) (by unfold M.stepAt; rw [hg]; simp only; rw [if_neg hbad, if_pos hodd, hg2]; simp only; rw [if_pos hfar])
                clear hm hm2 hg hg2 hbad hodd
                go_wp2_with fail
                refine (HMa.out _).mono ?_
                rintro e w2 ⟨rfl, q2⟩
                have hr2 := hr.kept q2.below
                have hc1 := hr2.c1
                go_wp2_with fail
                refine (HMb.out _).mono ?_
                rintro e w3 ⟨rfl, q3⟩
                have hr3 := hr2.kept q3.below
                have hx0 := hr3.r0
                have hx1 := hr3.r1
                have hx2 := hr3.f0
                have hx3 := hr3.f1
                obtain ⟨k0, k1, kb⟩ := hr3.failed
                go_wp2_with fail
                refine bodyPost_ret (v := .tuple #[.agg #[.int .i64 0, .slice none 0 0], .bool false]) (by simp [results, Try.results17, go_sem, k0, k1]) rfl ?_
                rw [E.out]
                exact ⟨0, none, 0, 0, rfl, kb⟩
              · have HA : Hid (M.At l size r n2 (acc ++ M.taken p (u / 2))) := M.at_step hat (by rw [HL.out]; exact hlt) (by unfold M.stepAt; rw [hg]; simp only; rw [if_neg hbad, if_pos hodd, hg2]; simp only; rw [if_neg hfar])
                clear hm hm2 hg hg2 hbad hodd
                go_wp2_with fail
                refine (HMa.out _).mono ?_
                rintro e w2 ⟨rfl, q2⟩
                have hr2 := hr.kept q2.below
                have hc1 := hr2.c1
                go_wp2_with fail
                refine (HMb.out _).mono ?_
                rintro e w3 ⟨rfl, q3⟩
                have hr3 := hr2.kept q3.below
                clear hr hr2 hc1 q2 q3
                go_wp2_with fail
                obtain ⟨wo, rfl⟩ : ∃ wo : World, wo = wr := ⟨_, rfl⟩
                go_loopw [9, 13] (fun x t wi => ∃ (k : Nat) (ao : Option Addr) (cap : Nat), k ≤ u / 2 ∧ x = .int .i64 n2 ∧ t = .int .i64 k ∧ Reading w w.heap.size w1.heap.size size (acc ++ M.taken p k) ao cap wi) (fun _ t _ => u / 2 - (intOf t).toNat)
                case atStart => exact ⟨0, ao, cap, Nat.zero_le _, rfl, rfl, by simpa [M.taken] using hr3⟩
                case round =>
                  obtain ⟨k, ao2, cap2, hk, rfl, rfl, hri⟩ := hrel
                  have hlen : (acc ++ M.taken p k).length ≤ 4096 := by rw [List.length_append, M.taken_length]; omega
                  by_cases hkn : k < u / 2
                  · have HT : Hid (acc ++ M.taken p (k + 1) = (acc ++ M.taken p k) ++ [256 + p + k]) := by rw [M.taken_succ, List.append_assoc]; exact rfl
                    generalize acc ++ M.taken p k = ac at *
                    obtain ⟨i0, hi, hz0, hz1, hz2⟩ := info_parts infoInt
                    have hc1 := hri.c1
                    have hown := hri.own
                    have htop := hri.top
                    go_wp2_with (at_builtin; refine wpList_append_own _ rfl (.tmp 86) (.tmp 91) 31 rfl (w1.heap.size + 1) 3 i0 (.int .i64 0) 1 8 Try.underlying31 hi hz0 hz1 hz2 rfl (by decide) _ _ _ rfl (hown.alloc _) ⟨wr.heap.size, 0, none⟩ 1 1 [.int .i64 ((256 + p + k : Nat) : Int)] rfl rfl ?c1 ?c2 ?c3 ?c4 ?c5 ?_)
                    case c1 =>
                      intro j v hj
                      match j, hj with
                      | 0, hj => simp at hj; subst hj; simp [Addr.add]
                    case c2 => intro v hv; simp at hv; subst hv; rfl
                    case c3 => unfold maxLen; omega
                    case c4 => omega
                    case c5 => simp; omega
                    intro v' w' hown' hgrow _
                    have hex := own_form hown'
                    obtain ⟨ao3, cap3, hv⟩ := hex
                    rw [hv] at hown'
                    rw [hv]
                    have hxx : (256 + (p : Int) + (k : Int)) = ((256 + p + k : Nat) : Int) := by omega
                    rw [hxx] at hown' hgrow
                    obtain ⟨kc, kf, hrn⟩ := hri.push (256 + p + k) hgrow hown'
                    clear hown' hgrow hown hc1 hv hxx
                    go_wp2
                    go_roundw
                    case rel => exact ⟨k + 1, ao3, cap3, by omega, by go_num, by go_num, by rw [HT.out]; exact hrn⟩
                    case measure => simp [intOf]; omega
                  · obtain rfl : k = u / 2 := by omega
                    go_wp2
                    go_roundw
                    case rel => exact ⟨n2, _, ao2, cap2, HA.out, by rw [List.length_append, M.taken_length]; omega, by go_num, hri⟩
                    case measure => simp [intOf]; omega
          · have ho : ((u : Int) % 2 == 1) = false := by simp; omega
            have H1 : Hid (nx + u / 2 ≤ l.length → M.At l size r (nx + u / 2) (acc ++ M.putB l nx (u / 2))) := fun hin => M.at_step hat (by rw [HL.out]; exact hlt) (by unfold M.stepAt; rw [hg]; simp only; rw [if_neg hbad, if_neg hodd, if_pos hin])
            have H2 : Hid (¬ nx + u / 2 ≤ l.length → r = none) := fun hout => M.at_none hat (by rw [HL.out]; exact hlt) (by unfold M.stepAt; rw [hg]; simp only; rw [if_neg hbad, if_neg hodd, if_neg hout])
            clear hm hg hbad hodd
            go_wp2_with fail
            refine (HMa.out _).mono ?_
            rintro e w2 ⟨rfl, q2⟩
            have hr2 := hr.kept q2.below
            have hc1 := hr2.c1
            clear hr q2
            go_wp2_with fail
            obtain ⟨wo, rfl⟩ : ∃ wo : World, wo = wr := ⟨_, rfl⟩
            go_loopw [9, 13] (fun x t wi => ∃ (k : Nat) (ao : Option Addr) (cap : Nat), k ≤ u / 2 ∧ nx + k ≤ s.size ∧ x = .int .i64 ((nx : Int) + (k : Int)) ∧ t = .int .i64 k ∧ Reading w w.heap.size w1.heap.size size (acc ++ M.putB l nx k) ao cap wi) (fun _ t _ => u / 2 - (intOf t).toNat)
            case atStart => exact ⟨0, ao, cap, Nat.zero_le _, by have := hgb.2.2.1; rw [HL.out] at this; exact this, by simp, rfl, by simpa [M.putB] using hr2⟩
            case round =>
              obtain ⟨k, ao2, cap2, hk, hks, rfl, rfl, hri⟩ := hrel
              have hlen : (acc ++ M.putB l nx k).length ≤ 4096 := by rw [List.length_append, M.put_length _ _ _ (by rw [HL.out]; exact hks)]; omega
              by_cases hkn : k < u / 2
              · by_cases hin : nx + k < s.size
                · have HT : Hid (acc ++ M.putB l nx (k + 1) = (acc ++ M.putB l nx k) ++ [s[nx + k].toNat]) := by rw [M.put_succ l nx k _ (HB.out _ hin), List.append_assoc]; exact rfl
                  generalize acc ++ M.putB l nx k = ac at *
                  obtain ⟨i0, hi, hz0, hz1, hz2⟩ := info_parts infoInt
                  have hbb : (s[nx + k].toNat : Int) < 256 := by have := s[nx + k].toNat_lt; omega
                  have hc1 := hri.c1
                  have hown := hri.own
                  have htop := hri.top
                  have hge : (0 : Int) ≤ (nx : Int) + (k : Int) := by omega
                  have hnt : ((nx : Int) + (k : Int)).toNat = nx + k := by omega
                  have hwr : IntKind.i64.wrap (s[nx + k].toNat : Int) = (s[nx + k].toNat : Int) := by rw [IntKind.wrap_i64]; omega
                  go_wp2_with fail
                  go_region_law (refine step_append_own rfl (.tmp 100) (.tmp 105) 31 rfl (w1.heap.size + 1) 3 i0 (.int .i64 0) 1 8 Try.underlying31 hi hz0 hz1 hz2 rfl (by decide) (.slice ao2 ac.length cap2) ac.length (vals ac) (by simp [Act.eval]) (by exact hown.alloc _) ⟨wr.heap.size, 0, none⟩ 1 1 [.int .i64 (s[nx + k].toNat : Int)] (by simp [Act.eval]) rfl (one_cell _ _ _) (one_val _) (by unfold maxLen; omega) (by omega) (by simp; omega) ?_; intro v' w' hown' hgrow; obtain ⟨ao3, cap3, hv⟩ := own_form hown'; rw [hv] at hown'; rw [hv]; obtain ⟨kc, kf, hrn⟩ := hri.push s[nx + k].toNat (grown_undrew hgrow) hown'; clear hown' hgrow hv)
                  all_goals
                    go_wp2
                    go_roundw
                    case rel => exact ⟨k + 1, ao3, cap3, by omega, by omega, by go_num, by go_num, by rw [HT.out]; exact hrn⟩
                    case measure => simp [intOf]; omega
                · have E : Hid (r = none) := H2.out (by rw [HL.out]; omega)
                  have hx0 := hri.r0
                  have hx1 := hri.r1
                  have hx2 := hri.f0
                  have hx3 := hri.f1
                  obtain ⟨k0, k1, kb⟩ := hri.failed
                  go_wp2_with fail
                  refine bodyPost_ret (v := .tuple #[.agg #[.int .i64 0, .slice none 0 0], .bool false]) (by simp [results, Try.results17, go_sem, k0, k1]) rfl ?_
                  rw [E.out]
                  exact ⟨0, none, 0, 0, rfl, kb⟩
              · obtain rfl : k = u / 2 := by omega
                have HA := H1.out (by rw [HL.out]; exact hks)
                have HA' : Hid _ := HA
                clear HA
                go_wp2
                go_roundw
                case rel => exact ⟨nx + u / 2, _, ao2, cap2, HA'.out, by rw [List.length_append, M.put_length _ _ _ (by rw [HL.out]; exact hks)]; omega, by go_num, hri⟩
                case measure => simp [intOf]; omega
    · have E : Hid (r = some acc) := M.at_end hat (by rw [HL.out]; exact hlt)
      have hx0 := hr.r0
      have hx1 := hr.r1
      have hx2 := hr.f0
      have hx3 := hr.f1
      have hc0 := hr.c0
      have hc1 := hr.c1
      obtain ⟨s0, s1, s2, so, sb⟩ := hr.stored
      by_cases hfull : acc.length = size
      · have hq : ((acc.length : Int) == (size : Int)) = true := by simp; omega
        have HF : Hid (acc.length = size) := hfull
        clear hfull
        go_wp2_with fail
        go_region
        all_goals
          go_wp2_with fail
          refine bodyPost_ret (v := .tuple #[.agg #[.int .i64 size, .slice ao acc.length cap], .bool true]) (by simp [results, Try.results17, go_sem, s0, s1]) rfl ?_
          rw [E.out]
          show ite _ _ _
          rw [if_pos HF.out]
          exact ⟨ao, cap, rfl, World.ownsRow.drew so, sb.drew⟩
      · have hq : ((acc.length : Int) == (size : Int)) = false := by simp; omega
        go_wp2_with fail
        go_region
        all_goals
          go_wp2_with fail
          refine bodyPost_ret (v := .tuple #[.agg #[.int .i64 size, .slice ao acc.length cap], .bool false]) (by simp [results, Try.results17, go_sem, s0, s1]) rfl ?_
          rw [E.out]
          show ite _ _ _
          rw [if_neg hfull]
          exact ⟨_, _, _, _, rfl, sb.drew⟩

set_option maxRecDepth 100000 in
set_option maxHeartbeats 400000 in
theorem refRead_none (s : ByteArray) (hs : s.size ≤ 140737488351232) (h0 : M.getAt s.data.toList 0 = none) (w : World) :
    Calls Try.prog 17 #[.string s] w fun e w' => ReadNo w e w' := by
  have hG := refGet_none s 0 hs h0
  rw [show ((0 : Nat) : Int) = 0 from rfl] at hG
  have HG : Hid _ := hG
  clear hG
  go_enter Try.func17, Try.ntmps17
  go_wp2_with fail
  refine (HG.out _).mono ?_
  rintro e w1 ⟨rfl, q1⟩
  obtain ⟨⟨hx0, hx1, hx2, hx3⟩, k0, k1, kb⟩ := first_failed w w1 q1
  go_wp2_with fail
  refine bodyPost_ret (v := .tuple #[.agg #[.int .i64 0, .slice none 0 0], .bool false]) (by simp [results, Try.results17, go_sem, k0, k1]) rfl ?_
  exact ⟨0, none, 0, 0, rfl, kb⟩

set_option maxRecDepth 100000 in
set_option maxHeartbeats 400000 in
theorem refRead_long (s : ByteArray) (hs : s.size ≤ 140737488351232) (size a0 : Nat) (h0 : M.getAt s.data.toList 0 = some (size, a0)) (hsz : 4096 < size) (w : World) :
    Calls Try.prog 17 #[.string s] w fun e w' => ReadNo w e w' := by
  have hb0 := M.getAt_bound h0
  have hG := refGet_some s 0 size a0 hs h0
  rw [show ((0 : Nat) : Int) = 0 from rfl] at hG
  have HG : Hid _ := hG
  clear hG h0
  go_enter Try.func17, Try.ntmps17
  go_wp2_with fail
  refine (HG.out _).mono ?_
  rintro e w1 ⟨rfl, q1⟩
  obtain ⟨⟨hx0, hx1, hx2, hx3⟩, k0, k1, kb⟩ := first_failed w w1 q1
  go_wp2_with fail
  refine bodyPost_ret (v := .tuple #[.agg #[.int .i64 0, .slice none 0 0], .bool false]) (by simp [results, Try.results17, go_sem, k0, k1]) rfl ?_
  exact ⟨0, none, 0, 0, rfl, kb⟩

/-- What Read answers. -/
def ReadPost (r : Option (Nat × List Nat)) (w : World) (e : Ending) (w' : World) : Prop :=
  match r with
  | none => ReadNo w e w'
  | some (size, acc) => ReadYes size acc w e w'

theorem refRead_any (s : ByteArray) (hs : s.size ≤ 140737488351232) (w : World) :
    Calls Try.prog 17 #[.string s] w fun e w' => ReadPost (M.parse s.data.toList) w e w' := by
  unfold M.parse
  cases h0 : M.getAt s.data.toList 0 with
  | none => exact refRead_none s hs h0 w
  | some p =>
    obtain ⟨size, a0⟩ := p
    by_cases hsz : 4096 < size
    · simp only [if_pos hsz]
      exact refRead_long s hs size a0 h0 hsz w
    · simp only [if_neg hsz]
      refine (refRead_some s hs size a0 h0 hsz w).mono fun e w' he => ?_
      cases hr : M.stepsAt s.data.toList size (s.data.toList.length + 1) a0 [] with
      | none => rw [hr] at he; exact he
      | some acc =>
        rw [hr] at he
        simp only [ReadEnd] at he
        by_cases hl : acc.length = size
        · simp only [if_pos hl] at he ⊢; exact he
        · simp only [if_neg hl] at he ⊢; exact he
end Go.Proofs.Ytekdenkllipehaa
