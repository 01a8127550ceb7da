import Derived.Test.YtekdenkllipehaaDoorBlkEnd
import Derived.Test.YtekdenkllipehaaDoorRefRec
import Derived.Test.YtekdenkllipehaaDoorRefSeal
import Derived.Test.YtekdenkllipehaaDoorBlk
import Derived.Test.YtekdenkllipehaaDoorDrawn
import Derived.Test.YtekdenkllipehaaDoorConv
import Derived.Deep.DrawnRows
import Derived.Deep.DeepCutAuto
import Derived.Laws.Cover1
namespace Go.Proofs.YtekdenkllipehaaDoor
open Go.RowKit

set_option maxRecDepth 100000 in
set_option maxHeartbeats 400000 in
theorem refBuild_many (ao : Option Addr) (n cap : Nat) (hn : 64 < n) (hm : n ≤ 140737488351232) (w : World) :
    Calls Tryd.prog 14 #[.slice ao n cap] w fun e w' => e = .returned (.tuple #[.string ⟨#[]⟩, .int .i64 6]) ∧ w' = w := by
  go_enter Tryd.func14, Tryd.ntmps14
  go_wp2_with fail
  go_ret2
  exact ⟨rfl, rfl⟩

/-- A number that is told: some bytes, at most eight. -/
theorem piece (n : Nat) (hn : n < 72057594037927936) : ∃ a : ByteArray, a.size ≤ 8 ∧ Hid (a.data.toList = M.enc 7 n) ∧
    Hid (∀ W : World, Calls Tryd.prog 25 #[.int .i64 (n : Int)] W fun e w' => e = .returned (.string a) ∧ Q W w') := by
  refine ⟨⟨(M.enc 7 n).toArray⟩, ?_, ?_, ?_⟩
  · have := enc_length 7 n
    simpa [ByteArray.size] using this
  · exact List.toList_toArray ..
  · exact fun W => written_any n hn W

/-- 'string([]byte{x})', wherever the byte lies. -/
theorem conv1_at (k : Nat) (W : World) (b : Nat) (h : W.cell? ⟨b, 0, none⟩ = some (.int .u8 (k : Int))) :
    (convert 40 9 (.slice (some ⟨b, 0, none⟩) 1 1)).run Tryd.prog W = .ok (.string ⟨#[UInt8.ofNat k]⟩) W :=
  run_convert_bytes_arg (P := Tryd.prog) W 40 5 Tryd.underlying40 Tryd.underlying5 b 0 1 1 [(k : Int)] rfl (fun i hi => by
    obtain rfl : i = 0 := by omega
    simpa using h) 9 Tryd.underlying9

/-- The four cells of a record's variable are as they were behind a call. -/
theorem var4_kept {w1 w2 : World} {a b c d : Value} {t : TypeId} (q : Q (w1.alloc (.cells #[a, b, c, d] t)) w2) :
    w2.cell? ⟨w1.heap.size, 0, none⟩ = some a ∧ w2.cell? ⟨w1.heap.size, 1, none⟩ = some b ∧ w2.cell? ⟨w1.heap.size, 2, none⟩ = some c ∧ w2.cell? ⟨w1.heap.size, 3, none⟩ = some d :=
  ⟨(q.below.cell (p := ⟨w1.heap.size, 0, none⟩) (by simp)).trans (by simp), (q.below.cell (p := ⟨w1.heap.size, 1, none⟩) (by simp)).trans (by simp),
   (q.below.cell (p := ⟨w1.heap.size, 2, none⟩) (by simp)).trans (by simp), (q.below.cell (p := ⟨w1.heap.size, 3, none⟩) (by simp)).trans (by simp)⟩

set_option maxRecDepth 100000 in
set_option maxHeartbeats 4000000 in
theorem refBuild_few (b off cap : Nat) (rs : List Rec) (hl : rs.length ≤ 64) (hwf : ∀ r ∈ rs, r.Wf) (w : World) (hr : RecsAt w b off rs) (hb : b < w.heap.size) :
    Calls Tryd.prog 14 #[.slice (some ⟨b, off, none⟩) rs.length cap] w fun e w' => e = builtEnd (textTo rs rs.length) ∧ Q w w' := by
  have HR : Hid _ := hr
  have HK : Hid (∀ (j : Nat) (p : Rec), rs[j]? = some p → p.key.size ≤ 140737488351232) := fun j p hp => (hwf p (List.mem_of_getElem? hp)).1
  have HW : Hid _ := written_any
  have HC : Hid _ := common_any
  have HS : Hid _ := fun (s : ByteArray) hs w => refSeal_any s hs w
  have hw0 := written_any rs.length (by omega)
  have HW0 : Hid _ := hw0
  have HT0 : Hid (textTo rs 0 = some (M.enc 7 rs.length)) := rfl
  have t1 : decide ((64 : Int) < (rs.length : Int)) = false := by simp; omega
  generalize M.enc 7 rs.length = t0 at *
  clear hr hw0
  go_enter Tryd.func14, Tryd.ntmps14
  go_wp2_with fail
  refine (HW0.out _).mono ?_
  rintro e w1 ⟨rfl, q1⟩
  go_wp2_with fail
  go_loopw [4, 5] (fun s i wr => ∃ (k : Nat) (t : List UInt8), k ≤ rs.length ∧ textTo rs k = some t ∧ i = .int .i64 k ∧ s = .string ⟨t.toArray⟩ ∧ Q w wr) (fun _ i _ => rs.length - (intOf i).toNat)
  case atStart => exact ⟨0, t0, Nat.zero_le _, HT0.out, rfl, rfl, q1⟩
  case round =>
    obtain ⟨k, t, hk, htk, rfl, rfl, hq⟩ := hrel
    have htl := textTo_length htk
    have HTK : Hid (textTo rs k = some t) := htk
    clear htk
    by_cases hlt : k < rs.length
    · obtain ⟨r, hx⟩ : ∃ r, rs[k]? = some r := ⟨rs[k], List.getElem?_eq_getElem hlt⟩
      obtain ⟨c0, c1, c2, c3⟩ := HR.out k r hx
      have d0 := (hq.below.cell (p := ⟨b, off + k * 4, none⟩) hb).trans c0
      have d1 := (hq.below.cell (p := ⟨b, off + k * 4 + 1, none⟩) hb).trans c1
      have d2 := (hq.below.cell (p := ⟨b, off + k * 4 + 2, none⟩) hb).trans c2
      have d3 := (hq.below.cell (p := ⟨b, off + k * 4 + 3, none⟩) hb).trans c3
      have hF := fits_any r
      have HX : Hid (rs[k]? = some r) := hx
      clear hx c0 c1 c2 c3
      cases hfit : r.fits with
      | false =>
        rw [hfit] at hF
        have HF : Hid _ := hF
        have E : Hid (textTo rs rs.length = none) := by
          have h1 := textTo_none (textTo_bad HX.out (by simp [badAt, hfit])) (rs.length - (k + 1))
          rw [show k + 1 + (rs.length - (k + 1)) = rs.length by omega] at h1
          exact h1
        clear hF hfit
        go_wp2_with fail
        refine (HF.out _).mono ?_
        rintro e w2 ⟨rfl, q2⟩
        go_wp2_with fail
        go_quiet (fail)
        go_wp2_with fail
        go_ret2
        exact ⟨builtEnd_none E.out, ((hq.alloc _ _).trans q2).drewN _⟩
      | true =>
        rw [hfit] at hF
        have HF : Hid _ := hF
        have HFit : Hid (r.fits = true) := hfit
        clear hF hfit
        go_wp2_with fail
        refine (HF.out _).mono ?_
        rintro e w2 ⟨rfl, q2⟩
        obtain ⟨f0, f1, f2, f3⟩ := var4_kept q2
        have hq2 : Q w w2 := (hq.alloc _ _).trans q2
        have hwr2 : wr.heap.size < w2.heap.size := by have := q2.below.size; simp only [World.size_alloc] at this; omega
        have HQ2 : Hid _ := hq2
        clear d0 d1 d2 d3 q2 hq
        go_upto_region 9 with fail
        go_cut [65] (fun x wx => x = .bool (badAt rs k r) ∧ ∃ nq, wx = w2.drewN nq)
        case first =>
          by_cases hk0 : 0 < k
          · obtain ⟨j, hj⟩ : ∃ j, k = j + 1 := ⟨k - 1, by omega⟩
            have hjl : j < rs.length := by omega
            obtain ⟨p, hp⟩ : ∃ p, rs[j]? = some p := ⟨rs[j], List.getElem?_eq_getElem hjl⟩
            obtain ⟨c0, c1, c2, c3⟩ := HR.out j p hp
            have hbe : before rs k r = p := by unfold before; rw [hj, Nat.add_sub_cancel, List.getD_eq_getElem?_getD, hp]; rfl
            have g0 := (HQ2.out.below.cell (p := ⟨b, off + j * 4, none⟩) hb).trans c0
            have g1 := (HQ2.out.below.cell (p := ⟨b, off + j * 4 + 1, none⟩) hb).trans c1
            have d1 : decide (0 < k) = true := by simp; omega
            have hwk : IntKind.i64.wrap ((k : Int) - 1) = (j : Int) := by rw [IntKind.wrap_i64]; omega
            have hbad : badAt rs k r = (!(Op.bytesLess p.key.toList r.key.toList || p.key.toList == r.key.toList) || (p.key.toList == r.key.toList && decide (p.stamp ≤ r.stamp))) := by
              have hf := HFit.out
              simp [badAt, hf, hk0, hbe, Rec.wrong, Rec.less, Rec.same]
            clear hp c0 c1 c2 c3 hbe hj
            cases hless : Op.bytesLess p.key.toList r.key.toList <;> cases hsame : (p.key.toList == r.key.toList)
            all_goals
              rw [hless, hsame] at hbad
              simp only [Bool.or_true, Bool.or_false, Bool.not_true, Bool.not_false, Bool.true_or, Bool.false_or, Bool.true_and] at hbad
              have E : Hid _ := hbad
              clear hbad
              go_quiet (fail)
              go_wp2_with fail
              go_meet
              case rel => exact ⟨by rw [E.out] <;> simp, _, rfl⟩
          · have hf := HFit.out
            have E : Hid (badAt rs k r = false) := by simp [badAt, hf, hk0, Hid]
            have d1 : decide ((0 : Int) < (k : Int)) = false := by simp; omega
            clear hf
            go_quiet (fail)
            go_wp2_with fail
            go_meet
            case rel => exact ⟨by rw [E.out], _, rfl⟩
        case rest =>
          obtain ⟨rfl, nq, rfl⟩ := hcut
          cases hbad : badAt rs k r with
          | true =>
            have E : Hid (textTo rs rs.length = none) := by
              have h1 := textTo_none (textTo_bad HX.out hbad) (rs.length - (k + 1))
              rw [show k + 1 + (rs.length - (k + 1)) = rs.length by omega] at h1
              exact h1
            go_wp2_with fail
            go_ret2
            exact ⟨builtEnd_none E.out, HQ2.out.drewN _⟩
          | false =>
            have HBad : Hid (badAt rs k r = false) := hbad
            clear hbad
            go_upto_if 68 with fail
            go_cut [8] (fun x wx => x = .int .i64 (sharedAt rs k r) ∧ Q w2 wx)
            case first =>
              by_cases hm : 0 < k % 8
              · have d8 : decide ((0 : Int) < (k : Int) % 8) = true := by simp; omega
                obtain ⟨j, hj⟩ : ∃ j, k = j + 1 := ⟨k - 1, by omega⟩
                have hjl : j < rs.length := by omega
                obtain ⟨p, hp⟩ : ∃ p, rs[j]? = some p := ⟨rs[j], List.getElem?_eq_getElem hjl⟩
                obtain ⟨c0, c1, c2, c3⟩ := HR.out j p hp
                have hbe : before rs k r = p := by unfold before; rw [hj, Nat.add_sub_cancel, List.getD_eq_getElem?_getD, hp]; rfl
                have g0 := (HQ2.out.below.cell (p := ⟨b, off + j * 4, none⟩) hb).trans c0
                have hwk : IntKind.i64.wrap ((k : Int) - 1) = (j : Int) := by rw [IntKind.wrap_i64]; omega
                have E : Hid (sharedAt rs k r = common p.key.data.toList r.key.data.toList) := by unfold sharedAt; rw [if_pos hm, hbe]; exact rfl
                have hC := HC.out p.key r.key (HK.out j p hp)
                have HCp : Hid _ := hC
                clear hp c0 c1 c2 c3 hbe hj hC
                go_wp2_with fail
                go_region_with (go_at_call 27; refine (HCp.out _).mono ?_; rintro e w3 ⟨rfl, q3⟩)
                all_goals
                  go_wp2_with fail
                  go_meet
                  case rel => exact ⟨by rw [E.out], q_undrewN (q_undrew q3)⟩
              · have E : Hid (sharedAt rs k r = 0) := by unfold sharedAt; rw [if_neg hm]; exact rfl
                have d8 : decide ((0 : Int) < (k : Int) % 8) = false := by simp; omega
                go_wp2_with fail
                go_meet
                case rel => exact ⟨by rw [E.out]; rfl, (Q.refl _).drewN _⟩
            case rest =>
              obtain ⟨rfl, q3⟩ := hcut
              have hf := HFit.out
              simp only [Rec.fits, decide_eq_true_eq] at hf
              obtain ⟨hf1, hf2, hf3, hf4, hf5, hf6, hf7⟩ := hf
              obtain ⟨st, hst⟩ := Int.eq_ofNat_of_zero_le hf4
              obtain ⟨kd, hkd⟩ := Int.eq_ofNat_of_zero_le hf6
              have hsl := sharedAt_le rs k r
              have HEn : Hid (entry rs k r = M.enc 7 (sharedAt rs k r) ++ M.enc 7 (r.key.size - sharedAt rs k r) ++ r.key.data.toList.drop (sharedAt rs k r) ++ M.enc 7 st ++ [UInt8.ofNat kd] ++ M.enc 7 r.body.size ++ r.body.data.toList) := by
                unfold entry; rw [hst, hkd]; simp [Hid]
              generalize sharedAt rs k r = n at *
              obtain ⟨m, hm⟩ : ∃ m, m = r.key.size - n := ⟨_, rfl⟩
              rw [← hm] at HEn
              have z0 := kept_cell f0 q3
              have z1 := kept_cell f1 q3
              have z2 := kept_cell f2 q3
              have z3 := kept_cell f3 q3
              rw [hst] at z1 f1
              rw [hkd] at z2 f2
              have hmw : IntKind.i64.wrap ((r.key.size : Int) - (n : Int)) = (m : Int) := by rw [IntKind.wrap_i64]; omega
              have hkw : IntKind.u8.wrap (kd : Int) = (kd : Int) := by rw [IntKind.wrap_u8]; omega
              have hng : (n : Int) ≤ (r.key.size : Int) := by omega
              obtain ⟨a1, ha1, hA1, H1⟩ := piece n (by omega)
              obtain ⟨a2, ha2, hA2, H2⟩ := piece m (by omega)
              obtain ⟨a3, ha3, hA3, H3⟩ := piece st (by omega)
              obtain ⟨a4, ha4, hA4, H4⟩ := piece r.body.size (by omega)
              have hcv := conv1_at kd
              have hts : (⟨t.toArray⟩ : ByteArray).size = t.length := by simp [ByteArray.size]
              have A1 : ∀ W, (Op.stringOp .add ⟨t.toArray⟩ a1).run Tryd.prog W = .ok (.string (⟨t.toArray⟩ ++ a1)) W := fun W => run_string_add_sum W _ _ (by rw [hts]; omega)
              have A2 : ∀ W, (Op.stringOp .add (⟨t.toArray⟩ ++ a1) a2).run Tryd.prog W = .ok (.string (⟨t.toArray⟩ ++ a1 ++ a2)) W := fun W => run_string_add_sum W _ _ (by rw [ByteArray.size_append, hts]; omega)
              have A3 : ∀ W, (Op.stringOp .add (⟨t.toArray⟩ ++ a1 ++ a2) (r.key.extract n r.key.size)).run Tryd.prog W = .ok (.string (⟨t.toArray⟩ ++ a1 ++ a2 ++ r.key.extract n r.key.size)) W := fun W => run_string_add_sum W _ _ (by simp only [ByteArray.size_append, ByteArray.size_extract, hts]; omega)
              have A4 : ∀ W, (Op.stringOp .add (⟨t.toArray⟩ ++ a1 ++ a2 ++ r.key.extract n r.key.size) a3).run Tryd.prog W = .ok (.string (⟨t.toArray⟩ ++ a1 ++ a2 ++ r.key.extract n r.key.size ++ a3)) W := fun W => run_string_add_sum W _ _ (by simp only [ByteArray.size_append, ByteArray.size_extract, hts]; omega)
              have hks : (⟨#[UInt8.ofNat kd]⟩ : ByteArray).size = 1 := rfl
              have A5 : ∀ W, (Op.stringOp .add (⟨t.toArray⟩ ++ a1 ++ a2 ++ r.key.extract n r.key.size ++ a3) ⟨#[UInt8.ofNat kd]⟩).run Tryd.prog W = .ok (.string (⟨t.toArray⟩ ++ a1 ++ a2 ++ r.key.extract n r.key.size ++ a3 ++ ⟨#[UInt8.ofNat kd]⟩)) W := fun W => run_string_add_sum W _ _ (by simp only [ByteArray.size_append, ByteArray.size_extract, hts, hks]; omega)
              have A6 : ∀ W, (Op.stringOp .add (⟨t.toArray⟩ ++ a1 ++ a2 ++ r.key.extract n r.key.size ++ a3 ++ ⟨#[UInt8.ofNat kd]⟩) a4).run Tryd.prog W = .ok (.string (⟨t.toArray⟩ ++ a1 ++ a2 ++ r.key.extract n r.key.size ++ a3 ++ ⟨#[UInt8.ofNat kd]⟩ ++ a4)) W := fun W => run_string_add_sum W _ _ (by simp only [ByteArray.size_append, ByteArray.size_extract, hts, hks]; omega)
              have A7 : ∀ W, (Op.stringOp .add (⟨t.toArray⟩ ++ a1 ++ a2 ++ r.key.extract n r.key.size ++ a3 ++ ⟨#[UInt8.ofNat kd]⟩ ++ a4) r.body).run Tryd.prog W = .ok (.string (⟨t.toArray⟩ ++ a1 ++ a2 ++ r.key.extract n r.key.size ++ a3 ++ ⟨#[UInt8.ofNat kd]⟩ ++ a4 ++ r.body)) W := fun W => run_string_add_sum W _ _ (by simp only [ByteArray.size_append, ByteArray.size_extract, hts, hks]; omega)
              have HSum : Hid (⟨t.toArray⟩ ++ a1 ++ a2 ++ r.key.extract n r.key.size ++ a3 ++ ⟨#[UInt8.ofNat kd]⟩ ++ a4 ++ r.body = (⟨(t ++ entry rs k r).toArray⟩ : ByteArray)) := by
                apply WideShapes.bytes_inj
                rw [HEn.out]
                simp only [ByteArray.data_append, Array.toList_append, hA1.out, hA2.out, hA3.out, hA4.out, ByteArray.data_extract, Array.toList_extract, List.extract_eq_take_drop]
                rw [List.take_of_length_le (l := r.key.data.toList.drop n) (by simp)]
                simp
              clear hts hks
              clear f0 f1 f2 f3 hm hst hkd
              go_upto_region 14 with fail
              refine wp_region_held_drew (S := fun w' => Q w2 w' ∧ w'.cell? ⟨wr.heap.size, 0, none⟩ = some (.string r.key) ∧ w'.cell? ⟨wr.heap.size, 1, none⟩ = some (.int .i64 (st : Int)) ∧ w'.cell? ⟨wr.heap.size, 2, none⟩ = some (.int .i64 (kd : Int)) ∧ w'.cell? ⟨wr.heap.size, 3, none⟩ = some (.string r.body)) (by kernel_rfl) ⟨q3.drew, kept_cell z0 (Q.refl _).drew, kept_cell z1 (Q.refl _).drew, kept_cell z2 (Q.refl _).drew, kept_cell z3 (Q.refl _).drew⟩ (fun hHeld => ?_)
              clear z0 z1 z2 z3
              refine wpAnyH_take (i := 0) (v := ?_) rfl (by kernel_rfl) (by kernel_rfl) (by kernel_rfl) (fun _ _ _ h => h) (Or.inl ⟨by rfl, ?_⟩) hHeld ?_
              rotate_left
              · (intro w hSw; (try dsimp only at hSw); go_simp; try with_reducible rfl)
              try simp only [Act.put]
              refine wpAnyH_take (i := 1) (v := ?_) rfl (by kernel_rfl) (by kernel_rfl) (by kernel_rfl) (fun _ _ _ h => h) (Or.inl ⟨by rfl, ?_⟩) hHeld ?_
              rotate_left
              · (intro w hSw; (try dsimp only at hSw); go_simp; try with_reducible rfl)
              try simp only [Act.put]
              refine wpAnyH_take (i := 4) (v := ?_) rfl (by kernel_rfl) (by kernel_rfl) (by kernel_rfl) (fun _ _ _ h => h) (Or.inl ⟨by rfl, ?_⟩) hHeld ?_
              rotate_left
              · (intro w hSw; (try dsimp only at hSw); go_simp; try with_reducible rfl)
              try simp only [Act.put]
              refine wpAnyH_take (i := 5) (v := ?_) rfl (by kernel_rfl) (by kernel_rfl) (by kernel_rfl) (fun _ _ _ h => h) (Or.inl ⟨by rfl, ?_⟩) hHeld ?_
              rotate_left
              · (intro w hSw; (try dsimp only at hSw); go_simp; try with_reducible rfl)
              try simp only [Act.put]
              refine wpAnyH_take (i := 6) (v := ?_) rfl (by kernel_rfl) (by kernel_rfl) (by kernel_rfl) (fun _ _ _ h => h) (Or.inl ⟨by rfl, ?_⟩) hHeld ?_
              rotate_left
              · (intro w hSw; (try dsimp only at hSw); go_simp; try with_reducible rfl)
              try simp only [Act.put]
              refine wpAnyH_take (i := 7) (v := ?_) rfl (by kernel_rfl) (by kernel_rfl) (by kernel_rfl) (fun _ _ _ h => h) (Or.inl ⟨by rfl, ?_⟩) hHeld ?_
              rotate_left
              · (intro w hSw; (try dsimp only at hSw); go_simp; try with_reducible rfl)
              try simp only [Act.put]
              refine wpAnyH_take (i := 8) (v := ?_) rfl (by kernel_rfl) (by kernel_rfl) (by kernel_rfl) (fun _ _ _ h => h) (Or.inl ⟨by rfl, ?_⟩) hHeld ?_
              rotate_left
              · (intro w hSw; (try dsimp only at hSw); go_simp; try with_reducible rfl)
              try simp only [Act.put]
              refine wpAnyH_take (i := 11) (v := ?_) rfl (by kernel_rfl) (by kernel_rfl) (by kernel_rfl) (fun _ _ _ h => h) (Or.inl ⟨by rfl, ?_⟩) hHeld ?_
              rotate_left
              · (intro w hSw; (try dsimp only at hSw); go_simp; try with_reducible rfl)
              try simp only [Act.put]
              refine wpAnyH_take (i := 12) (v := ?_) rfl (by kernel_rfl) (by kernel_rfl) (by kernel_rfl) (fun _ _ _ h => h) (Or.inl ⟨by rfl, ?_⟩) hHeld ?_
              rotate_left
              · (intro w hSw; (try dsimp only at hSw); go_simp; try with_reducible rfl)
              try simp only [Act.put]
              refine wpAnyH_take (i := 13) (v := ?_) rfl (by kernel_rfl) (by kernel_rfl) (by kernel_rfl) (fun _ _ _ h => h) (Or.inl ⟨by rfl, ?_⟩) hHeld ?_
              rotate_left
              · (intro w hSw; (try dsimp only at hSw); go_simp; try with_reducible rfl)
              try simp only [Act.put]
              refine wpAnyH_take (i := 14) (v := ?_) rfl (by kernel_rfl) (by kernel_rfl) (by kernel_rfl) (fun _ _ _ h => h) (Or.inl ⟨by rfl, ?_⟩) hHeld ?_
              rotate_left
              · (intro w hSw; (try dsimp only at hSw); go_simp; try with_reducible rfl)
              try simp only [Act.put]
              refine wpAnyH_take (i := 16) (v := ?_) rfl (by kernel_rfl) (by kernel_rfl) (by kernel_rfl) (fun _ _ _ h => h) (Or.inl ⟨by rfl, ?_⟩) hHeld ?_
              rotate_left
              · (intro w hSw; (try dsimp only at hSw); go_simp; try with_reducible rfl)
              try simp only [Act.put]
              refine wpAnyH_take (i := 17) (v := ?_) rfl (by kernel_rfl) (by kernel_rfl) (by kernel_rfl) (fun _ _ _ h => h) (Or.inl ⟨by rfl, ?_⟩) hHeld ?_
              rotate_left
              · (intro w hSw; (try dsimp only at hSw); go_simp; try with_reducible rfl)
              try simp only [Act.put]
              refine wpAnyH_take (i := 20) (v := ?_) rfl (by kernel_rfl) (by kernel_rfl) (by kernel_rfl) (fun _ _ _ h => h) (Or.inl ⟨by rfl, ?_⟩) hHeld ?_
              rotate_left
              · (intro w hSw; (try dsimp only at hSw); go_simp; try with_reducible rfl)
              try simp only [Act.put]
              refine wpAnyH_take (i := 21) (v := ?_) rfl (by kernel_rfl) (by kernel_rfl) (by kernel_rfl) (fun _ _ _ h => h) (Or.inl ⟨by rfl, ?_⟩) hHeld ?_
              rotate_left
              · (intro w hSw; (try dsimp only at hSw); go_simp; try with_reducible rfl)
              try simp only [Act.put]
              refine wpAnyH_take (i := 22) (v := ?_) rfl (by kernel_rfl) (by kernel_rfl) (by kernel_rfl) (fun _ _ _ h => h) (Or.inl ⟨by rfl, ?_⟩) hHeld ?_
              rotate_left
              · (intro w hSw; (try dsimp only at hSw); go_simp; try with_reducible rfl)
              try simp only [Act.put]
              refine wpAnyH_take (i := 26) (v := ?_) rfl (by kernel_rfl) (by kernel_rfl) (by kernel_rfl) (fun _ _ _ h => h) (Or.inl ⟨by rfl, ?_⟩) hHeld ?_
              rotate_left
              · (intro w hSw; (try dsimp only at hSw); go_simp; try with_reducible rfl)
              try simp only [Act.put]
              refine wpAnyH_take (i := 27) (v := ?_) rfl (by kernel_rfl) (by kernel_rfl) (by kernel_rfl) (fun _ _ _ h => h) (Or.inl ⟨by rfl, ?_⟩) hHeld ?_
              rotate_left
              · (intro w hSw; (try dsimp only at hSw); go_simp; try with_reducible rfl)
              try simp only [Act.put]
              refine wpAnyH_take (i := 28) (v := ?_) rfl (by kernel_rfl) (by kernel_rfl) (by kernel_rfl) (fun _ _ _ h => h) (Or.inl ⟨by rfl, ?_⟩) hHeld ?_
              rotate_left
              · (intro w hSw; (try dsimp only at hSw); go_simp; try with_reducible rfl)
              try simp only [Act.put]
              refine wpAnyH_take (i := 31) (v := ?_) rfl (by kernel_rfl) (by kernel_rfl) (by kernel_rfl) (fun _ _ _ h => h) (Or.inl ⟨by rfl, ?_⟩) hHeld ?_
              rotate_left
              · (intro w hSw; (try dsimp only at hSw); go_simp; try with_reducible rfl)
              try simp only [Act.put]
              refine wpAnyH_take (i := 32) (v := ?_) rfl (by kernel_rfl) (by kernel_rfl) (by kernel_rfl) (fun _ _ _ h => h) (Or.inl ⟨by rfl, ?_⟩) hHeld ?_
              rotate_left
              · (intro w hSw; (try dsimp only at hSw); go_simp; try with_reducible rfl)
              try simp only [Act.put]
              refine wpAnyH_ready (rs := [2, 23]) (by kernel_rfl) (by simp) ?_
              refine AllReadyH.cons rfl (fun K hK => ?_) ?_
              · go_simp
                refine (H1.out _).mono ?_
                rintro e v1 ⟨rfl, qv1⟩
                try go_wp2_with fail
                refine hK.out _ _ ⟨hHeld.1.trans qv1, kept_cell hHeld.2.1 qv1, kept_cell hHeld.2.2.1 qv1, kept_cell hHeld.2.2.2.1 qv1, kept_cell hHeld.2.2.2.2 qv1⟩ (fun hHeld0 => ?_)
                clear hK K hHeld
                have hHeld := hHeld0
                clear hHeld0
                try simp only [Act.put]
                refine wpAnyH_take (i := 3) (v := ?_) rfl (by kernel_rfl) (by kernel_rfl) (by kernel_rfl) (fun _ _ _ h => h) (Or.inl ⟨by rfl, ?_⟩) hHeld ?_
                rotate_left
                · (intro w hSw; (try dsimp only at hSw); go_simp; try with_reducible rfl)
                try simp only [Act.put]
                refine wpAnyH_ready (rs := [9, 23]) (by kernel_rfl) (by simp) ?_
                refine AllReadyH.cons rfl (fun K hK => ?_) ?_
                · go_simp
                  refine (H2.out _).mono ?_
                  rintro e v2 ⟨rfl, qv2⟩
                  try go_wp2_with fail
                  refine hK.out _ _ ⟨hHeld.1.trans qv2, kept_cell hHeld.2.1 qv2, kept_cell hHeld.2.2.1 qv2, kept_cell hHeld.2.2.2.1 qv2, kept_cell hHeld.2.2.2.2 qv2⟩ (fun hHeld0 => ?_)
                  clear hK K hHeld
                  have hHeld := hHeld0
                  clear hHeld0
                  try simp only [Act.put]
                  refine wpAnyH_take (i := 10) (v := ?_) rfl (by kernel_rfl) (by kernel_rfl) (by kernel_rfl) (fun _ _ _ h => h) (Or.inl ⟨by rfl, ?_⟩) hHeld ?_
                  rotate_left
                  · (intro w hSw; (try dsimp only at hSw); go_simp; try with_reducible rfl)
                  try simp only [Act.put]
                  refine wpAnyH_take (i := 15) (v := ?_) rfl (by kernel_rfl) (by kernel_rfl) (by kernel_rfl) (fun _ _ _ h => h) (Or.inl ⟨by rfl, ?_⟩) hHeld ?_
                  rotate_left
                  · (intro w hSw; (try dsimp only at hSw); go_simp; try with_reducible rfl)
                  try simp only [Act.put]
                  refine wpAnyH_ready (rs := [18, 23]) (by kernel_rfl) (by simp) ?_
                  refine AllReadyH.cons rfl (fun K hK => ?_) ?_
                  · go_simp
                    refine (H3.out _).mono ?_
                    rintro e v3 ⟨rfl, qv3⟩
                    try go_wp2_with fail
                    refine hK.out _ _ ⟨hHeld.1.trans qv3, kept_cell hHeld.2.1 qv3, kept_cell hHeld.2.2.1 qv3, kept_cell hHeld.2.2.2.1 qv3, kept_cell hHeld.2.2.2.2 qv3⟩ (fun hHeld0 => ?_)
                    clear hK K hHeld
                    have hHeld := hHeld0
                    clear hHeld0
                    try simp only [Act.put]
                    refine wpAnyH_take (i := 19) (v := ?_) rfl (by kernel_rfl) (by kernel_rfl) (by kernel_rfl) (fun _ _ _ h => h) (Or.inl ⟨by rfl, ?_⟩) hHeld ?_
                    rotate_left
                    · (intro w hSw; (try dsimp only at hSw); go_simp; try with_reducible rfl)
                    try simp only [Act.put]
                    refine wpAnyH_ready (rs := [23, 29]) (by kernel_rfl) (by simp) ?_
                    refine AllReadyH.cons rfl (fun K hK => ?_) ?_
                    · go_simp
                      refine hK.out _ _ ⟨hHeld.1.alloc _ _, kept_cell hHeld.2.1 ((Q.refl _).alloc _ _), kept_cell hHeld.2.2.1 ((Q.refl _).alloc _ _), kept_cell hHeld.2.2.2.1 ((Q.refl _).alloc _ _), kept_cell hHeld.2.2.2.2 ((Q.refl _).alloc _ _)⟩ (fun hHeld0 => ?_)
                      clear hK K
                      try simp only [Act.put]
                      refine wpAnyH_narrow (S' := fun w' => (Q w2 w' ∧ w'.cell? ⟨wr.heap.size, 0, none⟩ = some (.string r.key) ∧ w'.cell? ⟨wr.heap.size, 1, none⟩ = some (.int .i64 (st : Int)) ∧ w'.cell? ⟨wr.heap.size, 2, none⟩ = some (.int .i64 (kd : Int)) ∧ w'.cell? ⟨wr.heap.size, 3, none⟩ = some (.string r.body)) ∧ w'.cell? ⟨v3.heap.size, 0, none⟩ = some (.int .u8 (kd : Int))) (fun _ h => h.1) ?_
                      have hHeld : (fun w' => (Q w2 w' ∧ w'.cell? ⟨wr.heap.size, 0, none⟩ = some (.string r.key) ∧ w'.cell? ⟨wr.heap.size, 1, none⟩ = some (.int .i64 (st : Int)) ∧ w'.cell? ⟨wr.heap.size, 2, none⟩ = some (.int .i64 (kd : Int)) ∧ w'.cell? ⟨wr.heap.size, 3, none⟩ = some (.string r.body)) ∧ w'.cell? ⟨v3.heap.size, 0, none⟩ = some (.int .u8 (kd : Int))) _ := ⟨hHeld0, by simp⟩
                      clear hHeld0
                      refine wpAnyH_take (i := 24) (v := ?_) rfl (by kernel_rfl) (by kernel_rfl) (by kernel_rfl) (fun _ _ _ h => h) (Or.inl ⟨by rfl, ?_⟩) hHeld ?_
                      rotate_left
                      · (intro w hSw; (try dsimp only at hSw); go_simp; try with_reducible rfl)
                      try simp only [Act.put]
                      refine wpAnyH_take (i := 25) (v := ?_) rfl (by kernel_rfl) (by kernel_rfl) (by kernel_rfl) (fun _ _ _ h => h) (Or.inl ⟨by rfl, ?_⟩) hHeld ?_
                      rotate_left
                      · (intro w hSw; (try dsimp only at hSw); go_simp; try with_reducible rfl)
                      try simp only [Act.put]
                      refine wpAnyH_ready (rs := [29]) (by kernel_rfl) (by simp) ?_
                      refine AllReadyH.cons rfl (fun K hK => ?_) ?_
                      · go_simp
                        refine (H4.out _).mono ?_
                        rintro e v4 ⟨rfl, qv4⟩
                        try go_wp2_with fail
                        refine hK.out _ _ ⟨⟨hHeld.1.1.trans qv4, kept_cell hHeld.1.2.1 qv4, kept_cell hHeld.1.2.2.1 qv4, kept_cell hHeld.1.2.2.2.1 qv4, kept_cell hHeld.1.2.2.2.2 qv4⟩, kept_cell hHeld.2 qv4⟩ (fun hHeld0 => ?_)
                        clear hK K hHeld
                        have hHeld := hHeld0
                        clear hHeld0
                        try simp only [Act.put]
                        refine wpAnyH_take (i := 30) (v := ?_) rfl (by kernel_rfl) (by kernel_rfl) (by kernel_rfl) (fun _ _ _ h => h) (Or.inl ⟨by rfl, ?_⟩) hHeld ?_
                        rotate_left
                        · (intro w hSw; (try dsimp only at hSw); go_simp; try with_reducible rfl)
                        try simp only [Act.put]
                        refine wpAnyH_take (i := 33) (v := ?_) rfl (by kernel_rfl) (by kernel_rfl) (by kernel_rfl) (fun _ _ _ h => h) (Or.inl ⟨by rfl, ?_⟩) hHeld ?_
                        rotate_left
                        · (intro w hSw; (try dsimp only at hSw); go_simp; try with_reducible rfl)
                        try simp only [Act.put]
                        refine wpAnyH_take (i := 34) (v := ?_) rfl (by kernel_rfl) (by kernel_rfl) (by kernel_rfl) (fun _ _ _ h => h) (Or.inl ⟨by rfl, ?_⟩) hHeld ?_
                        rotate_left
                        · (intro w hSw; (try dsimp only at hSw); go_simp; try with_reducible rfl)
                        try simp only [Act.put]
                        refine wpAnyH_done (by kernel_rfl) ?_ _
                        go_wp2_with fail
                        go_roundw
                        case rel => exact ⟨k + 1, t ++ entry rs k r, by omega, textTo_good HTK.out HX.out HBad.out, by go_num, by rw [HSum.out], HQ2.out.trans hHeld.1.1⟩
                        case measure => simp [intOf]; omega
                      exact AllReadyH.nil
                    refine AllReadyH.cons rfl (fun K hK => ?_) ?_
                    · go_simp
                      refine (H4.out _).mono ?_
                      rintro e v5 ⟨rfl, qv5⟩
                      try go_wp2_with fail
                      refine hK.out _ _ ⟨hHeld.1.trans qv5, kept_cell hHeld.2.1 qv5, kept_cell hHeld.2.2.1 qv5, kept_cell hHeld.2.2.2.1 qv5, kept_cell hHeld.2.2.2.2 qv5⟩ (fun hHeld0 => ?_)
                      clear hK K hHeld
                      have hHeld := hHeld0
                      clear hHeld0
                      try simp only [Act.put]
                      refine wpAnyH_ready (rs := [23]) (by kernel_rfl) (by simp) ?_
                      refine AllReadyH.cons rfl (fun K hK => ?_) ?_
                      · go_simp
                        refine hK.out _ _ ⟨hHeld.1.alloc _ _, kept_cell hHeld.2.1 ((Q.refl _).alloc _ _), kept_cell hHeld.2.2.1 ((Q.refl _).alloc _ _), kept_cell hHeld.2.2.2.1 ((Q.refl _).alloc _ _), kept_cell hHeld.2.2.2.2 ((Q.refl _).alloc _ _)⟩ (fun hHeld0 => ?_)
                        clear hK K
                        try simp only [Act.put]
                        refine wpAnyH_narrow (S' := fun w' => (Q w2 w' ∧ w'.cell? ⟨wr.heap.size, 0, none⟩ = some (.string r.key) ∧ w'.cell? ⟨wr.heap.size, 1, none⟩ = some (.int .i64 (st : Int)) ∧ w'.cell? ⟨wr.heap.size, 2, none⟩ = some (.int .i64 (kd : Int)) ∧ w'.cell? ⟨wr.heap.size, 3, none⟩ = some (.string r.body)) ∧ w'.cell? ⟨v5.heap.size, 0, none⟩ = some (.int .u8 (kd : Int))) (fun _ h => h.1) ?_
                        have hHeld : (fun w' => (Q w2 w' ∧ w'.cell? ⟨wr.heap.size, 0, none⟩ = some (.string r.key) ∧ w'.cell? ⟨wr.heap.size, 1, none⟩ = some (.int .i64 (st : Int)) ∧ w'.cell? ⟨wr.heap.size, 2, none⟩ = some (.int .i64 (kd : Int)) ∧ w'.cell? ⟨wr.heap.size, 3, none⟩ = some (.string r.body)) ∧ w'.cell? ⟨v5.heap.size, 0, none⟩ = some (.int .u8 (kd : Int))) _ := ⟨hHeld0, by simp⟩
                        clear hHeld0
                        refine wpAnyH_take (i := 24) (v := ?_) rfl (by kernel_rfl) (by kernel_rfl) (by kernel_rfl) (fun _ _ _ h => h) (Or.inl ⟨by rfl, ?_⟩) hHeld ?_
                        rotate_left
                        · (intro w hSw; (try dsimp only at hSw); go_simp; try with_reducible rfl)
                        try simp only [Act.put]
                        refine wpAnyH_take (i := 25) (v := ?_) rfl (by kernel_rfl) (by kernel_rfl) (by kernel_rfl) (fun _ _ _ h => h) (Or.inl ⟨by rfl, ?_⟩) hHeld ?_
                        rotate_left
                        · (intro w hSw; (try dsimp only at hSw); go_simp; try with_reducible rfl)
                        try simp only [Act.put]
                        refine wpAnyH_take (i := 30) (v := ?_) rfl (by kernel_rfl) (by kernel_rfl) (by kernel_rfl) (fun _ _ _ h => h) (Or.inl ⟨by rfl, ?_⟩) hHeld ?_
                        rotate_left
                        · (intro w hSw; (try dsimp only at hSw); go_simp; try with_reducible rfl)
                        try simp only [Act.put]
                        refine wpAnyH_take (i := 33) (v := ?_) rfl (by kernel_rfl) (by kernel_rfl) (by kernel_rfl) (fun _ _ _ h => h) (Or.inl ⟨by rfl, ?_⟩) hHeld ?_
                        rotate_left
                        · (intro w hSw; (try dsimp only at hSw); go_simp; try with_reducible rfl)
                        try simp only [Act.put]
                        refine wpAnyH_take (i := 34) (v := ?_) rfl (by kernel_rfl) (by kernel_rfl) (by kernel_rfl) (fun _ _ _ h => h) (Or.inl ⟨by rfl, ?_⟩) hHeld ?_
                        rotate_left
                        · (intro w hSw; (try dsimp only at hSw); go_simp; try with_reducible rfl)
                        try simp only [Act.put]
                        refine wpAnyH_done (by kernel_rfl) ?_ _
                        go_wp2_with fail
                        go_roundw
                        case rel => exact ⟨k + 1, t ++ entry rs k r, by omega, textTo_good HTK.out HX.out HBad.out, by go_num, by rw [HSum.out], HQ2.out.trans hHeld.1.1⟩
                        case measure => simp [intOf]; omega
                      exact AllReadyH.nil
                    exact AllReadyH.nil
                  refine AllReadyH.cons rfl (fun K hK => ?_) ?_
                  · go_simp
                    refine hK.out _ _ ⟨hHeld.1.alloc _ _, kept_cell hHeld.2.1 ((Q.refl _).alloc _ _), kept_cell hHeld.2.2.1 ((Q.refl _).alloc _ _), kept_cell hHeld.2.2.2.1 ((Q.refl _).alloc _ _), kept_cell hHeld.2.2.2.2 ((Q.refl _).alloc _ _)⟩ (fun hHeld0 => ?_)
                    clear hK K
                    try simp only [Act.put]
                    refine wpAnyH_narrow (S' := fun w' => (Q w2 w' ∧ w'.cell? ⟨wr.heap.size, 0, none⟩ = some (.string r.key) ∧ w'.cell? ⟨wr.heap.size, 1, none⟩ = some (.int .i64 (st : Int)) ∧ w'.cell? ⟨wr.heap.size, 2, none⟩ = some (.int .i64 (kd : Int)) ∧ w'.cell? ⟨wr.heap.size, 3, none⟩ = some (.string r.body)) ∧ w'.cell? ⟨v2.heap.size, 0, none⟩ = some (.int .u8 (kd : Int))) (fun _ h => h.1) ?_
                    have hHeld : (fun w' => (Q w2 w' ∧ w'.cell? ⟨wr.heap.size, 0, none⟩ = some (.string r.key) ∧ w'.cell? ⟨wr.heap.size, 1, none⟩ = some (.int .i64 (st : Int)) ∧ w'.cell? ⟨wr.heap.size, 2, none⟩ = some (.int .i64 (kd : Int)) ∧ w'.cell? ⟨wr.heap.size, 3, none⟩ = some (.string r.body)) ∧ w'.cell? ⟨v2.heap.size, 0, none⟩ = some (.int .u8 (kd : Int))) _ := ⟨hHeld0, by simp⟩
                    clear hHeld0
                    refine wpAnyH_take (i := 24) (v := ?_) rfl (by kernel_rfl) (by kernel_rfl) (by kernel_rfl) (fun _ _ _ h => h) (Or.inl ⟨by rfl, ?_⟩) hHeld ?_
                    rotate_left
                    · (intro w hSw; (try dsimp only at hSw); go_simp; try with_reducible rfl)
                    try simp only [Act.put]
                    refine wpAnyH_ready (rs := [18]) (by kernel_rfl) (by simp) ?_
                    refine AllReadyH.cons rfl (fun K hK => ?_) ?_
                    · go_simp
                      refine (H3.out _).mono ?_
                      rintro e v6 ⟨rfl, qv6⟩
                      try go_wp2_with fail
                      refine hK.out _ _ ⟨⟨hHeld.1.1.trans qv6, kept_cell hHeld.1.2.1 qv6, kept_cell hHeld.1.2.2.1 qv6, kept_cell hHeld.1.2.2.2.1 qv6, kept_cell hHeld.1.2.2.2.2 qv6⟩, kept_cell hHeld.2 qv6⟩ (fun hHeld0 => ?_)
                      clear hK K hHeld
                      have hHeld := hHeld0
                      clear hHeld0
                      try simp only [Act.put]
                      refine wpAnyH_take (i := 19) (v := ?_) rfl (by kernel_rfl) (by kernel_rfl) (by kernel_rfl) (fun _ _ _ h => h) (Or.inl ⟨by rfl, ?_⟩) hHeld ?_
                      rotate_left
                      · (intro w hSw; (try dsimp only at hSw); go_simp; try with_reducible rfl)
                      try simp only [Act.put]
                      refine wpAnyH_take (i := 25) (v := ?_) rfl (by kernel_rfl) (by kernel_rfl) (by kernel_rfl) (fun _ _ _ h => h) (Or.inl ⟨by rfl, ?_⟩) hHeld ?_
                      rotate_left
                      · (intro w hSw; (try dsimp only at hSw); go_simp; try with_reducible rfl)
                      try simp only [Act.put]
                      refine wpAnyH_ready (rs := [29]) (by kernel_rfl) (by simp) ?_
                      refine AllReadyH.cons rfl (fun K hK => ?_) ?_
                      · go_simp
                        refine (H4.out _).mono ?_
                        rintro e v7 ⟨rfl, qv7⟩
                        try go_wp2_with fail
                        refine hK.out _ _ ⟨⟨hHeld.1.1.trans qv7, kept_cell hHeld.1.2.1 qv7, kept_cell hHeld.1.2.2.1 qv7, kept_cell hHeld.1.2.2.2.1 qv7, kept_cell hHeld.1.2.2.2.2 qv7⟩, kept_cell hHeld.2 qv7⟩ (fun hHeld0 => ?_)
                        clear hK K hHeld
                        have hHeld := hHeld0
                        clear hHeld0
                        try simp only [Act.put]
                        refine wpAnyH_take (i := 30) (v := ?_) rfl (by kernel_rfl) (by kernel_rfl) (by kernel_rfl) (fun _ _ _ h => h) (Or.inl ⟨by rfl, ?_⟩) hHeld ?_
                        rotate_left
                        · (intro w hSw; (try dsimp only at hSw); go_simp; try with_reducible rfl)
                        try simp only [Act.put]
                        refine wpAnyH_take (i := 33) (v := ?_) rfl (by kernel_rfl) (by kernel_rfl) (by kernel_rfl) (fun _ _ _ h => h) (Or.inl ⟨by rfl, ?_⟩) hHeld ?_
                        rotate_left
                        · (intro w hSw; (try dsimp only at hSw); go_simp; try with_reducible rfl)
                        try simp only [Act.put]
                        refine wpAnyH_take (i := 34) (v := ?_) rfl (by kernel_rfl) (by kernel_rfl) (by kernel_rfl) (fun _ _ _ h => h) (Or.inl ⟨by rfl, ?_⟩) hHeld ?_
                        rotate_left
                        · (intro w hSw; (try dsimp only at hSw); go_simp; try with_reducible rfl)
                        try simp only [Act.put]
                        refine wpAnyH_done (by kernel_rfl) ?_ _
                        go_wp2_with fail
                        go_roundw
                        case rel => exact ⟨k + 1, t ++ entry rs k r, by omega, textTo_good HTK.out HX.out HBad.out, by go_num, by rw [HSum.out], HQ2.out.trans hHeld.1.1⟩
                        case measure => simp [intOf]; omega
                      exact AllReadyH.nil
                    exact AllReadyH.nil
                  exact AllReadyH.nil
                refine AllReadyH.cons rfl (fun K hK => ?_) ?_
                · go_simp
                  refine hK.out _ _ ⟨hHeld.1.alloc _ _, kept_cell hHeld.2.1 ((Q.refl _).alloc _ _), kept_cell hHeld.2.2.1 ((Q.refl _).alloc _ _), kept_cell hHeld.2.2.2.1 ((Q.refl _).alloc _ _), kept_cell hHeld.2.2.2.2 ((Q.refl _).alloc _ _)⟩ (fun hHeld0 => ?_)
                  clear hK K
                  try simp only [Act.put]
                  refine wpAnyH_narrow (S' := fun w' => (Q w2 w' ∧ w'.cell? ⟨wr.heap.size, 0, none⟩ = some (.string r.key) ∧ w'.cell? ⟨wr.heap.size, 1, none⟩ = some (.int .i64 (st : Int)) ∧ w'.cell? ⟨wr.heap.size, 2, none⟩ = some (.int .i64 (kd : Int)) ∧ w'.cell? ⟨wr.heap.size, 3, none⟩ = some (.string r.body)) ∧ w'.cell? ⟨v1.heap.size, 0, none⟩ = some (.int .u8 (kd : Int))) (fun _ h => h.1) ?_
                  have hHeld : (fun w' => (Q w2 w' ∧ w'.cell? ⟨wr.heap.size, 0, none⟩ = some (.string r.key) ∧ w'.cell? ⟨wr.heap.size, 1, none⟩ = some (.int .i64 (st : Int)) ∧ w'.cell? ⟨wr.heap.size, 2, none⟩ = some (.int .i64 (kd : Int)) ∧ w'.cell? ⟨wr.heap.size, 3, none⟩ = some (.string r.body)) ∧ w'.cell? ⟨v1.heap.size, 0, none⟩ = some (.int .u8 (kd : Int))) _ := ⟨hHeld0, by simp⟩
                  clear hHeld0
                  refine wpAnyH_take (i := 24) (v := ?_) rfl (by kernel_rfl) (by kernel_rfl) (by kernel_rfl) (fun _ _ _ h => h) (Or.inl ⟨by rfl, ?_⟩) hHeld ?_
                  rotate_left
                  · (intro w hSw; (try dsimp only at hSw); go_simp; try with_reducible rfl)
                  try simp only [Act.put]
                  refine wpAnyH_ready (rs := [9]) (by kernel_rfl) (by simp) ?_
                  refine AllReadyH.cons rfl (fun K hK => ?_) ?_
                  · go_simp
                    refine (H2.out _).mono ?_
                    rintro e v8 ⟨rfl, qv8⟩
                    try go_wp2_with fail
                    refine hK.out _ _ ⟨⟨hHeld.1.1.trans qv8, kept_cell hHeld.1.2.1 qv8, kept_cell hHeld.1.2.2.1 qv8, kept_cell hHeld.1.2.2.2.1 qv8, kept_cell hHeld.1.2.2.2.2 qv8⟩, kept_cell hHeld.2 qv8⟩ (fun hHeld0 => ?_)
                    clear hK K hHeld
                    have hHeld := hHeld0
                    clear hHeld0
                    try simp only [Act.put]
                    refine wpAnyH_take (i := 10) (v := ?_) rfl (by kernel_rfl) (by kernel_rfl) (by kernel_rfl) (fun _ _ _ h => h) (Or.inl ⟨by rfl, ?_⟩) hHeld ?_
                    rotate_left
                    · (intro w hSw; (try dsimp only at hSw); go_simp; try with_reducible rfl)
                    try simp only [Act.put]
                    refine wpAnyH_take (i := 15) (v := ?_) rfl (by kernel_rfl) (by kernel_rfl) (by kernel_rfl) (fun _ _ _ h => h) (Or.inl ⟨by rfl, ?_⟩) hHeld ?_
                    rotate_left
                    · (intro w hSw; (try dsimp only at hSw); go_simp; try with_reducible rfl)
                    try simp only [Act.put]
                    refine wpAnyH_ready (rs := [18]) (by kernel_rfl) (by simp) ?_
                    refine AllReadyH.cons rfl (fun K hK => ?_) ?_
                    · go_simp
                      refine (H3.out _).mono ?_
                      rintro e v9 ⟨rfl, qv9⟩
                      try go_wp2_with fail
                      refine hK.out _ _ ⟨⟨hHeld.1.1.trans qv9, kept_cell hHeld.1.2.1 qv9, kept_cell hHeld.1.2.2.1 qv9, kept_cell hHeld.1.2.2.2.1 qv9, kept_cell hHeld.1.2.2.2.2 qv9⟩, kept_cell hHeld.2 qv9⟩ (fun hHeld0 => ?_)
                      clear hK K hHeld
                      have hHeld := hHeld0
                      clear hHeld0
                      try simp only [Act.put]
                      refine wpAnyH_take (i := 19) (v := ?_) rfl (by kernel_rfl) (by kernel_rfl) (by kernel_rfl) (fun _ _ _ h => h) (Or.inl ⟨by rfl, ?_⟩) hHeld ?_
                      rotate_left
                      · (intro w hSw; (try dsimp only at hSw); go_simp; try with_reducible rfl)
                      try simp only [Act.put]
                      refine wpAnyH_take (i := 25) (v := ?_) rfl (by kernel_rfl) (by kernel_rfl) (by kernel_rfl) (fun _ _ _ h => h) (Or.inl ⟨by rfl, ?_⟩) hHeld ?_
                      rotate_left
                      · (intro w hSw; (try dsimp only at hSw); go_simp; try with_reducible rfl)
                      try simp only [Act.put]
                      refine wpAnyH_ready (rs := [29]) (by kernel_rfl) (by simp) ?_
                      refine AllReadyH.cons rfl (fun K hK => ?_) ?_
                      · go_simp
                        refine (H4.out _).mono ?_
                        rintro e v10 ⟨rfl, qv10⟩
                        try go_wp2_with fail
                        refine hK.out _ _ ⟨⟨hHeld.1.1.trans qv10, kept_cell hHeld.1.2.1 qv10, kept_cell hHeld.1.2.2.1 qv10, kept_cell hHeld.1.2.2.2.1 qv10, kept_cell hHeld.1.2.2.2.2 qv10⟩, kept_cell hHeld.2 qv10⟩ (fun hHeld0 => ?_)
                        clear hK K hHeld
                        have hHeld := hHeld0
                        clear hHeld0
                        try simp only [Act.put]
                        refine wpAnyH_take (i := 30) (v := ?_) rfl (by kernel_rfl) (by kernel_rfl) (by kernel_rfl) (fun _ _ _ h => h) (Or.inl ⟨by rfl, ?_⟩) hHeld ?_
                        rotate_left
                        · (intro w hSw; (try dsimp only at hSw); go_simp; try with_reducible rfl)
                        try simp only [Act.put]
                        refine wpAnyH_take (i := 33) (v := ?_) rfl (by kernel_rfl) (by kernel_rfl) (by kernel_rfl) (fun _ _ _ h => h) (Or.inl ⟨by rfl, ?_⟩) hHeld ?_
                        rotate_left
                        · (intro w hSw; (try dsimp only at hSw); go_simp; try with_reducible rfl)
                        try simp only [Act.put]
                        refine wpAnyH_take (i := 34) (v := ?_) rfl (by kernel_rfl) (by kernel_rfl) (by kernel_rfl) (fun _ _ _ h => h) (Or.inl ⟨by rfl, ?_⟩) hHeld ?_
                        rotate_left
                        · (intro w hSw; (try dsimp only at hSw); go_simp; try with_reducible rfl)
                        try simp only [Act.put]
                        refine wpAnyH_done (by kernel_rfl) ?_ _
                        go_wp2_with fail
                        go_roundw
                        case rel => exact ⟨k + 1, t ++ entry rs k r, by omega, textTo_good HTK.out HX.out HBad.out, by go_num, by rw [HSum.out], HQ2.out.trans hHeld.1.1⟩
                        case measure => simp [intOf]; omega
                      exact AllReadyH.nil
                    exact AllReadyH.nil
                  exact AllReadyH.nil
                exact AllReadyH.nil
              refine AllReadyH.cons rfl (fun K hK => ?_) ?_
              · go_simp
                refine hK.out _ _ ⟨hHeld.1.alloc _ _, kept_cell hHeld.2.1 ((Q.refl _).alloc _ _), kept_cell hHeld.2.2.1 ((Q.refl _).alloc _ _), kept_cell hHeld.2.2.2.1 ((Q.refl _).alloc _ _), kept_cell hHeld.2.2.2.2 ((Q.refl _).alloc _ _)⟩ (fun hHeld0 => ?_)
                clear hK K
                try simp only [Act.put]
                refine wpAnyH_narrow (S' := fun w' => (Q w2 w' ∧ w'.cell? ⟨wr.heap.size, 0, none⟩ = some (.string r.key) ∧ w'.cell? ⟨wr.heap.size, 1, none⟩ = some (.int .i64 (st : Int)) ∧ w'.cell? ⟨wr.heap.size, 2, none⟩ = some (.int .i64 (kd : Int)) ∧ w'.cell? ⟨wr.heap.size, 3, none⟩ = some (.string r.body)) ∧ w'.cell? ⟨wc.heap.size, 0, none⟩ = some (.int .u8 (kd : Int))) (fun _ h => h.1) ?_
                have hHeld : (fun w' => (Q w2 w' ∧ w'.cell? ⟨wr.heap.size, 0, none⟩ = some (.string r.key) ∧ w'.cell? ⟨wr.heap.size, 1, none⟩ = some (.int .i64 (st : Int)) ∧ w'.cell? ⟨wr.heap.size, 2, none⟩ = some (.int .i64 (kd : Int)) ∧ w'.cell? ⟨wr.heap.size, 3, none⟩ = some (.string r.body)) ∧ w'.cell? ⟨wc.heap.size, 0, none⟩ = some (.int .u8 (kd : Int))) _ := ⟨hHeld0, by simp⟩
                clear hHeld0
                refine wpAnyH_take (i := 24) (v := ?_) rfl (by kernel_rfl) (by kernel_rfl) (by kernel_rfl) (fun _ _ _ h => h) (Or.inl ⟨by rfl, ?_⟩) hHeld ?_
                rotate_left
                · (intro w hSw; (try dsimp only at hSw); go_simp; try with_reducible rfl)
                try simp only [Act.put]
                refine wpAnyH_ready (rs := [2]) (by kernel_rfl) (by simp) ?_
                refine AllReadyH.cons rfl (fun K hK => ?_) ?_
                · go_simp
                  refine (H1.out _).mono ?_
                  rintro e v11 ⟨rfl, qv11⟩
                  try go_wp2_with fail
                  refine hK.out _ _ ⟨⟨hHeld.1.1.trans qv11, kept_cell hHeld.1.2.1 qv11, kept_cell hHeld.1.2.2.1 qv11, kept_cell hHeld.1.2.2.2.1 qv11, kept_cell hHeld.1.2.2.2.2 qv11⟩, kept_cell hHeld.2 qv11⟩ (fun hHeld0 => ?_)
                  clear hK K hHeld
                  have hHeld := hHeld0
                  clear hHeld0
                  try simp only [Act.put]
                  refine wpAnyH_take (i := 3) (v := ?_) rfl (by kernel_rfl) (by kernel_rfl) (by kernel_rfl) (fun _ _ _ h => h) (Or.inl ⟨by rfl, ?_⟩) hHeld ?_
                  rotate_left
                  · (intro w hSw; (try dsimp only at hSw); go_simp; try with_reducible rfl)
                  try simp only [Act.put]
                  refine wpAnyH_ready (rs := [9]) (by kernel_rfl) (by simp) ?_
                  refine AllReadyH.cons rfl (fun K hK => ?_) ?_
                  · go_simp
                    refine (H2.out _).mono ?_
                    rintro e v12 ⟨rfl, qv12⟩
                    try go_wp2_with fail
                    refine hK.out _ _ ⟨⟨hHeld.1.1.trans qv12, kept_cell hHeld.1.2.1 qv12, kept_cell hHeld.1.2.2.1 qv12, kept_cell hHeld.1.2.2.2.1 qv12, kept_cell hHeld.1.2.2.2.2 qv12⟩, kept_cell hHeld.2 qv12⟩ (fun hHeld0 => ?_)
                    clear hK K hHeld
                    have hHeld := hHeld0
                    clear hHeld0
                    try simp only [Act.put]
                    refine wpAnyH_take (i := 10) (v := ?_) rfl (by kernel_rfl) (by kernel_rfl) (by kernel_rfl) (fun _ _ _ h => h) (Or.inl ⟨by rfl, ?_⟩) hHeld ?_
                    rotate_left
                    · (intro w hSw; (try dsimp only at hSw); go_simp; try with_reducible rfl)
                    try simp only [Act.put]
                    refine wpAnyH_take (i := 15) (v := ?_) rfl (by kernel_rfl) (by kernel_rfl) (by kernel_rfl) (fun _ _ _ h => h) (Or.inl ⟨by rfl, ?_⟩) hHeld ?_
                    rotate_left
                    · (intro w hSw; (try dsimp only at hSw); go_simp; try with_reducible rfl)
                    try simp only [Act.put]
                    refine wpAnyH_ready (rs := [18]) (by kernel_rfl) (by simp) ?_
                    refine AllReadyH.cons rfl (fun K hK => ?_) ?_
                    · go_simp
                      refine (H3.out _).mono ?_
                      rintro e v13 ⟨rfl, qv13⟩
                      try go_wp2_with fail
                      refine hK.out _ _ ⟨⟨hHeld.1.1.trans qv13, kept_cell hHeld.1.2.1 qv13, kept_cell hHeld.1.2.2.1 qv13, kept_cell hHeld.1.2.2.2.1 qv13, kept_cell hHeld.1.2.2.2.2 qv13⟩, kept_cell hHeld.2 qv13⟩ (fun hHeld0 => ?_)
                      clear hK K hHeld
                      have hHeld := hHeld0
                      clear hHeld0
                      try simp only [Act.put]
                      refine wpAnyH_take (i := 19) (v := ?_) rfl (by kernel_rfl) (by kernel_rfl) (by kernel_rfl) (fun _ _ _ h => h) (Or.inl ⟨by rfl, ?_⟩) hHeld ?_
                      rotate_left
                      · (intro w hSw; (try dsimp only at hSw); go_simp; try with_reducible rfl)
                      try simp only [Act.put]
                      refine wpAnyH_take (i := 25) (v := ?_) rfl (by kernel_rfl) (by kernel_rfl) (by kernel_rfl) (fun _ _ _ h => h) (Or.inl ⟨by rfl, ?_⟩) hHeld ?_
                      rotate_left
                      · (intro w hSw; (try dsimp only at hSw); go_simp; try with_reducible rfl)
                      try simp only [Act.put]
                      refine wpAnyH_ready (rs := [29]) (by kernel_rfl) (by simp) ?_
                      refine AllReadyH.cons rfl (fun K hK => ?_) ?_
                      · go_simp
                        refine (H4.out _).mono ?_
                        rintro e v14 ⟨rfl, qv14⟩
                        try go_wp2_with fail
                        refine hK.out _ _ ⟨⟨hHeld.1.1.trans qv14, kept_cell hHeld.1.2.1 qv14, kept_cell hHeld.1.2.2.1 qv14, kept_cell hHeld.1.2.2.2.1 qv14, kept_cell hHeld.1.2.2.2.2 qv14⟩, kept_cell hHeld.2 qv14⟩ (fun hHeld0 => ?_)
                        clear hK K hHeld
                        have hHeld := hHeld0
                        clear hHeld0
                        try simp only [Act.put]
                        refine wpAnyH_take (i := 30) (v := ?_) rfl (by kernel_rfl) (by kernel_rfl) (by kernel_rfl) (fun _ _ _ h => h) (Or.inl ⟨by rfl, ?_⟩) hHeld ?_
                        rotate_left
                        · (intro w hSw; (try dsimp only at hSw); go_simp; try with_reducible rfl)
                        try simp only [Act.put]
                        refine wpAnyH_take (i := 33) (v := ?_) rfl (by kernel_rfl) (by kernel_rfl) (by kernel_rfl) (fun _ _ _ h => h) (Or.inl ⟨by rfl, ?_⟩) hHeld ?_
                        rotate_left
                        · (intro w hSw; (try dsimp only at hSw); go_simp; try with_reducible rfl)
                        try simp only [Act.put]
                        refine wpAnyH_take (i := 34) (v := ?_) rfl (by kernel_rfl) (by kernel_rfl) (by kernel_rfl) (fun _ _ _ h => h) (Or.inl ⟨by rfl, ?_⟩) hHeld ?_
                        rotate_left
                        · (intro w hSw; (try dsimp only at hSw); go_simp; try with_reducible rfl)
                        try simp only [Act.put]
                        refine wpAnyH_done (by kernel_rfl) ?_ _
                        go_wp2_with fail
                        go_roundw
                        case rel => exact ⟨k + 1, t ++ entry rs k r, by omega, textTo_good HTK.out HX.out HBad.out, by go_num, by rw [HSum.out], HQ2.out.trans hHeld.1.1⟩
                        case measure => simp [intOf]; omega
                      exact AllReadyH.nil
                    exact AllReadyH.nil
                  exact AllReadyH.nil
                exact AllReadyH.nil
              exact AllReadyH.nil
    · obtain rfl : k = rs.length := by omega
      have hts : (⟨t.toArray⟩ : ByteArray).size = t.length := by simp [ByteArray.size]
      have hS := HS.out ⟨t.toArray⟩ (by rw [hts]; omega)
      have HS1 : Hid _ := hS
      have E : Hid (builtEnd (textTo rs rs.length) = .returned (.tuple #[.string ⟨(M.sealed t).toArray⟩, .int .i64 0])) := by rw [HTK.out]; exact rfl
      clear hts hS
      go_wp2_with fail
      refine (HS1.out _).mono ?_
      rintro e w2 ⟨rfl, q2⟩
      go_wp2_with fail
      go_ret2
      exact ⟨E.out.symm, hq.trans ⟨q2⟩⟩
end Go.Proofs.YtekdenkllipehaaDoor
