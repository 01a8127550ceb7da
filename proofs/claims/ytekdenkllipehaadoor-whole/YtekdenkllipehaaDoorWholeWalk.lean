/-
  The law on whole blocks: the walk.
-/
import Derived.Test.YtekdenkllipehaaDoorWholeM
import Derived.Test.YtekdenkllipehaaDoorRecords
namespace Go.Proofs.YtekdenkllipehaaDoor
open Go.RowKit

set_option maxRecDepth 100000 in
set_option maxHeartbeats 1600000 in
theorem whole_walk (zs : List Int) (hz : ∀ z ∈ zs, (Lit.int .i64 z).wf = true) (ao : Option Addr) (cap : Nat) (at_ : Int) (hat : (Lit.int .i64 at_).wf = true) (ms : List Int) (hms : ∀ z ∈ ms, (Lit.int .i64 z).wf = true) (ao2 : Option Addr) (cap2 : Nat) (w : World)
    (h1 : IntsAt w ao zs) (h2 : IntsAt w ao2 ms) (hl1 : zs.length ≤ 140737488351232) (hT : Tab w) :
    Calls Tryd.prog 5 #[.slice ao zs.length cap, .int .i64 at_, .slice ao2 ms.length cap2] w fun e w' => e = .returned (.bool true) ∧ Q w w' := by
  have HRec : Hid _ := fun (_ : Unit) => records_any zs hz ao cap w h1 hl1
  have HP : Hid _ := pick_any
  have HM : Hid (IntsAt w ao2 ms) := h2
  have HMz : Hid (∀ (i : Nat) (z : Int), ms[i]? = some z → (Lit.int .i64 z).wf = true) := fun i z hi => hms z (List.mem_of_getElem? hi)
  clear h1 h2 hz hms
  go_enter Tryd.func5, Tryd.ntmps5
  go_wp2_with fail
  refine (HRec.out ()).mono ?_
  rintro e w1 ⟨rs, a1, c1, rfl, ⟨hF, h64⟩, hR1, q1⟩
  obtain ⟨T, hpT⟩ := hF.plain h64
  have hTl := textTo_length (plainText_some hpT).2
  have hT1 : 1 ≤ T.length := by
    obtain ⟨t, q, ht, hq⟩ := textTo_head (plainText_some hpT).2 0 (by omega)
    simp only [textTo, Option.some.injEq] at ht
    have := M.enc_pos 7 rs.length
    rw [hq, ← ht, List.length_append]
    omega
  obtain ⟨sx, hsx⟩ : ∃ sx, sx = sealText T := ⟨_, rfl⟩
  have hsz : sx.size = T.length + 4 := by
    rw [hsx]
    show (M.sealed T).toArray.size = _
    simp [M.sealed_length]
  have hs5 : 5 ≤ sx.size := by omega
  have hsU : sx.size ≤ 400000 := by omega
  clear hsz
  have hsd : sx.data.toList = M.sealed T := by rw [hsx]; exact List.toList_toArray
  have hB := build_any rs a1 c1 w1 hR1 (by omega) (tab_kept hT q1)
  rw [hpT] at hB
  have HB : Hid (Calls Tryd.prog 13 #[.slice a1 rs.length c1] w1 fun e w' => e = .returned (.tuple #[.string sx, .int .i64 0]) ∧ Q w1 w') := by
    rw [hsx]; exact hB
  have HPs : Hid _ := fun W (hT : Tab W) => (parse_any sx (by omega) W hT).mono (fun e w' h => (⟨parsed_back hpT (by rw [← hsx]; exact h.1), h.2⟩ : _ ∧ _))
  have h3s : (sx.extract 0 3).size < 4 := by simp; omega
  have HP3 : Hid _ := fun W (hT : Tab W) => (parse_any (sx.extract 0 3) (by omega) W hT).mono (fun e w' h => (⟨parsed_short h3s h.1, h.2⟩ : _ ∧ _))
  have HHit : Hid (∀ (fr j : Nat) (B : List UInt8) (ch : Bool), Hit (M.sealed T) fr j B ch → j ≤ 4 → ch = true → ∀ t, M.sealed t ≠ B) := fun fr j B ch h hj hc => hit_apart h hj hc
  have HSd : Hid (sx.data.toList = M.sealed T) := hsd
  have HSx : Hid (sx = sealText T) := hsx
  clear hB hpT hF HRec hsx hsd
  go_wp2_with fail
  refine HB.out.mono ?_
  rintro e w2 ⟨rfl, q2⟩
  have hq2 := q1.trans q2
  have hR2 := hR1.kept q2
  clear q2 hR1 HB
  go_wp2_with fail
  refine (HPs.out w2 (tab_kept hT hq2)).mono ?_
  rintro e w3 ⟨⟨a3, c3, rfl, hR3⟩, q3⟩
  have hq3 := hq2.trans q3
  have hR2' := hR2.kept q3
  have HRa : Hid (Rcs w3 a1 rs) := hR2'
  have HRb : Hid (Rcs w3 a3 rs) := hR3
  have hd5 : decide ((sx.size : Int) < 5) = false := by rw [decide_eq_false_iff_not]; omega
  have hd5' : decide (sx.size < 5) = false := by rw [decide_eq_false_iff_not]; omega
  clear q1 hq2 q3 hR2 hR2' hR3
  go_wp2_with fail
  go_loopw [12] (fun i wr => ∃ k : Nat, i = .int .i64 k ∧ k ≤ rs.length ∧ Q w3 wr) (fun i _ => rs.length - (intOf i).toNat)
  case atStart => exact ⟨0, rfl, Nat.zero_le _, Q.refl _⟩
  case round =>
    obtain ⟨k, rfl, hk, hq⟩ := hrel
    by_cases hlt : k < rs.length
    · obtain ⟨b, off, rfl, hb, hatr⟩ := (HRa.out.kept hq).at hlt
      obtain ⟨b', off', rfl, hb', hatr'⟩ := (HRb.out.kept hq).at hlt
      have hg : rs[k]? = some rs[k] := List.getElem?_eq_getElem hlt
      obtain ⟨k0, k1, k2, k3⟩ := hatr k _ hg
      obtain ⟨d0, d1, d2, d3⟩ := hatr' k _ hg
      generalize rs[k] = r at *
      have i1 : (k : Int) < (rs.length : Int) := by omega
      have i0 : (0 : Int) ≤ (k : Int) := by omega
      clear hatr hatr' hg
      go_wp2_with fail
      go_quiet (fail)
      go_wp2_with fail
      go_roundw
      case rel => exact ⟨k + 1, by go_num, by omega, hq.drewN _⟩
      case measure => simp [intOf]; omega
    · obtain rfl : k = rs.length := by omega
      obtain ⟨cb, w4, hcb, hby, q4⟩ := to_bytes sx wr
      have P1 : Hid _ := HP.out at_ sx.size hat (by omega) (by omega)
      have hp1 := pickN_lt at_ (n := sx.size) (by omega)
      generalize pickN at_ sx.size = fr at *
      have hqA := (hq3.trans hq).trans q4
      have HB0 : Hid (Hid (BytAt w4 wr.heap.size sx.data.toList)) := hby
      have hNw : w.heap.size ≤ wr.heap.size := (hq3.trans hq).below.size
      have HH0 : Hid (Hid (Hit (M.sealed T) fr 0 sx.data.toList false)) := by
        show Hit _ _ _ _ _
        rw [HSd.out]
        exact hit_start _ _ (by rw [← HSd.out]; simp; omega)
      generalize hN : wr.heap.size = N at *
      clear hby hN
      go_wp2_with fail
      refine (P1.out _).mono ?_
      rintro e wy ⟨rfl, hwy⟩
      subst hwy
      go_wp2_with fail
      go_loopw [15, 16] (fun d i wr => ∃ (j : Nat) (B : List UInt8) (ch : Bool), d = .bool ch ∧ i = .int .i64 j ∧ j ≤ 4 ∧ Hid (B.length = sx.size) ∧ Hid (Hit (M.sealed T) fr j B ch) ∧ Hid (BytAt wr N B) ∧ Q w wr) (fun _ i _ => 4 - (intOf i).toNat)
      case atStart => exact ⟨0, sx.data.toList, false, rfl, rfl, by omega, (by simp : sx.data.toList.length = sx.size), HH0.out, HB0.out, hqA⟩
      case round =>
        obtain ⟨j, B, ch, rfl, rfl, hj4, HBl, HH, HB, hqr⟩ := hrel
        have hwf : IntKind.i64.wrap ((fr : Int) + (j : Int)) = (fr : Int) + (j : Int) := by rw [IntKind.wrap_i64]; omega
        obtain ⟨go, hgo⟩ : ∃ go : Bool, go = decide (j < 4 ∧ j < ms.length ∧ fr + j < sx.size) := ⟨_, rfl⟩
        go_upto_region 15 with fail
        go_cut [90] (fun y wx => y = .bool go ∧ wx = wr)
        case first =>
          by_cases c1 : j < 4
          · by_cases c2 : j < ms.length
            · by_cases c3 : fr + j < sx.size
              · have hg : Hid (go = true) := by show _ = _; rw [hgo, decide_eq_true_eq]; exact ⟨c1, c2, c3⟩
                have d1 : decide ((j : Int) < 4) = true := by rw [decide_eq_true_eq]; omega
                have d2 : decide ((j : Int) < (ms.length : Int)) = true := by rw [decide_eq_true_eq]; omega
                have d3 : decide ((fr : Int) + (j : Int) < (sx.size : Int)) = true := by rw [decide_eq_true_eq]; omega
                have e3 : (fr : Int) + (j : Int) < (sx.size : Int) := by omega
                clear hgo
                go_wp2_with fail
                go_meet
                case rel => exact ⟨congrArg Value.bool hg.out.symm, rfl⟩
              · have hg : Hid (go = false) := by show _ = _; rw [hgo, decide_eq_false_iff_not]; exact fun h => c3 h.2.2
                have d1 : decide ((j : Int) < 4) = true := by rw [decide_eq_true_eq]; omega
                have d2 : decide ((j : Int) < (ms.length : Int)) = true := by rw [decide_eq_true_eq]; omega
                have d3 : decide ((fr : Int) + (j : Int) < (sx.size : Int)) = false := by rw [decide_eq_false_iff_not]; omega
                clear hgo
                go_wp2_with fail
                go_meet
                case rel => exact ⟨congrArg Value.bool hg.out.symm, rfl⟩
            · have hg : Hid (go = false) := by show _ = _; rw [hgo, decide_eq_false_iff_not]; exact fun h => c2 h.2.1
              have d1 : decide ((j : Int) < 4) = true := by rw [decide_eq_true_eq]; omega
              have d2 : decide (j < ms.length) = false := by rw [decide_eq_false_iff_not]; exact c2
              clear hgo
              go_wp2_with fail
              go_meet
              case rel => exact ⟨congrArg Value.bool hg.out.symm, rfl⟩
          · have hg : Hid (go = false) := by show _ = _; rw [hgo, decide_eq_false_iff_not]; exact fun h => c1 h.1
            have d1 : decide ((j : Int) < 4) = false := by rw [decide_eq_false_iff_not]; omega
            clear hgo
            go_wp2_with fail
            go_meet
            case rel => exact ⟨congrArg Value.bool hg.out.symm, rfl⟩
        case rest =>
          obtain ⟨rfl, hwc⟩ := hcut
          subst hwc
          cases go with
          | true =>
            have hgo' := hgo.symm
            rw [decide_eq_true_eq] at hgo'
            obtain ⟨g1, g2, g3⟩ := hgo'
            clear hgo
            obtain ⟨bm, om, rfl, hbm, hcm⟩ := (HM.out.kept hqr).at g2
            have hgm : ms[j]? = some ms[j] := List.getElem?_eq_getElem g2
            have cm := hcm j _ hgm
            have fm := HMz.out j _ hgm
            generalize ms[j] = z at *
            have P5 : Hid _ := HP.out z 256 fm (by decide) (by decide)
            have hp5 := pickN_lt z (n := 256) (by decide)
            generalize pickN z 256 = m5 at *
            have b5 : IntKind.u8.wrap (m5 : Int) = (m5 : Int) := by rw [IntKind.wrap_u8]; omega
            have hBj : fr + j < B.length := by rw [HBl.out]; exact g3
            have cx := HB.out.cell (fr + j) hBj
            have fx := HB.out.frz (fr + j) hBj
            have hm5 : (UInt8.ofNat m5).toNat = m5 := by rw [UInt8.toNat_ofNat']; omega
            have hxr := u8_xor (B.getD (fr + j) 0) (UInt8.ofNat m5)
            rw [hm5] at hxr
            have HBs : Hid _ := HB.out.set (fr + j) (B.getD (fr + j) 0 ^^^ UInt8.ofNat m5)
            have HHs : Hid _ := hit_more HH.out (by have := HH.out.len; omega) (UInt8.ofNat m5)
            have HLs : Hid ((B.set (fr + j) (B.getD (fr + j) 0 ^^^ UInt8.ofNat m5)).length = sx.size) := by show _ = _; rw [List.length_set]; exact HBl.out
            generalize B.set (fr + j) (B.getD (fr + j) 0 ^^^ UInt8.ofNat m5) = B' at *
            generalize (B.getD (fr + j) 0 ^^^ UInt8.ofNat m5).toNat = xr at *
            generalize (B.getD (fr + j) 0).toNat = xb at *
            have hQs : Q w (wc.setCell ⟨N, fr + j, none⟩ (.int .u8 (xr : Int))) := ⟨hqr.below.grown (set_grown wc N (fr + j) _) hqr.below.size (by intro q hq; simp at hq; omega)⟩
            have i1 : (j : Int) < (ms.length : Int) := by omega
            have i0 : (0 : Int) ≤ (j : Int) := by omega
            have i3 : (fr : Int) + (j : Int) < (sx.size : Int) := by omega
            have i4 : (0 : Int) ≤ (fr : Int) + (j : Int) := by omega
            have i5 : ((fr : Int) + (j : Int)).toNat = fr + j := by omega
            have hzz : decide (UInt8.ofNat m5 ≠ 0) = !((m5 : Int) == 0) := by
              rw [Bool.eq_iff_iff]
              simp
              constructor
              · intro h e; exact h (by rw [e]; rfl)
              · intro h e
                have := congrArg UInt8.toNat e
                rw [hm5] at this
                exact h (by simpa using this)
            rw [hzz] at HHs
            clear hzz hm5 HB HH hcm hgm HBl hBj
            go_wp2_with fail
            refine (P5.out _).mono ?_
            rintro e wz ⟨rfl, hwz⟩
            subst hwz
            cases ch with
            | true =>
              go_wp2_with fail
              go_roundw
              case rel => exact ⟨j + 1, B', true, by simp, by go_num, by omega, HLs, by simpa using HHs, HBs, hQs⟩
              case measure => simp [intOf]; omega
            | false =>
              go_wp2_with fail
              go_roundw
              case rel => exact ⟨j + 1, B', !((m5 : Int) == 0), by first | rfl | (simp; done), by go_num, by omega, HLs, by simpa using HHs, HBs, hQs⟩
              case measure => simp [intOf]; omega
          | false =>
            obtain ⟨sb, hsb⟩ : ∃ sb : ByteArray, sb = ⟨B.toArray⟩ := ⟨_, rfl⟩
            have hbs : sb.size = sx.size := by
              rw [hsb]
              show B.toArray.size = _
              simpa using HBl.out
            have HcA : Hid (∀ W, BytAt W N B → (convert 40 9 (.slice (some ⟨N, 0, none⟩) sx.size cb)).run Tryd.prog W = .ok (.string sb) W) := fun W h => by
              have := h.text (cap := cb)
              rw [HBl.out, ← hsb] at this
              exact this
            have eq1 := HcA.out _ HB.out
            obtain ⟨u, cu, hUn, hU0, hU3⟩ := unseal_code sb (by omega) (by omega)
            have h3I : (3 : Int) ≤ (sx.size : Int) := by omega
            cases ch with
            | false =>
              have hBS := HH.out.same rfl
              have hsbx : sb = sx := by
                rw [hsb, HSx.out, hBS]
                rfl
              have hcu : cu = 0 := hU0 ⟨T, by rw [hsbx]; exact HSx.out.symm⟩
              subst hcu
              have HPb : Hid (∀ W, Tab W → Calls Tryd.prog 16 #[.string sb] W fun e w' => (∃ (a : Option Addr) (n c : Nat), e = .returned (.tuple #[.slice a n c, .int .i64 0])) ∧ Q W w') := fun W hT => by
                rw [hsbx]
                refine (HPs.out W hT).mono ?_
                rintro e w' ⟨⟨a, c, he, _⟩, q⟩
                exact ⟨⟨a, _, c, he⟩, q⟩
              have HUn : Hid _ := hUn
              clear hBS hsbx hbs hsb hUn hU0 hU3 hgo
              go_wp2_with fail
              refine (HPb.out _ (tab_kept hT hqr)).mono ?_
              rintro e w5 ⟨⟨a5, n5, c5, rfl⟩, q5⟩
              have hq5 := hqr.trans q5
              have eq2 := HcA.out w5 (HB.out.kept q5)
              clear q5 eq1
              go_wp2_with fail
              refine (HUn.out _ (tab_kept hT hq5)).mono ?_
              rintro e w6 ⟨rfl, q6⟩
              have hq6 := hq5.trans q6
              clear q6 hq5 eq2
              go_wp2_with fail
              refine (HP3.out _ (tab_kept hT hq6)).mono ?_
              rintro e w7 ⟨rfl, q7⟩
              have hq7 := hq6.trans q7
              clear q7 hq6
              go_wp2_with fail
              go_ret
              exact ⟨rfl, hq7⟩
            | true =>
              have hno : ∀ t, sealText t ≠ sb := by
                intro t ht
                refine HHit.out fr j B true HH.out hj4 rfl t ?_
                have := congrArg (fun x : ByteArray => x.data.toList) (ht.trans hsb)
                simpa [sealText] using this
              have hcu : cu = 3 := hU3 hno
              subst hcu
              have HPb : Hid (∀ W, Tab W → Calls Tryd.prog 16 #[.string sb] W fun e w' => (∃ (a : Option Addr) (n c : Nat), e = .returned (.tuple #[.slice a n c, .int .i64 3])) ∧ Q W w') := fun W hT => by
                refine (parse_any sb (by omega) W hT).mono ?_
                rintro e w' ⟨h, q⟩
                exact ⟨⟨none, 0, 0, parsed_not (by omega) hno h⟩, q⟩
              have HUn : Hid _ := hUn
              clear hno hbs hsb hUn hU0 hU3 hgo
              go_wp2_with fail
              refine (HPb.out _ (tab_kept hT hqr)).mono ?_
              rintro e w5 ⟨⟨a5, n5, c5, rfl⟩, q5⟩
              have hq5 := hqr.trans q5
              have eq2 := HcA.out w5 (HB.out.kept q5)
              clear q5 eq1
              go_wp2_with fail
              refine (HUn.out _ (tab_kept hT hq5)).mono ?_
              rintro e w6 ⟨rfl, q6⟩
              have hq6 := hq5.trans q6
              clear q6 hq5 eq2
              go_wp2_with fail
              refine (HP3.out _ (tab_kept hT hq6)).mono ?_
              rintro e w7 ⟨rfl, q7⟩
              have hq7 := hq6.trans q7
              clear q7 hq6
              go_wp2_with fail
              go_ret
              exact ⟨rfl, hq7⟩
end Go.Proofs.YtekdenkllipehaaDoor
