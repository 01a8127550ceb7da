import Derived.Test.YtekdenkllipehaaHead
import Derived.Deep.QuietTactic
import Derived.BigQuiet
import Derived.Deep.DeepCutAuto
import Derived.Deep.RegionHeld3
namespace Go.Proofs.Ytekdenkllipehaa
open Go.RowKit

/-- Steps in a slice that was cut off at its end. -/
theorem steps_take {w : World} {g o : Nat} {R : List M.St} (h : StAt w g o R) (hg : g < w.heap.size) (n : Nat) : Steps w (some ⟨g, o, none⟩) (R.take n) := Or.inr ⟨g, o, rfl, hg, h.take n⟩

/-- What is written behind k steps: the text so far, and how long it is. -/
structure Wrote (L : List M.St) (k : Nat) (P : List ByteArray) : Prop where
  le : k ≤ L.length
  text : ∃ T, M.Wr T (M.flat (L.take k)) ∧ T.length ≤ M.cost (L.take k) ∧ M.cat P = M.enc 7 (M.tot L) ++ T
  few : P.length ≤ 2 * k + 1

theorem wrote_start (L : List M.St) : Wrote L 0 [⟨(M.enc 7 (M.tot L)).toArray⟩] :=
  ⟨Nat.zero_le _, ⟨[], by rw [List.take_zero]; exact M.Wr.nil, by simp, by simp [M.cat]⟩, by simp⟩

/-- A chain more. -/
theorem Wrote.chain {L : List M.St} {k : Nat} {P : List ByteArray} (h : Wrote L k P) (hg : M.Goods L) (ht : M.tot L ≤ 4096) (n : Nat) (hn : 1 ≤ n) (hk : k + n ≤ L.length) (hc : M.Chain ((L.drop k).take n)) (P' : List ByteArray)
    (hP : M.cat P' = M.cat P ++ (M.headOf ((L.drop k).take n) ++ M.puts ((L.drop k).take n))) (hl : P'.length = P.length + 1 + n) : Wrote L (k + n) P' := by
  obtain ⟨T, h1, h2, h3⟩ := h.text
  have hfew := h.few
  have hsplit : L.take (k + n) = L.take k ++ (L.drop k).take n := List.take_add
  have hne : (L.drop k).take n ≠ [] := by
    intro e
    have := congrArg List.length e
    simp at this
    omega
  obtain ⟨s, R, hR⟩ := List.exists_cons_of_ne_nil hne
  have hgc : M.Goods ((L.drop k).take n) := (hg.drop k).take n
  have htc : M.tot ((L.drop k).take n) ≤ 4096 := by
    have e1 := M.tot_split L k
    have e2 := M.tot_take_le (L.drop k) n
    omega
  rw [hR] at hc hgc htc hP hsplit
  obtain ⟨hw, hlen⟩ := M.chain_wr h1 s R hc hgc htc
  refine ⟨hk, ⟨T ++ (M.headOf (s :: R) ++ M.puts (s :: R)), ?_, ?_, ?_⟩, by omega⟩
  · rw [hsplit, M.flat_append]; exact hw
  · rw [hsplit, M.cost_append, List.length_append]; omega
  · rw [hP, h3, List.append_assoc]

/-- What write answers: the text of a change that puts what the steps put, no longer than each step by itself. -/
def WriteSaid (L : List M.St) (C : ByteArray) : Prop := ∃ T, M.Wr T (M.flat L) ∧ T.length ≤ M.cost L ∧ C.data.toList = M.enc 7 (M.tot L) ++ T

theorem wrote_end {L : List M.St} {P : List ByteArray} (h : Wrote L L.length P) : WriteSaid L ⟨(M.cat P).toArray⟩ := by
  obtain ⟨T, h1, h2, h3⟩ := h.text
  rw [List.take_length] at h1 h2
  exact ⟨T, h1, h2, by simpa using h3⟩

theorem WriteSaid.parse {L : List M.St} {C : ByteArray} (h : WriteSaid L C) (hg : M.Goods L) (ht : M.tot L ≤ 4096) : M.parse C.data.toList = some (M.tot L, M.flat L) ∧ C.size ≤ 2 + M.cost L := by
  obtain ⟨T, h1, h2, h3⟩ := h
  have hl := M.flat_length hg
  refine ⟨?_, ?_⟩
  · rw [h3, ← hl]; exact M.parse_wr h1 (by omega)
  · have e := M.enc_two (n := M.tot L) (by omega)
    have : C.size = C.data.toList.length := by simp
    rw [this, h3, List.length_append]; omega

theorem puts_len (L : List M.St) (hg : M.Goods L) : (M.puts L).length ≤ M.tot L := by
  induction L with
  | nil => simp [M.puts]
  | cons s L ih =>
    have := ih fun t ht => hg t (by simp [ht])
    have hs : s.put.size ≤ s.size := by rcases hg s (by simp) with e | e <;> omega
    have e : M.puts (s :: L) = s.put.data.toList ++ M.puts L := rfl
    rw [e, List.length_append]
    simp only [M.tot]
    simp; omega

theorem cost_le : ∀ {L : List M.St}, M.Goods L → M.cost L ≤ 10 * L.length + M.tot L
  | [], _ => by simp [M.cost]
  | s :: L, hg => by
    have ih := cost_le (L := L) fun t ht => hg t (by simp [ht])
    have hp := (hg s (by simp)).pos
    have e1 := M.enc_two (n := 2 * s.size + 1) (by omega)
    have e2 := M.enc_two (n := 2 * s.size) (by omega)
    have e3 := M.enc_len s.place
    have hs : s.put.size ≤ s.size := by rcases hg s (by simp) with e | e <;> omega
    simp only [M.cost, M.tot, List.length_cons]
    unfold M.St.cost
    split <;> omega

/-- A slice's length. -/
def sliceLen : Value → Nat
  | .slice _ n _ => n
  | _ => 0

/-- The row that 'parts' begins with. -/
theorem parts_start {w w2 : World} (q : Q w w2) (x : ByteArray) : Parts w [x] (some ⟨w2.heap.size, 0, none⟩) 1 (w2.alloc (.cells #[.string x] 9)) :=
  ⟨(q.alloc _ _).below, ⟨rfl, Or.inr ⟨w2.heap.size, 1, #[.string x], rfl, q.below.size, heap_alloc_new w2 _, Nat.le_refl _, by unfold maxLen; omega, rfl, rfl⟩⟩⟩

set_option maxRecDepth 100000 in
theorem cut_head (g o N n sc : Nat) (h : n ≤ sc) (W : World) :
    (Instr.slice 44 (.slice (some ⟨g, o, none⟩) N sc) none (some (.int .i64 (n : Int))) none).run Try.prog W = .ok (.slice (some ⟨g, o, none⟩) n sc) W := by
  rw [run_slice_h W 44 (some ⟨g, o, none⟩) N sc Try.underlying44 .i64 (n : Int) (by omega) (by omega)]
  have hs : (Go.sizeOf (Try.prog.elem 44)).run Try.prog W = .ok 3 W := Try.sizeOf53 W
  rw [hs]
  simp [Result.andThen, sliced, Addr.add]

set_option maxRecDepth 100000 in
theorem cut_tail {w : World} {g o : Nat} {R : List M.St} (h : StAt w g o R) (hg : g < w.heap.size) (n sc : Nat) (hn : n ≤ R.length) (hc : R.length ≤ sc) :
    ∃ so, (∀ W : World, (Instr.slice 44 (.slice (some ⟨g, o, none⟩) R.length sc) (some (.int .i64 (n : Int))) none none).run Try.prog W = .ok (.slice so (R.length - n) (sc - n)) W) ∧ Steps w so (R.drop n) := by
  have hs : ∀ W, (Go.sizeOf (Try.prog.elem 44)).run Try.prog W = .ok 3 W := fun W => Try.sizeOf53 W
  by_cases e : sc = n
  · refine ⟨some ⟨g, o, none⟩, fun W => ?_, Or.inl ?_⟩
    · rw [run_slice_l W 44 (some ⟨g, o, none⟩) R.length sc Try.underlying44 .i64 (n : Int) (by omega) (by omega), hs]
      simp [Result.andThen, sliced, e]
    · apply List.eq_nil_of_length_eq_zero; simp; omega
  · refine ⟨some ⟨g, o + n * 3, none⟩, fun W => ?_, Or.inr ⟨g, o + n * 3, rfl, hg, h.drop n⟩⟩
    rw [run_slice_l W 44 (some ⟨g, o, none⟩) R.length sc Try.underlying44 .i64 (n : Int) (by omega) (by omega), hs]
    simp [Result.andThen, sliced, e, Addr.add]

theorem puts_vals_take {R : List M.St} {j : Nat} {s : M.St} (h : R[j]? = some s) : (R.take (j + 1)).map M.St.put = (R.take j).map M.St.put ++ [s.put] := by
  rw [M.take_succ h]; simp
theorem cat_puts (R : List M.St) : M.cat (R.map M.St.put) = M.puts R := by
  induction R with
  | nil => rfl
  | cons s R ih => show s.put.data.toList ++ M.cat (R.map M.St.put) = _; rw [ih]; rfl

set_option maxRecDepth 100000 in
set_option maxHeartbeats 4000000 in
theorem write_any (L : List M.St) (ao : Option Addr) (cap : Nat) (w : World) (h : Steps w ao L) (ht : M.tot L ≤ 4096) (hg : M.Goods L) (hcap : L.length ≤ cap) :
    Calls Try.prog 28 #[.slice ao L.length cap] w fun e w' => ∃ C : ByteArray, WriteSaid L C ∧ e = .returned (.string C) ∧ Q w w' := by
  have hn := M.length_le_tot hg
  have MC : Hid _ := fun (_ : Unit) => made_any L ao cap w h ht hg
  have NC : Hid _ := number_any (M.tot L) (by omega)
  have HW : Hid (Wrote L 0 [⟨(M.enc 7 (M.tot L)).toArray⟩]) := wrote_start L
  have HWc : Hid (∀ (k n : Nat) (P P' : List ByteArray), Wrote L k P → 1 ≤ n → k + n ≤ L.length → M.Chain ((L.drop k).take n) → M.cat P' = M.cat P ++ (M.headOf ((L.drop k).take n) ++ M.puts ((L.drop k).take n)) → P'.length = P.length + 1 + n → Wrote L (k + n) P') :=
    fun k n P P' h1 h2 h3 h4 h5 h6 => h1.chain hg ht n h2 h3 h4 P' h5 h6
  have HGd : Hid (∀ k, M.Goods (L.drop k)) := fun k => hg.drop k
  have HTd : Hid (∀ k, M.tot (L.drop k) ≤ 4096) := fun k => by have := M.tot_split L k; omega
  have HJ : Hid (∀ P : List ByteArray, Wrote L L.length P → (M.cat P).length ≤ 140737488355328 ∧ WriteSaid L ⟨(M.cat P).toArray⟩) := fun P hP => by
    have e := wrote_end hP
    refine ⟨?_, e⟩
    obtain ⟨T, h1, h2, h3⟩ := e
    have h3' : M.cat P = M.enc 7 (M.tot L) ++ T := by simpa using h3
    have c1 := cost_le hg
    have c2 := M.enc_len (M.tot L)
    rw [h3', List.length_append]; omega
  have HH : Hid (Steps w ao (L.drop 0)) := by rw [List.drop_zero]; exact h
  obtain ⟨i0, hi, hz0, hz1, hz2⟩ := info_parts infoString
  generalize M.tot L = T at *
  clear h hg
  go_enter Try.func28, Try.ntmps28
  go_wp2_with fail
  refine (MC.out ()).mono ?_
  rintro e w1 ⟨rfl, q1⟩
  go_wp2_with fail
  refine (NC.out _).mono ?_
  rintro e w2 ⟨rfl, q2⟩
  have hp0 := parts_start (q1.trans q2) ⟨(M.enc 7 T).toArray⟩
  go_wp2_with fail
  go_loopw [0, 3] (fun t p wr => ∃ (k : Nat) (so : Option Addr) (sc : Nat) (P : List ByteArray) (ap : Option Addr) (cp : Nat), t = .slice so (L.length - k) sc ∧ L.length - k ≤ sc ∧ Steps w so (L.drop k) ∧ p = .slice ap P.length cp ∧ Parts w P ap cp wr ∧ Wrote L k P) (fun t _ _ => sliceLen t)
  case atStart => exact ⟨0, ao, cap, _, _, _, rfl, by omega, HH.out, rfl, hp0, HW.out⟩
  case round =>
    obtain ⟨k, so, sc, P, ap, cp, rfl, hsc, hst, rfl, hp, hw⟩ := hrel
    have hwk := hw.le
    by_cases hlt : k < L.length
    · obtain ⟨R, hR⟩ : ∃ R, R = L.drop k := ⟨_, rfl⟩
      have hRl : L.length - k = R.length := by rw [hR]; simp
      have hGR := HGd.out k
      have hTR := HTd.out k
      have HWk : Hid _ := fun (n : Nat) (P' : List ByteArray) => HWc.out k n P P' hw
      have HRd : Hid (∀ n, (L.drop k).drop n = L.drop (k + n)) := fun n => by rw [List.drop_drop]
      rw [← hR] at hst hGR hTR HWk HRd
      rw [hRl] at hsc
      have HRk : Hid (L.length = k + R.length) := (by omega : L.length = k + R.length)
      have hRk2 : k + R.length ≤ L.length := by omega
      obtain ⟨g, o, rfl, hgl, hat⟩ := hst.at (k := 0) (by omega)
      have hPl := hw.few
      rw [hRl]
      have hR1 : 1 ≤ R.length := by omega
      have hR0 : 0 < R.length := hR1
      have HC1 : Hid (M.Chain (R.take 1)) := by
        cases R with
        | nil => simp at hR1
        | cons a R => exact trivial
      clear hst hw hR hRl hp0 HW MC NC q1 q2
      obtain ⟨wo, rfl⟩ : ∃ wo : World, wo = wr := ⟨_, rfl⟩
      go_wp2_with fail
      go_loopw [4] (fun t wi => ∃ n m : Nat, n = m + 1 ∧ n ≤ R.length ∧ M.Chain (R.take n) ∧ t = .int .i64 ((m : Int) + 1) ∧ Q wo wi) (fun t _ => R.length - (intOf t).toNat)
      case atStart => exact ⟨1, 0, rfl, hR1, HC1.out, rfl, Q.refl _⟩
      case round =>
        obtain ⟨n, m, hnm, hnR, hch, rfl, hqi⟩ := hrel
        have hn1 : 1 ≤ n := by omega
        have hmR : m < R.length := by omega
        have HNM : Hid (n = m + 1) := hnm
        clear hnm
        have hp1 := hp.kept hqi
        have hgw : g < wr.heap.size := by have := hp1.below.size; omega
        obtain ⟨b, hb⟩ : ∃ b : Bool, b = (if hx : n < R.length then leads (R[n - 1]) (R[n]) else false) := ⟨_, rfl⟩
        have HCh : Hid (M.Chain (R.take n)) := hch
        clear hch
        go_upto_region 4 with fail
        go_cut [29] (fun x wx => x = .bool b ∧ Q wr wx)
        case first =>
          by_cases hx : n < R.length
          · rw [dif_pos hx] at hb
            have hnm := HNM.out
            subst hnm
            simp only [Nat.add_sub_cancel] at hb
            have hg1 : R[m]? = some R[m] := List.getElem?_eq_getElem (by omega)
            have hg2 : R[m + 1]? = some R[m + 1] := List.getElem?_eq_getElem hx
            have hat1 := hat.kept hgl hp1.below
            obtain ⟨c0, c1, c2⟩ := hat1 m _ hg1
            obtain ⟨d0, d1, d2⟩ := hat1 (m + 1) _ hg2
            have hpos := (hGR.get hg1).pos
            have LT := leadsTo_any R[m] R[m + 1] (by omega)
            rw [← hb] at LT
            have LH : Hid _ := LT
            generalize R[m] = s1 at *
            generalize R[m + 1] = s2 at *
            have hwn : IntKind.i64.wrap (m : Int) = (m : Int) := by rw [IntKind.wrap_i64]; omega
            have hd : decide ((m : Int) + 1 < (R.length : Int)) = true := by simp; omega
            have hx1 : (m : Int) < (R.length : Int) := by omega
            have hx2 : (m : Int) + 1 < (R.length : Int) := by omega
            have hx3 : (0 : Int) ≤ (m : Int) + 1 := by omega
            have hx4 : ((m : Int) + 1).toNat = m + 1 := by omega
            clear LT hb hg1 hg2 hat1 HCh hp1 hp hat hGR hpos hqi hn1 hnR hmR hx
            go_region_held3 (fun w' => Q wr w' ∧ w'.cell? ⟨g, o + m * 3, none⟩ = some (.string s1.put) ∧ w'.cell? ⟨g, o + m * 3 + 1, none⟩ = some (.int .i64 (s1.place : Int)) ∧ w'.cell? ⟨g, o + m * 3 + 2, none⟩ = some (.int .i64 (s1.size : Int)) ∧ w'.cell? ⟨g, o + (m + 1) * 3, none⟩ = some (.string s2.put) ∧ w'.cell? ⟨g, o + (m + 1) * 3 + 1, none⟩ = some (.int .i64 (s2.place : Int)) ∧ w'.cell? ⟨g, o + (m + 1) * 3 + 2, none⟩ = some (.int .i64 (s2.size : Int))) (first | exact ⟨(Q.refl _).drew, c0, c1, c2, d0, d1, d2⟩ | exact hS4) (first | (go_at_call 40; refine (LH.out _).mono ?_; rintro e w4 ⟨rfl, q4⟩; have hS4 : Q wr w4 ∧ w4.cell? ⟨g, o + m * 3, none⟩ = some (.string s1.put) ∧ w4.cell? ⟨g, o + m * 3 + 1, none⟩ = some (.int .i64 (s1.place : Int)) ∧ w4.cell? ⟨g, o + m * 3 + 2, none⟩ = some (.int .i64 (s1.size : Int)) ∧ w4.cell? ⟨g, o + (m + 1) * 3, none⟩ = some (.string s2.put) ∧ w4.cell? ⟨g, o + (m + 1) * 3 + 1, none⟩ = some (.int .i64 (s2.place : Int)) ∧ w4.cell? ⟨g, o + (m + 1) * 3 + 2, none⟩ = some (.int .i64 (s2.size : Int)) := ⟨q_undrew q4, kept_cell c0 (q_undrew q4), kept_cell c1 (q_undrew q4), kept_cell c2 (q_undrew q4), kept_cell d0 (q_undrew q4), kept_cell d1 (q_undrew q4), kept_cell d2 (q_undrew q4)⟩))
            all_goals
              go_wp2_with fail
              go_meet
              case rel => exact ⟨rfl, q_undrew q4⟩
          · rw [dif_neg hx] at hb
            have hd : decide ((m : Int) + 1 < (R.length : Int)) = false := by have := HNM.out; simp; omega
            subst hb
            go_quiet (fail)
            go_wp2_with fail
            go_meet
            case rel => exact ⟨rfl, (Q.refl _).drewN _⟩
        case rest =>
          obtain ⟨rfl, qc⟩ := hcut
          cases b with
          | true =>
            have hx : n < R.length := by
              by_cases hx : n < R.length
              · exact hx
              · rw [dif_neg hx] at hb; simp at hb
            rw [dif_pos hx] at hb
            have HC2 : Hid (M.Chain (R.take (n + 1))) := by
              have e : n - 1 + 2 = n + 1 := by omega
              have := M.chain_take (L := R) (k := n - 1) (s := R[n - 1]) (t := R[n]) (by rw [show n - 1 + 1 = n by omega]; exact HCh.out) (List.getElem?_eq_getElem (by omega)) (by rw [show n - 1 + 1 = n by omega]; exact List.getElem?_eq_getElem hx) ((leads_iff _ _).1 hb.symm)
              rw [e] at this
              exact this
            clear hb
            go_wp2_with fail
            go_roundw
            case rel => exact ⟨n + 1, n, rfl, by omega, HC2.out, by rw [HNM.out]; go_num, hqi.trans qc⟩
            case measure => have := HNM.out; simp [intOf]; omega
          | false =>
            have hpc := hp1.kept qc
            have hQc : Q w wc := ⟨hpc.below⟩
            have hTl : (R.take n).length = n := by simp; omega
            have hne : R.take n ≠ [] := fun e => by rw [e] at hTl; simp at hTl; omega
            obtain ⟨s0, R0, hsR⟩ := List.exists_cons_of_ne_nil hne
            have HC := head_any s0 R0 (some ⟨g, o, none⟩) sc wc (by rw [← hsR]; exact (steps_take hat hgl n).kept hQc) (by rw [← hsR]; have := M.tot_take_le R n; omega) (by rw [← hsR]; exact hGR.take n)
            rw [← hsR, hTl] at HC
            have HH2 : Hid _ := fun (_ : Unit) => HC
            have hs1 := cut_head g o R.length n sc (by omega)
            have hni : (n : Int) = (m : Int) + 1 := by have := HNM.out; omega
            obtain ⟨so2, hs2, hst2⟩ := cut_tail hat hgl n sc hnR hsc
            rw [hni] at hs1 hs2
            clear hni
            have HS2 : Hid _ := hs2
            have HST2 : Hid _ := fun (_ : Unit) => hst2
            have HHd : Hid (M.headOf (R.take n) = M.headOf (R.take n)) := rfl
            have HWn : Hid _ := fun (P' : List ByteArray) => HWk.out n P' hn1 (by omega) HCh.out
            obtain ⟨Hd, hHd⟩ : ∃ Hd : ByteArray, Hd = ⟨(M.headOf (R.take n)).toArray⟩ := ⟨_, rfl⟩
            rw [← hHd] at HH2
            have HHd2 : Hid (Hd.data.toList = M.headOf (R.take n)) := by rw [hHd]; exact (List.toList_toArray : (M.headOf (R.take n)).toArray.toList = _)
            clear HC hb hs2 hst2 hHd HHd hne hsR hp hp1
            go_wp2_with fail
            refine (HH2.out ()).mono ?_
            rintro e w3 ⟨rfl, q3⟩
            have hp3 := hpc.kept q3
            have hown := hp3.own
            have hsz := hp3.below.size
            go_wp2_with (at_builtin; refine wpList_append_own _ rfl (.tmp 32) (.tmp 37) 69 rfl w.heap.size 9 i0 (.string ⟨#[]⟩) 1 16 Try.underlying69 hi hz0 hz1 hz2 rfl (by decide) _ _ _ rfl (hown.alloc _) ⟨w3.heap.size, 0, none⟩ 1 1 [.string Hd] rfl rfl ?c1 ?c2 ?c3 ?c4 ?c5 ?_)
            case c1 => exact one_cell _ _ _
            case c2 => exact one_str _
            case c3 => unfold maxLen; omega
            case c4 => omega
            case c5 => simp; omega
            intro v' w' hown' hgrow _
            obtain ⟨ap3, cp3, hv⟩ := own_form hown'
            rw [hv] at hown'
            rw [hv]
            have hp4 := hp3.push _ _ hgrow hown'
            clear hown' hgrow hown hv hpc hQc hqi qc q3
            have hL0 : (P ++ [Hd] ++ (R.take 0).map M.St.put).length = P.length + 1 := by simp
            have hp5 : Parts w (P ++ [Hd] ++ (R.take 0).map M.St.put) ap3 cp3 w' := by simpa using hp4
            have HPl : Hid (∀ j, j ≤ R.length → (P ++ [Hd] ++ (R.take j).map M.St.put).length = P.length + 1 + j) := fun j hj => by simp; omega
            have HPs : Hid (∀ (j : Nat) (s : M.St), R[j]? = some s → P ++ [Hd] ++ (R.take (j + 1)).map M.St.put = P ++ [Hd] ++ (R.take j).map M.St.put ++ [s.put]) := fun j s hj => by rw [puts_vals_take hj]; exact (List.append_assoc _ _ _).symm
            have HCat : Hid (M.cat (P ++ [Hd] ++ (R.take n).map M.St.put) = M.cat P ++ (M.headOf (R.take n) ++ M.puts (R.take n))) := by rw [M.cat_append, M.cat_append, M.cat_one, cat_puts, HHd2.out, List.append_assoc]; exact rfl
            clear hp4 hp3
            go_wp2_with fail
            go_loopw [3, 43] (fun p i wi => ∃ (j : Nat) (aj : Option Addr) (cj : Nat), j ≤ n ∧ i = .int .i64 j ∧ p = .slice aj (P.length + 1 + j) cj ∧ Parts w (P ++ [Hd] ++ (R.take j).map M.St.put) aj cj wi) (fun _ i _ => n - (intOf i).toNat)
            case atStart => exact ⟨0, ap3, cp3, Nat.zero_le _, rfl, rfl, hp5⟩
            case round =>
              obtain ⟨j, aj, cj, hj, rfl, rfl, hpj⟩ := hrel
              have hjl := HPl.out j (by omega)
              by_cases hjn : j < n
              · have hgj : R[j]? = some R[j] := List.getElem?_eq_getElem (by omega)
                obtain ⟨c0, c1, c2⟩ := hat.kept hgl hpj.below j _ hgj
                have HSj : Hid _ := HPs.out j _ hgj
                generalize R[j] = sj at *
                have hgj2 : g < wr.heap.size := by have := hpj.below.size; omega
                have hown := hpj.own
                have hsz := hpj.below.size
                rw [hjl] at hown
                generalize P ++ [Hd] ++ (R.take j).map M.St.put = PP at *
                clear hgj hs1
                have hp6 := hpj.kept ((Q.refl wr).alloc #[.string sj.put, .int .i64 (sj.place : Int), .int .i64 (sj.size : Int)] 53)
                have hown6 := hp6.own
                rw [hjl] at hown6
                go_wp2_with (at_builtin; refine wpList_append_own _ rfl (.tmp 47) (.tmp 50) 69 rfl w.heap.size 9 i0 (.string ⟨#[]⟩) 1 16 Try.underlying69 hi hz0 hz1 hz2 rfl (by decide) _ _ _ rfl (hown6.alloc _) ⟨wr.heap.size + 1, 0, none⟩ 1 1 [.string sj.put] rfl rfl ?c1 ?c2 ?c3 ?c4 ?c5 ?_)
                case c1 =>
                  intro i u hu
                  have := one_cell (wr.alloc (.cells #[.string sj.put, .int .i64 (sj.place : Int), .int .i64 (sj.size : Int)] 53)) (.string sj.put) 9 i u hu
                  rw [World.size_alloc] at this
                  exact this
                case c2 => exact one_str _
                case c3 => unfold maxLen; omega
                case c4 => omega
                case c5 => simp; omega
                intro v' w' hown' hgrow _
                obtain ⟨ap7, cp7, hv⟩ := own_form hown'
                rw [hv] at hown'
                rw [hv]
                rw [← hjl] at hown' hgrow
                have hp7 := hp6.push _ _ hgrow hown'
                clear hown' hgrow hown hown6 hv
                go_wp2_with fail
                go_roundw
                case rel => exact ⟨j + 1, ap7, cp7, by omega, by go_num, by simp; omega, by rw [HSj.out]; exact hp7⟩
                case measure => simp [intOf]; omega
              · obtain rfl : j = n := by omega
                have hs2 := HS2.out
                have HWr : Hid _ := fun (_ : Unit) => HWn.out _ HCat.out hjl
                clear hs1
                go_wp2_with fail
                go_roundw
                case rel => exact ⟨k + j, so2, sc - j, P ++ [Hd] ++ (R.take j).map M.St.put, aj, cj, by rw [show L.length - (k + j) = R.length - j by have := HRk.out; omega], by have := HRk.out; omega, by rw [← HRd.out]; exact HST2.out (), by rw [hjl], hpj, HWr.out ()⟩
                case measure => simp [sliceLen]; omega
    · obtain rfl : k = L.length := by omega
      obtain ⟨hjl, hsaid⟩ := HJ.out P hw
      have JC := join_any P ap cp wr (own_strs hp.own).2 hjl (by have := hw.few; omega)
      have HJC : Hid _ := fun (_ : Unit) => JC
      have HQ : Hid _ := fun (_ : Unit) => hp.below
      have HSd : Hid _ := fun (_ : Unit) => hsaid
      clear JC hp hw hp0 hsaid hst
      rw [show L.length - L.length = 0 by omega]
      go_wp2_with fail
      refine (HJC.out ()).mono ?_
      rintro e w3 ⟨rfl, q3⟩
      go_wp2_with fail
      go_ret
      exact ⟨_, HSd.out (), rfl, (Q.mk (HQ.out ())).trans q3⟩
end Go.Proofs.Ytekdenkllipehaa
