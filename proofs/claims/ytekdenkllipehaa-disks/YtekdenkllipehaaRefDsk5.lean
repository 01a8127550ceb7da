/-
  The document's disk: a file more among the others.
-/
import Derived.Test.YtekdenkllipehaaRefDsk4
namespace Go.Proofs.Ytekdenkllipehaa
open Go.RowKit

/-- Where a file of that name is put. -/
def putAt (fs : List M.Fil) (nm : ByteArray) : Nat := (fs.takeWhile fun x => !M.beyond nm x).length

theorem putAt_le (fs : List M.Fil) (nm : ByteArray) : putAt fs nm ≤ fs.length := (List.takeWhile_sublist _).length_le

theorem put_insAt (fs : List M.Fil) (f : M.Fil) : M.put fs f = insAt fs (putAt fs f.name) f := by
  unfold M.put insAt putAt
  have h := List.takeWhile_append_dropWhile (p := fun x => !M.beyond f.name x) (l := fs)
  have h1 : fs.take (fs.takeWhile fun x => !M.beyond f.name x).length = fs.takeWhile fun x => !M.beyond f.name x := by
    conv => lhs; arg 2; rw [← h]
    rw [List.take_left]
  have h2 : fs.drop (fs.takeWhile fun x => !M.beyond f.name x).length = fs.dropWhile fun x => !M.beyond f.name x := by
    conv => lhs; arg 2; rw [← h]
    rw [List.drop_left]
  rw [h1, h2]

theorem putAt_cons (x : M.Fil) (fs : List M.Fil) (nm : ByteArray) : putAt (x :: fs) nm = if M.beyond nm x = true then 0 else putAt fs nm + 1 := by
  unfold putAt
  rw [List.takeWhile_cons]
  cases M.beyond nm x <;> simp

theorem putAt_before {nm : ByteArray} : ∀ {fs : List M.Fil} {k : Nat} {f : M.Fil}, fs[k]? = some f → k < putAt fs nm → M.beyond nm f = false
  | [], _, _, h, _ => by simp at h
  | x :: fs, 0, f, h, hk => by
    simp at h
    subst h
    rw [putAt_cons] at hk
    cases hb : M.beyond nm x with
    | false => rfl
    | true => rw [if_pos hb] at hk; omega
  | x :: fs, k + 1, f, h, hk => by
    rw [putAt_cons] at hk
    cases hb : M.beyond nm x with
    | true => rw [if_pos hb] at hk; omega
    | false =>
      rw [if_neg (by simp [hb])] at hk
      exact putAt_before (fs := fs) (by simpa using h) (by omega)

theorem putAt_here {nm : ByteArray} : ∀ {fs : List M.Fil} {f : M.Fil}, fs[putAt fs nm]? = some f → M.beyond nm f = true
  | [], _, h => by simp at h
  | x :: fs, f, h => by
    rw [putAt_cons] at h
    cases hb : M.beyond nm x with
    | true =>
      rw [if_pos hb] at h
      simp at h
      rw [← h]
      exact hb
    | false =>
      rw [if_neg (by simp [hb])] at h
      exact putAt_here (fs := fs) (by simpa using h)

/-- The pointers behind k rounds. -/
def rowTo (ps : List Nat) (j p k : Nat) : List Nat := if j < k then ps.take j ++ p :: (ps.take k).drop j else ps.take k

theorem rowTo_more {ps : List Nat} {j p k a : Nat} (h : ps[k]? = some a) (hne : k ≠ j) : rowTo ps j p (k + 1) = rowTo ps j p k ++ [a] := by
  have hk := (List.getElem?_eq_some_iff.1 h).1
  have e : ps.take (k + 1) = ps.take k ++ [a] := by rw [List.take_add_one, h]; rfl
  unfold rowTo
  rcases Nat.lt_or_ge j k with hjk | hjk
  · rw [if_pos (by omega), if_pos hjk, e, List.drop_append_of_le_length (by simp; omega)]
    simp
  · rw [if_neg (by omega), if_neg (by omega), e]

theorem rowTo_here {ps : List Nat} {j p a : Nat} (h : ps[j]? = some a) : rowTo ps j p (j + 1) = rowTo ps j p j ++ [p] ++ [a] := by
  have hk := (List.getElem?_eq_some_iff.1 h).1
  have e : ps.take (j + 1) = ps.take j ++ [a] := by rw [List.take_add_one, h]; rfl
  unfold rowTo
  rw [if_pos (by omega), if_neg (by omega), e, List.drop_append_of_le_length (by simp; omega), List.drop_of_length_le (by simp; omega)]
  simp

theorem rowTo_end {ps : List Nat} {j p : Nat} (hj : j ≤ ps.length) : insAt ps j p = if j < ps.length then rowTo ps j p ps.length else rowTo ps j p ps.length ++ [p] := by
  unfold rowTo insAt
  by_cases h : j < ps.length
  · simp [h]
  · obtain rfl : j = ps.length := by omega
    simp

theorem Ptrs.kept {w wr wr' : World} {P : List Nat} {ao : Option Addr} {cap : Nat} (h : Ptrs w P ao cap wr) (q : Q wr wr') : Ptrs w P ao cap wr' :=
  ⟨h.below.trans (q.below.mono h.below.size), own_below h.own q.below⟩

set_option maxRecDepth 100000 in
set_option maxHeartbeats 1600000 in
theorem refWith (tg : Tags) (o d : Nat) (D : M.Dsk) (ids ps : List Nat) (p0 id0 : Nat) (f0 : M.Fil) (bo0 : Option Addr) (bc0 : Nat) (hl : D.files.length ≤ 64) (hid : id0 ∉ ids) (w : World) (h : DiskAt w tg o d D ids ps) (h0 : FileAt w tg o p0 id0 f0 bo0 bc0) :
    Calls Try.prog 100 #[.pointer (some ⟨d, 0, none⟩), .pointer (some ⟨p0, 0, none⟩)] w fun e w' => e = .returned (.tuple #[]) ∧ DiskAt w' (tg.more w.heap.size o 1) o d ⟨D.cap, M.put D.files f0, D.dead, D.fuse⟩ (insAt ids (putAt D.files f0.name) id0) (insAt ps (putAt D.files f0.name) p0) ∧ Only o tg w w' := by
  have HD : Hid (DiskAt w tg o d D ids ps) := h
  have HF0 : Hid (FileAt w tg o p0 id0 f0 bo0 bc0) := h0
  have hlp := h.lenP
  have hj0 := putAt_le D.files f0.name
  have HBf : Hid (∀ (k : Nat) (f : M.Fil), D.files[k]? = some f → k < putAt D.files f0.name → M.beyond f0.name f = false) := fun k f => putAt_before
  have HBh : Hid (∀ (f : M.Fil), D.files[putAt D.files f0.name]? = some f → M.beyond f0.name f = true) := fun f => putAt_here
  rw [put_insAt]
  generalize putAt D.files f0.name = j0 at *
  have HMo : Hid (∀ (k a : Nat), ps[k]? = some a → k ≠ j0 → rowTo ps j0 p0 (k + 1) = rowTo ps j0 p0 k ++ [a]) := fun k a => rowTo_more
  have HHe : Hid (∀ (a : Nat), ps[j0]? = some a → rowTo ps j0 p0 (j0 + 1) = rowTo ps j0 p0 j0 ++ [p0] ++ [a]) := fun a => rowTo_here
  have HEn : Hid (insAt ps j0 p0 = if j0 < ps.length then rowTo ps j0 p0 ps.length else rowTo ps j0 p0 ps.length ++ [p0]) := rowTo_end (by omega)
  have HLn : Hid (∀ k, (rowTo ps j0 p0 k).length ≤ 65) := fun k => by
    unfold rowTo
    split <;> simp <;> omega
  have HR0 : Hid (rowTo ps j0 p0 0 = []) := by show _ = _; simp [rowTo]
  have htop := h.top
  have htd := h.td
  obtain ⟨i0, hi, hz0, hz1, hz2⟩ := info_parts infoPtr
  have HLp : Hid (ps.length = D.files.length) := hlp
  have hli := h.lenI
  have HFin : Hid (∀ (W : World) (ap : Option Addr) (cp : Nat), Ptrs w (insAt ps j0 p0) ap cp W → DiskAt (W.setCell ⟨d, 1, none⟩ (.slice ap (insAt ps j0 p0).length cp)) (tg.more w.heap.size o 1) o d ⟨D.cap, insAt D.files j0 f0, D.dead, D.fuse⟩ (insAt ids j0 id0) (insAt ps j0 p0)) := fun W ap cp RP => by
    refine h.newRow RP.below (fun k hk => Tags.more_old hk) (insAt ps j0 p0) (insAt ids j0 id0) (insAt D.files j0 f0) ⟨RP.own.1, RP.own.2.imp id fun ⟨g, c, cur, hv, _, r⟩ => ⟨g, c, cur, hv, Nat.zero_le _, r⟩⟩ (fun g hg => Tags.more_new (RP.own.lt g hg).1) (insAt_nodup h.nodup hid) (by rw [insAt_length (by omega), insAt_length (by omega), hli]) (by rw [insAt_length (by omega), insAt_length (by omega), hlp]) (fun j p id f k1 k2 k3 => ?_)
    rcases insAt_get (by omega) k1 with ⟨rfl, rfl⟩ | ⟨hne, e1⟩
    · rcases insAt_get (by omega) k2 with ⟨_, rfl⟩ | ⟨hne, _⟩
      · rcases insAt_get hj0 k3 with ⟨_, rfl⟩ | ⟨hne, _⟩
        · exact ⟨bo0, bc0, h0.keep RP.below.size (fun k hk => Tags.more_old hk) (fun k hk _ => RP.below.block k hk)⟩
        · exact absurd rfl hne
      · exact absurd rfl hne
    · rcases insAt_get (by omega) k2 with ⟨e, _⟩ | ⟨_, e2⟩
      · exact absurd e hne
      · rcases insAt_get hj0 k3 with ⟨e, _⟩ | ⟨_, e3⟩
        · exact absurd e hne
        · obtain ⟨bo, bc, hF⟩ := h.file _ p id f e1 e2 e3
          exact ⟨bo, bc, hF.keep RP.below.size (fun k hk => Tags.more_old hk) (fun k hk _ => RP.below.block k hk)⟩
  clear h h0 hlp hli
  go_enter Try.func100, Try.ntmps100
  go_wp2_with fail
  go_loopw [4, 5, 6] (fun p b i wr => ∃ (k : Nat) (dn : Bool) (ap : Option Addr) (cp : Nat), i = .int .i64 k ∧ b = .bool dn ∧ Hid (dn = decide (j0 < k)) ∧ p = .slice ap (rowTo ps j0 p0 k).length cp ∧ k ≤ D.files.length ∧ Hid (Ptrs w (rowTo ps j0 p0 k) ap cp wr)) (fun _ _ i _ => D.files.length - (intOf i).toNat)
  case atStart => exact ⟨0, false, none, 0, rfl, rfl, (by simp : false = decide (j0 < 0)), by rw [HR0.out]; rfl, Nat.zero_le _, by show Ptrs w _ none 0 w; rw [HR0.out]; exact Ptrs.start w⟩
  case round =>
    obtain ⟨k, dn, ap, cp, rfl, rfl, HDn, rfl, hk, HP⟩ := hrel
    have hq : Q w wr := ⟨HP.out.below⟩
    have hdr : d < wr.heap.size := Nat.lt_of_lt_of_le htop hq.below.size
    have hln := HLn.out k
    by_cases hlt : k < D.files.length
    · have hf : D.files[k]? = some D.files[k] := List.getElem?_eq_getElem hlt
      obtain ⟨g, cap, p, id, bo, bc, r1, hg, hp, _, r2, hF⟩ := (HD.out.kept hq).at hf
      have c0 := hF.c0
      have hpt := hF.top
      have n0 : wr.cell? ⟨p0, 0, none⟩ = some (.string f0.name) := kept_cell HF0.out.c0 hq
      have hp0t : p0 < wr.heap.size := Nat.lt_of_lt_of_le HF0.out.top hq.below.size
      have HB1 : Hid _ := fun hlt => HBf.out k _ hf hlt
      have HB2 : Hid (k = j0 → M.beyond f0.name D.files[k] = true) := fun e => HBh.out _ (by rw [← e]; exact hf)
      have i1 : (k : Int) < (D.files.length : Int) := by omega
      have i0' : (0 : Int) ≤ (k : Int) := by omega
      have HX : Hid (∃ g' cap' p', ps[k]? = some p' ∧ ∀ W, Below w.heap.size w W → d < W.heap.size ∧ g' < W.heap.size ∧ W.cell? ⟨d, 1, none⟩ = some (.slice (some ⟨g', 0, none⟩) D.files.length cap') ∧ W.cell? ⟨g', k, none⟩ = some (.pointer (some ⟨p', 0, none⟩))) := by
        obtain ⟨g', cap', p', _, _, _, q1, hg', hp', _, q2, _⟩ := HD.out.at hf
        exact ⟨g', cap', p', hp', fun W hB => ⟨Nat.lt_of_lt_of_le htop hB.size, Nat.lt_of_lt_of_le hg' hB.size, (hB.cell (p := ⟨d, 1, none⟩) htop).trans q1, (hB.cell (p := ⟨g', k, none⟩) hg').trans q2⟩⟩
      generalize D.files[k] = x at *
      clear hF hf
      obtain ⟨yes, hyes⟩ : ∃ yes : Bool, yes = decide (k = j0) := ⟨_, rfl⟩
      go_upto_region 5 with fail
      go_cut [34] (fun y wx => y = .bool yes ∧ Q wr wx)
      case first =>
        rcases Nat.lt_trichotomy k j0 with hkj | hkj | hkj
        · have hy : Hid (yes = false) := by show _ = _; rw [hyes, decide_eq_false_iff_not]; omega
          obtain rfl : dn = false := by rw [HDn.out, decide_eq_false_iff_not]; omega
          have hb := HB1.out hkj
          unfold M.beyond at hb
          clear hyes
          go_quiet (fail)
          go_wp2_with fail
          go_meet
          case rel => exact ⟨congrArg Value.bool hy.out.symm, (Q.refl _).drewN _⟩
        · have hy : Hid (yes = true) := by show _ = _; rw [hyes, decide_eq_true_eq]; exact hkj
          obtain rfl : dn = false := by rw [HDn.out, decide_eq_false_iff_not]; omega
          have hb := HB2.out hkj
          unfold M.beyond at hb
          clear hyes hkj
          go_quiet (fail)
          go_wp2_with fail
          go_meet
          case rel => exact ⟨congrArg Value.bool hy.out.symm, (Q.refl _).drewN _⟩
        · have hy : Hid (yes = false) := by show _ = _; rw [hyes, decide_eq_false_iff_not]; omega
          obtain rfl : dn = true := by rw [HDn.out, decide_eq_true_eq]; exact hkj
          clear hyes
          go_quiet (fail)
          go_wp2_with fail
          go_meet
          case rel => exact ⟨congrArg Value.bool hy.out.symm, (Q.refl _).drewN _⟩
      case rest =>
        obtain ⟨rfl, qc⟩ := hcut
        obtain ⟨g', cap', p', hpk, hX⟩ := HX.out
        have RC := HP.out.kept qc
        obtain ⟨b1, b2, b3, b4⟩ := hX wc RC.below
        have HXX : Hid _ := hX
        clear r1 r2 c0 n0 hg hp hpt hp0t hdr HP HB1 HB2 hX HX
        cases yes with
        | true =>
          have hkj : k = j0 := of_decide_eq_true hyes.symm
          have HN : Hid (rowTo ps j0 p0 (k + 1) = rowTo ps j0 p0 k ++ [p0] ++ [p']) := by
            show _ = _
            rw [hkj]
            exact HHe.out p' (by rw [← hkj]; exact hpk)
          have HDn' : Hid (true = decide (j0 < k + 1)) := by show _ = _; symm; rw [decide_eq_true_eq]; omega
          generalize rowTo ps j0 p0 k = L at *
          clear hyes hkj hpk HDn
          go_wp2_with (at_builtin; refine wpList_append_own _ rfl (.tmp 35) (.tmp 37) 88 rfl w.heap.size 93 i0 (.pointer none) 1 8 Try.underlying88 hi hz0 hz1 hz2 rfl (by decide) _ _ _ rfl (RC.own.alloc _) ⟨wc.heap.size, 0, none⟩ 1 1 [.pointer (some ⟨p0, 0, none⟩)] rfl rfl ?c1 ?c2 ?c3 ?c4 ?c5 ?_)
          case c1 => first | exact one_cell _ _ _ | exact fun j u hj => hj
          case c2 => intro u hu; simp at hu; subst hu; rfl
          case c3 => simp [maxLen]; omega
          case c4 => first | omega | (simp; omega)
          case c5 => have := RC.below.size; simp; omega
          intro v1 u1 ho1 hgw1 _
          obtain ⟨ap1, cp1, hv1⟩ := own_form ho1
          rw [hv1] at ho1
          rw [hv1]
          have R1 := RC.push p0 _ hgw1 ho1
          clear hv1 ho1 hgw1
          obtain ⟨b1', b2', b3', b4'⟩ := HXX.out u1 R1.below
          clear b1 b2 b3 b4 RC
          go_wp2_with (at_builtin; refine wpList_append_own _ rfl (.tmp 39) (.tmp 47) 88 rfl w.heap.size 93 i0 (.pointer none) 1 8 Try.underlying88 hi hz0 hz1 hz2 rfl (by decide) _ _ _ (congrArg (fun n => Value.slice ap1 n cp1) (show L.length + 1 = (L ++ [p0]).length by simp)) (R1.own.alloc _) ⟨u1.heap.size, 0, none⟩ 1 1 [.pointer (some ⟨p', 0, none⟩)] rfl rfl ?c1 ?c2 ?c3 ?c4 ?c5 ?_)
          case c1 => first | exact one_cell _ _ _ | exact fun j u hj => hj
          case c2 => intro u hu; simp at hu; subst hu; rfl
          case c3 => simp [maxLen]; omega
          case c4 => first | omega | (simp; omega)
          case c5 => have := R1.below.size; simp; omega
          intro v2 u2 ho2 hgw2 _
          obtain ⟨ap2, cp2, hv2⟩ := own_form ho2
          rw [hv2] at ho2
          rw [hv2]
          rw [show L.length + 1 = (L ++ [p0]).length by simp] at ho2 hgw2
          have R2 := R1.push p' _ hgw2 ho2
          clear hv2 ho2 hgw2
          go_wp2_with fail
          go_roundw
          case rel => exact ⟨k + 1, true, ap2, cp2, by go_num, rfl, HDn', by rw [HN.out]; simp, by omega, by rw [HN.out]; exact R2⟩
          case measure => simp [intOf]; omega
        | false =>
          have hkj : k ≠ j0 := of_decide_eq_false hyes.symm
          have HN : Hid _ := HMo.out k p' hpk hkj
          have HDn' : Hid (dn = decide (j0 < k + 1)) := by
            show _ = _
            rw [HDn.out]
            by_cases hc : j0 < k
            · rw [decide_eq_true hc, decide_eq_true (by omega)]
            · rw [decide_eq_false hc, decide_eq_false (by omega)]
          generalize rowTo ps j0 p0 k = L at *
          clear hyes hkj hpk HDn
          go_wp2_with (at_builtin; refine wpList_append_own _ rfl (.tmp 39) (.tmp 47) 88 rfl w.heap.size 93 i0 (.pointer none) 1 8 Try.underlying88 hi hz0 hz1 hz2 rfl (by decide) _ _ _ rfl (RC.own.alloc _) ⟨wc.heap.size, 0, none⟩ 1 1 [.pointer (some ⟨p', 0, none⟩)] rfl rfl ?c1 ?c2 ?c3 ?c4 ?c5 ?_)
          case c1 => first | exact one_cell _ _ _ | exact fun j u hj => hj
          case c2 => intro u hu; simp at hu; subst hu; rfl
          case c3 => simp [maxLen]; omega
          case c4 => first | omega | (simp; omega)
          case c5 => have := RC.below.size; simp; omega
          intro v2 u2 ho2 hgw2 _
          obtain ⟨ap2, cp2, hv2⟩ := own_form ho2
          rw [hv2] at ho2
          rw [hv2]
          have R2 := RC.push p' _ hgw2 ho2
          clear hv2 ho2 hgw2
          go_wp2_with fail
          go_roundw
          case rel => exact ⟨k + 1, dn, ap2, cp2, by go_num, rfl, HDn', by rw [HN.out]; simp, by omega, by rw [HN.out]; exact R2⟩
          case measure => simp [intOf]; omega
    · obtain rfl : k = D.files.length := by omega
      have RC := HP.out
      have hEn := HEn.out
      rw [HLp.out] at hEn
      obtain ⟨ax0, cx0, hx0⟩ := (HD.out.kept hq).len
      by_cases hjl : j0 < D.files.length
      · obtain rfl : dn = true := by rw [HDn.out, decide_eq_true_eq]; exact hjl
        rw [if_pos hjl] at hEn
        have HIns : Hid (insAt ps j0 p0 = rowTo ps j0 p0 D.files.length) := hEn
        rw [← hEn] at RC
        generalize rowTo ps j0 p0 D.files.length = L at *
        clear hEn HP HDn
        have HF : Hid (DiskAt (wr.setCell ⟨d, 1, none⟩ (.slice ap (insAt ps j0 p0).length cp)) (tg.more w.heap.size o 1) o d ⟨D.cap, insAt D.files j0 f0, D.dead, D.fuse⟩ (insAt ids j0 id0) (insAt ps j0 p0)) := HFin.out wr ap cp RC
        have HO : Hid (Only o tg w (wr.setCell ⟨d, 1, none⟩ (.slice ap (insAt ps j0 p0).length cp))) := only_set (Only.of_q ⟨RC.below⟩) (fun k _ e => by rw [e, htd]) 1 _
        have hdc := (HD.out.kept ⟨RC.below⟩).row
        obtain ⟨ax, cx, hx, _, _⟩ := hdc
        have hfd : wr.frozen? ⟨d, 1, none⟩ = false := (HD.out.kept ⟨RC.below⟩).fr 1
        have hdW : d < wr.heap.size := Nat.lt_of_lt_of_le htop RC.below.size
        have HLi : Hid ((insAt ps j0 p0).length = L.length) := by show _ = _; rw [HIns.out]
        rw [HLi.out] at HF HO
        clear RC
        go_wp2_with fail
        refine bodyPost_end (v := .tuple #[]) (by simp [results, Try.results100, go_sem]) rfl ?_
        exact ⟨rfl, HF.out, HO.out⟩
      · obtain rfl : dn = false := by rw [HDn.out, decide_eq_false_iff_not]; exact hjl
        rw [if_neg hjl] at hEn
        have HIns : Hid (insAt ps j0 p0 = rowTo ps j0 p0 D.files.length ++ [p0]) := hEn
        generalize rowTo ps j0 p0 D.files.length = L at *
        clear hEn HP HDn
        go_wp2_with (at_builtin; refine wpList_append_own _ rfl (.tmp 51) (.tmp 53) 88 rfl w.heap.size 93 i0 (.pointer none) 1 8 Try.underlying88 hi hz0 hz1 hz2 rfl (by decide) _ _ _ rfl (RC.own.alloc _) ⟨wr.heap.size, 0, none⟩ 1 1 [.pointer (some ⟨p0, 0, none⟩)] rfl rfl ?c1 ?c2 ?c3 ?c4 ?c5 ?_)
        case c1 => first | exact one_cell _ _ _ | exact fun j u hj => hj
        case c2 => intro u hu; simp at hu; subst hu; rfl
        case c3 => simp [maxLen]; omega
        case c4 => first | omega | (simp; omega)
        case c5 => have := RC.below.size; simp; omega
        intro v1 u1 ho1 hgw1 _
        obtain ⟨ap1, cp1, hv1⟩ := own_form ho1
        rw [hv1] at ho1
        rw [hv1]
        have R1 := RC.push p0 _ hgw1 ho1
        clear hv1 ho1 hgw1
        rw [← HIns.out] at R1
        have HF : Hid (DiskAt (u1.setCell ⟨d, 1, none⟩ (.slice ap1 (insAt ps j0 p0).length cp1)) (tg.more w.heap.size o 1) o d ⟨D.cap, insAt D.files j0 f0, D.dead, D.fuse⟩ (insAt ids j0 id0) (insAt ps j0 p0)) := HFin.out u1 ap1 cp1 R1
        have HO : Hid (Only o tg w (u1.setCell ⟨d, 1, none⟩ (.slice ap1 (insAt ps j0 p0).length cp1))) := only_set (Only.of_q ⟨R1.below⟩) (fun k _ e => by rw [e, htd]) 1 _
        have hdc := (HD.out.kept ⟨R1.below⟩).row
        obtain ⟨ax, cx, hx, _, _⟩ := hdc
        have hfd : u1.frozen? ⟨d, 1, none⟩ = false := (HD.out.kept ⟨R1.below⟩).fr 1
        have hdW : d < u1.heap.size := Nat.lt_of_lt_of_le htop R1.below.size
        have HLi : Hid ((insAt ps j0 p0).length = L.length + 1) := by show _ = _; rw [HIns.out]; simp
        rw [HLi.out] at HF HO
        clear R1
        go_wp2_with fail
        refine bodyPost_end (v := .tuple #[]) (by simp [results, Try.results100, go_sem]) rfl ?_
        exact ⟨rfl, HF.out, HO.out⟩
end Go.Proofs.Ytekdenkllipehaa
