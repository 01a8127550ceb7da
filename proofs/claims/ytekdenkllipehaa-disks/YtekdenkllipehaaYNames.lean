import Derived.Test.YtekdenkllipehaaYKeep
/-
  The statement's yard: keep and names, walked.
-/
namespace Go.Proofs.Ytekdenkllipehaa
open Go.RowKit

theorem replicate_set {m : Value} {xs : List Value} {j : Nat} (hj : j < xs.length) : (List.replicate j m ++ xs.drop j).set j m = List.replicate (j + 1) m ++ xs.drop (j + 1) := by
  rw [List.set_append_right _ _ (by simp)]
  simp only [List.length_replicate, Nat.sub_self]
  rw [List.drop_eq_getElem_cons hj, List.set_cons_zero, List.replicate_succ']
  simp

theorem three_cells (w : World) (a b c : Value) (t : TypeId) : ∀ j u, [a, b, c][j]? = some u → (w.alloc (.cells #[a, b, c] t)).cell? ((⟨w.heap.size, 0, none⟩ : Addr).add j) = some u := by
  intro j u hj
  match j, hj with
  | 0, hj => simp at hj; subst hj; simp [Addr.add]
  | 1, hj => simp at hj; subst hj; simp [Addr.add]
  | 2, hj => simp at hj; subst hj; simp [Addr.add]

set_option maxRecDepth 100000 in
set_option maxHeartbeats 4000000 in
theorem yard_keep (tg : Tags) (yb : Nat) (Ds : List M.Dsk) (pl : List Nat) (L : List Value) (q : Nat) (hL : L.length = 3 * q) (hLs : (L.length + 3) * 24 ≤ 140737488355328) (w0 w : World) (h : YardAt w0 tg yb Ds pl L) (hB : Below w0.heap.size w0 w) (ao : Option Addr) (n cap : Nat) (xs : List Value) (hn : n ≤ 64) (hown : w.ownsRow w0.heap.size 9 1 (.slice ao n cap) n xs) :
    Calls Try.prog 67 #[.pointer (some ⟨yb, 0, none⟩), .slice ao n cap] w fun e w' => e = .returned (.tuple #[]) ∧ YardKept tg yb Ds pl L w0 w' := by
  obtain ⟨a2, c2, s1, s2, s3⟩ := h.lists
  have hyt := h.top
  have c1 : w.cell? ⟨yb, 1, none⟩ = some (.slice a2 L.length c2) := (hB.cell (p := ⟨yb, 1, none⟩) hyt).trans s1
  have HY : Hid (YardAt w0 tg yb Ds pl L) := h
  have HS : Hid (w0.ownsRow 0 69 1 (.slice a2 L.length c2) L.length L) := s2
  have HS3 : Hid _ := s3
  have HC0 : Hid (w0.cell? ⟨yb, 1, none⟩ = some (.slice a2 L.length c2)) := s1
  have hq : q ≤ 4398046511104 := by omega
  have HMK : Hid _ := fun (W : World) => mark_any q hq W
  have hdq : ((L.length : Int)).tdiv 3 = (q : Int) := by rw [hL]; show ((3 * q : Nat) : Int).tdiv 3 = _; rw [show ((3 * q : Nat) : Int).tdiv 3 = (((3 * q) / 3 : Nat) : Int) from rfl]; omega
  obtain ⟨mk, hmk⟩ : ∃ mk, markOf q = mk := ⟨_, rfl⟩
  rw [hmk] at HMK
  have hxl : xs.length = n := by have := hown.1; omega
  have HX : Hid (xs.length = n) := hxl
  obtain ⟨ln, hln⟩ : ∃ ln, L.length = ln := ⟨_, rfl⟩
  rw [hln] at c1 hdq
  have HLN : Hid (L.length = ln) := hln
  have HL3 : Hid (L.length = 3 * q) := hL
  have hls2 : (ln + 3) * 24 ≤ 140737488355328 := by omega
  have HR0 : Hid (w.ownsRow w0.heap.size 9 1 (.slice ao n cap) n (List.replicate 0 (.string mk) ++ xs.drop 0) ∧ Below w0.heap.size w0 w) := ⟨by simpa using hown, hB⟩
  have HEQ : Hid (markOf q = mk) := hmk
  clear h s1 s2 s3 hown hxl hln hL hLs hmk hB
  go_enter Try.func67, Try.ntmps67
  go_wp2_with fail
  go_loopw [5] (fun j wr => ∃ k : Nat, j = .int .i64 k ∧ k ≤ n ∧ Hid (wr.ownsRow w0.heap.size 9 1 (.slice ao n cap) n (List.replicate k (.string mk) ++ xs.drop k) ∧ Below w0.heap.size w0 wr)) (fun j _ => n - (intOf j).toNat)
  case atStart => exact ⟨0, rfl, Nat.zero_le _, HR0.out⟩
  case round =>
    obtain ⟨k, rfl, hkn, HI⟩ := hrel
    by_cases hlt : k < n
    · obtain ⟨g, rfl⟩ : ∃ g, ao = some ⟨g, 0, none⟩ := by
        rcases HI.out.1.2 with ⟨_, h0⟩ | ⟨g, c, cur, hv, _⟩
        · omega
        · injection hv with e1; exact ⟨g, e1⟩
      have HM1 : Hid _ := fun (_ : Unit) => HMK.out wr
      have i1 : (k : Int) < (n : Int) := by omega
      have i0 : (0 : Int) ≤ (k : Int) := by omega
      have wk : IntKind.i64.wrap ((k : Int) + 1) = (k : Int) + 1 := by rw [IntKind.wrap_i64]; omega
      go_wp2_with fail
      refine (HM1.out ()).mono ?_
      rintro e w1 ⟨rfl, q1⟩
      have ho1 := own_below HI.out.1 q1.below
      have hb1 : Below w0.heap.size w0 w1 := HI.out.2.trans (q1.below.mono HI.out.2.size)
      have hcell : ∃ u, w1.cell? ⟨g, k, none⟩ = some u := by
        rw [ho1.cellAt k (by omega)]
        exact ⟨_, List.getElem?_eq_getElem (by have := ho1.1; omega)⟩
      obtain ⟨u, hcell⟩ := hcell
      have hfz : w1.frozen? ⟨g, k, none⟩ = false := by
        rcases ho1.2 with ⟨_, h0⟩ | ⟨g', c, cur, hv, _, hh, _⟩
        · omega
        · injection hv with e1; injection e1 with e1; injection e1 with e1; subst e1
          exact frozen_of_row w1 g k cur _ hh
      have HN : Hid ((w1.setCell ⟨g, k, none⟩ (.string mk)).ownsRow w0.heap.size 9 1 (.slice (some ⟨g, 0, none⟩) n cap) n (List.replicate (k + 1) (.string mk) ++ xs.drop (k + 1)) ∧ Below w0.heap.size w0 (w1.setCell ⟨g, k, none⟩ (.string mk))) := by
        refine ⟨?_, hb1.setCell (p := ⟨g, k, none⟩) ((ho1.lt g rfl).1) _⟩
        have hst := (ho1.stored k (.string mk)).1
        rw [replicate_set (by rw [HX.out]; exact hlt)] at hst
        exact hst
      clear ho1 hb1 HM1 q1
      go_wp2_with fail
      go_roundw
      case rel => exact ⟨k + 1, by go_num, by omega, HN.out⟩
      case measure => simp [intOf]; omega
    · obtain rfl : k = n := by omega
      have HI2 : Hid (wr.ownsRow w0.heap.size 9 1 (.slice ao k cap) k (List.replicate k (.string mk)) ∧ Below w0.heap.size w0 wr) := by
        have := HI.out
        rw [List.drop_of_length_le (by rw [HX.out]; exact Nat.le_refl _), List.append_nil] at this
        exact this
      have HM1 : Hid _ := fun (_ : Unit) => HMK.out wr
      clear HI HR0
      go_wp2_with fail
      refine (HM1.out ()).mono ?_
      rintro e w1 ⟨rfl, q1⟩
      have ho1 := own_below HI2.out.1 q1.below
      have hb1 : Below w0.heap.size w0 w1 := HI2.out.2.trans (q1.below.mono HI2.out.2.size)
      obtain ⟨ao1, cap1, w2, hrun1, r1, rb1, rs1, rk1⟩ := mark_append w0 w1 hb1 ao k cap mk (by omega) ho1
      have hM1a : Marked w0.heap.size mk (.slice ao k cap) w2 := (marked_own (by omega) ho1).keep rs1 (fun a n c e g j ea hj hb hg => by
        injection e with e1 e2 e3
        subst e1 e2
        exact rk1 g j hg (fun _ => hj))
      have HM2 : Hid _ := fun (_ : Unit) => HMK.out w2
      clear HM1 rk1 ho1 hb1 q1 HI2
      go_wp2_with (at_builtin; refine Lib.wpList_append_run _ rfl _ _ _ _ rfl _ _ rfl rfl _ _ hrun1 ?_)
      refine (HM2.out ()).mono ?_
      rintro e w3 ⟨rfl, q3⟩
      have ho3 := own_below r1 q3.below
      have hb3 : Below w0.heap.size w0 w3 := rb1.trans (q3.below.mono rb1.size)
      obtain ⟨ao2, cap2, w4, hrun2, r2, rb2, rs2, rk2⟩ := mark_append w0 w3 hb3 ao1 (k + 1) cap1 mk (by omega) ho3
      have hkeepQ : ∀ v, Marked w0.heap.size mk v w2 → Marked w0.heap.size mk v w3 := fun v hv => hv.keep q3.below.size (fun a n c _ g j _ _ _ hg => q3.below.cell (p := ⟨g, j, none⟩) hg)
      have hM2b : Marked w0.heap.size mk (.slice ao1 (k + 1) cap1) w4 := (marked_own (by omega) ho3).keep rs2 (fun a n c e g j ea hj hb hg => by
        injection e with e1 e2 e3
        subst e1 e2
        exact rk2 g j hg (fun _ => hj))
      have hM1b : Marked w0.heap.size mk (.slice ao k cap) w4 := (hkeepQ _ hM1a).keep rs2 (fun a n c e g j ea hj hb hg => by
        injection e with e1 e2 e3
        subst e1 e2
        exact rk2 g j hg (fun _ => by omega))
      have hM3b : Marked w0.heap.size mk (.slice ao2 (k + 1 + 1) cap2) w4 := marked_own (by omega) r2
      have c14 : w4.cell? ⟨yb, 1, none⟩ = some (.slice a2 ln c2) := by
        rw [← HLN.out]
        exact (rb2.cell (p := ⟨yb, 1, none⟩) hyt).trans HC0.out
      obtain ⟨il, hil, hl0, hl1, hl2⟩ := info_parts infoList
      have ho4 : (w4.alloc (.cells #[.slice ao k cap, .slice ao1 (k + 1) cap1, .slice ao2 (k + 1 + 1) cap2] 69)).ownsRow 0 69 1 (.slice a2 L.length c2) L.length L := (own_below HS.out rb2).alloc _
      have h3c := three_cells w4 (.slice ao k cap) (.slice ao1 (k + 1) cap1) (.slice ao2 (k + 1 + 1) cap2) 69
      have h31 : ∀ u ∈ [Value.slice ao k cap, .slice ao1 (k + 1) cap1, .slice ao2 (k + 1 + 1) cap2], u.oneCell' = true := by
        intro u hu
        simp at hu
        rcases hu with rfl | rfl | rfl <;> rfl
      have hb24 : (L.length + 3) * 24 ≤ 140737488355328 := by rw [HLN.out]; exact hls2
      have hbml : L.length + 3 ≤ maxLen := by simp only [maxLen]; omega
      obtain ⟨v', w5, hrun3, t1, t2, _⟩ := run_append_own (P := Try.prog) (w4.alloc (.cells #[.slice ao k cap, .slice ao1 (k + 1) cap1, .slice ao2 (k + 1 + 1) cap2] 69)) 0 59 59 69 il (.slice none 0 0) 1 24 Try.underlying59 hil hl0 hl1 hl2 rfl (by decide) _ _ _ ho4 ⟨w4.heap.size, 0, none⟩ 3 3 _ rfl h3c h31 hbml hb24 (Nat.zero_le _)
      have t3 := append_where (ty := 59) Try.underlying59 hil hl0 hl1 hl2 ho4 (m := 3) (c := 3) rfl h3c h31 (by decide) hbml hb24 hrun3
      obtain ⟨ao5, cap5, rfl⟩ := own_form t1
      rw [HEQ.out.symm] at hM1b hM2b hM3b
      obtain ⟨y1, y2, y3⟩ := yard_kept HY.out rb2 HC0.out HS3.out HL3.out hM1b hM2b hM3b t2 t1 t3
      have HYK : Hid _ := y1
      simp only [HLN.out] at hrun3 y2 HYK
      clear y1 t1 t2 t3 hM1b hM2b hM3b hM1a hkeepQ rk2 ho3 ho4 HM2 q3 hb3 rb1 rb2 r1 r2 h3c h31 HS HS3 HC0
      go_wp2_with (at_builtin; first | refine Lib.wpList_append_run _ rfl _ _ _ _ rfl _ _ rfl rfl _ _ hrun2 ?_ | refine Lib.wpList_append_run _ rfl _ _ _ _ rfl _ _ rfl rfl _ _ hrun3 ?_)
      go_end0
      exact ⟨rfl, HYK.out⟩
end Go.Proofs.Ytekdenkllipehaa

/-
  The statement's yard: names, and whether every list is as its owner wrote it.
-/
namespace Go.Proofs.Ytekdenkllipehaa
open Go.RowKit

theorem own_zero {w : World} {base : Nat} {e : TypeId} {size : Nat} {v : Value} {n : Nat} {xs : List Value} (h : w.ownsRow base e size v n xs) : w.ownsRow 0 e size v n xs := by
  refine ⟨h.1, ?_⟩
  rcases h.2 with h2 | ⟨g, cap, cur, hv, _, r⟩
  · exact Or.inl h2
  · exact Or.inr ⟨g, cap, cur, hv, Nat.zero_le _, r⟩

set_option maxRecDepth 100000 in
set_option maxHeartbeats 1600000 in
theorem yard_names (tg : Tags) (yb : Nat) (Ds : List M.Dsk) (pl : List Nat) (L : List Value) (q : Nat) (hL : L.length = 3 * q) (hLs : (L.length + 3) * 24 ≤ 140737488355328) (w : World) (h : YardAt w tg yb Ds pl L) (i pb : Nat) (D : M.Dsk) (hp : pl[i]? = some pb) (hD : Ds[i]? = some D) :
    Calls Try.prog 46 #[.pointer (some ⟨yb, 0, none⟩), .pointer (some ⟨pb, 0, none⟩)] w fun e w' => e = .returned (.bool true) ∧ YardKept tg yb Ds pl L w w' := by
  obtain ⟨x, y, ids, ps, ids', ps', hP⟩ := h.plate i pb D hp hD
  have cx := hP.cx
  have cy := hP.cy
  have hnl : D.names.length ≤ 64 := by
    unfold M.Dsk.names
    split
    · simp
    · simpa using hP.fine.good.few
  have HL : Hid _ := fun (_ : Unit) => diskNames tg (2 * i + 1) x D ids ps hP.fine w hP.land
  have HR : Hid _ := fun (W : World) (qq : Q w W) => refNames tg (2 * i + 2) y D ids' ps' hP.fine.good.few W (hP.ref.kept qq)
  have HY : Hid (YardAt w tg yb Ds pl L) := h
  have HLQ : Hid (L.length = 3 * q ∧ (L.length + 3) * 24 ≤ 140737488355328) := ⟨hL, hLs⟩
  obtain ⟨P, hPn⟩ : ∃ P, D.names = P := ⟨_, rfl⟩
  rw [hPn] at HL HR hnl
  clear h hP hL hLs hPn
  go_enter Try.func46, Try.ntmps46
  go_wp2_with fail
  refine (HL.out ()).mono ?_
  rintro e w1 ⟨ao, cap, rfl, n1⟩
  have q1 : Q w w1 := ⟨n1.below⟩
  have cy1 := kept_cell cy q1
  have HR1 : Hid _ := fun (_ : Unit) => HR.out w1 q1
  have HN1 : Hid _ := n1
  clear HL HR n1 cx cy
  go_wp2_with fail
  refine (HR1.out ()).mono ?_
  rintro e w2 ⟨bo, bcap, rfl, n2⟩
  have q2 : Q w1 w2 := ⟨n2.below⟩
  have HS : Hid _ := fun (_ : Unit) => sameTexts_yes P ao bo cap bcap w2 hnl (own_zero (own_below HN1.out.own q2.below)) (own_zero n2.own)
  clear HR1 n2 cy1
  go_wp2_with fail
  refine (HS.out ()).mono ?_
  rintro e w3 ⟨rfl, q3⟩
  have HK : Hid _ := fun (_ : Unit) => yard_keep tg yb Ds pl L q HLQ.out.1 HLQ.out.2 w w3 HY.out ((q1.trans q2).trans q3).below ao P.length cap (nameVals P) hnl (own_below (own_below HN1.out.own q2.below) q3.below)
  clear HS
  go_wp2_with fail
  refine (HK.out ()).mono ?_
  rintro e w4 ⟨rfl, hyk⟩
  have HYK : Hid _ := hyk
  clear hyk HK
  go_wp2_with fail
  go_ret
  exact ⟨rfl, HYK.out⟩

set_option maxRecDepth 100000 in
set_option maxHeartbeats 1600000 in
theorem yard_whole (tg : Tags) (yb : Nat) (Ds : List M.Dsk) (pl : List Nat) (L : List Value) (hLs : L.length ≤ 13194139533312) (w : World) (h : YardAt w tg yb Ds pl L) :
    Calls Try.prog 31 #[.pointer (some ⟨yb, 0, none⟩)] w fun e w' => e = .returned (.bool true) ∧ Q w w' := by
  have HY : Hid (YardAt w tg yb Ds pl L) := h
  obtain ⟨a2, c2, s1, s2, s3⟩ := h.lists
  have HS : Hid (w.ownsRow 0 69 1 (.slice a2 L.length c2) L.length L) := s2
  have HC1 : Hid (w.cell? ⟨yb, 1, none⟩ = some (.slice a2 L.length c2)) := s1
  clear h s1 s2 s3
  go_enter Try.func31, Try.ntmps31
  go_wp2_with fail
  go_loopw [3] (fun j wr => ∃ k : Nat, j = .int .i64 k ∧ k ≤ L.length ∧ Q w wr) (fun j _ => L.length - (intOf j).toNat)
  case atStart => exact ⟨0, rfl, Nat.zero_le _, Q.refl _⟩
  case round =>
    obtain ⟨k, rfl, hk, hq⟩ := hrel
    have c1 := kept_cell HC1.out hq
    by_cases hlt : k < L.length
    · obtain ⟨g, rfl, cg⟩ : ∃ g, a2 = some ⟨g, 0, none⟩ ∧ w.cell? ⟨g, k, none⟩ = some L[k] := by
        rcases HS.out.2 with ⟨_, h0⟩ | ⟨g, c, cur, hv, _⟩
        · omega
        · injection hv with e1
          subst e1
          refine ⟨g, rfl, ?_⟩
          rw [HS.out.cellAt k (by omega)]
          exact List.getElem?_eq_getElem hlt
      have cg1 := kept_cell cg hq
      have hM := HY.out.list k _ (List.getElem?_eq_getElem hlt)
      obtain ⟨ao, n, cap, hv, hn, hrow⟩ := hM
      rw [hv] at cg1
      have HROW : Hid _ := hrow
      have HMK : Hid _ := fun (_ : Unit) => mark_any (k / 3) (by omega) wr
      obtain ⟨mk, hmk⟩ : ∃ mk, markOf (k / 3) = mk := ⟨_, rfl⟩
      rw [hmk] at HMK HROW
      have i1 : (k : Int) < (L.length : Int) := by omega
      have i0 : (0 : Int) ≤ (k : Int) := by omega
      have wk : IntKind.i64.wrap ((k : Int) + 1) = (k : Int) + 1 := by rw [IntKind.wrap_i64]; omega
      have hd3 : ((k : Int)).tdiv 3 = ((k / 3 : Nat) : Int) := rfl
      clear hrow hv cg hmk
      go_wp2_with fail
      refine (HMK.out ()).mono ?_
      rintro e w1 ⟨rfl, q1⟩
      have c2' := kept_cell c1 q1
      have cg2 := kept_cell cg1 q1
      have hq1 := hq.trans q1
      clear HMK c1 cg1
      go_wp2_with fail
      go_loopw [5] (fun j wr2 => ∃ t : Nat, j = .int .i64 t ∧ t ≤ n ∧ Q w1 wr2) (fun j _ => n - (intOf j).toNat)
      case atStart => exact ⟨0, rfl, Nat.zero_le _, Q.refl _⟩
      case round =>
        obtain ⟨t, rfl, ht, hqt⟩ := hrel
        have d1 := kept_cell c2' hqt
        have d2 := kept_cell cg2 hqt
        by_cases hltn : t < n
        · obtain ⟨gl, rfl, cgl⟩ : ∃ gl, ao = some ⟨gl, 0, none⟩ ∧ w.cell? ⟨gl, t, none⟩ = some (.string mk) := by
            rcases HROW.out with ⟨_, h0⟩ | ⟨gl, e1, _, _, hc⟩
            · omega
            · exact ⟨gl, e1, hc t hltn⟩
          have d3 := kept_cell cgl (hq1.trans hqt)
          have j1 : (t : Int) < (n : Int) := by omega
          have j0 : (0 : Int) ≤ (t : Int) := by omega
          have wt : IntKind.i64.wrap ((t : Int) + 1) = (t : Int) + 1 := by rw [IntKind.wrap_i64]; omega
          clear cgl
          go_wp2_with fail
          go_roundw
          case rel => exact ⟨t + 1, by go_num, by omega, hqt⟩
          case measure => simp [intOf]; omega
        · obtain rfl : t = n := by omega
          go_wp2_with fail
          go_roundw
          case rel => exact ⟨k + 1, by go_num, by omega, hq1.trans hqt⟩
          case measure => simp [intOf]; omega
    · obtain rfl : k = L.length := by omega
      go_wp2_with fail
      go_ret
      exact ⟨rfl, hq⟩
end Go.Proofs.Ytekdenkllipehaa
