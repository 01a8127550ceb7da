import Derived.Test.YtekdenkllipehaaCompose
namespace Go.Proofs.Ytekdenkllipehaa
open Go.RowKit

/-- The steps composed so far. -/
structure Comp (A B : List M.St) (k : Nat) (C : List M.St) : Prop where
  good : M.Goods C
  flat : M.flat C = M.subst (M.flat A) (M.flat (B.take k))

theorem Comp.start (A B : List M.St) : Comp A B 0 [] := ⟨M.Goods.nil, by simp [M.flat, M.subst]⟩

theorem Comp.put {A B : List M.St} {k : Nat} {C : List M.St} {s : M.St} (h : Comp A B k C) (hs : B[k]? = some s) (hg : s.Good) (h0 : s.put.size ≠ 0) : Comp A B (k + 1) (C ++ [s]) := by
  refine ⟨h.good.append (M.Goods.one hg), ?_⟩
  rw [M.flat_append, M.flat_one, M.flat_take hs, M.subst_append, h.flat]
  congr 1
  have e : s.acc = s.put.data.toList.map UInt8.toNat := if_neg h0
  rw [e, M.subst_bytes]

theorem Comp.take {A B : List M.St} {k : Nat} {C D : List M.St} {s : M.St} (h : Comp A B k C) (hs : B[k]? = some s) (h0 : s.put.size = 0) (hA : s.place + s.size ≤ (M.flat A).length) (hD : M.Goods D) (hf : M.flat D = ((M.flat A).drop s.place).take s.size) : Comp A B (k + 1) (C ++ D) := by
  refine ⟨h.good.append hD, ?_⟩
  rw [M.flat_append, M.flat_take hs, M.subst_append, h.flat, hf]
  congr 1
  have e : s.acc = M.taken s.place s.size := if_pos h0
  rw [e, M.subst_taken _ _ _ hA]

theorem Comp.tot {A B : List M.St} (hB : M.Goods B) {k : Nat} {C : List M.St} (h : Comp A B k C) : M.tot C = M.tot (B.take k) := by
  rw [← M.flat_length h.good, h.flat, M.subst_length, M.flat_length (hB.take k)]

set_option maxRecDepth 100000 in
set_option maxHeartbeats 1000000 in
theorem compose_yes (a b : ByteArray) (ha : a.size ≤ 140737488351232) (hb : b.size ≤ 140737488351232) (s1 s2 : Nat) (c1 c2 : List Nat) (hp1 : M.parse a.data.toList = some (s1, c1)) (hp2 : M.parse b.data.toList = some (s2, c2)) (hnear : M.reach c2 ≤ s1) (w : World) :
    Calls Try.prog 15 #[.string a, .string b] w fun e w' => ∃ C : ByteArray, (C.size ≤ 140737488351232 ∧ M.parse C.data.toList = some (s2, M.subst c1 c2)) ∧ e = .returned (.tuple #[.string C, .int .i64 0]) ∧ Q w w' := by
  have R1 : Hid _ := read_yes a ha s1 c1 hp1
  have R2 : Hid _ := read_yes b hb s2 c2 hp2
  obtain ⟨hl1, hs1, -⟩ := M.parse_bound hp1
  obtain ⟨hl2, hs2, hf2⟩ := M.parse_bound hp2
  have hrf := M.reach_fit hf2
  obtain ⟨i1, hj, hy0, hy1, hy2⟩ := info_parts infoStep
  clear hp1 hp2 hf2
  go_enter Try.func15, Try.ntmps15
  go_wp2_with fail
  refine (R1.out _).mono ?_
  rintro e w1 ⟨A, soA, eoA, scA, ecA, rfl, ⟨hgA, rfl⟩, sA, eA, q1⟩
  go_wp2_with fail
  refine (R2.out _).mono ?_
  rintro e w2 ⟨B, soB, eoB, scB, ecB, rfl, ⟨hgB, rfl⟩, sB, -, q2⟩
  have h2 := two_start (scA := scA) (ecA := ecA) (eoB := eoB) (scB := scB) (ecB := ecB) q1 sA eA q2 sB
  have hfA := M.flat_length hgA
  have hfB := M.flat_length hgB
  have hlA := M.length_le_tot hgA
  have hlB := M.length_le_tot hgB
  have RC : Hid _ := fun (_ : Unit) => reachS_any B soB scB _ (h2.kept (Q.refl _).drew).stB (by omega) hgB
  have LC : Hid _ := fun (w' : World) (q : Q (w2.alloc (.cells #[.slice soB B.length scB, .slice eoB B.length ecB] 46)) w') => length_any A soA eoA A.length scA ecA w' (h2.kept q).enA (by omega)
  have hd : decide ((M.tot A : Int) < (M.reach (M.flat B) : Int)) = false := by simp; omega
  have hd2 : decide (M.tot A < M.reach (M.flat B)) = false := by simp; omega
  have hd3 : ¬ M.tot A < M.reach (M.flat B) := by omega
  have z0 := h2.a0
  have z1 := h2.a1
  have z2 := h2.b0
  have HC0 : Hid (Comp A B 0 []) := Comp.start A B
  have HCp : Hid _ := fun (k : Nat) (C : List M.St) (s : M.St) (h : Comp A B k C) (hs : B[k]? = some s) => h.put hs
  have HCt : Hid _ := fun (k : Nat) (C D : List M.St) (s : M.St) (h : Comp A B k C) (hs : B[k]? = some s) => Comp.take (D := D) h hs
  have HCT : Hid (∀ (k : Nat) (C : List M.St), Comp A B k C → M.tot C = M.tot (B.take k)) := fun k C h => h.tot hgB
  have HBt : Hid (∀ k, M.tot (B.take k) ≤ M.tot B) := M.tot_take_le B
  have HBg : Hid (∀ (k : Nat) (s : M.St), B[k]? = some s → s.Good) := fun k s h => hgB.get h
  have HBr : Hid (∀ (k : Nat) (s : M.St), B[k]? = some s → s.put.size = 0 → s.place + s.size ≤ M.tot A) := fun k s h h0 => by
    have := reach_in hgB (List.mem_of_getElem? h) h0
    omega
  have HCut : Hid _ := fun (at0 sz0 : Nat) (hz : 1 ≤ sz0) (hx : at0 + sz0 ≤ M.tot A) (w' : World) => cut_any2 A hgA (by omega) soA eoA scA ecA at0 sz0 hz hx w'
  have HFA : Hid ((M.flat A).length = M.tot A) := hfA
  have HEnd : Hid (∀ C, Comp A B B.length C → M.flat C = M.subst (M.flat A) (M.flat B) ∧ M.tot C = s2) := fun C h => by
    have e1 := h.flat
    have e2 := h.tot hgB
    rw [List.take_length] at e1 e2
    exact ⟨e1, by omega⟩
  have htB : M.tot B ≤ 4096 := by omega
  have htA : M.tot A ≤ 4096 := by omega
  clear sA eA sB q1 q2 hgA hgB hfA hfB hl1 hl2
  generalize M.reach (M.flat B) = rr at *
  generalize M.tot A = tA at *
  generalize M.tot B = tB at *
  go_upto_region 3 with fail
  go_region_held3 (fun w' => w'.cell? ⟨w1.heap.size, 0, none⟩ = some (.slice soA A.length scA) ∧ w'.cell? ⟨w1.heap.size, 1, none⟩ = some (.slice eoA A.length ecA) ∧ w'.cell? ⟨w2.heap.size, 0, none⟩ = some (.slice soB B.length scB)) (first | exact ⟨z0, z1, z2⟩ | exact hS5 | exact hS4)
    (first
      | (go_at_call 22; refine (RC.out ()).mono ?_; rintro e w4 ⟨rfl, q4⟩; have hS4 : w4.cell? ⟨w1.heap.size, 0, none⟩ = some (.slice soA A.length scA) ∧ w4.cell? ⟨w1.heap.size, 1, none⟩ = some (.slice eoA A.length ecA) ∧ w4.cell? ⟨w2.heap.size, 0, none⟩ = some (.slice soB B.length scB) := ⟨kept_cell z0 (q_undrew q4), kept_cell z1 (q_undrew q4), kept_cell z2 (q_undrew q4)⟩)
      | (go_at_call 25; refine (LC.out w4 (q_undrew q4)).mono ?_; rintro e w5 ⟨rfl, q5⟩; have hS5 : w5.cell? ⟨w1.heap.size, 0, none⟩ = some (.slice soA A.length scA) ∧ w5.cell? ⟨w1.heap.size, 1, none⟩ = some (.slice eoA A.length ecA) ∧ w5.cell? ⟨w2.heap.size, 0, none⟩ = some (.slice soB B.length scB) := ⟨kept_cell hS4.1 q5, kept_cell hS4.2.1 q5, kept_cell hS4.2.2 q5⟩))
  have h3 := h2.kept ((q_undrew q4).trans q5)
  have y2 := h3.b0
  clear h2 z0 z1 z2 hS4 hS5 q4 q5 RC LC R1 R2
  go_wp2_with fail
  go_loopw [10, 40] (fun tl ti wr => ∃ (k : Nat) (C : List M.St) (ao : Option Addr) (cap : Nat), k ≤ B.length ∧ ti = .int .i64 (k : Int) ∧ tl = .slice ao C.length cap ∧ Grow w5 C ao cap wr ∧ Comp A B k C) (fun _ ti _ => B.length - (intOf ti).toNat)
  case atStart => exact ⟨0, [], none, 0, Nat.zero_le _, rfl, rfl, Grow.start w5, HC0.out⟩
  case round =>
    obtain ⟨k, C, ao, cap, hk, rfl, rfl, hgr, hcm⟩ := hrel
    have hct := HCT.out k C hcm
    have hbt := HBt.out k
    have hcl := M.length_le_tot hcm.good
    have hCl4 : C.length ≤ 4096 := by omega
    by_cases hlt : k < B.length
    · have h4 := h3.kept hgr.q
      obtain ⟨g, o, rfl, hg, hc⟩ := h4.stB.at hlt
      have hsi : B[k]? = some B[k] := List.getElem?_eq_getElem hlt
      obtain ⟨c0, c1, c2⟩ := hc k _ hsi
      have hgood := HBg.out k _ hsi
      have hbr := HBr.out k _ hsi
      have hpos := hgood.pos
      have HP1 : Hid _ := HCp.out k C _ hcm hsi hgood
      have HP2 : Hid _ := fun (D : List M.St) => HCt.out k C D _ hcm hsi
      generalize B[k] = s at *
      have h5 := h4.kept ((Q.refl wr).alloc #[.string s.put, .int .i64 (s.place : Int), .int .i64 (s.size : Int)] 53)
      have PG : Hid _ := fun (w' : World) => puts_gen s.put s.place s.size w'
      cases h0 : isPut s.put with
      | true =>
        clear hc hsi hgood hbr hct hcl
        go_wp2_with fail
        refine (PG.out _).mono ?_
        rintro e v1 ⟨rfl, p1⟩
        obtain ⟨⟨x0, x1, x2⟩, -⟩ := new3 p1
        have hg2 := hgr.kept (((Q.refl wr).alloc _ _).trans p1)
        have hown := hg2.own
        have hsz := hg2.below.size
        go_wp2_with (at_builtin; refine wpList_append_own _ rfl (.tmp 46) (.tmp 48) 44 rfl w5.heap.size 53 i1 (.agg #[.string ⟨#[]⟩, .int .i64 0, .int .i64 0]) 3 32 Try.underlying44 hj hy0 hy1 hy2 rfl (by decide) _ _ _ rfl (hown.alloc _) ⟨v1.heap.size, 0, none⟩ 1 1 s.cells rfl rfl ?c1 ?c2 ?c3 ?c4 ?c5 ?_)
        case c1 => exact cells_at _ _ _
        case c2 => exact cells_one _
        case c3 => unfold maxLen; omega
        case c4 => omega
        case c5 => simp; omega
        intro v' w' hown' hgrow _
        obtain ⟨so3, sc3, hv⟩ := own_form hown'
        rw [hv] at hown'
        rw [hv]
        have hg3 := (hg2.kept ((Q.refl _).alloc #[.string s.put, .int .i64 (s.place : Int), .int .i64 (s.size : Int)] 53)).push (D := [s]) hgrow (by rw [cellsOf_one]; exact hown')
        clear hown' hgrow hown hv
        go_wp2_with fail
        go_roundw
        case rel => exact ⟨k + 1, C ++ [s], so3, sc3, by omega, by go_num, by simp, hg3, HP1.out (isPut_yes.1 h0)⟩
        case measure => simp [intOf]; omega
      | false =>
        have hnr := hbr (isPut_no.1 h0)
        have HK : Hid _ := HCut.out s.place s.size hpos.1 hnr
        clear hc hsi hgood hbr hct hcl
        go_wp2_with fail
        refine (PG.out _).mono ?_
        rintro e v1 ⟨rfl, p1⟩
        obtain ⟨⟨x0, x1, x2⟩, -⟩ := new3 p1
        have h6 := h5.kept p1
        have y0 := h6.a0
        have y1 := h6.a1
        have hg2 := hgr.kept (((Q.refl wr).alloc _ _).trans p1)
        go_wp2_with fail
        refine (HK.out _ h6.stA h6.enA).mono ?_
        rintro e v2 ⟨D, ad, cd, ⟨hDg, hDf⟩, rfl, hDs, p2⟩
        have hDt : M.tot D = s.size := by rw [← M.flat_length hDg, hDf, List.length_take, List.length_drop, HFA.out]; omega
        have hDl := M.length_le_tot hDg
        obtain ⟨gd, od, rfl, hgd, hcd⟩ := hDs.at (k := 0) (by
          rcases Nat.eq_zero_or_pos D.length with e | e
          · obtain rfl := List.eq_nil_of_length_eq_zero e
            simp [M.tot] at hDt; omega
          · exact e)
        have hg4 := hg2.kept p2
        have hown := hg4.own
        have hsz := hg4.below.size
        have HP3 : Hid _ := fun (_ : Unit) => HP2.out D (isPut_no.1 h0) (by rw [HFA.out]; exact hnr) hDg hDf
        have hD4 : D.length ≤ 4096 := by omega
        clear hDf hDt
        go_wp2_with (at_builtin; refine wpList_append_own _ rfl (.tmp 50) (.tmp 56) 44 rfl w5.heap.size 53 i1 (.agg #[.string ⟨#[]⟩, .int .i64 0, .int .i64 0]) 3 32 Try.underlying44 hj hy0 hy1 hy2 rfl (by decide) _ _ _ rfl hown ⟨gd, od, none⟩ D.length cd (cellsOf D) rfl (by rw [cellsOf_length]) ?c1 ?c2 ?c3 ?c4 ?c5 ?_)
        case c1 =>
          intro j u hu
          have hx : (⟨gd, od, none⟩ : Addr).add j = ⟨gd, od + j, none⟩ := by unfold Addr.add; split <;> simp_all
          rw [hx]
          exact hcd.to_cells j u hu
        case c2 => exact cellsOf_one' D
        case c3 => unfold maxLen; omega
        case c4 => omega
        case c5 => exact hsz
        intro v' w' hown' hgrow _
        obtain ⟨so3, sc3, hv⟩ := own_form hown'
        rw [hv] at hown'
        rw [hv]
        have hg5 := hg4.push (D := D) hgrow hown'
        clear hown' hgrow hown hv
        go_wp2_with fail
        go_roundw
        case rel => exact ⟨k + 1, C ++ D, so3, sc3, by omega, by go_num, by simp, hg5, HP3.out ()⟩
        case measure => simp [intOf]; omega
    · obtain rfl : k = B.length := by omega
      obtain ⟨he1, he2⟩ := HEnd.out C hcm
      have WC : Hid _ := fun (_ : Unit) => write_any C ao cap wr (own_steps hgr.own) (by omega) hcm.good hgr.cap
      have HPs : Hid (∀ X : ByteArray, WriteSaid C X → X.size ≤ 140737488351232 ∧ M.parse X.data.toList = some (s2, M.subst (M.flat A) (M.flat B))) := fun X hX => by
        obtain ⟨p1, p2⟩ := hX.parse hcm.good (by omega)
        have := cost_le hcm.good
        exact ⟨by omega, by rw [p1, he1, he2]⟩
      have HQ : Hid _ := fun (_ : Unit) => h3.q.trans hgr.q
      clear he1 he2 hcm hgr hct hcl
      go_wp2_with fail
      refine (WC.out ()).mono ?_
      rintro e v1 ⟨X, hX, rfl, p1⟩
      go_wp2_with fail
      go_ret2
      exact ⟨X, HPs.out X hX, rfl, (HQ.out ()).trans p1⟩
end Go.Proofs.Ytekdenkllipehaa
