import Derived.Test.YtekdenkllipehaaRd
import Derived.Deep.QuietTactic
import Derived.BigQuiet
import Derived.Deep.RegionWith
import Derived.Deep.RegionLaw
import Derived.Deep.DeepCutAuto
namespace Go.Proofs.Ytekdenkllipehaa
open Go.RowKit

/-- No change. -/
def RdNo (w : World) (e : Ending) (w' : World) : Prop :=
  ∃ (so eo : Option Addr) (n m sc ec : Nat), e = .returned (.tuple #[.agg #[.slice so n sc, .slice eo m ec], .bool false]) ∧ Q w w'

/-- A change, and its steps. -/
def RdYes (acc : List Nat) (w : World) (e : Ending) (w' : World) : Prop :=
  ∃ (L : List M.St) (so eo : Option Addr) (sc ec : Nat), e = .returned (.tuple #[.agg #[.slice so L.length sc, .slice eo L.length ec], .bool true]) ∧ (M.Goods L ∧ M.flat L = acc) ∧ Steps w' so L ∧ Ends w' eo L ∧ Q w w'

def RdEnd (size : Nat) (r : Option (List Nat)) (w : World) (e : Ending) (w' : World) : Prop :=
  match r with
  | none => RdNo w e w'
  | some acc => if acc.length = size then RdYes acc w e w' else RdNo w e w'

theorem infoStep : (Try.prog.info? 53).map (fun i => (i.zero, i.size, i.bytes)) = some (some (.agg #[.string ⟨#[]⟩, .int .i64 0, .int .i64 0]), 3, 32) := by kernel_rfl
theorem infoInt' : (Try.prog.info? 3).map (fun i => (i.zero, i.size, i.bytes)) = some (some (.int .i64 0), 1, 8) := by kernel_rfl

theorem cells_at (w : World) (s : M.St) (t : TypeId) : ∀ j u, s.cells[j]? = some u → (w.alloc (.cells #[.string s.put, .int .i64 (s.place : Int), .int .i64 (s.size : Int)] t)).cell? ((⟨w.heap.size, 0, none⟩ : Addr).add j) = some u := by
  intro j u hj
  match j, hj with
  | 0, hj => simp [M.St.cells] at hj; subst hj; simp [Addr.add]
  | 1, hj => simp [M.St.cells] at hj; subst hj; simp [Addr.add]
  | 2, hj => simp [M.St.cells] at hj; subst hj; simp [Addr.add]
  | j + 3, hj => simp [M.St.cells] at hj

theorem cells_one (s : M.St) : ∀ u ∈ s.cells, u.oneCell' = true := by
  intro u hu; simp [M.St.cells] at hu; rcases hu with rfl | rfl | rfl <;> rfl

/-- A cell outside the row that has grown. -/
theorem cell_grown2 {wb w' : World} {row : Option Nat} {p : Addr} {v : Value} (hg : wb.grownBy w' row) (h : wb.cell? p = some v) (hne : ∀ k, row = some k → k < p.block) : w'.cell? p = some v := by
  have hlt : p.block < wb.heap.size := by
    rcases Nat.lt_or_ge p.block wb.heap.size with hl | hl
    · exact hl
    · unfold World.cell? at h
      rw [Array.getElem?_eq_none hl] at h
      simp at h
  exact (World.cell?_of_block (hg.block p.block hlt (fun e => by have := hne p.block e.symm; omega))).trans h

set_option maxRecDepth 100000 in
set_option maxHeartbeats 2000000 in
theorem read_some (s : ByteArray) (hs : s.size ≤ 140737488351232) (size a0 : Nat) (h0 : M.getAt s.data.toList 0 = some (size, a0)) (hsz : ¬ 4096 < size) (w : World) :
    Calls Try.prog 21 #[.string s] w fun e w' => RdEnd size (M.stepsAt s.data.toList size (s.data.toList.length + 1) a0 []) w e w' := by
  have hb0 := M.getAt_bound h0
  have G : Hid _ := get_some s 0 size a0 hs h0
  rw [show ((0 : Nat) : Int) = 0 from rfl] at G
  have hl : s.data.toList.length = s.size := by simp
  have hA := M.at_start s.data.toList size a0 (by omega)
  have RS : Hid _ := readStep_any s hs
  have HSn : Hid (∀ a acc, M.stepOf s a = none → M.stepAt s.data.toList size a acc = none) := fun a acc h => step_none h
  have HSs : Hid _ := fun (a a' : Nat) (acc : List Nat) (st : M.St) (h : M.stepOf s a = some (st, a')) => step_some (acc := acc) h (show size ≤ 4096 by omega)
  generalize M.stepsAt s.data.toList size (s.data.toList.length + 1) a0 [] = r at *
  generalize s.data.toList = l at *
  have HL : Hid (l.length = s.size) := hl
  have t1 : decide ((4096 : Int) < (size : Int)) = false := by simp; omega
  have hR := Rd.start w
  obtain ⟨i0, hi, hz0, hz1, hz2⟩ := info_parts infoInt'
  obtain ⟨i1, hj, hy0, hy1, hy2⟩ := info_parts infoStep
  clear h0 hl
  go_enter Try.func21, Try.ntmps21
  go_wp2_with fail
  refine (G.out _).mono ?_
  rintro e w1 ⟨rfl, rfl⟩
  go_wp2_with fail
  go_loopw [5] (fun t wr => ∃ (a : Nat) (L : List M.St) (so eo : Option Addr) (sc ec : Nat), M.At l size r a (M.flat L) ∧ M.Goods L ∧ M.tot L ≤ size ∧ t = .int .i64 a ∧ Rd w L L so eo sc ec wr) (fun t _ => s.size - (intOf t).toNat)
  case atStart => exact ⟨a0, [], none, none, 0, 0, hA, M.Goods.nil, Nat.zero_le _, rfl, hR⟩
  case round =>
    obtain ⟨a, L, so, eo, sc, ec, hat, hgd, htl, rfl, hr⟩ := hrel
    have hal : a ≤ s.size := by have := M.at_le hat; rw [HL.out] at this; exact this
    have hLl := M.length_le_tot hgd
    have hfl := M.flat_length hgd
    by_cases hlt : a < s.size
    · cases hst : M.stepOf s a with
      | none =>
        have E : Hid (r = none) := M.at_none hat (by rw [HL.out]; exact hlt) (HSn.out a _ hst)
        have RC := RS.out a
        rw [hst] at RC
        simp only [stepEnd] at RC
        have RH : Hid _ := RC
        clear RC hst
        go_wp2_with fail
        refine (RH.out _).mono ?_
        rintro e w2 ⟨rfl, q2⟩
        have hr2 := (hr.kept q2).kept ((Q.refl w2).alloc #[.string ⟨#[]⟩, .int .i64 0, .int .i64 0] 53)
        clear hr q2
        go_wp2_with fail
        go_quiet (fail)
        have hr3 := hr2.kept ((Q.refl _).drewN nq)
        have hx0 := hr3.r0
        have hx1 := hr3.r1
        have hx2 := hr3.f0
        have hx3 := hr3.f1
        obtain ⟨k0, k1, kq, _, _⟩ := hr3.stored (.slice none 0 0) (.slice none 0 0)
        go_wp2_with fail
        refine bodyPost_ret (v := .tuple #[.agg #[.slice none 0 0, .slice none 0 0], .bool false]) (by simp [results, Try.results21, go_sem, k0, k1]) rfl ?_
        rw [E.out]
        exact ⟨none, none, 0, 0, 0, 0, rfl, kq⟩
      | some p =>
        obtain ⟨st, a'⟩ := p
        obtain ⟨hbad, hgood, ha1, ha2, hp1, hp2⟩ := HSs.out a a' (M.flat L) st hst
        rw [hfl] at hbad hgood
        have RC := RS.out a
        rw [hst] at RC
        simp only [stepEnd] at RC
        have RH : Hid _ := RC
        clear RC hst
        go_wp2_with fail
        refine (RH.out _).mono ?_
        rintro e w2 ⟨rfl, q2⟩
        have hr2 := (hr.kept q2).kept ((Q.refl w2).alloc #[.string st.put, .int .i64 (st.place : Int), .int .i64 (st.size : Int)] 53)
        obtain ⟨⟨x0, x1, x2⟩, ⟨y0, y1, y2⟩⟩ := new3 (Q.refl (w2.alloc (.cells #[.string st.put, .int .i64 (st.place : Int), .int .i64 (st.size : Int)] 53)))
        have hc0 := hr2.c0
        have hc1 := hr2.c1
        have LC := length_any L so eo L.length sc ec _ (own_ends ((hr2.kept (Q.refl _).drew).ownE)) (by omega)
        have LH : Hid _ := fun (_ : Unit) => LC
        have hEk := (hr.kept q2).ownE.lt
        have hSk := (hr.kept q2).ownS.lt
        have htop2 := (hr.kept q2).top
        clear LC hr q2
        by_cases hlong : size - M.tot L < st.size
        · have E : Hid (r = none) := M.at_none hat (by rw [HL.out]; exact hlt) (hbad hlong)
          have hwr : IntKind.i64.wrap ((size : Int) - (M.tot L : Int)) = (size : Int) - (M.tot L : Int) := by rw [IntKind.wrap_i64]; omega
          have t2 : decide ((size : Int) - (M.tot L : Int) < (st.size : Int)) = true := by simp; omega
          clear hbad hgood
          go_upto_region 7 with fail
          go_cut [45] (fun x wx => x = .bool true ∧ Q (w2.alloc (.cells #[.string st.put, .int .i64 (st.place : Int), .int .i64 (st.size : Int)] 53)) wx)
          case first =>
            go_region_held3 (fun w' => w'.cell? ⟨w2.heap.size, 2, none⟩ = some (.int .i64 (st.size : Int)) ∧ w'.cell? ⟨w.heap.size + 1, 0, none⟩ = some (.slice so L.length sc) ∧ w'.cell? ⟨w.heap.size + 1, 1, none⟩ = some (.slice eo L.length ec)) (first | exact ⟨x2, hc0, hc1⟩ | exact hS4)
              (first | (go_at_call 25; refine (LH.out ()).mono ?_; rintro e w4 ⟨rfl, q4⟩; have hS4 : w4.cell? ⟨w2.heap.size, 2, none⟩ = some (.int .i64 (st.size : Int)) ∧ w4.cell? ⟨w.heap.size + 1, 0, none⟩ = some (.slice so L.length sc) ∧ w4.cell? ⟨w.heap.size + 1, 1, none⟩ = some (.slice eo L.length ec) := ⟨kept_cell x2 (q_undrew q4), kept_cell hc0 (q_undrew q4), kept_cell hc1 (q_undrew q4)⟩))
            all_goals
              go_wp2_with fail
              go_meet
              case rel => exact ⟨rfl, q_undrew q4⟩
          case rest =>
            obtain ⟨rfl, q5⟩ := hcut
            have hr3 := hr2.kept q5
            have hx0 := hr3.r0
            have hx1 := hr3.r1
            have hx2 := hr3.f0
            have hx3 := hr3.f1
            obtain ⟨k0, k1, kq, _, _⟩ := hr3.stored (.slice none 0 0) (.slice none 0 0)
            go_wp2_with fail
            refine bodyPost_ret (v := .tuple #[.agg #[.slice none 0 0, .slice none 0 0], .bool false]) (by simp [results, Try.results21, go_sem, k0, k1]) rfl ?_
            rw [E.out]
            exact ⟨none, none, 0, 0, 0, 0, rfl, kq⟩
        · obtain ⟨hstep, hgs⟩ := hgood hlong
          have HA : Hid (M.At l size r a' (M.flat (L ++ [st]))) := by
            rw [M.flat_append, M.flat_one]
            exact M.at_step hat (by rw [HL.out]; exact hlt) hstep
          have HG2 : Hid (M.Goods (L ++ [st])) := hgd.append (M.Goods.one hgs)
          have HT2 : Hid (M.tot (L ++ [st]) ≤ size) := by rw [M.tot_append, M.tot_one]; exact (by omega : M.tot L + st.size ≤ size)
          have hwr : IntKind.i64.wrap ((size : Int) - (M.tot L : Int)) = (size : Int) - (M.tot L : Int) := by rw [IntKind.wrap_i64]; omega
          have t2 : decide ((size : Int) - (M.tot L : Int) < (st.size : Int)) = false := by simp; omega
          clear hbad hgood hstep
          go_upto_region 7 with fail
          go_cut [45] (fun x wx => x = .bool false ∧ Q (w2.alloc (.cells #[.string st.put, .int .i64 (st.place : Int), .int .i64 (st.size : Int)] 53)) wx)
          case first =>
            go_region_held3 (fun w' => w'.cell? ⟨w2.heap.size, 2, none⟩ = some (.int .i64 (st.size : Int)) ∧ w'.cell? ⟨w.heap.size + 1, 0, none⟩ = some (.slice so L.length sc) ∧ w'.cell? ⟨w.heap.size + 1, 1, none⟩ = some (.slice eo L.length ec)) (first | exact ⟨x2, hc0, hc1⟩ | exact hS4)
              (first | (go_at_call 25; refine (LH.out ()).mono ?_; rintro e w4 ⟨rfl, q4⟩; have hS4 : w4.cell? ⟨w2.heap.size, 2, none⟩ = some (.int .i64 (st.size : Int)) ∧ w4.cell? ⟨w.heap.size + 1, 0, none⟩ = some (.slice so L.length sc) ∧ w4.cell? ⟨w.heap.size + 1, 1, none⟩ = some (.slice eo L.length ec) := ⟨kept_cell x2 (q_undrew q4), kept_cell hc0 (q_undrew q4), kept_cell hc1 (q_undrew q4)⟩))
            all_goals
              go_wp2_with fail
              go_meet
              case rel => exact ⟨rfl, q_undrew q4⟩
          case rest =>
            obtain ⟨rfl, q5⟩ := hcut
            have hr3 := hr2.kept q5
            have n0 := kept_cell x0 q5
            have n1 := kept_cell x1 q5
            have n2 := kept_cell x2 q5
            have LC2 := length_any L so eo L.length sc ec _ (own_ends ((hr3.kept (Q.refl _).drew).ownE)) (by omega)
            have LH2 : Hid _ := fun (_ : Unit) => LC2
            have hc1 := hr3.c1
            have hc0 := hr3.c0
            have hw2 : IntKind.i64.wrap ((M.tot L : Int) + (st.size : Int)) = (M.tot L : Int) + (st.size : Int) := by rw [IntKind.wrap_i64]; omega
            clear LC2 LH hr2 x0 x1 x2 y0 y1 y2 q5 hwr t2
            go_upto_region 9 with fail
            go_cut [4] (fun x wx => x = .int .i64 size ∧ ∃ (eo' : Option Addr) (ec' : Nat), Rd w L (L ++ [st]) so eo' sc ec' wx ∧ wx.cell? ⟨w2.heap.size, 0, none⟩ = some (.string st.put) ∧ wx.cell? ⟨w2.heap.size, 1, none⟩ = some (.int .i64 (st.place : Int)) ∧ wx.cell? ⟨w2.heap.size, 2, none⟩ = some (.int .i64 (st.size : Int)))
            case first =>
              go_region_law (first
                | (refine step_append_own rfl (.tmp 48) (.tmp 54) 31 rfl (w.heap.size + 2) 3 i0 (.int .i64 0) 1 8 Try.underlying31 hi hz0 hz1 hz2 rfl (by decide) (.slice eo L.length ec) L.length (endVals L) (by simp [Act.eval]) (by exact hr4.ownE.alloc _) ⟨w6.heap.size, 0, none⟩ 1 1 [.int .i64 ((M.tot L : Int) + (st.size : Int))] (by simp [Act.eval]) rfl (one_cell _ _ _) (one_val _) (by unfold maxLen; omega) (by omega) (by simp; omega) ?_; intro v' w' hown' hgrow; obtain ⟨eo3, ec3, hv⟩ := own_form hown'; rw [hv] at hown'; rw [hv]; obtain ⟨kc, kf, hrn⟩ := (hr4.kept ((Q.refl _).alloc _ _)).pushE st _ (by omega) hgrow hown'; have m0 := cell_grown2 hgrow (kept_cell p0 ((Q.refl _).alloc _ _)) (fun k hk => (hEk k hk).2); have m1 := cell_grown2 hgrow (kept_cell p1 ((Q.refl _).alloc _ _)) (fun k hk => (hEk k hk).2); have m2 := cell_grown2 hgrow (kept_cell p2 ((Q.refl _).alloc _ _)) (fun k hk => (hEk k hk).2); clear hown' hgrow hv)
                | (go_simp; go_at_call 25; refine (LH2.out ()).mono ?_; rintro e w6 ⟨rfl, q6⟩; have hr4 := hr3.kept (q_undrew q6); have ht4 := hr4.top; have b0 := hr4.c0; have b1 := hr4.c1; have b2 := kept_cell b1 ((Q.refl w6).alloc #[.int .i64 ((M.tot L : Int) + (st.size : Int))] 3); have p0 := kept_cell n0 (q_undrew q6); have p1 := kept_cell n1 (q_undrew q6); have p2 := kept_cell n2 (q_undrew q6); go_wp2_with fail))
              all_goals
                go_wp2_with fail
                go_meet
                case rel =>
                  refine ⟨rfl, eo3, ec3, hrn, ?_, ?_, ?_⟩
                  · rw [World.cell?_setCell_other _ _ _ _ (by intro e; injection e; omega)]; exact m0
                  · rw [World.cell?_setCell_other _ _ _ _ (by intro e; injection e; omega)]; exact m1
                  · rw [World.cell?_setCell_other _ _ _ _ (by intro e; injection e; omega)]; exact m2
            case rest =>
              obtain ⟨rfl, eo4, ec4, hr5, o0, o1, o2⟩ := hcut
              have e0 := hr5.c0
              have hown := hr5.ownS
              have htop5 := hr5.top
              have hEl : (L ++ [st]).length = L.length + 1 := by simp
              clear hr3 n0 n1 n2 LH2 hc1 hc0 hw2
              go_wp2_with (at_builtin; refine wpList_append_own _ rfl (.tmp 58) (.tmp 60) 44 rfl (w.heap.size + 2) 53 i1 (.agg #[.string ⟨#[]⟩, .int .i64 0, .int .i64 0]) 3 32 Try.underlying44 hj hy0 hy1 hy2 rfl (by decide) _ _ _ rfl (hown.alloc _) ⟨wc.heap.size, 0, none⟩ 1 1 st.cells rfl rfl ?c1 ?c2 ?c3 ?c4 ?c5 ?_)
              case c1 => exact cells_at _ _ _
              case c2 => exact cells_one _
              case c3 => unfold maxLen; omega
              case c4 => omega
              case c5 => simp; omega
              intro v' w' hown' hgrow _
              obtain ⟨so3, sc3, hv⟩ := own_form hown'
              rw [hv] at hown'
              rw [hv]
              obtain ⟨kc, kf, hrn⟩ := (hr5.kept ((Q.refl _).alloc _ _)).pushS st hgrow hown'
              clear hown' hgrow hown hv
              go_wp2_with fail
              go_roundw
              case rel => exact ⟨a', L ++ [st], so3, eo4, sc3, ec4, HA.out, HG2.out, HT2.out, by go_num, hrn⟩
              case measure => simp [intOf]; omega
    · have E : Hid (r = some (M.flat L)) := M.at_end hat (by rw [HL.out]; exact hlt)
      have LC := length_any L so eo L.length sc ec _ (own_ends ((hr.kept (Q.refl _).drew).ownE)) (by omega)
      have LH : Hid _ := fun (_ : Unit) => LC
      have hc0 := hr.c0
      have hc1 := hr.c1
      clear LC
      by_cases heq : M.tot L = size
      · have t2 : ((M.tot L : Int) == (size : Int)) = true := by simp; omega
        go_upto_region 12 with fail
        go_region_held3 (fun w' => w'.cell? ⟨w.heap.size + 1, 0, none⟩ = some (.slice so L.length sc) ∧ w'.cell? ⟨w.heap.size + 1, 1, none⟩ = some (.slice eo L.length ec)) (first | exact ⟨hc0, hc1⟩ | exact ⟨b0, b1⟩ | exact ⟨(World.cell?_setCell_other _ _ _ _ (by simp)).trans ((World.cell?_setCell_other _ _ _ _ (by simp)).trans b0), (World.cell?_setCell_other _ _ _ _ (by simp)).trans ((World.cell?_setCell_other _ _ _ _ (by simp)).trans b1)⟩)
          (first | (go_at_call 25; refine (LH.out ()).mono ?_; rintro e w4 ⟨rfl, q4⟩; have hr4 := hr.kept (q_undrew q4); have b0 := hr4.c0; have b1 := hr4.c1; have z0 := hr4.r0; have z1 := hr4.r1; have z2 := hr4.f0; have z3 := hr4.f1))
        all_goals
          obtain ⟨k0, k1, kq, ks, ke⟩ := hr4.stored (.slice so L.length sc) (.slice eo L.length ec)
          go_wp2_with fail
          refine bodyPost_ret (v := .tuple #[.agg #[.slice so L.length sc, .slice eo L.length ec], .bool true]) (by simp [results, Try.results21, go_sem, k0, k1]) rfl ?_
          rw [E.out]
          show (if (M.flat L).length = size then _ else _)
          rw [if_pos (by omega)]
          exact ⟨L, so, eo, sc, ec, rfl, ⟨hgd, rfl⟩, ks, ke, kq⟩
      · have t2 : ((M.tot L : Int) == (size : Int)) = false := by simp; omega
        go_upto_region 12 with fail
        go_region_held3 (fun w' => w'.cell? ⟨w.heap.size + 1, 0, none⟩ = some (.slice so L.length sc) ∧ w'.cell? ⟨w.heap.size + 1, 1, none⟩ = some (.slice eo L.length ec)) (first | exact ⟨hc0, hc1⟩ | exact ⟨b0, b1⟩ | exact ⟨(World.cell?_setCell_other _ _ _ _ (by simp)).trans ((World.cell?_setCell_other _ _ _ _ (by simp)).trans b0), (World.cell?_setCell_other _ _ _ _ (by simp)).trans ((World.cell?_setCell_other _ _ _ _ (by simp)).trans b1)⟩)
          (first | (go_at_call 25; refine (LH.out ()).mono ?_; rintro e w4 ⟨rfl, q4⟩; have hr4 := hr.kept (q_undrew q4); have b0 := hr4.c0; have b1 := hr4.c1; have z0 := hr4.r0; have z1 := hr4.r1; have z2 := hr4.f0; have z3 := hr4.f1))
        all_goals
          obtain ⟨k0, k1, kq, ks, ke⟩ := hr4.stored (.slice so L.length sc) (.slice eo L.length ec)
          go_wp2_with fail
          refine bodyPost_ret (v := .tuple #[.agg #[.slice so L.length sc, .slice eo L.length ec], .bool false]) (by simp [results, Try.results21, go_sem, k0, k1]) rfl ?_
          rw [E.out]
          show (if (M.flat L).length = size then _ else _)
          rw [if_neg (by omega)]
          exact ⟨so, eo, L.length, L.length, sc, ec, rfl, kq⟩
end Go.Proofs.Ytekdenkllipehaa
