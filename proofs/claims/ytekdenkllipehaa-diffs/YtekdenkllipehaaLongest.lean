import Derived.Test.YtekdenkllipehaaLongM
namespace Go.Proofs.Ytekdenkllipehaa
open Go.RowKit

set_option maxRecDepth 100000 in
set_option maxHeartbeats 800000 in
theorem longest_any (b t : ByteArray) (hb : b.size ≤ 4096) (ht : t.size ≤ 4096) (X done at_ : Nat) (hd : done ≤ at_) (hat : at_ + 4 ≤ t.size) (w : World) (hI : Indexed w X b) :
    Calls Try.prog 52 #[.pointer (some ⟨X, 0, none⟩), .string t, .int .i64 (done : Int), .int .i64 (at_ : Int)] w fun e w' => ∃ ahead place size : Nat, e = .returned (.tuple #[.int .i64 (ahead : Int), .agg #[.string ⟨#[]⟩, .int .i64 (place : Int), .int .i64 (size : Int)]]) ∧ (Lg b t done at_ ahead place size ∧ Whole b t done at_ ahead place size) ∧ Q w w' := by
  obtain ⟨F, N, nb, m, f, g, ⟨hnb, hm⟩, hw, hf1⟩ := hI
  have hez : (t.extract at_ t.size).size = t.size - at_ := by simp
  have SC : Hid _ := fun (W : World) (h : W.cell? ⟨X, 1, none⟩ = some (.int .i64 (nb : Int))) => slot_any nb hnb X (t.extract at_ t.size) (by omega) W h
  have hsl : slotOf nb (t.extract at_ t.size) < m := by rw [hm]; exact slotOf_lt nb hnb _
  have HF : Hid (b = t → done = 0 → at_ = 0 → f (slotOf nb (t.extract at_ t.size)) = 1) := fun e _ e2 => by
    subst e
    subst e2
    rw [show b.extract 0 b.size = b by simp]
    exact hf1 (by omega)
  clear hm hf1
  generalize slotOf nb (t.extract at_ t.size) = sl at *
  obtain ⟨W0, hW0⟩ : ∃ W0, W0 = (w.alloc (.cells #[.string ⟨#[]⟩, .int .i64 0, .int .i64 0] 53)).alloc (.cells #[.string ⟨#[]⟩, .int .i64 0, .int .i64 0] 53) := ⟨_, rfl⟩
  have hQ0 : Q w W0 := by rw [hW0]; exact ((Q.refl w).alloc _ _).alloc _ _
  have hV9 : Var3 W0 w.heap.size (.string ⟨#[]⟩) (.int .i64 0) (.int .i64 0) := by rw [hW0]; exact (var3_new w _ _ _ _).kept ((Q.refl _).alloc _ _)
  have hV11 : Var3 W0 (w.heap.size + 1) (.string ⟨#[]⟩) (.int .i64 0) (.int .i64 0) := by
    have := var3_new (w.alloc (.cells #[.string ⟨#[]⟩, .int .i64 0, .int .i64 0] 53)) (.string ⟨#[]⟩) (.int .i64 0) (.int .i64 0) 53
    rw [World.size_alloc] at this
    rw [hW0]; exact this
  have hw0 := hw.kept hQ0
  have s0 := hw0.c2
  have s1 := hw0.cf sl hsl
  have s9 := hw0.c1
  have hslI : (sl : Int) < (m : Int) := by omega
  have hatI : (at_ : Int) ≤ (t.size : Int) := by omega
  have hatN : at_ ≤ t.size := by omega
  have hdI : (done : Int) ≤ (at_ : Int) := by omega
  rw [hW0] at s0 s1
  have SC2 : Hid _ := fun (_ : Unit) => SC.out W0.drew (kept_cell s9 (Q.refl _).drew)
  clear s9
  rw [hW0] at SC2
  go_enter Try.func52, Try.ntmps52
  go_upto_region 2 with fail
  go_region_held3 (fun w' => w'.cell? ⟨X, 2, none⟩ = some (.slice (some ⟨F, 0, none⟩) m m) ∧ w'.cell? ⟨F, sl, none⟩ = some (.int .u16 (f sl : Int))) (first | exact ⟨s0, s1⟩ | exact hS4)
    (first | (go_at_call 85; refine (SC2.out ()).mono ?_; rintro e w1 ⟨rfl, q1⟩; have hS4 : w1.cell? ⟨X, 2, none⟩ = some (.slice (some ⟨F, 0, none⟩) m m) ∧ w1.cell? ⟨F, sl, none⟩ = some (.int .u16 (f sl : Int)) := ⟨kept_cell s0 (q_undrew q1), kept_cell s1 (q_undrew q1)⟩))
  rw [← hW0] at q1
  have hQ1 : Q w w1 := hQ0.trans (q_undrew q1)
  have hU9 := hV9.kept (q_undrew q1)
  have hU11 := hV11.kept (q_undrew q1)
  have hfl := hw.bf sl
  have HFW : Hid (IntKind.i64.wrap (f sl : Int) = (f sl : Int)) := (by rw [IntKind.wrap_i64]; omega : IntKind.i64.wrap (f sl : Int) = (f sl : Int))
  clear s0 s1 hS4 SC SC2 hw0 hV9 hV11 hQ0 q1 hW0
  go_wp2_with fail
  have HL0 : Hid (Lg b t done at_ 0 0 0) := Lg.start b t done at_ hatN
  have HLo : Hid _ := fun (place back sb : Nat) (hp : place ≤ b.size) => Lg.of (b := b) (t := t) (done := done) (at_ := at_) (place := place) (back := back) (sb := sb) hp hd hatN
  have SE : Hid _ := fun (p : Nat) (w' : World) => sameEnd_any (b.extract 0 p) (t.extract done at_) (by simp; omega) (by simp; omega) w'
  have SB : Hid _ := fun (p : Nat) (w' : World) => sameBegin_any (b.extract p b.size) (t.extract at_ t.size) (by simp; omega) (by simp; omega) w'
  go_loopw [10, 12, 13] (fun ta tk tn wr => ∃ ahead place size link n : Nat, ta = .int .i64 (ahead : Int) ∧ tk = .int .i64 (link : Int) ∧ tn = .int .i64 (n : Int) ∧ link ≤ b.size ∧ n ≤ 16 ∧ Q w wr ∧ Var3 wr w.heap.size (.string ⟨#[]⟩) (.int .i64 0) (.int .i64 0) ∧ Var3 wr (w.heap.size + 1) (.string ⟨#[]⟩) (.int .i64 (place : Int)) (.int .i64 (size : Int)) ∧ Hid (Lg b t done at_ ahead place size) ∧ Hid (b = t → done = 0 → at_ = 0 → (n = 0 ∧ link = 1 ∧ size = 0) ∨ (ahead = 0 ∧ place = 0 ∧ size = b.size))) (fun _ _ tn _ => 16 - (intOf tn).toNat)
  case atStart => exact ⟨0, 0, 0, f sl, 0, rfl, congrArg (Value.int .i64) HFW.out, rfl, hfl, by omega, hQ1, hU9, hU11, HL0, (fun e1 e2 e3 => Or.inl ⟨rfl, HF.out e1 e2 e3, rfl⟩ : b = t → done = 0 → at_ = 0 → (0 = 0 ∧ f sl = 1 ∧ 0 = 0) ∨ (0 = 0 ∧ 0 = 0 ∧ 0 = b.size))⟩
  case round =>
    obtain ⟨ahead, place0, size0, link, n, rfl, rfl, rfl, hlk, hn16, hq, hv9, hv11, hlg, hwh⟩ := hrel
    by_cases hgo : 0 < link ∧ n < 16
    · obtain ⟨hl0, hn⟩ := hgo
      obtain ⟨p, hp⟩ : ∃ p, link = p + 1 := ⟨link - 1, by omega⟩
      have hpb : p < b.size := by omega
      have hlI : (link : Int) - 1 = (p : Int) := by omega
      have HP : Hid (link = p + 1) := hp
      clear hp
      have hwr := hw.kept hq
      have s1 := hwr.c0
      have hpI : (p : Int) ≤ (b.size : Int) := by omega
      have SEp : Hid _ := fun (_ : Unit) => SE.out p wr.drew
      have hl0I : (0 : Int) < (link : Int) := by omega
      have hnI : (n : Int) < 16 := by omega
      go_upto_region 7 with fail
      go_region_held3 (fun w' => w'.cell? ⟨X, 0, none⟩ = some (.string b)) (first | exact s1 | exact hS4)
        (first | (go_at_call 86; refine (SEp.out ()).mono ?_; rintro e w2 ⟨back, rfl, ⟨k1, k2, k3⟩, q2⟩; have hS4 : w2.cell? ⟨X, 0, none⟩ = some (.string b) := kept_cell s1 (q_undrew q2)))
      have K3 : Hid _ := k3
      have K1 : Hid _ := k1
      have K2 : Hid _ := k2
      have SBp : Hid _ := fun (_ : Unit) => SB.out p w2.drew
      have hbk : back ≤ 4096 := by have h1 := k1; simp at h1; omega
      clear k1 k2 k3 SEp
      go_upto_region 8 with fail
      go_region_held3 (fun w' => w'.cell? ⟨X, 0, none⟩ = some (.string b)) (first | exact hS4 | exact hS5)
        (first | (go_at_call 87; refine (SBp.out ()).mono ?_; rintro e w3 ⟨sb, rfl, ⟨m1, m2, m3, m4⟩, q3⟩; have hS5 : w3.cell? ⟨X, 0, none⟩ = some (.string b) := kept_cell hS4 (q_undrew q3); have hsb : sb ≤ 4096 := (by have h1 := m1; simp at h1; omega); have hws : IntKind.i64.wrap ((back : Int) + (sb : Int)) = (back : Int) + (sb : Int) := (by rw [IntKind.wrap_i64]; omega)))
      obtain ⟨hnew, hbp⟩ := HLo.out p back sb (by omega) K1.out K2.out K3.out m1 m2 m3
      have hqs : Q wr w3 := (q_undrew q2).trans (q_undrew q3)
      have hv9' := hv9.kept hqs
      have hv11' := hv11.kept hqs
      have hwr3 := hwr.kept hqs
      have hq3 := hq.trans hqs
      have u2 := hv11'.c2
      have gn := hwr3.c3
      have gp := hwr3.cg p hpb
      have hgp := hwr3.bg p
      have hpI2 : (p : Int) < (b.size : Int) := by omega
      have HNew : Hid _ := hnew
      have HM4 : Hid _ := m4
      have hz0 := hlg.out.h3
      have hz1 := hnew.h3
      clear s1 hS4 hS5 q2 q3 hv9 hv11 hwr hq m1 m2 m3 m4 hnew hqs
      by_cases hgt : size0 < back + sb
      · have hgtI : (size0 : Int) < (back : Int) + (sb : Int) := by omega
        have TS : Hid _ := takeStep_any ((p : Int) - (back : Int)) ((back : Int) + (sb : Int))
        have hpbI : (0 : Int) ≤ (p : Int) - (back : Int) := by omega
        have HWn : Hid (b = t → done = 0 → at_ = 0 → (n + 1 = 0 ∧ g p = 1 ∧ back + sb = 0) ∨ (back = 0 ∧ p - back = 0 ∧ back + sb = b.size)) := fun e1 e2 e3 => Or.inr (by
          have h5 := HNew.out.h1
          have h6 := HNew.out.h4
          rcases hwh.out e1 e2 e3 with ⟨_, hlk1, _⟩ | ⟨_, _, hsz⟩
          · have hp1 := HP.out
            have hp0 : p = 0 := by omega
            have hm := HM4.out (by rw [hp0, e3, e1])
            rw [hp0] at hm
            have : (b.extract 0 b.size).size = b.size := by simp
            omega
          · have : t.size = b.size := by rw [e1]
            omega)
        go_wp2_with fail
        refine (TS.out _).mono ?_
        rintro e w4 ⟨rfl, q4⟩
        have hy9 := hv9'.kept q4
        have hy11 := hv11'.kept q4
        have y0 := hy11.c0
        have y1 := hy11.c1
        have y2 := hy11.c2
        have y3 := hy11.f0
        have y4 := hy11.f1
        have y5 := hy11.f2
        have hset := hy11.set (.string ⟨#[]⟩) (.int .i64 ((p : Int) - (back : Int))) (.int .i64 ((back : Int) + (sb : Int)))
        have hset9 := hy9.other (C := w.heap.size + 1) (by omega) (.string ⟨#[]⟩) (.int .i64 ((p : Int) - (back : Int))) (.int .i64 ((back : Int) + (sb : Int)))
        have hq5 := (hq3.trans q4).set3 (B := w.heap.size + 1) (by omega) (.string ⟨#[]⟩) (.int .i64 ((p : Int) - (back : Int))) (.int .i64 ((back : Int) + (sb : Int)))
        have hwr5 := hw.kept hq5
        have gn5 := hwr5.c3
        have gp5 := hwr5.cg p hpb
        clear hv9' hv11' hwr3 hq3 u2 gn gp q4 hy9 hy11
        go_wp2_with fail
        go_roundw
        case rel => exact ⟨back, p - back, back + sb, g p, n + 1, by go_num, by go_num, by go_num, hgp, by omega, hq5, hset9, by rw [show ((p - back : Nat) : Int) = (p : Int) - (back : Int) by omega, show ((back + sb : Nat) : Int) = (back : Int) + (sb : Int) by omega]; exact hset, HNew, HWn⟩
        case measure => simp [intOf]; omega
      · have hgtI : (back : Int) + (sb : Int) ≤ (size0 : Int) := by omega
        have HWn : Hid (b = t → done = 0 → at_ = 0 → (n + 1 = 0 ∧ g p = 1 ∧ size0 = 0) ∨ (ahead = 0 ∧ place0 = 0 ∧ size0 = b.size)) := fun e1 e2 e3 => Or.inr (by
          rcases hwh.out e1 e2 e3 with ⟨_, hlk1, hs0⟩ | h
          · have hp1 := HP.out
            have hp0 : p = 0 := by omega
            have hm := HM4.out (by rw [hp0, e3, e1])
            rw [hp0] at hm
            have : (b.extract 0 b.size).size = b.size := by simp
            have : t.size = b.size := by rw [e1]
            omega
          · exact h)
        go_wp2_with fail
        go_roundw
        case rel => exact ⟨ahead, place0, size0, g p, n + 1, by go_num, by go_num, by go_num, hgp, by omega, hq3, hv9', hv11', hlg, HWn⟩
        case measure => simp [intOf]; omega
    · have HWh : Hid (Whole b t done at_ ahead place0 size0) := fun e1 e2 e3 => by
        rcases hwh.out e1 e2 e3 with ⟨h1, h2, _⟩ | h
        · exact absurd ⟨by omega, by omega⟩ hgo
        · exact h
      by_cases hl0 : link = 0
      · subst hl0
        clear hwh hgo
        have z0 := hv11.c0
        have z1 := hv11.c1
        have z2 := hv11.c2
        have y0 := hv9.c0
        have y1 := hv9.c1
        have y2 := hv9.c2
        have y3 := hv9.f0
        have y4 := hv9.f1
        have y5 := hv9.f2
        have hset := hv9.set (.string ⟨#[]⟩) (.int .i64 (place0 : Int)) (.int .i64 (size0 : Int))
        have k0 := hset.c0
        have k1 := hset.c1
        have k2 := hset.c2
        have hq5 := hq.set3 (B := w.heap.size) (Nat.le_refl _) (.string ⟨#[]⟩) (.int .i64 (place0 : Int)) (.int .i64 (size0 : Int))
        clear hv9 hv11
        go_wp2_with fail
        go_region
        all_goals
          go_wp2_with fail
          refine bodyPost_ret (v := .tuple #[.int .i64 (ahead : Int), .agg #[.string ⟨#[]⟩, .int .i64 (place0 : Int), .int .i64 (size0 : Int)]]) (by simp [results, Try.results52, go_sem, k0, k1, k2]) rfl ?_
          exact ⟨ahead, place0, size0, rfl, ⟨hlg.out, HWh.out⟩, hq5.trans (Q.refl _).drew⟩
      · have hl1 : 0 < link := by omega
        have hn1 : n = 16 := by omega
        have hl1I : (0 : Int) < (link : Int) := by omega
        subst hn1
        clear hwh hgo
        have z0 := hv11.c0
        have z1 := hv11.c1
        have z2 := hv11.c2
        have y0 := hv9.c0
        have y1 := hv9.c1
        have y2 := hv9.c2
        have y3 := hv9.f0
        have y4 := hv9.f1
        have y5 := hv9.f2
        have hset := hv9.set (.string ⟨#[]⟩) (.int .i64 (place0 : Int)) (.int .i64 (size0 : Int))
        have k0 := hset.c0
        have k1 := hset.c1
        have k2 := hset.c2
        have hq5 := hq.set3 (B := w.heap.size) (Nat.le_refl _) (.string ⟨#[]⟩) (.int .i64 (place0 : Int)) (.int .i64 (size0 : Int))
        clear hv9 hv11
        go_wp2_with fail
        go_region
        all_goals
          go_wp2_with fail
          refine bodyPost_ret (v := .tuple #[.int .i64 (ahead : Int), .agg #[.string ⟨#[]⟩, .int .i64 (place0 : Int), .int .i64 (size0 : Int)]]) (by simp [results, Try.results52, go_sem, k0, k1, k2]) rfl ?_
          exact ⟨ahead, place0, size0, rfl, ⟨hlg.out, HWh.out⟩, hq5.trans (Q.refl _).drew⟩
end Go.Proofs.Ytekdenkllipehaa
