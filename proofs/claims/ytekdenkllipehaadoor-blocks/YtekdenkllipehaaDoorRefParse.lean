import Derived.Test.YtekdenkllipehaaDoorBlkEnd
import Derived.Test.YtekdenkllipehaaDoorParseM
import Derived.Deep.RegionHeld3
import Derived.Deep.DeepCutAuto
namespace Go.Proofs.YtekdenkllipehaaDoor
open Go.RowKit

/-- Build's answer, 'sl' being the seal. -/
def builtAs (sl : List UInt8 → ByteArray) (o : Option (List UInt8)) : Ending :=
  match o with
  | none => .returned (.tuple #[.string ⟨#[]⟩, .int .i64 6])
  | some t => .returned (.tuple #[.string (sl t), .int .i64 0])

set_option maxRecDepth 100000 in
set_option maxHeartbeats 1000000 in
theorem refParse_open (s T : ByteArray) (hT : T.size ≤ 140737488351232) (hU : ∀ w, Calls Tryd.prog 11 #[.string s] w fun e w' => e = .returned (.tuple #[.string T, .int .i64 0]) ∧ Q w w')
    (sl : List UInt8 → ByteArray) (hsl : ∀ t, sl t = s ↔ t = T.data.toList)
    (hB : ∀ (l : List Rec) (ao : Option Addr) (cap base : Nat) (w : World), (∀ r ∈ l, r.Wf) → l.length ≤ 65 → w.ownsRow base 30 4 (.slice ao l.length cap) l.length (recCells l) →
      Calls Tryd.prog 14 #[.slice ao l.length cap] w fun e w' => e = builtAs sl (plainText l) ∧ Q w w') (w : World) :
    Calls Tryd.prog 17 #[.string s] w fun e w' => Parsed T w e w' ∧ Q w w' := by
  have HU : Hid _ := hU
  have HN : Hid _ := fun (a C : Nat) (bad : Bool) (w' : World) => scanNum T hT a C bad w'
  have HX : Hid _ := fun (a C n : Nat) (bad : Bool) (hn : n < 72057594037927936) (ha : a ≤ T.size) (w' : World) => scanTxt T hT a C n bad hn ha w'
  have HL : Hid (T.data.toList.length = T.size) := (by simp : T.data.toList.length = T.size)
  have HSL : Hid _ := hsl
  have HB : Hid _ := hB
  clear hU hsl hB
  obtain ⟨n, a0, b0, h0⟩ : ∃ n a0 b0, numAt T.data.toList 0 false = (n, a0, b0) := ⟨_, _, _, rfl⟩
  have hF0 := follows_start h0
  have hl0 := numAt_le (T := T.data.toList) (a := 0) (bad := false) (by omega)
  rw [h0, HL.out] at hl0
  have HF0 : Hid _ := hF0
  have HN0 : Hid (∀ (C : Nat) (w' : World), ScanAt w' C T 0 false → Calls Tryd.prog 29 #[.pointer (some ⟨C, 0, none⟩)] w' fun e w'' => e = .returned (.int .i64 (n : Int)) ∧ ScanAt w'' C T a0 b0 ∧ w'.grownBy w'' (some C)) := fun C w' h => by
    have := HN.out 0 C false w' h
    rw [h0] at this
    exact this
  clear h0 hF0
  obtain ⟨hla, hln⟩ := hl0
  simp only at hla hln
  go_enter Tryd.func17, Tryd.ntmps17
  go_wp2_with fail
  refine (HU.out _).mono ?_
  rintro e w1 ⟨rfl, q1⟩
  have hS1 : ScanAt (w1.alloc (.cells #[.string T, .int .i64 0, .bool false] 54)) w1.heap.size T 0 false := ⟨by simp, by simp, by simp, by simp, by simp, by simp⟩
  go_wp2_with fail
  refine (HN0.out _ _ hS1).mono ?_
  rintro e w2 ⟨rfl, hS2, g2⟩
  have hP2 : Psg w1 w1.heap.size T a0 b0 [] none 0 w2 := ⟨((Below.refl _ w1).alloc (Nat.le_refl _) _).grown g2 (by simp) (fun k hk => by simp at hk; omega), Nat.le_refl _, hS2, World.ownsRow_nil _ _ _ _⟩
  clear hS1 hS2 g2
  go_wp2_with fail
  go_loopw [8, 9, 10] (fun tl tk ti wr => ∃ (i a : Nat) (bad : Bool) (l : List Rec) (ao : Option Addr) (cap : Nat) (last : ByteArray), tl = .slice ao l.length cap ∧ tk = .string last ∧ ti = .int .i64 (i : Int) ∧ i ≤ 65 ∧ a ≤ T.size ∧ last.size ≤ a ∧ Psg w1 w1.heap.size T a bad l ao cap wr ∧ l.length ≤ 65 ∧ Hid (l.length = i) ∧ Hid (Follows T.data.toList n i a bad last.data.toList l) ∧ Hid (∀ r ∈ l, r.Wf)) (fun _ _ ti _ => 65 - (intOf ti).toNat)
  case atStart => exact ⟨0, a0, b0, [], none, 0, ⟨#[]⟩, rfl, rfl, rfl, by omega, hla, Nat.zero_le _, hP2, by simp, rfl, HF0, (fun r hr => by simp at hr : ∀ r ∈ ([] : List Rec), r.Wf)⟩
  case round =>
    obtain ⟨i, a, bad, l, ao, cap, last, rfl, rfl, rfl, hi, ha, hla2, hP, hll, hli, hF, hWF⟩ := hrel
    by_cases hgo : i < n ∧ i < 65 ∧ bad = false
    · obtain ⟨g1, g2, rfl⟩ := hgo
      have c2 := hP.scan.c2
      have hiI : (i : Int) < (n : Int) := by omega
      have hi65 : (i : Int) < 65 := by omega
      obtain ⟨k, a1, b1, h1⟩ : ∃ k a1 b1, numAt T.data.toList a false = (k, a1, b1) := ⟨_, _, _, rfl⟩
      have hk1 := numAt_le (T := T.data.toList) (a := a) (bad := false) (by rw [HL.out]; exact ha)
      rw [h1, HL.out] at hk1
      obtain ⟨ha1, hkb⟩ := hk1
      simp only at ha1 hkb
      have N1 : Hid _ := fun (_ : Unit) => HN.out a _ false wr hP.scan
      rw [h1] at N1
      simp only at N1
      by_cases hlong : last.size < k
      · have E : Hid (∀ rs, plainText rs ≠ some T.data.toList) := follows_stop hF.out g1 (by
          unfold readAt
          rw [h1]
          simp only
          rw [if_pos (by simpa using hlong)])
        have hlI : (last.size : Int) < (k : Int) := by omega
        clear h1
        go_wp2_with fail
        refine (N1.out ()).mono ?_
        rintro e v1 ⟨rfl, sc1, gr1⟩
        have hP1 := hP.next gr1 sc1
        go_wp2_with fail
        go_ret2
        exact ⟨Or.inr ⟨rfl, E.out⟩, q1.trans hP1.q⟩
      · obtain ⟨m, a2, b2, h2⟩ : ∃ m a2 b2, numAt T.data.toList a1 b1 = (m, a2, b2) := ⟨_, _, _, rfl⟩
        have hk2 := numAt_le (T := T.data.toList) (a := a1) (bad := b1) (by rw [HL.out]; exact ha1)
        rw [h2, HL.out] at hk2
        obtain ⟨ha2, hmb⟩ := hk2
        simp only at ha2 hmb
        have hlI : (k : Int) ≤ (last.size : Int) := by omega
        go_wp2_with fail
        refine (N1.out ()).mono ?_
        rintro e v1 ⟨rfl, sc1, gr1⟩
        have hP1 := hP.next gr1 sc1
        have N2 : Hid _ := fun (_ : Unit) => HN.out a1 _ b1 v1 hP1.scan
        rw [h2] at N2
        simp only at N2
        go_wp2_with fail
        refine (N2.out ()).mono ?_
        rintro e v2 ⟨rfl, sc2, gr2⟩
        have hP2 := hP1.next gr2 sc2
        obtain ⟨tt, a3, b3, h3⟩ : ∃ tt a3 b3, txtAt T.data.toList m a2 b2 = (tt, a3, b3) := ⟨_, _, _, rfl⟩
        have hk3 := txtAt_le (T := T.data.toList) (n := m) (a := a2) (bad := b2) (by rw [HL.out]; exact ha2)
        have hk4 := txtAt_len (T := T.data.toList) (n := m) (a := a2) (bad := b2)
        rw [h3, HL.out] at hk3
        rw [h3] at hk4
        obtain ⟨ha3, htl⟩ := hk3
        simp only at ha3 htl hk4
        have X3 : Hid (∀ w' : World, ScanAt w' w1.heap.size T a2 b2 → Calls Tryd.prog 30 #[.pointer (some ⟨w1.heap.size, 0, none⟩), .int .i64 (m : Int)] w' fun e w'' => e = .returned (.string ⟨tt.toArray⟩) ∧ ScanAt w'' w1.heap.size T a3 b3 ∧ w'.grownBy w'' (some w1.heap.size)) := fun w' h => by
          have := HX.out a2 w1.heap.size m b2 hmb ha2 w' h
          rw [h3] at this
          exact this
        have hts : (⟨tt.toArray⟩ : ByteArray).size = tt.length := rfl
        have hadd : ∀ W, (Op.stringOp .add (last.extract 0 k) ⟨tt.toArray⟩).run Tryd.prog W = .ok (.string (last.extract 0 k ++ ⟨tt.toArray⟩)) W := fun W => run_string_add_sum W _ _ (by rw [hts]; simp; omega)
        have hsA := (hP2.kept (Q.refl _).drew).scan
        have hsB := (hP2.kept ((Q.refl v2).drew.alloc #[.string ⟨#[]⟩, .int .i64 0, .int .i64 0, .string ⟨#[]⟩] 30)).scan
        have hv2 := hP2.scan.top
        obtain ⟨key, hkey⟩ : ∃ key, key = last.extract 0 k ++ ⟨tt.toArray⟩ := ⟨_, rfl⟩
        rw [← hkey] at hadd
        have HKey : Hid _ := hkey
        generalize hTA : (⟨tt.toArray⟩ : ByteArray) = TA at *
        have HTA : Hid _ := hTA
        clear hkey hTA hts
        go_upto_region 15 with fail
        go_cut [13] (fun x wx => ∃ R : Nat, x = .pointer (some ⟨R, 0, none⟩) ∧ v2.heap.size ≤ R ∧ Psg w1 w1.heap.size T a3 b3 l ao cap wx ∧ Var4 wx R (.string key) (.int .i64 0) (.int .i64 0) (.string ⟨#[]⟩))
        case first =>
          go_region_held3 (fun _ => True) (exact trivial)
            (first | (go_at_call 30; refine (X3.out _ ?_).mono ?_; (first | exact hsA | exact hsB); rintro e v3 ⟨rfl, sc3, gr3⟩; try (have hV4 : Var4 v3 v2.heap.size (.string ⟨#[]⟩) (.int .i64 0) (.int .i64 0) (.string ⟨#[]⟩) := (var4_new v2.drew (.string ⟨#[]⟩) (.int .i64 0) (.int .i64 0) (.string ⟨#[]⟩) 30).grown gr3 (by simp; omega); have r0 := hV4.c0; have r1 := hV4.c1; have r2 := hV4.c2; have r3 := hV4.c3; have r4 := hV4.fr 0; have r5 := hV4.fr 1; have r6 := hV4.fr 2; have r7 := hV4.fr 3)))
          · go_wp2_with fail
            go_meet
            case rel =>
              have hp3 := ((hP2.kept (Q.refl _).drew).next gr3 sc3).kept ((Q.refl v3).alloc #[.string key, .int .i64 0, .int .i64 0, .string ⟨#[]⟩] 30)
              exact ⟨v3.heap.size, rfl, gr3.size, hp3, var4_new v3 _ _ _ _ _⟩
          · go_wp2_with fail
            go_meet
            case rel =>
              have hp3 := (hP2.kept ((Q.refl v2).drew.alloc #[.string ⟨#[]⟩, .int .i64 0, .int .i64 0, .string ⟨#[]⟩] 30)).next gr3 sc3
              have hne : ∀ k, (Value.slice ao l.length cap).ownBlock = some k → k ≠ v2.heap.size := fun k hk => by have := (hP2.own.lt k hk).2; omega
              exact ⟨v2.heap.size, rfl, Nat.le_refl _, hp3.other (set4_grown v3 v2.heap.size _ _ _ _) hv2 hne, hV4.set _ _ _ _⟩
        case rest =>
          obtain ⟨R, rfl, hR, hP3, hV3⟩ := hcut
          have hCR : w1.heap.size < R := Nat.lt_of_lt_of_le hv2 hR
          have hkR : ∀ k, (Value.slice ao l.length cap).ownBlock = some k → k ≠ R := fun k hk => by have := (hP2.own.lt k hk).2; omega
          obtain ⟨st, a4, b4, h4⟩ : ∃ st a4 b4, numAt T.data.toList a3 b3 = (st, a4, b4) := ⟨_, _, _, rfl⟩
          have hk5 := numAt_le (T := T.data.toList) (a := a3) (bad := b3) (by rw [HL.out]; exact ha3)
          rw [h4, HL.out] at hk5
          obtain ⟨ha4, hstb⟩ := hk5
          simp only at ha4 hstb
          have N4 : Hid _ := fun (_ : Unit) => HN.out a3 _ b3 wc hP3.scan
          rw [h4] at N4
          simp only at N4
          go_wp2_with fail
          refine (N4.out ()).mono ?_
          rintro e v4 ⟨rfl, sc4, gr4⟩
          have hV4 := hV3.grown gr4 (by simp; omega)
          have hP4 := (hP3.next gr4 sc4).other (set_grown v4 R 1 (.int .i64 (st : Int))) hCR hkR
          have r1 := hV4.c1
          have r2 := hV4.fr 1
          have hV5 := hV4.set1 (.int .i64 (st : Int))
          obtain ⟨kd, a5, b5, h5⟩ : ∃ kd a5 b5, txtAt T.data.toList 1 a4 b4 = (kd, a5, b5) := ⟨_, _, _, rfl⟩
          have hk6 := txtAt_le (T := T.data.toList) (n := 1) (a := a4) (bad := b4) (by rw [HL.out]; exact ha4)
          rw [h5, HL.out] at hk6
          obtain ⟨ha5, -⟩ := hk6
          simp only at ha5
          have X5 : Hid _ := fun (_ : Unit) => HX.out a4 w1.heap.size 1 b4 (by omega) ha4 _ hP4.scan
          rw [h5] at X5
          simp only at X5
          rw [show ((1 : Nat) : Int) = 1 from rfl] at X5
          go_wp2_with fail
          refine (X5.out ()).mono ?_
          rintro e v5 ⟨rfl, sc5, gr5⟩
          have hP5 := hP4.next gr5 sc5
          have hV6 := hV5.grown gr5 (by simp; omega)
          go_upto_if 68 with fail
          go_cut [14] (fun x wx => x = .string ⟨kd.toArray⟩ ∧ Psg w1 w1.heap.size T a5 b5 l ao cap wx ∧ Var4 wx R (.string key) (.int .i64 (st : Int)) (.int .i64 (kindOf kd)) (.string ⟨#[]⟩))
          case first =>
            cases kd with
            | nil =>
              go_wp2_with fail
              go_meet
              case rel => exact ⟨rfl, hP5, hV6⟩
            | cons kb ks =>
              have hks : (1 : Nat) ≤ (⟨(kb :: ks).toArray⟩ : ByteArray).size := by simp [ByteArray.size]
              have hix := index_first kb ks
              have hne : ((⟨(kb :: ks).toArray⟩ : ByteArray).toList == []) = false := by rw [ByteArray.toList_eq, beq_eq_false_iff_ne]; simp
              have hkl := kb.toNat_lt
              have r3 := hV6.c2
              have r4 := hV6.fr 2
              have hV7 := hV6.set2 (.int .i64 (kb.toNat : Int))
              have hP6 := hP5.other (set_grown v5 R 2 (.int .i64 (kb.toNat : Int))) hCR hkR
              have HX5 : Hid _ := h5
              clear h5
              generalize hKD : (⟨(kb :: ks).toArray⟩ : ByteArray) = KD at *
              have HKD : Hid _ := hKD
              clear hKD
              go_wp2_with fail
              go_meet
              case rel => exact ⟨rfl, hP6, hV7⟩
          case rest =>
            obtain ⟨rfl, hP6, hV7⟩ := hcut
            obtain ⟨z, a6, b6, h6⟩ : ∃ z a6 b6, numAt T.data.toList a5 b5 = (z, a6, b6) := ⟨_, _, _, rfl⟩
            have hk7 := numAt_le (T := T.data.toList) (a := a5) (bad := b5) (by rw [HL.out]; exact ha5)
            rw [h6, HL.out] at hk7
            obtain ⟨ha6, hzb⟩ := hk7
            simp only at ha6 hzb
            obtain ⟨bd, a7, b7, h7⟩ : ∃ bd a7 b7, txtAt T.data.toList z a6 b6 = (bd, a7, b7) := ⟨_, _, _, rfl⟩
            have hk8 := txtAt_le (T := T.data.toList) (n := z) (a := a6) (bad := b6) (by rw [HL.out]; exact ha6)
            rw [h7, HL.out] at hk8
            obtain ⟨ha7, hbl⟩ := hk8
            simp only at ha7 hbl
            have hge1 := numAt_ge (T := T.data.toList) (a := a) (bad := false)
            have hge2 := numAt_ge (T := T.data.toList) (a := a1) (bad := b1)
            have hge4 := numAt_ge (T := T.data.toList) (a := a3) (bad := b3)
            have hge5 := txtAt_len (T := T.data.toList) (n := 1) (a := a4) (bad := b4)
            have hge6 := numAt_ge (T := T.data.toList) (a := a5) (bad := b5)
            have hge7 := txtAt_len (T := T.data.toList) (n := z) (a := a6) (bad := b6)
            rw [h1] at hge1
            rw [h2] at hge2
            rw [h4] at hge4
            rw [h5] at hge5
            rw [h6] at hge6
            rw [h7] at hge7
            simp only at hge1 hge2 hge4 hge5 hge6 hge7
            have hkeyE : key = ⟨(last.data.toList.take k ++ tt).toArray⟩ := by
              rw [HKey.out, ← HTA.out]
              apply WideShapes.bytes_inj
              simp
            have hkl : key.size ≤ a7 := by
              have hz : key.size = (last.data.toList.take k ++ tt).length := by
                rw [hkeyE]
                exact List.size_toArray ..
              have hzl : last.data.toList.length = last.size := Array.length_toList
              rw [hz, List.length_append, List.length_take, hzl]
              omega
            obtain ⟨BD, hBD⟩ : ∃ BD : ByteArray, BD = ⟨bd.toArray⟩ := ⟨_, rfl⟩
            have HF2 : Hid (Follows T.data.toList n (i + 1) a7 b7 key.data.toList (l ++ [⟨key, (st : Int), kindOf kd, BD⟩])) := by
              have hread : readAt T.data.toList last.data.toList a false = some (⟨key, (st : Int), kindOf kd, BD⟩, a7, b7) := by
                unfold readAt
                rw [h1]
                simp only
                rw [if_neg (by simpa using hlong), h2]
                simp only [h3, h4, h5, h6, h7]
                rw [hkeyE, hBD]
              exact follows_next hF.out g1 hread
            have HWN : Hid (∀ r ∈ l ++ [(⟨key, (st : Int), kindOf kd, BD⟩ : Rec)], r.Wf) := by
              intro r hr
              rcases List.mem_append.1 hr with hr | hr
              · exact hWF.out r hr
              · obtain rfl := List.mem_singleton.1 hr
                refine ⟨Nat.le_trans hkl (Nat.le_trans ha7 hT), ?_, ?_, ?_⟩
                · rw [hBD]
                  have : (⟨bd.toArray⟩ : ByteArray).size = bd.length := List.size_toArray ..
                  rw [this]
                  exact Nat.le_trans hbl hT
                · exact wf_small (by simp) (by simp only; omega)
                · cases kd with
                  | nil => rfl
                  | cons kb ks =>
                    have := kb.toNat_lt
                    exact wf_small (by simp [kindOf]) (by simp only [kindOf]; omega)
            have X7 : Hid (∀ w' : World, ScanAt w' w1.heap.size T a6 b6 → Calls Tryd.prog 30 #[.pointer (some ⟨w1.heap.size, 0, none⟩), .int .i64 (z : Int)] w' fun e w'' => e = .returned (.string BD) ∧ ScanAt w'' w1.heap.size T a7 b7 ∧ w'.grownBy w'' (some w1.heap.size)) := fun w' h => by
              have := HX.out a6 w1.heap.size z b6 hzb ha6 w' h
              rw [h7] at this
              rw [hBD]
              exact this
            have N6 : Hid _ := fun (_ : Unit) => HN.out a5 _ b5 wc hP6.scan
            rw [h6] at N6
            simp only at N6
            have HLI : Hid _ := hli.out
            generalize hKD : kindOf kd = kk at *
            clear hKD h1 h2 h3 h4 h5 h6 h7 hkeyE hBD hF hge1 hge2 hge4 hge5 hge6 hge7 hk4
            go_wp2_with fail
            refine (N6.out ()).mono ?_
            rintro e v6 ⟨rfl, sc6, gr6⟩
            have hP7 := hP6.next gr6 sc6
            have hV8 := hV7.grown gr6 (by simp; omega)
            go_wp2_with fail
            refine (X7.out _ hP7.scan).mono ?_
            rintro e v7 ⟨rfl, sc7, gr7⟩
            have hP8 := (hP7.next gr7 sc7).other (set_grown v7 R 3 (.string BD)) hCR hkR
            have hV9 := hV8.grown gr7 (by simp; omega)
            have r1 := hV9.c3
            have r2 := hV9.fr 3
            have hV10 := hV9.set3 (.string BD)
            have y0 := hV10.c0
            have y1 := hV10.c1
            have y2 := hV10.c2
            have y3 := hV10.c3
            have hown := hP8.own
            have hsz := hP8.scan.top
            obtain ⟨i1, hj, hy0, hy1, hy2⟩ := info_parts infoRecord
            go_wp2_with (at_builtin; refine wpList_append_own _ rfl (.tmp 81) (.tmp 83) 28 rfl (w1.heap.size + 1) 30 i1 (.agg #[.string ⟨#[]⟩, .int .i64 0, .int .i64 0, .string ⟨#[]⟩]) 4 48 Tryd.underlying28 hj hy0 hy1 hy2 rfl (by decide) _ _ _ rfl (hown.alloc _) ⟨v7.heap.size, 0, none⟩ 1 1 (Rec.cells ⟨key, (st : Int), kk, BD⟩) rfl rfl ?c1 ?c2 ?c3 ?c4 ?c5 ?_)
            case c1 =>
              intro j u hu
              have := rec_cells_at (v7.setCell ⟨R, 3, none⟩ (.string BD)) ⟨key, (st : Int), kk, BD⟩ 30 j u hu
              rw [show (v7.setCell ⟨R, 3, none⟩ (.string BD)).heap.size = v7.heap.size by simp] at this
              exact this
            case c2 => exact rec_cells_one _
            case c3 => unfold maxLen; omega
            case c4 => omega
            case c5 => simp at hsz ⊢; omega
            intro v' w' hown' hgrow _
            obtain ⟨ao3, cap3, hv⟩ := own_form hown'
            rw [hv] at hown'
            rw [hv]
            have hP9 := (hP8.kept ((Q.refl _).alloc #[.string key, .int .i64 (st : Int), .int .i64 kk, .string BD] 30)).push (r := ⟨key, (st : Int), kk, BD⟩) hgrow hown'
            clear hown' hgrow hown hv
            go_wp2_with fail
            go_roundw
            case rel =>
              refine ⟨i + 1, a7, b7, l ++ [(⟨key, (st : Int), kk, BD⟩ : Rec)], ao3, cap3, key, ?_⟩
              have hLI : l.length = i := HLI.out
              exact ⟨by simp, rfl, by simp, by omega, ha7, hkl, hP9, by rw [List.length_append, List.length_singleton]; omega, (by rw [List.length_append, List.length_singleton]; omega : (l ++ [(⟨key, (st : Int), kk, BD⟩ : Rec)]).length = i + 1), HF2, HWN⟩
            case measure => simp [intOf]; omega
    · have E : Hid _ := fun rs hp => follows_end hF.out hgo rs hp
      have hB1 := HB.out l ao cap _ wr hWF.out hll hP.own
      have c2 := hP.scan.c2
      have hgI : ¬ (i : Int) < (n : Int) ∨ ((i : Int) < (n : Int) ∧ ¬ (i : Int) < 65) ∨ ((i : Int) < (n : Int) ∧ (i : Int) < 65 ∧ bad = true) := by
        cases bad <;> simp at hgo ⊢ <;> omega
      have HB1 : Hid _ := fun (_ : Unit) => hB1
      clear hB1
      have HEND : Hid _ := fun (h : bad = true ∨ plainText l ≠ some T.data.toList) rs (hp : plainText rs = some T.data.toList) => show False by
        obtain ⟨rfl, hb⟩ := E.out rs hp
        rcases h with h | h
        · rw [hb] at h; exact absurd h (by simp)
        · exact h hp
      have hsz := q1.below.size
      clear E hgo
      rcases hpl : plainText l with _ | t
      · have hno : Hid _ := HEND.out (Or.inr (by rw [hpl]; simp))
        rw [hpl] at HB1
        simp only [builtAs] at HB1
        clear HEND hpl
        cases bad <;> rcases hgI with g | ⟨g, g'⟩ | ⟨g, g', h⟩
        all_goals first
          | (simp at h; done)
          | (go_wp2_with fail
             refine (HB1.out ()).mono ?_
             rintro e v1 ⟨rfl, q2⟩
             have d2 := (hP.kept q2).scan.c2
             go_wp2_with fail
             go_ret2
             exact ⟨Or.inr ⟨rfl, hno.out⟩, q1.trans (hP.q.trans q2)⟩)
      · rw [hpl] at HB1
        simp only [builtAs] at HB1
        by_cases ht : t = T.data.toList
        · rw [(HSL.out t).2 ht] at HB1
          have hee : (s.toList == s.toList) = true := by simp
          have HT2 : Hid (plainText l = some T.data.toList) := (by rw [hpl, ht] : plainText l = some T.data.toList)
          have hno : Hid (bad = true → ∀ rs, plainText rs ≠ some T.data.toList) := fun h rs hp => HEND.out (Or.inl h) rs hp
          clear ht hpl HEND
          cases bad <;> rcases hgI with g | ⟨g, g'⟩ | ⟨g, g', h⟩
          all_goals first
            | (simp at h; done)
            | (go_wp2_with fail
               refine (HB1.out ()).mono ?_
               rintro e v1 ⟨rfl, q2⟩
               have d2 := (hP.kept q2).scan.c2
               go_wp2_with fail
               go_ret2
               refine ⟨?_, q1.trans (hP.q.trans q2)⟩
               first
                 | exact Or.inl ⟨l, ao, cap, _, rfl, HT2.out, Nat.le_succ_of_le hsz, (hP.kept q2).own⟩
                 | (refine Or.inr ⟨rfl, ?_⟩; exact hno.out trivial))
        · have hne : ((sl t).toList == s.toList) = false := by
            rw [beq_eq_false_iff_ne]
            intro h
            rw [ByteArray.toList_eq, ByteArray.toList_eq] at h
            exact ht ((HSL.out t).1 (WideShapes.bytes_inj h))
          have hno : Hid _ := HEND.out (Or.inr (by rw [hpl]; exact fun h => ht (Option.some.inj h)))
          generalize sl t = u at *
          clear HEND hpl ht
          cases bad <;> rcases hgI with g | ⟨g, g'⟩ | ⟨g, g', h⟩
          all_goals first
            | (simp at h; done)
            | (go_wp2_with fail
               refine (HB1.out ()).mono ?_
               rintro e v1 ⟨rfl, q2⟩
               have d2 := (hP.kept q2).scan.c2
               go_wp2_with fail
               go_ret2
               exact ⟨Or.inr ⟨rfl, hno.out⟩, q1.trans (hP.q.trans q2)⟩)
end Go.Proofs.YtekdenkllipehaaDoor
