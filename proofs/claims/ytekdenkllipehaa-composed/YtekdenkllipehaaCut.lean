import Derived.Test.YtekdenkllipehaaGrowM
import Derived.Test.YtekdenkllipehaaPart
import Derived.Test.YtekdenkllipehaaRead
import Derived.Test.YtekdenkllipehaaLaidS
namespace Go.Proofs.Ytekdenkllipehaa
open Go.RowKit

/-- sort.SearchInts over the ends. -/
theorem search_any (A : List M.St) (hl : A.length ≤ 4096) (eo : Option Addr) (ec a : Nat) (ha : a < M.tot A) (w : World) (h : Ends w eo A) :
    Calls Try.prog 36 #[.slice eo A.length ec, .int .i64 ((a : Int) + 1)] w fun e w' => ∃ i : Nat, e = .returned (.int .i64 (i : Int)) ∧ (i < A.length ∧ M.tot (A.take i) ≤ a ∧ a < M.tot (A.take (i + 1))) ∧ Q w w' := by
  have hne : A ≠ [] := fun e => by rw [e] at ha; simp [M.tot] at ha
  rcases h with h | ⟨g, rfl, hgl, hc⟩
  · exact absurd h hne
  · have hd : ((List.range A.length).map fun k => ((M.tot (A.take (k + 1)) : Nat) : Int)).toArray.size = A.length := by simp
    have hget : ∀ i, i < A.length → ((List.range A.length).map fun k => ((M.tot (A.take (k + 1)) : Nat) : Int)).toArray[i]! = ((M.tot (A.take (i + 1)) : Nat) : Int) := fun i hi => by simp [hi]
    have hmono : ∀ x y, x ≤ y → y < A.length → ((M.tot (A.take (x + 1)) : Nat) : Int) ≤ ((M.tot (A.take (y + 1)) : Nat) : Int) := fun x y hxy _ => by have := M.tot_mono (L := A) (x + 1) (y + 1) (by omega); omega
    have hcall := Any.sort_SearchInts laysSearch g 0 ec ((List.range A.length).map fun k => ((M.tot (A.take (k + 1)) : Nat) : Int)).toArray ((a : Int) + 1) w
      (fun i hi => by rw [hd] at hi; rw [Nat.zero_add, hget i hi]; exact hc i hi) hgl (by rw [hd]; omega)
      (fun x y hxy hy hx => by
        rw [hd] at hy
        rw [hget x (by omega)] at hx
        rw [hget y hy]
        have := hmono x y hxy hy
        simp only [decide_eq_true_eq] at hx ⊢
        omega)
    rw [hd] at hcall
    refine Calls.mono hcall ?_
    rintro e w' ⟨rfl, hb⟩
    obtain ⟨i1, i2, i3⟩ := M.count_ends (fun k => ((M.tot (A.take (k + 1)) : Nat) : Int)) ((a : Int) + 1) A.length hmono
    rw [List.toList_toArray]
    generalize ((List.range A.length).map fun k => ((M.tot (A.take (k + 1)) : Nat) : Int)).countP (fun y => !decide ((a : Int) + 1 ≤ y)) = c at *
    have hcl : c < A.length := by
      rcases Nat.lt_or_ge c A.length with hlt | hge
      · exact hlt
      · have hpos : 0 < A.length := List.length_pos_iff.2 hne
        have := i2 (A.length - 1) (by omega)
        rw [show A.length - 1 + 1 = A.length by omega, List.take_length] at this
        omega
    refine ⟨c, rfl, ⟨hcl, ?_, ?_⟩, ⟨hb⟩⟩
    · by_cases h0 : c = 0
      · subst h0; simp [M.tot]
      · have := i2 (c - 1) (by omega)
        rw [show c - 1 + 1 = c by omega] at this
        omega
    · have := i3 c (Nat.le_refl _) hcl
      omega

/-- The pieces so far. -/
structure Pieces (A : List M.St) (at0 a : Nat) (C : List M.St) : Prop where
  le : at0 ≤ a
  good : M.Goods C
  flat : M.flat C = ((M.flat A).drop at0).take (a - at0)

theorem Pieces.step {A : List M.St} (hA : M.Goods A) {at0 a i skip n : Nat} {C : List M.St} {s : M.St} (h : Pieces A at0 a C) (hs : A[i]? = some s) (hk : a = M.tot (A.take i) + skip) (hn : 1 ≤ n) (hsk : skip + n ≤ s.size) : Pieces A at0 (a + n) (C ++ [s.part skip n]) ∧ (s.part skip n).size = n := by
  obtain ⟨g1, g2, g3⟩ := M.part_good (hA.get hs) hn hsk
  have hle := h.le
  have ht := M.tot_take hs
  refine ⟨⟨by omega, h.good.append (M.Goods.one g1), ?_⟩, g2⟩
  have hp := M.flat_piece hA hs (at_ := a) (n := n) (by omega) (by omega)
  rw [M.flat_append, M.flat_one, h.flat, g3, show a + n - at0 = (a - at0) + n by omega, List.take_add, List.drop_drop, show at0 + (a - at0) = a by omega, hp, hk, Nat.add_sub_cancel_left]

theorem Pieces.next {A : List M.St} (hA : M.Goods A) {a n i skip : Nat} {s : M.St} (hs : A[i]? = some s) (hk : a = M.tot (A.take i) + skip) (hn : skip + n = s.size) (hlt : a + n < M.tot A) : i + 1 < A.length ∧ M.tot (A.take (i + 1)) ≤ a + n ∧ a + n < M.tot (A.take (i + 1 + 1)) := by
  have ht := M.tot_take hs
  have hil : i < A.length := (List.getElem?_eq_some_iff.1 hs).1
  have h1 : i + 1 < A.length := by
    rcases Nat.lt_or_ge (i + 1) A.length with h | h
    · exact h
    · have : A.take (i + 1) = A := List.take_of_length_le h
      rw [this] at ht; omega
  have hs2 : A[i + 1]? = some A[i + 1] := List.getElem?_eq_getElem h1
  have ht2 := M.tot_take hs2
  have := (hA.get hs2).pos
  exact ⟨h1, by omega, by omega⟩

set_option maxRecDepth 100000 in
set_option maxHeartbeats 1000000 in
theorem cut_any2 (A : List M.St) (hg : M.Goods A) (hl : M.tot A ≤ 4096) (so eo : Option Addr) (sc ec at0 sz0 : Nat) (hz : 1 ≤ sz0) (ha : at0 + sz0 ≤ M.tot A) (w : World) (hst : Steps w so A) (hen : Ends w eo A) :
    Calls Try.prog 27 #[.agg #[.slice so A.length sc, .slice eo A.length ec], .int .i64 (at0 : Int), .int .i64 (sz0 : Int)] w fun e w' => ∃ (C : List M.St) (ao : Option Addr) (cap : Nat), (M.Goods C ∧ M.flat C = ((M.flat A).drop at0).take sz0) ∧ e = .returned (.slice ao C.length cap) ∧ Steps w' ao C ∧ Q w w' := by
  have hAl := M.length_le_tot hg
  have hat4 : (at0 : Int) ≤ 4096 := by omega
  obtain ⟨W0, hW0⟩ : ∃ W0, W0 = w.alloc (.cells #[.slice so A.length sc, .slice eo A.length ec] 46) := ⟨_, rfl⟩
  have hQ0 : Q w W0 := by rw [hW0]; exact (Q.refl w).alloc _ _
  obtain ⟨⟨X0, X1⟩, -⟩ := new2 (w := w) (w2 := W0) (by rw [hW0]; exact Q.refl _)
  have SC : Hid _ := fun (_ : Unit) => search_any A (by omega) eo ec at0 (by omega) W0 (hen.kept hQ0)
  rw [hW0] at SC
  have hst0 := hst.kept hQ0
  have hen0 := hen.kept hQ0
  have HP0 : Hid (Pieces A at0 at0 []) := ⟨Nat.le_refl _, M.Goods.nil, by rw [Nat.sub_self, List.take_zero]; rfl⟩
  have HPs : Hid _ := fun (a i skip n : Nat) (C : List M.St) (s : M.St) (h : Pieces A at0 a C) (hs : A[i]? = some s) => h.step hg (skip := skip) (n := n) hs
  have HPn : Hid _ := fun (a n i skip : Nat) (s : M.St) (hs : A[i]? = some s) => Pieces.next hg (a := a) (n := n) (skip := skip) hs
  have HTk : Hid (∀ (i : Nat) (s : M.St), A[i]? = some s → M.tot (A.take (i + 1)) = M.tot (A.take i) + s.size) := fun i s h => M.tot_take h
  have HGk : Hid (∀ (i : Nat) (s : M.St), A[i]? = some s → s.Good) := fun i s h => hg.get h
  have HTl : Hid (∀ i, M.tot (A.take i) ≤ 4096) := fun i => by have := M.tot_take_le A i; omega
  obtain ⟨i1, hj, hy0, hy1, hy2⟩ := info_parts infoStep
  generalize M.tot A = T at *
  clear hst hen hg
  go_enter Try.func27, Try.ntmps27
  go_wp2_with fail
  refine (SC.out ()).mono ?_
  rw [← hW0]
  rintro e w1 ⟨i0, rfl, hi0, q1⟩
  have x0 := kept_cell X0 q1
  have x1 := kept_cell X1 q1
  have hst1 := hst0.kept q1
  have hen1 := hen0.kept q1
  have hQ1 := hQ0.trans q1
  have hwl : w.heap.size < w1.heap.size := by have := q1.below.size; rw [hW0] at this; simp at this; omega
  clear hW0 X0 X1 hst0 hen0 q1 hQ0 SC
  go_wp2_with fail
  go_loopw [1, 2, 7, 8] (fun ta tz tl ti wr => ∃ (a z i : Nat) (C : List M.St) (ao : Option Addr) (cap : Nat), ta = .int .i64 (a : Int) ∧ tz = .int .i64 (z : Int) ∧ tl = .slice ao C.length cap ∧ ti = .int .i64 (i : Int) ∧ a + z = at0 + sz0 ∧ Grow w1 C ao cap wr ∧ Pieces A at0 a C ∧ C.length ≤ a ∧ (0 < z → i < A.length ∧ M.tot (A.take i) ≤ a ∧ a < M.tot (A.take (i + 1)))) (fun _ tz _ _ _ => (intOf tz).toNat)
  case atStart => exact ⟨at0, sz0, i0, [], none, 0, rfl, rfl, rfl, rfl, rfl, Grow.start w1, HP0.out, Nat.zero_le _, fun _ => hi0⟩
  case round =>
    obtain ⟨a, z, i, C, ao, cap, rfl, rfl, rfl, rfl, haz, hgr, hpc, hCl, hin⟩ := hrel
    by_cases hz0 : 0 < z
    · obtain ⟨hi1, hi2, hi3⟩ := hin hz0
      obtain ⟨gs, os, rfl, hgs, hcs⟩ := hst1.at hi1
      have hsi : A[i]? = some A[i] := List.getElem?_eq_getElem hi1
      have hen2 := hen1
      rcases hen2 with he | ⟨ge, rfl, hge, hce⟩
      · exact absurd he (fun e => by rw [e] at hi1; simp at hi1)
      · obtain ⟨c0, c1, c2⟩ := hcs.kept hgs hgr.below i _ hsi
        have ce := (hgr.below.cell (p := ⟨ge, i, none⟩) hge).trans (hce i hi1)
        have y0 := (hgr.below.cell (p := ⟨w.heap.size, 0, none⟩) hwl).trans x0
        have y1 := (hgr.below.cell (p := ⟨w.heap.size, 1, none⟩) hwl).trans x1
        have htk := HTk.out i _ hsi
        have htl := HTl.out i
        have hgood := HGk.out i _ hsi
        have hpos := hgood.pos
        obtain ⟨skip, hskip⟩ : ∃ skip, a = M.tot (A.take i) + skip := ⟨a - M.tot (A.take i), by omega⟩
        obtain ⟨r, hr0⟩ : ∃ r, A[i].size = skip + r := ⟨A[i].size - skip, by omega⟩
        have HPt : Hid _ := fun (n : Nat) => HPs.out a i skip n C _ hpc hsi hskip
        have HPx : Hid _ := fun (n : Nat) => HPn.out a n i skip _ hsi hskip
        have HPa : Hid _ := fun (n : Nat) (hn : skip + n ≤ A[i].size) => part_any A[i] hgood skip n hn
        have HR0 : Hid _ := fun (_ : Unit) => hr0
        generalize hS : A[i] = s at *
        have hw1 : IntKind.i64.wrap ((M.tot (A.take (i + 1)) : Int) - (s.size : Int)) = (M.tot (A.take i) : Int) := by rw [IntKind.wrap_i64]; omega
        have hw2 : IntKind.i64.wrap ((a : Int) - (M.tot (A.take i) : Int)) = (skip : Int) := by rw [IntKind.wrap_i64]; omega
        have hr : (s.size : Int) - (skip : Int) = (r : Int) := by omega
        have hr4 : r ≤ 4096 := by omega
        have ha4 : a ≤ 4096 := by omega
        have hiI : (i : Int) < (A.length : Int) := by omega
        have hrp : 1 ≤ r := by omega
        have HAZ : Hid (a + z = at0 + sz0) := haz
        have hz4 : z ≤ 4096 := by omega
        generalize hEE : M.tot (A.take (i + 1)) = E at *
        have HEE : Hid (M.tot (A.take (i + 1)) = E) := hEE
        clear hEE
        generalize M.tot (A.take i) = F at *
        clear hS hin hi2 hi3 hskip hr0 hgood hpc hsi hcs hce htk haz
        have v0 := kept_cell y1 ((Q.refl wr).alloc #[.string s.put, .int .i64 (s.place : Int), .int .i64 (s.size : Int)] 53)
        have v1 := kept_cell ce ((Q.refl wr).alloc #[.string s.put, .int .i64 (s.place : Int), .int .i64 (s.size : Int)] 53)
        have v2 : (wr.alloc (.cells #[.string s.put, .int .i64 (s.place : Int), .int .i64 (s.size : Int)] 53)).cell? ⟨wr.heap.size, 2, none⟩ = some (.int .i64 (s.size : Int)) := by simp
        have hsk : skip + r ≤ s.size := by omega
        have hpz : 1 ≤ z := hz0
        go_upto_region 6 with fail
        go_region_held3 (fun w' => w'.cell? ⟨w.heap.size, 1, none⟩ = some (.slice (some ⟨ge, 0, none⟩) A.length ec) ∧ w'.cell? ⟨ge, i, none⟩ = some (.int .i64 (E : Int)) ∧ w'.cell? ⟨wr.heap.size, 2, none⟩ = some (.int .i64 (s.size : Int))) (exact ⟨v0, v1, v2⟩) (fail)
        clear v2
        obtain ⟨n, hn1, hnz, hnr, HNx, hmin⟩ : ∃ n : Nat, 1 ≤ n ∧ n ≤ z ∧ n ≤ r ∧ Hid (n < z → n = r) ∧ min (z : Int) (r : Int) = (n : Int) := ⟨min z r, by omega, by omega, by omega, (by omega : min z r < z → min z r = r), by omega⟩
        have HPn2 : Hid _ := HPa.out n (by omega)
        obtain ⟨hpc2, hpsz⟩ := HPt.out n (by omega) (by omega)
        generalize s.part skip n = pp at *
        have HPc2 : Hid _ := fun (_ : Unit) => hpc2
        have HPZ : Hid (pp.size = n) := hpsz
        have hppb : pp.size ≤ 4096 := by omega
        clear hpc2 hpsz
        go_wp2_with fail
        refine (HPn2.out _).mono ?_
        rintro e w2 ⟨rfl, q2⟩
        have hg2 := (hgr.kept (((Q.refl wr).alloc #[.string s.put, .int .i64 (s.place : Int), .int .i64 (s.size : Int)] 53).drew.trans q2)).kept ((Q.refl w2).alloc #[.string pp.put, .int .i64 (pp.place : Int), .int .i64 (pp.size : Int)] 53)
        have hown := hg2.own
        have hsz := hg2.below.size
        rw [World.size_alloc] at hsz
        go_wp2_with (at_builtin; refine wpList_append_own _ rfl (.tmp 45) (.tmp 47) 44 rfl w1.heap.size 53 i1 (.agg #[.string ⟨#[]⟩, .int .i64 0, .int .i64 0]) 3 32 Try.underlying44 hj hy0 hy1 hy2 rfl (by decide) _ _ _ rfl (hown.alloc _) ⟨w2.heap.size + 1, 0, none⟩ 1 1 pp.cells rfl rfl ?c1 ?c2 ?c3 ?c4 ?c5 ?_)
        case c1 =>
          intro j u hu
          have := cells_at (w2.alloc (.cells #[.string pp.put, .int .i64 (pp.place : Int), .int .i64 (pp.size : Int)] 53)) pp 53 j u hu
          rw [World.size_alloc] at this
          exact this
        case c2 => exact cells_one _
        case c3 => unfold maxLen; omega
        case c4 => omega
        case c5 => simp; omega
        intro v' w' hown' hgrow _
        obtain ⟨so3, sc3, hv⟩ := own_form hown'
        rw [hv] at hown'
        rw [hv]
        have hg3 := (hg2.kept ((Q.refl _).alloc #[.string pp.put, .int .i64 (pp.place : Int), .int .i64 (pp.size : Int)] 53)).push (D := [pp]) hgrow (by rw [cellsOf_one]; exact hown')
        have v2 : w'.cell? ⟨w2.heap.size, 2, none⟩ = some (.int .i64 (pp.size : Int)) := cell_grown2 hgrow (kept_cell (kept_cell (new3 (Q.refl (w2.alloc (.cells #[.string pp.put, .int .i64 (pp.place : Int), .int .i64 (pp.size : Int)] 53)))).1.2.2 (Q.refl _)) ((Q.refl _).alloc _ _)) (fun k hk => by have := ((hgr.kept (((Q.refl wr).alloc #[.string s.put, .int .i64 (s.place : Int), .int .i64 (s.size : Int)] 53).drew.trans q2)).own.lt k hk).2; exact this)
        clear hown' hgrow hown hv
        go_wp2_with fail
        go_roundw
        case rel => exact ⟨a + n, z - n, i + 1, C ++ [pp], so3, sc3, by rw [HPZ.out]; go_num, by rw [HPZ.out]; congr 1; omega, by simp, by go_num, by have := HAZ.out; omega, hg3, HPc2.out (), by simp; omega, fun h => by rw [HEE.out]; exact HPx.out n (by have := HR0.out (); have := HNx.out (by omega); omega) (by have := HAZ.out; omega)⟩
        case measure => have := HPZ.out; simp [intOf]; omega
    · obtain rfl : z = 0 := by omega
      have hfl := hpc.flat
      rw [show a - at0 = sz0 by omega] at hfl
      have HF : Hid _ := fun (_ : Unit) => hfl
      have HGd : Hid _ := fun (_ : Unit) => hpc.good
      have HSt : Hid _ := fun (_ : Unit) => own_steps hgr.own
      have HQ : Hid _ := fun (_ : Unit) => hQ1.trans hgr.q
      clear hfl hpc hgr hin haz
      go_wp2_with fail
      go_ret
      exact ⟨C, ao, cap, ⟨HGd.out (), HF.out ()⟩, rfl, HSt.out (), HQ.out ()⟩
end Go.Proofs.Ytekdenkllipehaa
