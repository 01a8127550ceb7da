/-
  The statement's yard: one disk more.
-/
import Derived.Test.YtekdenkllipehaaYNames
namespace Go.Proofs.Ytekdenkllipehaa
open Go.RowKit

/-- What lay there before is as it was. -/
structure Old (tg : Tags) (w w' : World) : Prop where
  os : w'.os = w.os
  tape : w'.tape = w.tape
  output : w'.output = w.output
  size : w.heap.size ≤ w'.heap.size
  block : ∀ k, k < w.heap.size → tg k = (0, 9) → w'.heap[k]? = w.heap[k]?

theorem Old.of_q {tg : Tags} {w w' : World} (q : Q w w') : Old tg w w' := ⟨q.below.os, q.below.tape, q.below.output, q.below.size, fun k hk _ => q.below.block k hk⟩
theorem Old.trans {tg tg1 : Tags} {a b c : World} (h : Old tg a b) (k : Old tg1 b c) (ht : ∀ q, q < a.heap.size → tg1 q = tg q) : Old tg a c :=
  ⟨k.os.trans h.os, k.tape.trans h.tape, k.output.trans h.output, Nat.le_trans h.size k.size, fun q hq e => (k.block q (Nat.lt_of_lt_of_le hq h.size) (by rw [ht q hq]; exact e)).trans (h.block q hq e)⟩

/-- The yard behind a call. -/
def YardNew (tg : Tags) (yb : Nat) (Ds : List M.Dsk) (L : List Value) (w w' : World) : Prop := ∃ (tg' : Tags) (pl : List Nat), (∀ k, k < w.heap.size → tg' k = tg k) ∧ YardAt w' tg' yb Ds pl L ∧ Old tg w w'

theorem YardNew.of_q {tg : Tags} {yb : Nat} {Ds : List M.Dsk} {pl : List Nat} {L : List Value} {w w' : World} (h : YardAt w tg yb Ds pl L) (q : Q w w') : YardNew tg yb Ds L w w' := ⟨tg, pl, fun _ _ => rfl, h.kept q, Old.of_q q⟩

theorem infoPlate : (Try.prog.info? 81).map (fun i => (i.zero, i.size, i.bytes)) = some (some (.pointer none), 1, 8) := by kernel_rfl

/-- A plate more. -/
theorem yard_more {tg tg2 : Tags} {yb : Nat} {Ds : List M.Dsk} {pl : List Nat} {L : List Value} {w w2 w3 : World} (h : YardAt w tg yb Ds pl L) (hB : Below w.heap.size w w2) (ht2 : ∀ k, k < w.heap.size → tg2 k = tg k) {D : M.Dsk} {x y : Nat} {ids ps ids' ps' : List Nat} (hx : LDiskAt w2 tg2 (2 * Ds.length + 1) x D ids ps) (hy : DiskAt w2 tg2 (2 * Ds.length + 2) y D ids' ps') (hD : D.Fine)
    {ao : Option Addr} {cap : Nat} (hc0 : w.cell? ⟨yb, 0, none⟩ = some (.slice ao pl.length cap)) (htag : ∀ g, (Value.slice ao pl.length cap).ownBlock = some g → tg g = (0, 1)) {ob : Obj} {ao' : Option Addr} {cap' : Nat}
    (hg : ((w2.alloc (.cells #[.pointer (some ⟨x, 0, none⟩), .pointer (some ⟨y, 0, none⟩)] 83)).alloc ob).grownBy w3 (Value.slice ao pl.length cap).ownBlock) (ho : w3.ownsRow 0 81 1 (.slice ao' (pl.length + 1) cap') (pl.length + 1) (ptrVals pl ++ [.pointer (some ⟨w2.heap.size, 0, none⟩)]))
    (hw : (Value.slice ao' (pl.length + 1) cap').ownBlock = (Value.slice ao pl.length cap).ownBlock ∨ (Value.slice ao' (pl.length + 1) cap').ownBlock = some ((w2.alloc (.cells #[.pointer (some ⟨x, 0, none⟩), .pointer (some ⟨y, 0, none⟩)] 83)).alloc ob).heap.size) :
    YardNew tg yb (Ds ++ [D]) L w (w3.setCell ⟨yb, 0, none⟩ (.slice ao' (pl.length + 1) cap')) ∧ w3.cell? ⟨yb, 0, none⟩ = some (.slice ao pl.length cap) ∧ w3.frozen? ⟨yb, 0, none⟩ = false := by
  have hs1 := hB.size
  obtain ⟨pc, hpc⟩ : ∃ pc, pc = Obj.cells #[.pointer (some ⟨x, 0, none⟩), .pointer (some ⟨y, 0, none⟩)] 83 (0, 0) := ⟨_, rfl⟩
  have hs2 : w2.heap.size + 1 + 1 ≤ w3.heap.size := by have := hg.size; simp at this; omega
  have hyt := h.top
  have hrowlt : ∀ g, (Value.slice ao pl.length cap).ownBlock = some g → g < w.heap.size := fun g e => by
    obtain ⟨a2, c2, s1, s2, s3⟩ := h.plates
    rw [hc0] at s1
    injection s1 with s1
    rw [s1] at e
    exact (s2.lt g e).2
  have hb3 : ∀ k, k < w2.heap.size → (Value.slice ao pl.length cap).ownBlock ≠ some k → w3.heap[k]? = w2.heap[k]? := fun k hk hn => by
    rw [hg.block k (by simp; omega) (fun e => hn e.symm)]
    exact (((Below.refl _ w2).alloc (Nat.le_refl _) _).alloc (by simp) ob).block k hk
  have hpb3 : w3.heap[w2.heap.size]? = some (.cells #[.pointer (some ⟨x, 0, none⟩), .pointer (some ⟨y, 0, none⟩)] 83 (0, 0)) := by
    rw [hg.block w2.heap.size (by simp; omega) (fun e => by have := hrowlt _ e.symm; omega)]
    exact (((Below.refl _ (w2.alloc _)).alloc (Nat.le_refl _) ob).block w2.heap.size (by simp)).trans (heap_alloc_new w2 _)
  have hyb3 : w3.heap[yb]? = w.heap[yb]? := (hb3 yb (by omega) (fun e => tag_ne (htag yb e) (by decide) h.td)).trans (hB.block yb hyt)
  have hset : ∀ k, k ≠ yb → (w3.setCell ⟨yb, 0, none⟩ (.slice ao' (pl.length + 1) cap')).heap[k]? = w3.heap[k]? := fun k hk => heap_setCell_other w3 ⟨yb, 0, none⟩ k _ hk
  have hold : ∀ k, k < w.heap.size → tg k ≠ (0, 0) → tg k ≠ (0, 1) → (w3.setCell ⟨yb, 0, none⟩ (.slice ao' (pl.length + 1) cap')).heap[k]? = w.heap[k]? := fun k hk h0 h1 => by
    rw [hset k (fun e => h0 (by rw [e]; exact h.td)), hb3 k (by omega) (fun e => h1 (htag k e))]
    exact hB.block k hk
  obtain ⟨tg', htg'⟩ : ∃ tg' : Tags, tg' = (tg2.more w2.heap.size 0 3).more (w2.heap.size + 1) 0 1 := ⟨_, rfl⟩
  have ht0 : ∀ k, k < w2.heap.size → tg' k = tg2 k := fun k hk => by rw [htg', Tags.more_old (by omega), Tags.more_old hk]
  have htw : ∀ k, k < w.heap.size → tg' k = tg k := fun k hk => (ht0 k (by omega)).trans (ht2 k hk)
  have ht3 : tg' w2.heap.size = (0, 3) := by rw [htg', Tags.more_old (by omega), Tags.more_new (Nat.le_refl _)]
  have ht1 : ∀ k, w2.heap.size + 1 ≤ k → tg' k = (0, 1) := fun k hk => by rw [htg', Tags.more_new hk]
  have htag' : ∀ g, (Value.slice ao' (pl.length + 1) cap').ownBlock = some g → tg' g = (0, 1) := fun g e => by
    rcases hw with e1 | e1
    · rw [e1] at e
      exact (htw g (hrowlt g e)).trans (htag g e)
    · rw [e1] at e
      injection e with e
      exact ht1 g (by rw [← e]; simp)
  have hlen1 : (pl ++ [w2.heap.size]).length = pl.length + 1 := by simp
  have hpv : ptrVals (pl ++ [w2.heap.size]) = ptrVals pl ++ [.pointer (some ⟨w2.heap.size, 0, none⟩)] := by simp [ptrVals]
  have hdisk : ∀ k, k < w2.heap.size → (tg2 k).1 ≠ 0 → (w3.setCell ⟨yb, 0, none⟩ (.slice ao' (pl.length + 1) cap')).heap[k]? = w2.heap[k]? := fun k hk e => by
    rw [hset k (fun er => e (by rw [er, ht2 yb hyt, h.td])), hb3 k hk (fun er => e (by rw [ht2 k (hrowlt k er), htag k er]))]
  obtain ⟨b2, c2, s1, s2, s3⟩ := h.lists
  refine ⟨⟨tg', pl ++ [w2.heap.size], htw, ⟨by simp; omega, (htw yb hyt).trans h.td, fun j => by rw [World.frozen?_setCell]; exact (World.frozen?_of_block (a := ⟨yb, j, none⟩) hyb3).trans (h.fr j), ⟨ao', cap', ?_, ?_, ?_⟩, ⟨b2, c2, ?_, ?_, fun g hg => (htw g (s2.lt g hg).2).trans (s3 g hg)⟩, ?_, fun i pb E e1 e2 => ?_, fun i v e => ?_⟩, ⟨?_, ?_, ?_, ?_, fun k hk e => hold k hk (by rw [e]; decide) (by rw [e]; decide)⟩⟩, (World.cell?_of_block (a := ⟨yb, 0, none⟩) hyb3).trans hc0, (World.frozen?_of_block (a := ⟨yb, 0, none⟩) hyb3).trans (h.fr 0)⟩
  · rw [hlen1]
    exact World.cell?_setCell_same _ _ _ ((World.cell?_of_block (a := ⟨yb, 0, none⟩) hyb3).trans hc0)
  · rw [hlen1, hpv]
    exact row_keep ho (fun g hg => hset g (fun e => by have h1 := htag' g hg; rw [e, htw yb hyt] at h1; exact tag_ne h1 (by decide) h.td))
  · rw [hlen1]
    exact htag'
  · rw [World.cell?_setCell_other _ _ _ _ (by simp)]
    exact (World.cell?_of_block (a := ⟨yb, 1, none⟩) hyb3).trans s1
  · exact row_keep s2 (fun g hg => hold g (s2.lt g hg).2 (tag_ne (s3 g hg) (by decide)) (tag_ne (s3 g hg) (by decide)))
  · simp [h.len]
  · by_cases hi : i < Ds.length
    · rw [List.getElem?_append_left (by have := h.len; omega)] at e1
      rw [List.getElem?_append_left hi] at e2
      refine (h.plate i pb E e1 e2).keep (by simp; omega) htw (fun k hk e => ?_)
      rcases e with e | e | e
      · exact hold k hk (tag_ne e (by decide)) (tag_ne e (by decide))
      · exact hold k hk (fun e9 => by rw [e9] at e; simp at e) (fun e9 => by rw [e9] at e; simp at e)
      · exact hold k hk (fun e9 => by rw [e9] at e; simp at e) (fun e9 => by rw [e9] at e; simp at e)
    · have hie : i = Ds.length := by
        have := (List.getElem?_eq_some_iff.1 e2).1
        simp at this
        omega
      subst hie
      rw [List.getElem?_append_right (by have := h.len; omega)] at e1
      rw [List.getElem?_append_right (Nat.le_refl _)] at e2
      have hpe : pb = w2.heap.size := by have := List.mem_of_getElem? e1; simpa using this
      have hDe : E = D := by have := List.mem_of_getElem? e2; simpa using this
      subst hpe hDe
      have hpb4 : (w3.setCell ⟨yb, 0, none⟩ (.slice ao' (pl.length + 1) cap')).heap[w2.heap.size]? = _ := (hset w2.heap.size (by omega)).trans hpb3
      exact ⟨x, y, ids, ps, ids', ps', by simp only [World.cell?, hpb4]; rfl, by simp only [World.cell?, hpb4]; rfl, ht3, by simp; omega, hx.keep (by simp; omega) ht0 (fun k hk e => hdisk k hk (by rw [e]; omega)), hy.keep (by simp; omega) ht0 (fun k hk e => hdisk k hk (by rw [e]; omega)), hD⟩
  · exact (h.list i v e).keep (by simp; omega) htw (fun k hk e4 => hold k hk (tag_ne e4 (by decide)) (tag_ne e4 (by decide)))
  · exact hg.os.trans hB.os
  · exact hg.tape.trans hB.tape
  · exact hg.output.trans hB.output
  · simp; omega

/-- The disks behind a New. -/
def opened (Ds : List M.Dsk) (c : Int) : List M.Dsk := if 0 ≤ c ∧ c ≤ 1048576 then Ds ++ [⟨c.toNat, [], false, 0⟩] else Ds

set_option maxRecDepth 100000 in
set_option maxHeartbeats 1600000 in
theorem yard_opened (tg : Tags) (yb : Nat) (Ds : List M.Dsk) (pl : List Nat) (L : List Value) (c : Int) (hDs : (Ds.length + 1) * 8 ≤ 140737488355328) (w : World) (h : YardAt w tg yb Ds pl L) :
    Calls Try.prog 29 #[.pointer (some ⟨yb, 0, none⟩), .int .i64 c] w fun e w' => e = .returned (.bool true) ∧ YardNew tg yb (opened Ds c) L w w' := by
  unfold opened
  by_cases hc : 0 ≤ c ∧ c ≤ 1048576
  · rw [if_pos hc]
    obtain ⟨n, rfl⟩ := Int.eq_ofNat_of_zero_le hc.1
    have hn : n ≤ 1048576 := by omega
    rw [Int.toNat_natCast]
    obtain ⟨a2, c2, s1, s2, s3⟩ := h.plates
    have HY : Hid (YardAt w tg yb Ds pl L) := h
    have HC0 : Hid (w.cell? ⟨yb, 0, none⟩ = some (.slice a2 pl.length c2)) := s1
    have HS : Hid (w.ownsRow 0 81 1 (.slice a2 pl.length c2) pl.length (ptrVals pl)) := s2
    have HS3 : Hid _ := s3
    have hpl := h.len
    have hb8 : (pl.length + 1) * 8 ≤ 140737488355328 := by omega
    have hbml : pl.length + 1 ≤ maxLen := by simp only [maxLen]; omega
    have HL : Hid _ := fun (_ : Unit) => diskNew_yes n hn tg (2 * Ds.length + 1) w
    have HR : Hid _ := fun (W : World) (t : Tags) => refNew_yes n hn t (2 * Ds.length + 2) W
    have hyt := h.top
    clear h s1 s2 s3 hc hpl
    go_enter Try.func29, Try.ntmps29
    go_wp2_with fail
    refine (HL.out ()).mono ?_
    rintro e w1 ⟨rfl, hx, q1⟩
    have HX : Hid _ := hx
    have HR1 : Hid _ := fun (_ : Unit) => HR.out w1 (tg.more w.heap.size (2 * Ds.length + 1) 0)
    clear HL HR hx
    go_wp2_with fail
    refine (HR1.out ()).mono ?_
    rintro e w2 ⟨rfl, hy, q2⟩
    have q12 := q1.trans q2
    have hx2 := HX.out.keep q2.below.size (tg' := (tg.more w.heap.size (2 * Ds.length + 1) 0).more w1.heap.size (2 * Ds.length + 2) 0) (fun k hk => Tags.more_old hk) (fun k hk _ => q2.below.block k hk)
    have ht2 : ∀ k, k < w.heap.size → ((tg.more w.heap.size (2 * Ds.length + 1) 0).more w1.heap.size (2 * Ds.length + 2) 0) k = tg k := fun k hk => by rw [Tags.more_old (Nat.lt_of_lt_of_le hk q1.below.size), Tags.more_old hk]
    obtain ⟨il, hil, hl0, hl1, hl2⟩ := info_parts infoPlate
    have ho2 : ((w2.alloc (.cells #[.pointer (some ⟨w.heap.size, 0, none⟩), .pointer (some ⟨w1.heap.size, 0, none⟩)] 83)).alloc (.cells #[.pointer (some ⟨w2.heap.size, 0, none⟩)] 81)).ownsRow 0 81 1 (.slice a2 pl.length c2) pl.length (ptrVals pl) := ((own_below HS.out q12.below).alloc _).alloc _
    have h1c := one_cell (w2.alloc (.cells #[.pointer (some ⟨w.heap.size, 0, none⟩), .pointer (some ⟨w1.heap.size, 0, none⟩)] 83)) (.pointer (some ⟨w2.heap.size, 0, none⟩)) 81
    rw [World.size_alloc] at h1c
    have h11 : ∀ u ∈ [Value.pointer (some ⟨w2.heap.size, 0, none⟩)], u.oneCell' = true := by intro u hu; simp at hu; subst hu; rfl
    obtain ⟨v', w3, hrun, t1, t2, _⟩ := run_append_own (P := Try.prog) _ 0 58 58 81 il (.pointer none) 1 8 Try.underlying58 hil hl0 hl1 hl2 rfl (by decide) _ _ _ ho2 ⟨w2.heap.size + 1, 0, none⟩ 1 1 _ rfl h1c h11 hbml hb8 (Nat.zero_le _)
    have t3 := append_where (ty := 58) Try.underlying58 hil hl0 hl1 hl2 ho2 (m := 1) (c := 1) rfl h1c h11 (by decide) hbml hb8 hrun
    obtain ⟨ao5, cap5, rfl⟩ := own_form t1
    obtain ⟨y1, y2, y3⟩ := yard_more HY.out q12.below ht2 hx2 hy (M.fine_new hn) HC0.out HS3.out t2 t1 t3
    have c02 := kept_cell HC0.out q12
    have HYK : Hid _ := y1
    clear y1 t1 t2 t3 hx2 hy ho2 h1c h11 HS HS3 HC0 HR1 HX HY ht2
    go_wp2_with (at_builtin; refine Lib.wpList_append_run _ rfl _ _ _ _ rfl _ _ rfl rfl _ _ hrun ?_)
    go_ret
    exact ⟨rfl, HYK.out⟩
  · rw [if_neg hc]
    have hc' : c < 0 ∨ 1048576 < c := by omega
    have HL : Hid _ := fun (_ : Unit) => diskNew_no c hc' w
    have HR : Hid _ := fun (W : World) => refNew_no c hc' W
    have HY : Hid (YardAt w tg yb Ds pl L) := h
    clear h hc hc'
    go_enter Try.func29, Try.ntmps29
    go_wp2_with fail
    refine (HL.out ()).mono ?_
    rintro e w1 ⟨rfl, q1⟩
    have HR1 : Hid _ := fun (_ : Unit) => HR.out w1
    clear HL HR
    go_wp2_with fail
    refine (HR1.out ()).mono ?_
    rintro e w2 ⟨rfl, q2⟩
    have HYN : Hid _ := YardNew.of_q HY.out (q1.trans q2)
    clear HR1
    go_wp2_with fail
    go_ret
    exact ⟨rfl, HYN.out⟩
end Go.Proofs.Ytekdenkllipehaa
