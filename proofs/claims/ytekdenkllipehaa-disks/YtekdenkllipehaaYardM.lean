import Derived.Test.YtekdenkllipehaaLCrash2
import Derived.Test.YtekdenkllipehaaRefDsk2
import Derived.Test.YtekdenkllipehaaRefDsk4
import Derived.Test.YtekdenkllipehaaYMark
import Derived.Test.YtekdenkllipehaaLAppend
/-
  The document's disk: Crash.
-/
namespace Go.Proofs.Ytekdenkllipehaa
open Go.RowKit

theorem FileAt.heapEq {w w' : World} {tg : Tags} {o p id : Nat} {f : M.Fil} {bo : Option Addr} {bc : Nat} (h : FileAt w tg o p id f bo bc) (e : w'.heap = w.heap) : FileAt w' tg o p id f bo bc :=
  h.keep (by rw [e]; exact Nat.le_refl _) (fun _ _ => rfl) (fun k _ _ => by rw [e])
theorem DiskAt.heapEq {w w' : World} {tg : Tags} {o d : Nat} {D : M.Dsk} {ids ps : List Nat} (h : DiskAt w tg o d D ids ps) (e : w'.heap = w.heap) : DiskAt w' tg o d D ids ps :=
  h.keep (by rw [e]; exact Nat.le_refl _) (fun _ _ => rfl) (fun k _ _ => by rw [e])
theorem Only.heapEq {o : Nat} {tg : Tags} {w a b : World} (h : Only o tg w a) (e : b.heap = a.heap) (e1 : b.os = a.os) (e2 : b.tape = a.tape) (e3 : b.output = a.output) : Only o tg w b :=
  ⟨e1.trans h.os, e2.trans h.tape, e3.trans h.output, by rw [e]; exact h.size, fun k hk hn => by rw [e]; exact h.block k hk hn⟩

theorem FileAt.cut {w : World} {tg : Tags} {o p id : Nat} {f : M.Fil} {bo : Option Addr} {bc : Nat} (h : FileAt w tg o p id f bo bc) (n : Nat) (hn : n ≤ f.bytes.length) :
    FileAt ((w.setCell ⟨p, 1, none⟩ (.slice bo n bc)).setCell ⟨p, 2, none⟩ (.int .i64 (n : Int))) tg o p id ⟨f.name, f.bytes.take n, n⟩ bo bc := by
  have hlen : (f.bytes.take n).length = n := by simp; omega
  have htb : ∀ g, (Value.slice bo n bc).ownBlock = some g → tg g = (o, 3 + 2 * id) := fun g hg => h.tb g (by cases bo with | none => simp [Value.ownBlock] at hg | some a => exact hg)
  refine ⟨by rw [World.cell?_setCell_other _ _ _ _ (by simp), World.cell?_setCell_other _ _ _ _ (by simp)]; exact h.c0, by rw [hlen, World.cell?_setCell_other _ _ _ _ (by simp)]; exact World.cell?_setCell_same _ _ _ h.c1, World.cell?_setCell_same _ _ _ (by rw [World.cell?_setCell_other _ _ _ _ (by simp)]; exact h.c2), fun j => by rw [World.frozen?_setCell, World.frozen?_setCell]; exact h.fr j, ?_, h.tp, by rw [hlen]; exact htb, by simpa using h.top⟩
  rw [hlen]
  have hrow : w.ownsRow 0 5 1 (.slice bo n bc) n (byteVals (f.bytes.take n)) := by
    refine ⟨by simp [byteVals]; omega, ?_⟩
    rcases h.own.2 with ⟨hv, h0⟩ | ⟨g, c, cur, hv, hg, hh, h1, h2, h3, h4⟩
    · injection hv with e1 e2 e3
      subst e1 e3
      have : n = 0 := by omega
      subst this
      exact Or.inl ⟨rfl, rfl⟩
    · injection hv with e1 e2 e3
      subst e1 e3
      refine Or.inr ⟨g, bc, cur, rfl, hg, hh, by omega, h2, h3, ?_⟩
      rw [Nat.mul_one] at h4 ⊢
      have : cur.toList.take n = (cur.toList.take f.bytes.length).take n := by rw [List.take_take, Nat.min_eq_left hn]
      rw [this, h4]
      simp [byteVals, List.map_take]
  refine row_keep hrow (fun g hg => ?_)
  have hne : g ≠ p := fun e => by have h1 := htb g hg; rw [e] at h1; exact tag_ne h1 (by omega) h.tp
  rw [heap_setCell_other _ ⟨p, 2, none⟩ g _ hne, heap_setCell_other _ ⟨p, 1, none⟩ g _ hne]

/-- The disk behind k files of a crash. -/
structure RefCrashed (w : World) (tg : Tags) (o d : Nat) (D : M.Dsk) (ids ps : List Nat) (ks : List Int) (k : Nat) (W : World) : Prop where
  disk : DiskAt W tg o d ⟨D.cap, crashTo ks (List.range k) D.files, D.dead, D.fuse⟩ ids ps
  only : Only o tg w W

theorem RefCrashed.next {w : World} {tg : Tags} {o d : Nat} {D : M.Dsk} {ids ps : List Nat} {ks : List Int} {k : Nat} {W : World} (h : RefCrashed w tg o d D ids ps ks k W) {p id : Nat} {f : M.Fil} {bo : Option Addr} {bc : Nat} (hp : ps[k]? = some p) (hid : ids[k]? = some id) (hf : (crashTo ks (List.range k) D.files)[k]? = some f)
    (hF : FileAt W tg o p id f bo bc) (hs : f.synced ≤ f.bytes.length) {st : Nat} (hst : stayOf (ks.getD k 0) (f.bytes.length - f.synced) = st) {W' : World} (e : W'.heap = ((W.setCell ⟨p, 1, none⟩ (.slice bo (f.synced + st) bc)).setCell ⟨p, 2, none⟩ (.int .i64 ((f.synced + st : Nat) : Int))).heap) (e1 : W'.os = W.os) (e2 : W'.tape = W.tape) (e3 : W'.output = W.output) :
    RefCrashed w tg o d D ids ps ks (k + 1) W' := by
  have hle := stayOf_le (ks.getD k 0) (f.bytes.length - f.synced)
  have hcr : crashedBy (ks.getD k 0) f = ⟨f.name, f.bytes.take (f.synced + st), f.synced + st⟩ := by unfold crashedBy; rw [hst]
  have hb : ∀ q, q ≠ p → ((W.setCell ⟨p, 1, none⟩ (.slice bo (f.synced + st) bc)).setCell ⟨p, 2, none⟩ (.int .i64 ((f.synced + st : Nat) : Int))).heap[q]? = W.heap[q]? := fun q hq => by rw [heap_setCell_other _ ⟨p, 2, none⟩ q _ hq, heap_setCell_other _ ⟨p, 1, none⟩ q _ hq]
  have t1 := h.disk.turn (w' := (W.setCell ⟨p, 1, none⟩ (.slice bo (f.synced + st) bc)).setCell ⟨p, 2, none⟩ (.int .i64 ((f.synced + st : Nat) : Int))) (tg' := tg) hp hid (by simp) (fun _ _ => rfl) (fun q _ h1 _ => hb q (fun er => h1 (by rw [er]; exact hF.tp))) _ (hF.cut (f.synced + st) (by omega))
  rw [← hcr] at t1
  refine ⟨?_, ?_⟩
  · rw [List.range_succ, crashTo_snoc, M.modify_one _ hf, List.length_range]
    exact t1.heapEq e
  · refine Only.heapEq (a := (W.setCell ⟨p, 1, none⟩ (.slice bo (f.synced + st) bc)).setCell ⟨p, 2, none⟩ (.int .i64 ((f.synced + st : Nat) : Int))) ⟨h.only.os, h.only.tape, h.only.output, by simpa using h.only.size, fun q hq hn => (hb q (fun er => hn (by rw [er, hF.tp]))).trans (h.only.block q hq hn)⟩ e e1 e2 e3

set_option maxRecDepth 100000 in
set_option maxHeartbeats 4000000 in
theorem refCrash (tg : Tags) (o d : Nat) (D : M.Dsk) (ids ps : List Nat) (hD : D.Fine) (ks : List Int) (ko : Option Addr) (kc : Nat) (w : World) (hk : KeepRow w tg o ks ko) (h : DiskAt w tg o d D ids ps) :
    Calls Try.prog 71 #[.pointer (some ⟨d, 0, none⟩), .slice ko ks.length kc] w fun e w' => e = .returned (.tuple #[]) ∧ DiskAt w' tg o d (D.crash ks) ids ps ∧ Only o tg w w' := by
  have hl := hD.good.few
  have HK : Hid (KeepRow w tg o ks ko) := hk
  have HG : Hid _ := fun (pre : List Nat) => crashTo_good ks (fun f hf => ⟨hD.good.synced f hf, hD.good.small hf⟩) pre
  have htd := h.td
  have HS : Hid (RefCrashed w tg o d D ids ps ks 0 w) := ⟨h, Only.refl o tg w⟩
  have HA : Hid _ := crashTo_all ks D.files
  clear h hk
  go_enter Try.func71, Try.ntmps71
  go_wp2_with fail
  go_loopw [4] (fun j wr => ∃ k : Nat, j = .int .i64 k ∧ k ≤ D.files.length ∧ Hid (RefCrashed w tg o d D ids ps ks k wr)) (fun j _ => D.files.length - (intOf j).toNat)
  case atStart => exact ⟨0, rfl, Nat.zero_le _, HS.out⟩
  case round =>
    obtain ⟨k, rfl, hkl, HC⟩ := hrel
    obtain ⟨hgl, hgm⟩ := HG.out (List.range k)
    by_cases hlt : k < D.files.length
    · obtain ⟨f, hf⟩ : ∃ f, (crashTo ks (List.range k) D.files)[k]? = some f := ⟨_, List.getElem?_eq_getElem (by rw [hgl]; exact hlt)⟩
      have hfg := hgm f (List.mem_of_getElem? hf)
      obtain ⟨g, cap, p, id, bo, bc, r1, hgw, hp, hid, r2, hF⟩ := HC.out.disk.at hf
      simp only [hgl] at r1
      have c1 := hF.c1
      have c2 := hF.c2
      have f1 := hF.fr 1
      have f2 := hF.fr 2
      have hpt := hF.top
      obtain ⟨loose, hlo⟩ : ∃ loose, f.bytes.length - f.synced = loose := ⟨_, rfl⟩
      obtain ⟨st, hst⟩ : ∃ st, stayOf (ks.getD k 0) loose = st := ⟨_, rfl⟩
      have hle := stayOf_le (ks.getD k 0) loose
      rw [hst] at hle
      have HN : Hid ((∀ {W' : World}, W'.heap = ((wr.setCell ⟨p, 1, none⟩ (.slice bo (f.synced + st) bc)).setCell ⟨p, 2, none⟩ (.int .i64 ((f.synced + st : Nat) : Int))).heap → W'.os = wr.os → W'.tape = wr.tape → W'.output = wr.output → RefCrashed w tg o d D ids ps ks (k + 1) W') ∧ True) := ⟨fun e e1 e2 e3 => HC.out.next hp hid hf hF hfg.1 (by rw [hlo]; exact hst) e e1 e2 e3, trivial⟩
      have hcap : f.synced + st ≤ bc := by
        rcases hF.own.2 with ⟨hv, h0⟩ | ⟨g, c, cur, hv, _, _, hc, _⟩
        · omega
        · injection hv with _ _ e3; omega
      have hng : ¬ (g = p) := fun e => by
        have h1 := HC.out.disk.rowTag (by rw [r1])
        rw [e] at h1
        exact tag_ne h1 (by omega) hF.tp
      have hnd : ¬ (d = p) := fun e => by
        have h1 := hF.tp
        rw [← e, htd] at h1
        injection h1 with _ h1
        omega
      have hsl := hfg.1
      have hbl := hfg.2
      clear hfg hF hf hp hid
      generalize f.bytes.length = len at *
      generalize f.synced = sy at *
      have w1 : IntKind.i64.wrap ((len : Int) - (sy : Int)) = (loose : Int) := by rw [IntKind.wrap_i64]; omega
      have w2 : IntKind.i64.wrap ((loose : Int) + 1) = (loose : Int) + 1 := by rw [IntKind.wrap_i64]; omega
      have w3 : IntKind.i64.wrap ((sy : Int) + (st : Int)) = ((sy + st : Nat) : Int) := by rw [IntKind.wrap_i64]; omega
      have i1 : (k : Int) < (D.files.length : Int) := by omega
      have i0 : (0 : Int) ≤ (k : Int) := by omega
      have wk : IntKind.i64.wrap ((k : Int) + 1) = (k : Int) + 1 := by rw [IntKind.wrap_i64]; omega
      by_cases hik : k < ks.length
      · obtain ⟨b, off, hko, hcell, hbw, hbo⟩ := HK.out k _ (List.getElem?_eq_getElem hik)
        subst hko
        have hcW : wr.cell? ⟨b, off + k, none⟩ = some (.int .i64 ks[k]) := (World.cell?_of_block (a := ⟨b, off + k, none⟩) (HC.out.only.block b hbw hbo)).trans hcell
        have hgd : ks.getD k 0 = ks[k] := by simp [List.getD, List.getElem?_eq_getElem hik]
        rw [hgd] at hst
        have hti := stayOf_int ks[k] loose
        rw [hst] at hti
        have i2 : decide ((k : Int) < (ks.length : Int)) = true := by rw [decide_eq_true_eq]; omega
        have i3 : (k : Int) < (ks.length : Int) := by omega
        generalize ks[k] = kx at *
        by_cases hpos : 0 < kx
        · rw [Int.max_eq_left (by omega)] at hti
          have d1 : decide (0 < kx) = true := by rw [decide_eq_true_eq]; exact hpos
          clear hlo hst hle hsl hbl hgm hgl hgd hcell hbw hbo
          go_wp2_with fail
          go_quiet (fail)
          go_wp2_with fail
          go_region
          all_goals (go_wp2_with fail)
          all_goals go_roundw
          case rel => exact ⟨k + 1, by go_num, by omega, HN.out.1 rfl rfl rfl rfl⟩
          case measure => simp [intOf]; omega
        · have d1 : decide (0 < kx) = false := by rw [decide_eq_false_iff_not]; exact hpos
          obtain rfl : st = 0 := by rw [← hst]; unfold stayOf; rw [if_neg hpos]
          simp only [Nat.add_zero] at HN hcap
          have w4 : IntKind.i64.wrap (sy : Int) = (sy : Int) := by rw [IntKind.wrap_i64]; omega
          clear hlo hst hle hsl hbl hgm hgl hgd hcell hbw hbo hti
          go_wp2_with fail
          go_quiet (fail)
          go_wp2_with fail
          go_region
          all_goals (go_wp2_with fail)
          all_goals go_roundw
          case rel => exact ⟨k + 1, by go_num, by omega, HN.out.1 rfl rfl rfl rfl⟩
          case measure => simp [intOf]; omega
      · have i2 : decide ((k : Int) < (ks.length : Int)) = false := by rw [decide_eq_false_iff_not]; omega
        have hgd : ks.getD k 0 = 0 := by simp [List.getD, List.getElem?_eq_none (Nat.le_of_not_lt hik)]
        obtain rfl : st = 0 := by rw [← hst, hgd]; simp [stayOf]
        simp only [Nat.add_zero] at HN hcap
        have w4 : IntKind.i64.wrap (sy : Int) = (sy : Int) := by rw [IntKind.wrap_i64]; omega
        clear hlo hst hle hsl hbl hgm hgl hgd
        go_wp2_with fail
        go_quiet (fail)
        go_wp2_with fail
        go_region
        all_goals (go_wp2_with fail)
        all_goals go_roundw
        case rel => exact ⟨k + 1, by go_num, by omega, HN.out.1 rfl rfl rfl rfl⟩
        case measure => simp [intOf]; omega
    · obtain rfl : k = D.files.length := by omega
      have hd := HC.out.disk
      rw [HA.out] at hd
      obtain ⟨ao, cap, r1⟩ := hd.len
      simp only [List.length_mapIdx] at r1
      have c2 := hd.c2
      have c3 := hd.c3
      have f2 := hd.fr 2
      have f3 := hd.fr 3
      have HD2 : Hid _ := (hd.deadSet false).fuseSet 0
      have HO2 : Hid _ := only_set (only_set HC.out.only (fun k _ e => by rw [e, htd]) 2 (.bool false)) (fun k _ e => by rw [e, htd]) 3 (.int .i64 0)
      clear hd hgm hgl
      go_wp2_with fail
      go_end0
      exact ⟨rfl, HD2.out, HO2.out⟩
end Go.Proofs.Ytekdenkllipehaa

/-
  The statement's yard in memory: plates (a landed disk and the document's, which are the same disk), and lists that came out, each with its mark.
  Owners: 0 the yard (uses: 0 its variable; 1 the row of plates; 2 the row of lists; 3 plates; 4 lists' rows; 9 what lay there before); 2 i + 1 the i-th landed disk; 2 i + 2 the document's.
-/
namespace Go.Proofs.Ytekdenkllipehaa
open Go.RowKit

/-- A list full of one text. -/
def MarkRow (w : World) (tg : Tags) (m : ByteArray) (v : Value) : Prop :=
  ∃ ao n cap, v = .slice ao n cap ∧ n ≤ 100 ∧ ((ao = none ∧ n = 0) ∨ ∃ g, ao = some ⟨g, 0, none⟩ ∧ g < w.heap.size ∧ tg g = (0, 4) ∧ ∀ k, k < n → w.cell? ⟨g, k, none⟩ = some (.string m))

theorem MarkRow.keep {w w' : World} {tg tg' : Tags} {m : ByteArray} {v : Value} (h : MarkRow w tg m v) (hs : w.heap.size ≤ w'.heap.size) (ht : ∀ k, k < w.heap.size → tg' k = tg k) (hb : ∀ k, k < w.heap.size → tg k = (0, 4) → w'.heap[k]? = w.heap[k]?) : MarkRow w' tg' m v := by
  obtain ⟨ao, n, cap, rfl, hn, h1 | ⟨g, rfl, hg, htg, hc⟩⟩ := h
  · exact ⟨ao, n, cap, rfl, hn, Or.inl h1⟩
  · exact ⟨_, n, cap, rfl, hn, Or.inr ⟨g, rfl, Nat.lt_of_lt_of_le hg hs, (ht g hg).trans htg, fun k hk => (World.cell?_of_block (a := ⟨g, k, none⟩) (hb g hg htg)).trans (hc k hk)⟩⟩

/-- A plate: two disks that are the same. -/
structure PlateAt (w : World) (tg : Tags) (i pb : Nat) (D : M.Dsk) (x y : Nat) (ids ps ids' ps' : List Nat) : Prop where
  cx : w.cell? ⟨pb, 0, none⟩ = some (.pointer (some ⟨x, 0, none⟩))
  cy : w.cell? ⟨pb, 1, none⟩ = some (.pointer (some ⟨y, 0, none⟩))
  tp : tg pb = (0, 3)
  top : pb < w.heap.size
  land : LDiskAt w tg (2 * i + 1) x D ids ps
  ref : DiskAt w tg (2 * i + 2) y D ids' ps'
  fine : D.Fine

def Plate (w : World) (tg : Tags) (i pb : Nat) (D : M.Dsk) : Prop := ∃ x y ids ps ids' ps', PlateAt w tg i pb D x y ids ps ids' ps'

theorem Plate.keep {w w' : World} {tg tg' : Tags} {i pb : Nat} {D : M.Dsk} (h : Plate w tg i pb D) (hs : w.heap.size ≤ w'.heap.size) (ht : ∀ k, k < w.heap.size → tg' k = tg k) (hb : ∀ k, k < w.heap.size → (tg k = (0, 3) ∨ (tg k).1 = 2 * i + 1 ∨ (tg k).1 = 2 * i + 2) → w'.heap[k]? = w.heap[k]?) : Plate w' tg' i pb D := by
  obtain ⟨x, y, ids, ps, ids', ps', h⟩ := h
  have hp := hb pb h.top (Or.inl h.tp)
  exact ⟨x, y, ids, ps, ids', ps', (World.cell?_of_block (a := ⟨pb, 0, none⟩) hp).trans h.cx, (World.cell?_of_block (a := ⟨pb, 1, none⟩) hp).trans h.cy, (ht pb h.top).trans h.tp, Nat.lt_of_lt_of_le h.top hs, h.land.keep hs ht (fun k hk e => hb k hk (Or.inr (Or.inl e))), h.ref.keep hs ht (fun k hk e => hb k hk (Or.inr (Or.inr e))), h.fine⟩

/-- The yard. -/
structure YardAt (w : World) (tg : Tags) (yb : Nat) (Ds : List M.Dsk) (pl : List Nat) (L : List Value) : Prop where
  top : yb < w.heap.size
  td : tg yb = (0, 0)
  fr : ∀ j, w.frozen? ⟨yb, j, none⟩ = false
  plates : ∃ ao cap, w.cell? ⟨yb, 0, none⟩ = some (.slice ao pl.length cap) ∧ w.ownsRow 0 81 1 (.slice ao pl.length cap) pl.length (ptrVals pl) ∧ ∀ g, (Value.slice ao pl.length cap).ownBlock = some g → tg g = (0, 1)
  lists : ∃ ao cap, w.cell? ⟨yb, 1, none⟩ = some (.slice ao L.length cap) ∧ w.ownsRow 0 69 1 (.slice ao L.length cap) L.length L ∧ ∀ g, (Value.slice ao L.length cap).ownBlock = some g → tg g = (0, 2)
  len : pl.length = Ds.length
  plate : ∀ i pb D, pl[i]? = some pb → Ds[i]? = some D → Plate w tg i pb D
  list : ∀ i v, L[i]? = some v → MarkRow w tg (markOf (i / 3)) v

/-- Blocks that are somebody's, and not what lay there before. -/
def ours (tg : Tags) (k : Nat) : Prop := tg k ≠ (0, 9)

theorem YardAt.keep {w w' : World} {tg tg' : Tags} {yb : Nat} {Ds : List M.Dsk} {pl : List Nat} {L : List Value} (h : YardAt w tg yb Ds pl L) (hs : w.heap.size ≤ w'.heap.size) (ht : ∀ k, k < w.heap.size → tg' k = tg k) (hb : ∀ k, k < w.heap.size → ours tg k → w'.heap[k]? = w.heap[k]?) : YardAt w' tg' yb Ds pl L := by
  have no9 : ∀ k u, tg k = (0, u) → u ≠ 9 → ours tg k := fun k u e hu => tag_ne e hu
  have hy := hb yb h.top (no9 yb 0 h.td (by decide))
  obtain ⟨a1, c1, r1, r2, r3⟩ := h.plates
  obtain ⟨a2, c2, s1, s2, s3⟩ := h.lists
  refine ⟨Nat.lt_of_lt_of_le h.top hs, (ht yb h.top).trans h.td, fun j => (World.frozen?_of_block (a := ⟨yb, j, none⟩) hy).trans (h.fr j),
    ⟨a1, c1, (World.cell?_of_block (a := ⟨yb, 0, none⟩) hy).trans r1, row_keep r2 (fun g hg => hb g (r2.lt g hg).2 (no9 g 1 (r3 g hg) (by decide))), fun g hg => (ht g (r2.lt g hg).2).trans (r3 g hg)⟩,
    ⟨a2, c2, (World.cell?_of_block (a := ⟨yb, 1, none⟩) hy).trans s1, row_keep s2 (fun g hg => hb g (s2.lt g hg).2 (no9 g 2 (s3 g hg) (by decide))), fun g hg => (ht g (s2.lt g hg).2).trans (s3 g hg)⟩,
    h.len, fun i pb D e1 e2 => (h.plate i pb D e1 e2).keep hs ht (fun k hk e => hb k hk ?_), fun i v e => (h.list i v e).keep hs ht (fun k hk e => hb k hk (no9 k 4 e (by decide)))⟩
  rcases e with e | e | e
  · exact no9 k 3 e (by decide)
  · intro e9; rw [e9] at e; simp at e
  · intro e9; rw [e9] at e; simp at e

theorem YardAt.kept {w w' : World} {tg : Tags} {yb : Nat} {Ds : List M.Dsk} {pl : List Nat} {L : List Value} (h : YardAt w tg yb Ds pl L) (q : Q w w') : YardAt w' tg yb Ds pl L :=
  h.keep q.below.size (fun _ _ => rfl) (fun k hk _ => q.below.block k hk)

/-- One plate's disks may have turned. -/
structure Duo (i : Nat) (tg : Tags) (w w' : World) : Prop where
  os : w'.os = w.os
  tape : w'.tape = w.tape
  output : w'.output = w.output
  size : w.heap.size ≤ w'.heap.size
  block : ∀ k, k < w.heap.size → (tg k).1 ≠ 2 * i + 1 → (tg k).1 ≠ 2 * i + 2 → w'.heap[k]? = w.heap[k]?

theorem Duo.of_q {i : Nat} {tg : Tags} {w w' : World} (q : Q w w') : Duo i tg w w' := ⟨q.below.os, q.below.tape, q.below.output, q.below.size, fun k hk _ _ => q.below.block k hk⟩

/-- A plate behind a call. -/
def PlateNew (tg : Tags) (i pb : Nat) (D : M.Dsk) (w w' : World) : Prop := ∃ tg' : Tags, (∀ k, k < w.heap.size → tg' k = tg k) ∧ Plate w' tg' i pb D ∧ Duo i tg w w'

theorem PlateNew.of_q {tg : Tags} {i pb : Nat} {D : M.Dsk} {w w' : World} (h : Plate w tg i pb D) (q : Q w w') : PlateNew tg i pb D w w' :=
  ⟨tg, fun _ _ => rfl, h.keep q.below.size (fun _ _ => rfl) (fun k hk _ => q.below.block k hk), Duo.of_q q⟩

/-- First the landed disk turns, then the document's, in the same way. -/
theorem PlateAt.both {w w1 : World} {tg : Tags} {i pb : Nat} {D D' : M.Dsk} {x y : Nat} {ids ps ids' ps' : List Nat} (h : PlateAt w tg i pb D x y ids ps ids' ps') (hD : D'.Fine) (h1 : LEnded tg (2 * i + 1) x D' w w1) :
    ∃ tg1 : Tags, (∀ k, k < w.heap.size → tg1 k = tg k) ∧ DiskAt w1 tg1 (2 * i + 2) y D ids' ps' ∧ ∀ w2, Ended tg1 (2 * i + 2) y D' w1 w2 → PlateNew tg i pb D' w w2 := by
  obtain ⟨tg1, i1, p1, a1, a2, a3⟩ := h1
  refine ⟨tg1, a1, h.ref.keep a3.size a1 (fun k hk e => a3.block k hk (by rw [e]; omega)), fun w2 h2 => ?_⟩
  obtain ⟨tg2, i2, p2, b1, b2, b3⟩ := h2
  have hold : ∀ k, k < w.heap.size → tg2 k = tg k := fun k hk => (b1 k (Nat.lt_of_lt_of_le hk a3.size)).trans (a1 k hk)
  have hblk : ∀ k, k < w.heap.size → (tg k).1 ≠ 2 * i + 1 → (tg k).1 ≠ 2 * i + 2 → w2.heap[k]? = w.heap[k]? := fun k hk e1 e2 => (b3.block k (Nat.lt_of_lt_of_le hk a3.size) (by rw [a1 k hk]; exact e2)).trans (a3.block k hk e1)
  have hpb := hblk pb h.top (by rw [h.tp]; simp) (by rw [h.tp]; simp)
  exact ⟨tg2, hold, ⟨x, y, i1, p1, i2, p2, (World.cell?_of_block (a := ⟨pb, 0, none⟩) hpb).trans h.cx, (World.cell?_of_block (a := ⟨pb, 1, none⟩) hpb).trans h.cy, (hold pb h.top).trans h.tp, Nat.lt_of_lt_of_le h.top (Nat.le_trans a3.size b3.size), a2.keep b3.size b1 (fun k hk e => b3.block k hk (by rw [e]; omega)), b2, hD⟩,
    ⟨b3.os.trans a3.os, b3.tape.trans a3.tape, b3.output.trans a3.output, Nat.le_trans a3.size b3.size, hblk⟩⟩

/-- The yard behind a call on one plate. -/
theorem YardAt.turn {w w' : World} {tg : Tags} {yb : Nat} {Ds : List M.Dsk} {pl : List Nat} {L : List Value} (h : YardAt w tg yb Ds pl L) {i pb : Nat} {D : M.Dsk} (hp : pl[i]? = some pb) (hi : i < Ds.length) (hn : PlateNew tg i pb D w w') :
    ∃ tg' : Tags, (∀ k, k < w.heap.size → tg' k = tg k) ∧ YardAt w' tg' yb (Ds.set i D) pl L ∧ Duo i tg w w' := by
  obtain ⟨tg', a1, a2, a3⟩ := hn
  have h0 : ∀ k, k < w.heap.size → (tg k).1 = 0 → w'.heap[k]? = w.heap[k]? := fun k hk e => a3.block k hk (by rw [e]; omega) (by rw [e]; omega)
  have hy := h0 yb h.top (by rw [h.td])
  obtain ⟨b1, c1, r1, r2, r3⟩ := h.plates
  obtain ⟨b2, c2, s1, s2, s3⟩ := h.lists
  refine ⟨tg', a1, ⟨Nat.lt_of_lt_of_le h.top a3.size, (a1 yb h.top).trans h.td, fun j => (World.frozen?_of_block (a := ⟨yb, j, none⟩) hy).trans (h.fr j),
    ⟨b1, c1, (World.cell?_of_block (a := ⟨yb, 0, none⟩) hy).trans r1, row_keep r2 (fun g hg => h0 g (r2.lt g hg).2 (by rw [r3 g hg])), fun g hg => (a1 g (r2.lt g hg).2).trans (r3 g hg)⟩,
    ⟨b2, c2, (World.cell?_of_block (a := ⟨yb, 1, none⟩) hy).trans s1, row_keep s2 (fun g hg => h0 g (s2.lt g hg).2 (by rw [s3 g hg])), fun g hg => (a1 g (s2.lt g hg).2).trans (s3 g hg)⟩,
    by rw [List.length_set]; exact h.len, fun j qb E e1 e2 => ?_, fun j v e => (h.list j v e).keep a3.size a1 (fun k hk e => h0 k hk (by rw [e]))⟩, a3⟩
  by_cases hj : j = i
  · subst hj
    rw [hp] at e1
    obtain rfl := Option.some.inj e1
    rw [List.getElem?_set_self hi] at e2
    obtain rfl := Option.some.inj e2
    exact a2
  · rw [List.getElem?_set_ne (Ne.symm hj)] at e2
    refine (h.plate j qb E e1 e2).keep a3.size a1 (fun k hk e => ?_)
    rcases e with e | e | e
    · exact h0 k hk (by rw [e])
    · exact a3.block k hk (by rw [e]; omega) (by rw [e]; omega)
    · exact a3.block k hk (by rw [e]; omega) (by rw [e]; omega)

/-- The i-th plate's pointer. -/
theorem YardAt.at {w : World} {tg : Tags} {yb : Nat} {Ds : List M.Dsk} {pl : List Nat} {L : List Value} (h : YardAt w tg yb Ds pl L) {i : Nat} (hi : i < Ds.length) :
    ∃ g cap pb, w.cell? ⟨yb, 0, none⟩ = some (.slice (some ⟨g, 0, none⟩) Ds.length cap) ∧ pl[i]? = some pb ∧ w.cell? ⟨g, i, none⟩ = some (.pointer (some ⟨pb, 0, none⟩)) := by
  obtain ⟨b1, c1, r1, r2, r3⟩ := h.plates
  have hl := h.len
  obtain ⟨pb, hp⟩ : ∃ pb, pl[i]? = some pb := ⟨_, List.getElem?_eq_getElem (by omega)⟩
  rcases r2.2 with ⟨_, h0⟩ | ⟨g, c, cur, hv, _⟩
  · omega
  · injection hv with e1 e2 e3
    subst e1 e3
    refine ⟨g, c1, pb, by rw [← hl]; exact r1, hp, ?_⟩
    rw [r2.cellAt i (by omega)]
    simp [ptrVals, hp]

theorem PlateNew.pre {tg tgB : Tags} {i pb : Nat} {D : M.Dsk} {w wa w2 : World} (h : PlateNew tgB i pb D wa w2) (q : Q w wa) (ht : ∀ k, k < w.heap.size → tgB k = tg k) : PlateNew tg i pb D w w2 := by
  obtain ⟨tg', a1, a2, a3⟩ := h
  have hs := q.below.size
  exact ⟨tg', fun k hk => (a1 k (Nat.lt_of_lt_of_le hk hs)).trans (ht k hk), a2, ⟨a3.os.trans q.below.os, a3.tape.trans q.below.tape, a3.output.trans q.below.output, Nat.le_trans hs a3.size, fun k hk e1 e2 => (a3.block k (Nat.lt_of_lt_of_le hk hs) (by rw [ht k hk]; exact e1) (by rw [ht k hk]; exact e2)).trans (q.below.block k hk)⟩⟩

theorem PlateAt.more {w wa : World} {tg tgB : Tags} {i pb : Nat} {D : M.Dsk} {x y : Nat} {ids ps ids' ps' : List Nat} (h : PlateAt w tg i pb D x y ids ps ids' ps') (q : Q w wa) (ht : ∀ k, k < w.heap.size → tgB k = tg k) : PlateAt wa tgB i pb D x y ids ps ids' ps' :=
  ⟨(q.below.cell (p := ⟨pb, 0, none⟩) h.top).trans h.cx, (q.below.cell (p := ⟨pb, 1, none⟩) h.top).trans h.cy, (ht pb h.top).trans h.tp, Nat.lt_of_lt_of_le h.top q.below.size, h.land.keep q.below.size ht (fun k hk _ => q.below.block k hk), h.ref.keep q.below.size ht (fun k hk _ => q.below.block k hk), h.fine⟩

theorem Ended.pre {tg : Tags} {o d : Nat} {D' : M.Dsk} {w w1 w' : World} (h : Ended tg o d D' w1 w') (q : Q w w1) : Ended tg o d D' w w' := by
  obtain ⟨tg', ids', ps', a1, a2, a3⟩ := h
  have hs := q.below.size
  exact ⟨tg', ids', ps', fun k hk => a1 k (Nat.lt_of_lt_of_le hk hs), a2, (Only.of_q q).trans a3⟩

/-- Cells of the plate and of the box of the operation, as they were. -/
def SameCells (pb bx : Nat) (wa w1 : World) : Prop := (∀ j, w1.cell? ⟨pb, j, none⟩ = wa.cell? ⟨pb, j, none⟩) ∧ ∀ j, w1.cell? ⟨bx, j, none⟩ = wa.cell? ⟨bx, j, none⟩

theorem SameCells.of_only {pb bx o : Nat} {tg : Tags} {wa w1 : World} (h : Only o tg wa w1) (h1 : pb < wa.heap.size) (h2 : bx < wa.heap.size) (t1 : (tg pb).1 ≠ o) (t2 : (tg bx).1 ≠ o) : SameCells pb bx wa w1 :=
  ⟨fun j => World.cell?_of_block (a := ⟨pb, j, none⟩) (h.block pb h1 t1), fun j => World.cell?_of_block (a := ⟨bx, j, none⟩) (h.block bx h2 t2)⟩
theorem SameCells.trans {pb bx : Nat} {a b c : World} (h : SameCells pb bx a b) (k : SameCells pb bx b c) : SameCells pb bx a c := ⟨fun j => (k.1 j).trans (h.1 j), fun j => (k.2 j).trans (h.2 j)⟩

/-- Between the landed disk's call and the document's. -/
def Mid (tg : Tags) (i pb : Nat) (D D' : M.Dsk) (y : Nat) (ids' ps' : List Nat) (w wa : World) (w1 : World) : Prop :=
  SameCells pb w.heap.size wa w1 ∧ (∀ k, k < w.heap.size → (tg k).1 = 0 → w1.heap[k]? = w.heap[k]?) ∧ ∃ tg1 : Tags, (∀ k, k < w.heap.size → tg1 k = tg k) ∧ DiskAt w1 tg1 (2 * i + 2) y D ids' ps' ∧ ∀ W w2, Q w1 W → Ended tg1 (2 * i + 2) y D' W w2 → PlateNew tg i pb D' w w2 ∧ SameCells pb w.heap.size wa w2

theorem mid_of {tg : Tags} {i pb : Nat} {D D' : M.Dsk} {x y : Nat} {ids ps ids' ps' : List Nat} {w wa W w1 : World} (h : PlateAt w tg i pb D x y ids ps ids' ps') (hD : D'.Fine) (qa : Q w wa) (hlt : w.heap.size < wa.heap.size) (q : Q wa W) (h1 : LEnded (tg.more w.heap.size 0 9) (2 * i + 1) x D' W w1) : Mid tg i pb D D' y ids' ps' w wa w1 := by
  have hA := h.more qa (tgB := tg.more w.heap.size 0 9) (fun k hk => Tags.more_old hk)
  have h1' : LEnded (tg.more w.heap.size 0 9) (2 * i + 1) x D' wa w1 := h1.after (Only.of_q q) (fun _ _ => rfl)
  have ho : Only (2 * i + 1) (tg.more w.heap.size 0 9) wa w1 := by obtain ⟨_, _, _, _, _, a3⟩ := h1'; exact a3
  have htb : (tg.more w.heap.size 0 9) w.heap.size = (0, 9) := Tags.more_new (Nat.le_refl _)
  have hsc : SameCells pb w.heap.size wa w1 := SameCells.of_only ho hA.top hlt (by rw [hA.tp]; simp) (by rw [htb]; simp)
  obtain ⟨tg1, b1, b2, b3⟩ := hA.both hD h1'
  have hs0 := qa.below.size
  refine ⟨hsc, fun k hk e => (ho.block k (Nat.lt_of_lt_of_le hk hs0) (by rw [Tags.more_old hk, e]; omega)).trans (qa.below.block k hk), tg1, fun k hk => (b1 k (Nat.lt_of_lt_of_le hk hs0)).trans (Tags.more_old hk), b2, fun W2 w2 q2 e2 => ?_⟩
  have e3 := e2.pre q2
  have ho2 : Only (2 * i + 2) tg1 w1 w2 := by obtain ⟨_, _, _, _, _, a3⟩ := e3; exact a3
  refine ⟨(b3 w2 e3).pre qa (fun k hk => Tags.more_old hk), hsc.trans (SameCells.of_only ho2 (Nat.lt_of_lt_of_le hA.top ho.size) (Nat.lt_of_lt_of_le hlt ho.size) (by rw [b1 pb hA.top, hA.tp]; simp) (by rw [b1 _ hlt, htb]; simp))⟩
end Go.Proofs.Ytekdenkllipehaa
