import Derived.Test.YtekdenkllipehaaLNames
import Derived.Test.YtekdenkllipehaaLSync
import Derived.Test.YtekdenkllipehaaLAppend
/-
  The landed disk: a file in a crash; Crash.
-/
namespace Go.Proofs.Ytekdenkllipehaa
open Go.RowKit

/-- How many loose bytes stay. -/
def stayOf (keep : Int) (loose : Nat) : Nat := if 0 < keep then keep.toNat % (loose + 1) else 0
def crashedBy (keep : Int) (f : M.Fil) : M.Fil := ⟨f.name, f.bytes.take (f.synced + stayOf keep (f.bytes.length - f.synced)), f.synced + stayOf keep (f.bytes.length - f.synced)⟩

theorem stayOf_le (keep : Int) (loose : Nat) : stayOf keep loose ≤ loose := by
  unfold stayOf
  split
  · have := Nat.mod_lt keep.toNat (show 0 < loose + 1 by omega); omega
  · omega

theorem stayOf_int (keep : Int) (loose : Nat) : (max keep 0).tmod ((loose : Int) + 1) = (stayOf keep loose : Nat) := by
  unfold stayOf
  split
  · rename_i h
    obtain ⟨k, rfl⟩ := Int.eq_ofNat_of_zero_le (show 0 ≤ keep by omega)
    rw [Int.max_eq_left (by omega)]
    simp only [Int.toNat_natCast]
    rfl
  · rw [Int.max_eq_right (by omega)]
    simp

theorem LFileAt.cut {w : World} {tg : Tags} {o p id : Nat} {f : M.Fil} {bo : Option Addr} {bc : Nat} (h : LFileAt w tg o p id f bo bc) (n : Nat) (hn : n ≤ f.bytes.length) :
    LFileAt ((w.setCell ⟨p, 1, none⟩ (.int .i64 (n : Int))).setCell ⟨p, 0, none⟩ (.slice bo n bc)) tg o p id ⟨f.name, f.bytes.take n, n⟩ bo bc := by
  have hlen : (f.bytes.take n).length = n := by simp; omega
  have htb : ∀ g, (Value.slice bo n bc).ownBlock = some g → tg g = (o, 4 + 2 * id) := fun g hg => h.tb g (by cases bo with | none => simp [Value.ownBlock] at hg | some a => exact hg)
  refine ⟨by rw [hlen]; exact World.cell?_setCell_same _ _ _ (by rw [World.cell?_setCell_other _ _ _ _ (by simp)]; exact h.c0), by rw [World.cell?_setCell_other _ _ _ _ (by simp)]; exact World.cell?_setCell_same _ _ _ h.c1, fun j => by rw [World.frozen?_setCell, World.frozen?_setCell]; exact h.fr j, ?_, h.tp, by rw [hlen]; exact htb, by simpa using h.top⟩
  rw [hlen]
  have hrow : w.ownsRow 0 5 1 (.slice bo n bc) n (byteVals (f.bytes.take n)) := by
    refine ⟨by simp [byteVals]; omega, ?_⟩
    rcases h.own.2 with ⟨hv, h0⟩ | ⟨g, c, cur, hv, hg, hh, h1, h2, h3, h4⟩
    · injection hv with e1 e2 e3
      subst e1 e3
      have : n = 0 := by omega
      subst this
      exact Or.inl ⟨rfl, rfl⟩
    · injection hv with e1 e2 e3
      subst e1 e3
      refine Or.inr ⟨g, bc, cur, rfl, hg, hh, by omega, h2, h3, ?_⟩
      rw [Nat.mul_one] at h4 ⊢
      have : cur.toList.take n = (cur.toList.take f.bytes.length).take n := by rw [List.take_take, Nat.min_eq_left hn]
      rw [this, h4]
      simp [byteVals, List.map_take]
  refine row_keep hrow (fun g hg => ?_)
  have hne : g ≠ p := fun e => by have h1 := htb g hg; rw [e] at h1; exact tag_ne h1 (by omega) h.tp
  rw [heap_setCell_other _ ⟨p, 0, none⟩ g _ hne, heap_setCell_other _ ⟨p, 1, none⟩ g _ hne]

theorem LFileAt.heapEq {w w' : World} {tg : Tags} {o p id : Nat} {f : M.Fil} {bo : Option Addr} {bc : Nat} (h : LFileAt w tg o p id f bo bc) (e : w'.heap = w.heap) : LFileAt w' tg o p id f bo bc :=
  h.keep (by rw [e]; exact Nat.le_refl _) (fun _ _ => rfl) (fun k _ _ => by rw [e])
theorem grown_heap {w a b : World} {row : Option Nat} (h : w.grownBy a row) (e : b.heap = a.heap) (e1 : b.os = a.os) (e2 : b.tape = a.tape) (e3 : b.output = a.output) : w.grownBy b row :=
  ⟨e1.trans h.os, e2.trans h.tape, e3.trans h.output, by rw [e]; exact h.size, fun k hk hn => by rw [e]; exact h.block k hk hn⟩

set_option maxRecDepth 100000 in
set_option maxHeartbeats 1600000 in
theorem fileCrash (tg : Tags) (o p id : Nat) (f : M.Fil) (bo : Option Addr) (bc : Nat) (keep : Int) (hs : f.synced ≤ f.bytes.length) (hl : f.bytes.length ≤ 1048576) (w : World) (h : LFileAt w tg o p id f bo bc) :
    Calls Try.prog 95 #[.pointer (some ⟨p, 0, none⟩), .int .i64 keep] w fun e w' => e = .returned (.tuple #[]) ∧ LFileAt w' tg o p id (crashedBy keep f) bo bc ∧ w.grownBy w' (some p) := by
  obtain ⟨loose, hlo⟩ : ∃ loose, f.bytes.length - f.synced = loose := ⟨_, rfl⟩
  obtain ⟨st, hst⟩ : ∃ st, stayOf keep loose = st := ⟨_, rfl⟩
  have hle := stayOf_le keep loose
  have hti := stayOf_int keep loose
  rw [hst] at hle hti
  have HF : Hid _ := h.cut (f.synced + st) (by omega)
  have HG : Hid (w.grownBy ((w.setCell ⟨p, 1, none⟩ (.int .i64 ((f.synced + st : Nat) : Int))).setCell ⟨p, 0, none⟩ (.slice bo (f.synced + st) bc)) (some p)) := ⟨rfl, rfl, rfl, by simp, fun k _ hn => by
    have hne : k ≠ p := fun e => hn (by rw [e])
    rw [heap_setCell_other _ ⟨p, 0, none⟩ k _ hne, heap_setCell_other _ ⟨p, 1, none⟩ k _ hne]⟩
  have c0 := h.c0
  have c1 := h.c1
  have f0 := h.fr 0
  have f1 := h.fr 1
  have hcr : crashedBy keep f = ⟨f.name, f.bytes.take (f.synced + st), f.synced + st⟩ := by unfold crashedBy; rw [hlo, hst]
  rw [hcr]
  have hcap : f.synced + st ≤ bc := by
    rcases h.own.2 with ⟨hv, h0⟩ | ⟨g, c, cur, hv, _, _, hc, _⟩
    · omega
    · injection hv with _ _ e3; omega
  clear h hcr
  generalize f.bytes.length = len at *
  generalize f.synced = sy at *
  have w1 : IntKind.i64.wrap ((len : Int) - (sy : Int)) = (loose : Int) := by rw [IntKind.wrap_i64]; omega
  have w2 : IntKind.i64.wrap ((loose : Int) + 1) = (loose : Int) + 1 := by rw [IntKind.wrap_i64]; omega
  have w3 : IntKind.i64.wrap ((sy : Int) + (st : Int)) = ((sy + st : Nat) : Int) := by rw [IntKind.wrap_i64]; omega
  clear hlo hst hle hs hl
  go_enter Try.func95, Try.ntmps95
  go_wp2_with fail
  go_quiet (fail)
  go_wp2_with fail
  go_region
  go_wp2_with fail
  go_region
  all_goals (go_wp2_with fail)
  all_goals go_end0
  all_goals exact ⟨rfl, HF.out.heapEq rfl, grown_heap HG.out rfl rfl rfl rfl⟩
end Go.Proofs.Ytekdenkllipehaa

/-
  The landed disk: Crash.
-/
namespace Go.Proofs.Ytekdenkllipehaa
open Go.RowKit Go.Shelf

attribute [local go_sem] Oper.semAt_some

/-- Files of these numbers, one behind the other, in a crash. -/
def crashTo (ks : List Int) (pre : List Nat) (fs : List M.Fil) : List M.Fil := pre.zipIdx.foldl (fun l x => l.modify x.1 (crashedBy (ks.getD x.2 0))) fs

theorem crashTo_snoc (ks : List Int) (pre : List Nat) (x : Nat) (fs : List M.Fil) : crashTo ks (pre ++ [x]) fs = (crashTo ks pre fs).modify x (crashedBy (ks.getD pre.length 0)) := by
  simp [crashTo, List.zipIdx_append]

theorem crashTo_get (ks : List Int) (fs : List M.Fil) : ∀ n k, (crashTo ks (List.range n) fs)[k]? = if k < n then (fs[k]?).map (crashedBy (ks.getD k 0)) else fs[k]?
  | 0, k => by simp [crashTo]
  | n + 1, k => by
    rw [List.range_succ, crashTo_snoc, List.getElem?_modify, crashTo_get ks fs n k, List.length_range]
    by_cases h1 : k < n
    · have h2 : ¬ n = k := by omega
      rw [if_pos h1, if_pos (show k < n + 1 by omega)]
      cases fs[k]? with
      | none => rfl
      | some g => simp [h2]
    · by_cases h2 : k = n
      · subst h2
        rw [if_neg h1, if_pos (show k < k + 1 by omega)]
        cases fs[k]? with
        | none => rfl
        | some g => simp
      · have h3 : ¬ n = k := by omega
        rw [if_neg h1, if_neg (show ¬ k < n + 1 by omega)]
        cases fs[k]? with
        | none => rfl
        | some g => simp [h3]

theorem finRange_vals (n : Nat) : ((List.finRange n).map fun x => x.1) = List.range n := by
  apply List.ext_getElem (by simp)
  intro i h1 h2
  simp

theorem crashed_by (ks : List Int) (i : Nat) (f : M.Fil) : M.crashed ks i f = crashedBy (ks.getD i 0) f := by
  have hst : ∀ l, M.stay ks i l = stayOf (ks.getD i 0) l := fun l => by
    unfold M.stay stayOf
    rw [List.getD_eq_getElem?_getD]
    cases ks[i]? with
    | none => simp
    | some k => rfl
  unfold M.crashed crashedBy
  rw [hst]

theorem crashTo_all (ks : List Int) (fs : List M.Fil) : crashTo ks (List.range fs.length) fs = fs.mapIdx (M.crashed ks) := by
  apply List.ext_getElem?
  intro k
  rw [crashTo_get, List.getElem?_mapIdx]
  by_cases h : k < fs.length
  · rw [if_pos h, List.getElem?_eq_getElem h]
    simp [crashed_by]
  · rw [if_neg h, List.getElem?_eq_none (Nat.le_of_not_lt h)]
    rfl

theorem crashTo_good (ks : List Int) {fs : List M.Fil} (hs : ∀ f ∈ fs, f.synced ≤ f.bytes.length ∧ f.bytes.length ≤ 1048576) (pre : List Nat) : (crashTo ks pre fs).length = fs.length ∧ ∀ f ∈ crashTo ks pre fs, f.synced ≤ f.bytes.length ∧ f.bytes.length ≤ 1048576 := by
  unfold crashTo
  generalize pre.zipIdx = l
  induction l generalizing fs with
  | nil => exact ⟨rfl, hs⟩
  | cons x l ih =>
    have h1 := ih (fs := fs.modify x.1 (crashedBy (ks.getD x.2 0))) (fun f hf => by
      obtain ⟨i, hi⟩ := List.getElem?_of_mem hf
      rw [List.getElem?_modify] at hi
      cases hx : fs[i]? with
      | none => rw [hx] at hi; simp at hi
      | some g =>
        rw [hx] at hi
        have hg := hs g (List.mem_of_getElem? hx)
        have hst := stayOf_le (ks.getD x.2 0) (g.bytes.length - g.synced)
        simp only [Option.map_eq_map, Option.map_some, Option.some.injEq] at hi
        split at hi
        · subst hi
          simp only [crashedBy, List.length_take]
          omega
        · subst hi
          exact hg)
    simp only [List.foldl_cons]
    exact ⟨h1.1.trans (by simp), h1.2⟩

/-- What the loop of Crash keeps. -/
structure CrashIn (w : World) (tg : Tags) (o d : Nat) (D : M.Dsk) (ids ps : List Nat) (ks : List Int) (kv : Value) (pre : List Nat) (W : World) : Prop where
  disk : LDiskAt W (tg.more w.heap.size (o + 1) 0) o d ⟨D.cap, crashTo ks pre D.files, D.dead, D.fuse⟩ ids ps
  bk : W.heap[w.heap.size]? = some (.cells #[kv] 31 (0, 0))
  bi : W.heap[w.heap.size + 1]? = some (.cells #[.int .i64 (pre.length : Nat)] 3 (0, 0))
  only : Only o tg w W
  bs : w.heap.size + 1 + 1 < W.heap.size

theorem Only.grown {o : Nat} {tg : Tags} {w W W' : World} (h : Only o tg w W) {row : Option Nat} (hg : W.grownBy W' row) (hr : ∀ r, row = some r → w.heap.size ≤ r) : Only o tg w W' :=
  ⟨hg.os.trans h.os, hg.tape.trans h.tape, hg.output.trans h.output, Nat.le_trans h.size hg.size, fun k hk hn => (hg.block k (Nat.lt_of_lt_of_le hk h.size) (fun e => by have := hr k e.symm; omega)).trans (h.block k hk hn)⟩

theorem CrashIn.kept {w : World} {tg : Tags} {o d : Nat} {D : M.Dsk} {ids ps : List Nat} {ks : List Int} {kv : Value} {pre : List Nat} {W W' : World} (h : CrashIn w tg o d D ids ps ks kv pre W) {row : Option Nat} (hg : W.grownBy W' row) (hr : ∀ r, row = some r → w.heap.size + 1 < r) : CrashIn w tg o d D ids ps ks kv pre W' := by
  refine ⟨h.disk.keep hg.size (fun _ _ => rfl) (fun k hk e => hg.block k hk (fun er => ?_)), (hg.block _ (Array.getElem?_eq_some_iff.1 h.bk).1 (fun e => by have := hr _ e.symm; omega)).trans h.bk, (hg.block _ (Array.getElem?_eq_some_iff.1 h.bi).1 (fun e => by have := hr _ e.symm; omega)).trans h.bi, h.only.grown hg (fun r e => by have := hr r e; omega), Nat.lt_of_lt_of_le h.bs hg.size⟩
  have := hr k er.symm
  rw [Tags.more_new (by omega)] at e
  simp at e

/-- One file more. -/
theorem CrashIn.next {w : World} {tg : Tags} {o d : Nat} {D : M.Dsk} {ids ps : List Nat} {ks : List Int} {kv : Value} {pre : List Nat} {W w4 : World} (h : CrashIn w tg o d D ids ps ks kv pre W) {x p id : Nat} {f : M.Fil} {bo : Option Addr} {bc : Nat} (hp : ps[x]? = some p) (hid : ids[x]? = some id) (hf : (crashTo ks pre D.files)[x]? = some f)
    (hpw : p < w.heap.size) (htp : tg p = (o, 3 + 2 * id)) (hF : LFileAt w4 (tg.more w.heap.size (o + 1) 0) o p id (crashedBy (ks.getD pre.length 0) f) bo bc) (hg : W.grownBy w4 (some p)) :
    CrashIn w tg o d D ids ps ks kv (pre ++ [x]) (w4.setCell ⟨w.heap.size + 1, 0, none⟩ (.int .i64 ((pre.length + 1 : Nat) : Int))) ∧ KeepsFrom (w.heap.size + 1 + 1 + 1) W (w4.setCell ⟨w.heap.size + 1, 0, none⟩ (.int .i64 ((pre.length + 1 : Nat) : Int))) ∧
      KeepSet (mapSet tg o (w.heap.size + 1 + 1) w.heap.size) W (w4.setCell ⟨w.heap.size + 1, 0, none⟩ (.int .i64 ((pre.length + 1 : Nat) : Int))) ∧ w4.cell? ⟨w.heap.size + 1, 0, none⟩ = some (.int .i64 (pre.length : Nat)) ∧ w4.frozen? ⟨w.heap.size + 1, 0, none⟩ = false := by
  have hblk : ∀ k, k < W.heap.size → k ≠ p → w4.heap[k]? = W.heap[k]? := fun k hk hn => hg.block k hk (fun e => hn (by injection e))
  have hbi4 : w4.heap[w.heap.size + 1]? = some (.cells #[.int .i64 (pre.length : Nat)] 3 (0, 0)) := (hblk _ (Array.getElem?_eq_some_iff.1 h.bi).1 (by omega)).trans h.bi
  have hbk4 : w4.heap[w.heap.size]? = some (.cells #[kv] 31 (0, 0)) := (hblk _ (Array.getElem?_eq_some_iff.1 h.bk).1 (by omega)).trans h.bk
  have htp' : (tg.more w.heap.size (o + 1) 0) p = (o, 3 + 2 * id) := (Tags.more_old hpw).trans htp
  have hne : ∀ k, k ≠ w.heap.size + 1 → (w4.setCell ⟨w.heap.size + 1, 0, none⟩ (.int .i64 ((pre.length + 1 : Nat) : Int))).heap[k]? = w4.heap[k]? := fun k hk => heap_setCell_other w4 ⟨w.heap.size + 1, 0, none⟩ k _ hk
  have hs : W.heap.size ≤ (w4.setCell ⟨w.heap.size + 1, 0, none⟩ (.int .i64 ((pre.length + 1 : Nat) : Int))).heap.size := by simpa using hg.size
  refine ⟨⟨?_, ?_, ?_, ?_, Nat.lt_of_lt_of_le h.bs hs⟩, ⟨hs, fun k ob h1 h2 h3 => ?_⟩, ⟨hs, fun k hk => ?_⟩, by simp [World.cell?, hbi4], frozen_of_row w4 _ 0 _ _ hbi4⟩
  · have t1 := h.disk.turn (w' := w4) (tg' := tg.more w.heap.size (o + 1) 0) hp hid hf hg.size (fun _ _ => rfl) (fun k hk h1 _ => hblk k hk (fun e => h1 (by rw [e]; exact htp'))) (crashedBy (ks.getD pre.length 0) f) rfl hF
    rw [crashTo_snoc, M.modify_one _ hf]
    refine t1.keep (by simp) (fun _ _ => rfl) (fun k _ e => hne k (fun er => ?_))
    subst er
    rw [Tags.more_new (by omega)] at e
    simp at e
  · rw [hne _ (by omega)]
    exact hbk4
  · rw [List.length_append]
    exact boxed_set _ hbi4
  · exact ⟨hg.os.trans h.only.os, hg.tape.trans h.only.tape, hg.output.trans h.only.output, Nat.le_trans h.only.size hs, fun k hk hn => by
      rw [hne k (by omega), hblk k (Nat.lt_of_lt_of_le hk h.only.size) (fun e => hn (by rw [e, htp]))]
      exact h.only.block k hk hn⟩
  · rw [hne k (by omega), hblk k (Array.getElem?_eq_some_iff.1 h2).1 (by omega)]
    exact h2
  · rcases hk with rfl | ⟨hlt, ht⟩
    · rw [hne _ (by omega)]
      exact hblk _ h.bs (by omega)
    · rw [hne k (by omega)]
      exact hblk k (Nat.lt_of_lt_of_le hlt h.only.size) (fun e => by
        rw [e, htp] at ht
        rcases ht with e | e | e <;> · injection e with _ e1; omega)

theorem LDiskAt.heapKeep {w w' : World} {tg tg' : Tags} {o d : Nat} {D : M.Dsk} {ids ps : List Nat} (h : LDiskAt w tg o d D ids ps) (hs : w.heap.size ≤ w'.heap.size) (ht : ∀ k, (tg k).1 = o → tg' k = tg k) (hb : ∀ k, k < w.heap.size → (tg k).1 = o → w'.heap[k]? = w.heap[k]?) : LDiskAt w' tg' o d D ids ps := by
  have h1 : LDiskAt w' tg o d D ids ps := h.keep hs (fun _ _ => rfl) hb
  obtain ⟨a1, k1, r1, r2, r3⟩ := h1.map.keys
  obtain ⟨a2, k2, s1, s2, s3⟩ := h1.map.vals
  refine ⟨⟨h1.map.fr, (ht d (by rw [h1.map.td])).trans h1.map.td, h1.map.top, ⟨a1, k1, r1, r2, fun g hg => (ht g (by rw [r3 g hg])).trans (r3 g hg)⟩, ⟨a2, k2, s1, s2, fun g hg => (ht g (by rw [s3 g hg])).trans (s3 g hg)⟩, h1.map.len⟩, h1.c0, h1.c3, h1.c4, h1.nodup, h1.lenI, fun i p id f e1 e2 e3 => ?_⟩
  obtain ⟨bo, bc, hF⟩ := h1.file i p id f e1 e2 e3
  exact ⟨bo, bc, hF.c0, hF.c1, hF.fr, hF.own, (ht p (by rw [hF.tp])).trans hF.tp, fun g hg => (ht g (by rw [hF.tb g hg])).trans (hF.tb g hg), hF.top⟩

/-- A list of numbers that is handed in: none of the owner's. -/
def KeepRow (w : World) (tg : Tags) (o : Nat) (ks : List Int) (ko : Option Addr) : Prop := ∀ j x, ks[j]? = some x → ∃ b off, ko = some ⟨b, off, none⟩ ∧ w.cell? ⟨b, off + j, none⟩ = some (.int .i64 x) ∧ b < w.heap.size ∧ (tg b).1 ≠ o

set_option maxRecDepth 100000 in
set_option maxHeartbeats 4000000 in
theorem diskCrash (tg : Tags) (o d : Nat) (D : M.Dsk) (ids ps : List Nat) (hD : D.Fine) (ks : List Int) (ko : Option Addr) (kc : Nat) (w : World) (hk : KeepRow w tg o ks ko) (h : LDiskAt w tg o d D ids ps) :
    Calls Try.prog 70 #[.pointer (some ⟨d, 0, none⟩), .slice ko ks.length kc] w fun e w' => e = .returned (.tuple #[]) ∧ LEnded tg o d (D.crash ks) w w' := by
  have hl := hD.good.few
  have HK : Hid (KeepRow w tg o ks ko) := hk
  obtain ⟨wl, hwl⟩ : ∃ wl, wl = ((w.alloc (.cells #[.slice ko ks.length kc] 31)).alloc (.cells #[.int .i64 0] 3)).alloc (.cells #[.pointer (some ⟨d, 1, none⟩)] 154) := ⟨_, rfl⟩
  have hsl : wl.heap.size = w.heap.size + 1 + 1 + 1 := by rw [hwl]; simp
  have hQ : Q w wl := by rw [hwl]; exact (((Q.refl w).alloc _ _).alloc _ _).alloc _ _
  have hb0 : wl.heap[w.heap.size]? = some (.cells #[.slice ko ks.length kc] 31 (0, 0)) := by
    have h1 := heap_alloc_new w (.cells #[.slice ko ks.length kc] 31)
    have h2 := ((Below.refl _ (w.alloc (.cells #[.slice ko ks.length kc] 31))).alloc (Nat.le_refl _) (.cells #[.int .i64 0] 3)).alloc (by simp) (.cells #[.pointer (some ⟨d, 1, none⟩)] 154)
    rw [hwl, h2.block w.heap.size (by simp)]
    exact h1
  have hb1 : wl.heap[w.heap.size + 1]? = some (.cells #[.int .i64 0] 3 (0, 0)) := by
    have h1 := heap_alloc_new (w.alloc (.cells #[.slice ko ks.length kc] 31)) (.cells #[.int .i64 0] 3)
    rw [World.size_alloc] at h1
    have h2 := (Below.refl _ ((w.alloc (.cells #[.slice ko ks.length kc] 31)).alloc (.cells #[.int .i64 0] 3))).alloc (Nat.le_refl _) (.cells #[.pointer (some ⟨d, 1, none⟩)] 154)
    rw [hwl, h2.block (w.heap.size + 1) (by simp)]
    exact h1
  have hb2 : wl.heap[w.heap.size + 1 + 1]? = some (.cells #[.pointer (some ⟨d, 1, none⟩)] 154 (0, 0)) := by
    have h1 := heap_alloc_new ((w.alloc (.cells #[.slice ko ks.length kc] 31)).alloc (.cells #[.int .i64 0] 3)) (.cells #[.pointer (some ⟨d, 1, none⟩)] 154)
    rw [World.size_alloc, World.size_alloc] at h1
    rw [hwl]
    exact h1
  have hgood : ∀ f ∈ D.files, f.synced ≤ f.bytes.length ∧ f.bytes.length ≤ 1048576 := fun f hf => ⟨hD.good.synced f hf, hD.good.small hf⟩
  refine (callsIn_wide (n := 6)).1 ?_
  refine callsIn_of_wp_marks Try.func70 rfl trivial ?_ rfl
  simp only [Try.ntmps70, List.size_toArray, List.length_cons, List.length_nil, Nat.reduceAdd, Nat.reduceSub, Array.replicate_succ, Array.replicate_zero, List.push_toArray, List.append_toArray, List.nil_append, List.cons_append]
  gi_wp2_with (refine ⟨trivial, ?_⟩; gi_at_call 93; refine (all_in _ _ _).mono ?_; rintro e w' ⟨rfl, rfl⟩)
  rw [← hwl]
  clear hwl
  refine wpIn_rangeFunc_ownG rfl (by decide) (gf := 111) (lb := #[.pointer (some ⟨w.heap.size + 1 + 1, 0, none⟩)]) (by simp [Act.eval]) trivial (enters_of Try.func111 (by kernel_rfl) rfl)
    (all_stops tg o d D.files ps hl 5 (by decide) (w.heap.size + 1 + 1) w wl h.map hQ (by simp [World.cell?, hb2]) (by omega)) (fun h k => KeepSet.trans h k) (KeepSet.put (fun k hk => hk.elim (fun e => by omega) (fun e => by have := e.1; omega))) (Below.refl _ _) (fun _ => rfl)
    (fun pre W => CrashIn w tg o d D ids ps ks (.slice ko ks.length kc) (pre.map fun x => x.1) W)
    (fun _ _ _ => False) ?hI (fun _ _ _ _ _ hs _ _ => hs) ?h0
    (fun x => { tmps := #[.pointer (some ⟨d, 0, none⟩), .slice ko ks.length kc, undef, .pointer (some ⟨w.heap.size, 0, none⟩), .pointer (some ⟨w.heap.size + 1, 0, none⟩), undef, .pointer (some ⟨ps[x.1]?.getD 0, 0, none⟩), undef, .pointer (some ⟨d, 0, none⟩), .pointer (some ⟨d, 0, none⟩), .pointer (some ⟨d, 1, none⟩), .func (.func 111) #[] #[.pointer (some ⟨w.heap.size + 1 + 1, 0, none⟩)], .string D.files[x.1].name, .pointer (some ⟨ps[x.1]?.getD 0, 0, none⟩), undef, undef, undef, undef, undef, undef, undef, undef, undef, undef, undef, undef, undef, undef, undef, undef, undef, undef, undef], defers := [] }) ?assign ?body ?done ?stop
  case hI =>
    intro pre A B row hs hg hr
    exact hs.kept hg (fun r e => by have := (hr r e).1; omega)
  case h0 => exact ⟨h.keep hQ.below.size (fun k hk => Tags.more_old hk) (fun k hk _ => hQ.below.block k hk), hb0, hb1, Only.of_q hQ, by omega⟩
  case assign =>
    intro l x W K hK
    simp only [mapEntry]
    gi_wp2
    exact hK
  case body =>
    rintro l pre x W hC hlen
    have hx : x.1 < ps.length := by have := h.map.len; simp at this; have := x.2; omega
    have hxi : x.1 < ids.length := by rw [h.lenI]; exact x.2
    obtain ⟨_, _, hFw⟩ := h.file x.1 _ _ _ (List.getElem?_eq_getElem hx) (List.getElem?_eq_getElem hxi) (List.getElem?_eq_getElem x.2)
    have hlp : (pre.map fun x => x.1).length = pre.length := by simp
    obtain ⟨pr, hpr⟩ : ∃ pr, (pre.map fun x => x.1) = pr := ⟨_, rfl⟩
    have hpr2 : ((pre ++ [x]).map fun x => x.1) = pr ++ [x.1] := by rw [← hpr]; simp
    rw [hpr] at hC hlp
    obtain ⟨hgl, hgm⟩ := crashTo_good ks hgood pr
    have hxc : x.1 < (crashTo ks pr D.files).length := by rw [hgl]; exact x.2
    obtain ⟨f, hf⟩ : ∃ f, (crashTo ks pr D.files)[x.1]? = some f := ⟨_, List.getElem?_eq_getElem hxc⟩
    have hfg := hgm f (List.mem_of_getElem? hf)
    obtain ⟨bo, bc, hF⟩ := hC.disk.file x.1 _ _ _ (List.getElem?_eq_getElem hx) (List.getElem?_eq_getElem hxi) hf
    have hpe : ps[x.1]?.getD 0 = ps[x.1] := by simp [List.getElem?_eq_getElem hx]
    rw [hpe]
    have hpx := List.getElem?_eq_getElem hx
    have hix := List.getElem?_eq_getElem hxi
    have hpw := hFw.top
    have htp := hFw.tp
    generalize ps[x.1] = p at *
    generalize ids[x.1] = id at *
    have HFC : Hid _ := fun (W' : World) (e : W'.heap = W.heap) => fileCrash (tg.more w.heap.size (o + 1) 0) o p id f bo bc (ks.getD pr.length 0) hfg.1 hfg.2 W' (hF.heapEq e)
    have HNX : Hid _ := fun (w4 : World) (a : LFileAt w4 (tg.more w.heap.size (o + 1) 0) o p id (crashedBy (ks.getD pr.length 0) f) bo bc) (b : W.grownBy w4 (some p)) => hC.next hpx hix hf hpw htp a b
    have k0 : W.cell? ⟨w.heap.size, 0, none⟩ = some (.slice ko ks.length kc) := by simp [World.cell?, hC.bk]
    have k1 : W.cell? ⟨w.heap.size + 1, 0, none⟩ = some (.int .i64 (pr.length : Nat)) := by simp [World.cell?, hC.bi]
    have hprl : pr.length < 64 := by omega
    have hwr : IntKind.i64.wrap ((pr.length : Int) + 1) = (pr.length : Int) + 1 := by rw [IntKind.wrap_i64]; omega
    have hcast : ((pr.length + 1 : Nat) : Int) = (pr.length : Int) + 1 := by omega
    have HC : Hid _ := hC
    have HPR : Hid _ := hpr2
    have HDW : Hid (w.heap.size + 1 < W.heap.size) := by have := hC.bs; show _ < _; omega
    clear hQ h hFw hC hF hgm hfg hb0 hb1 hb2 hpx hix hf hpw htp hpr hpr2 hgood hgl hxc hx hxi hpe hlp hlen
    by_cases hik : pr.length < ks.length
    · obtain ⟨b, off, hko, hcell, hbw, hbo⟩ := HK.out pr.length _ (List.getElem?_eq_getElem hik)
      subst hko
      have hcW : W.cell? ⟨b, off + pr.length, none⟩ = some (.int .i64 ks[pr.length]) := (World.cell?_of_block (a := ⟨b, off + pr.length, none⟩) (HC.out.only.block b hbw hbo)).trans hcell
      have hgd : ks.getD pr.length 0 = ks[pr.length] := by simp [List.getD, List.getElem?_eq_getElem hik]
      rw [hgd] at HFC HNX
      generalize ks[pr.length] = kx at *
      have i1 : (pr.length : Int) < (ks.length : Int) := by omega
      have i2 : decide ((pr.length : Int) < (ks.length : Int)) = true := by rw [decide_eq_true_eq]; omega
      clear hcell hgd HC
      gi_wp2_with (refine ⟨trivial, ?_⟩; gi_at_call 95; refine (CallsIn.inRound l (callsIn_wide.2 (HFC.out _ rfl))).mono ?_; rintro e w4 ⟨rfl, a4, g4⟩; obtain ⟨z1, z2, z3, z4, z5⟩ := HNX.out w4 a4 g4; have HZ : Hid _ := And.intro z1 (And.intro z2 z3); clear z1 z2 z3 a4 g4)
      rw [hcast] at HZ
      exact ⟨by rw [hsl]; exact HZ.out.2.1, HZ.out.2.2, by show CrashIn _ _ _ _ _ _ _ _ _ ((pre ++ [x]).map fun x => x.1) _; rw [HPR.out]; exact HZ.out.1⟩
    · have hgd : ks.getD pr.length 0 = 0 := by simp [List.getD, List.getElem?_eq_none (Nat.le_of_not_lt hik)]
      rw [hgd] at HFC HNX
      have i2 : decide ((pr.length : Int) < (ks.length : Int)) = false := by rw [decide_eq_false_iff_not]; omega
      clear hgd HC
      gi_wp2_with (refine ⟨trivial, ?_⟩; gi_at_call 95; refine (CallsIn.inRound l (callsIn_wide.2 (HFC.out _ rfl))).mono ?_; rintro e w4 ⟨rfl, a4, g4⟩; obtain ⟨z1, z2, z3, z4, z5⟩ := HNX.out w4 a4 g4; have HZ : Hid _ := And.intro z1 (And.intro z2 z3); clear z1 z2 z3 a4 g4)
      rw [hcast] at HZ
      exact ⟨by rw [hsl]; exact HZ.out.2.1, HZ.out.2.2, by show CrashIn _ _ _ _ _ _ _ _ _ ((pre ++ [x]).map fun x => x.1) _; rw [HPR.out]; exact HZ.out.1⟩
  case done =>
    rintro E ys W hE rfl hC hK
    rw [finRange_vals] at hC
    have hd4 := hC.disk.map.top
    have c3 := hC.disk.c3
    have c4 := hC.disk.c4
    have f3 := hC.disk.map.fr 3
    have f4 := hC.disk.map.fr 4
    have hdw : d < w.heap.size := h.map.top
    have HC : Hid _ := hC
    clear hC hQ h hb0 hb1 hb2
    gi_wp2
    have hEd : E ≠ d := by omega
    have hK2 : ((W.setCell ⟨d, 3, none⟩ (.bool false)).setCell ⟨d, 4, none⟩ (.int .i64 0)).heap[E]? = some (.deferred (some [])) := by
      rw [heap_setCell_other _ ⟨d, 4, none⟩ E _ hEd, heap_setCell_other _ ⟨d, 3, none⟩ E _ hEd]
      exact hK
    have hfin : LEnded tg o d (D.crash ks) w (((W.setCell ⟨d, 3, none⟩ (.bool false)).setCell ⟨d, 4, none⟩ (.int .i64 0)).putObj E (.deferred none)) := by
      have hd0 := (HC.out.disk.deadSet false).fuseSet 0
      rw [crashTo_all] at hd0
      refine ⟨tg.more w.heap.size (o + 1) 0, ids, ps, fun k hk => Tags.more_old hk, hd0.keep (by simp) (fun _ _ => rfl) (fun k _ e => World.putObj_heap_other (fun er => ?_)), ?_⟩
      · subst er
        rw [Tags.more_new (by omega)] at e
        simp at e
      · have htd : tg d = (o, 0) := by
          have := HC.out.disk.map.td
          rwa [Tags.more_old hdw] at this
        have ho := only_set (only_set HC.out.only (fun k _ e => by rw [e, htd]) 3 (.bool false)) (fun k _ e => by rw [e, htd]) 4 (.int .i64 0)
        exact ho.grown (grownBy_putObj' _ E (.deferred none)) (fun r e => by cases e; omega)
    refine ⟨by simp, .inl ⟨_, _, rfl, run_takeDeferred hK2, ?_⟩⟩
    exact ⟨_, results_none rfl _ _ _, rfl, hfin⟩
  case stop =>
    rintro D c pre W _ _ h _
    exact h.elim
end Go.Proofs.Ytekdenkllipehaa
