import Derived.Test.YtekdenkllipehaaDoorRecMem
import Derived.Test.YtekdenkllipehaaDoorParseM
import Derived.Laws.OwnMore
import Derived.Laws.CopyRow
import Derived.Laws.Cells
import Derived.Test.YtekdenkllipehaaDoorFitAll
/-
  Laws for records: an append that keeps what it is put to; one record stored in a row; a row copied.
-/
namespace Go.Proofs.YtekdenkllipehaaDoor
open Go.RowKit

/-- Below a row's length an append changes no cell. -/
theorem append_keeps {P : Program} {w : World} {base : Nat} {t ty e : TypeId} {i : TypeInfo} {z : Value} {size bytes : Nat} (ht : P.underlying t = some (.slice e)) (hi : P.info? e = some i) (hz : i.zero = some z)
    (hsize : i.size = size) (hby : i.bytes = bytes) (hzs : z.cells.size = size) (hsz : 0 < size)
    {v : Value} {n : Nat} {xs : List Value} (hown : w.ownsRow base e size v n xs)
    {a : Addr} {m c : Nat} {news : List Value} (hl : news.length = m * size) (hnews : ∀ j u, news[j]? = some u → w.cell? (a.add j) = some u) (h1 : ∀ u ∈ news, u.oneCell' = true)
    (hm : 0 < m) (h63 : n + m ≤ maxLen) (hbytes : (n + m) * bytes ≤ 140737488355328) {v' : Value} {w' : World}
    (hrun : (Builtin.append_ #[t, t] ty #[v, .slice (some a) m c]).run P w = .ok v' w') :
    ∀ k j, k < w.heap.size → (v.ownBlock = some k → j < n * size) → w'.cell? ⟨k, j, none⟩ = w.cell? ⟨k, j, none⟩ := by
  intro k j hk hj
  subst hsize
  subst hby
  have hsmall : n + m ≤ 9223372036854775807 := by simp only [maxLen] at h63; omega
  rcases hown.2 with ⟨rfl, rfl⟩ | ⟨g, cap, cur, rfl, hbg, hg, hnc, hcm, hcs, htake⟩
  · have hx : xs = [] := List.eq_nil_of_length_eq_zero (by simpa using hown.1)
    subst hx
    have hr := run_append_nil (P := P) w t ty e i z ht hi hz a m c news hl hnews (by omega) (by omega) (by have hb := hbytes; simp only [Nat.zero_add] at hb; omega)
    rw [hr] at hrun
    injection hrun with _ hw
    subst hw
    exact World.cell?_of_block (heap_alloc_old w.drew _ hk)
  · by_cases hroom : n + m ≤ cap
    · have hfit : n * i.size + news.length ≤ cur.size := by rw [hl, hcs, ← Nat.add_mul]; exact Nat.mul_le_mul_right _ hroom
      have hr := run_append_room (P := P) w t ty e i ht hi g n cap cur hg a m c news hl hnews h1 hroom hfit
      rw [hr] at hrun
      injection hrun with _ hw
      subst hw
      by_cases hkg : k = g
      · subst hkg
        have hjn := hj rfl
        rw [cell_of_row _ k j _ e (0, 0) (setRow_heap w k cur _ e _ hg), cell_of_row w k j cur e (0, 0) hg]
        have hjc : j < cur.size := by omega
        rw [List.getElem?_toArray, List.append_assoc, List.getElem?_append_left (by simp; omega), List.getElem?_take_of_lt hjn]
        simp
      · exact World.cell?_of_block (setRow_other w g k _ hkg)
    · have holds : ∀ j u, xs[j]? = some u → w.cell? ((⟨g, 0, none⟩ : Addr).add j) = some u := hown.cells (g := g) rfl
      have hr := run_append_grow (P := P) w t ty e i z ht hi hz ⟨g, 0, none⟩ n cap xs hown.1 holds a m c news hl hnews (by omega) (by omega) (growslice_fits (by omega) hbytes)
      rw [hr] at hrun
      injection hrun with _ hw
      subst hw
      exact World.cell?_of_block (heap_alloc_old w.drew _ hk)

/-- append on a row of the call's own, for the walk; cells below the row's length stay. -/
theorem wpList_append_keeps {P : Program} {w : World} {ops : Array Oper} {rest : List Oper} {o : Oper} {a : Act} {Q : Exit → Act → World → Prop} (hgd : o.guard = none) (s x : Operand) (t : TypeId)
    (ho : o.op = .call { callee := .builtin .append, args := #[s, x], argTypes := #[t, t] })
    (base : Nat) (e : TypeId) (i : TypeInfo) (z : Value) (size bytes : Nat) (ht : P.underlying t = some (.slice e)) (hi : P.info? e = some i) (hz : i.zero = some z)
    (hsize : i.size = size) (hby : i.bytes = bytes) (hzs : z.cells.size = size) (hsz : 0 < size)
    (v : Value) (n : Nat) (xs : List Value) (hs : a.eval s = v) (hown : w.ownsRow base e size v n xs)
    (ad : Addr) (m c : Nat) (news : List Value) (hx : a.eval x = .slice (some ad) m c) (hl : news.length = m * size) (hnews : ∀ j u, news[j]? = some u → w.cell? (ad.add j) = some u) (h1 : ∀ u ∈ news, u.oneCell' = true)
    (hm : 0 < m) (h63 : n + m ≤ maxLen) (hbytes : (n + m) * bytes ≤ 140737488355328) (hbase : base ≤ w.heap.size)
    (h : ∀ v' w', w'.ownsRow base e size v' (n + m) (xs ++ news) → w.grownBy w' v.ownBlock → (∀ k j, k < w.heap.size → (v.ownBlock = some k → j < n * size) → w'.cell? ⟨k, j, none⟩ = w.cell? ⟨k, j, none⟩) → wpList P ops Q rest (a.put o.dst v') w') : wpList P ops Q (o :: rest) a w := by
  refine wpList_plain hgd fun _ hK => ?_
  obtain ⟨v', w', hr, h2, h3, _⟩ := run_append_own (P := P) w base t o.type e i z size bytes ht hi hz hsize hby hzs hsz v n xs hown ad m c news hl hnews h1 h63 hbytes hbase
  have h4 := append_keeps (ty := o.type) ht hi hz hsize hby hzs hsz hown hl hnews h1 hm h63 hbytes hr
  unfold Oper.wp execOp
  simp only [ho, resolve, invoke, builtin, Sem.run_bind, Sem.run_pure, Result.andThen_ok, List.map_toArray, List.map_cons, List.map_nil, hs, hx, hr]
  exact hK _ _ (h v' w' h2 h3 h4)

theorem set_cells : ∀ (L : List Rec) (k : Nat) (r : Rec), k < L.length → ((((recCells L).set (k * 4) (.string r.key)).set (k * 4 + 1) (.int .i64 r.stamp)).set (k * 4 + 2) (.int .i64 r.kind)).set (k * 4 + 3) (.string r.body) = recCells (L.set k r)
  | [], _, _, h => by simp at h
  | t :: L, 0, r, _ => rfl
  | t :: L, k + 1, r, h => by
    have e : recCells (t :: L) = .string t.key :: .int .i64 t.stamp :: .int .i64 t.kind :: .string t.body :: recCells L := rfl
    have ih := set_cells L k r (by simpa using h)
    have e2 : recCells ((t :: L).set (k + 1) r) = .string t.key :: .int .i64 t.stamp :: .int .i64 t.kind :: .string t.body :: recCells (L.set k r) := rfl
    rw [e, e2, ← ih, show (k + 1) * 4 = k * 4 + 1 + 1 + 1 + 1 by omega]
    rfl

/-- One record stored in a row of the call's own. -/
theorem row_stored {w : World} {base g cap : Nat} {L : List Rec} (h : w.ownsRow base 30 4 (.slice (some ⟨g, 0, none⟩) L.length cap) L.length (recCells L)) {k : Nat} (hk : k < L.length) (r : Rec) :
    ((((w.setCell ⟨g, k * 4, none⟩ (.string r.key)).setCell ⟨g, k * 4 + 1, none⟩ (.int .i64 r.stamp)).setCell ⟨g, k * 4 + 2, none⟩ (.int .i64 r.kind)).setCell ⟨g, k * 4 + 3, none⟩ (.string r.body)).ownsRow base 30 4 (.slice (some ⟨g, 0, none⟩) L.length cap) L.length (recCells (L.set k r)) ∧
    w.grownBy ((((w.setCell ⟨g, k * 4, none⟩ (.string r.key)).setCell ⟨g, k * 4 + 1, none⟩ (.int .i64 r.stamp)).setCell ⟨g, k * 4 + 2, none⟩ (.int .i64 r.kind)).setCell ⟨g, k * 4 + 3, none⟩ (.string r.body)) (some g) := by
  obtain ⟨h1, g1⟩ := h.stored (k * 4) (.string r.key)
  obtain ⟨h2, g2⟩ := h1.stored (k * 4 + 1) (.int .i64 r.stamp)
  obtain ⟨h3, g3⟩ := h2.stored (k * 4 + 2) (.int .i64 r.kind)
  obtain ⟨h4, g4⟩ := h3.stored (k * 4 + 3) (.string r.body)
  rw [set_cells L k r hk] at h4
  refine ⟨h4, ?_⟩
  exact grown_set (grown_set (grown_set (set_grown w g (k * 4) (.string r.key)) _) _) _

theorem recCells_plain (rs : List Rec) : ∀ u ∈ recCells rs, u.oneCell' = true := by
  intro u hu
  simp only [recCells, List.mem_flatMap] at hu
  obtain ⟨r, _, hr⟩ := hu
  exact rec_cells_one r u hr

/-- Records that lie in memory, cell by cell. -/
theorem recs_cells {w : World} {b off : Nat} {rs : List Rec} (h : RecsAt w b off rs) : ∀ j v, (recCells rs)[j]? = some v → w.cell? ⟨b, off + j, none⟩ = some v := by
  intro j v hj
  have hl := recCells_length rs
  have hjl : j < rs.length * 4 := by rw [← hl]; exact (List.getElem?_eq_some_iff.1 hj).1
  have hk : j / 4 < rs.length := by omega
  have hg : rs[j / 4]? = some rs[j / 4] := List.getElem?_eq_getElem hk
  obtain ⟨h0, h1, h2, h3⟩ := h _ _ hg
  obtain ⟨c0, c1, c2, c3⟩ := recCells_get hg
  have hc : j = j / 4 * 4 ∨ j = j / 4 * 4 + 1 ∨ j = j / 4 * 4 + 2 ∨ j = j / 4 * 4 + 3 := by omega
  rcases hc with e | e | e | e
  · rw [e] at hj ⊢; rw [c0] at hj; rw [← hj]; exact h0
  · rw [e] at hj ⊢; rw [c1] at hj; rw [← hj]; exact h1
  · rw [e] at hj ⊢; rw [c2] at hj; rw [← hj]; exact h2
  · rw [e] at hj ⊢; rw [c3] at hj; rw [← hj]; exact h3

/-- A row copied over the head of another, whatever an element's cells. -/
theorem run_copy_rec {P : Program} (w : World) (dT sT ty elem : TypeId) (g dLen dCap : Nat) (a : Addr) (sLen sCap : Nat) (cur : Array Value) (t : TypeId) (cs : List Value) (i : TypeInfo)
    (hu : P.underlying dT = some (.slice elem)) (hi : P.info? elem = some i)
    (hg : w.heap[g]? = some (.cells cur t (0, 0))) (hle : sLen ≤ dLen) (hn : cs.length = sLen * i.size)
    (hsrc : ∀ j v, cs[j]? = some v → w.cell? (a.add j) = some v) (hfit : cs.length ≤ cur.size) (h1 : ∀ v ∈ cs, v.oneCell' = true) :
    (Builtin.copy_ #[dT, sT] ty #[.slice (some ⟨g, 0, none⟩) dLen dCap, .slice (some a) sLen sCap]).run P w =
      .ok (goInt sLen) (w.setRow g (cs ++ cur.toList.drop cs.length).toArray) := by
  have hl := run_loadCells_list (P := P) w a cs hsrc
  have hst := run_storeCells_at P g 0 t cs 0 cur w hg (by simpa using hfit) h1
  have hmin : Nat.min sLen dLen = sLen := Nat.min_eq_left hle
  simp only [Nat.add_zero, Nat.zero_add, List.take_zero, List.nil_append] at hst
  simp [Builtin.copy_, run_underlying hu, Builtin.lenOf, Builtin.firstCells, sizeOf, typeInfo, hi, hmin, ← hn, hl, hst]
end Go.Proofs.YtekdenkllipehaaDoor

/-
  The law's own functions: bad, sameRecords, all.
-/
namespace Go.Proofs.YtekdenkllipehaaDoor
open Go.RowKit

/-- What the owner of a list writes into it. -/
def badRec (n : Nat) : Rec := ⟨⟨#[116, 104, 101, 32, 99, 97, 108, 108, 101, 114, 39, 115]⟩, -9 - (n : Int), -9, ⟨#[]⟩⟩

set_option maxRecDepth 100000 in
theorem bad_any (n : Nat) (hn : n ≤ 1) (w : World) :
    Calls Tryd.prog 12 #[.int .i64 (n : Int)] w fun e w' => e = .returned (badRec n).val ∧ Q w w' := by
  have hw : IntKind.i64.wrap (-9 - (n : Int)) = -9 - (n : Int) := by rw [IntKind.wrap_i64]; omega
  simp only [badRec, Rec.val]
  go_enter Tryd.func12, Tryd.ntmps12
  go_wp2_with fail
  refine bodyPost_ret (v := .agg #[.string ⟨#[116, 104, 101, 32, 99, 97, 108, 108, 101, 114, 39, 115]⟩, .int .i64 (-9 - (n : Int)), .int .i64 (-9), .string ⟨#[]⟩]) (by simp [results, Tryd.results12, go_sem]) rfl ?_
  exact ⟨rfl, (Q.refl w).alloc _ _⟩

set_option maxRecDepth 100000 in
set_option maxHeartbeats 400000 in
theorem sameRecords_yes (rs : List Rec) (ao bo : Option Addr) (ca cb : Nat) (w : World) (ha : Rcs w ao rs) (hb : Rcs w bo rs) (hl : rs.length ≤ 140737488351232) :
    Calls Tryd.prog 15 #[.slice ao rs.length ca, .slice bo rs.length cb] w fun e w' => e = .returned (.bool true) ∧ Q w w' := by
  have HA : Hid (Rcs w ao rs) := ha
  have HB : Hid (Rcs w bo rs) := hb
  clear ha hb
  go_enter Tryd.func15, Tryd.ntmps15
  go_wp2_with fail
  go_loopw [5] (fun i wr => ∃ k : Nat, i = .int .i64 k ∧ k ≤ rs.length ∧ Q w wr) (fun i _ => rs.length - (intOf i).toNat)
  case atStart => exact ⟨0, rfl, Nat.zero_le _, Q.refl w⟩
  case round =>
    obtain ⟨k, rfl, hk, hq⟩ := hrel
    by_cases hlt : k < rs.length
    · obtain ⟨b, off, rfl, hb, hat⟩ := (HA.out.kept hq).at hlt
      obtain ⟨b', off', rfl, hb', hat'⟩ := (HB.out.kept hq).at hlt
      have hg : rs[k]? = some rs[k] := List.getElem?_eq_getElem hlt
      obtain ⟨c0, c1, c2, c3⟩ := hat k _ hg
      obtain ⟨d0, d1, d2, d3⟩ := hat' k _ hg
      generalize rs[k] = r at *
      have i1 : (k : Int) < (rs.length : Int) := by omega
      have i0 : (0 : Int) ≤ (k : Int) := by omega
      clear hat hat' hg
      go_wp2_with fail
      go_quiet (fail)
      go_wp2_with fail
      go_roundw
      case rel => exact ⟨k + 1, by go_num, by omega, hq.drewN _⟩
      case measure => simp [intOf]; omega
    · obtain rfl : k = rs.length := by omega
      go_wp2_with fail
      go_ret
      exact ⟨rfl, hq⟩

set_option maxRecDepth 100000 in
set_option maxHeartbeats 400000 in
theorem all_yes (rs : List Rec) (r : Rec) (hr : ∀ x ∈ rs, x = r) (ao : Option Addr) (ca : Nat) (w : World) (ha : Rcs w ao rs) (hl : rs.length ≤ 140737488351232) :
    Calls Tryd.prog 18 #[.slice ao rs.length ca, r.val] w fun e w' => e = .returned (.bool true) ∧ Q w w' := by
  have HA : Hid (Rcs w ao rs) := ha
  have HR : Hid _ := hr
  simp only [Rec.val]
  clear ha hr
  go_enter Tryd.func18, Tryd.ntmps18
  go_wp2_with fail
  go_loopw [5] (fun i wr => ∃ k : Nat, i = .int .i64 k ∧ k ≤ rs.length ∧ Q (w.alloc (.cells #[.string r.key, .int .i64 r.stamp, .int .i64 r.kind, .string r.body] 30)) wr) (fun i _ => rs.length - (intOf i).toNat)
  case atStart => exact ⟨0, rfl, Nat.zero_le _, Q.refl _⟩
  case round =>
    obtain ⟨k, rfl, hk, hq⟩ := hrel
    have hqw : Q w wr := ((Q.refl w).alloc _ _).trans hq
    by_cases hlt : k < rs.length
    · obtain ⟨b, off, rfl, hb, hat⟩ := (HA.out.kept hqw).at hlt
      have hg : rs[k]? = some rs[k] := List.getElem?_eq_getElem hlt
      obtain ⟨c0, c1, c2, c3⟩ := hat k _ hg
      have hrk := HR.out _ (List.mem_of_getElem? hg)
      rw [hrk] at c0 c1 c2 c3
      have d0 : wr.cell? ⟨w.heap.size, 0, none⟩ = some (.string r.key) := kept_cell (by simp) hq
      have d1 : wr.cell? ⟨w.heap.size, 1, none⟩ = some (.int .i64 r.stamp) := kept_cell (by simp) hq
      have d2 : wr.cell? ⟨w.heap.size, 2, none⟩ = some (.int .i64 r.kind) := kept_cell (by simp) hq
      have d3 : wr.cell? ⟨w.heap.size, 3, none⟩ = some (.string r.body) := kept_cell (by simp) hq
      have i1 : (k : Int) < (rs.length : Int) := by omega
      have i0 : (0 : Int) ≤ (k : Int) := by omega
      clear hat hg hrk
      go_wp2_with fail
      go_quiet (fail)
      go_wp2_with fail
      go_roundw
      case rel => exact ⟨k + 1, by go_num, by omega, hq.drewN _⟩
      case measure => simp [intOf]; omega
    · obtain rfl : k = rs.length := by omega
      go_wp2_with fail
      go_ret
      exact ⟨rfl, hqw⟩
end Go.Proofs.YtekdenkllipehaaDoor
