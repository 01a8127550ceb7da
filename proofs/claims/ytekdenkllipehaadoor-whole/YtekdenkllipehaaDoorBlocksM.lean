/-
  For the law on blocks: what both Builds and both Parses answer; the list that is handed in.
-/
import Derived.Test.YtekdenkllipehaaDoorLawFns
import Derived.Test.YtekdenkllipehaaDoorRefBuildOwn
namespace Go.Proofs.YtekdenkllipehaaDoor
open Go.RowKit

set_option maxRecDepth 100000 in
set_option maxHeartbeats 400000 in
theorem refBuild_empty (ao : Option Addr) (cap : Nat) (w : World) :
    Calls Tryd.prog 14 #[.slice ao 0 cap] w fun e w' => e = builtEnd (textTo [] 0) ∧ Q w w' := by
  obtain ⟨p, hp, HP, HW0⟩ := piece 0 (by omega)
  have hS := fun w => refSeal_any p (by omega) w
  rw [HP.out] at hS
  have HS : Hid _ := hS
  clear hS
  go_enter Tryd.func14, Tryd.ntmps14
  go_wp2_with fail
  refine (HW0.out _).mono ?_
  rintro e w1 ⟨rfl, q1⟩
  go_wp2_with fail
  go_loopw [4, 5] (fun s i wr => i = .int .i64 0 ∧ s = .string p ∧ Q w wr) (fun _ _ _ => 0)
  case atStart => exact ⟨rfl, rfl, q1⟩
  case round =>
    obtain ⟨rfl, rfl, hq⟩ := hrel
    go_wp2_with fail
    refine (HS.out _).mono ?_
    rintro e w2 ⟨rfl, q2⟩
    go_wp2_with fail
    go_ret2
    exact ⟨rfl, hq.trans ⟨q2⟩⟩

theorem refBuild_arg (rs : List Rec) (ao : Option Addr) (cap : Nat) (w : World) (h : Rcs w ao rs) (hwf : ∀ r ∈ rs, r.Wf) (hl : rs.length ≤ 140737488351232) :
    Calls Tryd.prog 14 #[.slice ao rs.length cap] w fun e w' => e = builtEnd (plainText rs) ∧ Q w w' := by
  unfold plainText
  by_cases h64 : 64 < rs.length
  · rw [if_pos h64]
    refine (refBuild_many ao rs.length cap h64 hl w).mono ?_
    rintro e w' ⟨rfl, rfl⟩
    exact ⟨rfl, Q.refl _⟩
  · rw [if_neg h64]
    rcases h with rfl | ⟨b, off, rfl, hb, hr⟩
    · exact refBuild_empty ao cap w
    · exact refBuild_few b off cap rs (by omega) hwf w hr hb

/-- What Build answers: a text and an error. -/
theorem built_form (o : Option (List UInt8)) : ∃ (x : ByteArray) (c : Int), builtEnd o = .returned (.tuple #[.string x, .int .i64 c]) := by
  cases o with
  | none => exact ⟨_, _, rfl⟩
  | some t => exact ⟨_, _, rfl⟩

/-- Whoever parses a text well answers just these records and this error. -/
theorem parsed_same (s : ByteArray) : ∃ (L : List Rec) (c : Int), L.length ≤ 64 ∧ ∀ w e w', ParsedAny s w e w' → ∃ (ao : Option Addr) (cap base : Nat), e = .returned (.tuple #[.slice ao L.length cap, .int .i64 c]) ∧ w.heap.size ≤ base ∧ w'.ownsRow base 30 4 (.slice ao L.length cap) L.length (recCells L) := by
  have hnil : ∀ (c : Int) (w : World) (e : Ending) (w' : World), e = .returned (.tuple #[.slice none 0 0, .int .i64 c]) → ∃ (ao : Option Addr) (cap base : Nat), e = .returned (.tuple #[.slice ao ([] : List Rec).length cap, .int .i64 c]) ∧ w.heap.size ≤ base ∧ w'.ownsRow base 30 4 (.slice ao ([] : List Rec).length cap) ([] : List Rec).length (recCells []) := fun c w e w' he =>
    ⟨none, 0, w.heap.size, he, Nat.le_refl _, World.ownsRow_nil _ _ _ _⟩
  by_cases h4 : s.size < 4
  · refine ⟨[], 2, by simp, fun w e w' h => ?_⟩
    rcases h with ⟨_, he⟩ | ⟨h, _⟩ | ⟨T, hT, _⟩
    · exact hnil 2 w e w' he
    · omega
    · have : s.size = T.data.toList.length + 4 := by
        rw [← hT]
        show (M.sealed T.data.toList).toArray.size = _
        simp [M.sealed_length]
      omega
  · by_cases hse : ∃ T : ByteArray, sealText T.data.toList = s
    · obtain ⟨T, hT⟩ := hse
      have huniq : ∀ T' : ByteArray, sealText T'.data.toList = s → T'.data.toList = T.data.toList := fun T' h' => sealText_inj (h'.trans hT.symm)
      by_cases hl : ∃ l, plainText l = some T.data.toList
      · obtain ⟨l, hp⟩ := hl
        refine ⟨l, 0, (plainText_some hp).1, fun w e w' h => ?_⟩
        rcases h with ⟨h, _⟩ | ⟨_, h, _⟩ | ⟨T', hT', h⟩
        · omega
        · exact absurd hT (h _)
        · rcases h with ⟨l', ao, cap, base, he, hp', hb, ho⟩ | ⟨_, hno⟩
          · rw [huniq T' hT'] at hp'
            have := plainText_inj hp' hp
            subst this
            exact ⟨ao, cap, base, he, hb, ho⟩
          · rw [huniq T' hT'] at hno
            exact absurd hp (hno l)
      · refine ⟨[], 2, by simp, fun w e w' h => ?_⟩
        rcases h with ⟨h, _⟩ | ⟨_, h, _⟩ | ⟨T', hT', h⟩
        · omega
        · exact absurd hT (h _)
        · rcases h with ⟨l', ao, cap, base, he, hp', hb, ho⟩ | ⟨he, hno⟩
          · rw [huniq T' hT'] at hp'
            exact absurd ⟨l', hp'⟩ hl
          · exact hnil 2 w e w' he
    · refine ⟨[], 3, by simp, fun w e w' h => ?_⟩
      rcases h with ⟨h, _⟩ | ⟨_, _, he⟩ | ⟨T', hT', _⟩
      · omega
      · exact hnil 3 w e w' he
      · exact absurd ⟨T', hT'⟩ hse

/-- The copy that is handed in: the records, and one more behind them. -/
structure OAt (w : World) (g : Nat) (rs : List Rec) (x : Rec) : Prop where
  recs : RecsAt w g 0 rs
  c0 : w.cell? ⟨g, rs.length * 4, none⟩ = some (.string x.key)
  c1 : w.cell? ⟨g, rs.length * 4 + 1, none⟩ = some (.int .i64 x.stamp)
  c2 : w.cell? ⟨g, rs.length * 4 + 2, none⟩ = some (.int .i64 x.kind)
  c3 : w.cell? ⟨g, rs.length * 4 + 3, none⟩ = some (.string x.body)
  top : g < w.heap.size

theorem OAt.kept {w w' : World} {g : Nat} {rs : List Rec} {x : Rec} (h : OAt w g rs x) (q : Q w w') : OAt w' g rs x :=
  ⟨h.recs.kept q, kept_cell h.c0 q, kept_cell h.c1 q, kept_cell h.c2 q, kept_cell h.c3 q, Nat.lt_of_lt_of_le h.top q.below.size⟩

theorem OAt.rcs {w : World} {g : Nat} {rs : List Rec} {x : Rec} (h : OAt w g rs x) : Rcs w (some ⟨g, 0, none⟩) rs := Or.inr ⟨g, 0, rfl, h.top, h.recs⟩

theorem set_tail (A : List Value) (n : Nat) (hA : A.length = n * 4) (ys : List Value) (hy : ys.length = 4) (r : Rec) :
    ((((A ++ ys).set (n * 4) (.string r.key)).set (n * 4 + 1) (.int .i64 r.stamp)).set (n * 4 + 2) (.int .i64 r.kind)).set (n * 4 + 3) (.string r.body) = A ++ r.cells := by
  match ys, hy with
  | [a, b, c, d], _ =>
    rw [← hA]
    simp [Rec.cells]

/-- The row behind the records is stored. -/
theorem oat_stored {w : World} {base g : Nat} {rs : List Rec} {ys : List Value} (hy : ys.length = 4) (h : w.ownsRow base 30 4 (.slice (some ⟨g, 0, none⟩) (rs.length + 1) (rs.length + 1)) (rs.length + 1) (recCells rs ++ ys)) (r : Rec) :
    OAt ((((w.setCell ⟨g, rs.length * 4, none⟩ (.string r.key)).setCell ⟨g, rs.length * 4 + 1, none⟩ (.int .i64 r.stamp)).setCell ⟨g, rs.length * 4 + 2, none⟩ (.int .i64 r.kind)).setCell ⟨g, rs.length * 4 + 3, none⟩ (.string r.body)) g rs r := by
  obtain ⟨h1, g1⟩ := h.stored (rs.length * 4) (.string r.key)
  obtain ⟨h2, g2⟩ := h1.stored (rs.length * 4 + 1) (.int .i64 r.stamp)
  obtain ⟨h3, g3⟩ := h2.stored (rs.length * 4 + 2) (.int .i64 r.kind)
  obtain ⟨h4, g4⟩ := h3.stored (rs.length * 4 + 3) (.string r.body)
  rw [set_tail (recCells rs) rs.length (recCells_length rs) ys hy r, ← recCells_one, ← recCells_append] at h4
  have hl : (rs ++ [r]).length = rs.length + 1 := by simp
  rw [← hl] at h4
  obtain ⟨g', e, hlt, hat⟩ := own_recs h4 (by simp)
  simp only [Option.some.injEq, Addr.mk.injEq, and_true] at e
  subst e
  have hx := hat rs.length r (by simp)
  rw [Nat.zero_add] at hx
  refine ⟨fun i x hi => hat i x ?_, hx.1, hx.2.1, hx.2.2.1, hx.2.2.2, hlt⟩
  rw [List.getElem?_append_left (List.getElem?_eq_some_iff.1 hi).1]
  exact hi

/-- copy of a list of records into a row of the call's own. -/
theorem run_copy_recs (w : World) (ty : TypeId) (base g : Nat) (rs : List Rec) (ao : Option Addr) (cap : Nat) (xs : List Value)
    (hown : w.ownsRow base 30 4 (.slice (some ⟨g, 0, none⟩) (rs.length + 1) (rs.length + 1)) (rs.length + 1) xs) (hr : Rcs w ao rs) :
    ∃ w', (Builtin.copy_ #[28, 28] ty #[.slice (some ⟨g, 0, none⟩) (rs.length + 1) (rs.length + 1), .slice ao rs.length cap]).run Tryd.prog w = .ok (goInt rs.length) w' ∧
      w'.ownsRow base 30 4 (.slice (some ⟨g, 0, none⟩) (rs.length + 1) (rs.length + 1)) (rs.length + 1) (recCells rs ++ xs.drop (rs.length * 4)) ∧ w.grownBy w' (some g) := by
  obtain ⟨i0, hi, hz0, hz1, hz2⟩ := info_parts infoRecord
  have hcl := recCells_length rs
  rcases hown.2 with ⟨hv, _⟩ | ⟨g', c, cur, hv, hbg, hg, hnc, hcm, hcs, htake⟩
  · cases hv
  · injection hv with e1 e2 e3
    simp only [Option.some.injEq, Addr.mk.injEq, and_true] at e1
    subst e1
    subst e3
    have hxl := hown.1
    have hcur : cur.toList = xs := by rw [← htake, List.take_of_length_le (by simp; omega)]
    by_cases hne : rs = []
    · subst hne
      have hl : ∀ (x : Addr), (loadCells x 0).run Tryd.prog w = .ok #[] w := fun x => by simpa using run_loadCells_list (P := Tryd.prog) w x [] (by simp)
      refine ⟨w, ?_, by simpa [recCells] using hown, ⟨rfl, rfl, rfl, Nat.le_refl _, fun _ _ _ => rfl⟩⟩
      cases ao <;> simp [Builtin.copy_, run_underlying Tryd.underlying28, Builtin.lenOf, Builtin.firstCells, sizeOf, typeInfo, hi, storeCells, hl]
    · rcases hr with hr | ⟨b, off, rfl, hb, hat⟩
      · exact absurd hr hne
      · have hsrc : ∀ j v, (recCells rs)[j]? = some v → w.cell? ((⟨b, off, none⟩ : Addr).add j) = some v := by
          intro j v hj
          have hx : (⟨b, off, none⟩ : Addr).add j = ⟨b, off + j, none⟩ := by unfold Addr.add; split <;> simp_all
          rw [hx]
          exact recs_cells hat j v hj
        have hrun := run_copy_rec (P := Tryd.prog) w 28 28 ty 30 g (rs.length + 1) (rs.length + 1) ⟨b, off, none⟩ rs.length cap cur 30 (recCells rs) i0 Tryd.underlying28 hi hg (by omega) (by rw [hz1]; omega) hsrc (by rw [hcs]; omega) (recCells_plain rs)
        rw [hcur] at hrun
        exact ⟨_, hrun, ⟨by simp; omega, Or.inr ⟨g, rs.length + 1, (recCells rs ++ xs.drop (recCells rs).length).toArray, rfl, hbg, setRow_heap w g cur _ _ _ hg, hnc, hcm, by simp; omega, by rw [List.take_of_length_le (by simp; omega), hcl]⟩⟩, ⟨rfl, rfl, rfl, by simp, fun k _ hk => setRow_other w g k _ (fun e => hk (by simp [e]))⟩⟩

/-- A list of which the first k are written over. -/
def fillTo (L : List Rec) (r : Rec) (k : Nat) : List Rec := List.replicate k r ++ L.drop k

theorem fillTo_length {L : List Rec} {r : Rec} {k : Nat} (h : k ≤ L.length) : (fillTo L r k).length = L.length := by simp [fillTo]; omega
theorem fillTo_zero (L : List Rec) (r : Rec) : fillTo L r 0 = L := by simp [fillTo]
theorem fillTo_next {L : List Rec} {r : Rec} {k : Nat} (h : k < L.length) : (fillTo L r k).set k r = fillTo L r (k + 1) := by
  unfold fillTo
  rw [List.set_append_right _ _ (by simp), List.length_replicate, Nat.sub_self, List.drop_eq_getElem_cons h, List.set_cons_zero, List.replicate_succ', List.append_assoc]
  rfl
theorem fillTo_all (L : List Rec) (r : Rec) : fillTo L r L.length = List.replicate L.length r := by simp [fillTo]

/-- Records at the head of a row. -/
def Row0 (w : World) (ao : Option Addr) (L : List Rec) : Prop := L = [] ∨ ∃ b, ao = some ⟨b, 0, none⟩ ∧ b < w.heap.size ∧ RecsAt w b 0 L

theorem Row0.rcs {w : World} {ao : Option Addr} {L : List Rec} (h : Row0 w ao L) : Rcs w ao L := h.imp id fun ⟨b, e, hb, hr⟩ => ⟨b, 0, e, hb, hr⟩
theorem Row0.kept {w w' : World} {ao : Option Addr} {L : List Rec} (h : Row0 w ao L) (q : Q w w') : Row0 w' ao L := h.imp id fun ⟨b, e, hb, hr⟩ => ⟨b, e, Nat.lt_of_lt_of_le hb q.below.size, hr.kept q⟩
theorem row0_own {w : World} {base : Nat} {ao : Option Addr} {cap : Nat} {L : List Rec} (h : w.ownsRow base 30 4 (.slice ao L.length cap) L.length (recCells L)) : Row0 w ao L := by
  by_cases hne : L = []
  · exact Or.inl hne
  · obtain ⟨g, e, hg, hr⟩ := own_recs h hne
    exact Or.inr ⟨g, e, hg, hr⟩

/-- .. stay where an append changes no cell below a length that is not less. -/
theorem Row0.keeps {w w' : World} {ao : Option Addr} {L : List Rec} {v : Value} {n : Nat} (h : Row0 w ao L) (hn : L.length ≤ n) (hs : w.heap.size ≤ w'.heap.size)
    (hk : ∀ k j, k < w.heap.size → (v.ownBlock = some k → j < n * 4) → w'.cell? ⟨k, j, none⟩ = w.cell? ⟨k, j, none⟩) : Row0 w' ao L := by
  refine h.imp id fun ⟨b, e, hb, hr⟩ => ⟨b, e, Nat.lt_of_lt_of_le hb hs, fun i r hi => ?_⟩
  have hil := (List.getElem?_eq_some_iff.1 hi).1
  obtain ⟨h0, h1, h2, h3⟩ := hr i r hi
  exact ⟨(hk b _ hb (fun _ => by omega)).trans h0, (hk b _ hb (fun _ => by omega)).trans h1, (hk b _ hb (fun _ => by omega)).trans h2, (hk b _ hb (fun _ => by omega)).trans h3⟩

theorem own_mono {w : World} {base base' : Nat} {e : TypeId} {size : Nat} {v : Value} {n : Nat} {xs : List Value} (h : w.ownsRow base e size v n xs) (hle : base' ≤ base) : w.ownsRow base' e size v n xs :=
  ⟨h.1, h.2.imp id fun ⟨g, cap, cur, hv, hb, r⟩ => ⟨g, cap, cur, hv, Nat.le_trans hle hb, r⟩⟩

theorem replicate_cells (n : Nat) (r : Rec) : recCells (List.replicate n r) ++ r.cells = recCells (List.replicate (n + 1) r) := by
  rw [List.replicate_succ', recCells_append, recCells_one]
end Go.Proofs.YtekdenkllipehaaDoor
