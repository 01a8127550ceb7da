import Derived.Test.YtekdenkllipehaaDoorFitAll
import Derived.Test.YtekdenkllipehaaDoorScanM
import Derived.Test.YtekdenkllipehaaDoorRecMem
import Derived.Test.YtekdenkllipehaaDoorParseM
import Derived.Deep.DeepCutAuto
/-
  Records that are put in their place one by one: plain mathematics.
-/
namespace Go.Proofs.YtekdenkllipehaaDoor
open Go.RowKit

/-- Each record stands in order behind the one ahead of it. -/
def Lined : List Rec → Prop
  | a :: b :: l => a.wrong b = false ∧ Lined (b :: l)
  | _ => True

theorem Lined.tail {a : Rec} {l : List Rec} (h : Lined (a :: l)) : Lined l := by
  cases l with
  | nil => trivial
  | cons b l => exact h.2

theorem lined_insert (r : Rec) : ∀ (A B : List Rec), Lined (A ++ B) → (∀ a, A.getLast? = some a → a.wrong r = false) → (∀ b, B.head? = some b → r.wrong b = false) → Lined (A ++ r :: B)
  | [], [], _, _, _ => trivial
  | [], b :: B, h, _, h2 => ⟨h2 b rfl, h⟩
  | [a], B, h, h1, h2 => by
    refine ⟨h1 a rfl, ?_⟩
    cases B with
    | nil => trivial
    | cons b B => exact ⟨h2 b rfl, h.2⟩
  | a :: a' :: A, B, h, h1, h2 => by
    refine ⟨h.1, ?_⟩
    exact lined_insert r (a' :: A) B h.2 (fun x hx => h1 x (by simpa using hx)) h2

theorem lined_at : ∀ {l : List Rec} {k : Nat} {a b : Rec}, Lined l → l[k]? = some a → l[k + 1]? = some b → a.wrong b = false
  | [], _, _, _, _, h, _ => by simp at h
  | [x], k, _, _, _, _, h => by simp at h
  | x :: y :: l, 0, a, b, h, ha, hb => by
    simp at ha hb
    subst ha hb
    exact h.1
  | x :: y :: l, k + 1, a, b, h, ha, hb => lined_at (l := y :: l) (k := k) h.2 (by simpa using ha) (by simpa using hb)

/-- Records that a block may have, but for their number. -/
structure Fine (l : List Rec) : Prop where
  fits : ∀ r ∈ l, r.fits = true
  lined : Lined l

theorem Fine.good {l : List Rec} (h : Fine l) {k : Nat} {r : Rec} (hr : l[k]? = some r) : badAt l k r = false := by
  unfold badAt
  rw [h.fits r (List.mem_of_getElem? hr)]
  match k, hr with
  | 0, _ => simp
  | k + 1, hr =>
    have hl : k + 1 < l.length := (List.getElem?_eq_some_iff.1 hr).1
    have hg : l[k]? = some l[k] := List.getElem?_eq_getElem (by omega)
    have hb : before l (k + 1) r = l[k] := by unfold before; simp [List.getD, hg]
    rw [hb, lined_at h.lined hg hr]
    simp

theorem Fine.text {l : List Rec} (h : Fine l) : ∀ k, k ≤ l.length → ∃ t, textTo l k = some t
  | 0, _ => ⟨_, rfl⟩
  | k + 1, hk => by
    obtain ⟨t, ht⟩ := h.text k (by omega)
    have hg : l[k]? = some l[k] := List.getElem?_eq_getElem (by omega)
    exact ⟨_, textTo_good ht hg (h.good hg)⟩

theorem Fine.plain {l : List Rec} (h : Fine l) (h64 : l.length ≤ 64) : ∃ T, plainText l = some T := by
  obtain ⟨t, ht⟩ := h.text l.length (Nat.le_refl _)
  refine ⟨t, ?_⟩
  unfold plainText
  rw [if_neg (by omega)]
  exact ht

/-- Does x stand behind r? -/
def Rec.after (x r : Rec) : Bool := !(Op.bytesLess x.key.toList r.key.toList || x.key.toList == r.key.toList) || (x.key.toList == r.key.toList && decide (x.stamp < r.stamp))

theorem after_wrong {x r : Rec} (h : x.after r = true) : r.wrong x = false := by
  have := follows_eq r x
  unfold Rec.after at h
  rw [h] at this
  simpa using this.symm

/-- Is x of r's key and stamp? -/
def Rec.twin (x r : Rec) : Bool := x.key.toList == r.key.toList && decide (x.stamp = r.stamp)

theorem ahead_wrong {x r : Rec} (h : x.after r = false) (ht : x.twin r = false) : x.wrong r = false := by
  unfold Rec.after at h
  unfold Rec.twin at ht
  unfold Rec.wrong Rec.less Rec.same
  cases h1 : Op.bytesLess x.key.toList r.key.toList <;> cases h2 : (x.key.toList == r.key.toList) <;> rw [h1, h2] at h <;> rw [h2] at ht <;> simp at h ht ⊢
  · omega
  · omega

/-- Behind k records of l, the record r among them or not yet. -/
def Ins (l : List Rec) (r : Rec) (k : Nat) (dn : Bool) (out : List Rec) : Prop :=
  (∀ x ∈ l.take k, x.twin r = false) ∧
  ((dn = false ∧ out = l.take k ∧ ∀ x ∈ l.take k, x.after r = false) ∨
   (dn = true ∧ ∃ j y, j < k ∧ l[j]? = some y ∧ y.after r = true ∧ out = l.take j ++ r :: (l.take k).drop j ∧ ∀ x ∈ l.take j, x.after r = false))

theorem ins_start (l : List Rec) (r : Rec) : Ins l r 0 false [] := ⟨by simp, Or.inl ⟨rfl, by simp, by simp⟩⟩

theorem ins_more {l : List Rec} {r x : Rec} {k : Nat} {dn : Bool} {out : List Rec} (h : Ins l r k dn out) (hx : l[k]? = some x) (ht : x.twin r = false) (ha : dn = true ∨ x.after r = false) : Ins l r (k + 1) dn (out ++ [x]) := by
  have hk : k < l.length := (List.getElem?_eq_some_iff.1 hx).1
  have e : l.take (k + 1) = l.take k ++ [x] := by rw [List.take_add_one, hx]; rfl
  refine ⟨fun y hy => ?_, ?_⟩
  · rw [e, List.mem_append] at hy
    rcases hy with hy | hy
    · exact h.1 y hy
    · simp at hy; subst hy; exact ht
  · rcases h.2 with ⟨rfl, rfl, h3⟩ | ⟨rfl, j, y, hj, hy, hya, rfl, h3⟩
    · have ha' : x.after r = false := ha.resolve_left (by simp)
      exact Or.inl ⟨rfl, e.symm, fun y hy => by
        rw [e, List.mem_append] at hy
        rcases hy with hy | hy
        · exact h3 y hy
        · simp at hy; subst hy; exact ha'⟩
    · refine Or.inr ⟨rfl, j, y, by omega, hy, hya, ?_, h3⟩
      rw [e, List.drop_append_of_le_length (by simp; omega)]
      simp

theorem ins_here {l : List Rec} {r x : Rec} {k : Nat} {out : List Rec} (h : Ins l r k false out) (hx : l[k]? = some x) (ht : x.twin r = false) (ha : x.after r = true) : Ins l r (k + 1) true (out ++ [r] ++ [x]) := by
  have hk : k < l.length := (List.getElem?_eq_some_iff.1 hx).1
  have e : l.take (k + 1) = l.take k ++ [x] := by rw [List.take_add_one, hx]; rfl
  rcases h.2 with ⟨_, rfl, h3⟩ | ⟨hf, _⟩
  · refine ⟨fun y hy => ?_, Or.inr ⟨rfl, k, x, by omega, hx, ha, ?_, h3⟩⟩
    · rw [e, List.mem_append] at hy
      rcases hy with hy | hy
      · exact h.1 y hy
      · simp at hy; subst hy; exact ht
    · rw [e, List.drop_append_of_le_length (by simp; omega), List.drop_of_length_le (by simp; omega)]
      simp
  · cases hf

theorem ins_end {l : List Rec} {r : Rec} {dn : Bool} {out : List Rec} (h : Ins l r l.length dn out) (hl : Fine l) (hr : r.fits = true) : Fine (if dn = true then out else out ++ [r]) ∧ (if dn = true then out else out ++ [r]).length = l.length + 1 := by
  have htk : l.take l.length = l := List.take_length
  have h1 : ∀ x ∈ l, x.twin r = false := fun x hx => h.1 x (by rw [htk]; exact hx)
  rcases h.2 with ⟨rfl, rfl, h3⟩ | ⟨rfl, j, y, hj, hy, hya, rfl, h3⟩
  · rw [htk] at *
    simp only [if_neg (show ¬ (false = true) by decide)]
    refine ⟨⟨fun x hx => ?_, ?_⟩, by simp⟩
    · rw [List.mem_append] at hx
      rcases hx with hx | hx
      · exact hl.fits x hx
      · simp at hx; subst hx; exact hr
    · refine lined_insert r l [] (by simpa using hl.lined) (fun a ha => ?_) (fun b hb => by simp at hb)
      have hm := List.mem_of_getLast? ha
      exact ahead_wrong (h3 a hm) (h1 a hm)
  · rw [htk] at *
    simp only [if_pos]
    have hsp : l.take j ++ l.drop j = l := List.take_append_drop _ _
    refine ⟨⟨fun x hx => ?_, ?_⟩, ?_⟩
    · rw [List.mem_append, List.mem_cons] at hx
      rcases hx with hx | rfl | hx
      · exact hl.fits x (List.mem_of_mem_take hx)
      · exact hr
      · exact hl.fits x (List.mem_of_mem_drop hx)
    · refine lined_insert r (l.take j) (l.drop j) (by rw [hsp]; exact hl.lined) (fun a ha => ?_) (fun b hb => ?_)
      · have hm := List.mem_of_getLast? ha
        exact ahead_wrong (h3 a hm) (h1 a (List.mem_of_mem_take hm))
      · have : l[j]? = some b := by rw [List.head?_drop] at hb; exact hb
        rw [hy] at this
        obtain rfl := Option.some.inj this
        exact after_wrong hya
    · simp; omega

theorem fine_nil : Fine [] := ⟨fun r hr => by simp at hr, trivial⟩
end Go.Proofs.YtekdenkllipehaaDoor

/-
  The statement's 'with': a record put in its place.
-/
namespace Go.Proofs.YtekdenkllipehaaDoor
open Go.RowKit

theorem own_rcs' {w : World} {base : Nat} {ao : Option Addr} {cap : Nat} {L : List Rec} (h : w.ownsRow base 30 4 (.slice ao L.length cap) L.length (recCells L)) : Rcs w ao L := by
  by_cases hne : L = []
  · exact Or.inl hne
  · obtain ⟨g, e, hg, hr⟩ := own_recs h hne
    exact Or.inr ⟨g, 0, e, hg, hr⟩

set_option maxRecDepth 100000 in
set_option maxHeartbeats 1600000 in
theorem with_any (l : List Rec) (r : Rec) (ao : Option Addr) (cap : Nat) (w : World) (h : Rcs w ao l) (hl : l.length ≤ 64) :
    Calls Tryd.prog 31 #[.slice ao l.length cap, r.val] w fun e w' => ∃ (out : List Rec) (ao' : Option Addr) (cap' : Nat), e = .returned (.slice ao' out.length cap') ∧ (out = l ∨ ∃ (dn : Bool) (o : List Rec), Ins l r l.length dn o ∧ out = if dn = true then o else o ++ [r]) ∧ Rcs w' ao' out ∧ Q w w' := by
  have HH : Hid (Rcs w ao l) := h
  have HI0 : Hid (Ins l r 0 false []) := ins_start l r
  have HIm : Hid (∀ (k : Nat) (x : Rec) (dn : Bool) (o : List Rec), Ins l r k dn o → l[k]? = some x → x.twin r = false → dn = true ∨ x.after r = false → Ins l r (k + 1) dn (o ++ [x])) := fun k x dn o => ins_more
  have HIh : Hid (∀ (k : Nat) (x : Rec) (o : List Rec), Ins l r k false o → l[k]? = some x → x.twin r = false → x.after r = true → Ins l r (k + 1) true (o ++ [r] ++ [x])) := fun k x o => ins_here
  have HIl : Hid (∀ (k : Nat) (dn : Bool) (o : List Rec), Ins l r k dn o → k ≤ l.length → o.length ≤ 65) := fun k dn o hi hk => by
    rcases hi.2 with ⟨_, rfl, _⟩ | ⟨_, j, y, hj, _, _, rfl, _⟩
    · simp; omega
    · simp; omega
  obtain ⟨i0, hi, hz0, hz1, hz2⟩ := info_parts infoRecord
  simp only [Rec.val]
  clear h
  obtain ⟨w1, hw1⟩ : ∃ w1, w1 = w.alloc (.cells #[.string r.key, .int .i64 r.stamp, .int .i64 r.kind, .string r.body] 30) := ⟨_, rfl⟩
  have q1 : Q w w1 := by rw [hw1]; exact (Q.refl w).alloc _ _
  have r0 : w1.cell? ⟨w.heap.size, 0, none⟩ = some (.string r.key) := by rw [hw1]; simp
  have r1 : w1.cell? ⟨w.heap.size, 1, none⟩ = some (.int .i64 r.stamp) := by rw [hw1]; simp
  have r2 : w1.cell? ⟨w.heap.size, 2, none⟩ = some (.int .i64 r.kind) := by rw [hw1]; simp
  have r3 : w1.cell? ⟨w.heap.size, 3, none⟩ = some (.string r.body) := by rw [hw1]; simp
  go_enter Tryd.func31, Tryd.ntmps31
  go_wp2_with fail
  rw [← hw1]
  clear hw1
  go_loopw [5, 6, 7] (fun p d i wr => ∃ (k : Nat) (dn : Bool) (o : List Rec) (ap : Option Addr) (cp : Nat), p = .slice ap o.length cp ∧ d = .bool dn ∧ i = .int .i64 k ∧ k ≤ l.length ∧ Hid (Ins l r k dn o) ∧ Hid (Recs w1 o ap cp wr)) (fun _ _ i _ => l.length - (intOf i).toNat)
  case atStart => exact ⟨0, false, [], none, 0, rfl, rfl, rfl, Nat.zero_le _, HI0, Recs.start w1⟩
  case round =>
    obtain ⟨k, dn, o, ap, cp, rfl, rfl, rfl, hk, HI, HR⟩ := hrel
    have hol := HIl.out k dn o HI.out hk
    have hqr : Q w1 wr := ⟨HR.out.below⟩
    by_cases hlt : k < l.length
    · obtain ⟨b, off, rfl, hb1, hat1⟩ := (HH.out.kept q1).at hlt
      have hat := hat1.kept hqr
      have hb : b < wr.heap.size := Nat.lt_of_lt_of_le hb1 hqr.below.size
      have hg : l[k]? = some l[k] := List.getElem?_eq_getElem hlt
      obtain ⟨e0, e1, e2, e3⟩ := hat1 k _ hg
      obtain ⟨c0, c1, c2, c3⟩ := hat k _ hg
      have HMr : Hid _ := fun htw ha => HIm.out k _ dn o HI.out hg htw ha
      have HHr : Hid _ := fun (hd : dn = false) htw ha => HIh.out k _ o (by rw [← hd]; exact HI.out) hg htw ha
      generalize l[k] = x at *
      have d0 := kept_cell r0 hqr
      have d1 := kept_cell r1 hqr
      have d2 := kept_cell r2 hqr
      have d3 := kept_cell r3 hqr
      have i1 : (k : Int) < (l.length : Int) := by omega
      have i0' : (0 : Int) ≤ (k : Int) := by omega
      have HX : Hid (∀ (W : World), Below w1.heap.size w1 W → (W.cell? ⟨b, off + k * 4, none⟩ = some (.string x.key) ∧ W.cell? ⟨b, off + k * 4 + 1, none⟩ = some (.int .i64 x.stamp) ∧ W.cell? ⟨b, off + k * 4 + 2, none⟩ = some (.int .i64 x.kind) ∧ W.cell? ⟨b, off + k * 4 + 3, none⟩ = some (.string x.body))) := fun W hB => ⟨(hB.cell (p := ⟨b, off + k * 4, none⟩) hb1).trans e0, (hB.cell (p := ⟨b, off + k * 4 + 1, none⟩) hb1).trans e1, (hB.cell (p := ⟨b, off + k * 4 + 2, none⟩) hb1).trans e2, (hB.cell (p := ⟨b, off + k * 4 + 3, none⟩) hb1).trans e3⟩
      clear hat hat1 hg HI r0 r1 r2 r3 e0 e1 e2 e3
      go_upto_region 6 with fail
      go_cut [31] (fun y wx => y = .bool (x.twin r) ∧ Q wr wx)
      case first =>
        cases he : (x.key.toList == r.key.toList) with
        | false =>
          have ht : Hid (x.twin r = false) := by show _ = _; unfold Rec.twin; rw [he]; rfl
          go_quiet (fail)
          go_wp2_with fail
          go_meet
          case rel => exact ⟨congrArg Value.bool ht.out.symm, (Q.refl _).drewN _⟩
        | true =>
          have ht : Hid (x.twin r = (x.stamp == r.stamp)) := by
            show _ = _
            unfold Rec.twin
            rw [he, Bool.true_and]
            exact Bool.eq_iff_iff.2 (by simp)
          go_quiet (fail)
          go_wp2_with fail
          go_meet
          case rel => exact ⟨congrArg Value.bool ht.out.symm, (Q.refl _).drewN _⟩
      case rest =>
        obtain ⟨rfl, qc⟩ := hcut
        have z0 := kept_cell c0 qc
        have z1 := kept_cell c1 qc
        have z2 := kept_cell c2 qc
        have z3 := kept_cell c3 qc
        have y0 := kept_cell d0 qc
        have y1 := kept_cell d1 qc
        have y2 := kept_cell d2 qc
        have y3 := kept_cell d3 qc
        have hbc : b < wc.heap.size := Nat.lt_of_lt_of_le hb qc.below.size
        clear c0 c1 c2 c3 d0 d1 d2 d3 hb
        cases htw : x.twin r with
        | true =>
          have HRl : Hid _ := ((HH.out.kept q1).kept hqr).kept qc
          have HQl : Hid _ := (q1.trans hqr).trans qc
          clear HMr HHr htw
          go_wp2_with fail
          go_ret
          exact ⟨l, _, cap, rfl, Or.inl rfl, HRl.out, HQl.out⟩
        | false =>
          have HMr2 : Hid _ := fun ha => HMr.out htw ha
          have HHr2 : Hid _ := fun hd ha => HHr.out hd htw ha
          clear HMr HHr htw
          go_upto_region 8 with fail
          go_cut [64] (fun y wx => y = .bool (!dn && x.after r) ∧ Q wc wx)
          case first =>
            cases dn with
            | true =>
              go_quiet (fail)
              go_wp2_with fail
              go_meet
              case rel => exact ⟨rfl, (Q.refl _).drewN _⟩
            | false =>
              cases h1 : Op.bytesLess x.key.toList r.key.toList <;> cases h2 : (x.key.toList == r.key.toList)
              · have ha : Hid (x.after r = true) := by show _ = _; unfold Rec.after; rw [h1, h2]; rfl
                go_quiet (fail)
                go_wp2_with fail
                go_meet
                case rel => exact ⟨by rw [ha.out]; rfl, (Q.refl _).drewN _⟩
              · have ha : Hid (x.after r = decide (x.stamp < r.stamp)) := by show _ = _; unfold Rec.after; rw [h1, h2]; simp
                go_quiet (fail)
                go_wp2_with fail
                go_meet
                case rel => exact ⟨by rw [ha.out]; rfl, (Q.refl _).drewN _⟩
              · have ha : Hid (x.after r = false) := by show _ = _; unfold Rec.after; rw [h1, h2]; rfl
                go_quiet (fail)
                go_wp2_with fail
                go_meet
                case rel => exact ⟨by rw [ha.out]; rfl, (Q.refl _).drewN _⟩
              · have ha : Hid (x.after r = decide (x.stamp < r.stamp)) := by show _ = _; unfold Rec.after; rw [h1, h2]; simp
                go_quiet (fail)
                go_wp2_with fail
                go_meet
                case rel => exact ⟨by rw [ha.out]; rfl, (Q.refl _).drewN _⟩
          case rest =>
            obtain ⟨rfl, qd⟩ := hcut
            have x0 := kept_cell y0 qd
            have x1 := kept_cell y1 qd
            have x2 := kept_cell y2 qd
            have x3 := kept_cell y3 qd
            have g0 := kept_cell z0 qd
            have g1 := kept_cell z1 qd
            have g2 := kept_cell z2 qd
            have g3 := kept_cell z3 qd
            have RC := (HR.out.kept qc).kept qd
            clear z0 z1 z2 z3 y0 y1 y2 y3 qc qd HR hqr
            cases hda : (!dn && x.after r) with
            | true =>
              simp only [Bool.and_eq_true, Bool.not_eq_true'] at hda
              have HN : Hid (Hid (Ins l r (k + 1) true (o ++ [r] ++ [x]))) := HHr2.out hda.1 hda.2
              clear HMr2 HHr2 hda
              go_wp2_with (at_builtin; refine wpList_append_own _ rfl (.tmp 65) (.tmp 67) 28 rfl w1.heap.size 30 i0 (.agg #[.string ⟨#[]⟩, .int .i64 0, .int .i64 0, .string ⟨#[]⟩]) 4 48 Tryd.underlying28 hi hz0 hz1 hz2 rfl (by decide) _ _ _ rfl (RC.own.alloc _) ⟨wc.heap.size, 0, none⟩ 1 1 (r).cells rfl rfl ?c1 ?c2 ?c3 ?c4 ?c5 ?_)
              case c1 => first | exact rec_cells_at _ _ _ | exact fun j u hj => hj
              case c2 => exact rec_cells_one _
              case c3 => simp [maxLen]; omega
              case c4 => first | omega | (simp; omega)
              case c5 => have := RC.below.size; simp; omega
              intro v1 u1 ho1 hgw1 _
              obtain ⟨ap1, cp1, hv1⟩ := own_form ho1
              rw [hv1] at ho1
              rw [hv1]
              have R1 := (RC.kept ((Q.refl _).alloc #[.string (r).key, .int .i64 (r).stamp, .int .i64 (r).kind, .string (r).body] 30)).push hgw1 ho1
              clear hv1 ho1 hgw1
              obtain ⟨g0', g1', g2', g3'⟩ := HX.out _ R1.below
              have hbu : b < u1.heap.size := Nat.lt_of_lt_of_le hb1 R1.below.size
              clear x0 x1 x2 x3 g0 g1 g2 g3 RC
              go_wp2_with (at_builtin; refine wpList_append_own _ rfl (.tmp 69) (.tmp 74) 28 rfl w1.heap.size 30 i0 (.agg #[.string ⟨#[]⟩, .int .i64 0, .int .i64 0, .string ⟨#[]⟩]) 4 48 Tryd.underlying28 hi hz0 hz1 hz2 rfl (by decide) _ _ _ (congrArg (fun n => Value.slice ap1 n cp1) (show o.length + 1 = (o ++ [r]).length by simp)) (R1.own.alloc _) ⟨u1.heap.size, 0, none⟩ 1 1 (x).cells rfl rfl ?c1 ?c2 ?c3 ?c4 ?c5 ?_)
              case c1 => first | exact rec_cells_at _ _ _ | exact fun j u hj => hj
              case c2 => exact rec_cells_one _
              case c3 => simp [maxLen]; omega
              case c4 => first | omega | (simp; omega)
              case c5 => have := R1.below.size; simp; omega
              intro v2 u2 ho2 hgw2 _
              obtain ⟨ap2, cp2, hv2⟩ := own_form ho2
              rw [hv2] at ho2
              rw [hv2]
              rw [show o.length + 1 = (o ++ [r]).length by simp] at ho2 hgw2
              have R2 := (R1.kept ((Q.refl _).alloc #[.string (x).key, .int .i64 (x).stamp, .int .i64 (x).kind, .string (x).body] 30)).push hgw2 ho2
              clear hv2 ho2 hgw2
              go_wp2_with fail
              go_roundw
              case rel => exact ⟨k + 1, true, o ++ [r] ++ [x], ap2, cp2, by simp, rfl, by go_num, by omega, HN.out, R2⟩
              case measure => simp [intOf]; omega
            | false =>
              have hda2 : dn = true ∨ x.after r = false := by
                cases dn with
                | true => exact Or.inl rfl
                | false => right; simpa using hda
              have HN : Hid _ := HMr2.out hda2
              clear HMr2 HHr2 hda hda2
              go_wp2_with (at_builtin; refine wpList_append_own _ rfl (.tmp 69) (.tmp 74) 28 rfl w1.heap.size 30 i0 (.agg #[.string ⟨#[]⟩, .int .i64 0, .int .i64 0, .string ⟨#[]⟩]) 4 48 Tryd.underlying28 hi hz0 hz1 hz2 rfl (by decide) _ _ _ rfl (RC.own.alloc _) ⟨wc.heap.size, 0, none⟩ 1 1 (x).cells rfl rfl ?c1 ?c2 ?c3 ?c4 ?c5 ?_)
              case c1 => first | exact rec_cells_at _ _ _ | exact fun j u hj => hj
              case c2 => exact rec_cells_one _
              case c3 => simp [maxLen]; omega
              case c4 => first | omega | (simp; omega)
              case c5 => have := RC.below.size; simp; omega
              intro v2 u2 ho2 hgw2 _
              obtain ⟨ap2, cp2, hv2⟩ := own_form ho2
              rw [hv2] at ho2
              rw [hv2]
              have R2 := (RC.kept ((Q.refl _).alloc #[.string (x).key, .int .i64 (x).stamp, .int .i64 (x).kind, .string (x).body] 30)).push hgw2 ho2
              clear hv2 ho2 hgw2
              go_wp2_with fail
              go_roundw
              case rel => exact ⟨k + 1, dn, o ++ [x], ap2, cp2, by simp, rfl, by go_num, by omega, HN, R2⟩
              case measure => simp [intOf]; omega
    · obtain rfl : k = l.length := by omega
      have RC := HR.out
      have x0 := kept_cell r0 hqr
      have x1 := kept_cell r1 hqr
      have x2 := kept_cell r2 hqr
      have x3 := kept_cell r3 hqr
      cases dn with
      | true =>
        have HF : Hid _ := (⟨true, o, HI.out, rfl⟩ : ∃ (dn : Bool) (o' : List Rec), Ins l r l.length dn o' ∧ o = if dn = true then o' else o' ++ [r])
        have HRs : Hid (Rcs wr ap o) := own_rcs' RC.own
        have HQ : Hid _ := q1.trans hqr
        clear RC x0 x1 x2 x3 HR HI r0 r1 r2 r3
        go_wp2_with fail
        go_ret
        exact ⟨o, ap, cp, rfl, Or.inr HF.out, HRs.out, HQ.out⟩
      | false =>
        have HF : Hid _ := (⟨false, o, HI.out, rfl⟩ : ∃ (dn : Bool) (o' : List Rec), Ins l r l.length dn o' ∧ o ++ [r] = if dn = true then o' else o' ++ [r])
        clear HR HI r0 r1 r2 r3
        go_wp2_with (at_builtin; refine wpList_append_own _ rfl (.tmp 78) (.tmp 80) 28 rfl w1.heap.size 30 i0 (.agg #[.string ⟨#[]⟩, .int .i64 0, .int .i64 0, .string ⟨#[]⟩]) 4 48 Tryd.underlying28 hi hz0 hz1 hz2 rfl (by decide) _ _ _ rfl (RC.own.alloc _) ⟨wr.heap.size, 0, none⟩ 1 1 (r).cells rfl rfl ?c1 ?c2 ?c3 ?c4 ?c5 ?_)
        case c1 => first | exact rec_cells_at _ _ _ | exact fun j u hj => hj
        case c2 => exact rec_cells_one _
        case c3 => simp [maxLen]; omega
        case c4 => first | omega | (simp; omega)
        case c5 => have := RC.below.size; simp; omega
        intro v1 u1 ho1 hgw1 _
        obtain ⟨ap1, cp1, hv1⟩ := own_form ho1
        rw [hv1] at ho1
        rw [hv1]
        have R1 := (RC.kept ((Q.refl _).alloc #[.string (r).key, .int .i64 (r).stamp, .int .i64 (r).kind, .string (r).body] 30)).push hgw1 ho1
        clear hv1 ho1 hgw1
        have HRs : Hid (Rcs u1 ap1 (o ++ [r])) := own_rcs' R1.own
        have HQ : Hid (Q w u1) := q1.trans ⟨R1.below⟩
        clear R1 RC x0 x1 x2 x3
        go_wp2_with fail
        go_ret
        exact ⟨o ++ [r], ap1, cp1, by simp, Or.inr HF.out, HRs.out, HQ.out⟩
end Go.Proofs.YtekdenkllipehaaDoor
