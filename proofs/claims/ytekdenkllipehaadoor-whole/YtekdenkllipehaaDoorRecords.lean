import Derived.Test.YtekdenkllipehaaDoorFitAll
import Derived.Test.YtekdenkllipehaaDoorScanM
import Derived.Test.YtekdenkllipehaaDoorRecMem
import Derived.Test.YtekdenkllipehaaDoorParseM
import Derived.Deep.DeepCutAuto
import Derived.Test.YtekdenkllipehaaDoorKeep
import Derived.Test.YtekdenkllipehaaDoorRows
import Derived.WalkKit
import Derived.ProofKit
import Derived.Test.YtekdenkllipehaaDoorBlkWrite
/-
  Records that are put in their place one by one: plain mathematics.
-/
namespace Go.Proofs.YtekdenkllipehaaDoor
open Go.RowKit

/-- Each record stands in order behind the one ahead of it. -/
def Lined : List Rec → Prop
  | a :: b :: l => a.wrong b = false ∧ Lined (b :: l)
  | _ => True

theorem Lined.tail {a : Rec} {l : List Rec} (h : Lined (a :: l)) : Lined l := by
  cases l with
  | nil => trivial
  | cons b l => exact h.2

theorem lined_insert (r : Rec) : ∀ (A B : List Rec), Lined (A ++ B) → (∀ a, A.getLast? = some a → a.wrong r = false) → (∀ b, B.head? = some b → r.wrong b = false) → Lined (A ++ r :: B)
  | [], [], _, _, _ => trivial
  | [], b :: B, h, _, h2 => ⟨h2 b rfl, h⟩
  | [a], B, h, h1, h2 => by
    refine ⟨h1 a rfl, ?_⟩
    cases B with
    | nil => trivial
    | cons b B => exact ⟨h2 b rfl, h.2⟩
  | a :: a' :: A, B, h, h1, h2 => by
    refine ⟨h.1, ?_⟩
    exact lined_insert r (a' :: A) B h.2 (fun x hx => h1 x (by simpa using hx)) h2

theorem lined_at : ∀ {l : List Rec} {k : Nat} {a b : Rec}, Lined l → l[k]? = some a → l[k + 1]? = some b → a.wrong b = false
  | [], _, _, _, _, h, _ => by simp at h
  | [x], k, _, _, _, _, h => by simp at h
  | x :: y :: l, 0, a, b, h, ha, hb => by
    simp at ha hb
    subst ha hb
    exact h.1
  | x :: y :: l, k + 1, a, b, h, ha, hb => lined_at (l := y :: l) (k := k) h.2 (by simpa using ha) (by simpa using hb)

/-- Records that a block may have, but for their number. -/
structure Fine (l : List Rec) : Prop where
  fits : ∀ r ∈ l, r.fits = true
  lined : Lined l

theorem Fine.good {l : List Rec} (h : Fine l) {k : Nat} {r : Rec} (hr : l[k]? = some r) : badAt l k r = false := by
  unfold badAt
  rw [h.fits r (List.mem_of_getElem? hr)]
  match k, hr with
  | 0, _ => simp
  | k + 1, hr =>
    have hl : k + 1 < l.length := (List.getElem?_eq_some_iff.1 hr).1
    have hg : l[k]? = some l[k] := List.getElem?_eq_getElem (by omega)
    have hb : before l (k + 1) r = l[k] := by unfold before; simp [List.getD, hg]
    rw [hb, lined_at h.lined hg hr]
    simp

theorem Fine.text {l : List Rec} (h : Fine l) : ∀ k, k ≤ l.length → ∃ t, textTo l k = some t
  | 0, _ => ⟨_, rfl⟩
  | k + 1, hk => by
    obtain ⟨t, ht⟩ := h.text k (by omega)
    have hg : l[k]? = some l[k] := List.getElem?_eq_getElem (by omega)
    exact ⟨_, textTo_good ht hg (h.good hg)⟩

theorem Fine.plain {l : List Rec} (h : Fine l) (h64 : l.length ≤ 64) : ∃ T, plainText l = some T := by
  obtain ⟨t, ht⟩ := h.text l.length (Nat.le_refl _)
  refine ⟨t, ?_⟩
  unfold plainText
  rw [if_neg (by omega)]
  exact ht

/-- Does x stand behind r? -/
def Rec.after (x r : Rec) : Bool := !(Op.bytesLess x.key.toList r.key.toList || x.key.toList == r.key.toList) || (x.key.toList == r.key.toList && decide (x.stamp < r.stamp))

theorem after_wrong {x r : Rec} (h : x.after r = true) : r.wrong x = false := by
  have := follows_eq r x
  unfold Rec.after at h
  rw [h] at this
  simpa using this.symm

/-- Is x of r's key and stamp? -/
def Rec.twin (x r : Rec) : Bool := x.key.toList == r.key.toList && decide (x.stamp = r.stamp)

theorem ahead_wrong {x r : Rec} (h : x.after r = false) (ht : x.twin r = false) : x.wrong r = false := by
  unfold Rec.after at h
  unfold Rec.twin at ht
  unfold Rec.wrong Rec.less Rec.same
  cases h1 : Op.bytesLess x.key.toList r.key.toList <;> cases h2 : (x.key.toList == r.key.toList) <;> rw [h1, h2] at h <;> rw [h2] at ht <;> simp at h ht ⊢
  · omega
  · omega

/-- Behind k records of l, the record r among them or not yet. -/
def Ins (l : List Rec) (r : Rec) (k : Nat) (dn : Bool) (out : List Rec) : Prop :=
  (∀ x ∈ l.take k, x.twin r = false) ∧
  ((dn = false ∧ out = l.take k ∧ ∀ x ∈ l.take k, x.after r = false) ∨
   (dn = true ∧ ∃ j y, j < k ∧ l[j]? = some y ∧ y.after r = true ∧ out = l.take j ++ r :: (l.take k).drop j ∧ ∀ x ∈ l.take j, x.after r = false))

theorem ins_start (l : List Rec) (r : Rec) : Ins l r 0 false [] := ⟨by simp, Or.inl ⟨rfl, by simp, by simp⟩⟩

theorem ins_more {l : List Rec} {r x : Rec} {k : Nat} {dn : Bool} {out : List Rec} (h : Ins l r k dn out) (hx : l[k]? = some x) (ht : x.twin r = false) (ha : dn = true ∨ x.after r = false) : Ins l r (k + 1) dn (out ++ [x]) := by
  have hk : k < l.length := (List.getElem?_eq_some_iff.1 hx).1
  have e : l.take (k + 1) = l.take k ++ [x] := by rw [List.take_add_one, hx]; rfl
  refine ⟨fun y hy => ?_, ?_⟩
  · rw [e, List.mem_append] at hy
    rcases hy with hy | hy
    · exact h.1 y hy
    · simp at hy; subst hy; exact ht
  · rcases h.2 with ⟨rfl, rfl, h3⟩ | ⟨rfl, j, y, hj, hy, hya, rfl, h3⟩
    · have ha' : x.after r = false := ha.resolve_left (by simp)
      exact Or.inl ⟨rfl, e.symm, fun y hy => by
        rw [e, List.mem_append] at hy
        rcases hy with hy | hy
        · exact h3 y hy
        · simp at hy; subst hy; exact ha'⟩
    · refine Or.inr ⟨rfl, j, y, by omega, hy, hya, ?_, h3⟩
      rw [e, List.drop_append_of_le_length (by simp; omega)]
      simp

theorem ins_here {l : List Rec} {r x : Rec} {k : Nat} {out : List Rec} (h : Ins l r k false out) (hx : l[k]? = some x) (ht : x.twin r = false) (ha : x.after r = true) : Ins l r (k + 1) true (out ++ [r] ++ [x]) := by
  have hk : k < l.length := (List.getElem?_eq_some_iff.1 hx).1
  have e : l.take (k + 1) = l.take k ++ [x] := by rw [List.take_add_one, hx]; rfl
  rcases h.2 with ⟨_, rfl, h3⟩ | ⟨hf, _⟩
  · refine ⟨fun y hy => ?_, Or.inr ⟨rfl, k, x, by omega, hx, ha, ?_, h3⟩⟩
    · rw [e, List.mem_append] at hy
      rcases hy with hy | hy
      · exact h.1 y hy
      · simp at hy; subst hy; exact ht
    · rw [e, List.drop_append_of_le_length (by simp; omega), List.drop_of_length_le (by simp; omega)]
      simp
  · cases hf

theorem ins_end {l : List Rec} {r : Rec} {dn : Bool} {out : List Rec} (h : Ins l r l.length dn out) (hl : Fine l) (hr : r.fits = true) : Fine (if dn = true then out else out ++ [r]) ∧ (if dn = true then out else out ++ [r]).length = l.length + 1 := by
  have htk : l.take l.length = l := List.take_length
  have h1 : ∀ x ∈ l, x.twin r = false := fun x hx => h.1 x (by rw [htk]; exact hx)
  rcases h.2 with ⟨rfl, rfl, h3⟩ | ⟨rfl, j, y, hj, hy, hya, rfl, h3⟩
  · rw [htk] at *
    simp only [if_neg (show ¬ (false = true) by decide)]
    refine ⟨⟨fun x hx => ?_, ?_⟩, by simp⟩
    · rw [List.mem_append] at hx
      rcases hx with hx | hx
      · exact hl.fits x hx
      · simp at hx; subst hx; exact hr
    · refine lined_insert r l [] (by simpa using hl.lined) (fun a ha => ?_) (fun b hb => by simp at hb)
      have hm := List.mem_of_getLast? ha
      exact ahead_wrong (h3 a hm) (h1 a hm)
  · rw [htk] at *
    simp only [if_pos]
    have hsp : l.take j ++ l.drop j = l := List.take_append_drop _ _
    refine ⟨⟨fun x hx => ?_, ?_⟩, ?_⟩
    · rw [List.mem_append, List.mem_cons] at hx
      rcases hx with hx | rfl | hx
      · exact hl.fits x (List.mem_of_mem_take hx)
      · exact hr
      · exact hl.fits x (List.mem_of_mem_drop hx)
    · refine lined_insert r (l.take j) (l.drop j) (by rw [hsp]; exact hl.lined) (fun a ha => ?_) (fun b hb => ?_)
      · have hm := List.mem_of_getLast? ha
        exact ahead_wrong (h3 a hm) (h1 a (List.mem_of_mem_take hm))
      · have : l[j]? = some b := by rw [List.head?_drop] at hb; exact hb
        rw [hy] at this
        obtain rfl := Option.some.inj this
        exact after_wrong hya
    · simp; omega

theorem fine_nil : Fine [] := ⟨fun r hr => by simp at hr, trivial⟩
end Go.Proofs.YtekdenkllipehaaDoor

/-
  The statement's 'with': a record put in its place.
-/
namespace Go.Proofs.YtekdenkllipehaaDoor
open Go.RowKit

theorem own_rcs' {w : World} {base : Nat} {ao : Option Addr} {cap : Nat} {L : List Rec} (h : w.ownsRow base 30 4 (.slice ao L.length cap) L.length (recCells L)) : Rcs w ao L := by
  by_cases hne : L = []
  · exact Or.inl hne
  · obtain ⟨g, e, hg, hr⟩ := own_recs h hne
    exact Or.inr ⟨g, 0, e, hg, hr⟩

set_option maxRecDepth 100000 in
set_option maxHeartbeats 1600000 in
theorem with_any (l : List Rec) (r : Rec) (ao : Option Addr) (cap : Nat) (w : World) (h : Rcs w ao l) (hl : l.length ≤ 64) :
    Calls Tryd.prog 31 #[.slice ao l.length cap, r.val] w fun e w' => ∃ (out : List Rec) (ao' : Option Addr) (cap' : Nat), e = .returned (.slice ao' out.length cap') ∧ (out = l ∨ ∃ (dn : Bool) (o : List Rec), Ins l r l.length dn o ∧ out = if dn = true then o else o ++ [r]) ∧ Rcs w' ao' out ∧ Q w w' := by
  have HH : Hid (Rcs w ao l) := h
  have HI0 : Hid (Ins l r 0 false []) := ins_start l r
  have HIm : Hid (∀ (k : Nat) (x : Rec) (dn : Bool) (o : List Rec), Ins l r k dn o → l[k]? = some x → x.twin r = false → dn = true ∨ x.after r = false → Ins l r (k + 1) dn (o ++ [x])) := fun k x dn o => ins_more
  have HIh : Hid (∀ (k : Nat) (x : Rec) (o : List Rec), Ins l r k false o → l[k]? = some x → x.twin r = false → x.after r = true → Ins l r (k + 1) true (o ++ [r] ++ [x])) := fun k x o => ins_here
  have HIl : Hid (∀ (k : Nat) (dn : Bool) (o : List Rec), Ins l r k dn o → k ≤ l.length → o.length ≤ 65) := fun k dn o hi hk => by
    rcases hi.2 with ⟨_, rfl, _⟩ | ⟨_, j, y, hj, _, _, rfl, _⟩
    · simp; omega
    · simp; omega
  obtain ⟨i0, hi, hz0, hz1, hz2⟩ := info_parts infoRecord
  simp only [Rec.val]
  clear h
  obtain ⟨w1, hw1⟩ : ∃ w1, w1 = w.alloc (.cells #[.string r.key, .int .i64 r.stamp, .int .i64 r.kind, .string r.body] 30) := ⟨_, rfl⟩
  have q1 : Q w w1 := by rw [hw1]; exact (Q.refl w).alloc _ _
  have r0 : w1.cell? ⟨w.heap.size, 0, none⟩ = some (.string r.key) := by rw [hw1]; simp
  have r1 : w1.cell? ⟨w.heap.size, 1, none⟩ = some (.int .i64 r.stamp) := by rw [hw1]; simp
  have r2 : w1.cell? ⟨w.heap.size, 2, none⟩ = some (.int .i64 r.kind) := by rw [hw1]; simp
  have r3 : w1.cell? ⟨w.heap.size, 3, none⟩ = some (.string r.body) := by rw [hw1]; simp
  go_enter Tryd.func31, Tryd.ntmps31
  go_wp2_with fail
  rw [← hw1]
  clear hw1
  go_loopw [5, 6, 7] (fun p d i wr => ∃ (k : Nat) (dn : Bool) (o : List Rec) (ap : Option Addr) (cp : Nat), p = .slice ap o.length cp ∧ d = .bool dn ∧ i = .int .i64 k ∧ k ≤ l.length ∧ Hid (Ins l r k dn o) ∧ Hid (Recs w1 o ap cp wr)) (fun _ _ i _ => l.length - (intOf i).toNat)
  case atStart => exact ⟨0, false, [], none, 0, rfl, rfl, rfl, Nat.zero_le _, HI0, Recs.start w1⟩
  case round =>
    obtain ⟨k, dn, o, ap, cp, rfl, rfl, rfl, hk, HI, HR⟩ := hrel
    have hol := HIl.out k dn o HI.out hk
    have hqr : Q w1 wr := ⟨HR.out.below⟩
    by_cases hlt : k < l.length
    · obtain ⟨b, off, rfl, hb1, hat1⟩ := (HH.out.kept q1).at hlt
      have hat := hat1.kept hqr
      have hb : b < wr.heap.size := Nat.lt_of_lt_of_le hb1 hqr.below.size
      have hg : l[k]? = some l[k] := List.getElem?_eq_getElem hlt
      obtain ⟨e0, e1, e2, e3⟩ := hat1 k _ hg
      obtain ⟨c0, c1, c2, c3⟩ := hat k _ hg
      have HMr : Hid _ := fun htw ha => HIm.out k _ dn o HI.out hg htw ha
      have HHr : Hid _ := fun (hd : dn = false) htw ha => HIh.out k _ o (by rw [← hd]; exact HI.out) hg htw ha
      generalize l[k] = x at *
      have d0 := kept_cell r0 hqr
      have d1 := kept_cell r1 hqr
      have d2 := kept_cell r2 hqr
      have d3 := kept_cell r3 hqr
      have i1 : (k : Int) < (l.length : Int) := by omega
      have i0' : (0 : Int) ≤ (k : Int) := by omega
      have HX : Hid (∀ (W : World), Below w1.heap.size w1 W → (W.cell? ⟨b, off + k * 4, none⟩ = some (.string x.key) ∧ W.cell? ⟨b, off + k * 4 + 1, none⟩ = some (.int .i64 x.stamp) ∧ W.cell? ⟨b, off + k * 4 + 2, none⟩ = some (.int .i64 x.kind) ∧ W.cell? ⟨b, off + k * 4 + 3, none⟩ = some (.string x.body))) := fun W hB => ⟨(hB.cell (p := ⟨b, off + k * 4, none⟩) hb1).trans e0, (hB.cell (p := ⟨b, off + k * 4 + 1, none⟩) hb1).trans e1, (hB.cell (p := ⟨b, off + k * 4 + 2, none⟩) hb1).trans e2, (hB.cell (p := ⟨b, off + k * 4 + 3, none⟩) hb1).trans e3⟩
      clear hat hat1 hg HI r0 r1 r2 r3 e0 e1 e2 e3
      go_upto_region 6 with fail
      go_cut [31] (fun y wx => y = .bool (x.twin r) ∧ Q wr wx)
      case first =>
        cases he : (x.key.toList == r.key.toList) with
        | false =>
          have ht : Hid (x.twin r = false) := by show _ = _; unfold Rec.twin; rw [he]; rfl
          go_quiet (fail)
          go_wp2_with fail
          go_meet
          case rel => exact ⟨congrArg Value.bool ht.out.symm, (Q.refl _).drewN _⟩
        | true =>
          have ht : Hid (x.twin r = (x.stamp == r.stamp)) := by
            show _ = _
            unfold Rec.twin
            rw [he, Bool.true_and]
            exact Bool.eq_iff_iff.2 (by simp)
          go_quiet (fail)
          go_wp2_with fail
          go_meet
          case rel => exact ⟨congrArg Value.bool ht.out.symm, (Q.refl _).drewN _⟩
      case rest =>
        obtain ⟨rfl, qc⟩ := hcut
        have z0 := kept_cell c0 qc
        have z1 := kept_cell c1 qc
        have z2 := kept_cell c2 qc
        have z3 := kept_cell c3 qc
        have y0 := kept_cell d0 qc
        have y1 := kept_cell d1 qc
        have y2 := kept_cell d2 qc
        have y3 := kept_cell d3 qc
        have hbc : b < wc.heap.size := Nat.lt_of_lt_of_le hb qc.below.size
        clear c0 c1 c2 c3 d0 d1 d2 d3 hb
        cases htw : x.twin r with
        | true =>
          have HRl : Hid _ := ((HH.out.kept q1).kept hqr).kept qc
          have HQl : Hid _ := (q1.trans hqr).trans qc
          clear HMr HHr htw
          go_wp2_with fail
          go_ret
          exact ⟨l, _, cap, rfl, Or.inl rfl, HRl.out, HQl.out⟩
        | false =>
          have HMr2 : Hid _ := fun ha => HMr.out htw ha
          have HHr2 : Hid _ := fun hd ha => HHr.out hd htw ha
          clear HMr HHr htw
          go_upto_region 8 with fail
          go_cut [64] (fun y wx => y = .bool (!dn && x.after r) ∧ Q wc wx)
          case first =>
            cases dn with
            | true =>
              go_quiet (fail)
              go_wp2_with fail
              go_meet
              case rel => exact ⟨rfl, (Q.refl _).drewN _⟩
            | false =>
              cases h1 : Op.bytesLess x.key.toList r.key.toList <;> cases h2 : (x.key.toList == r.key.toList)
              · have ha : Hid (x.after r = true) := by show _ = _; unfold Rec.after; rw [h1, h2]; rfl
                go_quiet (fail)
                go_wp2_with fail
                go_meet
                case rel => exact ⟨by rw [ha.out]; rfl, (Q.refl _).drewN _⟩
              · have ha : Hid (x.after r = decide (x.stamp < r.stamp)) := by show _ = _; unfold Rec.after; rw [h1, h2]; simp
                go_quiet (fail)
                go_wp2_with fail
                go_meet
                case rel => exact ⟨by rw [ha.out]; rfl, (Q.refl _).drewN _⟩
              · have ha : Hid (x.after r = false) := by show _ = _; unfold Rec.after; rw [h1, h2]; rfl
                go_quiet (fail)
                go_wp2_with fail
                go_meet
                case rel => exact ⟨by rw [ha.out]; rfl, (Q.refl _).drewN _⟩
              · have ha : Hid (x.after r = decide (x.stamp < r.stamp)) := by show _ = _; unfold Rec.after; rw [h1, h2]; simp
                go_quiet (fail)
                go_wp2_with fail
                go_meet
                case rel => exact ⟨by rw [ha.out]; rfl, (Q.refl _).drewN _⟩
          case rest =>
            obtain ⟨rfl, qd⟩ := hcut
            have x0 := kept_cell y0 qd
            have x1 := kept_cell y1 qd
            have x2 := kept_cell y2 qd
            have x3 := kept_cell y3 qd
            have g0 := kept_cell z0 qd
            have g1 := kept_cell z1 qd
            have g2 := kept_cell z2 qd
            have g3 := kept_cell z3 qd
            have RC := (HR.out.kept qc).kept qd
            clear z0 z1 z2 z3 y0 y1 y2 y3 qc qd HR hqr
            cases hda : (!dn && x.after r) with
            | true =>
              simp only [Bool.and_eq_true, Bool.not_eq_true'] at hda
              have HN : Hid (Hid (Ins l r (k + 1) true (o ++ [r] ++ [x]))) := HHr2.out hda.1 hda.2
              clear HMr2 HHr2 hda
              go_wp2_with (at_builtin; refine wpList_append_own _ rfl (.tmp 65) (.tmp 67) 28 rfl w1.heap.size 30 i0 (.agg #[.string ⟨#[]⟩, .int .i64 0, .int .i64 0, .string ⟨#[]⟩]) 4 48 Tryd.underlying28 hi hz0 hz1 hz2 rfl (by decide) _ _ _ rfl (RC.own.alloc _) ⟨wc.heap.size, 0, none⟩ 1 1 (r).cells rfl rfl ?c1 ?c2 ?c3 ?c4 ?c5 ?_)
              case c1 => first | exact rec_cells_at _ _ _ | exact fun j u hj => hj
              case c2 => exact rec_cells_one _
              case c3 => simp [maxLen]; omega
              case c4 => first | omega | (simp; omega)
              case c5 => have := RC.below.size; simp; omega
              intro v1 u1 ho1 hgw1 _
              obtain ⟨ap1, cp1, hv1⟩ := own_form ho1
              rw [hv1] at ho1
              rw [hv1]
              have R1 := (RC.kept ((Q.refl _).alloc #[.string (r).key, .int .i64 (r).stamp, .int .i64 (r).kind, .string (r).body] 30)).push hgw1 ho1
              clear hv1 ho1 hgw1
              obtain ⟨g0', g1', g2', g3'⟩ := HX.out _ R1.below
              have hbu : b < u1.heap.size := Nat.lt_of_lt_of_le hb1 R1.below.size
              clear x0 x1 x2 x3 g0 g1 g2 g3 RC
              go_wp2_with (at_builtin; refine wpList_append_own _ rfl (.tmp 69) (.tmp 74) 28 rfl w1.heap.size 30 i0 (.agg #[.string ⟨#[]⟩, .int .i64 0, .int .i64 0, .string ⟨#[]⟩]) 4 48 Tryd.underlying28 hi hz0 hz1 hz2 rfl (by decide) _ _ _ (congrArg (fun n => Value.slice ap1 n cp1) (show o.length + 1 = (o ++ [r]).length by simp)) (R1.own.alloc _) ⟨u1.heap.size, 0, none⟩ 1 1 (x).cells rfl rfl ?c1 ?c2 ?c3 ?c4 ?c5 ?_)
              case c1 => first | exact rec_cells_at _ _ _ | exact fun j u hj => hj
              case c2 => exact rec_cells_one _
              case c3 => simp [maxLen]; omega
              case c4 => first | omega | (simp; omega)
              case c5 => have := R1.below.size; simp; omega
              intro v2 u2 ho2 hgw2 _
              obtain ⟨ap2, cp2, hv2⟩ := own_form ho2
              rw [hv2] at ho2
              rw [hv2]
              rw [show o.length + 1 = (o ++ [r]).length by simp] at ho2 hgw2
              have R2 := (R1.kept ((Q.refl _).alloc #[.string (x).key, .int .i64 (x).stamp, .int .i64 (x).kind, .string (x).body] 30)).push hgw2 ho2
              clear hv2 ho2 hgw2
              go_wp2_with fail
              go_roundw
              case rel => exact ⟨k + 1, true, o ++ [r] ++ [x], ap2, cp2, by simp, rfl, by go_num, by omega, HN.out, R2⟩
              case measure => simp [intOf]; omega
            | false =>
              have hda2 : dn = true ∨ x.after r = false := by
                cases dn with
                | true => exact Or.inl rfl
                | false => right; simpa using hda
              have HN : Hid _ := HMr2.out hda2
              clear HMr2 HHr2 hda hda2
              go_wp2_with (at_builtin; refine wpList_append_own _ rfl (.tmp 69) (.tmp 74) 28 rfl w1.heap.size 30 i0 (.agg #[.string ⟨#[]⟩, .int .i64 0, .int .i64 0, .string ⟨#[]⟩]) 4 48 Tryd.underlying28 hi hz0 hz1 hz2 rfl (by decide) _ _ _ rfl (RC.own.alloc _) ⟨wc.heap.size, 0, none⟩ 1 1 (x).cells rfl rfl ?c1 ?c2 ?c3 ?c4 ?c5 ?_)
              case c1 => first | exact rec_cells_at _ _ _ | exact fun j u hj => hj
              case c2 => exact rec_cells_one _
              case c3 => simp [maxLen]; omega
              case c4 => first | omega | (simp; omega)
              case c5 => have := RC.below.size; simp; omega
              intro v2 u2 ho2 hgw2 _
              obtain ⟨ap2, cp2, hv2⟩ := own_form ho2
              rw [hv2] at ho2
              rw [hv2]
              have R2 := (RC.kept ((Q.refl _).alloc #[.string (x).key, .int .i64 (x).stamp, .int .i64 (x).kind, .string (x).body] 30)).push hgw2 ho2
              clear hv2 ho2 hgw2
              go_wp2_with fail
              go_roundw
              case rel => exact ⟨k + 1, dn, o ++ [x], ap2, cp2, by simp, rfl, by go_num, by omega, HN, R2⟩
              case measure => simp [intOf]; omega
    · obtain rfl : k = l.length := by omega
      have RC := HR.out
      have x0 := kept_cell r0 hqr
      have x1 := kept_cell r1 hqr
      have x2 := kept_cell r2 hqr
      have x3 := kept_cell r3 hqr
      cases dn with
      | true =>
        have HF : Hid _ := (⟨true, o, HI.out, rfl⟩ : ∃ (dn : Bool) (o' : List Rec), Ins l r l.length dn o' ∧ o = if dn = true then o' else o' ++ [r])
        have HRs : Hid (Rcs wr ap o) := own_rcs' RC.own
        have HQ : Hid _ := q1.trans hqr
        clear RC x0 x1 x2 x3 HR HI r0 r1 r2 r3
        go_wp2_with fail
        go_ret
        exact ⟨o, ap, cp, rfl, Or.inr HF.out, HRs.out, HQ.out⟩
      | false =>
        have HF : Hid _ := (⟨false, o, HI.out, rfl⟩ : ∃ (dn : Bool) (o' : List Rec), Ins l r l.length dn o' ∧ o ++ [r] = if dn = true then o' else o' ++ [r])
        clear HR HI r0 r1 r2 r3
        go_wp2_with (at_builtin; refine wpList_append_own _ rfl (.tmp 78) (.tmp 80) 28 rfl w1.heap.size 30 i0 (.agg #[.string ⟨#[]⟩, .int .i64 0, .int .i64 0, .string ⟨#[]⟩]) 4 48 Tryd.underlying28 hi hz0 hz1 hz2 rfl (by decide) _ _ _ rfl (RC.own.alloc _) ⟨wr.heap.size, 0, none⟩ 1 1 (r).cells rfl rfl ?c1 ?c2 ?c3 ?c4 ?c5 ?_)
        case c1 => first | exact rec_cells_at _ _ _ | exact fun j u hj => hj
        case c2 => exact rec_cells_one _
        case c3 => simp [maxLen]; omega
        case c4 => first | omega | (simp; omega)
        case c5 => have := RC.below.size; simp; omega
        intro v1 u1 ho1 hgw1 _
        obtain ⟨ap1, cp1, hv1⟩ := own_form ho1
        rw [hv1] at ho1
        rw [hv1]
        have R1 := (RC.kept ((Q.refl _).alloc #[.string (r).key, .int .i64 (r).stamp, .int .i64 (r).kind, .string (r).body] 30)).push hgw1 ho1
        clear hv1 ho1 hgw1
        have HRs : Hid (Rcs u1 ap1 (o ++ [r])) := own_rcs' R1.own
        have HQ : Hid (Q w u1) := q1.trans ⟨R1.below⟩
        clear R1 RC x0 x1 x2 x3
        go_wp2_with fail
        go_ret
        exact ⟨o ++ [r], ap1, cp1, by simp, Or.inr HF.out, HRs.out, HQ.out⟩
end Go.Proofs.YtekdenkllipehaaDoor

/-
  The statement's 'pick': which of n things a raw number speaks of.
-/
namespace Go.Proofs.YtekdenkllipehaaDoor
open Go.RowKit

/-- What 'pick' answers. -/
def pickN (c : Int) (n : Nat) : Nat := (if c < 0 then -(c + 1) else c).toNat % n

theorem pickN_lt (c : Int) {n : Nat} (h : 0 < n) : pickN c n < n := Nat.mod_lt _ h

set_option maxRecDepth 100000 in
theorem pick_any (c : Int) (n : Nat) (hc : (Lit.int .i64 c).wf = true) (h0 : 0 < n) (hn : n ≤ 140737488355328) (w : World) :
    Calls Tryd.prog 20 #[.int .i64 c, .int .i64 (n : Int)] w fun e w' => e = .returned (.int .i64 (pickN c n : Nat)) ∧ w' = w := by
  have hb : -9223372036854775808 ≤ c ∧ c ≤ 9223372036854775807 := by
    have e1 : IntKind.i64.min = -9223372036854775808 := by decide
    have e2 : IntKind.i64.max = 9223372036854775807 := by decide
    simp only [Lit.wf, e1, e2, Bool.and_eq_true, decide_eq_true_eq] at hc
    omega
  have hn0 : ¬ ((n : Int) = 0) := by omega
  have hnb : ((n : Int) == 0) = false := by simpa using hn0
  unfold pickN
  by_cases h : c < 0
  · rw [if_pos h]
    obtain ⟨m, hm⟩ := Int.eq_ofNat_of_zero_le (show 0 ≤ -(c + 1) by omega)
    have w1 : IntKind.i64.wrap (c + 1) = c + 1 := by rw [IntKind.wrap_i64]; omega
    have w2 : IntKind.i64.wrap (-(c + 1)) = (m : Int) := by rw [IntKind.wrap_i64]; omega
    have e : (m : Int).tmod (n : Int) = ((m % n : Nat) : Int) := by rw [Int.tmod_eq_emod_of_nonneg (by omega)]; exact (Int.natCast_emod m n).symm
    rw [hm, Int.toNat_natCast]
    go_enter Tryd.func20, Tryd.ntmps20
    go_wp2_with fail
    go_ret
    exact ⟨rfl, rfl⟩
  · rw [if_neg h]
    obtain ⟨m, rfl⟩ := Int.eq_ofNat_of_zero_le (show 0 ≤ c by omega)
    have e : (m : Int).tmod (n : Int) = ((m % n : Nat) : Int) := by rw [Int.tmod_eq_emod_of_nonneg (by omega)]; exact (Int.natCast_emod m n).symm
    rw [Int.toNat_natCast]
    go_enter Tryd.func20, Tryd.ntmps20
    go_wp2_with fail
    go_ret
    exact ⟨rfl, rfl⟩
end Go.Proofs.YtekdenkllipehaaDoor

/-
  The statement's 'records': what a list of numbers speaks of.
-/
namespace Go.Proofs.YtekdenkllipehaaDoor
open Go.RowKit

/-- Numbers lie where a slice's address says. -/
def IntsAt (w : World) (ao : Option Addr) (zs : List Int) : Prop := zs = [] ∨ ∃ b off, ao = some ⟨b, off, none⟩ ∧ b < w.heap.size ∧ ∀ (i : Nat) (z : Int), zs[i]? = some z → w.cell? ⟨b, off + i, none⟩ = some (.int .i64 z)

theorem IntsAt.kept {w w' : World} {ao : Option Addr} {zs : List Int} (h : IntsAt w ao zs) (q : Q w w') : IntsAt w' ao zs :=
  h.imp id fun ⟨b, off, e, hb, hr⟩ => ⟨b, off, e, Nat.lt_of_lt_of_le hb q.below.size, fun i z hi => kept_cell (hr i z hi) q⟩

theorem IntsAt.at {w : World} {ao : Option Addr} {zs : List Int} (h : IntsAt w ao zs) {k : Nat} (hk : k < zs.length) : ∃ b off, ao = some ⟨b, off, none⟩ ∧ b < w.heap.size ∧ ∀ (i : Nat) (z : Int), zs[i]? = some z → w.cell? ⟨b, off + i, none⟩ = some (.int .i64 z) := by
  rcases h with rfl | h
  · simp at hk
  · exact h

theorem new_cell (w : World) (v : Value) (t : TypeId) : (w.alloc (.cells #[v] t)).cell? ⟨w.heap.size, 0, none⟩ = some v := by simp

theorem wf_range {z : Int} (h : (Lit.int .i64 z).wf = true) : -9223372036854775808 ≤ z ∧ z ≤ 9223372036854775807 := by
  have e1 : IntKind.i64.min = -9223372036854775808 := by decide
  have e2 : IntKind.i64.max = 9223372036854775807 := by decide
  simp only [Lit.wf, e1, e2, Bool.and_eq_true, decide_eq_true_eq] at h
  omega
theorem wf_of {z : Int} (h0 : -9223372036854775808 ≤ z) (h1 : z ≤ 9223372036854775807) : (Lit.int .i64 z).wf = true := by
  have e1 : IntKind.i64.min = -9223372036854775808 := by decide
  have e2 : IntKind.i64.max = 9223372036854775807 := by decide
  simp only [Lit.wf, e1, e2, Bool.and_eq_true, decide_eq_true_eq]
  omega

theorem tdiv_wf {z : Int} {d : Nat} (hd : 1 < d) (h : (Lit.int .i64 z).wf = true) : (Lit.int .i64 (z.tdiv (d : Int))).wf = true := by
  have hr := wf_range h
  have hn : (z.tdiv (d : Int)).natAbs ≤ z.natAbs := by
    rw [Int.natAbs_tdiv]
    exact Nat.div_le_self _ _
  have hn2 : (z.tdiv (d : Int)).natAbs ≤ 9223372036854775807 := by
    rw [Int.natAbs_tdiv]
    have h2 : 2 ≤ (d : Int).natAbs := by simp; omega
    have : z.natAbs / (d : Int).natAbs ≤ z.natAbs / 2 := Nat.div_le_div_left h2 (by omega)
    show z.natAbs / (d : Int).natAbs ≤ 9223372036854775807
    omega
  exact wf_of (by omega) (by omega)

set_option maxRecDepth 100000 in
set_option maxHeartbeats 1600000 in
theorem records_any (zs : List Int) (hz : ∀ z ∈ zs, (Lit.int .i64 z).wf = true) (ao : Option Addr) (cap : Nat) (w : World) (h : IntsAt w ao zs) (hl : zs.length ≤ 140737488351232) :
    Calls Tryd.prog 19 #[.slice ao zs.length cap] w fun e w' => ∃ (rs : List Rec) (ao' : Option Addr) (cap' : Nat), e = .returned (.slice ao' rs.length cap') ∧ (Fine rs ∧ rs.length ≤ 64) ∧ Rcs w' ao' rs ∧ Q w w' := by
  have HH : Hid (IntsAt w ao zs) := h
  have HZ : Hid (∀ (i : Nat) (z : Int), zs[i]? = some z → (Lit.int .i64 z).wf = true) := fun i z hi => hz z (List.mem_of_getElem? hi)
  have HP : Hid _ := pick_any
  have HWi : Hid _ := with_any
  have HE : Hid (∀ (l : List Rec) (r : Rec) (out : List Rec), Fine l → r.fits = true → (out = l ∨ ∃ (dn : Bool) (o : List Rec), Ins l r l.length dn o ∧ out = if dn = true then o else o ++ [r]) → Fine out ∧ out.length ≤ l.length + 1) := fun l r out hl hr ho => by
    rcases ho with rfl | ⟨dn, o, hi, rfl⟩
    · exact ⟨hl, by omega⟩
    · have := ins_end hi hl hr
      exact ⟨this.1, by omega⟩
  clear h hz
  go_enter Tryd.func19, Tryd.ntmps19
  go_wp2_with fail
  go_loopw [3, 4] (fun p i wr => ∃ (k : Nat) (rs : List Rec) (ap : Option Addr) (cp : Nat), p = .slice ap rs.length cp ∧ i = .int .i64 k ∧ k ≤ zs.length + 3 ∧ rs.length ≤ 64 ∧ Hid (Fine rs) ∧ Hid (Rcs wr ap rs) ∧ Q w wr) (fun _ i _ => zs.length + 3 - (intOf i).toNat)
  case atStart => exact ⟨0, [], none, 0, rfl, rfl, by omega, by simp, fine_nil, Or.inl rfl, Q.refl w⟩
  case round =>
    obtain ⟨k, rs, ap, cp, rfl, rfl, hk, hrl, HF, HR, hq⟩ := hrel
    by_cases h1 : k + 2 < zs.length
    · by_cases h2 : rs.length < 64
      · obtain ⟨b, off, rfl, hb, hat⟩ := (HH.out.kept hq).at h1
        have g0 : zs[k]? = some zs[k] := List.getElem?_eq_getElem (by omega)
        have g1 : zs[k + 1]? = some zs[k + 1] := List.getElem?_eq_getElem (by omega)
        have g2 : zs[k + 2]? = some zs[k + 2] := List.getElem?_eq_getElem (by omega)
        have e0 := hat k _ g0
        have e1 := hat (k + 1) _ g1
        have e2 := hat (k + 2) _ g2
        have f0 := HZ.out k _ g0
        have f1 := HZ.out (k + 1) _ g1
        have f2 := HZ.out (k + 2) _ g2
        generalize zs[k] = z0 at *
        generalize zs[k + 1] = z1 at *
        generalize zs[k + 2] = z2 at *
        have i0 : (k : Int) < (zs.length : Int) := by omega
        have i1 : (k : Int) + 1 < (zs.length : Int) := by omega
        have i2 : (k : Int) + 2 < (zs.length : Int) := by omega
        have j1 : IntKind.i64.wrap ((k : Int) + 1) = (k : Int) + 1 := by rw [IntKind.wrap_i64]; omega
        have j2 : IntKind.i64.wrap ((k : Int) + 2) = (k : Int) + 2 := by rw [IntKind.wrap_i64]; omega
        have t1 : ((k : Int) + 1).toNat = k + 1 := by omega
        have t2 : ((k : Int) + 2).toNat = k + 2 := by omega
        have n1 : (0 : Int) ≤ (k : Int) + 1 := by omega
        have n2 : (0 : Int) ≤ (k : Int) + 2 := by omega
        have P0 : Hid _ := HP.out z0 5 f0 (by decide) (by decide)
        have hp0 := pickN_lt z0 (n := 5) (by decide)
        generalize pickN z0 5 = m0 at *
        clear g0 g1 g2 hat
        go_wp2_with fail
        refine (P0.out _).mono ?_
        rintro e wx ⟨rfl, hwx⟩
        subst hwx
        have f3 := tdiv_wf (d := 5) (by decide) f0
        have f4 := tdiv_wf (d := 1000) (by decide) f1
        have P3 : Hid _ := HP.out _ 3 f3 (by decide) (by decide)
        have hp3 := pickN_lt (z0.tdiv ((5 : Nat) : Int)) (n := 3) (by decide)
        have r3 := wf_range f3
        have q3 : IntKind.i64.wrap (z0.tdiv 5) = z0.tdiv 5 := by rw [IntKind.wrap_i64]; have := r3; simp only [show ((5 : Nat) : Int) = 5 from rfl] at this; omega
        generalize pickN (z0.tdiv ((5 : Nat) : Int)) 3 = m3 at *
        have a3 : IntKind.i64.wrap (97 + (m3 : Int)) = 97 + (m3 : Int) := by rw [IntKind.wrap_i64]; omega
        obtain ⟨c3, hc3⟩ : ∃ c3 : Nat, c3 = 97 + m3 := ⟨_, rfl⟩
        have b3 : IntKind.u8.wrap (97 + (m3 : Int)) = (c3 : Int) := by rw [IntKind.wrap_u8]; omega
        have hcv := conv_byte c3
        clear hc3
        go_wp2_with fail
        go_loopw [5, 6] (fun p i wk => ∃ (kb : ByteArray) (n : Nat), p = .string kb ∧ i = .int .i64 n ∧ 1 ≤ kb.size ∧ kb.size + n ≤ 5 ∧ Q wx wk) (fun _ i _ => (intOf i).toNat)
        case atStart => exact ⟨⟨#[107]⟩, m0, rfl, rfl, by decide, by show 1 + m0 ≤ 5; omega, Q.refl _⟩
        case round =>
          obtain ⟨kb, n, rfl, rfl, hk1, hk2, hqk⟩ := hrel
          by_cases hn : 0 < n
          · obtain ⟨n', rfl⟩ : ∃ n', n = n' + 1 := ⟨n - 1, by omega⟩
            have c0 := kept_cell e0 hqk
            have hbk : b < wr.heap.size := Nat.lt_of_lt_of_le hb hqk.below.size
            have hsz1 : (⟨#[UInt8.ofNat c3]⟩ : ByteArray).size = 1 := rfl
            have hadd : ∀ W, (Op.stringOp .add kb ⟨#[UInt8.ofNat c3]⟩).run Tryd.prog W = .ok (.string (kb ++ ⟨#[UInt8.ofNat c3]⟩)) W := fun W => run_string_add_sum W _ _ (by rw [hsz1]; omega)
            have hd : decide ((0 : Int) < (n' : Int) + 1) = true := by rw [decide_eq_true_eq]; omega
            have hns : IntKind.i64.wrap ((n' : Int) + 1 - 1) = (n' : Int) := by rw [IntKind.wrap_i64]; omega
            have hns2 : IntKind.i64.wrap (n' : Int) = (n' : Int) := by rw [IntKind.wrap_i64]; omega
            clear e1 e2
            go_wp2_with fail
            refine (P3.out _).mono ?_
            rintro e wy ⟨rfl, hwy⟩
            subst hwy
            go_wp2_with fail
            go_roundw
            case rel => exact ⟨kb ++ ⟨#[UInt8.ofNat c3]⟩, n', rfl, by go_num, by rw [ByteArray.size_append, hsz1]; omega, by rw [ByteArray.size_append, hsz1]; omega, hqk.alloc _ _⟩
            case measure => simp [intOf]
          · obtain rfl : n = 0 := by omega
            have c1 := kept_cell e1 hqk
            have c2 := kept_cell e2 hqk
            have HC2 : Hid (wr.cell? ⟨b, off + (k + 2), none⟩ = some (.int .i64 z2)) := c2
            have hbk : b < wr.heap.size := Nat.lt_of_lt_of_le hb hqk.below.size
            have P1 : Hid _ := HP.out z1 1000 f1 (by decide) (by decide)
            have hp1 := pickN_lt z1 (n := 1000) (by decide)
            generalize pickN z1 1000 = m1 at *
            have P4 : Hid _ := HP.out _ 3 f4 (by decide) (by decide)
            have hp4 := pickN_lt (z1.tdiv ((1000 : Nat) : Int)) (n := 3) (by decide)
            have r4 := wf_range f4
            have q4 : IntKind.i64.wrap (z1.tdiv 1000) = z1.tdiv 1000 := by rw [IntKind.wrap_i64]; have := r4; simp only [show ((1000 : Nat) : Int) = 1000 from rfl] at this; omega
            generalize pickN (z1.tdiv ((1000 : Nat) : Int)) 3 = m4 at *
            have P2 : Hid _ := HP.out z2 40 f2 (by decide) (by decide)
            have hp2 := pickN_lt z2 (n := 40) (by decide)
            generalize pickN z2 40 = m2 at *
            have P5 : Hid _ := HP.out z2 256 f2 (by decide) (by decide)
            have hp5 := pickN_lt z2 (n := 256) (by decide)
            generalize pickN z2 256 = m5 at *
            clear e0 e1 e2 P3 P0 a3 b3 hcv q3 r3 r4 f3 f4
            go_upto_region 10 with fail
            go_cut [7] (fun y wq => ∃ R : Nat, y = .pointer (some ⟨R, 0, none⟩) ∧ wr.heap.size ≤ R ∧ Q wr wq ∧ Var4 wq R (.string kb) (.int .i64 (m1 : Int)) (.int .i64 (m4 : Int)) (.string ⟨#[]⟩))
            case first =>
              have s1 : wr.drew.cell? ⟨b, off + (k + 1), none⟩ = some (.int .i64 z1) := c1
              have s2 : (wr.drew.alloc (.cells #[.string ⟨#[]⟩, .int .i64 0, .int .i64 0, .string ⟨#[]⟩] 30)).cell? ⟨b, off + (k + 1), none⟩ = some (.int .i64 z1) := kept_cell s1 ((Q.refl _).alloc _ _)
              refine wp_region_held_drew (S := fun w' => w'.cell? ⟨b, off + (k + 1), none⟩ = some (.int .i64 z1)) (by kernel_rfl) s1 (fun hHeld => ?_)
              refine wpAnyH_take (i := 0) (v := ?_) rfl (by kernel_rfl) (by kernel_rfl) (by kernel_rfl) (fun _ _ _ h => h) (Or.inl ⟨by kernel_rfl, ?_⟩) hHeld ?_
              rotate_left
              · (intro w hSw; (try dsimp only at hSw); go_simp; try with_reducible rfl)
              try simp only [Act.put, List.getElem_toArray, List.getElem_cons_zero, List.setIfInBounds_toArray, List.set_cons_succ, List.set_cons_zero]
              refine wpAnyH_take (i := 1) (v := ?_) rfl (by kernel_rfl) (by kernel_rfl) (by kernel_rfl) (fun _ _ _ h => h) (Or.inl ⟨by kernel_rfl, ?_⟩) hHeld ?_
              rotate_left
              · (intro w hSw; (try dsimp only at hSw); go_simp; try with_reducible rfl)
              try simp only [Act.put, List.getElem_toArray, List.getElem_cons_succ, List.getElem_cons_zero, List.setIfInBounds_toArray, List.set_cons_succ, List.set_cons_zero]
              refine wpAnyH_take (i := 2) (v := ?_) rfl (by kernel_rfl) (by kernel_rfl) (by kernel_rfl) (fun _ _ _ h => h) (Or.inl ⟨by kernel_rfl, ?_⟩) hHeld ?_
              rotate_left
              · (intro w hSw; (try dsimp only at hSw); go_simp; try with_reducible rfl)
              try simp only [Act.put, List.getElem_toArray, List.getElem_cons_succ, List.getElem_cons_zero, List.setIfInBounds_toArray, List.set_cons_succ, List.set_cons_zero]
              refine wpAnyH_take (i := 3) (v := ?_) rfl (by kernel_rfl) (by kernel_rfl) (by kernel_rfl) (fun _ _ _ h => h) (Or.inl ⟨by kernel_rfl, ?_⟩) hHeld ?_
              rotate_left
              · (intro w hSw; (try dsimp only at hSw); go_simp; try with_reducible rfl)
              try simp only [Act.put, List.getElem_toArray, List.getElem_cons_succ, List.getElem_cons_zero, List.setIfInBounds_toArray, List.set_cons_succ, List.set_cons_zero]
              refine wpAnyH_take (i := 4) (v := ?_) rfl (by kernel_rfl) (by kernel_rfl) (by kernel_rfl) (fun _ _ _ h => h) (Or.inl ⟨by kernel_rfl, ?_⟩) hHeld ?_
              rotate_left
              · (intro w hSw; (try dsimp only at hSw); go_simp; try with_reducible rfl)
              try simp only [Act.put, List.getElem_toArray, List.getElem_cons_succ, List.getElem_cons_zero, List.setIfInBounds_toArray, List.set_cons_succ, List.set_cons_zero]
              refine wpAnyH_take (i := 5) (v := ?_) rfl (by kernel_rfl) (by kernel_rfl) (by kernel_rfl) (fun _ _ _ h => h) (Or.inl ⟨by kernel_rfl, ?_⟩) hHeld ?_
              rotate_left
              · (intro w hSw; (try dsimp only at hSw); go_simp; try with_reducible rfl)
              try simp only [Act.put, List.getElem_toArray, List.getElem_cons_succ, List.getElem_cons_zero, List.setIfInBounds_toArray, List.set_cons_succ, List.set_cons_zero]
              refine wpAnyH_take (i := 7) (v := ?_) rfl (by kernel_rfl) (by kernel_rfl) (by kernel_rfl) (fun _ _ _ h => h) (Or.inl ⟨by kernel_rfl, ?_⟩) hHeld ?_
              rotate_left
              · (intro w hSw; (try dsimp only at hSw); go_simp; try with_reducible rfl)
              try simp only [Act.put, List.getElem_toArray, List.getElem_cons_succ, List.getElem_cons_zero, List.setIfInBounds_toArray, List.set_cons_succ, List.set_cons_zero]
              refine wpAnyH_take (i := 8) (v := ?_) rfl (by kernel_rfl) (by kernel_rfl) (by kernel_rfl) (fun _ _ _ h => h) (Or.inl ⟨by kernel_rfl, ?_⟩) hHeld ?_
              rotate_left
              · (intro w hSw; (try dsimp only at hSw); go_simp; try with_reducible rfl)
              try simp only [Act.put, List.getElem_toArray, List.getElem_cons_succ, List.getElem_cons_zero, List.setIfInBounds_toArray, List.set_cons_succ, List.set_cons_zero]
              refine wpAnyH_take (i := 9) (v := ?_) rfl (by kernel_rfl) (by kernel_rfl) (by kernel_rfl) (fun _ _ _ h => h) (Or.inl ⟨by kernel_rfl, ?_⟩) hHeld ?_
              rotate_left
              · (intro w hSw; (try dsimp only at hSw); go_simp; try with_reducible rfl)
              try simp only [Act.put, List.getElem_toArray, List.getElem_cons_succ, List.getElem_cons_zero, List.setIfInBounds_toArray, List.set_cons_succ, List.set_cons_zero]
              refine wpAnyH_take (i := 10) (v := ?_) rfl (by kernel_rfl) (by kernel_rfl) (by kernel_rfl) (fun _ _ _ h => h) (Or.inl ⟨by kernel_rfl, ?_⟩) hHeld ?_
              rotate_left
              · (intro w hSw; (try dsimp only at hSw); go_simp; try with_reducible rfl)
              try simp only [Act.put, List.getElem_toArray, List.getElem_cons_succ, List.getElem_cons_zero, List.setIfInBounds_toArray, List.set_cons_succ, List.set_cons_zero]
              refine wpAnyH_take (i := 11) (v := ?_) rfl (by kernel_rfl) (by kernel_rfl) (by kernel_rfl) (fun _ _ _ h => h) (Or.inl ⟨by kernel_rfl, ?_⟩) hHeld ?_
              rotate_left
              · (intro w hSw; (try dsimp only at hSw); go_simp; try with_reducible rfl)
              try simp only [Act.put, List.getElem_toArray, List.getElem_cons_succ, List.getElem_cons_zero, List.setIfInBounds_toArray, List.set_cons_succ, List.set_cons_zero]
              refine wpAnyH_take (i := 12) (v := ?_) rfl (by kernel_rfl) (by kernel_rfl) (by kernel_rfl) (fun _ _ _ h => h) (Or.inl ⟨by kernel_rfl, ?_⟩) hHeld ?_
              rotate_left
              · (intro w hSw; (try dsimp only at hSw); go_simp; try with_reducible rfl)
              try simp only [Act.put, List.getElem_toArray, List.getElem_cons_succ, List.getElem_cons_zero, List.setIfInBounds_toArray, List.set_cons_succ, List.set_cons_zero]
              refine wpAnyH_ready (rs := [6, 15]) (by kernel_rfl) (by simp) ?_
              refine AllReadyH.cons rfl (fun K hK => ?_) ?_
              · go_simp
                refine (P1.out _).mono ?_
                rintro e wy ⟨rfl, hwy⟩
                subst hwy
                try go_wp2_with fail
                refine hK.out _ _ s1 (fun hHeld0 => ?_)
                clear hK K hHeld
                have hHeld := hHeld0
                clear hHeld0
                try simp only [Act.put, List.getElem_toArray, List.getElem_cons_succ, List.getElem_cons_zero, List.setIfInBounds_toArray, List.set_cons_succ, List.set_cons_zero]
                refine wpAnyH_ready (rs := [13, 15]) (by kernel_rfl) (by simp) ?_
                refine AllReadyH.cons rfl (fun K hK => ?_) ?_
                · go_simp
                  refine (P4.out _).mono ?_
                  rintro e wy ⟨rfl, hwy⟩
                  subst hwy
                  try go_wp2_with fail
                  refine hK.out _ _ s1 (fun hHeld0 => ?_)
                  clear hK K hHeld
                  have hHeld := hHeld0
                  clear hHeld0
                  try simp only [Act.put, List.getElem_toArray, List.getElem_cons_succ, List.getElem_cons_zero, List.setIfInBounds_toArray, List.set_cons_succ, List.set_cons_zero]
                  refine wpAnyH_take (i := 14) (v := ?_) rfl (by kernel_rfl) (by kernel_rfl) (by kernel_rfl) (fun _ _ _ h => h) (Or.inl ⟨by kernel_rfl, ?_⟩) hHeld ?_
                  rotate_left
                  · (intro w hSw; (try dsimp only at hSw); go_simp; try with_reducible rfl)
                  try simp only [Act.put, List.getElem_toArray, List.getElem_cons_succ, List.getElem_cons_zero, List.setIfInBounds_toArray, List.set_cons_succ, List.set_cons_zero]
                  refine wpAnyH_ready (rs := [15]) (by kernel_rfl) (by simp) ?_
                  refine AllReadyH.cons rfl (fun K hK => ?_) ?_
                  · go_simp
                    refine hK.out _ _ s2 (fun hHeld0 => ?_)
                    clear hK K hHeld
                    have hHeld := hHeld0
                    clear hHeld0
                    try simp only [Act.put, List.getElem_toArray, List.getElem_cons_succ, List.getElem_cons_zero, List.setIfInBounds_toArray, List.set_cons_succ, List.set_cons_zero]
                    refine wpAnyH_ready (rs := [16]) (by kernel_rfl) (by simp) ?_
                    refine AllReadyH.cons rfl (fun K hK => ?_) AllReadyH.nil
                    go_simp
                    refine hK.out _ _ (kept_cell c1 ((Q.refl _).alloc _ _).drew) (fun hHeld0 => ?_)
                    clear hK K hHeld hHeld0
                    refine wpAnyH_done (by kernel_rfl) ?_ _
                    have hv := var4_new wr (.string kb) (.int .i64 (m1 : Int)) (.int .i64 (m4 : Int)) (.string ⟨#[]⟩) 30
                    go_wp2_with fail
                    go_meet
                    case rel => exact ⟨wr.heap.size, rfl, Nat.le_refl _, ((Q.refl wr).alloc _ _).drew, ⟨hv.c0, hv.c1, hv.c2, hv.c3, hv.fr⟩⟩
                  exact AllReadyH.nil
                refine AllReadyH.cons rfl (fun K hK => ?_) ?_
                · go_simp
                  refine hK.out _ _ s2 (fun hHeld0 => ?_)
                  clear hK K hHeld
                  have hHeld := hHeld0
                  clear hHeld0
                  try simp only [Act.put, List.getElem_toArray, List.getElem_cons_succ, List.getElem_cons_zero, List.setIfInBounds_toArray, List.set_cons_succ, List.set_cons_zero]
                  refine wpAnyH_ready (rs := [13]) (by kernel_rfl) (by simp) ?_
                  refine AllReadyH.cons rfl (fun K hK => ?_) ?_
                  · go_simp
                    refine (P4.out _).mono ?_
                    rintro e wy ⟨rfl, hwy⟩
                    subst hwy
                    try go_wp2_with fail
                    refine hK.out _ _ s2 (fun hHeld0 => ?_)
                    clear hK K hHeld
                    have hHeld := hHeld0
                    clear hHeld0
                    try simp only [Act.put, List.getElem_toArray, List.getElem_cons_succ, List.getElem_cons_zero, List.setIfInBounds_toArray, List.set_cons_succ, List.set_cons_zero]
                    refine wpAnyH_take (i := 14) (v := ?_) rfl (by kernel_rfl) (by kernel_rfl) (by kernel_rfl) (fun _ _ _ h => h) (Or.inl ⟨by kernel_rfl, ?_⟩) hHeld ?_
                    rotate_left
                    · (intro w hSw; (try dsimp only at hSw); go_simp; try with_reducible rfl)
                    try simp only [Act.put, List.getElem_toArray, List.getElem_cons_succ, List.getElem_cons_zero, List.setIfInBounds_toArray, List.set_cons_succ, List.set_cons_zero]
                    refine wpAnyH_ready (rs := [16]) (by kernel_rfl) (by simp) ?_
                    refine AllReadyH.cons rfl (fun K hK => ?_) AllReadyH.nil
                    go_simp
                    refine hK.out _ _ (kept_cell c1 ((Q.refl _).alloc _ _).drew) (fun hHeld0 => ?_)
                    clear hK K hHeld hHeld0
                    refine wpAnyH_done (by kernel_rfl) ?_ _
                    have hv := var4_new wr (.string kb) (.int .i64 (m1 : Int)) (.int .i64 (m4 : Int)) (.string ⟨#[]⟩) 30
                    go_wp2_with fail
                    go_meet
                    case rel => exact ⟨wr.heap.size, rfl, Nat.le_refl _, ((Q.refl wr).alloc _ _).drew, ⟨hv.c0, hv.c1, hv.c2, hv.c3, hv.fr⟩⟩
                  exact AllReadyH.nil
                exact AllReadyH.nil
              refine AllReadyH.cons rfl (fun K hK => ?_) ?_
              · go_simp
                refine hK.out _ _ s2 (fun hHeld0 => ?_)
                clear hK K hHeld
                have hHeld := hHeld0
                clear hHeld0
                try simp only [Act.put, List.getElem_toArray, List.getElem_cons_succ, List.getElem_cons_zero, List.setIfInBounds_toArray, List.set_cons_succ, List.set_cons_zero]
                refine wpAnyH_ready (rs := [6]) (by kernel_rfl) (by simp) ?_
                refine AllReadyH.cons rfl (fun K hK => ?_) ?_
                · go_simp
                  refine (P1.out _).mono ?_
                  rintro e wy ⟨rfl, hwy⟩
                  subst hwy
                  try go_wp2_with fail
                  refine hK.out _ _ s2 (fun hHeld0 => ?_)
                  clear hK K hHeld
                  have hHeld := hHeld0
                  clear hHeld0
                  try simp only [Act.put, List.getElem_toArray, List.getElem_cons_succ, List.getElem_cons_zero, List.setIfInBounds_toArray, List.set_cons_succ, List.set_cons_zero]
                  refine wpAnyH_ready (rs := [13]) (by kernel_rfl) (by simp) ?_
                  refine AllReadyH.cons rfl (fun K hK => ?_) ?_
                  · go_simp
                    refine (P4.out _).mono ?_
                    rintro e wy ⟨rfl, hwy⟩
                    subst hwy
                    try go_wp2_with fail
                    refine hK.out _ _ s2 (fun hHeld0 => ?_)
                    clear hK K hHeld
                    have hHeld := hHeld0
                    clear hHeld0
                    try simp only [Act.put, List.getElem_toArray, List.getElem_cons_succ, List.getElem_cons_zero, List.setIfInBounds_toArray, List.set_cons_succ, List.set_cons_zero]
                    refine wpAnyH_take (i := 14) (v := ?_) rfl (by kernel_rfl) (by kernel_rfl) (by kernel_rfl) (fun _ _ _ h => h) (Or.inl ⟨by kernel_rfl, ?_⟩) hHeld ?_
                    rotate_left
                    · (intro w hSw; (try dsimp only at hSw); go_simp; try with_reducible rfl)
                    try simp only [Act.put, List.getElem_toArray, List.getElem_cons_succ, List.getElem_cons_zero, List.setIfInBounds_toArray, List.set_cons_succ, List.set_cons_zero]
                    refine wpAnyH_ready (rs := [16]) (by kernel_rfl) (by simp) ?_
                    refine AllReadyH.cons rfl (fun K hK => ?_) AllReadyH.nil
                    go_simp
                    refine hK.out _ _ (kept_cell c1 ((Q.refl _).alloc _ _).drew) (fun hHeld0 => ?_)
                    clear hK K hHeld hHeld0
                    refine wpAnyH_done (by kernel_rfl) ?_ _
                    have hv := var4_new wr (.string kb) (.int .i64 (m1 : Int)) (.int .i64 (m4 : Int)) (.string ⟨#[]⟩) 30
                    go_wp2_with fail
                    go_meet
                    case rel => exact ⟨wr.heap.size, rfl, Nat.le_refl _, ((Q.refl wr).alloc _ _).drew, ⟨hv.c0, hv.c1, hv.c2, hv.c3, hv.fr⟩⟩
                  exact AllReadyH.nil
                exact AllReadyH.nil
              exact AllReadyH.nil
            case rest =>
              obtain ⟨R, rfl, hR, qq, hV⟩ := hcut
              have c2' := kept_cell c2 qq
              have hbq : b < wc.heap.size := Nat.lt_of_lt_of_le hbk qq.below.size
              have hbR : b < R := Nat.lt_of_lt_of_le hbk hR
              clear c1 c2 P1 P4 q4 hbk
              go_wp2_with fail
              refine (P2.out _).mono ?_
              rintro e wy ⟨rfl, hwy⟩
              subst hwy
              have HV : Hid (Var4 wy R (.string kb) (.int .i64 (m1 : Int)) (.int .i64 (m4 : Int)) (.string ⟨#[]⟩)) := hV
              have HC : Hid (∀ W, Q wr W → W.cell? ⟨b, off + (k + 2), none⟩ = some (.int .i64 z2)) := fun W q => kept_cell (HC2.out) q
              clear hV c2'
              go_wp2_with fail
              go_loopw [8] (fun i wk => ∃ (n : Nat) (body : ByteArray), i = .int .i64 n ∧ body.size + n ≤ 39 ∧ Q wr wk ∧ R < wk.heap.size ∧ Hid (Var4 wk R (.string kb) (.int .i64 (m1 : Int)) (.int .i64 (m4 : Int)) (.string body))) (fun i _ => (intOf i).toNat)
              case atStart => exact ⟨m2, ⟨#[]⟩, rfl, by show 0 + m2 ≤ 39; omega, qq, cell_lt4 HV.out.c0, HV⟩
              case round =>
                obtain ⟨n, body, rfl, hbn, hqn, hRn, HVn⟩ := hrel
                have s0 := HC.out _ hqn
                have y0 := HVn.out.c0
                have y1 := HVn.out.c1
                have y2 := HVn.out.c2
                have y3 := HVn.out.c3
                have yf := HVn.out.fr 3
                have hbn2 : b < wr.heap.size := cell_lt4 s0
                by_cases hn : 0 < n
                · obtain ⟨n', rfl⟩ : ∃ n', n = n' + 1 := ⟨n - 1, by omega⟩
                  have hsz1 : (⟨#[UInt8.ofNat m5]⟩ : ByteArray).size = 1 := rfl
                  have hadd : ∀ W, (Op.stringOp .add body ⟨#[UInt8.ofNat m5]⟩).run Tryd.prog W = .ok (.string (body ++ ⟨#[UInt8.ofNat m5]⟩)) W := fun W => run_string_add_sum W _ _ (by rw [hsz1]; omega)
                  have hcv := conv_byte m5
                  have b5 : IntKind.u8.wrap (m5 : Int) = (m5 : Int) := by rw [IntKind.wrap_u8]; omega
                  have hd : decide ((0 : Int) < (n' : Int) + 1) = true := by rw [decide_eq_true_eq]; omega
                  have hns2 : IntKind.i64.wrap (n' : Int) = (n' : Int) := by rw [IntKind.wrap_i64]; omega
                  have hRne : ¬ (R = wr.heap.size) := by omega
                  have s1 : wr.drew.cell? ⟨b, off + (k + 2), none⟩ = some (.int .i64 z2) := s0
                  have hXV0 := HVn.out.set3 (.string (body ++ ⟨#[UInt8.ofNat m5]⟩))
                  have hXV1 := hXV0.grown (World.grownBy_alloc _ (.cells #[.int .u8 (m5 : Int)] 5) none) (by simp)
                  have HXV : Hid (Hid (Var4 ((wr.setCell ⟨R, 3, none⟩ (.string (body ++ ⟨#[UInt8.ofNat m5]⟩))).alloc (.cells #[.int .u8 (m5 : Int)] 5)).drew R (.string kb) (.int .i64 (m1 : Int)) (.int .i64 (m4 : Int)) (.string (body ++ ⟨#[UInt8.ofNat m5]⟩)))) := (⟨hXV1.c0, hXV1.c1, hXV1.c2, hXV1.c3, hXV1.fr⟩ : Var4 ((wr.setCell ⟨R, 3, none⟩ (.string (body ++ ⟨#[UInt8.ofNat m5]⟩))).alloc (.cells #[.int .u8 (m5 : Int)] 5)).drew R (.string kb) (.int .i64 (m1 : Int)) (.int .i64 (m4 : Int)) (.string (body ++ ⟨#[UInt8.ofNat m5]⟩)))
                  have hXq : Q _ (wr.setCell ⟨R, 3, none⟩ (.string (body ++ ⟨#[UInt8.ofNat m5]⟩))) := ⟨hqn.below.grown (set_grown wr R 3 _) hqn.below.size (by intro j hj; simp at hj; omega)⟩
                  have HXQ : Hid (Q _ ((wr.setCell ⟨R, 3, none⟩ (.string (body ++ ⟨#[UInt8.ofNat m5]⟩))).alloc (.cells #[.int .u8 (m5 : Int)] 5)).drew) := (hXq.alloc _ _).drew
                  have HXs : Hid (R < (World.heap ((wr.setCell ⟨R, 3, none⟩ (.string (body ++ ⟨#[UInt8.ofNat m5]⟩))).alloc (.cells #[.int .u8 (m5 : Int)] 5)).drew).size) := cell_lt4 hXV1.c0
                  have hXS : (wr.setCell ⟨R, 3, none⟩ (.string (body ++ ⟨#[UInt8.ofNat m5]⟩))).cell? ⟨b, off + (k + 2), none⟩ = some (.int .i64 z2) := by rw [World.cell?_setCell_other _ _ _ _ (by intro e; injection e; omega)]; exact s0
                  have HXS : Hid (World.cell? ((wr.setCell ⟨R, 3, none⟩ (.string (body ++ ⟨#[UInt8.ofNat m5]⟩))).alloc (.cells #[.int .u8 (m5 : Int)] 5)).drew ⟨b, off + (k + 2), none⟩ = some (.int .i64 z2)) := kept_cell hXS ((Q.refl _).alloc _ _).drew
                  have hXz : (wr.setCell ⟨R, 3, none⟩ (.string (body ++ ⟨#[UInt8.ofNat m5]⟩))).heap.size = wr.heap.size := by simp
                  have hXB := new_cell (wr.setCell ⟨R, 3, none⟩ (.string (body ++ ⟨#[UInt8.ofNat m5]⟩))) (.int .u8 (m5 : Int)) 5
                  rw [hXz] at hXB
                  have HXB : Hid (World.cell? ((wr.setCell ⟨R, 3, none⟩ (.string (body ++ ⟨#[UInt8.ofNat m5]⟩))).alloc (.cells #[.int .u8 (m5 : Int)] 5)).drew ⟨wr.heap.size, 0, none⟩ = some (.int .u8 (m5 : Int))) := hXB
                  clear hXV0 hXV1 hXq hXS hXz hXB
                  go_upto_region 14 with fail
                  refine wp_region_held_drew (S := fun w' => w'.cell? ⟨b, off + (k + 2), none⟩ = some (.int .i64 z2)) (by kernel_rfl) s1 (fun hHeld => ?_)
                  refine wpAnyH_take (i := 0) (v := ?_) rfl (by kernel_rfl) (by kernel_rfl) (by kernel_rfl) (fun _ _ _ h => h) (Or.inl ⟨by kernel_rfl, ?_⟩) hHeld ?_
                  rotate_left
                  · (intro w hSw; (try dsimp only at hSw); go_simp; try with_reducible rfl)
                  try simp only [Act.put, List.getElem_toArray, List.getElem_cons_zero, List.setIfInBounds_toArray, List.set_cons_succ, List.set_cons_zero]
                  refine wpAnyH_take (i := 2) (v := ?_) rfl (by kernel_rfl) (by kernel_rfl) (by kernel_rfl) (fun _ _ _ h => h) (Or.inl ⟨by kernel_rfl, ?_⟩) hHeld ?_
                  rotate_left
                  · (intro w hSw; (try dsimp only at hSw); go_simp; try with_reducible rfl)
                  try simp only [Act.put, List.getElem_toArray, List.getElem_cons_succ, List.getElem_cons_zero, List.setIfInBounds_toArray, List.set_cons_succ, List.set_cons_zero]
                  refine wpAnyH_take (i := 3) (v := ?_) rfl (by kernel_rfl) (by kernel_rfl) (by kernel_rfl) (fun _ _ _ h => h) (Or.inl ⟨by kernel_rfl, ?_⟩) hHeld ?_
                  rotate_left
                  · (intro w hSw; (try dsimp only at hSw); go_simp; try with_reducible rfl)
                  try simp only [Act.put, List.getElem_toArray, List.getElem_cons_succ, List.getElem_cons_zero, List.setIfInBounds_toArray, List.set_cons_succ, List.set_cons_zero]
                  refine wpAnyH_take (i := 4) (v := ?_) rfl (by kernel_rfl) (by kernel_rfl) (by kernel_rfl) (fun _ _ _ h => h) (Or.inl ⟨by kernel_rfl, ?_⟩) hHeld ?_
                  rotate_left
                  · (intro w hSw; (try dsimp only at hSw); go_simp; try with_reducible rfl)
                  try simp only [Act.put, List.getElem_toArray, List.getElem_cons_succ, List.getElem_cons_zero, List.setIfInBounds_toArray, List.set_cons_succ, List.set_cons_zero]
                  refine wpAnyH_take (i := 5) (v := ?_) rfl (by kernel_rfl) (by kernel_rfl) (by kernel_rfl) (fun _ _ _ h => h) (Or.inl ⟨by kernel_rfl, ?_⟩) hHeld ?_
                  rotate_left
                  · (intro w hSw; (try dsimp only at hSw); go_simp; try with_reducible rfl)
                  try simp only [Act.put, List.getElem_toArray, List.getElem_cons_succ, List.getElem_cons_zero, List.setIfInBounds_toArray, List.set_cons_succ, List.set_cons_zero]
                  refine wpAnyH_take (i := 6) (v := ?_) rfl (by kernel_rfl) (by kernel_rfl) (by kernel_rfl) (fun _ _ _ h => h) (Or.inl ⟨by kernel_rfl, ?_⟩) hHeld ?_
                  rotate_left
                  · (intro w hSw; (try dsimp only at hSw); go_simp; try with_reducible rfl)
                  try simp only [Act.put, List.getElem_toArray, List.getElem_cons_succ, List.getElem_cons_zero, List.setIfInBounds_toArray, List.set_cons_succ, List.set_cons_zero]
                  refine wpAnyH_ready (rs := [1, 7]) (by kernel_rfl) (by simp) ?_
                  refine AllReadyH.cons rfl (fun K hK => ?_) ?_
                  · go_simp
                    refine hK.out _ _ hHeld (fun hHeld0 => ?_)
                    clear hK K hHeld0
                    try simp only [Act.put, List.getElem_toArray, List.getElem_cons_succ, List.getElem_cons_zero, List.setIfInBounds_toArray, List.set_cons_succ, List.set_cons_zero]
                    refine wpAnyH_ready (rs := [7]) (by kernel_rfl) (by simp) ?_
                    refine AllReadyH.cons rfl (fun K hK => ?_) ?_
                    · go_simp
                      refine (P5.out _).mono ?_
                      rintro e wy ⟨rfl, hwy⟩
                      subst hwy
                      try go_wp2_with fail
                      refine hK.out _ _ hHeld (fun hHeld0 => ?_)
                      clear hK K hHeld0
                      try simp only [Act.put, List.getElem_toArray, List.getElem_cons_succ, List.getElem_cons_zero, List.setIfInBounds_toArray, List.set_cons_succ, List.set_cons_zero]
                      refine wpAnyH_take (i := 8) (v := ?_) rfl (by kernel_rfl) (by kernel_rfl) (by kernel_rfl) (fun _ _ _ h => h) (Or.inl ⟨by kernel_rfl, ?_⟩) hHeld ?_
                      rotate_left
                      · (intro w hSw; (try dsimp only at hSw); go_simp; try with_reducible rfl)
                      try simp only [Act.put, List.getElem_toArray, List.getElem_cons_succ, List.getElem_cons_zero, List.setIfInBounds_toArray, List.set_cons_succ, List.set_cons_zero]
                      refine wpAnyH_ready (rs := [9]) (by kernel_rfl) (by simp) ?_
                      refine AllReadyH.cons rfl (fun K hK => ?_) ?_
                      · go_simp
                        refine hK.out _ _ (kept_cell s1 ((Q.refl _).alloc _ _)) (fun hHeld0 => ?_)
                        clear hK K hHeld
                        try simp only [Act.put, List.getElem_toArray, List.getElem_cons_succ, List.getElem_cons_zero, List.setIfInBounds_toArray, List.set_cons_succ, List.set_cons_zero]
                        refine wpAnyH_narrow (S' := fun w' : World => w'.cell? ⟨b, off + (k + 2), none⟩ = some (.int .i64 z2) ∧ w'.cell? ⟨wr.heap.size, 0, none⟩ = some (.int .u8 (m5 : Int))) (fun _ h => h.1) ?_
                        have hHeld : (fun w' : World => w'.cell? ⟨b, off + (k + 2), none⟩ = some (.int .i64 z2) ∧ w'.cell? ⟨wr.heap.size, 0, none⟩ = some (.int .u8 (m5 : Int))) _ := ⟨hHeld0, by simp⟩
                        clear hHeld0
                        refine wpAnyH_take (i := 10) (v := ?_) rfl (by kernel_rfl) (by kernel_rfl) (by kernel_rfl) (fun _ _ _ h => h) (Or.inl ⟨by kernel_rfl, ?_⟩) hHeld ?_
                        rotate_left
                        · (intro w hSw; (try dsimp only at hSw); go_simp; try with_reducible rfl)
                        try simp only [Act.put, List.getElem_toArray, List.getElem_cons_succ, List.getElem_cons_zero, List.setIfInBounds_toArray, List.set_cons_succ, List.set_cons_zero]
                        refine wpAnyH_take (i := 11) (v := ?_) rfl (by kernel_rfl) (by kernel_rfl) (by kernel_rfl) (fun _ _ _ h => h) (Or.inl ⟨by kernel_rfl, ?_⟩) hHeld ?_
                        rotate_left
                        · (intro w hSw; (try dsimp only at hSw); go_simp; try with_reducible rfl)
                        try simp only [Act.put, List.getElem_toArray, List.getElem_cons_succ, List.getElem_cons_zero, List.setIfInBounds_toArray, List.set_cons_succ, List.set_cons_zero]
                        refine wpAnyH_take (i := 12) (v := ?_) rfl (by kernel_rfl) (by kernel_rfl) (by kernel_rfl) (fun _ _ _ h => h) (Or.inl ⟨by kernel_rfl, ?_⟩) hHeld ?_
                        rotate_left
                        · (intro w hSw; (try dsimp only at hSw); go_simp; try with_reducible rfl)
                        try simp only [Act.put, List.getElem_toArray, List.getElem_cons_succ, List.getElem_cons_zero, List.setIfInBounds_toArray, List.set_cons_succ, List.set_cons_zero]
                        refine wpAnyH_ready (rs := [13]) (by kernel_rfl) (by simp) ?_
                        refine AllReadyH.cons rfl (fun K hK => ?_) ?_
                        · go_simp
                          refine hK.out _ _ ⟨HXS.out, HXB.out⟩ (fun hHeld0 => ?_)
                          clear hK K hHeld hHeld0
                          refine wpAnyH_done (by kernel_rfl) ?_ _
                          go_wp2_with fail
                          go_roundw
                          case rel => exact ⟨n', body ++ ⟨#[UInt8.ofNat m5]⟩, by go_num, by rw [ByteArray.size_append, hsz1]; omega, HXQ.out, HXs.out, HXV.out⟩
                          case measure => simp [intOf]
                        exact AllReadyH.nil
                      exact AllReadyH.nil
                    exact AllReadyH.nil
                  refine AllReadyH.cons rfl (fun K hK => ?_) ?_
                  · go_simp
                    refine (P5.out _).mono ?_
                    rintro e wy ⟨rfl, hwy⟩
                    subst hwy
                    try go_wp2_with fail
                    refine hK.out _ _ hHeld (fun hHeld0 => ?_)
                    clear hK K hHeld0
                    try simp only [Act.put, List.getElem_toArray, List.getElem_cons_succ, List.getElem_cons_zero, List.setIfInBounds_toArray, List.set_cons_succ, List.set_cons_zero]
                    refine wpAnyH_take (i := 8) (v := ?_) rfl (by kernel_rfl) (by kernel_rfl) (by kernel_rfl) (fun _ _ _ h => h) (Or.inl ⟨by kernel_rfl, ?_⟩) hHeld ?_
                    rotate_left
                    · (intro w hSw; (try dsimp only at hSw); go_simp; try with_reducible rfl)
                    try simp only [Act.put, List.getElem_toArray, List.getElem_cons_succ, List.getElem_cons_zero, List.setIfInBounds_toArray, List.set_cons_succ, List.set_cons_zero]
                    refine wpAnyH_ready (rs := [1, 9]) (by kernel_rfl) (by simp) ?_
                    refine AllReadyH.cons rfl (fun K hK => ?_) ?_
                    · go_simp
                      refine hK.out _ _ hHeld (fun hHeld0 => ?_)
                      clear hK K hHeld0
                      try simp only [Act.put, List.getElem_toArray, List.getElem_cons_succ, List.getElem_cons_zero, List.setIfInBounds_toArray, List.set_cons_succ, List.set_cons_zero]
                      refine wpAnyH_ready (rs := [9]) (by kernel_rfl) (by simp) ?_
                      refine AllReadyH.cons rfl (fun K hK => ?_) ?_
                      · go_simp
                        refine hK.out _ _ (kept_cell s1 ((Q.refl _).alloc _ _)) (fun hHeld0 => ?_)
                        clear hK K hHeld
                        try simp only [Act.put, List.getElem_toArray, List.getElem_cons_succ, List.getElem_cons_zero, List.setIfInBounds_toArray, List.set_cons_succ, List.set_cons_zero]
                        refine wpAnyH_narrow (S' := fun w' : World => w'.cell? ⟨b, off + (k + 2), none⟩ = some (.int .i64 z2) ∧ w'.cell? ⟨wr.heap.size, 0, none⟩ = some (.int .u8 (m5 : Int))) (fun _ h => h.1) ?_
                        have hHeld : (fun w' : World => w'.cell? ⟨b, off + (k + 2), none⟩ = some (.int .i64 z2) ∧ w'.cell? ⟨wr.heap.size, 0, none⟩ = some (.int .u8 (m5 : Int))) _ := ⟨hHeld0, by simp⟩
                        clear hHeld0
                        refine wpAnyH_take (i := 10) (v := ?_) rfl (by kernel_rfl) (by kernel_rfl) (by kernel_rfl) (fun _ _ _ h => h) (Or.inl ⟨by kernel_rfl, ?_⟩) hHeld ?_
                        rotate_left
                        · (intro w hSw; (try dsimp only at hSw); go_simp; try with_reducible rfl)
                        try simp only [Act.put, List.getElem_toArray, List.getElem_cons_succ, List.getElem_cons_zero, List.setIfInBounds_toArray, List.set_cons_succ, List.set_cons_zero]
                        refine wpAnyH_take (i := 11) (v := ?_) rfl (by kernel_rfl) (by kernel_rfl) (by kernel_rfl) (fun _ _ _ h => h) (Or.inl ⟨by kernel_rfl, ?_⟩) hHeld ?_
                        rotate_left
                        · (intro w hSw; (try dsimp only at hSw); go_simp; try with_reducible rfl)
                        try simp only [Act.put, List.getElem_toArray, List.getElem_cons_succ, List.getElem_cons_zero, List.setIfInBounds_toArray, List.set_cons_succ, List.set_cons_zero]
                        refine wpAnyH_take (i := 12) (v := ?_) rfl (by kernel_rfl) (by kernel_rfl) (by kernel_rfl) (fun _ _ _ h => h) (Or.inl ⟨by kernel_rfl, ?_⟩) hHeld ?_
                        rotate_left
                        · (intro w hSw; (try dsimp only at hSw); go_simp; try with_reducible rfl)
                        try simp only [Act.put, List.getElem_toArray, List.getElem_cons_succ, List.getElem_cons_zero, List.setIfInBounds_toArray, List.set_cons_succ, List.set_cons_zero]
                        refine wpAnyH_ready (rs := [13]) (by kernel_rfl) (by simp) ?_
                        refine AllReadyH.cons rfl (fun K hK => ?_) ?_
                        · go_simp
                          refine hK.out _ _ ⟨HXS.out, HXB.out⟩ (fun hHeld0 => ?_)
                          clear hK K hHeld hHeld0
                          refine wpAnyH_done (by kernel_rfl) ?_ _
                          go_wp2_with fail
                          go_roundw
                          case rel => exact ⟨n', body ++ ⟨#[UInt8.ofNat m5]⟩, by go_num, by rw [ByteArray.size_append, hsz1]; omega, HXQ.out, HXs.out, HXV.out⟩
                          case measure => simp [intOf]
                        exact AllReadyH.nil
                      exact AllReadyH.nil
                    refine AllReadyH.cons rfl (fun K hK => ?_) ?_
                    · go_simp
                      refine hK.out _ _ (kept_cell s1 ((Q.refl _).alloc _ _)) (fun hHeld0 => ?_)
                      clear hK K hHeld
                      try simp only [Act.put, List.getElem_toArray, List.getElem_cons_succ, List.getElem_cons_zero, List.setIfInBounds_toArray, List.set_cons_succ, List.set_cons_zero]
                      refine wpAnyH_narrow (S' := fun w' : World => w'.cell? ⟨b, off + (k + 2), none⟩ = some (.int .i64 z2) ∧ w'.cell? ⟨wr.heap.size, 0, none⟩ = some (.int .u8 (m5 : Int))) (fun _ h => h.1) ?_
                      have hHeld : (fun w' : World => w'.cell? ⟨b, off + (k + 2), none⟩ = some (.int .i64 z2) ∧ w'.cell? ⟨wr.heap.size, 0, none⟩ = some (.int .u8 (m5 : Int))) _ := ⟨hHeld0, by simp⟩
                      clear hHeld0
                      refine wpAnyH_take (i := 10) (v := ?_) rfl (by kernel_rfl) (by kernel_rfl) (by kernel_rfl) (fun _ _ _ h => h) (Or.inl ⟨by kernel_rfl, ?_⟩) hHeld ?_
                      rotate_left
                      · (intro w hSw; (try dsimp only at hSw); go_simp; try with_reducible rfl)
                      try simp only [Act.put, List.getElem_toArray, List.getElem_cons_succ, List.getElem_cons_zero, List.setIfInBounds_toArray, List.set_cons_succ, List.set_cons_zero]
                      refine wpAnyH_ready (rs := [1]) (by kernel_rfl) (by simp) ?_
                      refine AllReadyH.cons rfl (fun K hK => ?_) ?_
                      · go_simp
                        refine hK.out _ _ hHeld (fun hHeld0 => ?_)
                        clear hK K hHeld0
                        try simp only [Act.put, List.getElem_toArray, List.getElem_cons_succ, List.getElem_cons_zero, List.setIfInBounds_toArray, List.set_cons_succ, List.set_cons_zero]
                        refine wpAnyH_take (i := 11) (v := ?_) rfl (by kernel_rfl) (by kernel_rfl) (by kernel_rfl) (fun _ _ _ h => h) (Or.inl ⟨by kernel_rfl, ?_⟩) hHeld ?_
                        rotate_left
                        · (intro w hSw; (try dsimp only at hSw); go_simp; try with_reducible rfl)
                        try simp only [Act.put, List.getElem_toArray, List.getElem_cons_succ, List.getElem_cons_zero, List.setIfInBounds_toArray, List.set_cons_succ, List.set_cons_zero]
                        refine wpAnyH_take (i := 12) (v := ?_) rfl (by kernel_rfl) (by kernel_rfl) (by kernel_rfl) (fun _ _ _ h => h) (Or.inl ⟨by kernel_rfl, ?_⟩) hHeld ?_
                        rotate_left
                        · (intro w hSw; (try dsimp only at hSw); go_simp; try with_reducible rfl)
                        try simp only [Act.put, List.getElem_toArray, List.getElem_cons_succ, List.getElem_cons_zero, List.setIfInBounds_toArray, List.set_cons_succ, List.set_cons_zero]
                        refine wpAnyH_ready (rs := [13]) (by kernel_rfl) (by simp) ?_
                        refine AllReadyH.cons rfl (fun K hK => ?_) ?_
                        · go_simp
                          refine hK.out _ _ ⟨HXS.out, HXB.out⟩ (fun hHeld0 => ?_)
                          clear hK K hHeld hHeld0
                          refine wpAnyH_done (by kernel_rfl) ?_ _
                          go_wp2_with fail
                          go_roundw
                          case rel => exact ⟨n', body ++ ⟨#[UInt8.ofNat m5]⟩, by go_num, by rw [ByteArray.size_append, hsz1]; omega, HXQ.out, HXs.out, HXV.out⟩
                          case measure => simp [intOf]
                        exact AllReadyH.nil
                      exact AllReadyH.nil
                    exact AllReadyH.nil
                  exact AllReadyH.nil
                · obtain rfl : n = 0 := by omega
                  have WI := HWi.out rs ⟨kb, (m1 : Int), (m4 : Int), body⟩ ap cp wr ((HR.out.kept hqk).kept hqn) (by omega)
                  simp only [Rec.val] at WI
                  have HW2 : Hid _ := fun (_ : Unit) => WI
                  have hfit : Rec.fits ⟨kb, (m1 : Int), (m4 : Int), body⟩ = true := by
                    simp only [Rec.fits, decide_eq_true_eq]
                    omega
                  have HE2 : Hid _ := fun out => HE.out rs ⟨kb, (m1 : Int), (m4 : Int), body⟩ out HF.out hfit
                  have hqw := (hq.trans hqk).trans hqn
                  clear WI hfit HVn HC
                  go_wp2_with fail
                  refine (HW2.out ()).mono ?_
                  rintro e wz ⟨out, ao', cap', rfl, hout, hRc, qz⟩
                  obtain ⟨hFo, hlo⟩ := HE2.out out hout
                  have j3 : IntKind.i64.wrap ((k : Int) + 3) = (k : Int) + 3 := by rw [IntKind.wrap_i64]; omega
                  have HFo : Hid (Hid (Fine out)) := hFo
                  have HRo : Hid (Hid (Rcs wz ao' out)) := hRc
                  clear hout hFo hRc HE2 HW2
                  go_wp2_with fail
                  go_roundw
                  case rel => exact ⟨k + 3, out, ao', cap', rfl, by go_num, by omega, by omega, HFo.out, HRo.out, hqw.trans qz⟩
                  case measure => simp [intOf]; omega
      · have h2' : decide ((rs.length : Int) < 64) = false := by rw [decide_eq_false_iff_not]; omega
        have j2 : IntKind.i64.wrap ((k : Int) + 2) = (k : Int) + 2 := by rw [IntKind.wrap_i64]; omega
        have hd1 : (k : Int) + 2 < (zs.length : Int) := by omega
        have HFF : Hid (Fine rs) := HF
        have HRR : Hid (Rcs wr ap rs) := HR
        go_wp2_with fail
        go_ret
        exact ⟨rs, ap, cp, rfl, ⟨HFF.out, hrl⟩, HRR.out, hq⟩
    · have h1' : decide ((k : Int) + 2 < (zs.length : Int)) = false := by rw [decide_eq_false_iff_not]; omega
      have j2 : IntKind.i64.wrap ((k : Int) + 2) = (k : Int) + 2 := by rw [IntKind.wrap_i64]; omega
      have HFF : Hid (Fine rs) := HF
      have HRR : Hid (Rcs wr ap rs) := HR
      go_wp2_with fail
      go_ret
      exact ⟨rs, ap, cp, rfl, ⟨HFF.out, hrl⟩, HRR.out, hq⟩
end Go.Proofs.YtekdenkllipehaaDoor
