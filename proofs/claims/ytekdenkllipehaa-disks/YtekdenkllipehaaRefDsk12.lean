/-
  The document's disk: Append.
-/
import Derived.Test.YtekdenkllipehaaRefDsk11
namespace Go.Proofs.Ytekdenkllipehaa
open Go.RowKit

theorem dies_files (D : M.Dsk) : D.dies.1.files = D.files ∧ D.dies.1.cap = D.cap := by
  unfold M.Dsk.dies
  split <;> exact ⟨rfl, rfl⟩

theorem total_get {fs : List M.Fil} {i : Nat} {f : M.Fil} (h : fs[i]? = some f) : f.bytes.length ≤ M.total fs := M.total_mem (List.mem_of_getElem? h)

set_option maxRecDepth 100000 in
set_option maxHeartbeats 1600000 in
theorem refAppend_dies (tg : Tags) (o d : Nat) (D : M.Dsk) (ids ps : List Nat) (nm s : ByteArray) (hl : D.files.length ≤ 64) (htl : M.total D.files ≤ 1048576) (hcp : D.cap ≤ 1048576) (hfu : D.fuse ≤ 9223372036854775807) (hs : s.size ≤ 140737488351232)
    (hdd : D.dead = false) (hok : M.okName nm = true) (hfit : M.total D.files + s.size ≤ D.cap) (hno : ¬ (M.place D.files nm = none ∧ 64 ≤ D.files.length)) (E : M.Dsk) (hE : D.dies = (E, true)) (w : World) (h : DiskAt w tg o d D ids ps) :
    Calls Try.prog 73 #[.pointer (some ⟨d, 0, none⟩), .string nm, .string s] w fun e w' => e = .returned (.int .i64 10) ∧ Ended tg o d E w w' := by
  have HPl : Hid _ := fun (_ : Unit) => refPlace tg o d D ids ps nm hl w h
  have HSz : Hid _ := fun W (hW : DiskAt W tg o d D ids ps) => refSize tg o d D ids ps hl htl W hW
  have HDi : Hid _ := fun W (hW : DiskAt W tg o d D ids ps) => refDies tg o d D ids ps hfu W hW
  have HD : Hid (DiskAt w tg o d D ids ps) := h
  clear h
  rw [hE] at HDi
  simp only at HDi
  have hn : 1 ≤ nm.size ∧ nm.size ≤ 32 := by simpa [M.okName] using hok
  have d1 : decide ((nm.size : Int) < 1) = false := by rw [decide_eq_false_iff_not]; omega
  have d2 : decide ((32 : Int) < (nm.size : Int)) = false := by rw [decide_eq_false_iff_not]; omega
  have wsz : IntKind.i64.wrap ((M.total D.files : Int) + (s.size : Int)) = (M.total D.files : Int) + (s.size : Int) := by rw [IntKind.wrap_i64]; omega
  have d3 : decide ((D.cap : Int) < (M.total D.files : Int) + (s.size : Int)) = false := by rw [decide_eq_false_iff_not]; omega
  obtain ⟨pi, hpi⟩ : ∃ p, p = placeInt (M.place D.files nm) := ⟨_, rfl⟩
  have d6 : pi < 0 → decide ((64 : Int) ≤ (D.files.length : Int)) = false := fun hneg => by
    rw [decide_eq_false_iff_not]
    intro h6
    refine hno ⟨?_, by omega⟩
    rw [hpi] at hneg
    cases hpp : M.place D.files nm with
    | none => rfl
    | some j => rw [hpp] at hneg; simp only [placeInt] at hneg; omega
  rw [← hpi] at HPl
  clear hpi
  clear hok hE hno
  go_enter Try.func73, Try.ntmps73
  go_wp2_with fail
  refine (HPl.out ()).mono ?_
  rintro e w1 ⟨rfl, q1⟩
  have HD1 : Hid (DiskAt w1 tg o d D ids ps) := HD.out.kept q1
  go_wp2_with fail
  refine (HSz.out w1 HD1.out).mono ?_
  rintro e w2 ⟨rfl, q2⟩
  have HD2 : Hid (DiskAt w2 tg o d D ids ps) := HD1.out.kept q2
  have c0 := HD2.out.c0
  have c2 := HD2.out.c2
  obtain ⟨ax, cx, r1⟩ := HD2.out.len
  have ht2 := HD2.out.top
  rw [hdd] at c2
  have HQ : Hid (Q w w2) := q1.trans q2
  clear q1 q2 HD1
  by_cases hneg : pi < 0
  · have d7 := d6 hneg
    have d8 : decide (pi < 0) = true := decide_eq_true hneg
    clear d6
    go_wp2_with fail
    refine (HDi.out w2 HD2.out).mono ?_
    rintro e w3 ⟨rfl, hD3, hO3⟩
    have HEn : Hid (Ended tg o d E w w3) := Ended.same hD3 ((Only.of_q HQ.out).trans hO3)
    clear hD3 hO3
    go_wp2_with fail
    go_ret
    exact ⟨rfl, HEn.out⟩
  · have d8 : decide (pi < 0) = false := decide_eq_false hneg
    clear d6
    go_wp2_with fail
    refine (HDi.out w2 HD2.out).mono ?_
    rintro e w3 ⟨rfl, hD3, hO3⟩
    have HEn : Hid (Ended tg o d E w w3) := Ended.same hD3 ((Only.of_q HQ.out).trans hO3)
    clear hD3 hO3
    go_wp2_with fail
    go_ret
    exact ⟨rfl, HEn.out⟩

theorem refAppend (tg : Tags) (o d : Nat) (D : M.Dsk) (ids ps : List Nat) (nm s : ByteArray) (hl : D.files.length ≤ 64) (htl : M.total D.files ≤ 1048576) (hcp : D.cap ≤ 1048576) (hfu : D.fuse ≤ 9223372036854775807) (hs : s.size ≤ 140737488351232) (w : World) (h : DiskAt w tg o d D ids ps) :
    Calls Try.prog 73 #[.pointer (some ⟨d, 0, none⟩), .string nm, .string s] w fun e w' => e = .returned (.int .i64 ((D.append nm s.data.toList).2 : Nat)) ∧ Ended tg o d (D.append nm s.data.toList).1 w w' := by
  by_cases hno : D.dead = true ∨ M.okName nm = false ∨ D.cap < M.total D.files + s.size ∨ (M.place D.files nm = none ∧ 64 ≤ D.files.length)
  · exact refAppend_no tg o d D ids ps nm s hl htl hs hno w h
  · have h1 : D.dead = false := by
      cases hd : D.dead with
      | false => rfl
      | true => exact absurd (Or.inl hd) hno
    have h2 : M.okName nm = true := by
      cases hd : M.okName nm with
      | true => rfl
      | false => exact absurd (Or.inr (Or.inl hd)) hno
    have h3 : M.total D.files + s.size ≤ D.cap := by
      refine Nat.le_of_not_lt fun hd => hno (Or.inr (Or.inr (Or.inl hd)))
    have h4 : ¬ (M.place D.files nm = none ∧ 64 ≤ D.files.length) := fun hd => hno (Or.inr (Or.inr (Or.inr hd)))
    obtain ⟨⟨E, b⟩, hE⟩ : ∃ p, p = D.dies := ⟨_, rfl⟩
    obtain ⟨hf, _⟩ := dies_files D
    rw [← hE] at hf
    simp only at hf
    have hA : D.append nm s.data.toList = (match D.dies with
      | (E, true) => (E, 10)
      | (E, false) =>
        match M.place E.files nm with
        | some i => ({ E with files := E.files.modify i fun f => { f with bytes := f.bytes ++ s.data.toList } }, 0)
        | none => ({ E with files := M.put E.files ⟨nm, s.data.toList, 0⟩ }, 0)) := by
      unfold M.Dsk.append
      rw [if_neg (by simp [h1]), if_neg (by simp [h2]), if_neg (by
        rintro (hh | hh)
        · simp at hh; omega
        · exact h4 hh)]
      rfl
    rw [hA, ← hE]
    cases b with
    | true => exact refAppend_dies tg o d D ids ps nm s hl htl hcp hfu hs h1 h2 h3 h4 E hE.symm w h
    | false =>
      simp only
      cases hp : M.place E.files nm with
      | none =>
        rw [hf] at hp
        have h64 : D.files.length < 64 := Nat.lt_of_not_le fun hh => h4 ⟨hp, hh⟩
        exact refAppend_new tg o d D ids ps nm s hl htl hcp hfu hs h1 h2 h3 hp h64 E hE.symm hf w h
      | some i =>
        obtain ⟨f, hfi, _⟩ := M.place_some hp
        have hm : E.files.modify i (fun f => { f with bytes := f.bytes ++ s.data.toList }) = E.files.set i { f with bytes := f.bytes ++ s.data.toList } := modify_set _ hfi
        simp only [hm]
        have hsum : f.bytes.length + s.size ≤ 140737488351232 := by
          have := total_get hfi
          rw [hf] at this
          omega
        rw [hf] at hp
        exact refAppend_some tg o d D ids ps nm s i hl htl hcp hfu hs h1 h2 h3 hp E hE.symm f hfi hsum w h
end Go.Proofs.Ytekdenkllipehaa
