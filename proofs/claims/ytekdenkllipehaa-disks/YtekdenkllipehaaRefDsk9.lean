/-
  The document's disk: Append, where it is refused.
-/
import Derived.Test.YtekdenkllipehaaRefDsk8
namespace Go.Proofs.Ytekdenkllipehaa
open Go.RowKit

/-- A new file is found where it was put. -/
theorem place_put {fs : List M.Fil} {nm : ByteArray} (h : M.place fs nm = none) (b : List UInt8) (n : Nat) : M.place (insAt fs (putAt fs nm) ⟨nm, b, n⟩) nm = some (putAt fs nm) := by
  have hj := putAt_le fs nm
  have hl : (fs.take (putAt fs nm)).length = putAt fs nm := by simp; omega
  refine M.place_at (f := ⟨nm, b, n⟩) ?_ (by simp [M.named]) (fun k hk g hg => ?_)
  · unfold insAt
    rw [List.getElem?_append_right (by omega), hl, Nat.sub_self]
    rfl
  · unfold insAt at hg
    rw [List.getElem?_append_left (by omega)] at hg
    exact M.place_none h g (List.mem_of_mem_take (List.mem_of_getElem? hg))

set_option maxRecDepth 100000 in
set_option maxHeartbeats 1600000 in
theorem refAppend_no (tg : Tags) (o d : Nat) (D : M.Dsk) (ids ps : List Nat) (nm s : ByteArray) (hl : D.files.length ≤ 64) (htl : M.total D.files ≤ 1048576) (hs : s.size ≤ 140737488351232) (hno : D.dead = true ∨ M.okName nm = false ∨ D.cap < M.total D.files + s.size ∨ (M.place D.files nm = none ∧ 64 ≤ D.files.length)) (w : World) (h : DiskAt w tg o d D ids ps) :
    Calls Try.prog 73 #[.pointer (some ⟨d, 0, none⟩), .string nm, .string s] w fun e w' => e = .returned (.int .i64 ((D.append nm s.data.toList).2 : Nat)) ∧ Ended tg o d (D.append nm s.data.toList).1 w w' := by
  have HPl : Hid _ := fun (_ : Unit) => refPlace tg o d D ids ps nm hl w h
  have HSz : Hid _ := fun W (hW : DiskAt W tg o d D ids ps) => refSize tg o d D ids ps hl htl W hW
  have HD : Hid (DiskAt w tg o d D ids ps) := h
  clear h
  have hsl : s.data.toList.length = s.size := by simp
  unfold M.Dsk.append
  rw [hsl]
  cases hdd : D.dead with
  | true =>
    clear hno
    simp only [if_true]
    go_enter Try.func73, Try.ntmps73
    go_wp2_with fail
    refine (HPl.out ()).mono ?_
    rintro e w1 ⟨rfl, q1⟩
    have HD1 : Hid (DiskAt w1 tg o d D ids ps) := HD.out.kept q1
    go_wp2_with fail
    refine (HSz.out w1 HD1.out).mono ?_
    rintro e w2 ⟨rfl, q2⟩
    have HD2 : Hid (DiskAt w2 tg o d D ids ps) := HD1.out.kept q2
    have c0 := HD2.out.c0
    have c2 := HD2.out.c2
    obtain ⟨ax, cx, r1⟩ := HD2.out.len
    have ht2 := HD2.out.top
    rw [hdd] at c2
    have HQ : Hid (Q w w2) := q1.trans q2
    clear q1 q2 HD1
    go_wp2_with fail
    go_ret
    exact ⟨rfl, Ended.same HD2.out (Only.of_q HQ.out)⟩
  | false =>
    simp only [if_neg (show ¬ (false = true) by decide)]
    cases hok : M.okName nm with
    | false =>
      simp only [if_true]
      have hn : nm.size < 1 ∨ 32 < nm.size := by
        simp only [M.okName, decide_eq_false_iff_not] at hok
        omega
      clear hok
      rcases hn with hn | hn
      · have d1' : nm.size = 0 := by omega
        go_enter Try.func73, Try.ntmps73
        go_wp2_with fail
        refine (HPl.out ()).mono ?_
        rintro e w1 ⟨rfl, q1⟩
        have HD1 : Hid (DiskAt w1 tg o d D ids ps) := HD.out.kept q1
        go_wp2_with fail
        refine (HSz.out w1 HD1.out).mono ?_
        rintro e w2 ⟨rfl, q2⟩
        have HD2 : Hid (DiskAt w2 tg o d D ids ps) := HD1.out.kept q2
        have c0 := HD2.out.c0
        have c2 := HD2.out.c2
        obtain ⟨ax, cx, r1⟩ := HD2.out.len
        have ht2 := HD2.out.top
        rw [hdd] at c2
        have HQ : Hid (Q w w2) := q1.trans q2
        clear q1 q2 HD1
        go_wp2_with fail
        go_ret
        exact ⟨rfl, Ended.same HD2.out (Only.of_q HQ.out)⟩
      · have d1 : decide ((nm.size : Int) < 1) = false := by rw [decide_eq_false_iff_not]; omega
        have d2 : decide ((32 : Int) < (nm.size : Int)) = true := by rw [decide_eq_true_eq]; omega
        go_enter Try.func73, Try.ntmps73
        go_wp2_with fail
        refine (HPl.out ()).mono ?_
        rintro e w1 ⟨rfl, q1⟩
        have HD1 : Hid (DiskAt w1 tg o d D ids ps) := HD.out.kept q1
        go_wp2_with fail
        refine (HSz.out w1 HD1.out).mono ?_
        rintro e w2 ⟨rfl, q2⟩
        have HD2 : Hid (DiskAt w2 tg o d D ids ps) := HD1.out.kept q2
        have c0 := HD2.out.c0
        have c2 := HD2.out.c2
        obtain ⟨ax, cx, r1⟩ := HD2.out.len
        have ht2 := HD2.out.top
        rw [hdd] at c2
        have HQ : Hid (Q w w2) := q1.trans q2
        clear q1 q2 HD1
        go_wp2_with fail
        go_ret
        exact ⟨rfl, Ended.same HD2.out (Only.of_q HQ.out)⟩
    | true =>
      simp only [if_neg (show ¬ (true = false) by decide)]
      have hn : 1 ≤ nm.size ∧ nm.size ≤ 32 := by simpa [M.okName] using hok
      have d1 : decide ((nm.size : Int) < 1) = false := by rw [decide_eq_false_iff_not]; omega
      have d2 : decide ((32 : Int) < (nm.size : Int)) = false := by rw [decide_eq_false_iff_not]; omega
      clear hok
      have wsz : IntKind.i64.wrap ((M.total D.files : Int) + (s.size : Int)) = (M.total D.files : Int) + (s.size : Int) := by rw [IntKind.wrap_i64]; omega
      by_cases hfull : D.cap < M.total D.files + s.size ∨ (M.place D.files nm = none ∧ 64 ≤ D.files.length)
      · rw [if_pos hfull]
        by_cases hc : D.cap < M.total D.files + s.size
        · have d3 : decide ((D.cap : Int) < (M.total D.files : Int) + (s.size : Int)) = true := by rw [decide_eq_true_eq]; omega
          clear hfull
          go_enter Try.func73, Try.ntmps73
          go_wp2_with fail
          refine (HPl.out ()).mono ?_
          rintro e w1 ⟨rfl, q1⟩
          have HD1 : Hid (DiskAt w1 tg o d D ids ps) := HD.out.kept q1
          go_wp2_with fail
          refine (HSz.out w1 HD1.out).mono ?_
          rintro e w2 ⟨rfl, q2⟩
          have HD2 : Hid (DiskAt w2 tg o d D ids ps) := HD1.out.kept q2
          have c0 := HD2.out.c0
          have c2 := HD2.out.c2
          obtain ⟨ax, cx, r1⟩ := HD2.out.len
          have ht2 := HD2.out.top
          rw [hdd] at c2
          have HQ : Hid (Q w w2) := q1.trans q2
          clear q1 q2 HD1
          go_wp2_with fail
          go_ret
          exact ⟨rfl, Ended.same HD2.out (Only.of_q HQ.out)⟩
        · have hp := (hfull.resolve_left hc)
          have d3 : decide ((D.cap : Int) < (M.total D.files : Int) + (s.size : Int)) = false := by rw [decide_eq_false_iff_not]; omega
          have d4 : decide ((64 : Int) ≤ (D.files.length : Int)) = true := by rw [decide_eq_true_eq]; omega
          rw [hp.1] at HPl
          simp only [placeInt] at HPl
          clear hfull hp hc
          go_enter Try.func73, Try.ntmps73
          go_wp2_with fail
          refine (HPl.out ()).mono ?_
          rintro e w1 ⟨rfl, q1⟩
          have HD1 : Hid (DiskAt w1 tg o d D ids ps) := HD.out.kept q1
          go_wp2_with fail
          refine (HSz.out w1 HD1.out).mono ?_
          rintro e w2 ⟨rfl, q2⟩
          have HD2 : Hid (DiskAt w2 tg o d D ids ps) := HD1.out.kept q2
          have c0 := HD2.out.c0
          have c2 := HD2.out.c2
          obtain ⟨ax, cx, r1⟩ := HD2.out.len
          have ht2 := HD2.out.top
          rw [hdd] at c2
          have HQ : Hid (Q w w2) := q1.trans q2
          clear q1 q2 HD1
          go_wp2_with fail
          go_ret
          exact ⟨rfl, Ended.same HD2.out (Only.of_q HQ.out)⟩
      · rcases hno with e | e | e
        · rw [hdd] at e; cases e
        · simp only [M.okName, decide_eq_false_iff_not] at e; omega
        · exact absurd e hfull
end Go.Proofs.Ytekdenkllipehaa
