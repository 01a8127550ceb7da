import Derived.Test.YtekdenkllipehaaCut
import Derived.Test.YtekdenkllipehaaApply
namespace Go.Proofs.Ytekdenkllipehaa
open Go.RowKit

/-- read, whatever the text. -/
theorem read_form (s : ByteArray) (hs : s.size ≤ 140737488351232) (w : World) : Calls Try.prog 21 #[.string s] w fun e w' =>
    ∃ (so eo : Option Addr) (n m sc ec : Nat), e = .returned (.tuple #[.agg #[.slice so n sc, .slice eo m ec], .bool (M.parse s.data.toList).isSome]) ∧ Q w w' := by
  cases hp : M.parse s.data.toList with
  | none => exact read_no s hs hp w
  | some p =>
    obtain ⟨size, acc⟩ := p
    refine (read_yes s hs size acc hp w).mono ?_
    rintro e w' ⟨L, so, eo, sc, ec, rfl, _, _, _, q⟩
    exact ⟨so, eo, _, _, sc, ec, rfl, q⟩

set_option maxRecDepth 100000 in
set_option maxHeartbeats 800000 in
theorem compose_none1 (a b : ByteArray) (ha : a.size ≤ 140737488351232) (hb : b.size ≤ 140737488351232) (hp : M.parse a.data.toList = none) (w : World) :
    Calls Try.prog 15 #[.string a, .string b] w fun e w' => e = .returned (.tuple #[.string ⟨#[]⟩, .int .i64 5]) ∧ Q w w' := by
  have R1 : Hid _ := read_no a ha hp
  have R2 : Hid _ := read_form b hb
  generalize (M.parse b.data.toList).isSome = ob at *
  clear hp
  go_enter Try.func15, Try.ntmps15
  go_wp2_with fail
  refine (R1.out _).mono ?_
  rintro e w1 ⟨so, eo, n, m, sc, ec, rfl, q1⟩
  go_wp2_with fail
  refine (R2.out _).mono ?_
  rintro e w2 ⟨so2, eo2, n2, m2, sc2, ec2, rfl, q2⟩
  go_upto_region 3 with fail
  go_quiet (fail)
  go_wp2_with fail
  go_ret2
  exact ⟨rfl, (((q1.alloc _ _).trans q2).alloc _ _).drewN _⟩

set_option maxRecDepth 100000 in
set_option maxHeartbeats 800000 in
theorem compose_none2 (a b : ByteArray) (ha : a.size ≤ 140737488351232) (hb : b.size ≤ 140737488351232) (s1 : Nat) (c1 : List Nat) (hp1 : M.parse a.data.toList = some (s1, c1)) (hp : M.parse b.data.toList = none) (w : World) :
    Calls Try.prog 15 #[.string a, .string b] w fun e w' => e = .returned (.tuple #[.string ⟨#[]⟩, .int .i64 5]) ∧ Q w w' := by
  have R1 : Hid _ := read_yes a ha s1 c1 hp1
  have R2 : Hid _ := read_no b hb hp
  clear hp hp1
  go_enter Try.func15, Try.ntmps15
  go_wp2_with fail
  refine (R1.out _).mono ?_
  rintro e w1 ⟨L, so, eo, sc, ec, rfl, -, -, -, q1⟩
  go_wp2_with fail
  refine (R2.out _).mono ?_
  rintro e w2 ⟨so2, eo2, n2, m2, sc2, ec2, rfl, q2⟩
  go_upto_region 3 with fail
  go_quiet (fail)
  go_wp2_with fail
  go_ret2
  exact ⟨rfl, (((q1.alloc _ _).trans q2).alloc _ _).drewN _⟩

/-- The two edits that have been read, in their variables. -/
structure Two (w W : World) (A B : List M.St) (soA eoA soB eoB : Option Addr) (scA ecA scB ecB bA bB : Nat) : Prop where
  q : Q w W
  a0 : W.cell? ⟨bA, 0, none⟩ = some (.slice soA A.length scA)
  a1 : W.cell? ⟨bA, 1, none⟩ = some (.slice eoA A.length ecA)
  b0 : W.cell? ⟨bB, 0, none⟩ = some (.slice soB B.length scB)
  b1 : W.cell? ⟨bB, 1, none⟩ = some (.slice eoB B.length ecB)
  stA : Steps W soA A
  enA : Ends W eoA A
  stB : Steps W soB B

theorem Two.kept {w W W' : World} {A B : List M.St} {soA eoA soB eoB : Option Addr} {scA ecA scB ecB bA bB : Nat} (h : Two w W A B soA eoA soB eoB scA ecA scB ecB bA bB) (q : Q W W') : Two w W' A B soA eoA soB eoB scA ecA scB ecB bA bB :=
  ⟨h.q.trans q, kept_cell h.a0 q, kept_cell h.a1 q, kept_cell h.b0 q, kept_cell h.b1 q, h.stA.kept q, h.enA.kept q, h.stB.kept q⟩

theorem two_start {w w1 w2 : World} {A B : List M.St} {soA eoA soB eoB : Option Addr} {scA ecA scB ecB : Nat} (q1 : Q w w1) (sA : Steps w1 soA A) (eA : Ends w1 eoA A)
    (q2 : Q (w1.alloc (.cells #[.slice soA A.length scA, .slice eoA A.length ecA] 46)) w2) (sB : Steps w2 soB B) :
    Two w (w2.alloc (.cells #[.slice soB B.length scB, .slice eoB B.length ecB] 46)) A B soA eoA soB eoB scA ecA scB ecB w1.heap.size w2.heap.size := by
  obtain ⟨⟨x0, x1⟩, -⟩ := new2 q2
  obtain ⟨⟨y0, y1⟩, -⟩ := new2 (Q.refl (w2.alloc (.cells #[.slice soB B.length scB, .slice eoB B.length ecB] 46)))
  have qa : Q w2 (w2.alloc (.cells #[.slice soB B.length scB, .slice eoB B.length ecB] 46)) := (Q.refl w2).alloc _ _
  exact ⟨((q1.alloc _ _).trans q2).trans qa, kept_cell x0 qa, kept_cell x1 qa, y0, y1, (sA.kept (((Q.refl w1).alloc _ _).trans q2)).kept qa, (eA.kept (((Q.refl w1).alloc _ _).trans q2)).kept qa, sB.kept qa⟩

set_option maxRecDepth 100000 in
set_option maxHeartbeats 800000 in
theorem compose_far (a b : ByteArray) (ha : a.size ≤ 140737488351232) (hb : b.size ≤ 140737488351232) (s1 s2 : Nat) (c1 c2 : List Nat) (hp1 : M.parse a.data.toList = some (s1, c1)) (hp2 : M.parse b.data.toList = some (s2, c2)) (hfar : s1 < M.reach c2) (w : World) :
    Calls Try.prog 15 #[.string a, .string b] w fun e w' => e = .returned (.tuple #[.string ⟨#[]⟩, .int .i64 5]) ∧ Q w w' := by
  have R1 : Hid _ := read_yes a ha s1 c1 hp1
  have R2 : Hid _ := read_yes b hb s2 c2 hp2
  obtain ⟨hl1, hs1, -⟩ := M.parse_bound hp1
  obtain ⟨hl2, hs2, hf2⟩ := M.parse_bound hp2
  have hrf := M.reach_fit hf2
  clear hp1 hp2
  go_enter Try.func15, Try.ntmps15
  go_wp2_with fail
  refine (R1.out _).mono ?_
  rintro e w1 ⟨A, soA, eoA, scA, ecA, rfl, ⟨hgA, rfl⟩, sA, eA, q1⟩
  go_wp2_with fail
  refine (R2.out _).mono ?_
  rintro e w2 ⟨B, soB, eoB, scB, ecB, rfl, ⟨hgB, rfl⟩, sB, -, q2⟩
  have h2 := two_start (scA := scA) (ecA := ecA) (eoB := eoB) (scB := scB) (ecB := ecB) q1 sA eA q2 sB
  have hfA := M.flat_length hgA
  have hfB := M.flat_length hgB
  have hlA := M.length_le_tot hgA
  have hlB := M.length_le_tot hgB
  have RC : Hid _ := fun (_ : Unit) => reachS_any B soB scB _ (h2.kept (Q.refl _).drew).stB (by omega) hgB
  have LC : Hid _ := fun (w' : World) (q : Q (w2.alloc (.cells #[.slice soB B.length scB, .slice eoB B.length ecB] 46)) w') => length_any A soA eoA A.length scA ecA w' (h2.kept q).enA (by omega)
  have hd : decide ((M.tot A : Int) < (M.reach (M.flat B) : Int)) = true := by simp; omega
  have z0 := h2.a0
  have z1 := h2.a1
  have z2 := h2.b0
  clear sA eA sB q1 q2
  generalize M.reach (M.flat B) = rr at *
  generalize M.tot A = tA at *
  go_upto_region 3 with fail
  go_region_held3 (fun w' => w'.cell? ⟨w1.heap.size, 0, none⟩ = some (.slice soA A.length scA) ∧ w'.cell? ⟨w1.heap.size, 1, none⟩ = some (.slice eoA A.length ecA) ∧ w'.cell? ⟨w2.heap.size, 0, none⟩ = some (.slice soB B.length scB)) (first | exact ⟨z0, z1, z2⟩ | exact hS5 | exact hS4)
    (first
      | (go_at_call 22; refine (RC.out ()).mono ?_; rintro e w4 ⟨rfl, q4⟩; have hS4 : w4.cell? ⟨w1.heap.size, 0, none⟩ = some (.slice soA A.length scA) ∧ w4.cell? ⟨w1.heap.size, 1, none⟩ = some (.slice eoA A.length ecA) ∧ w4.cell? ⟨w2.heap.size, 0, none⟩ = some (.slice soB B.length scB) := ⟨kept_cell z0 (q_undrew q4), kept_cell z1 (q_undrew q4), kept_cell z2 (q_undrew q4)⟩)
      | (go_at_call 25; refine (LC.out w4 (q_undrew q4)).mono ?_; rintro e w5 ⟨rfl, q5⟩; have hS5 : w5.cell? ⟨w1.heap.size, 0, none⟩ = some (.slice soA A.length scA) ∧ w5.cell? ⟨w1.heap.size, 1, none⟩ = some (.slice eoA A.length ecA) ∧ w5.cell? ⟨w2.heap.size, 0, none⟩ = some (.slice soB B.length scB) := ⟨kept_cell hS4.1 q5, kept_cell hS4.2.1 q5, kept_cell hS4.2.2 q5⟩))
  go_wp2_with fail
  go_ret2
  exact ⟨rfl, (h2.q.trans (q_undrew q4)).trans q5⟩
end Go.Proofs.Ytekdenkllipehaa
