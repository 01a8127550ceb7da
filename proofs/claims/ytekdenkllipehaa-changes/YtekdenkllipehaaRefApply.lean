import Derived.Test.YtekdenkllipehaaApplyM
import Derived.Test.YtekdenkllipehaaRefRead
import Derived.Test.YtekdenkllipehaaRefReach
import Derived.Test.YtekdenkllipehaaFill
namespace Go.Proofs.Ytekdenkllipehaa
open Go.RowKit

/-- A variable that lies in a new block is as it was behind a call. -/
theorem var_kept {w1 w2 : World} {x y : Value} {t : TypeId} (q : Q (w1.alloc (.cells #[x, y] t)) w2) : w2.cell? ⟨w1.heap.size, 0, none⟩ = some x ∧ w2.cell? ⟨w1.heap.size, 1, none⟩ = some y :=
  ⟨(q.below.cell (p := ⟨w1.heap.size, 0, none⟩) (by simp)).trans (by simp), (q.below.cell (p := ⟨w1.heap.size, 1, none⟩) (by simp)).trans (by simp)⟩

set_option maxRecDepth 100000 in
set_option maxHeartbeats 400000 in
theorem refApply_noChange (c b : ByteArray) (hc : c.size ≤ 140737488351232) (hp : M.parse c.data.toList = none) (w : World) :
    Calls Try.prog 14 #[.string c, .string b] w fun e w' => e = .returned (.tuple #[.string ⟨#[]⟩, .int .i64 5]) ∧ Q w w' := by
  have hR := refRead_any c hc
  rw [hp] at hR
  have HR : Hid _ := hR
  clear hR hp
  go_enter Try.func14, Try.ntmps14
  go_wp2_with fail
  refine (HR.out _).mono ?_
  rintro e w1 ⟨x, ao, n, cap, rfl, hb⟩
  go_wp2_with fail
  go_ret2
  exact ⟨rfl, (Q.mk hb).alloc _ _⟩

set_option maxRecDepth 100000 in
set_option maxHeartbeats 400000 in
theorem refApply_far (c b : ByteArray) (hc : c.size ≤ 140737488351232) (size : Nat) (acc : List Nat) (hp : M.parse c.data.toList = some (size, acc)) (hfar : b.size < M.reach acc) (w : World) :
    Calls Try.prog 14 #[.string c, .string b] w fun e w' => e = .returned (.tuple #[.string ⟨#[]⟩, .int .i64 5]) ∧ Q w w' := by
  have hR := refRead_any c hc
  rw [hp] at hR
  obtain ⟨rfl, hs, hf⟩ := M.parse_bound hp
  have hrf := M.reach_fit hf
  have HRe : Hid _ := fun (ao : Option Addr) (cap base : Nat) => reach_any acc.length ao cap base acc hf hs
  have HR : Hid _ := hR
  clear hR hp
  go_enter Try.func14, Try.ntmps14
  go_wp2_with fail
  refine (HR.out _).mono ?_
  rintro e w1 ⟨ao, cap, rfl, ho, hb⟩
  go_wp2_with fail
  refine (HRe.out ao cap _ _ (ho.alloc _)).mono ?_
  rintro e w2 ⟨rfl, q2⟩
  go_wp2_with fail
  go_ret2
  exact ⟨rfl, ((Q.mk hb).alloc _ _).trans q2⟩

/-- The bytes that have been made behind k rounds. -/
theorem made_take {acc : List Nat} {k x : Nat} (base : List UInt8) (h : acc[k]? = some x) : M.made (acc.take (k + 1)) base = M.made (acc.take k) base ++ [if 255 < x then base.getD (x - 256) 0 else UInt8.ofNat x] := by
  rw [List.take_add_one, h]; simp [M.made]

theorem made_length (acc : List Nat) (base : List UInt8) : (M.made acc base).length = acc.length := by simp [M.made]

set_option maxRecDepth 100000 in
set_option maxHeartbeats 400000 in
theorem refApply_empty (c b : ByteArray) (hc : c.size ≤ 140737488351232) (hp : M.parse c.data.toList = some (0, [])) (w : World) :
    Calls Try.prog 14 #[.string c, .string b] w fun e w' => e = .returned (.tuple #[.string ⟨#[]⟩, .int .i64 0]) ∧ Q w w' := by
  have hR := refRead_any c hc
  rw [hp] at hR
  have HRe : Hid _ := fun (ao : Option Addr) (cap : Nat) => reach_zero 0 ao cap
  have HR : Hid _ := hR
  obtain ⟨M0, hmk, hfl⟩ := make_bytes 0 (by omega)
  have htx := fun W => (hfl W).text (cap := 0) rfl
  simp only [Int.natCast_zero] at hmk
  clear hR hp hfl
  go_enter Try.func14, Try.ntmps14
  go_wp2_with fail
  refine (HR.out _).mono ?_
  rintro e w1 ⟨ao, cap, rfl, ho, hb⟩
  go_wp2_with fail
  refine (HRe.out ao cap _).mono ?_
  rintro e w2 ⟨rfl, q2⟩
  obtain ⟨hc0, _⟩ := var_kept q2
  go_wp2_with fail
  refine wp_loop_rounds 1 ?_
  rw [rounds_succ]
  have hc0' : (w2.alloc (.cells M0 5)).cell? ⟨w1.heap.size, 0, none⟩ = some (.int .i64 0) := (((Below.refl _ w2).alloc (Nat.le_refl _) _).cell (p := ⟨w1.heap.size, 0, none⟩) (by have := q2.below.size; simp at this; show w1.heap.size < w2.heap.size; omega)).trans hc0
  go_wp2_with fail
  go_ret2
  exact ⟨rfl, (((Q.mk hb).alloc _ _).trans q2).alloc _ _⟩

set_option maxRecDepth 100000 in
set_option maxHeartbeats 800000 in
theorem refApply_yes (c b : ByteArray) (hc : c.size ≤ 140737488351232) (size : Nat) (acc : List Nat) (hp : M.parse c.data.toList = some (size, acc)) (hne : acc.length ≠ 0) (hfar : ¬ b.size < M.reach acc) (w : World) :
    Calls Try.prog 14 #[.string c, .string b] w fun e w' => e = .returned (.tuple #[.string ⟨(M.made acc b.data.toList).toArray⟩, .int .i64 0]) ∧ Q w w' := by
  have hR := refRead_any c hc
  rw [hp] at hR
  obtain ⟨rfl, hs, hf⟩ := M.parse_bound hp
  have hrf := M.reach_fit hf
  have HRe : Hid _ := fun (g cap : Nat) => reach_some acc.length g cap acc hf hs
  have HR : Hid _ := hR
  have HB : Hid (∀ (k : Nat) (h : k < b.size), b.data.toList.getD k 0 = b[k]) := fun k h => by rw [List.getD_eq_getElem?_getD, List.getElem?_eq_getElem (by simpa using h)]; rfl
  have HM : Hid (∀ x ∈ acc, x - 255 ≤ M.reach acc) := fun x hx => M.reach_mem hx
  have HT : Hid (∀ (k x : Nat), acc[k]? = some x → M.made (acc.take (k + 1)) b.data.toList = M.made (acc.take k) b.data.toList ++ [if 255 < x then b.data.toList.getD (x - 256) 0 else UInt8.ofNat x]) := fun k x h => made_take _ h
  have HE : Hid (M.made (acc.take acc.length) b.data.toList = M.made acc b.data.toList) := by rw [List.take_length]; exact rfl
  have HLn : Hid (∀ k, k ≤ acc.length → (M.made (acc.take k) b.data.toList).length = k) := fun k hk => by rw [made_length]; simp; omega
  obtain ⟨M0, hmk, hfl⟩ := make_bytes acc.length (by omega)
  have HF : Hid _ := hfl
  have HMk : Hid _ := hmk
  generalize b.data.toList = bl at *
  clear hR hp hfl hmk
  go_enter Try.func14, Try.ntmps14
  go_wp2_with fail
  refine (HR.out _).mono ?_
  rintro e w1 ⟨ao, cap, rfl, ho, hb⟩
  obtain ⟨g, rfl, hg, hcell⟩ := own_cell ho hne
  have HC : Hid _ := hcell
  clear ho hcell
  go_wp2_with fail
  refine (HRe.out g cap _ (by simp; omega) (fun k x hx => (((Below.refl _ w1).alloc (Nat.le_refl _) _).cell (p := ⟨g, k, none⟩) hg).trans (HC.out k x hx))).mono ?_
  rintro e w2 ⟨rfl, q2⟩
  obtain ⟨hc0, hc1⟩ := var_kept q2
  have hmk := HMk.out
  have hq2 := q2.below.size
  simp only [World.size_alloc] at hq2
  go_wp2_with fail
  go_loopw [9] (fun i wr => ∃ k : Nat, k ≤ acc.length ∧ i = .int .i64 k ∧ Fill w2.heap.size acc.length (M.made (acc.take k) bl) wr ∧ Below w2.heap.size w2 wr) (fun i _ => acc.length - (intOf i).toNat)
  case atStart => exact ⟨0, Nat.zero_le _, rfl, by simpa [M.made] using HF.out w2, (Below.refl _ _).alloc (Nat.le_refl _) _⟩
  case round =>
    obtain ⟨k, hk, rfl, hfi, hbe⟩ := hrel
    have d0 := (hbe.cell (p := ⟨w1.heap.size, 0, none⟩) (by show w1.heap.size < w2.heap.size; omega)).trans hc0
    have d1 := (hbe.cell (p := ⟨w1.heap.size, 1, none⟩) (by show w1.heap.size < w2.heap.size; omega)).trans hc1
    by_cases hlt : k < acc.length
    · obtain ⟨x, hx⟩ : ∃ x, acc[k]? = some x := ⟨acc[k], List.getElem?_eq_getElem hlt⟩
      have hxf := hf x (List.mem_of_getElem? hx)
      have hxr := HM.out x (List.mem_of_getElem? hx)
      have hg2 : g < w2.heap.size := by omega
      have e1 : w2.cell? ⟨g, k, none⟩ = some (.int .i64 (x : Int)) := (q2.below.cell (p := ⟨g, k, none⟩) (by simp; omega)).trans ((((Below.refl _ w1).alloc (Nat.le_refl _) _).cell (p := ⟨g, k, none⟩) hg).trans (HC.out k x hx))
      have d2 := (hbe.cell (p := ⟨g, k, none⟩) hg2).trans e1
      have o0 := hfi.cell k hlt
      have o1 := hfi.frz k
      have hln := HLn.out k hk
      have hstep := hfi.step
      rw [hln] at hstep
      have HSt : Hid _ := hstep
      have HTk := HT.out k x hx
      have HTk' : Hid _ := HTk
      clear hx e1 hstep hln HTk
      rw [List.getD_eq_getElem?_getD] at o0
      by_cases hbig : 255 < x
      · have hix : x - 256 < b.size := by omega
        have hbv := HB.out (x - 256) hix
        have hcv : ((x : Int) - 256).toNat = x - 256 := by omega
        have h0x : (0 : Int) ≤ (x : Int) - 256 := by omega
        have hux : (x : Int) - 256 < (b.size : Int) := by omega
        have HV : Hid (bl.getD (x - 256) 0 = b[x - 256]) := hbv
        clear hbv
        go_wp2
        go_roundw
        case rel => exact ⟨k + 1, by omega, by go_num, by rw [HTk'.out, if_pos hbig, HV.out]; exact HSt.out _ _ rfl, hbe.setCell (Nat.le_refl _) _⟩
        case measure => simp [intOf]; omega
      · go_wp2
        go_roundw
        case rel => exact ⟨k + 1, by omega, by go_num, by rw [HTk'.out, if_neg hbig]; exact HSt.out _ _ (by simp; omega), hbe.setCell (Nat.le_refl _) _⟩
        case measure => simp [intOf]; omega
    · obtain rfl : k = acc.length := by omega
      rw [HE.out] at hfi
      have htx := hfi.text (cap := acc.length) (by rw [made_length])
      have hQ : Q w wr := ((((Q.mk hb).alloc _ _).trans q2)).trans ⟨hbe⟩
      have HQ : Hid _ := hQ
      clear hQ
      go_wp2
      go_ret2
      exact ⟨rfl, HQ.out⟩

theorem refApply_any (c b : ByteArray) (hc : c.size ≤ 140737488351232) (w : World) :
    Calls Try.prog 14 #[.string c, .string b] w fun e w' => e = appliedEnd (applied (M.parse c.data.toList) b.data.toList) ∧ Q w w' := by
  cases hp : M.parse c.data.toList with
  | none => exact refApply_noChange c b hc hp w
  | some p =>
    obtain ⟨size, acc⟩ := p
    have hbl : b.data.toList.length = b.size := by simp
    simp only [applied, hbl]
    by_cases hfar : b.size < M.reach acc
    · simp only [if_pos hfar]; exact refApply_far c b hc size acc hp hfar w
    · simp only [if_neg hfar]
      by_cases h0 : acc.length = 0
      · obtain rfl := List.eq_nil_of_length_eq_zero h0
        obtain rfl : size = 0 := (M.parse_bound hp).1.symm
        exact refApply_empty c b hc hp w
      · exact refApply_yes c b hc size acc hp h0 hfar w
end Go.Proofs.Ytekdenkllipehaa
