import Derived.Test.YtekdenkllipehaaDoorKeep
import Derived.Test.YtekdenkllipehaaDoorRows
import Derived.WalkKit
import Derived.ProofKit
import Derived.Test.YtekdenkllipehaaDoorWith
import Derived.Test.YtekdenkllipehaaDoorBlkWrite
/-
  The statement's 'pick': which of n things a raw number speaks of.
-/
namespace Go.Proofs.YtekdenkllipehaaDoor
open Go.RowKit

/-- What 'pick' answers. -/
def pickN (c : Int) (n : Nat) : Nat := (if c < 0 then -(c + 1) else c).toNat % n

theorem pickN_lt (c : Int) {n : Nat} (h : 0 < n) : pickN c n < n := Nat.mod_lt _ h

set_option maxRecDepth 100000 in
theorem pick_any (c : Int) (n : Nat) (hc : (Lit.int .i64 c).wf = true) (h0 : 0 < n) (hn : n ≤ 140737488355328) (w : World) :
    Calls Tryd.prog 20 #[.int .i64 c, .int .i64 (n : Int)] w fun e w' => e = .returned (.int .i64 (pickN c n : Nat)) ∧ w' = w := by
  have hb : -9223372036854775808 ≤ c ∧ c ≤ 9223372036854775807 := by
    have e1 : IntKind.i64.min = -9223372036854775808 := by decide
    have e2 : IntKind.i64.max = 9223372036854775807 := by decide
    simp only [Lit.wf, e1, e2, Bool.and_eq_true, decide_eq_true_eq] at hc
    omega
  have hn0 : ¬ ((n : Int) = 0) := by omega
  have hnb : ((n : Int) == 0) = false := by simpa using hn0
  unfold pickN
  by_cases h : c < 0
  · rw [if_pos h]
    obtain ⟨m, hm⟩ := Int.eq_ofNat_of_zero_le (show 0 ≤ -(c + 1) by omega)
    have w1 : IntKind.i64.wrap (c + 1) = c + 1 := by rw [IntKind.wrap_i64]; omega
    have w2 : IntKind.i64.wrap (-(c + 1)) = (m : Int) := by rw [IntKind.wrap_i64]; omega
    have e : (m : Int).tmod (n : Int) = ((m % n : Nat) : Int) := by rw [Int.tmod_eq_emod_of_nonneg (by omega)]; exact (Int.natCast_emod m n).symm
    rw [hm, Int.toNat_natCast]
    go_enter Tryd.func20, Tryd.ntmps20
    go_wp2_with fail
    go_ret
    exact ⟨rfl, rfl⟩
  · rw [if_neg h]
    obtain ⟨m, rfl⟩ := Int.eq_ofNat_of_zero_le (show 0 ≤ c by omega)
    have e : (m : Int).tmod (n : Int) = ((m % n : Nat) : Int) := by rw [Int.tmod_eq_emod_of_nonneg (by omega)]; exact (Int.natCast_emod m n).symm
    rw [Int.toNat_natCast]
    go_enter Tryd.func20, Tryd.ntmps20
    go_wp2_with fail
    go_ret
    exact ⟨rfl, rfl⟩
end Go.Proofs.YtekdenkllipehaaDoor

/-
  The statement's 'records': what a list of numbers speaks of.
-/
namespace Go.Proofs.YtekdenkllipehaaDoor
open Go.RowKit

/-- Numbers lie where a slice's address says. -/
def IntsAt (w : World) (ao : Option Addr) (zs : List Int) : Prop := zs = [] ∨ ∃ b off, ao = some ⟨b, off, none⟩ ∧ b < w.heap.size ∧ ∀ (i : Nat) (z : Int), zs[i]? = some z → w.cell? ⟨b, off + i, none⟩ = some (.int .i64 z)

theorem IntsAt.kept {w w' : World} {ao : Option Addr} {zs : List Int} (h : IntsAt w ao zs) (q : Q w w') : IntsAt w' ao zs :=
  h.imp id fun ⟨b, off, e, hb, hr⟩ => ⟨b, off, e, Nat.lt_of_lt_of_le hb q.below.size, fun i z hi => kept_cell (hr i z hi) q⟩

theorem IntsAt.at {w : World} {ao : Option Addr} {zs : List Int} (h : IntsAt w ao zs) {k : Nat} (hk : k < zs.length) : ∃ b off, ao = some ⟨b, off, none⟩ ∧ b < w.heap.size ∧ ∀ (i : Nat) (z : Int), zs[i]? = some z → w.cell? ⟨b, off + i, none⟩ = some (.int .i64 z) := by
  rcases h with rfl | h
  · simp at hk
  · exact h

theorem new_cell (w : World) (v : Value) (t : TypeId) : (w.alloc (.cells #[v] t)).cell? ⟨w.heap.size, 0, none⟩ = some v := by simp

theorem wf_range {z : Int} (h : (Lit.int .i64 z).wf = true) : -9223372036854775808 ≤ z ∧ z ≤ 9223372036854775807 := by
  have e1 : IntKind.i64.min = -9223372036854775808 := by decide
  have e2 : IntKind.i64.max = 9223372036854775807 := by decide
  simp only [Lit.wf, e1, e2, Bool.and_eq_true, decide_eq_true_eq] at h
  omega
theorem wf_of {z : Int} (h0 : -9223372036854775808 ≤ z) (h1 : z ≤ 9223372036854775807) : (Lit.int .i64 z).wf = true := by
  have e1 : IntKind.i64.min = -9223372036854775808 := by decide
  have e2 : IntKind.i64.max = 9223372036854775807 := by decide
  simp only [Lit.wf, e1, e2, Bool.and_eq_true, decide_eq_true_eq]
  omega

theorem tdiv_wf {z : Int} {d : Nat} (hd : 1 < d) (h : (Lit.int .i64 z).wf = true) : (Lit.int .i64 (z.tdiv (d : Int))).wf = true := by
  have hr := wf_range h
  have hn : (z.tdiv (d : Int)).natAbs ≤ z.natAbs := by
    rw [Int.natAbs_tdiv]
    exact Nat.div_le_self _ _
  have hn2 : (z.tdiv (d : Int)).natAbs ≤ 9223372036854775807 := by
    rw [Int.natAbs_tdiv]
    have h2 : 2 ≤ (d : Int).natAbs := by simp; omega
    have : z.natAbs / (d : Int).natAbs ≤ z.natAbs / 2 := Nat.div_le_div_left h2 (by omega)
    show z.natAbs / (d : Int).natAbs ≤ 9223372036854775807
    omega
  exact wf_of (by omega) (by omega)

set_option maxRecDepth 100000 in
set_option maxHeartbeats 1600000 in
theorem records_any (zs : List Int) (hz : ∀ z ∈ zs, (Lit.int .i64 z).wf = true) (ao : Option Addr) (cap : Nat) (w : World) (h : IntsAt w ao zs) (hl : zs.length ≤ 140737488351232) :
    Calls Tryd.prog 19 #[.slice ao zs.length cap] w fun e w' => ∃ (rs : List Rec) (ao' : Option Addr) (cap' : Nat), e = .returned (.slice ao' rs.length cap') ∧ (Fine rs ∧ rs.length ≤ 64) ∧ Rcs w' ao' rs ∧ Q w w' := by
  have HH : Hid (IntsAt w ao zs) := h
  have HZ : Hid (∀ (i : Nat) (z : Int), zs[i]? = some z → (Lit.int .i64 z).wf = true) := fun i z hi => hz z (List.mem_of_getElem? hi)
  have HP : Hid _ := pick_any
  have HWi : Hid _ := with_any
  have HE : Hid (∀ (l : List Rec) (r : Rec) (out : List Rec), Fine l → r.fits = true → (out = l ∨ ∃ (dn : Bool) (o : List Rec), Ins l r l.length dn o ∧ out = if dn = true then o else o ++ [r]) → Fine out ∧ out.length ≤ l.length + 1) := fun l r out hl hr ho => by
    rcases ho with rfl | ⟨dn, o, hi, rfl⟩
    · exact ⟨hl, by omega⟩
    · have := ins_end hi hl hr
      exact ⟨this.1, by omega⟩
  clear h hz
  go_enter Tryd.func19, Tryd.ntmps19
  go_wp2_with fail
  go_loopw [3, 4] (fun p i wr => ∃ (k : Nat) (rs : List Rec) (ap : Option Addr) (cp : Nat), p = .slice ap rs.length cp ∧ i = .int .i64 k ∧ k ≤ zs.length + 3 ∧ rs.length ≤ 64 ∧ Hid (Fine rs) ∧ Hid (Rcs wr ap rs) ∧ Q w wr) (fun _ i _ => zs.length + 3 - (intOf i).toNat)
  case atStart => exact ⟨0, [], none, 0, rfl, rfl, by omega, by simp, fine_nil, Or.inl rfl, Q.refl w⟩
  case round =>
    obtain ⟨k, rs, ap, cp, rfl, rfl, hk, hrl, HF, HR, hq⟩ := hrel
    by_cases h1 : k + 2 < zs.length
    · by_cases h2 : rs.length < 64
      · obtain ⟨b, off, rfl, hb, hat⟩ := (HH.out.kept hq).at h1
        have g0 : zs[k]? = some zs[k] := List.getElem?_eq_getElem (by omega)
        have g1 : zs[k + 1]? = some zs[k + 1] := List.getElem?_eq_getElem (by omega)
        have g2 : zs[k + 2]? = some zs[k + 2] := List.getElem?_eq_getElem (by omega)
        have e0 := hat k _ g0
        have e1 := hat (k + 1) _ g1
        have e2 := hat (k + 2) _ g2
        have f0 := HZ.out k _ g0
        have f1 := HZ.out (k + 1) _ g1
        have f2 := HZ.out (k + 2) _ g2
        generalize zs[k] = z0 at *
        generalize zs[k + 1] = z1 at *
        generalize zs[k + 2] = z2 at *
        have i0 : (k : Int) < (zs.length : Int) := by omega
        have i1 : (k : Int) + 1 < (zs.length : Int) := by omega
        have i2 : (k : Int) + 2 < (zs.length : Int) := by omega
        have j1 : IntKind.i64.wrap ((k : Int) + 1) = (k : Int) + 1 := by rw [IntKind.wrap_i64]; omega
        have j2 : IntKind.i64.wrap ((k : Int) + 2) = (k : Int) + 2 := by rw [IntKind.wrap_i64]; omega
        have t1 : ((k : Int) + 1).toNat = k + 1 := by omega
        have t2 : ((k : Int) + 2).toNat = k + 2 := by omega
        have n1 : (0 : Int) ≤ (k : Int) + 1 := by omega
        have n2 : (0 : Int) ≤ (k : Int) + 2 := by omega
        have P0 : Hid _ := HP.out z0 5 f0 (by decide) (by decide)
        have hp0 := pickN_lt z0 (n := 5) (by decide)
        generalize pickN z0 5 = m0 at *
        clear g0 g1 g2 hat
        go_wp2_with fail
        refine (P0.out _).mono ?_
        rintro e wx ⟨rfl, hwx⟩
        subst hwx
        have f3 := tdiv_wf (d := 5) (by decide) f0
        have f4 := tdiv_wf (d := 1000) (by decide) f1
        have P3 : Hid _ := HP.out _ 3 f3 (by decide) (by decide)
        have hp3 := pickN_lt (z0.tdiv ((5 : Nat) : Int)) (n := 3) (by decide)
        have r3 := wf_range f3
        have q3 : IntKind.i64.wrap (z0.tdiv 5) = z0.tdiv 5 := by rw [IntKind.wrap_i64]; have := r3; simp only [show ((5 : Nat) : Int) = 5 from rfl] at this; omega
        generalize pickN (z0.tdiv ((5 : Nat) : Int)) 3 = m3 at *
        have a3 : IntKind.i64.wrap (97 + (m3 : Int)) = 97 + (m3 : Int) := by rw [IntKind.wrap_i64]; omega
        obtain ⟨c3, hc3⟩ : ∃ c3 : Nat, c3 = 97 + m3 := ⟨_, rfl⟩
        have b3 : IntKind.u8.wrap (97 + (m3 : Int)) = (c3 : Int) := by rw [IntKind.wrap_u8]; omega
        have hcv := conv_byte c3
        clear hc3
        go_wp2_with fail
        go_loopw [5, 6] (fun p i wk => ∃ (kb : ByteArray) (n : Nat), p = .string kb ∧ i = .int .i64 n ∧ 1 ≤ kb.size ∧ kb.size + n ≤ 5 ∧ Q wx wk) (fun _ i _ => (intOf i).toNat)
        case atStart => exact ⟨⟨#[107]⟩, m0, rfl, rfl, by decide, by show 1 + m0 ≤ 5; omega, Q.refl _⟩
        case round =>
          obtain ⟨kb, n, rfl, rfl, hk1, hk2, hqk⟩ := hrel
          by_cases hn : 0 < n
          · obtain ⟨n', rfl⟩ : ∃ n', n = n' + 1 := ⟨n - 1, by omega⟩
            have c0 := kept_cell e0 hqk
            have hbk : b < wr.heap.size := Nat.lt_of_lt_of_le hb hqk.below.size
            have hsz1 : (⟨#[UInt8.ofNat c3]⟩ : ByteArray).size = 1 := rfl
            have hadd : ∀ W, (Op.stringOp .add kb ⟨#[UInt8.ofNat c3]⟩).run Tryd.prog W = .ok (.string (kb ++ ⟨#[UInt8.ofNat c3]⟩)) W := fun W => run_string_add_sum W _ _ (by rw [hsz1]; omega)
            have hd : decide ((0 : Int) < (n' : Int) + 1) = true := by rw [decide_eq_true_eq]; omega
            have hns : IntKind.i64.wrap ((n' : Int) + 1 - 1) = (n' : Int) := by rw [IntKind.wrap_i64]; omega
            have hns2 : IntKind.i64.wrap (n' : Int) = (n' : Int) := by rw [IntKind.wrap_i64]; omega
            clear e1 e2
            go_wp2_with fail
            refine (P3.out _).mono ?_
            rintro e wy ⟨rfl, hwy⟩
            subst hwy
            go_wp2_with fail
            go_roundw
            case rel => exact ⟨kb ++ ⟨#[UInt8.ofNat c3]⟩, n', rfl, by go_num, by rw [ByteArray.size_append, hsz1]; omega, by rw [ByteArray.size_append, hsz1]; omega, hqk.alloc _ _⟩
            case measure => simp [intOf]
          · obtain rfl : n = 0 := by omega
            have c1 := kept_cell e1 hqk
            have c2 := kept_cell e2 hqk
            have HC2 : Hid (wr.cell? ⟨b, off + (k + 2), none⟩ = some (.int .i64 z2)) := c2
            have hbk : b < wr.heap.size := Nat.lt_of_lt_of_le hb hqk.below.size
            have P1 : Hid _ := HP.out z1 1000 f1 (by decide) (by decide)
            have hp1 := pickN_lt z1 (n := 1000) (by decide)
            generalize pickN z1 1000 = m1 at *
            have P4 : Hid _ := HP.out _ 3 f4 (by decide) (by decide)
            have hp4 := pickN_lt (z1.tdiv ((1000 : Nat) : Int)) (n := 3) (by decide)
            have r4 := wf_range f4
            have q4 : IntKind.i64.wrap (z1.tdiv 1000) = z1.tdiv 1000 := by rw [IntKind.wrap_i64]; have := r4; simp only [show ((1000 : Nat) : Int) = 1000 from rfl] at this; omega
            generalize pickN (z1.tdiv ((1000 : Nat) : Int)) 3 = m4 at *
            have P2 : Hid _ := HP.out z2 40 f2 (by decide) (by decide)
            have hp2 := pickN_lt z2 (n := 40) (by decide)
            generalize pickN z2 40 = m2 at *
            have P5 : Hid _ := HP.out z2 256 f2 (by decide) (by decide)
            have hp5 := pickN_lt z2 (n := 256) (by decide)
            generalize pickN z2 256 = m5 at *
            clear e0 e1 e2 P3 P0 a3 b3 hcv q3 r3 r4 f3 f4
            go_upto_region 10 with fail
            go_cut [7] (fun y wq => ∃ R : Nat, y = .pointer (some ⟨R, 0, none⟩) ∧ wr.heap.size ≤ R ∧ Q wr wq ∧ Var4 wq R (.string kb) (.int .i64 (m1 : Int)) (.int .i64 (m4 : Int)) (.string ⟨#[]⟩))
            case first =>
              have s1 : wr.drew.cell? ⟨b, off + (k + 1), none⟩ = some (.int .i64 z1) := c1
              have s2 : (wr.drew.alloc (.cells #[.string ⟨#[]⟩, .int .i64 0, .int .i64 0, .string ⟨#[]⟩] 30)).cell? ⟨b, off + (k + 1), none⟩ = some (.int .i64 z1) := kept_cell s1 ((Q.refl _).alloc _ _)
              refine wp_region_held_drew (S := fun w' => w'.cell? ⟨b, off + (k + 1), none⟩ = some (.int .i64 z1)) (by kernel_rfl) s1 (fun hHeld => ?_)
              refine wpAnyH_take (i := 0) (v := ?_) rfl (by kernel_rfl) (by kernel_rfl) (by kernel_rfl) (fun _ _ _ h => h) (Or.inl ⟨by kernel_rfl, ?_⟩) hHeld ?_
              rotate_left
              · (intro w hSw; (try dsimp only at hSw); go_simp; try with_reducible rfl)
              try simp only [Act.put, List.getElem_toArray, List.getElem_cons_zero, List.setIfInBounds_toArray, List.set_cons_succ, List.set_cons_zero]
              refine wpAnyH_take (i := 1) (v := ?_) rfl (by kernel_rfl) (by kernel_rfl) (by kernel_rfl) (fun _ _ _ h => h) (Or.inl ⟨by kernel_rfl, ?_⟩) hHeld ?_
              rotate_left
              · (intro w hSw; (try dsimp only at hSw); go_simp; try with_reducible rfl)
              try simp only [Act.put, List.getElem_toArray, List.getElem_cons_succ, List.getElem_cons_zero, List.setIfInBounds_toArray, List.set_cons_succ, List.set_cons_zero]
              refine wpAnyH_take (i := 2) (v := ?_) rfl (by kernel_rfl) (by kernel_rfl) (by kernel_rfl) (fun _ _ _ h => h) (Or.inl ⟨by kernel_rfl, ?_⟩) hHeld ?_
              rotate_left
              · (intro w hSw; (try dsimp only at hSw); go_simp; try with_reducible rfl)
              try simp only [Act.put, List.getElem_toArray, List.getElem_cons_succ, List.getElem_cons_zero, List.setIfInBounds_toArray, List.set_cons_succ, List.set_cons_zero]
              refine wpAnyH_take (i := 3) (v := ?_) rfl (by kernel_rfl) (by kernel_rfl) (by kernel_rfl) (fun _ _ _ h => h) (Or.inl ⟨by kernel_rfl, ?_⟩) hHeld ?_
              rotate_left
              · (intro w hSw; (try dsimp only at hSw); go_simp; try with_reducible rfl)
              try simp only [Act.put, List.getElem_toArray, List.getElem_cons_succ, List.getElem_cons_zero, List.setIfInBounds_toArray, List.set_cons_succ, List.set_cons_zero]
              refine wpAnyH_take (i := 4) (v := ?_) rfl (by kernel_rfl) (by kernel_rfl) (by kernel_rfl) (fun _ _ _ h => h) (Or.inl ⟨by kernel_rfl, ?_⟩) hHeld ?_
              rotate_left
              · (intro w hSw; (try dsimp only at hSw); go_simp; try with_reducible rfl)
              try simp only [Act.put, List.getElem_toArray, List.getElem_cons_succ, List.getElem_cons_zero, List.setIfInBounds_toArray, List.set_cons_succ, List.set_cons_zero]
              refine wpAnyH_take (i := 5) (v := ?_) rfl (by kernel_rfl) (by kernel_rfl) (by kernel_rfl) (fun _ _ _ h => h) (Or.inl ⟨by kernel_rfl, ?_⟩) hHeld ?_
              rotate_left
              · (intro w hSw; (try dsimp only at hSw); go_simp; try with_reducible rfl)
              try simp only [Act.put, List.getElem_toArray, List.getElem_cons_succ, List.getElem_cons_zero, List.setIfInBounds_toArray, List.set_cons_succ, List.set_cons_zero]
              refine wpAnyH_take (i := 7) (v := ?_) rfl (by kernel_rfl) (by kernel_rfl) (by kernel_rfl) (fun _ _ _ h => h) (Or.inl ⟨by kernel_rfl, ?_⟩) hHeld ?_
              rotate_left
              · (intro w hSw; (try dsimp only at hSw); go_simp; try with_reducible rfl)
              try simp only [Act.put, List.getElem_toArray, List.getElem_cons_succ, List.getElem_cons_zero, List.setIfInBounds_toArray, List.set_cons_succ, List.set_cons_zero]
              refine wpAnyH_take (i := 8) (v := ?_) rfl (by kernel_rfl) (by kernel_rfl) (by kernel_rfl) (fun _ _ _ h => h) (Or.inl ⟨by kernel_rfl, ?_⟩) hHeld ?_
              rotate_left
              · (intro w hSw; (try dsimp only at hSw); go_simp; try with_reducible rfl)
              try simp only [Act.put, List.getElem_toArray, List.getElem_cons_succ, List.getElem_cons_zero, List.setIfInBounds_toArray, List.set_cons_succ, List.set_cons_zero]
              refine wpAnyH_take (i := 9) (v := ?_) rfl (by kernel_rfl) (by kernel_rfl) (by kernel_rfl) (fun _ _ _ h => h) (Or.inl ⟨by kernel_rfl, ?_⟩) hHeld ?_
              rotate_left
              · (intro w hSw; (try dsimp only at hSw); go_simp; try with_reducible rfl)
              try simp only [Act.put, List.getElem_toArray, List.getElem_cons_succ, List.getElem_cons_zero, List.setIfInBounds_toArray, List.set_cons_succ, List.set_cons_zero]
              refine wpAnyH_take (i := 10) (v := ?_) rfl (by kernel_rfl) (by kernel_rfl) (by kernel_rfl) (fun _ _ _ h => h) (Or.inl ⟨by kernel_rfl, ?_⟩) hHeld ?_
              rotate_left
              · (intro w hSw; (try dsimp only at hSw); go_simp; try with_reducible rfl)
              try simp only [Act.put, List.getElem_toArray, List.getElem_cons_succ, List.getElem_cons_zero, List.setIfInBounds_toArray, List.set_cons_succ, List.set_cons_zero]
              refine wpAnyH_take (i := 11) (v := ?_) rfl (by kernel_rfl) (by kernel_rfl) (by kernel_rfl) (fun _ _ _ h => h) (Or.inl ⟨by kernel_rfl, ?_⟩) hHeld ?_
              rotate_left
              · (intro w hSw; (try dsimp only at hSw); go_simp; try with_reducible rfl)
              try simp only [Act.put, List.getElem_toArray, List.getElem_cons_succ, List.getElem_cons_zero, List.setIfInBounds_toArray, List.set_cons_succ, List.set_cons_zero]
              refine wpAnyH_take (i := 12) (v := ?_) rfl (by kernel_rfl) (by kernel_rfl) (by kernel_rfl) (fun _ _ _ h => h) (Or.inl ⟨by kernel_rfl, ?_⟩) hHeld ?_
              rotate_left
              · (intro w hSw; (try dsimp only at hSw); go_simp; try with_reducible rfl)
              try simp only [Act.put, List.getElem_toArray, List.getElem_cons_succ, List.getElem_cons_zero, List.setIfInBounds_toArray, List.set_cons_succ, List.set_cons_zero]
              refine wpAnyH_ready (rs := [6, 15]) (by kernel_rfl) (by simp) ?_
              refine AllReadyH.cons rfl (fun K hK => ?_) ?_
              · go_simp
                refine (P1.out _).mono ?_
                rintro e wy ⟨rfl, hwy⟩
                subst hwy
                try go_wp2_with fail
                refine hK.out _ _ s1 (fun hHeld0 => ?_)
                clear hK K hHeld
                have hHeld := hHeld0
                clear hHeld0
                try simp only [Act.put, List.getElem_toArray, List.getElem_cons_succ, List.getElem_cons_zero, List.setIfInBounds_toArray, List.set_cons_succ, List.set_cons_zero]
                refine wpAnyH_ready (rs := [13, 15]) (by kernel_rfl) (by simp) ?_
                refine AllReadyH.cons rfl (fun K hK => ?_) ?_
                · go_simp
                  refine (P4.out _).mono ?_
                  rintro e wy ⟨rfl, hwy⟩
                  subst hwy
                  try go_wp2_with fail
                  refine hK.out _ _ s1 (fun hHeld0 => ?_)
                  clear hK K hHeld
                  have hHeld := hHeld0
                  clear hHeld0
                  try simp only [Act.put, List.getElem_toArray, List.getElem_cons_succ, List.getElem_cons_zero, List.setIfInBounds_toArray, List.set_cons_succ, List.set_cons_zero]
                  refine wpAnyH_take (i := 14) (v := ?_) rfl (by kernel_rfl) (by kernel_rfl) (by kernel_rfl) (fun _ _ _ h => h) (Or.inl ⟨by kernel_rfl, ?_⟩) hHeld ?_
                  rotate_left
                  · (intro w hSw; (try dsimp only at hSw); go_simp; try with_reducible rfl)
                  try simp only [Act.put, List.getElem_toArray, List.getElem_cons_succ, List.getElem_cons_zero, List.setIfInBounds_toArray, List.set_cons_succ, List.set_cons_zero]
                  refine wpAnyH_ready (rs := [15]) (by kernel_rfl) (by simp) ?_
                  refine AllReadyH.cons rfl (fun K hK => ?_) ?_
                  · go_simp
                    refine hK.out _ _ s2 (fun hHeld0 => ?_)
                    clear hK K hHeld
                    have hHeld := hHeld0
                    clear hHeld0
                    try simp only [Act.put, List.getElem_toArray, List.getElem_cons_succ, List.getElem_cons_zero, List.setIfInBounds_toArray, List.set_cons_succ, List.set_cons_zero]
                    refine wpAnyH_ready (rs := [16]) (by kernel_rfl) (by simp) ?_
                    refine AllReadyH.cons rfl (fun K hK => ?_) AllReadyH.nil
                    go_simp
                    refine hK.out _ _ (kept_cell c1 ((Q.refl _).alloc _ _).drew) (fun hHeld0 => ?_)
                    clear hK K hHeld hHeld0
                    refine wpAnyH_done (by kernel_rfl) ?_ _
                    have hv := var4_new wr (.string kb) (.int .i64 (m1 : Int)) (.int .i64 (m4 : Int)) (.string ⟨#[]⟩) 30
                    go_wp2_with fail
                    go_meet
                    case rel => exact ⟨wr.heap.size, rfl, Nat.le_refl _, ((Q.refl wr).alloc _ _).drew, ⟨hv.c0, hv.c1, hv.c2, hv.c3, hv.fr⟩⟩
                  exact AllReadyH.nil
                refine AllReadyH.cons rfl (fun K hK => ?_) ?_
                · go_simp
                  refine hK.out _ _ s2 (fun hHeld0 => ?_)
                  clear hK K hHeld
                  have hHeld := hHeld0
                  clear hHeld0
                  try simp only [Act.put, List.getElem_toArray, List.getElem_cons_succ, List.getElem_cons_zero, List.setIfInBounds_toArray, List.set_cons_succ, List.set_cons_zero]
                  refine wpAnyH_ready (rs := [13]) (by kernel_rfl) (by simp) ?_
                  refine AllReadyH.cons rfl (fun K hK => ?_) ?_
                  · go_simp
                    refine (P4.out _).mono ?_
                    rintro e wy ⟨rfl, hwy⟩
                    subst hwy
                    try go_wp2_with fail
                    refine hK.out _ _ s2 (fun hHeld0 => ?_)
                    clear hK K hHeld
                    have hHeld := hHeld0
                    clear hHeld0
                    try simp only [Act.put, List.getElem_toArray, List.getElem_cons_succ, List.getElem_cons_zero, List.setIfInBounds_toArray, List.set_cons_succ, List.set_cons_zero]
                    refine wpAnyH_take (i := 14) (v := ?_) rfl (by kernel_rfl) (by kernel_rfl) (by kernel_rfl) (fun _ _ _ h => h) (Or.inl ⟨by kernel_rfl, ?_⟩) hHeld ?_
                    rotate_left
                    · (intro w hSw; (try dsimp only at hSw); go_simp; try with_reducible rfl)
                    try simp only [Act.put, List.getElem_toArray, List.getElem_cons_succ, List.getElem_cons_zero, List.setIfInBounds_toArray, List.set_cons_succ, List.set_cons_zero]
                    refine wpAnyH_ready (rs := [16]) (by kernel_rfl) (by simp) ?_
                    refine AllReadyH.cons rfl (fun K hK => ?_) AllReadyH.nil
                    go_simp
                    refine hK.out _ _ (kept_cell c1 ((Q.refl _).alloc _ _).drew) (fun hHeld0 => ?_)
                    clear hK K hHeld hHeld0
                    refine wpAnyH_done (by kernel_rfl) ?_ _
                    have hv := var4_new wr (.string kb) (.int .i64 (m1 : Int)) (.int .i64 (m4 : Int)) (.string ⟨#[]⟩) 30
                    go_wp2_with fail
                    go_meet
                    case rel => exact ⟨wr.heap.size, rfl, Nat.le_refl _, ((Q.refl wr).alloc _ _).drew, ⟨hv.c0, hv.c1, hv.c2, hv.c3, hv.fr⟩⟩
                  exact AllReadyH.nil
                exact AllReadyH.nil
              refine AllReadyH.cons rfl (fun K hK => ?_) ?_
              · go_simp
                refine hK.out _ _ s2 (fun hHeld0 => ?_)
                clear hK K hHeld
                have hHeld := hHeld0
                clear hHeld0
                try simp only [Act.put, List.getElem_toArray, List.getElem_cons_succ, List.getElem_cons_zero, List.setIfInBounds_toArray, List.set_cons_succ, List.set_cons_zero]
                refine wpAnyH_ready (rs := [6]) (by kernel_rfl) (by simp) ?_
                refine AllReadyH.cons rfl (fun K hK => ?_) ?_
                · go_simp
                  refine (P1.out _).mono ?_
                  rintro e wy ⟨rfl, hwy⟩
                  subst hwy
                  try go_wp2_with fail
                  refine hK.out _ _ s2 (fun hHeld0 => ?_)
                  clear hK K hHeld
                  have hHeld := hHeld0
                  clear hHeld0
                  try simp only [Act.put, List.getElem_toArray, List.getElem_cons_succ, List.getElem_cons_zero, List.setIfInBounds_toArray, List.set_cons_succ, List.set_cons_zero]
                  refine wpAnyH_ready (rs := [13]) (by kernel_rfl) (by simp) ?_
                  refine AllReadyH.cons rfl (fun K hK => ?_) ?_
                  · go_simp
                    refine (P4.out _).mono ?_
                    rintro e wy ⟨rfl, hwy⟩
                    subst hwy
                    try go_wp2_with fail
                    refine hK.out _ _ s2 (fun hHeld0 => ?_)
                    clear hK K hHeld
                    have hHeld := hHeld0
                    clear hHeld0
                    try simp only [Act.put, List.getElem_toArray, List.getElem_cons_succ, List.getElem_cons_zero, List.setIfInBounds_toArray, List.set_cons_succ, List.set_cons_zero]
                    refine wpAnyH_take (i := 14) (v := ?_) rfl (by kernel_rfl) (by kernel_rfl) (by kernel_rfl) (fun _ _ _ h => h) (Or.inl ⟨by kernel_rfl, ?_⟩) hHeld ?_
                    rotate_left
                    · (intro w hSw; (try dsimp only at hSw); go_simp; try with_reducible rfl)
                    try simp only [Act.put, List.getElem_toArray, List.getElem_cons_succ, List.getElem_cons_zero, List.setIfInBounds_toArray, List.set_cons_succ, List.set_cons_zero]
                    refine wpAnyH_ready (rs := [16]) (by kernel_rfl) (by simp) ?_
                    refine AllReadyH.cons rfl (fun K hK => ?_) AllReadyH.nil
                    go_simp
                    refine hK.out _ _ (kept_cell c1 ((Q.refl _).alloc _ _).drew) (fun hHeld0 => ?_)
                    clear hK K hHeld hHeld0
                    refine wpAnyH_done (by kernel_rfl) ?_ _
                    have hv := var4_new wr (.string kb) (.int .i64 (m1 : Int)) (.int .i64 (m4 : Int)) (.string ⟨#[]⟩) 30
                    go_wp2_with fail
                    go_meet
                    case rel => exact ⟨wr.heap.size, rfl, Nat.le_refl _, ((Q.refl wr).alloc _ _).drew, ⟨hv.c0, hv.c1, hv.c2, hv.c3, hv.fr⟩⟩
                  exact AllReadyH.nil
                exact AllReadyH.nil
              exact AllReadyH.nil
            case rest =>
              obtain ⟨R, rfl, hR, qq, hV⟩ := hcut
              have c2' := kept_cell c2 qq
              have hbq : b < wc.heap.size := Nat.lt_of_lt_of_le hbk qq.below.size
              have hbR : b < R := Nat.lt_of_lt_of_le hbk hR
              clear c1 c2 P1 P4 q4 hbk
              go_wp2_with fail
              refine (P2.out _).mono ?_
              rintro e wy ⟨rfl, hwy⟩
              subst hwy
              have HV : Hid (Var4 wy R (.string kb) (.int .i64 (m1 : Int)) (.int .i64 (m4 : Int)) (.string ⟨#[]⟩)) := hV
              have HC : Hid (∀ W, Q wr W → W.cell? ⟨b, off + (k + 2), none⟩ = some (.int .i64 z2)) := fun W q => kept_cell (HC2.out) q
              clear hV c2'
              go_wp2_with fail
              go_loopw [8] (fun i wk => ∃ (n : Nat) (body : ByteArray), i = .int .i64 n ∧ body.size + n ≤ 39 ∧ Q wr wk ∧ R < wk.heap.size ∧ Hid (Var4 wk R (.string kb) (.int .i64 (m1 : Int)) (.int .i64 (m4 : Int)) (.string body))) (fun i _ => (intOf i).toNat)
              case atStart => exact ⟨m2, ⟨#[]⟩, rfl, by show 0 + m2 ≤ 39; omega, qq, cell_lt4 HV.out.c0, HV⟩
              case round =>
                obtain ⟨n, body, rfl, hbn, hqn, hRn, HVn⟩ := hrel
                have s0 := HC.out _ hqn
                have y0 := HVn.out.c0
                have y1 := HVn.out.c1
                have y2 := HVn.out.c2
                have y3 := HVn.out.c3
                have yf := HVn.out.fr 3
                have hbn2 : b < wr.heap.size := cell_lt4 s0
                by_cases hn : 0 < n
                · obtain ⟨n', rfl⟩ : ∃ n', n = n' + 1 := ⟨n - 1, by omega⟩
                  have hsz1 : (⟨#[UInt8.ofNat m5]⟩ : ByteArray).size = 1 := rfl
                  have hadd : ∀ W, (Op.stringOp .add body ⟨#[UInt8.ofNat m5]⟩).run Tryd.prog W = .ok (.string (body ++ ⟨#[UInt8.ofNat m5]⟩)) W := fun W => run_string_add_sum W _ _ (by rw [hsz1]; omega)
                  have hcv := conv_byte m5
                  have b5 : IntKind.u8.wrap (m5 : Int) = (m5 : Int) := by rw [IntKind.wrap_u8]; omega
                  have hd : decide ((0 : Int) < (n' : Int) + 1) = true := by rw [decide_eq_true_eq]; omega
                  have hns2 : IntKind.i64.wrap (n' : Int) = (n' : Int) := by rw [IntKind.wrap_i64]; omega
                  have hRne : ¬ (R = wr.heap.size) := by omega
                  have s1 : wr.drew.cell? ⟨b, off + (k + 2), none⟩ = some (.int .i64 z2) := s0
                  have hXV0 := HVn.out.set3 (.string (body ++ ⟨#[UInt8.ofNat m5]⟩))
                  have hXV1 := hXV0.grown (World.grownBy_alloc _ (.cells #[.int .u8 (m5 : Int)] 5) none) (by simp)
                  have HXV : Hid (Hid (Var4 ((wr.setCell ⟨R, 3, none⟩ (.string (body ++ ⟨#[UInt8.ofNat m5]⟩))).alloc (.cells #[.int .u8 (m5 : Int)] 5)).drew R (.string kb) (.int .i64 (m1 : Int)) (.int .i64 (m4 : Int)) (.string (body ++ ⟨#[UInt8.ofNat m5]⟩)))) := (⟨hXV1.c0, hXV1.c1, hXV1.c2, hXV1.c3, hXV1.fr⟩ : Var4 ((wr.setCell ⟨R, 3, none⟩ (.string (body ++ ⟨#[UInt8.ofNat m5]⟩))).alloc (.cells #[.int .u8 (m5 : Int)] 5)).drew R (.string kb) (.int .i64 (m1 : Int)) (.int .i64 (m4 : Int)) (.string (body ++ ⟨#[UInt8.ofNat m5]⟩)))
                  have hXq : Q _ (wr.setCell ⟨R, 3, none⟩ (.string (body ++ ⟨#[UInt8.ofNat m5]⟩))) := ⟨hqn.below.grown (set_grown wr R 3 _) hqn.below.size (by intro j hj; simp at hj; omega)⟩
                  have HXQ : Hid (Q _ ((wr.setCell ⟨R, 3, none⟩ (.string (body ++ ⟨#[UInt8.ofNat m5]⟩))).alloc (.cells #[.int .u8 (m5 : Int)] 5)).drew) := (hXq.alloc _ _).drew
                  have HXs : Hid (R < (World.heap ((wr.setCell ⟨R, 3, none⟩ (.string (body ++ ⟨#[UInt8.ofNat m5]⟩))).alloc (.cells #[.int .u8 (m5 : Int)] 5)).drew).size) := cell_lt4 hXV1.c0
                  have hXS : (wr.setCell ⟨R, 3, none⟩ (.string (body ++ ⟨#[UInt8.ofNat m5]⟩))).cell? ⟨b, off + (k + 2), none⟩ = some (.int .i64 z2) := by rw [World.cell?_setCell_other _ _ _ _ (by intro e; injection e; omega)]; exact s0
                  have HXS : Hid (World.cell? ((wr.setCell ⟨R, 3, none⟩ (.string (body ++ ⟨#[UInt8.ofNat m5]⟩))).alloc (.cells #[.int .u8 (m5 : Int)] 5)).drew ⟨b, off + (k + 2), none⟩ = some (.int .i64 z2)) := kept_cell hXS ((Q.refl _).alloc _ _).drew
                  have hXz : (wr.setCell ⟨R, 3, none⟩ (.string (body ++ ⟨#[UInt8.ofNat m5]⟩))).heap.size = wr.heap.size := by simp
                  have hXB := new_cell (wr.setCell ⟨R, 3, none⟩ (.string (body ++ ⟨#[UInt8.ofNat m5]⟩))) (.int .u8 (m5 : Int)) 5
                  rw [hXz] at hXB
                  have HXB : Hid (World.cell? ((wr.setCell ⟨R, 3, none⟩ (.string (body ++ ⟨#[UInt8.ofNat m5]⟩))).alloc (.cells #[.int .u8 (m5 : Int)] 5)).drew ⟨wr.heap.size, 0, none⟩ = some (.int .u8 (m5 : Int))) := hXB
                  clear hXV0 hXV1 hXq hXS hXz hXB
                  go_upto_region 14 with fail
                  refine wp_region_held_drew (S := fun w' => w'.cell? ⟨b, off + (k + 2), none⟩ = some (.int .i64 z2)) (by kernel_rfl) s1 (fun hHeld => ?_)
                  refine wpAnyH_take (i := 0) (v := ?_) rfl (by kernel_rfl) (by kernel_rfl) (by kernel_rfl) (fun _ _ _ h => h) (Or.inl ⟨by kernel_rfl, ?_⟩) hHeld ?_
                  rotate_left
                  · (intro w hSw; (try dsimp only at hSw); go_simp; try with_reducible rfl)
                  try simp only [Act.put, List.getElem_toArray, List.getElem_cons_zero, List.setIfInBounds_toArray, List.set_cons_succ, List.set_cons_zero]
                  refine wpAnyH_take (i := 2) (v := ?_) rfl (by kernel_rfl) (by kernel_rfl) (by kernel_rfl) (fun _ _ _ h => h) (Or.inl ⟨by kernel_rfl, ?_⟩) hHeld ?_
                  rotate_left
                  · (intro w hSw; (try dsimp only at hSw); go_simp; try with_reducible rfl)
                  try simp only [Act.put, List.getElem_toArray, List.getElem_cons_succ, List.getElem_cons_zero, List.setIfInBounds_toArray, List.set_cons_succ, List.set_cons_zero]
                  refine wpAnyH_take (i := 3) (v := ?_) rfl (by kernel_rfl) (by kernel_rfl) (by kernel_rfl) (fun _ _ _ h => h) (Or.inl ⟨by kernel_rfl, ?_⟩) hHeld ?_
                  rotate_left
                  · (intro w hSw; (try dsimp only at hSw); go_simp; try with_reducible rfl)
                  try simp only [Act.put, List.getElem_toArray, List.getElem_cons_succ, List.getElem_cons_zero, List.setIfInBounds_toArray, List.set_cons_succ, List.set_cons_zero]
                  refine wpAnyH_take (i := 4) (v := ?_) rfl (by kernel_rfl) (by kernel_rfl) (by kernel_rfl) (fun _ _ _ h => h) (Or.inl ⟨by kernel_rfl, ?_⟩) hHeld ?_
                  rotate_left
                  · (intro w hSw; (try dsimp only at hSw); go_simp; try with_reducible rfl)
                  try simp only [Act.put, List.getElem_toArray, List.getElem_cons_succ, List.getElem_cons_zero, List.setIfInBounds_toArray, List.set_cons_succ, List.set_cons_zero]
                  refine wpAnyH_take (i := 5) (v := ?_) rfl (by kernel_rfl) (by kernel_rfl) (by kernel_rfl) (fun _ _ _ h => h) (Or.inl ⟨by kernel_rfl, ?_⟩) hHeld ?_
                  rotate_left
                  · (intro w hSw; (try dsimp only at hSw); go_simp; try with_reducible rfl)
                  try simp only [Act.put, List.getElem_toArray, List.getElem_cons_succ, List.getElem_cons_zero, List.setIfInBounds_toArray, List.set_cons_succ, List.set_cons_zero]
                  refine wpAnyH_take (i := 6) (v := ?_) rfl (by kernel_rfl) (by kernel_rfl) (by kernel_rfl) (fun _ _ _ h => h) (Or.inl ⟨by kernel_rfl, ?_⟩) hHeld ?_
                  rotate_left
                  · (intro w hSw; (try dsimp only at hSw); go_simp; try with_reducible rfl)
                  try simp only [Act.put, List.getElem_toArray, List.getElem_cons_succ, List.getElem_cons_zero, List.setIfInBounds_toArray, List.set_cons_succ, List.set_cons_zero]
                  refine wpAnyH_ready (rs := [1, 7]) (by kernel_rfl) (by simp) ?_
                  refine AllReadyH.cons rfl (fun K hK => ?_) ?_
                  · go_simp
                    refine hK.out _ _ hHeld (fun hHeld0 => ?_)
                    clear hK K hHeld0
                    try simp only [Act.put, List.getElem_toArray, List.getElem_cons_succ, List.getElem_cons_zero, List.setIfInBounds_toArray, List.set_cons_succ, List.set_cons_zero]
                    refine wpAnyH_ready (rs := [7]) (by kernel_rfl) (by simp) ?_
                    refine AllReadyH.cons rfl (fun K hK => ?_) ?_
                    · go_simp
                      refine (P5.out _).mono ?_
                      rintro e wy ⟨rfl, hwy⟩
                      subst hwy
                      try go_wp2_with fail
                      refine hK.out _ _ hHeld (fun hHeld0 => ?_)
                      clear hK K hHeld0
                      try simp only [Act.put, List.getElem_toArray, List.getElem_cons_succ, List.getElem_cons_zero, List.setIfInBounds_toArray, List.set_cons_succ, List.set_cons_zero]
                      refine wpAnyH_take (i := 8) (v := ?_) rfl (by kernel_rfl) (by kernel_rfl) (by kernel_rfl) (fun _ _ _ h => h) (Or.inl ⟨by kernel_rfl, ?_⟩) hHeld ?_
                      rotate_left
                      · (intro w hSw; (try dsimp only at hSw); go_simp; try with_reducible rfl)
                      try simp only [Act.put, List.getElem_toArray, List.getElem_cons_succ, List.getElem_cons_zero, List.setIfInBounds_toArray, List.set_cons_succ, List.set_cons_zero]
                      refine wpAnyH_ready (rs := [9]) (by kernel_rfl) (by simp) ?_
                      refine AllReadyH.cons rfl (fun K hK => ?_) ?_
                      · go_simp
                        refine hK.out _ _ (kept_cell s1 ((Q.refl _).alloc _ _)) (fun hHeld0 => ?_)
                        clear hK K hHeld
                        try simp only [Act.put, List.getElem_toArray, List.getElem_cons_succ, List.getElem_cons_zero, List.setIfInBounds_toArray, List.set_cons_succ, List.set_cons_zero]
                        refine wpAnyH_narrow (S' := fun w' : World => w'.cell? ⟨b, off + (k + 2), none⟩ = some (.int .i64 z2) ∧ w'.cell? ⟨wr.heap.size, 0, none⟩ = some (.int .u8 (m5 : Int))) (fun _ h => h.1) ?_
                        have hHeld : (fun w' : World => w'.cell? ⟨b, off + (k + 2), none⟩ = some (.int .i64 z2) ∧ w'.cell? ⟨wr.heap.size, 0, none⟩ = some (.int .u8 (m5 : Int))) _ := ⟨hHeld0, by simp⟩
                        clear hHeld0
                        refine wpAnyH_take (i := 10) (v := ?_) rfl (by kernel_rfl) (by kernel_rfl) (by kernel_rfl) (fun _ _ _ h => h) (Or.inl ⟨by kernel_rfl, ?_⟩) hHeld ?_
                        rotate_left
                        · (intro w hSw; (try dsimp only at hSw); go_simp; try with_reducible rfl)
                        try simp only [Act.put, List.getElem_toArray, List.getElem_cons_succ, List.getElem_cons_zero, List.setIfInBounds_toArray, List.set_cons_succ, List.set_cons_zero]
                        refine wpAnyH_take (i := 11) (v := ?_) rfl (by kernel_rfl) (by kernel_rfl) (by kernel_rfl) (fun _ _ _ h => h) (Or.inl ⟨by kernel_rfl, ?_⟩) hHeld ?_
                        rotate_left
                        · (intro w hSw; (try dsimp only at hSw); go_simp; try with_reducible rfl)
                        try simp only [Act.put, List.getElem_toArray, List.getElem_cons_succ, List.getElem_cons_zero, List.setIfInBounds_toArray, List.set_cons_succ, List.set_cons_zero]
                        refine wpAnyH_take (i := 12) (v := ?_) rfl (by kernel_rfl) (by kernel_rfl) (by kernel_rfl) (fun _ _ _ h => h) (Or.inl ⟨by kernel_rfl, ?_⟩) hHeld ?_
                        rotate_left
                        · (intro w hSw; (try dsimp only at hSw); go_simp; try with_reducible rfl)
                        try simp only [Act.put, List.getElem_toArray, List.getElem_cons_succ, List.getElem_cons_zero, List.setIfInBounds_toArray, List.set_cons_succ, List.set_cons_zero]
                        refine wpAnyH_ready (rs := [13]) (by kernel_rfl) (by simp) ?_
                        refine AllReadyH.cons rfl (fun K hK => ?_) ?_
                        · go_simp
                          refine hK.out _ _ ⟨HXS.out, HXB.out⟩ (fun hHeld0 => ?_)
                          clear hK K hHeld hHeld0
                          refine wpAnyH_done (by kernel_rfl) ?_ _
                          go_wp2_with fail
                          go_roundw
                          case rel => exact ⟨n', body ++ ⟨#[UInt8.ofNat m5]⟩, by go_num, by rw [ByteArray.size_append, hsz1]; omega, HXQ.out, HXs.out, HXV.out⟩
                          case measure => simp [intOf]
                        exact AllReadyH.nil
                      exact AllReadyH.nil
                    exact AllReadyH.nil
                  refine AllReadyH.cons rfl (fun K hK => ?_) ?_
                  · go_simp
                    refine (P5.out _).mono ?_
                    rintro e wy ⟨rfl, hwy⟩
                    subst hwy
                    try go_wp2_with fail
                    refine hK.out _ _ hHeld (fun hHeld0 => ?_)
                    clear hK K hHeld0
                    try simp only [Act.put, List.getElem_toArray, List.getElem_cons_succ, List.getElem_cons_zero, List.setIfInBounds_toArray, List.set_cons_succ, List.set_cons_zero]
                    refine wpAnyH_take (i := 8) (v := ?_) rfl (by kernel_rfl) (by kernel_rfl) (by kernel_rfl) (fun _ _ _ h => h) (Or.inl ⟨by kernel_rfl, ?_⟩) hHeld ?_
                    rotate_left
                    · (intro w hSw; (try dsimp only at hSw); go_simp; try with_reducible rfl)
                    try simp only [Act.put, List.getElem_toArray, List.getElem_cons_succ, List.getElem_cons_zero, List.setIfInBounds_toArray, List.set_cons_succ, List.set_cons_zero]
                    refine wpAnyH_ready (rs := [1, 9]) (by kernel_rfl) (by simp) ?_
                    refine AllReadyH.cons rfl (fun K hK => ?_) ?_
                    · go_simp
                      refine hK.out _ _ hHeld (fun hHeld0 => ?_)
                      clear hK K hHeld0
                      try simp only [Act.put, List.getElem_toArray, List.getElem_cons_succ, List.getElem_cons_zero, List.setIfInBounds_toArray, List.set_cons_succ, List.set_cons_zero]
                      refine wpAnyH_ready (rs := [9]) (by kernel_rfl) (by simp) ?_
                      refine AllReadyH.cons rfl (fun K hK => ?_) ?_
                      · go_simp
                        refine hK.out _ _ (kept_cell s1 ((Q.refl _).alloc _ _)) (fun hHeld0 => ?_)
                        clear hK K hHeld
                        try simp only [Act.put, List.getElem_toArray, List.getElem_cons_succ, List.getElem_cons_zero, List.setIfInBounds_toArray, List.set_cons_succ, List.set_cons_zero]
                        refine wpAnyH_narrow (S' := fun w' : World => w'.cell? ⟨b, off + (k + 2), none⟩ = some (.int .i64 z2) ∧ w'.cell? ⟨wr.heap.size, 0, none⟩ = some (.int .u8 (m5 : Int))) (fun _ h => h.1) ?_
                        have hHeld : (fun w' : World => w'.cell? ⟨b, off + (k + 2), none⟩ = some (.int .i64 z2) ∧ w'.cell? ⟨wr.heap.size, 0, none⟩ = some (.int .u8 (m5 : Int))) _ := ⟨hHeld0, by simp⟩
                        clear hHeld0
                        refine wpAnyH_take (i := 10) (v := ?_) rfl (by kernel_rfl) (by kernel_rfl) (by kernel_rfl) (fun _ _ _ h => h) (Or.inl ⟨by kernel_rfl, ?_⟩) hHeld ?_
                        rotate_left
                        · (intro w hSw; (try dsimp only at hSw); go_simp; try with_reducible rfl)
                        try simp only [Act.put, List.getElem_toArray, List.getElem_cons_succ, List.getElem_cons_zero, List.setIfInBounds_toArray, List.set_cons_succ, List.set_cons_zero]
                        refine wpAnyH_take (i := 11) (v := ?_) rfl (by kernel_rfl) (by kernel_rfl) (by kernel_rfl) (fun _ _ _ h => h) (Or.inl ⟨by kernel_rfl, ?_⟩) hHeld ?_
                        rotate_left
                        · (intro w hSw; (try dsimp only at hSw); go_simp; try with_reducible rfl)
                        try simp only [Act.put, List.getElem_toArray, List.getElem_cons_succ, List.getElem_cons_zero, List.setIfInBounds_toArray, List.set_cons_succ, List.set_cons_zero]
                        refine wpAnyH_take (i := 12) (v := ?_) rfl (by kernel_rfl) (by kernel_rfl) (by kernel_rfl) (fun _ _ _ h => h) (Or.inl ⟨by kernel_rfl, ?_⟩) hHeld ?_
                        rotate_left
                        · (intro w hSw; (try dsimp only at hSw); go_simp; try with_reducible rfl)
                        try simp only [Act.put, List.getElem_toArray, List.getElem_cons_succ, List.getElem_cons_zero, List.setIfInBounds_toArray, List.set_cons_succ, List.set_cons_zero]
                        refine wpAnyH_ready (rs := [13]) (by kernel_rfl) (by simp) ?_
                        refine AllReadyH.cons rfl (fun K hK => ?_) ?_
                        · go_simp
                          refine hK.out _ _ ⟨HXS.out, HXB.out⟩ (fun hHeld0 => ?_)
                          clear hK K hHeld hHeld0
                          refine wpAnyH_done (by kernel_rfl) ?_ _
                          go_wp2_with fail
                          go_roundw
                          case rel => exact ⟨n', body ++ ⟨#[UInt8.ofNat m5]⟩, by go_num, by rw [ByteArray.size_append, hsz1]; omega, HXQ.out, HXs.out, HXV.out⟩
                          case measure => simp [intOf]
                        exact AllReadyH.nil
                      exact AllReadyH.nil
                    refine AllReadyH.cons rfl (fun K hK => ?_) ?_
                    · go_simp
                      refine hK.out _ _ (kept_cell s1 ((Q.refl _).alloc _ _)) (fun hHeld0 => ?_)
                      clear hK K hHeld
                      try simp only [Act.put, List.getElem_toArray, List.getElem_cons_succ, List.getElem_cons_zero, List.setIfInBounds_toArray, List.set_cons_succ, List.set_cons_zero]
                      refine wpAnyH_narrow (S' := fun w' : World => w'.cell? ⟨b, off + (k + 2), none⟩ = some (.int .i64 z2) ∧ w'.cell? ⟨wr.heap.size, 0, none⟩ = some (.int .u8 (m5 : Int))) (fun _ h => h.1) ?_
                      have hHeld : (fun w' : World => w'.cell? ⟨b, off + (k + 2), none⟩ = some (.int .i64 z2) ∧ w'.cell? ⟨wr.heap.size, 0, none⟩ = some (.int .u8 (m5 : Int))) _ := ⟨hHeld0, by simp⟩
                      clear hHeld0
                      refine wpAnyH_take (i := 10) (v := ?_) rfl (by kernel_rfl) (by kernel_rfl) (by kernel_rfl) (fun _ _ _ h => h) (Or.inl ⟨by kernel_rfl, ?_⟩) hHeld ?_
                      rotate_left
                      · (intro w hSw; (try dsimp only at hSw); go_simp; try with_reducible rfl)
                      try simp only [Act.put, List.getElem_toArray, List.getElem_cons_succ, List.getElem_cons_zero, List.setIfInBounds_toArray, List.set_cons_succ, List.set_cons_zero]
                      refine wpAnyH_ready (rs := [1]) (by kernel_rfl) (by simp) ?_
                      refine AllReadyH.cons rfl (fun K hK => ?_) ?_
                      · go_simp
                        refine hK.out _ _ hHeld (fun hHeld0 => ?_)
                        clear hK K hHeld0
                        try simp only [Act.put, List.getElem_toArray, List.getElem_cons_succ, List.getElem_cons_zero, List.setIfInBounds_toArray, List.set_cons_succ, List.set_cons_zero]
                        refine wpAnyH_take (i := 11) (v := ?_) rfl (by kernel_rfl) (by kernel_rfl) (by kernel_rfl) (fun _ _ _ h => h) (Or.inl ⟨by kernel_rfl, ?_⟩) hHeld ?_
                        rotate_left
                        · (intro w hSw; (try dsimp only at hSw); go_simp; try with_reducible rfl)
                        try simp only [Act.put, List.getElem_toArray, List.getElem_cons_succ, List.getElem_cons_zero, List.setIfInBounds_toArray, List.set_cons_succ, List.set_cons_zero]
                        refine wpAnyH_take (i := 12) (v := ?_) rfl (by kernel_rfl) (by kernel_rfl) (by kernel_rfl) (fun _ _ _ h => h) (Or.inl ⟨by kernel_rfl, ?_⟩) hHeld ?_
                        rotate_left
                        · (intro w hSw; (try dsimp only at hSw); go_simp; try with_reducible rfl)
                        try simp only [Act.put, List.getElem_toArray, List.getElem_cons_succ, List.getElem_cons_zero, List.setIfInBounds_toArray, List.set_cons_succ, List.set_cons_zero]
                        refine wpAnyH_ready (rs := [13]) (by kernel_rfl) (by simp) ?_
                        refine AllReadyH.cons rfl (fun K hK => ?_) ?_
                        · go_simp
                          refine hK.out _ _ ⟨HXS.out, HXB.out⟩ (fun hHeld0 => ?_)
                          clear hK K hHeld hHeld0
                          refine wpAnyH_done (by kernel_rfl) ?_ _
                          go_wp2_with fail
                          go_roundw
                          case rel => exact ⟨n', body ++ ⟨#[UInt8.ofNat m5]⟩, by go_num, by rw [ByteArray.size_append, hsz1]; omega, HXQ.out, HXs.out, HXV.out⟩
                          case measure => simp [intOf]
                        exact AllReadyH.nil
                      exact AllReadyH.nil
                    exact AllReadyH.nil
                  exact AllReadyH.nil
                · obtain rfl : n = 0 := by omega
                  have WI := HWi.out rs ⟨kb, (m1 : Int), (m4 : Int), body⟩ ap cp wr ((HR.out.kept hqk).kept hqn) (by omega)
                  simp only [Rec.val] at WI
                  have HW2 : Hid _ := fun (_ : Unit) => WI
                  have hfit : Rec.fits ⟨kb, (m1 : Int), (m4 : Int), body⟩ = true := by
                    simp only [Rec.fits, decide_eq_true_eq]
                    omega
                  have HE2 : Hid _ := fun out => HE.out rs ⟨kb, (m1 : Int), (m4 : Int), body⟩ out HF.out hfit
                  have hqw := (hq.trans hqk).trans hqn
                  clear WI hfit HVn HC
                  go_wp2_with fail
                  refine (HW2.out ()).mono ?_
                  rintro e wz ⟨out, ao', cap', rfl, hout, hRc, qz⟩
                  obtain ⟨hFo, hlo⟩ := HE2.out out hout
                  have j3 : IntKind.i64.wrap ((k : Int) + 3) = (k : Int) + 3 := by rw [IntKind.wrap_i64]; omega
                  have HFo : Hid (Hid (Fine out)) := hFo
                  have HRo : Hid (Hid (Rcs wz ao' out)) := hRc
                  clear hout hFo hRc HE2 HW2
                  go_wp2_with fail
                  go_roundw
                  case rel => exact ⟨k + 3, out, ao', cap', rfl, by go_num, by omega, by omega, HFo.out, HRo.out, hqw.trans qz⟩
                  case measure => simp [intOf]; omega
      · have h2' : decide ((rs.length : Int) < 64) = false := by rw [decide_eq_false_iff_not]; omega
        have j2 : IntKind.i64.wrap ((k : Int) + 2) = (k : Int) + 2 := by rw [IntKind.wrap_i64]; omega
        have hd1 : (k : Int) + 2 < (zs.length : Int) := by omega
        have HFF : Hid (Fine rs) := HF
        have HRR : Hid (Rcs wr ap rs) := HR
        go_wp2_with fail
        go_ret
        exact ⟨rs, ap, cp, rfl, ⟨HFF.out, hrl⟩, HRR.out, hq⟩
    · have h1' : decide ((k : Int) + 2 < (zs.length : Int)) = false := by rw [decide_eq_false_iff_not]; omega
      have j2 : IntKind.i64.wrap ((k : Int) + 2) = (k : Int) + 2 := by rw [IntKind.wrap_i64]; omega
      have HFF : Hid (Fine rs) := HF
      have HRR : Hid (Rcs wr ap rs) := HR
      go_wp2_with fail
      go_ret
      exact ⟨rs, ap, cp, rfl, ⟨HFF.out, hrl⟩, HRR.out, hq⟩
end Go.Proofs.YtekdenkllipehaaDoor
