/-
  The statement on disks: the owner's mark; lists of texts compared.
-/
import Derived.Test.YtekdenkllipehaaConv
import Derived.Test.YtekdenkllipehaaRefDsk14
import Derived.Laws.Cover1
namespace Go.Proofs.Ytekdenkllipehaa
open Go.RowKit

/-- What is put behind a mark's beginning. -/
def markGo : Nat → Nat → ByteArray → ByteArray
  | 0, _, s => s
  | f + 1, n, s => if 0 < n then markGo f (n / 26) (s ++ ⟨#[65 + UInt8.ofNat (n % 26)]⟩) else s

theorem markGo_fuel : ∀ (f g n : Nat) (s : ByteArray), n ≤ f → n ≤ g → markGo f n s = markGo g n s
  | 0, 0, _, _, _, _ => rfl
  | 0, g + 1, n, s, hf, _ => by
    have hn : n = 0 := by omega
    subst hn
    simp [markGo]
  | f + 1, 0, n, s, _, hg => by
    have hn : n = 0 := by omega
    subst hn
    simp [markGo]
  | f + 1, g + 1, n, s, hf, hg => by
    unfold markGo
    split
    · exact markGo_fuel f g _ _ (by omega) (by omega)
    · rfl

theorem markGo_next {m : Nat} (h : 0 < m) (s : ByteArray) : markGo m m s = markGo (m / 26) (m / 26) (s ++ ⟨#[65 + UInt8.ofNat (m % 26)]⟩) := by
  obtain ⟨k, rfl⟩ : ∃ k, m = k + 1 := ⟨m - 1, by omega⟩
  conv => lhs; unfold markGo
  rw [if_pos (by omega)]
  exact markGo_fuel _ _ _ _ (by omega) (Nat.le_refl _)

def markHead : ByteArray := ⟨#[116, 104, 101, 32, 99, 97, 108, 108, 101, 114, 39, 115, 32]⟩
/-- What the owner of the list of that number writes into it. -/
def markOf (n : Nat) : ByteArray := markGo n n markHead

set_option maxRecDepth 100000 in
set_option maxHeartbeats 800000 in
theorem mark_any (n : Nat) (hn : n ≤ 4398046511104) (w : World) :
    Calls Try.prog 50 #[.int .i64 (n : Int)] w fun e w' => e = .returned (.string (markOf n)) ∧ Q w w' := by
  have hcv := conv1
  obtain ⟨T, hT⟩ : ∃ T, markGo n n markHead = T := ⟨_, rfl⟩
  have HT : Hid (markGo n n markHead = T) := hT
  have hM : markOf n = T := hT
  have hhs : markHead.size = 13 := rfl
  rw [hM]
  clear hT hM
  go_enter Try.func50, Try.ntmps50
  go_wp2
  go_loopw [0, 3] (fun x s wr => ∃ (m : Nat) (acc : ByteArray), x = .int .i64 m ∧ s = .string acc ∧ Hid (markGo m m acc = T) ∧ acc.size + m ≤ 13 + n ∧ Q w wr) (fun x _ _ => (intOf x).toNat)
  case atStart => exact ⟨n, markHead, rfl, rfl, HT.out, by omega, Q.refl _⟩
  case round =>
    obtain ⟨m, acc, rfl, rfl, hm, hsz, hq⟩ := hrel
    by_cases hlt : 0 < m
    · have HN : Hid (markGo (m / 26) (m / 26) (acc ++ ⟨#[65 + UInt8.ofNat (m % 26)]⟩) = T) := (markGo_next hlt acc).symm.trans hm.out
      have hz : (acc ++ ⟨#[65 + UInt8.ofNat (m % 26)]⟩ : ByteArray).size = acc.size + 1 := by rw [ByteArray.size_append]; rfl
      have d0 : decide ((0 : Int) < (m : Int)) = true := by rw [decide_eq_true_eq]; omega
      have e1 : (m : Int).tmod 26 = ((m % 26 : Nat) : Int) := rfl
      have e2 : (m : Int).tdiv 26 = ((m / 26 : Nat) : Int) := rfl
      have e3 : IntKind.i64.wrap ((65 : Int) + ((m % 26 : Nat) : Int)) = ((65 + m % 26 : Nat) : Int) := by rw [IntKind.wrap_i64]; omega
      have e4 : IntKind.u8.wrap ((65 + m % 26 : Nat) : Int) = ((65 + m % 26 : Nat) : Int) := by rw [IntKind.wrap_u8]; omega
      clear hm HT
      go_wp2
      go_roundw
      case rel => exact ⟨m / 26, _, by go_num, rfl, HN.out, by rw [hz]; omega, hq.alloc _ _⟩
      case measure => simp [intOf]; omega
    · obtain rfl : m = 0 := by omega
      have hacc : acc = T := by have := hm.out; simpa [markGo] using this
      subst hacc
      clear hm HT
      go_wp2
      go_ret
      exact ⟨rfl, hq⟩

set_option maxRecDepth 100000 in
set_option maxHeartbeats 800000 in
/-- Two rows of the same texts. -/
theorem sameTexts_yes (P : List ByteArray) (ao bo : Option Addr) (ac bc : Nat) (w : World) (hl : P.length ≤ 64) (ha : w.ownsRow 0 9 1 (.slice ao P.length ac) P.length (nameVals P)) (hb : w.ownsRow 0 9 1 (.slice bo P.length bc) P.length (nameVals P)) :
    Calls Try.prog 66 #[.slice ao P.length ac, .slice bo P.length bc] w fun e w' => e = .returned (.bool true) ∧ Q w w' := by
  have HA : Hid (w.ownsRow 0 9 1 (.slice ao P.length ac) P.length (nameVals P)) := ha
  have HB : Hid (w.ownsRow 0 9 1 (.slice bo P.length bc) P.length (nameVals P)) := hb
  clear ha hb
  go_enter Try.func66, Try.ntmps66
  go_wp2_with fail
  go_loopw [5] (fun j wr => ∃ k : Nat, j = .int .i64 k ∧ k ≤ P.length ∧ Q w wr) (fun j _ => P.length - (intOf j).toNat)
  case atStart => exact ⟨0, rfl, Nat.zero_le _, Q.refl _⟩
  case round =>
    obtain ⟨k, rfl, hk, hq⟩ := hrel
    by_cases hlt : k < P.length
    · obtain ⟨g1, rfl, c1⟩ : ∃ g, ao = some ⟨g, 0, none⟩ ∧ w.cell? ⟨g, k, none⟩ = some (.string P[k]) := by
        rcases HA.out.2 with ⟨_, h0⟩ | ⟨g, c, cur, hv, _⟩
        · omega
        · injection hv with e1
          subst e1
          refine ⟨g, rfl, ?_⟩
          rw [HA.out.cellAt k (by omega)]
          simp [nameVals, List.getElem?_eq_getElem hlt]
      obtain ⟨g2, rfl, c2⟩ : ∃ g, bo = some ⟨g, 0, none⟩ ∧ w.cell? ⟨g, k, none⟩ = some (.string P[k]) := by
        rcases HB.out.2 with ⟨_, h0⟩ | ⟨g, c, cur, hv, _⟩
        · omega
        · injection hv with e1
          subst e1
          refine ⟨g, rfl, ?_⟩
          rw [HB.out.cellAt k (by omega)]
          simp [nameVals, List.getElem?_eq_getElem hlt]
      have k1 := kept_cell c1 hq
      have k2 := kept_cell c2 hq
      generalize P[k] = nm at *
      have i1 : (k : Int) < (P.length : Int) := by omega
      have i0 : (0 : Int) ≤ (k : Int) := by omega
      have wk : IntKind.i64.wrap ((k : Int) + 1) = (k : Int) + 1 := by rw [IntKind.wrap_i64]; omega
      clear c1 c2
      go_wp2_with fail
      go_quiet (fail)
      go_wp2_with fail
      go_roundw
      case rel => exact ⟨k + 1, by go_num, by omega, hq.drewN _⟩
      case measure => simp [intOf]; omega
    · obtain rfl : k = P.length := by omega
      go_wp2_with fail
      go_ret
      exact ⟨rfl, hq⟩
end Go.Proofs.Ytekdenkllipehaa
