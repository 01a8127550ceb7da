import Derived.Test.YtcacednpgpkejaaZero
import Derived.Test.YtcacednpgpkejaaSlot
namespace Go.Proofs.Ytcacednpgpkejaa
open Go.RowKit

/-- 'make([]int, n)'. -/
theorem make_ints (n : Nat) (hn : n ≤ 4096) : ∃ M : Array Value,
    (∀ W : World, (Instr.makeSlice 31 (.int .i64 (n : Int)) (.int .i64 (n : Int))).run Try.prog W = .ok (.slice (some ⟨W.heap.size, 0, none⟩) n n) (W.alloc (.cells M 3))) ∧
    (∀ j, j < n → M[j]? = some (.int .i64 0)) := by
  obtain ⟨i0, hi, hz0, hz1, hz2⟩ := info_parts infoInt'
  refine ⟨madeCells (Value.int .i64 0).cells (((n : Nat) : Int).toNat * i0.size), fun W => ?_, fun j hj => ?_⟩
  · have h := run_make (P := Try.prog) W 31 3 i0 (.int .i64 0) Try.underlying31 hi hz0 .i64 .i64 (n : Int) (n : Int) (by omega) (by omega) (by rw [hz2]; omega) (by omega)
    simpa using h
  · rw [hz1]
    have hm := toList_madeCells_one (.int .i64 0) (((n : Nat) : Int).toNat * 1)
    rw [← Array.getElem?_toList]
    show (madeCells #[Value.int .i64 0] _).toList[j]? = _
    rw [hm]
    simp [hj]

theorem laying_start (w : World) (b : ByteArray) (M Z : Array Value) (hM : ∀ j, j < b.size → M[j]? = some (.int .i64 0)) (z0 : Z[0]? = some (.string b)) (zf : ∀ i, i < 4096 → Z[1 + i]? = some (.int .i64 0)) (zn : Z[4097]? = some (.slice (some ⟨w.heap.size, 0, none⟩) b.size b.size)) :
    Laying w ((w.alloc (.cells M 3)).alloc (.cells Z 125)) (w.heap.size + 1) w.heap.size b (fun _ => 0) (fun _ => 0) := by
  have hs : (w.alloc (.cells M 3)).heap.size = w.heap.size + 1 := by simp
  have cx : ∀ j, ((w.alloc (.cells M 3)).alloc (.cells Z 125)).cell? ⟨w.heap.size + 1, j, none⟩ = Z[j]? := fun j => by rw [← hs, World.cell?_alloc_mark]
  have cn : ∀ j, j < b.size → ((w.alloc (.cells M 3)).alloc (.cells Z 125)).cell? ⟨w.heap.size, j, none⟩ = some (.int .i64 0) := fun j hj => by
    refine kept_cell ?_ ((Q.refl _).alloc _ _)
    rw [World.cell?_alloc_mark, hM j hj]
  refine ⟨⟨(cx 0).trans z0, fun i hi => (cx _).trans (zf i hi), (cx _).trans zn, fun j hj => cn j hj, fun _ => Nat.zero_le _, fun _ => Nat.zero_le _⟩, ((Below.refl _ w).alloc (Nat.le_refl _) _).alloc (by simp) _, ⟨Nat.le_refl _, by omega⟩, fun j => ?_, fun j => ?_⟩
  · have : ((w.alloc (.cells M 3)).alloc (.cells Z 125)).frozen? ⟨(w.alloc (.cells M 3)).heap.size, j, none⟩ = false := by simp
    rw [hs] at this; exact this
  · have : (w.alloc (.cells M 3)).frozen? ⟨w.heap.size, j, none⟩ = false := by simp
    exact (((Q.refl (w.alloc (.cells M 3))).alloc _ _).below.frozen (p := ⟨w.heap.size, j, none⟩) (by simp)).trans this

/-- What index has laid. -/
def Indexed (F : ByteArray → Nat) (w : World) (X N : Nat) (b : ByteArray) : Prop := ∃ f g : Nat → Nat, Words w X N b f g ∧ (4 ≤ b.size → f (F b) = 1)

theorem Indexed.kept {F : ByteArray → Nat} {w w' : World} {X N : Nat} {b : ByteArray} (h : Indexed F w X N b) (q : Q w w') : Indexed F w' X N b := by
  obtain ⟨f, g, h1, h2⟩ := h
  exact ⟨f, g, h1.kept q, h2⟩

set_option maxRecDepth 100000 in
set_option maxHeartbeats 600000 in
theorem index_any (F : ByteArray → Nat) (hF : SlotFn F) (b : ByteArray) (hb : b.size ≤ 4096) (w : World) :
    Calls Try.prog 51 #[.string b] w fun e w' => e = .returned (.pointer (some ⟨w.heap.size + 1, 0, none⟩)) ∧ Indexed F w' (w.heap.size + 1) w.heap.size b ∧ Q w w' := by
  obtain ⟨M0, hmk, hM⟩ := make_ints b.size hb
  obtain ⟨z, hzs, hzne, hzv, hzc⟩ := words_made
  obtain ⟨hZ0, hZf, hZn⟩ := hzc b (.slice (some ⟨w.heap.size, 0, none⟩) b.size b.size)
  have hL0 := laying_start w b M0 _ hM hZ0 hZf hZn
  clear hzc
  have SL : Hid _ := fun (p : Nat) (h : 4 ≤ (b.extract p b.size).size) => hF.2 (b.extract p b.size) h
  have HSl : Hid (∀ p, F (b.extract p b.size) < 4096) := fun p => hF.1 _
  clear hM hZ0 hZf hZn hF
  go_enter Try.func51, Try.ntmps51
  go_wp2_with fail
  generalize ((z.setIfInBounds 0 (.string b)).setIfInBounds 4097 (.slice (some ⟨w.heap.size, 0, none⟩) b.size b.size)) = Z at *
  go_loopw [4] (fun t wr => ∃ (p : Int) (f g : Nat → Nat), t = .int .i64 p ∧ -4 ≤ p ∧ (4 ≤ b.size → -1 ≤ p) ∧ p + 4 ≤ (b.size : Int) ∧ Laying w wr (w.heap.size + 1) w.heap.size b f g ∧ Hid (∀ k : Nat, (k : Int) = p + 1 → k + 4 ≤ b.size → f (F (b.extract k b.size)) = k + 1)) (fun t _ => (intOf t + 4).toNat)
  case atStart => exact ⟨(b.size : Int) - 4, _, _, rfl, by omega, by omega, by omega, hL0, (fun k h1 h2 => by omega : ∀ k : Nat, (k : Int) = (b.size : Int) - 4 + 1 → k + 4 ≤ b.size → (0 : Nat) = k + 1)⟩
  case round =>
    obtain ⟨p0, f, g, rfl, hp4, hp1, hpb, hL, hfst⟩ := hrel
    by_cases hp0 : 0 ≤ p0
    · obtain ⟨p, rfl⟩ := Int.eq_ofNat_of_zero_le hp0
      have hpl : p + 4 ≤ b.size := by omega
      have hez : (b.extract p b.size).size = b.size - p := by simp
      have hsl := HSl.out p
      have SC : Hid _ := SL.out p (by omega)
      have HNew : Hid (∀ sl, sl = F (b.extract p b.size) → ∀ k : Nat, (k : Int) = (p : Int) - 1 + 1 → k + 4 ≤ b.size → (fun j => if j = sl then p + 1 else f j) (F (b.extract k b.size)) = k + 1) := fun sl hsl k hk _ => by
        have : k = p := by omega
        subst this
        simp [hsl]
      generalize hsE : F (b.extract p b.size) = sl at *
      have HNew2 := HNew.out sl rfl
      have HN2 : Hid _ := HNew2
      clear HNew HNew2 hsE hez hfst
      go_wp2_with fail
      refine (SC.out _).mono ?_
      rintro e w1 ⟨rfl, q1⟩
      have hL1 := hL.kept q1
      clear hL q1
      have s1 := hL1.words.cn
      have s2 := hL1.words.cf sl hsl
      have hfb := hL1.words.bf sl
      have n1 := hL1.words.cg p (by omega)
      have n2 := hL1.fn p
      have hL2 := hL1.setNext p (f sl) (by omega) hfb
      have hLd := (hL1.kept (Q.refl _).drew).setNext p (f sl) (by omega) hfb
      have n3 := hL1.fx (1 + sl)
      have hpI : (p : Int) < (b.size : Int) := by omega
      have hsI : (sl : Int) < 4096 := by omega
      go_upto_region 6 with fail
      go_region_held3 (fun w' => w'.cell? ⟨w.heap.size + 1, 4097, none⟩ = some (.slice (some ⟨w.heap.size, 0, none⟩) b.size b.size) ∧ w'.cell? ⟨w.heap.size + 1, 1 + sl, none⟩ = some (.int .i64 (f sl : Int))) (first | exact ⟨s1, s2⟩ | exact ⟨hL2.words.cn, hL2.words.cf sl hsl⟩ | exact ⟨hLd.words.cn, hLd.words.cf sl hsl⟩) (fail)
      have m1 := hL2.words.cf sl hsl
      have hL3 := (hL2.setFirst sl (p + 1) hsl (by omega)).kept (Q.refl _).drew
      clear hL1 s1 s2 n1 n2 hLd
      go_wp2_with fail
      go_roundw
      case rel => exact ⟨(p : Int) - 1, _, _, by go_num, by omega, by omega, by omega, hL3, HN2⟩
      case measure => simp [intOf]; omega
    · have HF : Hid (4 ≤ b.size → f (F b) = 1) := fun h4 => by
        have := hfst.out 0 (by have := hp1 h4; omega) (by omega)
        simpa using this
      clear hfst
      go_wp2_with fail
      go_ret
      exact ⟨rfl, ⟨f, g, hL.words, HF.out⟩, ⟨hL.below⟩⟩
end Go.Proofs.Ytcacednpgpkejaa
