import Derived.Test.YtekdenkllipehaaZero
import Derived.Test.YtekdenkllipehaaSlot
import Derived.Test.YtekdenkllipehaaBitsLen
namespace Go.Proofs.Ytekdenkllipehaa
open Go.RowKit

theorem infoU16 : (Try.prog.info? 128).map (fun i => (i.zero, i.size, i.bytes)) = some (some (.int .u16 0), 1, 2) := by kernel_rfl

/-- 'make([]uint16, n)'. -/
theorem make_u16 (n : Nat) (hn : n ≤ 8192) : ∃ M : Array Value,
    (∀ W : World, (Instr.makeSlice 124 (.int .i64 (n : Int)) (.int .i64 (n : Int))).run Try.prog W = .ok (.slice (some ⟨W.heap.size, 0, none⟩) n n) (W.alloc (.cells M 128))) ∧
    (∀ j, j < n → M[j]? = some (.int .u16 0)) := by
  obtain ⟨i0, hi, hz0, hz1, hz2⟩ := info_parts infoU16
  refine ⟨madeCells (Value.int .u16 0).cells (((n : Nat) : Int).toNat * i0.size), fun W => ?_, fun j hj => ?_⟩
  · have h := run_make (P := Try.prog) W 124 128 i0 (.int .u16 0) Try.underlying124 hi hz0 .i64 .i64 (n : Int) (n : Int) (by omega) (by omega) (by rw [hz2]; omega) (by omega)
    simpa using h
  · rw [hz1]
    have hm := toList_madeCells_one (.int .u16 0) (((n : Nat) : Int).toNat * 1)
    rw [← Array.getElem?_toList]
    show (madeCells #[Value.int .u16 0] _).toList[j]? = _
    rw [hm]
    simp [hj]

/-- A row of zeros in a block that was just made. -/
structure Zeros (w : World) (g n : Nat) : Prop where
  cell : ∀ j, j < n → w.cell? ⟨g, j, none⟩ = some (.int .u16 0)
  fr : ∀ j, w.frozen? ⟨g, j, none⟩ = false
  top : g < w.heap.size

theorem Zeros.kept {w w' : World} {g n : Nat} (h : Zeros w g n) (q : Q w w') : Zeros w' g n :=
  ⟨fun j hj => kept_cell (h.cell j hj) q, fun j => (q.below.frozen (p := ⟨g, j, none⟩) h.top).trans (h.fr j), Nat.lt_of_lt_of_le h.top q.below.size⟩

theorem zeros_new (w : World) (M : Array Value) (n : Nat) (hM : ∀ j, j < n → M[j]? = some (.int .u16 0)) (t : TypeId) : Zeros (w.alloc (.cells M t)) w.heap.size n :=
  ⟨fun j hj => by rw [World.cell?_alloc_mark, hM j hj], fun j => by simp, by simp⟩

/-- The two rows and the variable, laid. -/
theorem laying_start (w w2 : World) (b : ByteArray) (n m F N : Nat) (q : Q w w2) (hF : w.heap.size ≤ F) (hN : w.heap.size ≤ N) (hne : F ≠ N) (zF : Zeros w2 F m) (zN : Zeros w2 N b.size) :
    Laying w (w2.alloc (.cells #[.string b, .int .i64 (n : Int), .slice (some ⟨F, 0, none⟩) m m, .slice (some ⟨N, 0, none⟩) b.size b.size] 126)) w2.heap.size F N b n m (fun _ => 0) (fun _ => 0) := by
  have q2 : Q w2 (w2.alloc (.cells #[.string b, .int .i64 (n : Int), .slice (some ⟨F, 0, none⟩) m m, .slice (some ⟨N, 0, none⟩) b.size b.size] 126)) := (Q.refl w2).alloc _ _
  have z1 := zF.kept q2
  have z2 := zN.kept q2
  exact ⟨⟨by simp, by simp, by simp, by simp, z1.cell, z2.cell, fun _ => Nat.zero_le _, fun _ => Nat.zero_le _⟩, (q.trans q2).below, ⟨hF, hN⟩, ⟨hne, by have := zF.top; omega, by have := zN.top; omega⟩, ⟨z1.top, z2.top⟩, z1.fr, z2.fr⟩

def Indexed (w : World) (X : Nat) (b : ByteArray) : Prop := ∃ (F N n m : Nat) (f g : Nat → Nat), (n ≤ 13 ∧ m = 2 ^ n) ∧ Words w X F N b n m f g ∧ (4 ≤ b.size → f (slotOf n b) = 1)

theorem Indexed.kept {w w' : World} {X : Nat} {b : ByteArray} (h : Indexed w X b) (q : Q w w') : Indexed w' X b := by
  obtain ⟨F, N, n, m, f, g, h0, h1, h2⟩ := h
  exact ⟨F, N, n, m, f, g, h0, h1.kept q, h2⟩

set_option maxRecDepth 100000 in
set_option maxHeartbeats 600000 in
theorem index_any (b : ByteArray) (hb : b.size ≤ 4096) (w : World) :
    Calls Try.prog 51 #[.string b] w fun e w' => e = .returned (.pointer (some ⟨w.heap.size + 2, 0, none⟩)) ∧ Indexed w' (w.heap.size + 2) b ∧ Q w w' := by
  have HL : Hid _ := bitsLen_any b.size hb
  obtain ⟨M0, hmk, hM⟩ := make_u16 b.size (by omega)
  go_enter Try.func51, Try.ntmps51
  go_wp2_with fail
  refine (HL.out _).mono ?_
  rintro e w1 ⟨⟨n, rfl, hn⟩, rfl⟩
  obtain ⟨m, hm⟩ : ∃ m, m = 2 ^ n := ⟨_, rfl⟩
  have hp : m ≤ 8192 := by rw [hm]; exact Nat.pow_le_pow_right (n := 2) (by decide) hn
  have hw : wrap64 (2 ^ n) = (m : Int) := by
    have : ((m : Nat) : Int) = 2 ^ n := by rw [hm]; push_cast; rfl
    rw [← this]
    unfold wrap64
    omega
  obtain ⟨M1, hmk1, hM1⟩ := make_u16 m hp
  have HM : Hid (m = 2 ^ n) := hm
  clear hm
  go_wp2_with fail
  go_region
  · have hL0 := (laying_start w1 ((w1.alloc (.cells M1 128)).alloc (.cells M0 128)) b n m w1.heap.size (w1.heap.size + 1) (((Q.refl w1).alloc _ _).alloc _ _) (Nat.le_refl _) (by omega) (by omega) ((zeros_new w1 M1 m hM1 _).kept ((Q.refl _).alloc _ _)) (by have := zeros_new (w1.alloc (.cells M1 128)) M0 b.size hM 128; simpa using this)).kept (Q.refl _).drew
    simp only [World.size_alloc] at hL0
    clear hM hM1 hmk hmk1 hw
    go_wp2_with fail
    go_loopw [5] (fun t wr => ∃ (p : Int) (f g : Nat → Nat), t = .int .i64 p ∧ -4 ≤ p ∧ (4 ≤ b.size → -1 ≤ p) ∧ p + 4 ≤ (b.size : Int) ∧ Laying w1 wr (w1.heap.size + 1 + 1) w1.heap.size (w1.heap.size + 1) b n m f g ∧ Hid (∀ k : Nat, (k : Int) = p + 1 → k + 4 ≤ b.size → f (slotOf n (b.extract k b.size)) = k + 1)) (fun t _ => (intOf t + 4).toNat)
    case atStart => exact ⟨(b.size : Int) - 4, _, _, rfl, by omega, by omega, by omega, hL0, (fun k h1 h2 => by omega : ∀ k : Nat, (k : Int) = (b.size : Int) - 4 + 1 → k + 4 ≤ b.size → (0 : Nat) = k + 1)⟩
    case round =>
      obtain ⟨p0, f, g, rfl, hp4, hp1, hpb, hL, hfst⟩ := hrel
      by_cases hp0 : 0 ≤ p0
      · obtain ⟨p, rfl⟩ := Int.eq_ofNat_of_zero_le hp0
        have hpl : p + 4 ≤ b.size := by omega
        have hez : (b.extract p b.size).size = b.size - p := by simp
        have hsl : slotOf n (b.extract p b.size) < m := by rw [HM.out]; exact slotOf_lt n hn _
        have SC : Hid _ := fun (_ : Unit) => slot_any n hn (w1.heap.size + 1 + 1) (b.extract p b.size) (by omega) wr hL.words.c1
        have HNew : Hid (∀ sl, sl = slotOf n (b.extract p b.size) → ∀ k : Nat, (k : Int) = (p : Int) - 1 + 1 → k + 4 ≤ b.size → (fun j => if j = sl then p + 1 else f j) (slotOf n (b.extract k b.size)) = k + 1) := fun sl hsl k hk _ => by
          have : k = p := by omega
          subst this
          simp [hsl]
        generalize hsE : slotOf n (b.extract p b.size) = sl at *
        have HNew2 := HNew.out sl rfl
        have HN2 : Hid _ := HNew2
        clear HNew HNew2 hsE hez hfst
        go_wp2_with fail
        refine (SC.out ()).mono ?_
        rintro e w2 ⟨rfl, q1⟩
        have hL1 := hL.kept q1
        clear hL q1 SC
        have s1 := hL1.words.c3
        have s1' := hL1.words.c2
        have s2 := hL1.words.cf sl hsl
        have hfb := hL1.words.bf sl
        have n1 := hL1.words.cg p (by omega)
        have n2 := hL1.fn p
        have hL2 := hL1.setNext p (f sl) (by omega) hfb
        have hLd := (hL1.kept (Q.refl _).drew).setNext p (f sl) (by omega) hfb
        have n3 := hL1.ff sl
        have hpI : (p : Int) < (b.size : Int) := by omega
        have hsI : (sl : Int) < (m : Int) := by omega
        go_upto_region 7 with fail
        go_region_held3 (fun w' => w'.cell? ⟨w1.heap.size + 1 + 1, 3, none⟩ = some (.slice (some ⟨w1.heap.size + 1, 0, none⟩) b.size b.size) ∧ w'.cell? ⟨w1.heap.size + 1 + 1, 2, none⟩ = some (.slice (some ⟨w1.heap.size, 0, none⟩) m m) ∧ w'.cell? ⟨w1.heap.size, sl, none⟩ = some (.int .u16 (f sl : Int))) (first | exact ⟨s1, s1', s2⟩ | exact ⟨hL2.words.c3, hL2.words.c2, hL2.words.cf sl hsl⟩ | exact ⟨hLd.words.c3, hLd.words.c2, hLd.words.cf sl hsl⟩) (fail)
        have m0 := hL2.words.c2
        have m1 := hL2.words.cf sl hsl
        have hcv : IntKind.u16.wrap ((p : Int) + 1) = (p : Int) + 1 := by simp [IntKind.wrap, IntKind.bits, IntKind.signed]; omega
        have hL3 := (hL2.setFirst sl (p + 1) hsl (by omega)).kept (Q.refl _).drew
        clear hL1 s1 s1' s2 n1 n2 hLd
        go_wp2_with fail
        go_roundw
        case rel => exact ⟨(p : Int) - 1, _, _, by go_num, by omega, by omega, by omega, hL3, HN2⟩
        case measure => simp [intOf]; omega
      · have HF : Hid (4 ≤ b.size → f (slotOf n b) = 1) := fun h4 => by
          have := hfst.out 0 (by have := hp1 h4; omega) (by omega)
          simpa using this
        clear hfst
        go_wp2_with fail
        go_ret
        exact ⟨rfl, ⟨w1.heap.size, (w1.heap.size + 1), n, m, f, g, ⟨hn, HM.out⟩, hL.words, HF.out⟩, ⟨hL.below⟩⟩
  · have hL0 := (laying_start w1 ((w1.alloc (.cells M0 128)).alloc (.cells M1 128)) b n m (w1.heap.size + 1) w1.heap.size (((Q.refl w1).alloc _ _).alloc _ _) (by omega) (Nat.le_refl _) (by omega) (by have := zeros_new (w1.alloc (.cells M0 128)) M1 m hM1 128; simpa using this) ((zeros_new w1 M0 b.size hM _).kept ((Q.refl _).alloc _ _))).kept (Q.refl _).drew
    simp only [World.size_alloc] at hL0
    clear hM hM1 hmk hmk1 hw
    go_wp2_with fail
    go_loopw [5] (fun t wr => ∃ (p : Int) (f g : Nat → Nat), t = .int .i64 p ∧ -4 ≤ p ∧ (4 ≤ b.size → -1 ≤ p) ∧ p + 4 ≤ (b.size : Int) ∧ Laying w1 wr (w1.heap.size + 1 + 1) (w1.heap.size + 1) w1.heap.size b n m f g ∧ Hid (∀ k : Nat, (k : Int) = p + 1 → k + 4 ≤ b.size → f (slotOf n (b.extract k b.size)) = k + 1)) (fun t _ => (intOf t + 4).toNat)
    case atStart => exact ⟨(b.size : Int) - 4, _, _, rfl, by omega, by omega, by omega, hL0, (fun k h1 h2 => by omega : ∀ k : Nat, (k : Int) = (b.size : Int) - 4 + 1 → k + 4 ≤ b.size → (0 : Nat) = k + 1)⟩
    case round =>
      obtain ⟨p0, f, g, rfl, hp4, hp1, hpb, hL, hfst⟩ := hrel
      by_cases hp0 : 0 ≤ p0
      · obtain ⟨p, rfl⟩ := Int.eq_ofNat_of_zero_le hp0
        have hpl : p + 4 ≤ b.size := by omega
        have hez : (b.extract p b.size).size = b.size - p := by simp
        have hsl : slotOf n (b.extract p b.size) < m := by rw [HM.out]; exact slotOf_lt n hn _
        have SC : Hid _ := fun (_ : Unit) => slot_any n hn (w1.heap.size + 1 + 1) (b.extract p b.size) (by omega) wr hL.words.c1
        have HNew : Hid (∀ sl, sl = slotOf n (b.extract p b.size) → ∀ k : Nat, (k : Int) = (p : Int) - 1 + 1 → k + 4 ≤ b.size → (fun j => if j = sl then p + 1 else f j) (slotOf n (b.extract k b.size)) = k + 1) := fun sl hsl k hk _ => by
          have : k = p := by omega
          subst this
          simp [hsl]
        generalize hsE : slotOf n (b.extract p b.size) = sl at *
        have HNew2 := HNew.out sl rfl
        have HN2 : Hid _ := HNew2
        clear HNew HNew2 hsE hez hfst
        go_wp2_with fail
        refine (SC.out ()).mono ?_
        rintro e w2 ⟨rfl, q1⟩
        have hL1 := hL.kept q1
        clear hL q1 SC
        have s1 := hL1.words.c3
        have s1' := hL1.words.c2
        have s2 := hL1.words.cf sl hsl
        have hfb := hL1.words.bf sl
        have n1 := hL1.words.cg p (by omega)
        have n2 := hL1.fn p
        have hL2 := hL1.setNext p (f sl) (by omega) hfb
        have hLd := (hL1.kept (Q.refl _).drew).setNext p (f sl) (by omega) hfb
        have n3 := hL1.ff sl
        have hpI : (p : Int) < (b.size : Int) := by omega
        have hsI : (sl : Int) < (m : Int) := by omega
        go_upto_region 7 with fail
        go_region_held3 (fun w' => w'.cell? ⟨w1.heap.size + 1 + 1, 3, none⟩ = some (.slice (some ⟨w1.heap.size, 0, none⟩) b.size b.size) ∧ w'.cell? ⟨w1.heap.size + 1 + 1, 2, none⟩ = some (.slice (some ⟨w1.heap.size + 1, 0, none⟩) m m) ∧ w'.cell? ⟨w1.heap.size + 1, sl, none⟩ = some (.int .u16 (f sl : Int))) (first | exact ⟨s1, s1', s2⟩ | exact ⟨hL2.words.c3, hL2.words.c2, hL2.words.cf sl hsl⟩ | exact ⟨hLd.words.c3, hLd.words.c2, hLd.words.cf sl hsl⟩) (fail)
        have m0 := hL2.words.c2
        have m1 := hL2.words.cf sl hsl
        have hcv : IntKind.u16.wrap ((p : Int) + 1) = (p : Int) + 1 := by simp [IntKind.wrap, IntKind.bits, IntKind.signed]; omega
        have hL3 := (hL2.setFirst sl (p + 1) hsl (by omega)).kept (Q.refl _).drew
        clear hL1 s1 s1' s2 n1 n2 hLd
        go_wp2_with fail
        go_roundw
        case rel => exact ⟨(p : Int) - 1, _, _, by go_num, by omega, by omega, by omega, hL3, HN2⟩
        case measure => simp [intOf]; omega
      · have HF : Hid (4 ≤ b.size → f (slotOf n b) = 1) := fun h4 => by
          have := hfst.out 0 (by have := hp1 h4; omega) (by omega)
          simpa using this
        clear hfst
        go_wp2_with fail
        go_ret
        exact ⟨rfl, ⟨w1.heap.size + 1, w1.heap.size, n, m, f, g, ⟨hn, HM.out⟩, hL.words, HF.out⟩, ⟨hL.below⟩⟩
end Go.Proofs.Ytekdenkllipehaa
