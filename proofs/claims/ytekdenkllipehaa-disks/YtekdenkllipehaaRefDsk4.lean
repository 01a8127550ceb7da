/-
  The document's disk: Remove.
-/
import Derived.Test.YtekdenkllipehaaRefDsk3
namespace Go.Proofs.Ytekdenkllipehaa
open Go.RowKit

/-- A call of the owner's has ended: his disk is D' now. -/
def Ended (tg : Tags) (o d : Nat) (D' : M.Dsk) (w w' : World) : Prop := ∃ (tg' : Tags) (ids' ps' : List Nat), (∀ k, k < w.heap.size → tg' k = tg k) ∧ DiskAt w' tg' o d D' ids' ps' ∧ Only o tg w w'

theorem Ended.same {tg : Tags} {o d : Nat} {D' : M.Dsk} {w w' : World} {ids ps : List Nat} (h : DiskAt w' tg o d D' ids ps) (ho : Only o tg w w') : Ended tg o d D' w w' := ⟨tg, ids, ps, fun _ _ => rfl, h, ho⟩

/-- A file that may be changed is there. -/
theorem changed_at {D E : M.Dsk} {nm new : ByteArray} {i : Nat} (hE : D.changed nm new = (E, i, 0)) : (∃ f, E.files[i]? = some f) ∧ E.files = D.files := by
  unfold M.Dsk.changed at hE
  split at hE
  · simp at hE
  · split at hE
    · simp at hE
    · rename_i k hk
      split at hE
      · simp at hE
      · obtain ⟨f, hf, _⟩ := M.place_some hk
        split at hE
        · simp at hE
        · rename_i E' hE'
          simp only [Prod.mk.injEq] at hE
          obtain ⟨rfl, rfl, _⟩ := hE
          unfold M.Dsk.dies at hE'
          split at hE'
          · simp only [Prod.mk.injEq] at hE'
            rw [← hE'.1]
            exact ⟨⟨f, hf⟩, rfl⟩
          · simp only [Prod.mk.injEq] at hE'
            rw [← hE'.1]
            exact ⟨⟨f, hf⟩, rfl⟩

set_option maxRecDepth 100000 in
set_option maxHeartbeats 800000 in
theorem refRemove (tg : Tags) (o d : Nat) (D : M.Dsk) (ids ps : List Nat) (nm : ByteArray) (hl : D.files.length ≤ 64) (hfu : D.fuse ≤ 9223372036854775807) (w : World) (h : DiskAt w tg o d D ids ps) :
    Calls Try.prog 79 #[.pointer (some ⟨d, 0, none⟩), .string nm] w fun e w' => e = .returned (.int .i64 ((D.remove nm).2 : Nat)) ∧ Ended tg o d (D.remove nm).1 w w' := by
  have HCh : Hid _ := fun (_ : Unit) => refChanged tg o d D ids ps nm M.one hl hfu w h
  have hone : M.one = ⟨#[97]⟩ := rfl
  clear h
  unfold M.Dsk.remove
  obtain ⟨⟨E, i, c⟩, hE⟩ : ∃ p, p = D.changed nm M.one := ⟨_, rfl⟩
  rw [← hE] at HCh
  simp only at HCh
  rw [hone] at HCh
  by_cases hc : c = 0
  · subst hc
    obtain ⟨_, hfs⟩ := changed_at hE.symm
    have hlE : E.files.length ≤ 64 := by rw [hfs]; exact hl
    have HW : Hid _ := fun W (hW : DiskAt W tg o d E ids ps) => refWithout tg o d E ids ps i hlE W hW
    simp only [← hE]
    clear hE hfs
    go_enter Try.func79, Try.ntmps79
    go_wp2_with fail
    refine (HCh.out ()).mono ?_
    rintro e w1 ⟨rfl, hD1, hO1⟩
    have HC : Hid _ := fun (_ : Unit) => HW.out w1 hD1
    have HO1 : Hid _ := hO1
    clear hD1 hO1
    go_wp2_with fail
    refine (HC.out ()).mono ?_
    rintro e w2 ⟨rfl, hD2, hO2⟩
    have HEn : Hid (Ended tg o d ⟨E.cap, E.files.eraseIdx i, E.dead, E.fuse⟩ w w2) := ⟨_, _, _, fun k hk => Tags.more_old (Nat.lt_of_lt_of_le hk HO1.out.size), hD2, HO1.out.trans hO2⟩
    clear hD2 hO2
    go_wp2_with fail
    go_ret
    exact ⟨rfl, HEn.out⟩
  · simp only [← hE]
    clear hE
    have hcb : ((c : Int) == 0) = false := by simpa using hc
    go_enter Try.func79, Try.ntmps79
    go_wp2_with fail
    refine (HCh.out ()).mono ?_
    rintro e w1 ⟨rfl, hD1, hO1⟩
    have HEn : Hid _ := Ended.same hD1 hO1
    clear hD1 hO1
    go_wp2_with fail
    go_ret
    exact ⟨rfl, HEn.out⟩
end Go.Proofs.Ytekdenkllipehaa
