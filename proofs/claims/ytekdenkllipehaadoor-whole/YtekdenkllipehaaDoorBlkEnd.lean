/-
  What Build and Parse answer.
-/
import Derived.Test.YtekdenkllipehaaDoorBlk
import Derived.Test.YtekdenkllipehaaDoorRecMem
namespace Go.Proofs.YtekdenkllipehaaDoor
open Go.RowKit

/-- Build's answer. -/
def builtEnd (o : Option (List UInt8)) : Ending :=
  match o with
  | none => .returned (.tuple #[.string ⟨#[]⟩, .int .i64 6])
  | some t => .returned (.tuple #[.string ⟨(M.sealed t).toArray⟩, .int .i64 0])

theorem builtEnd_none {o : Option (List UInt8)} (h : o = none) : Ending.returned (.tuple #[.string ⟨#[]⟩, .int .i64 6]) = builtEnd o := by rw [h]; rfl

theorem wf_small {x : Int} (h0 : 0 ≤ x) (h : x < 72057594037927936) : (Lit.int .i64 x).wf = true := by
  have e1 : IntKind.i64.min = -9223372036854775808 := by decide
  have e2 : IntKind.i64.max = 9223372036854775807 := by decide
  simp only [Lit.wf, e1, e2, Bool.and_eq_true, decide_eq_true_eq]
  omega

/-- Parse's answer on a text that is well sealed: the records that it is the text of, in a row of their own, or ErrForm where it is the text of none. -/
def Parsed (T : ByteArray) (w : World) (e : Ending) (w' : World) : Prop :=
  (∃ (l : List Rec) (ao : Option Addr) (cap base : Nat), e = .returned (.tuple #[.slice ao l.length cap, .int .i64 0]) ∧ plainText l = some T.data.toList ∧ w.heap.size ≤ base ∧ w'.ownsRow base 30 4 (.slice ao l.length cap) l.length (recCells l))
  ∨ (e = .returned (.tuple #[.slice none 0 0, .int .i64 2]) ∧ ∀ rs, plainText rs ≠ some T.data.toList)

/-- A text under its seal. -/
def sealText (t : List UInt8) : ByteArray := ⟨(M.sealed t).toArray⟩

theorem sealText_inj {a b : List UInt8} (h : sealText a = sealText b) : a = b := by
  have h1 : M.sealed a = M.sealed b := by
    have := congrArg (fun x : ByteArray => x.data.toList) h
    simpa [sealText] using this
  have hl : a.length = b.length := by
    have := congrArg List.length h1
    rw [M.sealed_length, M.sealed_length] at this
    omega
  unfold M.sealed at h1
  exact (List.append_inj h1 hl).1

/-- Parse, whatever the text. -/
def ParsedAny (s : ByteArray) (w : World) (e : Ending) (w' : World) : Prop :=
  (s.size < 4 ∧ e = .returned (.tuple #[.slice none 0 0, .int .i64 2]))
  ∨ (4 ≤ s.size ∧ (∀ t, sealText t ≠ s) ∧ e = .returned (.tuple #[.slice none 0 0, .int .i64 3]))
  ∨ (∃ T : ByteArray, sealText T.data.toList = s ∧ Parsed T w e w')
end Go.Proofs.YtekdenkllipehaaDoor
