/-
  Records, as plain data and in memory.
-/
import Derived.Test.YtekdenkllipehaaDoorMath
import Derived.Test.YtekdenkllipehaaDoorKeep
namespace Go.Proofs.YtekdenkllipehaaDoor
open Go.RowKit

/-- A record. -/
structure Rec where
  key : ByteArray
  stamp : Int
  kind : Int
  body : ByteArray

/-- A record as a value. -/
def Rec.val (r : Rec) : Value := .agg #[.string r.key, .int .i64 r.stamp, .int .i64 r.kind, .string r.body]

/-- A record that the language can hold. -/
def Rec.Wf (r : Rec) : Prop := r.key.size ≤ 140737488351232 ∧ r.body.size ≤ 140737488351232 ∧ (Lit.int .i64 r.stamp).wf = true ∧ (Lit.int .i64 r.kind).wf = true

/-- Is a record within its bounds? -/
def Rec.fits (r : Rec) : Bool := decide (1 ≤ r.key.size ∧ r.key.size ≤ 64 ∧ r.body.size ≤ 4200 ∧ 0 ≤ r.stamp ∧ r.stamp ≤ 1099511627776 ∧ 0 ≤ r.kind ∧ r.kind ≤ 2)

/-- The records lie in the block b, from the cell off on. -/
def RecsAt (w : World) (b off : Nat) (rs : List Rec) : Prop := ∀ (i : Nat) (r : Rec), rs[i]? = some r →
  w.cell? ⟨b, off + i * 4, none⟩ = some (.string r.key) ∧ w.cell? ⟨b, off + i * 4 + 1, none⟩ = some (.int .i64 r.stamp) ∧
  w.cell? ⟨b, off + i * 4 + 2, none⟩ = some (.int .i64 r.kind) ∧ w.cell? ⟨b, off + i * 4 + 3, none⟩ = some (.string r.body)

/-- How many bytes two texts begin with alike. -/
def common : List UInt8 → List UInt8 → Nat
  | a :: l, b :: m => if a = b then common l m + 1 else 0
  | _, _ => 0

theorem common_le (a b : List UInt8) : common a b ≤ a.length ∧ common a b ≤ b.length := by
  induction a generalizing b with
  | nil => simp [common]
  | cons x a ih =>
    cases b with
    | nil => simp [common]
    | cons y b =>
      simp only [common]
      split
      · have := ih b; simp; omega
      · simp

theorem common_drop (a b : List UInt8) (k : Nat) (ha : k ≤ a.length) (hb : k ≤ b.length) (h : a.take k = b.take k) : common a b = k + common (a.drop k) (b.drop k) := by
  induction k generalizing a b with
  | zero => simp
  | succ k ih =>
    cases a with
    | nil => simp at ha
    | cons x a =>
      cases b with
      | nil => simp at hb
      | cons y b =>
        simp only [List.take_succ_cons, List.cons.injEq] at h
        obtain ⟨rfl, h⟩ := h
        simp only [common, if_true, List.drop_succ_cons]
        rw [ih a b (by simpa using ha) (by simpa using hb) h]
        omega

theorem common_stop {a b : List UInt8} {k : Nat} (ha : k ≤ a.length) (hb : k ≤ b.length) (h : a.take k = b.take k) (hs : a.length = k ∨ b.length = k ∨ a[k]? ≠ b[k]?) : common a b = k := by
  rw [common_drop a b k ha hb h]
  rcases hs with hs | hs | hs
  · rw [List.drop_of_length_le (by omega)]; simp [common]
  · rw [List.drop_of_length_le (l := b) (by omega)]; cases a.drop k <;> simp [common]
  · cases hda : a.drop k with
    | nil => simp [common]
    | cons x a' =>
      cases hdb : b.drop k with
      | nil => simp [common]
      | cons y b' =>
        have e1 : a[k]? = some x := by have := congrArg (fun l : List UInt8 => l[0]?) hda; simpa using this
        have e2 : b[k]? = some y := by have := congrArg (fun l : List UInt8 => l[0]?) hdb; simpa using this
        have hne : ¬ x = y := fun e => hs (by rw [e1, e2, e])
        simp [common, hne]
end Go.Proofs.YtekdenkllipehaaDoor
