/-
  Disks as plain data: the document's calls. Nothing of the program is named here.
-/
import Derived.WalkKit
namespace Go.Proofs.Ytekdenkllipehaa.M

/-- A file. -/
structure Fil where
  name : ByteArray
  bytes : List UInt8
  synced : Nat

/-- A disk: its files by rising names. -/
structure Dsk where
  cap : Nat
  files : List Fil
  dead : Bool
  fuse : Nat

def named (nm : ByteArray) (f : Fil) : Bool := f.name.toList == nm.toList
/-- A file's place among others. -/
def place (fs : List Fil) (nm : ByteArray) : Option Nat := fs.findIdx? (named nm)
/-- Bytes of all files together. -/
def total (fs : List Fil) : Nat := (fs.map fun f => f.bytes.length).sum
def okName (nm : ByteArray) : Bool := decide (1 ≤ nm.size ∧ nm.size ≤ 32)

/-- Does the file x stand behind the name nm? -/
def beyond (nm : ByteArray) (x : Fil) : Bool := !(Op.bytesLess x.name.toList nm.toList || x.name.toList == nm.toList)
/-- The files with one more, in its place. -/
def put (fs : List Fil) (f : Fil) : List Fil := fs.takeWhile (fun x => !beyond f.name x) ++ f :: fs.dropWhile (fun x => !beyond f.name x)

/-- A call that would change something: the disk behind it, and whether it dies there. -/
def Dsk.dies (D : Dsk) : Dsk × Bool := if 0 < D.fuse then ({ D with fuse := D.fuse - 1, dead := decide (D.fuse - 1 = 0) }, decide (D.fuse - 1 = 0)) else (D, D.dead)

def Dsk.append (D : Dsk) (nm : ByteArray) (s : List UInt8) : Dsk × Nat :=
  if D.dead = true then (D, 10)
  else if okName nm = false then (D, 7)
  else if D.cap < total D.files + s.length ∨ (place D.files nm = none ∧ 64 ≤ D.files.length) then (D, 9)
  else match D.dies with
  | (E, true) => (E, 10)
  | (E, false) =>
    match place E.files nm with
    | some i => ({ E with files := E.files.modify i fun f => { f with bytes := f.bytes ++ s } }, 0)
    | none => ({ E with files := put E.files ⟨nm, s, 0⟩ }, 0)

/-- What forbids a change of a file that is there, or its place. -/
def Dsk.changed (D : Dsk) (nm new : ByteArray) : Dsk × (Nat × Nat) :=
  if D.dead = true then (D, 0, 10)
  else match place D.files nm with
  | none => (D, 0, 7)
  | some i =>
    if okName new = false then (D, 0, 7)
    else match D.dies with
    | (E, true) => (E, 0, 10)
    | (E, false) => (E, i, 0)

def one : ByteArray := ⟨#[97]⟩

def Dsk.sync (D : Dsk) (nm : ByteArray) : Dsk × Nat :=
  match D.changed nm one with
  | (E, i, 0) => ({ E with files := E.files.modify i fun f => { f with synced := f.bytes.length } }, 0)
  | (E, _, c) => (E, c)

def Dsk.remove (D : Dsk) (nm : ByteArray) : Dsk × Nat :=
  match D.changed nm one with
  | (E, i, 0) => ({ E with files := E.files.eraseIdx i }, 0)
  | (E, _, c) => (E, c)

def Dsk.rename (D : Dsk) (old nm : ByteArray) : Dsk × Nat :=
  match D.changed old nm with
  | (E, i, 0) =>
    if old.toList == nm.toList then (E, 0)
    else match E.files[i]? with
    | none => (E, 0)
    | some f =>
      let fs := E.files.eraseIdx i
      let gs := match place fs nm with | some k => fs.eraseIdx k | none => fs
      ({ E with files := put gs { f with name := nm } }, 0)
  | (E, _, c) => (E, c)

def Dsk.read (D : Dsk) (nm : ByteArray) : List UInt8 × Nat :=
  if D.dead = true then ([], 10)
  else match place D.files nm with
  | none => ([], 7)
  | some i => (((D.files[i]?).map fun f => f.bytes).getD [], 0)

def Dsk.names (D : Dsk) : List ByteArray := if D.dead = true then [] else D.files.map fun f => f.name

def Dsk.arm (D : Dsk) (n : Int) : Dsk × Nat := if n < 0 then (D, 8) else ({ D with fuse := n.toNat }, 0)

/-- How many bytes that are not synced stay. -/
def stay (keep : List Int) (i loose : Nat) : Nat := match keep[i]? with | some k => if 0 < k then k.toNat % (loose + 1) else 0 | none => 0
def crashed (keep : List Int) (i : Nat) (f : Fil) : Fil := ⟨f.name, f.bytes.take (f.synced + stay keep i (f.bytes.length - f.synced)), f.synced + stay keep i (f.bytes.length - f.synced)⟩
def Dsk.crash (D : Dsk) (keep : List Int) : Dsk := { D with files := D.files.mapIdx (crashed keep), dead := false, fuse := 0 }

def Dsk.flip (D : Dsk) (nm : ByteArray) (at_ mask : Int) : Dsk × Nat :=
  match place D.files nm with
  | none => (D, 7)
  | some i =>
    match D.files[i]? with
    | none => (D, 7)
    | some f =>
      if at_ < 0 ∨ (f.bytes.length : Int) ≤ at_ ∨ mask < 0 ∨ 255 < mask then (D, 8)
      else ({ D with files := D.files.modify i fun f => { f with bytes := f.bytes.set at_.toNat (f.bytes.getD at_.toNat 0 ^^^ UInt8.ofNat mask.toNat) } }, 0)

/-- What holds of every disk that the calls make. -/
structure Dsk.Good (D : Dsk) : Prop where
  cap : D.cap ≤ 1048576
  few : D.files.length ≤ 64
  fits : total D.files ≤ D.cap
  synced : ∀ f ∈ D.files, f.synced ≤ f.bytes.length
  name : ∀ f ∈ D.files, okName f.name = true

theorem total_mem : ∀ {fs : List Fil} {f : Fil}, f ∈ fs → f.bytes.length ≤ total fs
  | x :: fs, f, h => by
    simp only [total, List.map_cons, List.sum_cons]
    rcases List.mem_cons.1 h with rfl | h
    · omega
    · have := total_mem h
      simp only [total] at this
      omega

theorem Dsk.Good.small {D : Dsk} (h : D.Good) {f : Fil} (hf : f ∈ D.files) : f.bytes.length ≤ 1048576 := Nat.le_trans (total_mem hf) (Nat.le_trans h.fits h.cap)

theorem place_some {fs : List Fil} {nm : ByteArray} {i : Nat} (h : place fs nm = some i) : ∃ f, fs[i]? = some f ∧ named nm f = true ∧ ∀ k, k < i → ∀ g, fs[k]? = some g → named nm g = false := by
  unfold place at h
  rw [List.findIdx?_eq_some_iff_getElem] at h
  obtain ⟨hi, h1, h2⟩ := h
  refine ⟨fs[i], List.getElem?_eq_getElem hi, h1, fun k hk g hg => ?_⟩
  have := h2 k hk
  rw [List.getElem?_eq_getElem (by omega)] at hg
  obtain rfl := Option.some.inj hg
  simpa using this

theorem place_none {fs : List Fil} {nm : ByteArray} (h : place fs nm = none) : ∀ f ∈ fs, named nm f = false := by
  unfold place at h
  rw [List.findIdx?_eq_none_iff] at h
  exact h

theorem place_at {fs : List Fil} {nm : ByteArray} {i : Nat} {f : Fil} (hi : fs[i]? = some f) (hf : named nm f = true) (hno : ∀ k, k < i → ∀ g, fs[k]? = some g → named nm g = false) : place fs nm = some i := by
  unfold place
  rw [List.findIdx?_eq_some_iff_getElem]
  obtain ⟨hl, rfl⟩ := List.getElem?_eq_some_iff.1 hi
  exact ⟨hl, hf, fun j hj => by simpa using hno j hj _ (List.getElem?_eq_getElem (by omega))⟩

theorem place_not {fs : List Fil} {nm : ByteArray} (h : ∀ (k : Nat) (g : Fil), fs[k]? = some g → named nm g = false) : place fs nm = none := by
  unfold place
  rw [List.findIdx?_eq_none_iff]
  intro f hf
  obtain ⟨k, hk⟩ := List.getElem?_of_mem hf
  exact h k f hk
end Go.Proofs.Ytekdenkllipehaa.M
