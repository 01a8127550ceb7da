/-
  The landed disk: Rename.
-/
import Derived.Test.YtekdenkllipehaaLRead
import Derived.Test.YtekdenkllipehaaClone
namespace Go.Proofs.Ytekdenkllipehaa
open Go.RowKit

theorem LFileAt.named {w : World} {tg : Tags} {o p id : Nat} {f : M.Fil} {bo : Option Addr} {bc : Nat} (h : LFileAt w tg o p id f bo bc) (nm : ByteArray) : LFileAt w tg o p id { f with name := nm } bo bc := ⟨h.c0, h.c1, h.fr, h.own, h.tp, h.tb, h.top⟩

theorem nodup_set {l : List Nat} (h : l.Nodup) {k x : Nat} (hx : x ∉ l) : (l.set k x).Nodup := by
  rw [List.nodup_iff_pairwise_ne, List.pairwise_iff_getElem] at *
  intro i j hi hj hij
  simp only [List.length_set] at hi hj
  rw [List.getElem_set, List.getElem_set]
  split
  · split
    · omega
    · intro e; exact hx (e ▸ List.getElem_mem hj)
  · split
    · intro e; exact hx (e ▸ List.getElem_mem hi)
    · exact h i j hi hj hij

theorem rename_chg {D : M.Dsk} (hD : D.Fine) (old nm : ByteArray) : D.rename old nm = if (D.chg (codeOf ((M.place D.files old).isSome && M.okName nm))).2 = 0 then (match D.files[(M.place D.files old).getD 0]? with | some f => ({ (D.chg (codeOf ((M.place D.files old).isSome && M.okName nm))).1 with files := M.moved D.files ((M.place D.files old).getD 0) f nm }, 0) | none => ((D.chg (codeOf ((M.place D.files old).isSome && M.okName nm))).1, 0)) else D.chg (codeOf ((M.place D.files old).isSome && M.okName nm)) := by
  rw [M.rename_moved hD, changed_chg]
  have hf := chg_files D (codeOf ((M.place D.files old).isSome && M.okName nm))
  obtain ⟨⟨E, c⟩, hE⟩ : ∃ p, D.chg (codeOf ((M.place D.files old).isSome && M.okName nm)) = p := ⟨_, rfl⟩
  rw [hE] at hf ⊢
  simp only at hf ⊢
  by_cases hc : c = 0
  · subst hc
    simp only [if_true]
    rw [hf]
    cases D.files[(M.place D.files old).getD 0]? <;> rfl
  · simp only [if_neg hc]

/-- Files with one more name, in memory. -/
theorem LDiskAt.putNew {w w' : World} {tg : Tags} {o d : Nat} {D : M.Dsk} {ids ps : List Nat} (h : LDiskAt w tg o d D ids ps) {p id : Nat} {f : M.Fil} {bo : Option Addr} {bc : Nat} (hF : LFileAt w tg o p id f bo bc) (hid : id ∉ ids) (hpl : M.place D.files f.name = none)
    (hn : MapNew tg o d (insAt (namesOf D.files) (M.lowAt D.files f.name) f.name) (insAt ps (M.lowAt D.files f.name) p) w w') :
    ∃ tg' : Tags, (∀ k, k < w.heap.size → tg' k = tg k) ∧ LDiskAt w' tg' o d ⟨D.cap, M.put D.files f, D.dead, D.fuse⟩ (insAt ids (M.lowAt D.files f.name) id) (insAt ps (M.lowAt D.files f.name) p) ∧ MapOnly tg o d w w' := by
  obtain ⟨tg', h1, h2, h3⟩ := hn
  have hle := M.lowAt_le D.files f.name
  have hput : M.put D.files f = insAt D.files (M.lowAt D.files f.name) f := (M.put_low hpl).1
  have hlI := h.lenI
  have hlP : ps.length = D.files.length := by have := h.map.len; simpa using this
  rw [hput]
  refine ⟨tg', h1, h.remap h3 h1 ?_ (insAt_nodup h.nodup hid) (by rw [insAt_length (by omega), insAt_length hle]; omega) (fun j q i g e1 e2 e3 => ?_), h3⟩
  · have : namesOf (insAt D.files (M.lowAt D.files f.name) f) = insAt (namesOf D.files) (M.lowAt D.files f.name) f.name := (insAt_map (fun f : M.Fil => f.name) _ _ _).symm
    rw [this]
    exact h2
  · rcases insAt_get (by omega) e1 with ⟨rfl, rfl⟩ | ⟨hj, e1⟩
    · rcases insAt_get (by omega) e2 with ⟨_, rfl⟩ | ⟨hj, _⟩
      · rcases insAt_get hle e3 with ⟨_, rfl⟩ | ⟨hj, _⟩
        · exact ⟨bo, bc, hF⟩
        · exact absurd rfl hj
      · exact absurd rfl hj
    · rcases insAt_get (by omega) e2 with ⟨e, _⟩ | ⟨_, e2⟩
      · exact absurd e hj
      · rcases insAt_get hle e3 with ⟨e, _⟩ | ⟨_, e3⟩
        · exact absurd e hj
        · exact h.file _ q i g e1 e2 e3

/-- A file in place of another of that name. -/
theorem LDiskAt.putThere {w w' : World} {tg : Tags} {o d : Nat} {D : M.Dsk} {ids ps : List Nat} (h : LDiskAt w tg o d D ids ps) {p id k : Nat} {f : M.Fil} {bo : Option Addr} {bc : Nat} (hF : LFileAt w tg o p id f bo bc) (hid : id ∉ ids) (hpl : M.place D.files f.name = some k)
    (hn : MapNew tg o d (namesOf D.files) (ps.set k p) w w') :
    ∃ tg' : Tags, (∀ k, k < w.heap.size → tg' k = tg k) ∧ LDiskAt w' tg' o d ⟨D.cap, D.files.set k f, D.dead, D.fuse⟩ (ids.set k id) (ps.set k p) ∧ MapOnly tg o d w w' := by
  obtain ⟨tg', h1, h2, h3⟩ := hn
  obtain ⟨x, hx, hxn, _⟩ := M.place_some hpl
  have hxn := M.named_eq.1 hxn
  refine ⟨tg', h1, h.remap h3 h1 ?_ (nodup_set h.nodup hid) (by simpa using h.lenI) (fun j q i g e1 e2 e3 => ?_), h3⟩
  · have : namesOf (D.files.set k f) = namesOf D.files := M.set_names hx hxn.symm
    rw [this]
    exact h2
  · by_cases hj : j = k
    · subst hj
      have l1 : j < ps.length := by have := (List.getElem?_eq_some_iff.1 e1).1; simpa using this
      have l2 : j < ids.length := by have := (List.getElem?_eq_some_iff.1 e2).1; simpa using this
      have l3 : j < D.files.length := by have := (List.getElem?_eq_some_iff.1 e3).1; simpa using this
      rw [List.getElem?_set_self l1] at e1
      rw [List.getElem?_set_self l2] at e2
      rw [List.getElem?_set_self l3] at e3
      obtain rfl := Option.some.inj e1
      obtain rfl := Option.some.inj e2
      obtain rfl := Option.some.inj e3
      exact ⟨bo, bc, hF⟩
    · rw [List.getElem?_set_ne (Ne.symm hj)] at e1 e2 e3
      exact h.file j q i g e1 e2 e3

set_option maxRecDepth 100000 in
set_option maxHeartbeats 1600000 in
/-- A Rename that does not go. -/
theorem diskRename_no (tg : Tags) (o d : Nat) (D : M.Dsk) (ids ps : List Nat) (hD : D.Fine) (old nm : ByteArray) (hno : (D.chg (codeOf ((M.place D.files old).isSome && M.okName nm))).2 ≠ 0) (w : World) (h : LDiskAt w tg o d D ids ps) :
    Calls Try.prog 76 #[.pointer (some ⟨d, 0, none⟩), .string old, .string nm] w fun e w' => e = .returned (.int .i64 ((D.chg (codeOf ((M.place D.files old).isSome && M.okName nm))).2 : Nat)) ∧ LEnded tg o d (D.chg (codeOf ((M.place D.files old).isSome && M.okName nm))).1 w w' := by
  have HG : Hid _ := fun (_ : Unit) => mapGet tg o d D.files ps hD.sorted hD.good.few old w h.map
  have HC : Hid _ := fun (W : World) (hW : LDiskAt W tg o d D ids ps) => diskChange tg o d D ids ps (codeOf ((M.place D.files old).isSome && M.okName nm)) hD.fuse W hW
  have HN : Hid _ := fun (W : World) => diskIsName nm W
  have HD : Hid (LDiskAt w tg o d D ids ps) := h
  obtain ⟨⟨E, c⟩, hE⟩ : ∃ p, D.chg (codeOf ((M.place D.files old).isSome && M.okName nm)) = p := ⟨_, rfl⟩
  rw [hE] at HC hno ⊢
  simp only at HC hno ⊢
  have hcb : ((c : Int) == 0) = false := by rw [beq_eq_false_iff_ne]; omega
  clear h hE
  cases hp : M.place D.files old with
  | none =>
    rw [hp] at HG HC
    simp only [Option.isSome_none, Bool.false_and] at HC
    go_enter Try.func76, Try.ntmps76
    go_wp2_with fail
    refine (HG.out ()).mono ?_
    rintro e w1 ⟨rfl, q1⟩
    have HC1 : Hid _ := fun (_ : Unit) => HC.out w1 (HD.out.kept q1)
    simp only [ptrAt, Option.isSome_none]
    clear HG HC
    go_wp2_with fail
    refine (diskNamed false w1).mono ?_
    rintro e w2 ⟨rfl, hw2⟩
    subst hw2
    go_wp2_with fail
    refine (HC1.out ()).mono ?_
    rintro e w3 ⟨rfl, hL, hO⟩
    have HEn : Hid (LEnded tg o d E w w3) := LEnded.same hL ((Only.of_q q1).trans hO)
    clear hL hO HC1
    go_wp2_with fail
    go_ret
    exact ⟨rfl, HEn.out⟩
  | some i =>
    rw [hp] at HG HC
    obtain ⟨f, p, id, e1, e2, e3, e4, _⟩ := place_ptr HD.out hp
    rw [e4] at HG
    simp only [Option.isSome_some, Bool.true_and] at HC
    clear e1 e2 e3 e4 hp
    go_enter Try.func76, Try.ntmps76
    go_wp2_with fail
    refine (HG.out ()).mono ?_
    rintro e w1 ⟨rfl, q1⟩
    simp only [Option.isSome_some]
    clear HG
    go_wp2_with fail
    refine (HN.out w1).mono ?_
    rintro e w2 ⟨rfl, q2⟩
    have HC1 : Hid _ := fun (_ : Unit) => HC.out w2 (HD.out.kept (q1.trans q2))
    clear HC HN
    go_wp2_with fail
    refine (diskNamed (M.okName nm) w2).mono ?_
    rintro e w3 ⟨rfl, hw2⟩
    subst hw2
    go_wp2_with fail
    refine (HC1.out ()).mono ?_
    rintro e w4 ⟨rfl, hL, hO⟩
    have HEn : Hid (LEnded tg o d E w w4) := LEnded.same hL ((Only.of_q (q1.trans q2)).trans hO)
    clear hL hO HC1
    go_wp2_with fail
    go_ret
    exact ⟨rfl, HEn.out⟩

/-- A file put into a disk's map under a name, whether there is one of that name or not. -/
theorem putAny (tg tg1 : Tags) (o d : Nat) (E : M.Dsk) (hE : E.Fine) (ids1 ps1 : List Nat) (i p id : Nat) (f : M.Fil) (nm : ByteArray) (bo : Option Addr) (bc : Nat) (w w5 : World)
    (h5 : LDiskAt w5 tg1 o d ⟨E.cap, E.files.eraseIdx i, E.dead, E.fuse⟩ ids1 ps1) (hF : LFileAt w5 tg1 o p id f bo bc) (hid : id ∉ ids1) (ht : ∀ k, k < w.heap.size → tg1 k = tg k) (hO : Only o tg w w5) (W : World) (hq : Q w5 W) :
    Calls Try.prog 98 #[.pointer (some ⟨d, 1, none⟩), .string nm, .pointer (some ⟨p, 0, none⟩)] W fun e w' => e = .returned (.tuple #[]) ∧ LEnded tg o d ⟨E.cap, M.moved E.files i f nm, E.dead, E.fuse⟩ w w' := by
  have hW := h5.kept hq
  have hFW : LFileAt W tg1 o p id { f with name := nm } bo bc := (hF.keep hq.below.size (fun _ _ => rfl) (fun k hk _ => hq.below.block k hk)).named nm
  have hOW : Only o tg w W := ⟨(Only.of_q (o := o) (tg := tg) hq).os.trans hO.os, (Only.of_q (o := o) (tg := tg) hq).tape.trans hO.tape, (Only.of_q (o := o) (tg := tg) hq).output.trans hO.output, Nat.le_trans hO.size hq.below.size, fun k hk hn => (hq.below.block k (Nat.lt_of_lt_of_le hk hO.size)).trans (hO.block k hk hn)⟩
  have hfin : ∀ {w' : World} {D' : M.Dsk}, (∃ (tg' : Tags) (ids' ps' : List Nat), (∀ k, k < W.heap.size → tg' k = tg1 k) ∧ LDiskAt w' tg' o d D' ids' ps' ∧ MapOnly tg1 o d W w') → LEnded tg o d D' w w' := fun ⟨tg', ids', ps', a1, a2, a3⟩ =>
    ⟨tg', ids', ps', fun k hk => (a1 k (Nat.lt_of_lt_of_le hk hOW.size)).trans (ht k hk), a2, ⟨a3.os.trans hOW.os, a3.tape.trans hOW.tape, a3.output.trans hOW.output, Nat.le_trans hOW.size a3.size, fun k hk hn => (a3.only.block k (Nat.lt_of_lt_of_le hk hOW.size) (by rw [ht k hk]; exact hn)).trans (hOW.block k hk hn)⟩⟩
  have hs := hE.sorted.erase i
  have hl : (E.files.eraseIdx i).length ≤ 64 := by have := (List.eraseIdx_sublist E.files i).length_le; have := hE.good.few; omega
  cases hp : M.place (E.files.eraseIdx i) nm with
  | some k =>
    refine (mapPut_there tg1 o d (E.files.eraseIdx i) ps1 hs hl nm p k hp W hW.map).mono ?_
    rintro e w' ⟨rfl, hn⟩
    obtain ⟨tg', a1, a2, a3⟩ := hW.putThere hFW hid hp hn
    have : M.moved E.files i f nm = (E.files.eraseIdx i).set k { f with name := nm } := by unfold M.moved; rw [hp]
    rw [this]
    exact ⟨rfl, hfin ⟨tg', _, _, a1, a2, a3⟩⟩
  | none =>
    refine (mapPut_new tg1 o d (E.files.eraseIdx i) ps1 hs hl nm p hp W hW.map).mono ?_
    rintro e w' ⟨rfl, hn⟩
    obtain ⟨tg', a1, a2, a3⟩ := hW.putNew hFW hid hp hn
    have : M.moved E.files i f nm = M.put (E.files.eraseIdx i) { f with name := nm } := by unfold M.moved; rw [hp]
    rw [this]
    exact ⟨rfl, hfin ⟨tg', _, _, a1, a2, a3⟩⟩

set_option maxRecDepth 100000 in
set_option maxHeartbeats 1600000 in
/-- A Rename that goes. -/
theorem diskRename_yes (tg : Tags) (o d : Nat) (D : M.Dsk) (ids ps : List Nat) (hD : D.Fine) (old nm : ByteArray) (i : Nat) (f : M.Fil) (E : M.Dsk) (hp : M.place D.files old = some i) (hf : D.files[i]? = some f) (hok : M.okName nm = true) (hE : D.chg (codeOf true) = (E, 0)) (w : World) (h : LDiskAt w tg o d D ids ps) :
    Calls Try.prog 76 #[.pointer (some ⟨d, 0, none⟩), .string old, .string nm] w fun e w' => e = .returned (.int .i64 0) ∧ LEnded tg o d ⟨E.cap, M.moved D.files i f nm, E.dead, E.fuse⟩ w w' := by
  have HG : Hid _ := fun (_ : Unit) => mapGet tg o d D.files ps hD.sorted hD.good.few old w h.map
  have HC : Hid _ := fun (W : World) (hW : LDiskAt W tg o d D ids ps) => diskChange tg o d D ids ps (codeOf true) hD.fuse W hW
  rw [hE] at HC
  have hfe : E.files = D.files := by have := chg_files D (codeOf true); rw [hE] at this; exact this
  have hEF : E.Fine := by have := hD.chg (codeOf true); rw [hE] at this; exact this
  have hfE : E.files[i]? = some f := by rw [hfe]; exact hf
  have HDr : Hid _ := fun (W : World) (hW : LDiskAt W tg o d E ids ps) => mapDrop tg o d E.files ps hEF.sorted hEF.good.few old i (by rw [hfe]; exact hp) W hW.map
  have HN : Hid _ := fun (W : World) => diskIsName nm W
  rw [hok] at HN
  obtain ⟨f', p, id, e1, e2, e3, e4, _⟩ := place_ptr h hp
  rw [hp, e4] at HG
  have HD : Hid (LDiskAt w tg o d D ids ps) := h
  have hlim : nm.size ≤ 281474976710656 := by
    unfold M.okName at hok
    simp at hok
    omega
  have HId : Hid (id ∉ ids.eraseIdx i) := erase_notin h.nodup e3
  have HP : Hid (ps[i]? = some p ∧ ids[i]? = some id) := ⟨e2, e3⟩
  rw [← hfe]
  have HX : Hid (E.Fine ∧ E.files[i]? = some f) := ⟨hEF, hfE⟩
  clear h hE hp hf hok hfe hEF hfE e1 e2 e3 e4
  go_enter Try.func76, Try.ntmps76
  go_wp2_with fail
  refine (HG.out ()).mono ?_
  rintro e w1 ⟨rfl, q1⟩
  simp only [Option.isSome_some]
  clear HG
  go_wp2_with fail
  refine (HN.out w1).mono ?_
  rintro e w2 ⟨rfl, q2⟩
  have HC1 : Hid _ := fun (_ : Unit) => HC.out w2 (HD.out.kept (q1.trans q2))
  clear HC HN
  go_wp2_with fail
  refine (diskNamed true w2).mono ?_
  rintro e w3 ⟨rfl, hw2⟩
  subst hw2
  go_wp2_with fail
  refine (HC1.out ()).mono ?_
  rintro e w4 ⟨rfl, hL, hO⟩
  have HC2 : Hid _ := fun (_ : Unit) => HDr.out w4 hL
  have HL : Hid _ := hL
  have HO : Hid (Only o tg w w4) := (Only.of_q (q1.trans q2)).trans hO
  clear hL hO HC1 HDr
  go_wp2_with fail
  refine (HC2.out ()).mono ?_
  rintro e w5 ⟨rfl, hN⟩
  obtain ⟨tg1, a1, a2, a3⟩ := HL.out.erased i hN
  obtain ⟨bo, bc, hF⟩ := HL.out.file i p id f HP.out.1 HP.out.2 HX.out.2
  have hF5 : LFileAt w5 tg1 o p id f bo bc := hF.keep a3.size a1 (fun k hk e => a3.block k hk (by rcases e with e | e <;> exact tag_ne e (by omega)) (by rcases e with e | e <;> exact tag_ne e (by omega)) (by rcases e with e | e <;> exact tag_ne e (by omega)))
  have HPut : Hid _ := fun (W : World) (hq : Q w5 W) => putAny tg tg1 o d E HX.out.1 (ids.eraseIdx i) (ps.eraseIdx i) i p id f nm bo bc w w5 a2 hF5 HId.out (fun k hk => a1 k (Nat.lt_of_lt_of_le hk HO.out.size)) (HO.out.trans a3.only) W hq
  clear a1 a2 a3 hF hF5 HC2 HL HO HId HP HX hN
  go_upto_region 5 with fail
  go_region_held3 (fun _ => True) (exact trivial)
    (first
      | (go_at_call 94; refine (clone_any nm _ hlim).mono ?_; rintro e w6 ⟨rfl, b6⟩; have hS6 : True := trivial)
      | (go_at_call 98; refine (HPut.out w6 (((Q.refl w5).drew).trans ⟨b6⟩)).mono ?_; rintro e w7 ⟨rfl, hEn⟩; have HEn : Hid _ := hEn; clear hEn))
  go_wp2_with fail
  go_ret
  exact ⟨rfl, HEn.out⟩

theorem diskRename (tg : Tags) (o d : Nat) (D : M.Dsk) (ids ps : List Nat) (hD : D.Fine) (old nm : ByteArray) (w : World) (h : LDiskAt w tg o d D ids ps) :
    Calls Try.prog 76 #[.pointer (some ⟨d, 0, none⟩), .string old, .string nm] w fun e w' => e = .returned (.int .i64 ((D.rename old nm).2 : Nat)) ∧ LEnded tg o d (D.rename old nm).1 w w' := by
  rw [rename_chg hD]
  by_cases hc : (D.chg (codeOf ((M.place D.files old).isSome && M.okName nm))).2 = 0
  · rw [if_pos hc]
    have hz := (chg_zero hc).1
    have hb : ((M.place D.files old).isSome && M.okName nm) = true := by
      cases hx : ((M.place D.files old).isSome && M.okName nm)
      · rw [hx] at hz; simp [codeOf] at hz
      · rfl
    simp only [Bool.and_eq_true] at hb
    cases hp : M.place D.files old with
    | none => rw [hp] at hb; simp at hb
    | some i =>
      rw [hp] at hc
      simp only [Option.isSome_some, hb.2, Bool.true_and] at hc ⊢
      obtain ⟨f, hf, _, _⟩ := M.place_some hp
      obtain ⟨⟨E, c⟩, hE⟩ : ∃ p, D.chg (codeOf true) = p := ⟨_, rfl⟩
      rw [hE] at hc ⊢
      simp only at hc
      subst hc
      simp only [Option.getD_some, hf]
      exact diskRename_yes tg o d D ids ps hD old nm i f E hp hf hb.2 hE w h
  · rw [if_neg hc]
    exact diskRename_no tg o d D ids ps hD old nm hc w h
end Go.Proofs.Ytekdenkllipehaa
