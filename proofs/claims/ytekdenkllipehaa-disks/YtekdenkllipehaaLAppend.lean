/-
  The landed disk: Append.
-/
import Derived.Test.YtekdenkllipehaaLAppending
import Derived.Lib.AppendStr
namespace Go.Proofs.Ytekdenkllipehaa
open Go.RowKit Go.Lib

/-- A text's bytes put behind a row of bytes of one's own; where the row lies then. -/
theorem append_text {P : Program} (w : World) (t u ty e : TypeId) (i : TypeInfo) (ht : P.underlying t = some (.slice e)) (hu : P.underlying u = some .string) (hi : P.info? e = some i) (hz : i.zero = some (.int .u8 0)) (hsize : i.size = 1) (hby : i.bytes = 1)
    (v : Value) (n : Nat) (xs : List Value) (hown : w.ownsRow 0 e 1 v n xs) (s : ByteArray) (h63 : n + s.size ≤ maxLen) (hbytes : n + s.size ≤ 140737488355328) :
    ∃ v' w', (Builtin.append_ #[t, u] ty #[v, .string s]).run P w = .ok v' w' ∧ w'.ownsRow 0 e 1 v' (n + s.size) (xs ++ strCells s) ∧ w.grownBy w' v.ownBlock ∧ (v'.ownBlock = v.ownBlock ∨ ∃ g, v'.ownBlock = some g ∧ w.heap.size ≤ g) := by
  obtain ⟨v', w', hr, h2, h3, h4⟩ := run_append_own_string (P := P) w 0 t u ty e i ht hu hi hz hsize hby v n xs hown s h63 hbytes (Nat.zero_le _)
  refine ⟨v', w', hr, h2, h3, ?_⟩
  have hsmall : n + s.size ≤ 9223372036854775807 := by simp only [maxLen] at h63; omega
  have hxl : xs.length = n := by simpa using hown.1
  rcases hown.2 with ⟨rfl, rfl⟩ | ⟨g, cap, cur, rfl, hbg, hg, hnc, hcm, hcs, htake⟩
  · by_cases hm : s.size = 0
    · rw [h4.2 ⟨rfl, hm⟩]
      exact Or.inl rfl
    · have hr2 := run_append_nil_string (P := P) w t u ty e i (.int .u8 0) ht hu hi hz s (by omega) (by omega) (by rw [hby]; omega)
      rw [hr2] at hr
      injection hr with hv _
      subst hv
      exact Or.inr ⟨_, rfl, Nat.le_refl _⟩
  · by_cases hroom : n + s.size ≤ cap
    · have hcs' : cur.size = cap := by simpa using hcs
      have hr2 := run_append_room_string (P := P) w t u ty e i ht hu hi hsize g n cap cur hg s hroom (by omega)
      rw [hr2] at hr
      injection hr with hv _
      subst hv
      exact Or.inl rfl
    · have holds : ∀ j u, xs[j]? = some u → w.cell? ((⟨g, 0, none⟩ : Addr).add j) = some u := hown.cells (g := g) rfl
      have hr2 := run_append_grow_string (P := P) w t u ty e i (.int .u8 0) ht hu hi hz ⟨g, 0, none⟩ n cap xs (by rw [hsize]; simpa using hxl) holds s (by omega) (by omega) (by rw [hby]; exact growslice_fits (by omega) (by omega))
      rw [hr2] at hr
      injection hr with hv _
      subst hv
      exact Or.inr ⟨_, rfl, Nat.le_refl _⟩

theorem strCells_vals (s : ByteArray) : strCells s = byteVals s.data.toList := by simp [strCells, byteVals]

/-- Bytes behind a file's. -/
theorem LFileAt.more {w w2 : World} {tg : Tags} {o p id : Nat} {f : M.Fil} {bo ao : Option Addr} {bc cap : Nat} (h : LFileAt w tg o p id f bo bc) (s : ByteArray)
    (hg : w.grownBy w2 (Value.slice bo f.bytes.length bc).ownBlock) (ho : w2.ownsRow 0 5 1 (.slice ao (f.bytes.length + s.size) cap) (f.bytes.length + s.size) (byteVals f.bytes ++ strCells s))
    (hw : (Value.slice ao (f.bytes.length + s.size) cap).ownBlock = (Value.slice bo f.bytes.length bc).ownBlock ∨ ∃ g, (Value.slice ao (f.bytes.length + s.size) cap).ownBlock = some g ∧ w.heap.size ≤ g) :
    LFileAt (w2.setCell ⟨p, 0, none⟩ (.slice ao (f.bytes.length + s.size) cap)) (tg.more w.heap.size o (4 + 2 * id)) o p id { f with bytes := f.bytes ++ s.data.toList } ao cap ∧ w2.cell? ⟨p, 0, none⟩ = some (.slice bo f.bytes.length bc) ∧ w2.frozen? ⟨p, 0, none⟩ = false := by
  have hpne : ∀ g, (Value.slice bo f.bytes.length bc).ownBlock = some g → g ≠ p := fun g hgb e => by
    have h1 := h.tb g hgb
    rw [e] at h1
    exact tag_ne h1 (by omega) h.tp
  have hpb : w2.heap[p]? = w.heap[p]? := hg.block p h.top (fun e => hpne p e.symm rfl)
  have hlen : (f.bytes ++ s.data.toList).length = f.bytes.length + s.size := by rw [List.length_append, Array.length_toList]; rfl
  have htb : ∀ g, (Value.slice ao (f.bytes.length + s.size) cap).ownBlock = some g → (tg.more w.heap.size o (4 + 2 * id)) g = (o, 4 + 2 * id) := fun g hgb => by
    rcases Nat.lt_or_ge g w.heap.size with hl | hl
    · rw [Tags.more_old hl]
      rcases hw with e | ⟨g', e, h2⟩
      · exact h.tb g (e.symm.trans hgb)
      · rw [e] at hgb; injection hgb with hgb; omega
    · exact Tags.more_new hl
  have k0 := (World.cell?_of_block (a := ⟨p, 0, none⟩) hpb).trans h.c0
  have kf := (World.frozen?_of_block (a := ⟨p, 0, none⟩) hpb).trans (h.fr 0)
  refine ⟨⟨by rw [hlen]; exact World.cell?_setCell_same _ _ _ k0, by rw [World.cell?_setCell_other _ _ _ _ (by simp)]; exact (World.cell?_of_block (a := ⟨p, 1, none⟩) hpb).trans h.c1, fun j => by rw [World.frozen?_setCell]; exact (World.frozen?_of_block (a := ⟨p, j, none⟩) hpb).trans (h.fr j), ?_, (Tags.more_old h.top).trans h.tp, by rw [hlen]; exact htb, ?_⟩, k0, kf⟩
  · rw [hlen]
    have e : byteVals (f.bytes ++ s.data.toList) = byteVals f.bytes ++ strCells s := by rw [strCells_vals]; simp [byteVals]
    rw [e]
    refine row_keep ho (fun g hgb => heap_setCell_other w2 ⟨p, 0, none⟩ g _ (fun e => ?_))
    simp at e
    have h1 := htb g hgb
    rw [e, Tags.more_old h.top] at h1
    exact tag_ne h1 (by omega) h.tp
  · have := hg.size
    have := h.top
    simp
    omega

/-- .. in a disk. -/
theorem LDiskAt.more {w w2 : World} {tg : Tags} {o d : Nat} {D : M.Dsk} {ids ps : List Nat} (h : LDiskAt w tg o d D ids ps) {i p id : Nat} {f : M.Fil} {bo ao : Option Addr} {bc cap : Nat} (hp : ps[i]? = some p) (hid : ids[i]? = some id) (hf : D.files[i]? = some f) (hF : LFileAt w tg o p id f bo bc) (s : ByteArray)
    (hg : w.grownBy w2 (Value.slice bo f.bytes.length bc).ownBlock) (ho : w2.ownsRow 0 5 1 (.slice ao (f.bytes.length + s.size) cap) (f.bytes.length + s.size) (byteVals f.bytes ++ strCells s))
    (hw : (Value.slice ao (f.bytes.length + s.size) cap).ownBlock = (Value.slice bo f.bytes.length bc).ownBlock ∨ ∃ g, (Value.slice ao (f.bytes.length + s.size) cap).ownBlock = some g ∧ w.heap.size ≤ g) :
    LEnded tg o d ⟨D.cap, D.files.modify i (fun f => { f with bytes := f.bytes ++ s.data.toList }), D.dead, D.fuse⟩ w (w2.setCell ⟨p, 0, none⟩ (.slice ao (f.bytes.length + s.size) cap)) := by
  have hb : ∀ k, k < w.heap.size → tg k ≠ (o, 3 + 2 * id) → tg k ≠ (o, 4 + 2 * id) → (w2.setCell ⟨p, 0, none⟩ (.slice ao (f.bytes.length + s.size) cap)).heap[k]? = w.heap[k]? := fun k hk h1 h2 => by
    rw [heap_setCell_other w2 ⟨p, 0, none⟩ k _ (fun e => h1 (by simp at e; rw [e]; exact hF.tp))]
    exact hg.block k hk (fun e => h2 (hF.tb k e.symm))
  rw [M.modify_one _ hf]
  refine ⟨tg.more w.heap.size o (4 + 2 * id), ids, ps, fun k hk => Tags.more_old hk, h.turn hp hid hf (by simpa using hg.size) (fun k hk => Tags.more_old hk) hb _ rfl (hF.more s hg ho hw).1, ⟨hg.os, hg.tape, hg.output, by simpa using hg.size, fun k hk hn => hb k hk (fun e => hn (by rw [e])) (fun e => hn (by rw [e]))⟩⟩

theorem LEnded.after {tg tg1 : Tags} {o d : Nat} {D' : M.Dsk} {w w1 w' : World} (h : LEnded tg1 o d D' w1 w') (ho : Only o tg w w1) (ht : ∀ k, k < w.heap.size → tg1 k = tg k) : LEnded tg o d D' w w' := by
  obtain ⟨tg', ids', ps', a1, a2, a3⟩ := h
  exact ⟨tg', ids', ps', fun k hk => (a1 k (Nat.lt_of_lt_of_le hk ho.size)).trans (ht k hk), a2, ⟨a3.os.trans ho.os, a3.tape.trans ho.tape, a3.output.trans ho.output, Nat.le_trans ho.size a3.size, fun k hk hn => (a3.block k (Nat.lt_of_lt_of_le hk ho.size) (by rw [ht k hk]; exact hn)).trans (ho.block k hk hn)⟩⟩

set_option maxRecDepth 100000 in
set_option maxHeartbeats 1600000 in
/-- An Append that does not go. -/
theorem diskAppend_no (tg : Tags) (o d : Nat) (D : M.Dsk) (ids ps : List Nat) (hD : D.Fine) (nm s : ByteArray) (hno : (D.chg (appCode D nm s.size)).2 ≠ 0) (w : World) (h : LDiskAt w tg o d D ids ps) :
    Calls Try.prog 72 #[.pointer (some ⟨d, 0, none⟩), .string nm, .string s] w fun e w' => e = .returned (.int .i64 ((D.chg (appCode D nm s.size)).2 : Nat)) ∧ LEnded tg o d (D.chg (appCode D nm s.size)).1 w w' := by
  have HG : Hid _ := fun (_ : Unit) => mapGet tg o d D.files ps hD.sorted hD.good.few nm w h.map
  have HC : Hid _ := fun (W : World) (hW : LDiskAt W tg o d D ids ps) => diskChange tg o d D ids ps (appCode D nm s.size) hD.fuse W hW
  have HA : Hid _ := fun (W : World) (hW : LDiskAt W tg o d D ids ps) => diskAppending tg o d D ids ps hD nm s.size W hW
  have HD : Hid (LDiskAt w tg o d D ids ps) := h
  obtain ⟨⟨E, c⟩, hE⟩ : ∃ p, D.chg (appCode D nm s.size) = p := ⟨_, rfl⟩
  rw [hE] at HC hno ⊢
  simp only at HC hno ⊢
  have hcb : ((c : Int) == 0) = false := by rw [beq_eq_false_iff_ne]; omega
  obtain ⟨ac, hac⟩ : ∃ ac, appCode D nm s.size = ac := ⟨_, rfl⟩
  rw [hac] at HC HA
  obtain ⟨pv, hpv⟩ : ∃ pv, ptrAt ps (M.place D.files nm) = pv := ⟨_, rfl⟩
  rw [hpv] at HG
  obtain ⟨pb, hpb⟩ : ∃ pb, (M.place D.files nm).isSome = pb := ⟨_, rfl⟩
  rw [hpb] at HG HA
  clear h hE hno hac hpv hpb
  go_enter Try.func72, Try.ntmps72
  go_wp2_with fail
  refine (HG.out ()).mono ?_
  rintro e w1 ⟨rfl, q1⟩
  have HA1 : Hid _ := fun (_ : Unit) => HA.out w1 (HD.out.kept q1)
  clear HG HA
  go_wp2_with fail
  refine (HA1.out ()).mono ?_
  rintro e w2 ⟨rfl, q2⟩
  have HC1 : Hid _ := fun (_ : Unit) => HC.out w2 (HD.out.kept (q1.trans q2))
  clear HA1 HC
  go_wp2_with fail
  refine (HC1.out ()).mono ?_
  rintro e w3 ⟨rfl, hL, hO⟩
  have HEn : Hid (LEnded tg o d E w w3) := LEnded.same hL ((Only.of_q (q1.trans q2)).trans hO)
  clear hL hO HC1
  go_wp2_with fail
  go_ret
  exact ⟨rfl, HEn.out⟩

set_option maxRecDepth 100000 in
set_option maxHeartbeats 1600000 in
/-- An Append to a file that is there. -/
theorem diskAppend_there (tg : Tags) (o d : Nat) (D : M.Dsk) (ids ps : List Nat) (hD : D.Fine) (nm s : ByteArray) (i : Nat) (E : M.Dsk) (hp : M.place D.files nm = some i) (hE : D.chg (appCode D nm s.size) = (E, 0)) (hsz : s.size ≤ 1048576) (w : World) (h : LDiskAt w tg o d D ids ps) :
    Calls Try.prog 72 #[.pointer (some ⟨d, 0, none⟩), .string nm, .string s] w fun e w' => e = .returned (.int .i64 0) ∧ LEnded tg o d ⟨E.cap, E.files.modify i (fun f => { f with bytes := f.bytes ++ s.data.toList }), E.dead, E.fuse⟩ w w' := by
  have HG : Hid _ := fun (_ : Unit) => mapGet tg o d D.files ps hD.sorted hD.good.few nm w h.map
  have HC : Hid _ := fun (W : World) (hW : LDiskAt W tg o d D ids ps) => diskChange tg o d D ids ps (appCode D nm s.size) hD.fuse W hW
  have HA : Hid _ := fun (W : World) (hW : LDiskAt W tg o d D ids ps) => diskAppending tg o d D ids ps hD nm s.size W hW
  have HD : Hid (LDiskAt w tg o d D ids ps) := h
  obtain ⟨f, p, id, e1, e2, e3, e4, _⟩ := place_ptr h hp
  have hfe : E.files = D.files := by have := chg_files D (appCode D nm s.size); rw [hE] at this; exact this
  rw [hE] at HC
  simp only at HC
  obtain ⟨ac, hac⟩ : ∃ ac, appCode D nm s.size = ac := ⟨_, rfl⟩
  rw [hac] at HC HA
  rw [hp, e4] at HG
  rw [hp] at HA
  have HP : Hid (ps[i]? = some p ∧ ids[i]? = some id ∧ E.files[i]? = some f) := ⟨e2, e3, by rw [hfe]; exact e1⟩
  have hfl : f.bytes.length ≤ 1048576 := hD.good.small (List.mem_of_getElem? e1)
  obtain ⟨i0, hi, hz0, hz1, hz2⟩ := info_parts infoU8
  clear h hE hac hp hfe e1 e2 e3 e4
  go_enter Try.func72, Try.ntmps72
  go_wp2_with fail
  refine (HG.out ()).mono ?_
  rintro e w1 ⟨rfl, q1⟩
  have HA1 : Hid _ := fun (_ : Unit) => HA.out w1 (HD.out.kept q1)
  simp only [Option.isSome_some]
  clear HG HA
  go_wp2_with fail
  refine (HA1.out ()).mono ?_
  rintro e w2 ⟨rfl, q2⟩
  have HC1 : Hid _ := fun (_ : Unit) => HC.out w2 (HD.out.kept (q1.trans q2))
  clear HA1 HC
  go_wp2_with fail
  refine (HC1.out ()).mono ?_
  rintro e w3 ⟨rfl, hL, hO⟩
  obtain ⟨bo, bc, hF⟩ := hL.file i p id f HP.out.1 HP.out.2.1 HP.out.2.2
  have c0 := hF.c0
  obtain ⟨v', w4, hrun, r1, r2, r3⟩ := append_text (P := Try.prog) w3 41 9 41 5 i0 Try.underlying41 Try.underlying9 hi hz0 hz1 hz2 _ _ _ hF.own s (by simp [maxLen]; omega) (by omega)
  obtain ⟨ao, cap, rfl⟩ := own_form r1
  obtain ⟨_, k0, kf⟩ := hF.more s r2 r1 r3
  have HEn : Hid _ := (hL.more HP.out.1 HP.out.2.1 HP.out.2.2 hF s r2 r1 r3).after ((Only.of_q (q1.trans q2)).trans hO) (fun _ _ => rfl)
  clear hL hO HC1 hF r1 r2 r3
  generalize f.bytes.length + s.size = n2 at *
  generalize f.bytes.length = n1 at *
  go_wp2_with (at_builtin; refine Lib.wpList_append_run _ rfl _ _ _ _ rfl _ _ rfl rfl _ _ hrun ?_)
  go_ret
  exact ⟨rfl, HEn.out⟩

theorem lfile_new (w : World) (tg : Tags) (o id : Nat) (nm : ByteArray) (t : TypeId) :
    LFileAt (w.alloc (.cells #[.slice none 0 0, .int .i64 0] t)) (tg.more w.heap.size o (3 + 2 * id)) o w.heap.size id ⟨nm, [], 0⟩ none 0 := by
  refine ⟨by simp, by simp, fun j => by simp, World.ownsRow_nil _ _ _ _, Tags.more_new (Nat.le_refl _), fun g hg => by simp [Value.ownBlock] at hg, by simp⟩

theorem put_modify {fs : List M.Fil} {nm : ByteArray} (hp : M.place fs nm = none) (s : List UInt8) : (M.put fs ⟨nm, [], 0⟩).modify (M.lowAt fs nm) (fun f => { f with bytes := f.bytes ++ s }) = M.put fs ⟨nm, s, 0⟩ ∧ (M.put fs ⟨nm, [], 0⟩)[M.lowAt fs nm]? = some ⟨nm, [], 0⟩ := by
  have h1 : M.put fs ⟨nm, [], 0⟩ = insAt fs (M.lowAt fs nm) ⟨nm, [], 0⟩ := (M.put_low (f := ⟨nm, [], 0⟩) hp).1
  have h2 : M.put fs ⟨nm, s, 0⟩ = insAt fs (M.lowAt fs nm) ⟨nm, s, 0⟩ := (M.put_low (f := ⟨nm, s, 0⟩) hp).1
  have hle := M.lowAt_le fs nm
  rw [h1, h2]
  refine ⟨?_, insAt_self hle _⟩
  rw [M.modify_one _ (insAt_self hle _), insAt_set hle]
  rfl

set_option maxRecDepth 100000 in
set_option maxHeartbeats 1600000 in
/-- An Append to a new file. -/
theorem diskAppend_new (tg : Tags) (o d : Nat) (D : M.Dsk) (ids ps : List Nat) (hD : D.Fine) (nm s : ByteArray) (E : M.Dsk) (hp : M.place D.files nm = none) (hE : D.chg (appCode D nm s.size) = (E, 0)) (hsz : s.size ≤ 1048576) (hok : M.okName nm = true) (w : World) (h : LDiskAt w tg o d D ids ps) :
    Calls Try.prog 72 #[.pointer (some ⟨d, 0, none⟩), .string nm, .string s] w fun e w' => e = .returned (.int .i64 0) ∧ LEnded tg o d ⟨E.cap, M.put E.files ⟨nm, s.data.toList, 0⟩, E.dead, E.fuse⟩ w w' := by
  have HG : Hid _ := fun (_ : Unit) => mapGet tg o d D.files ps hD.sorted hD.good.few nm w h.map
  have HC : Hid _ := fun (W : World) (hW : LDiskAt W tg o d D ids ps) => diskChange tg o d D ids ps (appCode D nm s.size) hD.fuse W hW
  have HA : Hid _ := fun (W : World) (hW : LDiskAt W tg o d D ids ps) => diskAppending tg o d D ids ps hD nm s.size W hW
  have HD : Hid (LDiskAt w tg o d D ids ps) := h
  have hfe : E.files = D.files := by have := chg_files D (appCode D nm s.size); rw [hE] at this; exact this
  have hEF : E.Fine := by have := hD.chg (appCode D nm s.size); rw [hE] at this; exact this
  have hpE : M.place E.files nm = none := by rw [hfe]; exact hp
  rw [hE] at HC
  simp only at HC
  obtain ⟨ac, hac⟩ : ∃ ac, appCode D nm s.size = ac := ⟨_, rfl⟩
  rw [hac] at HC HA
  rw [hp] at HG HA
  have hlim : nm.size ≤ 281474976710656 := by
    unfold M.okName at hok
    simp at hok
    omega
  obtain ⟨i0, hi, hz0, hz1, hz2⟩ := info_parts infoU8
  obtain ⟨id, hidn⟩ := fresh_id ids
  have HX : Hid (E.Fine ∧ M.place E.files nm = none ∧ id ∉ ids) := ⟨hEF, hpE, hidn⟩
  clear h hE hac hp hfe hEF hpE hok hidn
  go_enter Try.func72, Try.ntmps72
  go_wp2_with fail
  refine (HG.out ()).mono ?_
  rintro e w1 ⟨rfl, q1⟩
  have HA1 : Hid _ := fun (_ : Unit) => HA.out w1 (HD.out.kept q1)
  simp only [ptrAt, Option.isSome_none]
  clear HG HA
  go_wp2_with fail
  refine (HA1.out ()).mono ?_
  rintro e w2 ⟨rfl, q2⟩
  have HC1 : Hid _ := fun (_ : Unit) => HC.out w2 (HD.out.kept (q1.trans q2))
  clear HA1 HC
  go_wp2_with fail
  refine (HC1.out ()).mono ?_
  rintro e w3 ⟨rfl, hL, hO⟩
  have HL : Hid (LDiskAt w3 tg o d E ids ps) := hL
  have HO : Hid (Only o tg w w3) := (Only.of_q (q1.trans q2)).trans hO
  have HPut : Hid (∀ W, Q (w3.alloc (.cells #[.slice none 0 0, .int .i64 0] 135)) W → Calls Try.prog 98 #[.pointer (some ⟨d, 1, none⟩), .string nm, .pointer (some ⟨w3.heap.size, 0, none⟩)] W fun e w' => e = .returned (.tuple #[]) ∧
      ∃ tg' ids' ps', (∀ k, k < w.heap.size → tg' k = tg k) ∧ LDiskAt w' tg' o d ⟨E.cap, M.put E.files ⟨nm, [], 0⟩, E.dead, E.fuse⟩ ids' ps' ∧ Only o tg w w' ∧ ids'[M.lowAt E.files nm]? = some id ∧ ps'[M.lowAt E.files nm]? = some w3.heap.size) := fun W hq => by
    have hN : LDiskAt (w3.alloc (.cells #[.slice none 0 0, .int .i64 0] 135)) (tg.more w3.heap.size o (3 + 2 * id)) o d E ids ps := HL.out.keep (by simp) (fun k hk => Tags.more_old hk) (fun k hk _ => ((Below.refl _ w3).alloc (Nat.le_refl _) _).block k hk)
    have hW := hN.kept hq
    have hFN := lfile_new w3 tg o id nm 135
    have hFW := hFN.keep hq.below.size (tg' := tg.more w3.heap.size o (3 + 2 * id)) (fun _ _ => rfl) (fun k hk _ => hq.below.block k hk)
    refine (mapPut_new (tg.more w3.heap.size o (3 + 2 * id)) o d E.files ps HX.out.1.sorted HX.out.1.good.few nm w3.heap.size HX.out.2.1 W hW.map).mono ?_
    rintro e w' ⟨rfl, hn⟩
    obtain ⟨tg', a1, a2, a3⟩ := hW.putNew hFW HX.out.2.2 HX.out.2.1 hn
    have hle := M.lowAt_le E.files nm
    have hsW : w3.heap.size ≤ W.heap.size := by have := hq.below.size; simp at this; omega
    have hs1 : w.heap.size ≤ W.heap.size := Nat.le_trans HO.out.size hsW
    have hblk : ∀ k, k < w3.heap.size → W.heap[k]? = w3.heap[k]? := fun k hk => (hq.below.block k (by simp; omega)).trans (((Below.refl _ w3).alloc (Nat.le_refl _) _).block k hk)
    refine ⟨rfl, tg', _, _, fun k hk => (a1 k (Nat.lt_of_lt_of_le hk hs1)).trans (Tags.more_old (Nat.lt_of_lt_of_le hk HO.out.size)), a2, ⟨a3.os.trans (hq.below.os.trans HO.out.os), a3.tape.trans (hq.below.tape.trans HO.out.tape), a3.output.trans (hq.below.output.trans HO.out.output), Nat.le_trans hs1 a3.size, fun k hk hn => ?_⟩, insAt_self (show M.lowAt E.files nm ≤ ids.length by rw [HL.out.lenI]; exact hle) _, insAt_self (show M.lowAt E.files nm ≤ ps.length by have := HL.out.map.len; simp at this; omega) _⟩
    rw [a3.only.block k (Nat.lt_of_lt_of_le hk hs1) (by rw [Tags.more_old (Nat.lt_of_lt_of_le hk HO.out.size)]; exact hn), hblk k (Nat.lt_of_lt_of_le hk HO.out.size)]
    exact HO.out.block k hk hn
  have HPM : Hid _ := put_modify HX.out.2.1 s.data.toList
  clear HC1 hL hO HL HO HX HD
  go_upto_region 7 with fail
  go_region_held3 (fun _ => True) (exact trivial)
    (first
      | (go_at_call 94; refine (clone_any nm _ hlim).mono ?_; rintro e w6 ⟨rfl, b6⟩; have hS6 : True := trivial)
      | (go_at_call 98; refine (HPut.out w6 (((Q.refl _).drew).trans ⟨b6⟩)).mono ?_; rintro e w7 ⟨rfl, hEn⟩; have HEn : Hid _ := hEn; clear hEn))
  obtain ⟨tg7, ids7, ps7, y1, y2, y3, y4, y5⟩ := HEn.out
  obtain ⟨bo, bc, hF⟩ := y2.file _ _ _ _ y5 y4 HPM.out.2
  have c0 := hF.c0
  obtain ⟨v', w8, hrun, r1, r2, r3⟩ := append_text (P := Try.prog) w7 41 9 41 5 i0 Try.underlying41 Try.underlying9 hi hz0 hz1 hz2 _ _ _ hF.own s (by show 0 + s.size ≤ maxLen; simp [maxLen]; omega) (by show 0 + s.size ≤ 140737488355328; omega)
  obtain ⟨ao, cap, rfl⟩ := own_form r1
  obtain ⟨_, k0, kf⟩ := hF.more s r2 r1 r3
  have HEn2 : Hid (LEnded tg o d ⟨E.cap, M.put E.files ⟨nm, s.data.toList, 0⟩, E.dead, E.fuse⟩ w (w8.setCell ⟨w3.heap.size, 0, none⟩ (.slice ao (0 + s.size) cap))) := by
    have := (y2.more y5 y4 HPM.out.2 hF s r2 r1 r3).after y3 y1
    simp only [HPM.out.1] at this
    exact this
  simp only [List.length_nil, Nat.zero_add] at c0 hrun k0 HEn2
  clear HEn y1 y2 y3 y4 y5 hF r1 r2 r3 HPM HPut
  go_wp2_with (at_builtin; refine Lib.wpList_append_run _ rfl _ _ _ _ rfl _ _ rfl rfl _ _ hrun ?_)
  go_ret
  exact ⟨rfl, HEn2.out⟩

theorem diskAppend (tg : Tags) (o d : Nat) (D : M.Dsk) (ids ps : List Nat) (hD : D.Fine) (nm s : ByteArray) (w : World) (h : LDiskAt w tg o d D ids ps) :
    Calls Try.prog 72 #[.pointer (some ⟨d, 0, none⟩), .string nm, .string s] w fun e w' => e = .returned (.int .i64 ((D.append nm s.data.toList).2 : Nat)) ∧ LEnded tg o d (D.append nm s.data.toList).1 w w' := by
  have hsl : s.data.toList.length = s.size := by rw [Array.length_toList]; rfl
  rw [append_chg, hsl]
  by_cases hc : (D.chg (appCode D nm s.size)).2 = 0
  · obtain ⟨⟨E, c⟩, hE⟩ : ∃ p, D.chg (appCode D nm s.size) = p := ⟨_, rfl⟩
    have hz := (chg_zero hc).1
    rw [hE] at hc ⊢
    simp only at hc
    subst hc
    have hfe : E.files = D.files := by have := chg_files D (appCode D nm s.size); rw [hE] at this; exact this
    have hok : M.okName nm = true := by
      cases hx : M.okName nm
      · unfold appCode at hz; rw [if_pos hx] at hz; simp at hz
      · rfl
    have hroom : M.total D.files + s.size ≤ D.cap := by
      unfold appCode at hz
      rw [hok] at hz
      simp only [Bool.true_eq_false, if_false] at hz
      split at hz
      · simp at hz
      · rename_i hn
        rcases Nat.lt_or_ge D.cap (M.total D.files + s.size) with e | e
        · exact absurd (Or.inl e) hn
        · exact e
    have hsz : s.size ≤ 1048576 := by have := hD.good.cap; omega
    simp only [hfe]
    cases hp : M.place D.files nm with
    | some i =>
      have := diskAppend_there tg o d D ids ps hD nm s i E hp hE hsz w h
      rw [hfe] at this
      exact this
    | none =>
      have := diskAppend_new tg o d D ids ps hD nm s E hp hE hsz hok w h
      rw [hfe] at this
      exact this
  · have := diskAppend_no tg o d D ids ps hD nm s hc w h
    obtain ⟨⟨E, c⟩, hE⟩ : ∃ p, D.chg (appCode D nm s.size) = p := ⟨_, rfl⟩
    rw [hE] at this hc ⊢
    cases c with
    | zero => exact absurd rfl hc
    | succ c => exact this
end Go.Proofs.Ytekdenkllipehaa
