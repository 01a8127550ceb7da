import Derived.Test.YtekdenkllipehabGreatDoorK33
import Derived.Test.YtekdenkllipehabGreatDoorK38
set_option maxRecDepth 100000
set_option maxHeartbeats 8000000
namespace Go.Proofs.YtekdenkllipehabGreatDoor
open Go.RowKit
theorem okOne:M.okName M.one=true:=by decide
theorem chg_zero {D:M.Dsk} {c:Nat} (h:(D.chg c).2=0):c=0∧(D.chg c).1.dead=false:=by
 unfold M.Dsk.chg at h ⊢
 split
 ·rename_i hd;rw [if_pos hd] at h;simp at h
 ·rename_i hd
  rw [if_neg hd] at h
  split
  ·rename_i hc
   rw [if_pos hc] at h
   exact absurd h hc
  ·rename_i hc
   rw [if_neg hc] at h
   refine ⟨by simpa using hc,?_⟩
   have hds:∀ E b,D.dies=(E,b)→b=false→E.dead=false:=fun E b he hb=>by
    unfold M.Dsk.dies at he
    split at he
    ·simp only [Prod.mk.injEq] at he
     rw [←he.1,he.2,hb]
    ·simp only [Prod.mk.injEq] at he
     rw [←he.1,he.2,hb]
   split
   ·rename_i E hE;rw [hE] at h;simp at h
   ·rename_i E hE;exact hds E false hE rfl
theorem sync_chg (D:M.Dsk) (nm:ByteArray):D.sync nm=if (D.chg (codeOf (M.place D.files nm).isSome)).2=0 then ({ (D.chg (codeOf (M.place D.files nm).isSome)).1 with files:=D.files.modify ((M.place D.files nm).getD 0) fun f=>{ f with synced:=f.bytes.length }},0) else D.chg (codeOf (M.place D.files nm).isSome):=by
 unfold M.Dsk.sync
 rw [changed_chg,okOne,Bool.and_true]
 have hf:=chg_files D (codeOf (M.place D.files nm).isSome)
 obtain ⟨⟨E,c⟩,hE⟩:∃ p,D.chg (codeOf (M.place D.files nm).isSome)=p:=⟨_,rfl⟩
 rw [hE] at hf ⊢
 simp only at hf ⊢
 by_cases hc:c=0
 ·subst hc;simp [hf]
 ·simp only [if_neg hc]
theorem remove_chg (D:M.Dsk) (nm:ByteArray):D.remove nm=if (D.chg (codeOf (M.place D.files nm).isSome)).2=0 then ({ (D.chg (codeOf (M.place D.files nm).isSome)).1 with files:=D.files.eraseIdx ((M.place D.files nm).getD 0)},0) else D.chg (codeOf (M.place D.files nm).isSome):=by
 unfold M.Dsk.remove
 rw [changed_chg,okOne,Bool.and_true]
 have hf:=chg_files D (codeOf (M.place D.files nm).isSome)
 obtain ⟨⟨E,c⟩,hE⟩:∃ p,D.chg (codeOf (M.place D.files nm).isSome)=p:=⟨_,rfl⟩
 rw [hE] at hf ⊢
 simp only at hf ⊢
 by_cases hc:c=0
 ·subst hc;simp [hf]
 ·simp only [if_neg hc]
theorem LFileAt.syncSet {w:World} {tg:Tags} {o p id:Nat} {f:M.Fil} {bo:Option Addr} {bc:Nat} (h:LFileAt w tg o p id f bo bc) (n:Nat):LFileAt (w.setCell ⟨p,1,none⟩ (.int .i64 (n:Int))) tg o p id { f with synced:=n } bo bc:=by
 refine ⟨by rw [World.cell?_setCell_other _ _ _ _ (by simp)];exact h.c0,World.cell?_setCell_same _ _ _ h.c1,fun j=>by rw [World.frozen?_setCell];exact h.fr j,?_,h.tp,h.tb,by simpa using h.top⟩
 refine row_keep h.own (fun g hg=>heap_setCell_other w ⟨p,1,none⟩ g _ (fun e=>?_))
 simp at e
 have:=h.tb g hg
 rw [e] at this
 exact tag_ne this (by omega) h.tp
theorem LDiskAt.syncSet {w:World} {tg:Tags} {o d:Nat} {D:M.Dsk} {ids ps:List Nat} (h:LDiskAt w tg o d D ids ps) {i p id:Nat} {f:M.Fil} {bo:Option Addr} {bc:Nat} (hp:ps[i]?=some p) (hid:ids[i]?=some id) (hf:D.files[i]?=some f) (hF:LFileAt w tg o p id f bo bc) (n:Nat) :
  LDiskAt (w.setCell ⟨p,1,none⟩ (.int .i64 (n:Int))) tg o d ⟨D.cap,D.files.set i { f with synced:=n },D.dead,D.fuse⟩ ids ps:=
 h.turn hp hid hf (by simp) (fun _ _=>rfl) (fun k _ h1 _=>heap_setCell_other w ⟨p,1,none⟩ k _ (fun e=>h1 (by simp at e;rw [e];exact hF.tp))) _ rfl (hF.syncSet n)
theorem place_ptr {w:World} {tg:Tags} {o d:Nat} {D:M.Dsk} {ids ps:List Nat} (h:LDiskAt w tg o d D ids ps) {nm:ByteArray} {i:Nat} (hp:M.place D.files nm=some i) :
  ∃ f p id,D.files[i]?=some f∧ps[i]?=some p∧ids[i]?=some id∧ptrAt ps (some i)=.pointer (some ⟨p,0,none⟩)∧f.name=nm:=by
 obtain ⟨f,hf,hn,_⟩:=M.place_some hp
 have hi:i<D.files.length:=(List.getElem?_eq_some_iff.1 hf).1
 have h1:i<ps.length:=by have:=h.map.len;simp at this;omega
 have h2:i<ids.length:=by have:=h.lenI;omega
 exact ⟨f,ps[i],ids[i],hf,List.getElem?_eq_getElem h1,List.getElem?_eq_getElem h2,by simp [ptrAt,List.getElem?_eq_getElem h1],M.named_eq.1 hn⟩
theorem diskSync (tg:Tags) (o d:Nat) (D:M.Dsk) (ids ps:List Nat) (hD:D.Fine) (nm:ByteArray) (w:World) (h:LDiskAt w tg o d D ids ps) :
  Calls Tryz.prog 44 #[.pointer (some ⟨d,0,none⟩),.string nm] w fun e w'=>e=.returned (.int .i64 ((D.sync nm).2:Nat))∧LEnded tg o d (D.sync nm).1 w w':=by
 rw [sync_chg]
 have HG:Hid _:=fun (_:Unit)=>mapGet tg o d D.files ps hD.sorted hD.good.few nm w h.map
 have HC:Hid _:=fun (c:Nat) (W:World) (hW:LDiskAt W tg o d D ids ps)=>diskChange tg o d D ids ps c hD.fuse W hW
 have HD:Hid (LDiskAt w tg o d D ids ps):=h
 have HF:Hid _:=chg_files D (codeOf (M.place D.files nm).isSome)
 cases hp:M.place D.files nm with
 | none =>
  rw [hp] at HG HF
  obtain ⟨⟨E,c⟩,hE⟩:∃ p,D.chg (codeOf false)=p:=⟨_,rfl⟩
  have hc:¬(c=0):=fun e=>by
   have:=chg_zero (D:=D) (c:=codeOf false) (by rw [hE];exact e)
   simp [codeOf] at this
  have hcb:((c:Int) == 0)=false:=by rw [beq_eq_false_iff_ne];omega
  simp only [Option.isSome_none,hE,if_neg hc]
  have HCC:Hid _:=fun (W:World) (hW:LDiskAt W tg o d D ids ps)=>HC.out (codeOf false) W hW
  rw [hE] at HCC
  clear h HC HF
  go_enter Tryz.func44,Tryz.ntmps44
  go_wp2_with fail
  refine (HG.out ()).mono ?_
  rintro e w1 ⟨rfl,q1⟩
  have HC1:Hid _:=fun (_:Unit)=>HCC.out w1 (HD.out.kept q1)
  simp only [ptrAt,Option.isSome_none]
  clear HG HCC
  go_wp2_with fail
  refine (diskNamed false w1).mono ?_
  rintro e w2 ⟨rfl,hw2⟩
  subst hw2
  go_wp2_with fail
  refine (HC1.out ()).mono ?_
  rintro e w3 ⟨rfl,hL,hO⟩
  have HEn:Hid (LEnded tg o d E w w3):=LEnded.same hL ((Only.of_q q1).trans hO)
  clear hL hO HC1
  go_wp2_with fail
  go_ret
  exact ⟨rfl,HEn.out⟩
 | some i =>
  rw [hp] at HG HF
  obtain ⟨f,p,id,e1,e2,e3,e4,_⟩:=place_ptr h hp
  rw [e4] at HG
  obtain ⟨⟨E,c⟩,hE⟩:∃ p,D.chg (codeOf true)=p:=⟨_,rfl⟩
  have hfe:E.files=D.files:=by have:=HF.out;rw [Option.isSome_some,hE] at this;exact this
  simp only [Option.isSome_some,hE,Option.getD_some]
  have HCC:Hid _:=fun (W:World) (hW:LDiskAt W tg o d D ids ps)=>HC.out (codeOf true) W hW
  rw [hE] at HCC
  by_cases hc:c=0
  ·subst hc
   rw [if_pos rfl]
   have HM:Hid (D.files.modify i (fun f=>{ f with synced:=f.bytes.length })=E.files.set i { f with synced:=f.bytes.length }):=by
    rw [hfe];exact M.modify_one _ e1
   have e1':E.files[i]?=some f:=by rw [hfe];exact e1
   have HP:Hid (ps[i]?=some p∧ids[i]?=some id∧E.files[i]?=some f):=⟨e2,e3,e1'⟩
   clear h HC HF e1 e2 e3 e4 e1' hfe hE hp
   go_enter Tryz.func44,Tryz.ntmps44
   go_wp2_with fail
   refine (HG.out ()).mono ?_
   rintro e w1 ⟨rfl,q1⟩
   have HC1:Hid _:=fun (_:Unit)=>HCC.out w1 (HD.out.kept q1)
   simp only [Option.isSome_some]
   clear HG HCC
   go_wp2_with fail
   refine (diskNamed true w1).mono ?_
   rintro e w2 ⟨rfl,hw2⟩
   subst hw2
   go_wp2_with fail
   refine (HC1.out ()).mono ?_
   rintro e w3 ⟨rfl,hL,hO⟩
   obtain ⟨bo,bc,hF⟩:=hL.file i p id f HP.out.1 HP.out.2.1 HP.out.2.2
   have c0:=hF.c0
   have c1:=hF.c1
   have f1:=hF.fr 1
   have HEn:Hid (LEnded tg o d ⟨E.cap,D.files.modify i (fun f=>{ f with synced:=f.bytes.length }),E.dead,E.fuse⟩ w (w3.setCell ⟨p,1,none⟩ (.int .i64 (f.bytes.length:Nat)))):=by
    have:=LEnded.same (w:=w) (hL.syncSet HP.out.1 HP.out.2.1 HP.out.2.2 hF f.bytes.length) (only_set ((Only.of_q q1).trans hO) (fun k hk e=>by rw [e,hF.tp]) 1 _)
    rw [HM.out];exact this
   obtain ⟨n,hn⟩:∃ n,f.bytes.length=n:=⟨_,rfl⟩
   rw [hn] at c0 HEn
   clear hL hO HC1 hF hn
   go_wp2_with fail
   go_ret
   exact ⟨rfl,HEn.out⟩
  ·rw [if_neg hc]
   have hcb:((c:Int) == 0)=false:=by rw [beq_eq_false_iff_ne];omega
   clear h HC HF e1 e2 e3 e4 hfe hE hp
   go_enter Tryz.func44,Tryz.ntmps44
   go_wp2_with fail
   refine (HG.out ()).mono ?_
   rintro e w1 ⟨rfl,q1⟩
   have HC1:Hid _:=fun (_:Unit)=>HCC.out w1 (HD.out.kept q1)
   simp only [Option.isSome_some]
   clear HG HCC
   go_wp2_with fail
   refine (diskNamed true w1).mono ?_
   rintro e w2 ⟨rfl,hw2⟩
   subst hw2
   go_wp2_with fail
   refine (HC1.out ()).mono ?_
   rintro e w3 ⟨rfl,hL,hO⟩
   have HEn:Hid (LEnded tg o d E w w3):=LEnded.same hL ((Only.of_q q1).trans hO)
   clear hL hO HC1
   go_wp2_with fail
   go_ret
   exact ⟨rfl,HEn.out⟩
theorem LDiskAt.erased {w w':World} {tg:Tags} {o d:Nat} {D:M.Dsk} {ids ps:List Nat} (h:LDiskAt w tg o d D ids ps) (i:Nat) (hn:MapNew tg o d (namesOf (D.files.eraseIdx i)) (ps.eraseIdx i) w w') :
  ∃ tg':Tags,(∀ k,k<w.heap.size→tg' k=tg k)∧LDiskAt w' tg' o d ⟨D.cap,D.files.eraseIdx i,D.dead,D.fuse⟩ (ids.eraseIdx i) (ps.eraseIdx i)∧MapOnly tg o d w w':=by
 obtain ⟨tg',h1,h2,h3⟩:=hn
 refine ⟨tg',h1,h.remap h3 h1 h2 (h.nodup.sublist (List.eraseIdx_sublist ..)) (by have:=h.lenI;rw [List.length_eraseIdx,List.length_eraseIdx,this]) (fun j p id f e1 e2 e3=>h.file _ p id f (erase_from e1) (erase_from e2) (erase_from e3)),h3⟩
theorem diskRemove (tg:Tags) (o d:Nat) (D:M.Dsk) (ids ps:List Nat) (hD:D.Fine) (nm:ByteArray) (w:World) (h:LDiskAt w tg o d D ids ps) :
  Calls Tryz.prog 100 #[.pointer (some ⟨d,0,none⟩),.string nm] w fun e w'=>e=.returned (.int .i64 ((D.remove nm).2:Nat))∧LEnded tg o d (D.remove nm).1 w w':=by
 rw [remove_chg]
 have HG:Hid _:=fun (_:Unit)=>mapGet tg o d D.files ps hD.sorted hD.good.few nm w h.map
 have HC:Hid _:=fun (c:Nat) (W:World) (hW:LDiskAt W tg o d D ids ps)=>diskChange tg o d D ids ps c hD.fuse W hW
 have HD:Hid (LDiskAt w tg o d D ids ps):=h
 have HF:Hid _:=chg_files D (codeOf (M.place D.files nm).isSome)
 cases hp:M.place D.files nm with
 | none =>
  rw [hp] at HG HF
  obtain ⟨⟨E,c⟩,hE⟩:∃ p,D.chg (codeOf false)=p:=⟨_,rfl⟩
  have hc:¬(c=0):=fun e=>by
   have:=chg_zero (D:=D) (c:=codeOf false) (by rw [hE];exact e)
   simp [codeOf] at this
  have hcb:((c:Int) == 0)=false:=by rw [beq_eq_false_iff_ne];omega
  simp only [Option.isSome_none,hE,if_neg hc]
  have HCC:Hid _:=fun (W:World) (hW:LDiskAt W tg o d D ids ps)=>HC.out (codeOf false) W hW
  rw [hE] at HCC
  clear h HC HF
  go_enter Tryz.func100,Tryz.ntmps100
  go_wp2_with fail
  refine (HG.out ()).mono ?_
  rintro e w1 ⟨rfl,q1⟩
  have HC1:Hid _:=fun (_:Unit)=>HCC.out w1 (HD.out.kept q1)
  simp only [ptrAt,Option.isSome_none]
  clear HG HCC
  go_wp2_with fail
  refine (diskNamed false w1).mono ?_
  rintro e w2 ⟨rfl,hw2⟩
  subst hw2
  go_wp2_with fail
  refine (HC1.out ()).mono ?_
  rintro e w3 ⟨rfl,hL,hO⟩
  have HEn:Hid (LEnded tg o d E w w3):=LEnded.same hL ((Only.of_q q1).trans hO)
  clear hL hO HC1
  go_wp2_with fail
  go_ret
  exact ⟨rfl,HEn.out⟩
 | some i =>
  rw [hp] at HG HF
  obtain ⟨f,p,id,e1,e2,e3,e4,_⟩:=place_ptr h hp
  rw [e4] at HG
  obtain ⟨⟨E,c⟩,hE⟩:∃ p,D.chg (codeOf true)=p:=⟨_,rfl⟩
  have hfe:E.files=D.files:=by have:=HF.out;rw [Option.isSome_some,hE] at this;exact this
  simp only [Option.isSome_some,hE,Option.getD_some]
  have HCC:Hid _:=fun (W:World) (hW:LDiskAt W tg o d D ids ps)=>HC.out (codeOf true) W hW
  rw [hE] at HCC
  have hi:i<E.files.length:=by rw [hfe];exact (List.getElem?_eq_some_iff.1 e1).1
  by_cases hc:c=0
  ·subst hc
   rw [if_pos rfl]
   have HDr:Hid _:=fun (W:World) (hW:LDiskAt W tg o d E ids ps)=>mapDrop tg o d E.files ps (by rw [hfe];exact hD.sorted) (by rw [hfe];exact hD.good.few) nm i (by rw [hfe];exact hp) W hW.map
   rw [←hfe]
   clear h HC HF e1 e2 e3 e4 hfe hE hp hi
   go_enter Tryz.func100,Tryz.ntmps100
   go_wp2_with fail
   refine (HG.out ()).mono ?_
   rintro e w1 ⟨rfl,q1⟩
   have HC1:Hid _:=fun (_:Unit)=>HCC.out w1 (HD.out.kept q1)
   simp only [Option.isSome_some]
   clear HG HCC
   go_wp2_with fail
   refine (diskNamed true w1).mono ?_
   rintro e w2 ⟨rfl,hw2⟩
   subst hw2
   go_wp2_with fail
   refine (HC1.out ()).mono ?_
   rintro e w3 ⟨rfl,hL,hO⟩
   have HC2:Hid _:=fun (_:Unit)=>HDr.out w3 hL
   have HL:Hid _:=hL
   have HO:Hid (Only o tg w w3):=(Only.of_q q1).trans hO
   clear hL hO HC1 HDr
   go_wp2_with fail
   refine (HC2.out ()).mono ?_
   rintro e w4 ⟨rfl,hN⟩
   have HEn:Hid (LEnded tg o d ⟨E.cap,E.files.eraseIdx i,E.dead,E.fuse⟩ w w4):=by
    obtain ⟨tg',a1,a2,a3⟩:=HL.out.erased i hN
    exact ⟨tg',_,_,fun k hk=>a1 k (Nat.lt_of_lt_of_le hk HO.out.size),a2,HO.out.trans a3.only⟩
   clear hN HC2
   go_wp2_with fail
   go_ret
   exact ⟨rfl,HEn.out⟩
  ·rw [if_neg hc]
   have hcb:((c:Int) == 0)=false:=by rw [beq_eq_false_iff_ne];omega
   clear h HC HF e1 e2 e3 e4 hfe hE hp hi
   go_enter Tryz.func100,Tryz.ntmps100
   go_wp2_with fail
   refine (HG.out ()).mono ?_
   rintro e w1 ⟨rfl,q1⟩
   have HC1:Hid _:=fun (_:Unit)=>HCC.out w1 (HD.out.kept q1)
   simp only [Option.isSome_some]
   clear HG HCC
   go_wp2_with fail
   refine (diskNamed true w1).mono ?_
   rintro e w2 ⟨rfl,hw2⟩
   subst hw2
   go_wp2_with fail
   refine (HC1.out ()).mono ?_
   rintro e w3 ⟨rfl,hL,hO⟩
   have HEn:Hid (LEnded tg o d E w w3):=LEnded.same hL ((Only.of_q q1).trans hO)
   clear hL hO HC1
   go_wp2_with fail
   go_ret
   exact ⟨rfl,HEn.out⟩
theorem LFileAt.text {w:World} {tg:Tags} {o p id:Nat} {f:M.Fil} {bo:Option Addr} {bc:Nat} (h:LFileAt w tg o p id f bo bc):(convert 88 9 (.slice bo f.bytes.length bc)).run Tryz.prog w=.ok (.string ⟨f.bytes.toArray⟩) w:=by
 rcases h.own.2 with ⟨hv,h0⟩|⟨g,c,cur,hv,hg,hh,_⟩
 ·injection hv with e1 e2 e3
  subst e1 e3
  have hb:f.bytes=[]:=List.eq_nil_of_length_eq_zero h0
  rw [hb]
  simp [run_convert_bytes_string w 88 9 5 none 0 0 Tryz.underlying88 Tryz.underlying5 Tryz.underlying9,Conv.bytesToString]
  rfl
 ·injection hv with e1 e2 e3
  subst e1 e3
  exact run_convert_bytes_back (P:=Tryz.prog) w 88 9 5 ⟨g,0,none⟩ bc f.bytes Tryz.underlying88 Tryz.underlying5 Tryz.underlying9 (fun j hj=>by
   have hp:(⟨g,0,none⟩:Addr).add j=⟨g,j,none⟩:=by unfold Addr.add;split<;>simp_all
   rw [hp,h.own.cellAt j (by omega)]
   simp [byteVals,List.getElem?_eq_getElem hj])
theorem diskRead (tg:Tags) (o d:Nat) (D:M.Dsk) (ids ps:List Nat) (hD:D.Fine) (nm:ByteArray) (w:World) (h:LDiskAt w tg o d D ids ps) :
  Calls Tryz.prog 42 #[.pointer (some ⟨d,0,none⟩),.string nm] w fun e w'=>e=.returned (.tuple #[.string ⟨(D.read nm).1.toArray⟩,.int .i64 ((D.read nm).2:Nat)])∧Q w w':=by
 have HG:Hid _:=fun (_:Unit)=>mapGet tg o d D.files ps hD.sorted hD.good.few nm w h.map
 have HD:Hid (LDiskAt w tg o d D ids ps):=h
 have c3:=h.c3
 unfold M.Dsk.read
 cases hd:D.dead
 ·rw [hd] at c3
  simp only [Bool.false_eq_true,if_false]
  cases hp:M.place D.files nm with
  | none =>
   rw [hp] at HG
   clear h hd
   go_enter Tryz.func42,Tryz.ntmps42
   go_wp2_with fail
   refine (HG.out ()).mono ?_
   rintro e w1 ⟨rfl,q1⟩
   simp only [ptrAt,Option.isSome_none]
   go_wp2_with fail
   go_ret2
   exact ⟨rfl,q1⟩
  | some i =>
   rw [hp] at HG
   obtain ⟨f,p,id,e1,e2,e3,e4,_⟩:=place_ptr h hp
   rw [e4] at HG
   have he:((D.files[i]?).map fun f=>f.bytes).getD []=f.bytes:=by rw [e1];rfl
   simp only [he]
   clear h hd hp e4 he
   go_enter Tryz.func42,Tryz.ntmps42
   go_wp2_with fail
   refine (HG.out ()).mono ?_
   rintro e w1 ⟨rfl,q1⟩
   simp only [Option.isSome_some]
   obtain ⟨bo,bc,hF⟩:=(HD.out.kept q1).file i p id f e2 e3 e1
   have c0:=hF.c0
   have ht:=hF.text
   clear hF HG e1 e2 e3
   obtain ⟨n,hn⟩:∃ n,f.bytes.length=n:=⟨_,rfl⟩
   rw [hn] at c0 ht
   clear hn
   go_wp2_with fail
   go_ret2
   exact ⟨rfl,q1⟩
 ·rw [hd] at c3
  simp only [if_true]
  clear h hd HG
  go_enter Tryz.func42,Tryz.ntmps42
  go_wp2_with fail
  go_ret2
  exact ⟨rfl,Q.refl w⟩
end Go.Proofs.YtekdenkllipehabGreatDoor
