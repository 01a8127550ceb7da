import Derived.Test.YtekdenkllipehabGreatDoorK22
import Derived.Test.YtekdenkllipehabGreatDoorK32
set_option maxRecDepth 100000
set_option maxHeartbeats 8000000
namespace Go.Proofs.YtekdenkllipehabGreatDoor
open Go.RowKit
structure Turned (tg:Tags) (o d c u:Nat) (w w':World):Prop where
 os:w'.os=w.os
 tape:w'.tape=w.tape
 output:w'.output=w.output
 size:w.heap.size≤w'.heap.size
 block:∀ k,k<w.heap.size→tg k≠(o,0)→tg k≠(o,u)→w'.heap[k]?=w.heap[k]?
 cell:∀ j,j≠c→w'.cell? ⟨d,j,none⟩=w.cell? ⟨d,j,none⟩
 fr:∀ j,w'.frozen? ⟨d,j,none⟩=false
theorem row_turn {w w2:World} {tg:Tags} {o d c u:Nat} {e:TypeId} {ao:Option Addr} {n cap:Nat} {v':Value} {n':Nat} {xs':List Value} (hu:u≠0)
  (hfr:∀ j,w.frozen? ⟨d,j,none⟩=false) (htd:tg d=(o,0)) (htop:d<w.heap.size) (hc:w.cell? ⟨d,c,none⟩=some (.slice ao n cap)) (htag:∀ g,(Value.slice ao n cap).ownBlock=some g→tg g=(o,u))
  (hg:w.grownBy w2 (Value.slice ao n cap).ownBlock) (ho:w2.ownsRow 0 e 1 v' n' xs') (hw:v'.ownBlock=(Value.slice ao n cap).ownBlock∨∃ g,v'.ownBlock=some g∧w.heap.size≤g) :
  Turned tg o d c u w (w2.setCell ⟨d,c,none⟩ v')∧(w2.setCell ⟨d,c,none⟩ v').cell? ⟨d,c,none⟩=some v'∧(w2.setCell ⟨d,c,none⟩ v').ownsRow 0 e 1 v' n' xs'∧(∀ g,v'.ownBlock=some g→(tg.more w.heap.size o u) g=(o,u))∧(∀ j,w2.cell? ⟨d,j,none⟩=w.cell? ⟨d,j,none⟩)∧∀ j,w2.frozen? ⟨d,j,none⟩=false:=by
 have hdb:w2.heap[d]?=w.heap[d]?:=hg.block d htop (fun e=>tag_ne (htag d e.symm) hu htd)
 have htag':∀ g,v'.ownBlock=some g→(tg.more w.heap.size o u) g=(o,u):=fun g hgb=>by
  rcases Nat.lt_or_ge g w.heap.size with hl|hl
  ·rw [Tags.more_old hl]
   rcases hw with e|⟨g',e,h2⟩
   ·exact htag g (e.symm.trans hgb)
   ·rw [e] at hgb;injection hgb with hgb;omega
  ·exact Tags.more_new hl
 refine ⟨⟨hg.os,hg.tape,hg.output,by simpa using hg.size,fun k hk h0 h1=>?_,fun j hj=>?_,fun j=>?_⟩,?_,?_,htag',fun j=>World.cell?_of_block (a:=⟨d,j,none⟩) hdb,fun j=>(World.frozen?_of_block (a:=⟨d,j,none⟩) hdb).trans (hfr j)⟩
 ·rw [heap_setCell_other w2 ⟨d,c,none⟩ k v' (fun e=>h0 (by simp at e;rw [e];exact htd))]
  exact hg.block k hk (fun e=>h1 (htag k e.symm))
 ·rw [World.cell?_setCell_other _ _ _ _ (by intro e;injection e with _ e2;exact hj e2.symm)]
  exact World.cell?_of_block (a:=⟨d,j,none⟩) hdb
 ·rw [World.frozen?_setCell]
  exact (World.frozen?_of_block (a:=⟨d,j,none⟩) hdb).trans (hfr j)
 ·exact World.cell?_setCell_same _ _ _ ((World.cell?_of_block (a:=⟨d,c,none⟩) hdb).trans hc)
 ·refine row_keep ho (fun g hgb=>heap_setCell_other w2 ⟨d,c,none⟩ g v' (fun e=>?_))
  simp at e
  have h1:=htag' g hgb
  rw [e,Tags.more_old htop] at h1
  exact tag_ne h1 hu htd
theorem Turned.row {tg:Tags} {o d c u:Nat} {w w':World} (h:Turned tg o d c u w w') {c' u' n:Nat} {e:TypeId} {v:Value} {xs:List Value} (hc:c'≠c) (hu:u'≠u) (h0:u'≠0) (hcell:w.cell? ⟨d,c',none⟩=some v) (hr:w.ownsRow 0 e 1 v n xs) (ht:∀ g,v.ownBlock=some g→tg g=(o,u')) :
  w'.cell? ⟨d,c',none⟩=some v∧w'.ownsRow 0 e 1 v n xs:=
 ⟨(h.cell c' hc).trans hcell,row_keep hr (fun g hg=>h.block g (hr.lt g hg).2 (tag_ne (ht g hg) h0) (tag_ne (ht g hg) hu))⟩
theorem strVals_one (l:List ByteArray):∀ x∈strVals l,x.oneCell'=true:=fun x hx=>by
 simp only [strVals,List.mem_map] at hx
 obtain ⟨_,_,rfl⟩:=hx
 rfl
theorem ptrVals_one (l:List Nat):∀ x∈ptrVals l,x.oneCell'=true:=fun x hx=>by
 simp only [ptrVals,List.mem_map] at hx
 obtain ⟨_,_,rfl⟩:=hx
 rfl
theorem insAt_map {α β:Type} (f:α→β) (l:List α) (i:Nat) (x:α):insAt (l.map f) i (f x)=(insAt l i x).map f:=by simp [insAt]
theorem erase_map {α β:Type} (f:α→β) (l:List α) (i:Nat):(l.map f).eraseIdx i=(l.eraseIdx i).map f:=by simp [List.eraseIdx_eq_take_drop_succ,List.map_append]
def MapNew (tg:Tags) (o d:Nat) (names:List ByteArray) (ps:List Nat) (w w':World):Prop:=
 ∃ tg':Tags,(∀ k,k<w.heap.size→tg' k=tg k)∧MapAt w' tg' o d names ps∧MapOnly tg o d w w'
theorem map_turned {tg:Tags} {o d:Nat} {w wa wb:World} (hq:Turned tg o d 1 1 w wa) (hr:Turned (tg.more w.heap.size o 1) o d 2 2 wa wb) (htd:tg d=(o,0)) (htop:d<w.heap.size)
  {names:List ByteArray} {ps:List Nat} {v1 v2:Value} (hl:ps.length=names.length)
  (k1:wa.cell? ⟨d,1,none⟩=some v1) (k2:wa.ownsRow 0 9 1 v1 names.length (strVals names)) (k3:∀ g,v1.ownBlock=some g→(tg.more w.heap.size o 1) g=(o,1))
  (l1:wb.cell? ⟨d,2,none⟩=some v2) (l2:wb.ownsRow 0 87 1 v2 names.length (ptrVals ps)) (l3:∀ g,v2.ownBlock=some g→((tg.more w.heap.size o 1).more wa.heap.size o 2) g=(o,2)) :
  MapNew tg o d names ps w wb:=by
 have hold:∀ k,k<w.heap.size→((tg.more w.heap.size o 1).more wa.heap.size o 2) k=tg k:=fun k hk=>by rw [Tags.more_old (Nat.lt_of_lt_of_le hk hq.size),Tags.more_old hk]
 obtain ⟨m1,m2⟩:=hr.row (c':=1) (u':=1) (by decide) (by decide) (by decide) k1 k2 k3
 obtain ⟨a1,c1,rfl⟩:=own_form k2
 obtain ⟨a2,c2,rfl⟩:=own_form l2
 refine ⟨_,hold,⟨hr.fr,(hold d htop).trans htd,Nat.lt_of_lt_of_le htop (Nat.le_trans hq.size hr.size),⟨a1,c1,m1,m2,fun g hg=>?_⟩,⟨a2,c2,l1,l2,l3⟩,hl⟩,⟨hr.os.trans hq.os,hr.tape.trans hq.tape,hr.output.trans hq.output,Nat.le_trans hq.size hr.size,fun k hk h0 h1 h2=>?_,?_,?_,?_⟩⟩
 ·rw [Tags.more_old (k2.lt g hg).2]
  exact k3 g hg
 ·rw [hr.block k (Nat.lt_of_lt_of_le hk hq.size) (by rw [Tags.more_old hk];exact h0) (by rw [Tags.more_old hk];exact h2)]
  exact hq.block k hk h0 h1
 ·exact (hr.cell 0 (by decide)).trans (hq.cell 0 (by decide))
 ·exact (hr.cell 3 (by decide)).trans (hq.cell 3 (by decide))
 ·exact (hr.cell 4 (by decide)).trans (hq.cell 4 (by decide))
theorem MapNew.after {tg:Tags} {o d:Nat} {names:List ByteArray} {ps:List Nat} {w w1 w':World} (h:MapNew tg o d names ps w1 w') (q:Q w w1) (hd:d<w.heap.size):MapNew tg o d names ps w w':=by
 obtain ⟨tg',h1,h2,h3⟩:=h
 have hs:=q.below.size
 have hdb:=q.below.block d hd
 exact ⟨tg',fun k hk=>h1 k (Nat.lt_of_lt_of_le hk hs),h2,⟨h3.os.trans q.below.os,h3.tape.trans q.below.tape,h3.output.trans q.below.output,Nat.le_trans hs h3.size,fun k hk a b c=>(h3.block k (Nat.lt_of_lt_of_le hk hs) a b c).trans (q.below.block k hk),h3.c0.trans (World.cell?_of_block (a:=⟨d,0,none⟩) hdb),h3.c3.trans (World.cell?_of_block (a:=⟨d,3,none⟩) hdb),h3.c4.trans (World.cell?_of_block (a:=⟨d,4,none⟩) hdb)⟩⟩
theorem alloc_cells_new (w:World) (u:Value) (t:TypeId):(w.alloc (.cells #[u] t)).heap[w.heap.size]?=some (.cells #[u] t (0,0)):=heap_alloc_new w _
theorem mapPut_new (tg:Tags) (o d:Nat) (fs:List M.Fil) (ps:List Nat) (hs:M.Sorted fs) (hl:fs.length≤64) (nm:ByteArray) (p:Nat) (hp:M.place fs nm=none) (w:World) (h:MapAt w tg o d (namesOf fs) ps) :
  Calls Tryz.prog 72 #[.pointer (some ⟨d,1,none⟩),.string nm,.pointer (some ⟨p,0,none⟩)] w fun e w'=>e=.returned (.tuple #[])∧MapNew tg o d (insAt (namesOf fs) (M.lowAt fs nm) nm) (insAt ps (M.lowAt fs nm) p) w w':=by
 have HM:Hid (MapAt w tg o d (namesOf fs) ps):=h
 have htop:=h.top
 obtain ⟨a1,k1,r1,r2,r3⟩:=h.keys
 rw [namesOf_length] at r1 r2
 have HB:Hid _:=fun (_:Unit)=>bsearch fs hs hl nm a1 k1 w r2
 rw [hp] at HB
 have hle:=M.lowAt_le fs nm
 obtain ⟨i,hi⟩:∃ i,M.lowAt fs nm=i:=⟨_,rfl⟩
 rw [hi] at HB hle ⊢
 clear h r2 r3
 go_enter Tryz.func72,Tryz.ntmps72
 go_wp2_with fail
 refine (HB.out ()).mono ?_
 rintro e w1 ⟨rfl,q1⟩
 have hm1:MapAt w1 tg o d (namesOf fs) ps:=HM.out.kept q1
 obtain ⟨b1,c1,s1,s2,s3⟩:=hm1.keys
 rw [namesOf_length] at s1 s2 s3
 have hlS:(strVals (namesOf fs)).length=fs.length:=by simp [strVals]
 have HI:Hid _:=fun (_:Unit)=>insertS (.slice b1 fs.length c1) fs.length (strVals (namesOf fs)) i w1.heap.size (.string nm) (w1.alloc (.cells #[.string nm] 9)) hle (by omega) (s2.alloc _) (strVals_one _) rfl
  (fun e=>by have:=(s2.lt _ e).2;omega) (alloc_cells_new w1 (.string nm) 9)
 have HS1:Hid _:=s2
 have HS3:Hid _:=s3
 have HM1:Hid (MapAt w1 tg o d (namesOf fs) ps):=hm1
 have HQ1:Hid (Q w w1):=q1
 clear HB s2 s3 hm1 q1 hlS
 go_wp2_with fail
 refine (HI.out ()).mono ?_
 rintro e w2 ⟨v1,rfl,t2,t3,t4⟩
 have T1:=row_turn (w:=w1) (tg:=tg) (o:=o) (d:=d) (c:=1) (u:=1) (by decide) HM1.out.fr HM1.out.td HM1.out.top s1 HS3.out ((grown_alloc w1 _ _).trans t3) t2 (t4.imp id (fun ⟨g,h1,h2⟩=>⟨g,h1,by simp at h2;omega⟩))
 obtain ⟨b2,c2,y1,y2,y3⟩:=HM1.out.vals
 rw [namesOf_length] at y1 y2 y3
 obtain ⟨x1,x2,rfl⟩:=own_form t2
 have hc1:w2.cell? ⟨d,1,none⟩=_:=(T1.2.2.2.2.1 1).trans s1
 have hc2:w2.cell? ⟨d,2,none⟩=_:=(T1.2.2.2.2.1 2).trans y1
 have hf1:=T1.2.2.2.2.2 1
 have hf2:=T1.2.2.2.2.2 2
 have hV:=T1.1.row (c':=2) (u':=2) (by decide) (by decide) (by decide) y1 y2 y3
 have hlt2:∀ g,(Value.slice b2 fs.length c2).ownBlock=some g→(tg.more w1.heap.size o 1) g=(o,2):=fun g hg=>by rw [Tags.more_old (y2.lt g hg).2];exact y3 g hg
 have HI2:Hid _:=fun (_:Unit)=>insertP (.slice b2 fs.length c2) fs.length (ptrVals ps) i w2.heap.size (.pointer (some ⟨p,0,none⟩)) ((w2.setCell ⟨d,1,none⟩ (.slice x1 (fs.length+1) x2)).alloc (.cells #[.pointer (some ⟨p,0,none⟩)] 87)) hle (by omega) (hV.2.alloc _) (ptrVals_one _) rfl
  (fun e=>by have:=(hV.2.lt _ e).2;simp at this) (by have:=alloc_cells_new (w2.setCell ⟨d,1,none⟩ (.slice x1 (fs.length+1) x2)) (.pointer (some ⟨p,0,none⟩)) 87;simpa using this)
 have HT1:Hid _:=T1
 have HV:Hid _:=hV
 have HL2:Hid _:=hlt2
 clear HI T1 t2 t3 t4 hV hlt2 y1 y2 y3
 go_wp2_with fail
 refine (HI2.out ()).mono ?_
 rintro e w3 ⟨v2,rfl,t2,t3,t4⟩
 have T2:=row_turn (w:=w2.setCell ⟨d,1,none⟩ (.slice x1 (fs.length+1) x2)) (tg:=tg.more w1.heap.size o 1) (o:=o) (d:=d) (c:=2) (u:=2) (by decide) HT1.out.1.fr ((Tags.more_old HM1.out.top).trans HM1.out.td) (Nat.lt_of_lt_of_le HM1.out.top HT1.out.1.size) HV.out.1 HL2.out ((grown_alloc _ _ _).trans t3) t2 (t4.imp id (fun ⟨g,h1,h2⟩=>⟨g,h1,by simp at h2 ⊢;omega⟩))
 obtain ⟨x3,x4,rfl⟩:=own_form t2
 have hc3:w3.cell? ⟨d,2,none⟩=_:=(T2.2.2.2.2.1 2).trans HV.out.1
 have hf3:=T2.2.2.2.2.2 2
 have HF:Hid (MapNew tg o d (insAt (namesOf fs) i nm) (insAt ps i p) w (w3.setCell ⟨d,2,none⟩ (.slice x3 (fs.length+1) x4))):=by
  have hnl:(insAt (namesOf fs) i nm).length=fs.length+1:=by rw [insAt_length (by simpa using hle)];simp
  have e1:insAt (strVals (namesOf fs)) i (.string nm)=strVals (insAt (namesOf fs) i nm):=insAt_map _ _ _ _
  have e2:insAt (ptrVals ps) i (.pointer (some ⟨p,0,none⟩))=ptrVals (insAt ps i p):=insAt_map (fun p=>Value.pointer (some ⟨p,0,none⟩)) _ _ _
  obtain ⟨z1,z2,z3,z4,_⟩:=HT1.out
  obtain ⟨u1,u2,u3,u4,_⟩:=T2
  rw [e1] at z3
  rw [e2] at u3
  have hpl:ps.length=fs.length:=by have:=HM1.out.len;simpa using this
  refine MapNew.after (map_turned z1 u1 HM1.out.td HM1.out.top (by rw [insAt_length (by omega),hnl];omega) z2 (by rw [hnl];exact z3) z4 u2 (by rw [hnl];exact u3) u4) HQ1.out HM.out.top
 clear HI2 T2 t2 t3 t4 HT1 HV HL2 hc1 hc2 hf1 hf2
 go_wp2_with fail
 go_end0
 exact ⟨rfl,HF.out⟩
theorem ptrVals_set (ps:List Nat) (i p:Nat):(ptrVals ps).set i (.pointer (some ⟨p,0,none⟩))=ptrVals (ps.set i p):=by simp [ptrVals,List.map_set]
theorem mapPut_there (tg:Tags) (o d:Nat) (fs:List M.Fil) (ps:List Nat) (hs:M.Sorted fs) (hl:fs.length≤64) (nm:ByteArray) (p i:Nat) (hp:M.place fs nm=some i) (w:World) (h:MapAt w tg o d (namesOf fs) ps) :
  Calls Tryz.prog 72 #[.pointer (some ⟨d,1,none⟩),.string nm,.pointer (some ⟨p,0,none⟩)] w fun e w'=>e=.returned (.tuple #[])∧MapNew tg o d (namesOf fs) (ps.set i p) w w':=by
 have HM:Hid (MapAt w tg o d (namesOf fs) ps):=h
 have htop:=h.top
 obtain ⟨a1,k1,r1,r2,r3⟩:=h.keys
 rw [namesOf_length] at r1 r2
 have HB:Hid _:=fun (_:Unit)=>bsearch fs hs hl nm a1 k1 w r2
 rw [hp,M.place_low hs hp] at HB
 obtain ⟨f,hf,_,_⟩:=M.place_some hp
 have hi:i<fs.length:=(List.getElem?_eq_some_iff.1 hf).1
 clear h r2 r3 hf
 go_enter Tryz.func72,Tryz.ntmps72
 go_wp2_with fail
 refine (HB.out ()).mono ?_
 rintro e w1 ⟨rfl,q1⟩
 have hm1:MapAt w1 tg o d (namesOf fs) ps:=HM.out.kept q1
 obtain ⟨g,cap,gv,capv,p0,e1,e2,e6,e7,_,e9,e3,_,e4⟩:=hm1.at (i:=i) (by simpa using hi)
 rw [namesOf_length] at e1 e2
 have e5:=e4 i p0 e3
 have hfz:w1.frozen? ⟨gv,i,none⟩=false:=by
  obtain ⟨b2,c2,y1,y2,_⟩:=hm1.vals
  rw [namesOf_length] at y1 y2
  rw [e2] at y1
  injection y1 with y1
  rw [←y1] at y2
  rcases y2.2 with ⟨hv,_⟩|⟨g',c,cur,hv,_,hh,_⟩
  ·injection hv with e;simp at e
  ·injection hv with e
   injection e with e
   injection e with e
   subst e
   exact frozen_of_row w1 gv i cur _ hh
 have HF:Hid (MapNew tg o d (namesOf fs) (ps.set i p) w (w1.setCell ⟨gv,i,none⟩ (.pointer (some ⟨p,0,none⟩)))):=by
  have hne:∀ k,tg k≠(o,2)→(w1.setCell ⟨gv,i,none⟩ (.pointer (some ⟨p,0,none⟩))).heap[k]?=w1.heap[k]?:=fun k hk=>heap_setCell_other w1 ⟨gv,i,none⟩ k _ (fun e=>hk (by simp at e;rw [e];exact e7))
  have hd:=hne d (tag_ne hm1.td (by decide))
  obtain ⟨b1,c1,s1,s2,s3⟩:=hm1.keys
  obtain ⟨b2,c2,y1,y2,y3⟩:=hm1.vals
  rw [namesOf_length] at y1 y2 y3
  rw [e2] at y1
  injection y1 with y1
  rw [←y1] at y2 y3
  have hst:=(y2.stored i (.pointer (some ⟨p,0,none⟩))).1
  rw [ptrVals_set] at hst
  refine MapNew.after (w1:=w1) ⟨tg,fun _ _=>rfl,⟨fun j=>(World.frozen?_of_block (a:=⟨d,j,none⟩) hd).trans (hm1.fr j),hm1.td,by simpa using hm1.top,⟨b1,c1,(World.cell?_of_block (a:=⟨d,1,none⟩) hd).trans s1,row_keep s2 (fun k hk=>hne k (tag_ne (s3 k hk) (by decide))),s3⟩,
   ⟨some ⟨gv,0,none⟩,capv,by rw [namesOf_length];exact (World.cell?_of_block (a:=⟨d,2,none⟩) hd).trans e2,by rw [namesOf_length];exact hst,by rw [namesOf_length];exact y3⟩,by simpa using hm1.len⟩,
   ⟨rfl,rfl,rfl,by simp,fun k _ _ _ h2=>hne k h2,World.cell?_of_block (a:=⟨d,0,none⟩) hd,World.cell?_of_block (a:=⟨d,3,none⟩) hd,World.cell?_of_block (a:=⟨d,4,none⟩) hd⟩⟩ q1 HM.out.top
 clear HB e1 e3 e4 e6 e7 e9 hm1 q1
 go_wp2_with fail
 refine bodyPost_ret (results_none rfl _ _ _) rfl ?_
 exact ⟨rfl,HF.out⟩
theorem mapDrop (tg:Tags) (o d:Nat) (fs:List M.Fil) (ps:List Nat) (hs:M.Sorted fs) (hl:fs.length≤64) (nm:ByteArray) (i:Nat) (hp:M.place fs nm=some i) (w:World) (h:MapAt w tg o d (namesOf fs) ps) :
  Calls Tryz.prog 130 #[.pointer (some ⟨d,1,none⟩),.string nm] w fun e w'=>e=.returned (.tuple #[])∧MapNew tg o d (namesOf (fs.eraseIdx i)) (ps.eraseIdx i) w w':=by
 have HM:Hid (MapAt w tg o d (namesOf fs) ps):=h
 have htop:=h.top
 obtain ⟨a1,k1,r1,r2,r3⟩:=h.keys
 rw [namesOf_length] at r1 r2
 have HB:Hid _:=fun (_:Unit)=>bsearch fs hs hl nm a1 k1 w r2
 rw [hp,M.place_low hs hp] at HB
 obtain ⟨f,hf,_,_⟩:=M.place_some hp
 have hi:i<fs.length:=(List.getElem?_eq_some_iff.1 hf).1
 clear h r2 r3 hf
 go_enter Tryz.func130,Tryz.ntmps130
 go_wp2_with fail
 refine (HB.out ()).mono ?_
 rintro e w1 ⟨rfl,q1⟩
 have hm1:MapAt w1 tg o d (namesOf fs) ps:=HM.out.kept q1
 obtain ⟨b1,c1,s1,s2,s3⟩:=hm1.keys
 rw [namesOf_length] at s1 s2 s3
 have HI:Hid _:=fun (_:Unit)=>deleteS (.slice b1 fs.length c1) fs.length (strVals (namesOf fs)) i w1 hi (by omega) s2 (strVals_one _)
 have HS3:Hid _:=s3
 have HM1:Hid (MapAt w1 tg o d (namesOf fs) ps):=hm1
 have HQ1:Hid (Q w w1):=q1
 have hwi:IntKind.i64.wrap ((i:Int)+1)=(i:Int)+1:=by rw [IntKind.wrap_i64];omega
 clear HB s2 s3 hm1 q1
 go_wp2_with fail
 refine (HI.out ()).mono ?_
 rintro e w2 ⟨v1,rfl,t2,t3,t4⟩
 have T1:=row_turn (w:=w1) (tg:=tg) (o:=o) (d:=d) (c:=1) (u:=1) (by decide) HM1.out.fr HM1.out.td HM1.out.top s1 HS3.out t3 t2 (Or.inl t4)
 obtain ⟨b2,c2,y1,y2,y3⟩:=HM1.out.vals
 rw [namesOf_length] at y1 y2 y3
 obtain ⟨x1,x2,rfl⟩:=own_form t2
 have hc1:w2.cell? ⟨d,1,none⟩=_:=(T1.2.2.2.2.1 1).trans s1
 have hc2:w2.cell? ⟨d,2,none⟩=_:=(T1.2.2.2.2.1 2).trans y1
 have hf1:=T1.2.2.2.2.2 1
 have hf2:=T1.2.2.2.2.2 2
 have hV:=T1.1.row (c':=2) (u':=2) (by decide) (by decide) (by decide) y1 y2 y3
 have hlt2:∀ g,(Value.slice b2 fs.length c2).ownBlock=some g→(tg.more w1.heap.size o 1) g=(o,2):=fun g hg=>by rw [Tags.more_old (y2.lt g hg).2];exact y3 g hg
 have HI2:Hid _:=fun (_:Unit)=>deleteP (.slice b2 fs.length c2) fs.length (ptrVals ps) i (w2.setCell ⟨d,1,none⟩ (.slice x1 (fs.length-1) x2)) hi (by omega) hV.2 (ptrVals_one _)
 have HT1:Hid _:=T1
 have HV:Hid _:=hV
 have HL2:Hid _:=hlt2
 clear HI T1 t2 t3 t4 hV hlt2 y1 y2 y3
 go_wp2_with fail
 refine (HI2.out ()).mono ?_
 rintro e w3 ⟨v2,rfl,t2,t3,t4⟩
 have T2:=row_turn (w:=w2.setCell ⟨d,1,none⟩ (.slice x1 (fs.length-1) x2)) (tg:=tg.more w1.heap.size o 1) (o:=o) (d:=d) (c:=2) (u:=2) (by decide) HT1.out.1.fr ((Tags.more_old HM1.out.top).trans HM1.out.td) (Nat.lt_of_lt_of_le HM1.out.top HT1.out.1.size) HV.out.1 HL2.out t3 t2 (Or.inl t4)
 obtain ⟨x3,x4,rfl⟩:=own_form t2
 have hc3:w3.cell? ⟨d,2,none⟩=_:=(T2.2.2.2.2.1 2).trans HV.out.1
 have hf3:=T2.2.2.2.2.2 2
 have HF:Hid (MapNew tg o d (namesOf (fs.eraseIdx i)) (ps.eraseIdx i) w (w3.setCell ⟨d,2,none⟩ (.slice x3 (fs.length-1) x4))):=by
  have hnl:(namesOf (fs.eraseIdx i)).length=fs.length-1:=by rw [namesOf_length,List.length_eraseIdx,if_pos hi]
  have e1:(strVals (namesOf fs)).eraseIdx i=strVals (namesOf (fs.eraseIdx i)):=by unfold strVals namesOf;rw [erase_map,erase_map]
  have e2:(ptrVals ps).eraseIdx i=ptrVals (ps.eraseIdx i):=by unfold ptrVals;rw [erase_map]
  obtain ⟨z1,z2,z3,z4,_⟩:=HT1.out
  obtain ⟨u1,u2,u3,u4,_⟩:=T2
  rw [e1] at z3
  rw [e2] at u3
  have hpl:ps.length=fs.length:=by have:=HM1.out.len;simpa using this
  refine MapNew.after (map_turned z1 u1 HM1.out.td HM1.out.top (by rw [List.length_eraseIdx,if_pos (by omega),hnl];omega) z2 (by rw [hnl];exact z3) z4 u2 (by rw [hnl];exact u3) u4) HQ1.out HM.out.top
 clear HI2 T2 t2 t3 t4 HT1 HV HL2 hc1 hc2 hf1 hf2
 go_wp2_with fail
 go_end0
 exact ⟨rfl,HF.out⟩
def intVals (l:List Int):List Value:=l.map fun n=>.int .i64 n
structure KMap (w:World) (tg:Tags) (o d c u:Nat) (tv:TypeId) (ks:List ByteArray) (vs:List Value):Prop where
 top:d<w.heap.size
 keys:∃ ao cap,w.cell? ⟨d,c,none⟩=some (.slice ao ks.length cap)∧w.ownsRow 0 9 1 (.slice ao ks.length cap) ks.length (strVals ks)∧∀ g,(Value.slice ao ks.length cap).ownBlock=some g→tg g=(o,u)
 vals:∃ ao cap,w.cell? ⟨d,c+1,none⟩=some (.slice ao ks.length cap)∧w.ownsRow 0 tv 1 (.slice ao ks.length cap) ks.length vs∧∀ g,(Value.slice ao ks.length cap).ownBlock=some g→tg g=(o,u+1)
 len:vs.length=ks.length
theorem KMap.keep {w w':World} {tg tg':Tags} {o d c u:Nat} {tv:TypeId} {ks:List ByteArray} {vs:List Value} (h:KMap w tg o d c u tv ks vs) (hs:w.heap.size≤w'.heap.size) (ht:∀ k,k<w.heap.size→tg k=(o,u)∨tg k=(o,u+1)→tg' k=tg k)
  (hd:w'.cell? ⟨d,c,none⟩=w.cell? ⟨d,c,none⟩) (hd1:w'.cell? ⟨d,c+1,none⟩=w.cell? ⟨d,c+1,none⟩) (hb:∀ k,k<w.heap.size→tg k=(o,u)∨tg k=(o,u+1)→w'.heap[k]?=w.heap[k]?):KMap w' tg' o d c u tv ks vs:=by
 obtain ⟨a1,k1,r1,r2,r3⟩:=h.keys
 obtain ⟨a2,k2,s1,s2,s3⟩:=h.vals
 exact ⟨Nat.lt_of_lt_of_le h.top hs,
  ⟨a1,k1,hd.trans r1,row_keep r2 (fun g hg=>hb g (r2.lt g hg).2 (Or.inl (r3 g hg))),fun g hg=>(ht g (r2.lt g hg).2 (Or.inl (r3 g hg))).trans (r3 g hg)⟩,
  ⟨a2,k2,hd1.trans s1,row_keep s2 (fun g hg=>hb g (s2.lt g hg).2 (Or.inr (s3 g hg))),fun g hg=>(ht g (s2.lt g hg).2 (Or.inr (s3 g hg))).trans (s3 g hg)⟩,h.len⟩
theorem KMap.kept {w w':World} {tg:Tags} {o d c u:Nat} {tv:TypeId} {ks:List ByteArray} {vs:List Value} (h:KMap w tg o d c u tv ks vs) (q:Q w w'):KMap w' tg o d c u tv ks vs:=
 h.keep q.below.size (fun _ _ _=>rfl) (q.below.cell (p:=⟨d,c,none⟩) h.top) (q.below.cell (p:=⟨d,c+1,none⟩) h.top) (fun k hk _=>q.below.block k hk)
theorem KMap.empty {w:World} {tg:Tags} {o d c u:Nat} {tv:TypeId} (hd:d<w.heap.size) (h0:w.cell? ⟨d,c,none⟩=some (.slice none 0 0)) (h1:w.cell? ⟨d,c+1,none⟩=some (.slice none 0 0)):KMap w tg o d c u tv [] []:=
 ⟨hd,⟨none,0,h0,World.ownsRow_nil _ _ _ _,fun g hg=>by simp [Value.ownBlock] at hg⟩,⟨none,0,h1,World.ownsRow_nil _ _ _ _,fun g hg=>by simp [Value.ownBlock] at hg⟩,rfl⟩
theorem KMap.at {w:World} {tg:Tags} {o d c u:Nat} {tv:TypeId} {ks:List ByteArray} {vs:List Value} (h:KMap w tg o d c u tv ks vs) {i:Nat} {v:Value} (hv:vs[i]?=some v) :
  ∃ gv capv,w.cell? ⟨d,c+1,none⟩=some (.slice (some ⟨gv,0,none⟩) ks.length capv)∧w.cell? ⟨gv,i,none⟩=some v:=by
 obtain ⟨a2,k2,s1,s2,s3⟩:=h.vals
 have hi:i<vs.length:=(List.getElem?_eq_some_iff.1 hv).1
 have hl:=h.len
 rcases s2.2 with ⟨_,h0⟩|⟨gv,cv,curv,hvv,_,hhv,_⟩
 ·omega
 injection hvv with f1 f2 f3
 subst f1 f3
 refine ⟨gv,k2,s1,?_⟩
 rw [s2.cellAt i (by omega)]
 exact hv
theorem kGetI (tg:Tags) (o d c u:Nat) (ks:List ByteArray) (vs:List Value) (hs:S.Rising ks) (hl:ks.length≤1048576) (nm:ByteArray) (HV:∀ (i:Nat) (v:Value),vs[i]?=some v→∃ n,v=Value.int .i64 n) (w:World) (h:KMap w tg o d c u 3 ks vs) :
  Calls Tryz.prog 64 #[.pointer (some ⟨d,c,none⟩),.string nm] w fun e w'=>e=.returned (.tuple #[if S.hasK ks nm=true then (vs[S.lowK ks nm]?).getD (.int .i64 0) else .int .i64 0,.bool (S.hasK ks nm)])∧Q w w':=by
 have HM:Hid (KMap w tg o d c u 3 ks vs):=h
 obtain ⟨a1,k1,r1,r2,r3⟩:=h.keys
 have HB:Hid _:=fun (_:Unit)=>bsearchK ks hs (by omega) nm 0 a1 k1 w r2
 cases hp:S.hasK ks nm with
 | false =>
  rw [hp] at HB
  clear h r2 r3
  go_enter Tryz.func64,Tryz.ntmps64
  go_wp2_with fail
  refine (HB.out ()).mono ?_
  rintro e w1 ⟨rfl,q1⟩
  go_wp2_with fail
  go_ret2
  exact ⟨rfl,q1⟩
 | true =>
  rw [hp] at HB
  have hm:=(S.mem_lowK hs).1 (S.hasK_iff.1 hp)
  have hi:S.lowK ks nm<ks.length:=(List.getElem?_eq_some_iff.1 hm).1
  obtain ⟨i,hii⟩:∃ i,S.lowK ks nm=i:=⟨_,rfl⟩
  rw [hii] at HB hi ⊢
  obtain ⟨v,hv⟩:∃ v,vs[i]?=some v:=⟨_,List.getElem?_eq_getElem (by rw [h.len];exact hi)⟩
  obtain ⟨gv,capv,e2,e5⟩:=HM.out.at hv
  obtain ⟨n,rfl⟩:=HV i v hv
  rw [hv]
  simp only [if_true,Option.getD_some]
  clear h r2 r3 hp hm hii hv HV
  go_enter Tryz.func64,Tryz.ntmps64
  go_wp2_with fail
  refine (HB.out ()).mono ?_
  rintro e w1 ⟨rfl,q1⟩
  have k2:=kept_cell e2 q1
  have k5:=kept_cell e5 q1
  clear HB
  go_wp2_with fail
  go_ret2
  exact ⟨rfl,q1⟩
theorem kGetM (tg:Tags) (o d c u:Nat) (ks:List ByteArray) (vs:List Value) (hs:S.Rising ks) (hl:ks.length≤1048576) (nm:ByteArray) (HV:∀ (i:Nat) (v:Value),vs[i]?=some v→∃ p:Option Addr,v=Value.pointer p) (w:World) (h:KMap w tg o d c u 105 ks vs) :
  Calls Tryz.prog 52 #[.pointer (some ⟨d,c,none⟩),.string nm] w fun e w'=>e=.returned (.tuple #[if S.hasK ks nm=true then (vs[S.lowK ks nm]?).getD (.pointer none) else .pointer none,.bool (S.hasK ks nm)])∧Q w w':=by
 have HM:Hid (KMap w tg o d c u 105 ks vs):=h
 obtain ⟨a1,k1,r1,r2,r3⟩:=h.keys
 have HB:Hid _:=fun (_:Unit)=>bsearchK ks hs (by omega) nm 0 a1 k1 w r2
 cases hp:S.hasK ks nm with
 | false =>
  rw [hp] at HB
  clear h r2 r3
  go_enter Tryz.func52,Tryz.ntmps52
  go_wp2_with fail
  refine (HB.out ()).mono ?_
  rintro e w1 ⟨rfl,q1⟩
  go_wp2_with fail
  go_ret2
  exact ⟨rfl,q1⟩
 | true =>
  rw [hp] at HB
  have hm:=(S.mem_lowK hs).1 (S.hasK_iff.1 hp)
  have hi:S.lowK ks nm<ks.length:=(List.getElem?_eq_some_iff.1 hm).1
  obtain ⟨i,hii⟩:∃ i,S.lowK ks nm=i:=⟨_,rfl⟩
  rw [hii] at HB hi ⊢
  obtain ⟨v,hv⟩:∃ v,vs[i]?=some v:=⟨_,List.getElem?_eq_getElem (by rw [h.len];exact hi)⟩
  obtain ⟨gv,capv,e2,e5⟩:=HM.out.at hv
  obtain ⟨p,rfl⟩:=HV i v hv
  rw [hv]
  simp only [if_true,Option.getD_some]
  clear h r2 r3 hp hm hii hv HV
  go_enter Tryz.func52,Tryz.ntmps52
  go_wp2_with fail
  refine (HB.out ()).mono ?_
  rintro e w1 ⟨rfl,q1⟩
  have k2:=kept_cell e2 q1
  have k5:=kept_cell e5 q1
  clear HB
  go_wp2_with fail
  go_ret2
  exact ⟨rfl,q1⟩
structure RowTurned (tg:Tags) (o d c u:Nat) (w w':World):Prop where
 os:w'.os=w.os
 tape:w'.tape=w.tape
 output:w'.output=w.output
 size:w.heap.size≤w'.heap.size
 block:∀ k,k<w.heap.size→k≠d→tg k≠(o,u)→w'.heap[k]?=w.heap[k]?
 cell:∀ j,j≠c→w'.cell? ⟨d,j,none⟩=w.cell? ⟨d,j,none⟩
 fr:∀ j,w'.frozen? ⟨d,j,none⟩=w.frozen? ⟨d,j,none⟩
theorem rowTurned {w w2:World} {tg:Tags} {o d c u:Nat} {e:TypeId} {ao:Option Addr} {n cap sz:Nat} {v':Value} {n':Nat} {xs':List Value} (hd:tg d≠(o,u)) (htop:d<w.heap.size) (hc:w.cell? ⟨d,c,none⟩=some (.slice ao n cap)) (htag:∀ g,(Value.slice ao n cap).ownBlock=some g→tg g=(o,u))
  (hg:w.grownBy w2 (Value.slice ao n cap).ownBlock) (ho:w2.ownsRow 0 e sz v' n' xs') (hw:v'.ownBlock=(Value.slice ao n cap).ownBlock∨∃ g,v'.ownBlock=some g∧w.heap.size≤g) :
  RowTurned tg o d c u w (w2.setCell ⟨d,c,none⟩ v')∧(w2.setCell ⟨d,c,none⟩ v').cell? ⟨d,c,none⟩=some v'∧(w2.setCell ⟨d,c,none⟩ v').ownsRow 0 e sz v' n' xs'∧(∀ g,v'.ownBlock=some g→(tg.more w.heap.size o u) g=(o,u))∧(∀ j,w2.cell? ⟨d,j,none⟩=w.cell? ⟨d,j,none⟩)∧∀ j,w2.frozen? ⟨d,j,none⟩=w.frozen? ⟨d,j,none⟩:=by
 have hdb:w2.heap[d]?=w.heap[d]?:=hg.block d htop (fun e=>hd (htag d e.symm))
 have htag':∀ g,v'.ownBlock=some g→(tg.more w.heap.size o u) g=(o,u):=fun g hgb=>by
  rcases Nat.lt_or_ge g w.heap.size with hl|hl
  ·rw [Tags.more_old hl]
   rcases hw with e|⟨g',e,h2⟩
   ·exact htag g (e.symm.trans hgb)
   ·rw [e] at hgb;injection hgb with hgb;omega
  ·exact Tags.more_new hl
 refine ⟨⟨hg.os,hg.tape,hg.output,by simpa using hg.size,fun k hk h0 h1=>?_,fun j hj=>?_,fun j=>?_⟩,?_,?_,htag',fun j=>World.cell?_of_block (a:=⟨d,j,none⟩) hdb,fun j=>World.frozen?_of_block (a:=⟨d,j,none⟩) hdb⟩
 ·rw [heap_setCell_other w2 ⟨d,c,none⟩ k v' (fun e=>h0 (by simpa using e))]
  exact hg.block k hk (fun e=>h1 (htag k e.symm))
 ·rw [World.cell?_setCell_other _ _ _ _ (by intro e;injection e with _ e2;exact hj e2.symm)]
  exact World.cell?_of_block (a:=⟨d,j,none⟩) hdb
 ·rw [World.frozen?_setCell]
  exact World.frozen?_of_block (a:=⟨d,j,none⟩) hdb
 ·exact World.cell?_setCell_same _ _ _ ((World.cell?_of_block (a:=⟨d,c,none⟩) hdb).trans hc)
 ·refine row_keep ho (fun g hgb=>heap_setCell_other w2 ⟨d,c,none⟩ g v' (fun e=>?_))
  simp at e
  have h1:=htag' g hgb
  rw [e,Tags.more_old htop] at h1
  exact hd h1
structure KOnly (tg:Tags) (o d c u:Nat) (w w':World):Prop where
 os:w'.os=w.os
 tape:w'.tape=w.tape
 output:w'.output=w.output
 size:w.heap.size≤w'.heap.size
 block:∀ k,k<w.heap.size→k≠d→tg k≠(o,u)→tg k≠(o,u+1)→w'.heap[k]?=w.heap[k]?
 cell:∀ j,j≠c→j≠c+1→w'.cell? ⟨d,j,none⟩=w.cell? ⟨d,j,none⟩
 fr:∀ j,w'.frozen? ⟨d,j,none⟩=w.frozen? ⟨d,j,none⟩
def KMapNew (tg:Tags) (o d c u:Nat) (tv:TypeId) (ks:List ByteArray) (vs:List Value) (w w':World):Prop:=
 ∃ tg':Tags,(∀ k,k<w.heap.size→tg' k=tg k)∧KMap w' tg' o d c u tv ks vs∧KOnly tg o d c u w w'
theorem kmap_turned {tg:Tags} {o d c u:Nat} {tv:TypeId} {w wa wb:World} (hq:RowTurned tg o d c u w wa) (hr:RowTurned (tg.more w.heap.size o u) o d (c+1) (u+1) wa wb) (hd:tg d≠(o,u)∧tg d≠(o,u+1)) (htop:d<w.heap.size)
  {ks:List ByteArray} {vs:List Value} {v1 v2:Value} (hl:vs.length=ks.length)
  (k1:wa.cell? ⟨d,c,none⟩=some v1) (k2:wa.ownsRow 0 9 1 v1 ks.length (strVals ks)) (k3:∀ g,v1.ownBlock=some g→(tg.more w.heap.size o u) g=(o,u))
  (l1:wb.cell? ⟨d,c+1,none⟩=some v2) (l2:wb.ownsRow 0 tv 1 v2 ks.length vs) (l3:∀ g,v2.ownBlock=some g→((tg.more w.heap.size o u).more wa.heap.size o (u+1)) g=(o,u+1)) :
  KMapNew tg o d c u tv ks vs w wb:=by
 have hold:∀ k,k<w.heap.size→((tg.more w.heap.size o u).more wa.heap.size o (u+1)) k=tg k:=fun k hk=>by rw [Tags.more_old (Nat.lt_of_lt_of_le hk hq.size),Tags.more_old hk]
 obtain ⟨a1,c1,rfl⟩:=own_form k2
 obtain ⟨a2,c2,rfl⟩:=own_form l2
 refine ⟨_,hold,⟨Nat.lt_of_lt_of_le htop (Nat.le_trans hq.size hr.size),⟨a1,c1,(hr.cell c (by omega)).trans k1,row_keep k2 (fun g hg=>hr.block g (k2.lt g hg).2 (fun e=>?_) (fun e=>?_)),fun g hg=>?_⟩,⟨a2,c2,l1,l2,l3⟩,hl⟩,⟨hr.os.trans hq.os,hr.tape.trans hq.tape,hr.output.trans hq.output,Nat.le_trans hq.size hr.size,fun k hk h0 h1 h2=>?_,fun j h1 h2=>(hr.cell j h2).trans (hq.cell j h1),fun j=>(hr.fr j).trans (hq.fr j)⟩⟩
 ·have:=k3 g hg
  rw [e,Tags.more_old htop] at this
  exact hd.1 this
 ·have:=k3 g hg
  rw [this] at e
  injection e
  omega
 ·rw [Tags.more_old (k2.lt g hg).2]
  exact k3 g hg
 ·rw [hr.block k (Nat.lt_of_lt_of_le hk hq.size) h0 (by rw [Tags.more_old hk];exact h2)]
  exact hq.block k hk h0 h1
theorem KMapNew.after {tg:Tags} {o d c u:Nat} {tv:TypeId} {ks:List ByteArray} {vs:List Value} {w w1 w':World} (h:KMapNew tg o d c u tv ks vs w1 w') (q:Q w w1) (hd:d<w.heap.size):KMapNew tg o d c u tv ks vs w w':=by
 obtain ⟨tg',h1,h2,h3⟩:=h
 have hs:=q.below.size
 have hdb:=q.below.block d hd
 exact ⟨tg',fun k hk=>h1 k (Nat.lt_of_lt_of_le hk hs),h2,⟨h3.os.trans q.below.os,h3.tape.trans q.below.tape,h3.output.trans q.below.output,Nat.le_trans hs h3.size,fun k hk a b c=>(h3.block k (Nat.lt_of_lt_of_le hk hs) a b c).trans (q.below.block k hk),fun j h1 h2=>(h3.cell j h1 h2).trans (World.cell?_of_block (a:=⟨d,j,none⟩) hdb),fun j=>(h3.fr j).trans (World.frozen?_of_block (a:=⟨d,j,none⟩) hdb)⟩⟩
theorem kPutI (tg:Tags) (o d c u:Nat) (ks:List ByteArray) (vs:List Value) (hs:S.Rising ks) (hl:ks.length≤1048575) (nm:ByteArray) (x:Int) (hp:S.hasK ks nm=false) (hend:∀ y∈ks,S.kless y nm) (h1:∀ x∈vs,x.oneCell'=true) (w:World) (h:KMap w tg o d c u 3 ks vs) (hd:tg d≠(o,u)∧tg d≠(o,u+1)) (hfr:w.frozen? ⟨d,c,none⟩=false∧w.frozen? ⟨d,c+1,none⟩=false) :
  Calls Tryz.prog 65 #[.pointer (some ⟨d,c,none⟩),.string nm,.int .i64 x] w fun e w'=>e=.returned (.tuple #[])∧KMapNew tg o d c u 3 (insAt ks (S.lowK ks nm) nm) (insAt vs (S.lowK ks nm) (.int .i64 x)) w w':=by
 have HM:Hid (KMap w tg o d c u 3 ks vs):=h
 have htop:=h.top
 have hlen:=h.len
 obtain ⟨a1,k1,r1,r2,r3⟩:=h.keys
 have HB:Hid _:=fun (_:Unit)=>bsearchK ks hs (by omega) nm 0 a1 k1 w r2
 rw [hp] at HB
 have hle:=S.lowK_le ks nm
 have hi:S.lowK ks nm=ks.length:=S.lowK_end hend
 rw [hi] at HB hle ⊢
 have HFr:Hid (w.frozen? ⟨d,c,none⟩=false∧w.frozen? ⟨d,c+1,none⟩=false):=hfr
 have HDt:Hid (tg d≠(o,u)∧tg d≠(o,u+1)):=hd
 have H1:Hid (∀ x∈vs,x.oneCell'=true):=h1
 have HLn:Hid (vs.length=ks.length):=hlen
 have HS0:Hid (S.Rising ks):=hs
 clear h r2 r3 hfr hd h1 hlen hp hs hi hend
 go_enter Tryz.func65,Tryz.ntmps65
 go_wp2_with fail
 refine (HB.out ()).mono ?_
 rintro e w1 ⟨rfl,q1⟩
 have hm1:=HM.out.kept q1
 obtain ⟨b1,c1,s1,s2,s3⟩:=hm1.keys
 have hf1:w1.frozen? ⟨d,c,none⟩=false:=(q1.below.frozen (p:=⟨d,c,none⟩) htop).trans HFr.out.1
 have HFr2:Hid (w1.frozen? ⟨d,c+1,none⟩=false):=(q1.below.frozen (p:=⟨d,c+1,none⟩) htop).trans HFr.out.2
 have HI:Hid _:=fun (_:Unit)=>insertS (.slice b1 ks.length c1) ks.length (strVals ks) ks.length w1.heap.size (.string nm) (w1.alloc (.cells #[.string nm] 9)) hle (by omega) (s2.alloc _) (strVals_one _) rfl
  (fun e=>by have:=(s2.lt _ e).2;omega) (alloc_cells_new w1 (.string nm) 9)
 have HS3:Hid _:=s3
 have HM1:Hid (KMap w1 tg o d c u 3 ks vs):=hm1
 have HQ1:Hid (Q w w1):=q1
 clear HB s2 s3 hm1 q1
 go_wp2_with fail
 refine (HI.out ()).mono ?_
 rintro e w2 ⟨v1,rfl,t2,t3,t4⟩
 have T1:=rowTurned (w:=w1) (tg:=tg) (o:=o) (d:=d) (c:=c) (u:=u) HDt.out.1 HM1.out.top s1 HS3.out ((grown_alloc w1 _ _).trans t3) t2 (t4.imp id (fun ⟨g,h1,h2⟩=>⟨g,h1,by simp at h2;omega⟩))
 obtain ⟨b2,c2,y1,y2,y3⟩:=HM1.out.vals
 obtain ⟨x1,x2,rfl⟩:=own_form t2
 have hc1:w2.cell? ⟨d,c,none⟩=_:=(T1.2.2.2.2.1 c).trans s1
 have hf1':=(T1.2.2.2.2.2 c).trans hf1
 have hf2':=(T1.2.2.2.2.2 (c+1)).trans HFr2.out
 have hV1:(w2.setCell ⟨d,c,none⟩ (.slice x1 (ks.length+1) x2)).cell? ⟨d,c+1,none⟩=some (.slice b2 ks.length c2):=(T1.1.cell (c+1) (by omega)).trans y1
 have hV2:(w2.setCell ⟨d,c,none⟩ (.slice x1 (ks.length+1) x2)).ownsRow 0 3 1 (.slice b2 ks.length c2) ks.length vs:=row_keep y2 (fun g hg=>T1.1.block g (y2.lt g hg).2 (fun e=>HDt.out.2 (by rw [←e];exact y3 g hg)) (fun e=>by have:=y3 g hg;rw [this] at e;injection e;omega))
 have hlt2:∀ g,(Value.slice b2 ks.length c2).ownBlock=some g→(tg.more w1.heap.size o u) g=(o,u+1):=fun g hg=>by rw [Tags.more_old (y2.lt g hg).2];exact y3 g hg
 have HI2:Hid _:=fun (_:Unit)=>insertEndE (.slice b2 ks.length c2) ks.length vs w2.heap.size (.int .i64 x) ((w2.setCell ⟨d,c,none⟩ (.slice x1 (ks.length+1) x2)).alloc (.cells #[.int .i64 x] 3)) (by omega) (hV2.alloc _) rfl
  (by have:=alloc_cells_new (w2.setCell ⟨d,c,none⟩ (.slice x1 (ks.length+1) x2)) (.int .i64 x) 3;simpa using this)
 have HT1:Hid _:=T1
 have HV:Hid _:=And.intro hV1 hV2
 have HL2:Hid _:=hlt2
 clear HI T1 t2 t3 t4 hV2 hlt2 y1 y2 y3
 go_wp2_with fail
 refine (HI2.out ()).mono ?_
 rintro e w3 ⟨v2,rfl,t2,t3,t4⟩
 have T2:=rowTurned (w:=w2.setCell ⟨d,c,none⟩ (.slice x1 (ks.length+1) x2)) (tg:=tg.more w1.heap.size o u) (o:=o) (d:=d) (c:=c+1) (u:=u+1) (by rw [Tags.more_old HM1.out.top];exact HDt.out.2) (Nat.lt_of_lt_of_le HM1.out.top HT1.out.1.size) HV.out.1 HL2.out ((grown_alloc _ _ _).trans t3) t2 (t4.imp id (fun ⟨g,h1,h2⟩=>⟨g,h1,by simp at h2 ⊢;omega⟩))
 obtain ⟨x3,x4,rfl⟩:=own_form t2
 have hc3:w3.cell? ⟨d,c+1,none⟩=_:=(T2.2.2.2.2.1 (c+1)).trans HV.out.1
 have hf3:w3.frozen? ⟨d,c+1,none⟩=false:=(T2.2.2.2.2.2 (c+1)).trans (by rw [World.frozen?_setCell];exact hf2')
 have HF:Hid (KMapNew tg o d c u 3 (insAt ks ks.length nm) (insAt vs ks.length (.int .i64 x)) w (w3.setCell ⟨d,c+1,none⟩ (.slice x3 (ks.length+1) x4))):=by
  have hnl:(insAt ks ks.length nm).length=ks.length+1:=insAt_length hle
  have e1:insAt (strVals ks) ks.length (.string nm)=strVals (insAt ks ks.length nm):=insAt_map _ _ _ _
  obtain ⟨z1,z2,z3,z4,_⟩:=HT1.out
  obtain ⟨u1,u2,u3,u4,_⟩:=T2
  rw [e1] at z3
  exact KMapNew.after (kmap_turned z1 u1 HDt.out HM1.out.top (by rw [insAt_length (by rw [HLn.out];exact hle),hnl,HLn.out]) z2 (by rw [hnl];exact z3) z4 u2 (by rw [hnl];exact u3) u4) HQ1.out HM.out.top
 clear HI2 T2 t2 t3 t4 HT1 HV HL2 hc1 hf1 hV1
 go_wp2_with fail
 go_end0
 exact ⟨rfl,HF.out⟩
theorem kPutM (tg:Tags) (o d c u:Nat) (ks:List ByteArray) (vs:List Value) (hs:S.Rising ks) (hl:ks.length≤1048575) (nm:ByteArray) (p:Nat) (hp:S.hasK ks nm=false) (h1:∀ x∈vs,x.oneCell'=true) (w:World) (h:KMap w tg o d c u 105 ks vs) (hd:tg d≠(o,u)∧tg d≠(o,u+1)) (hfr:w.frozen? ⟨d,c,none⟩=false∧w.frozen? ⟨d,c+1,none⟩=false) :
  Calls Tryz.prog 53 #[.pointer (some ⟨d,c,none⟩),.string nm,.pointer (some ⟨p,0,none⟩)] w fun e w'=>e=.returned (.tuple #[])∧KMapNew tg o d c u 105 (insAt ks (S.lowK ks nm) nm) (insAt vs (S.lowK ks nm) (.pointer (some ⟨p,0,none⟩))) w w':=by
 have HM:Hid (KMap w tg o d c u 105 ks vs):=h
 have htop:=h.top
 have hlen:=h.len
 obtain ⟨a1,k1,r1,r2,r3⟩:=h.keys
 have HB:Hid _:=fun (_:Unit)=>bsearchK ks hs (by omega) nm 0 a1 k1 w r2
 rw [hp] at HB
 have hle:=S.lowK_le ks nm
 obtain ⟨i,hi⟩:∃ i,S.lowK ks nm=i:=⟨_,rfl⟩
 rw [hi] at HB hle ⊢
 have HFr:Hid (w.frozen? ⟨d,c,none⟩=false∧w.frozen? ⟨d,c+1,none⟩=false):=hfr
 have HDt:Hid (tg d≠(o,u)∧tg d≠(o,u+1)):=hd
 have H1:Hid (∀ x∈vs,x.oneCell'=true):=h1
 have HLn:Hid (vs.length=ks.length):=hlen
 have HS0:Hid (S.Rising ks):=hs
 clear h r2 r3 hfr hd h1 hlen hp hs
 go_enter Tryz.func53,Tryz.ntmps53
 go_wp2_with fail
 refine (HB.out ()).mono ?_
 rintro e w1 ⟨rfl,q1⟩
 have hm1:=HM.out.kept q1
 obtain ⟨b1,c1,s1,s2,s3⟩:=hm1.keys
 have hf1:w1.frozen? ⟨d,c,none⟩=false:=(q1.below.frozen (p:=⟨d,c,none⟩) htop).trans HFr.out.1
 have HFr2:Hid (w1.frozen? ⟨d,c+1,none⟩=false):=(q1.below.frozen (p:=⟨d,c+1,none⟩) htop).trans HFr.out.2
 have HI:Hid _:=fun (_:Unit)=>insertS (.slice b1 ks.length c1) ks.length (strVals ks) i w1.heap.size (.string nm) (w1.alloc (.cells #[.string nm] 9)) hle (by omega) (s2.alloc _) (strVals_one _) rfl
  (fun e=>by have:=(s2.lt _ e).2;omega) (alloc_cells_new w1 (.string nm) 9)
 have HS3:Hid _:=s3
 have HM1:Hid (KMap w1 tg o d c u 105 ks vs):=hm1
 have HQ1:Hid (Q w w1):=q1
 clear HB s2 s3 hm1 q1
 go_wp2_with fail
 refine (HI.out ()).mono ?_
 rintro e w2 ⟨v1,rfl,t2,t3,t4⟩
 have T1:=rowTurned (w:=w1) (tg:=tg) (o:=o) (d:=d) (c:=c) (u:=u) HDt.out.1 HM1.out.top s1 HS3.out ((grown_alloc w1 _ _).trans t3) t2 (t4.imp id (fun ⟨g,h1,h2⟩=>⟨g,h1,by simp at h2;omega⟩))
 obtain ⟨b2,c2,y1,y2,y3⟩:=HM1.out.vals
 obtain ⟨x1,x2,rfl⟩:=own_form t2
 have hc1:w2.cell? ⟨d,c,none⟩=_:=(T1.2.2.2.2.1 c).trans s1
 have hf1':=(T1.2.2.2.2.2 c).trans hf1
 have hf2':=(T1.2.2.2.2.2 (c+1)).trans HFr2.out
 have hV1:(w2.setCell ⟨d,c,none⟩ (.slice x1 (ks.length+1) x2)).cell? ⟨d,c+1,none⟩=some (.slice b2 ks.length c2):=(T1.1.cell (c+1) (by omega)).trans y1
 have hV2:(w2.setCell ⟨d,c,none⟩ (.slice x1 (ks.length+1) x2)).ownsRow 0 105 1 (.slice b2 ks.length c2) ks.length vs:=row_keep y2 (fun g hg=>T1.1.block g (y2.lt g hg).2 (fun e=>HDt.out.2 (by rw [←e];exact y3 g hg)) (fun e=>by have:=y3 g hg;rw [this] at e;injection e;omega))
 have hlt2:∀ g,(Value.slice b2 ks.length c2).ownBlock=some g→(tg.more w1.heap.size o u) g=(o,u+1):=fun g hg=>by rw [Tags.more_old (y2.lt g hg).2];exact y3 g hg
 have HI2:Hid _:=fun (_:Unit)=>insertM (.slice b2 ks.length c2) ks.length vs i w2.heap.size (.pointer (some ⟨p,0,none⟩)) ((w2.setCell ⟨d,c,none⟩ (.slice x1 (ks.length+1) x2)).alloc (.cells #[.pointer (some ⟨p,0,none⟩)] 105)) hle (by omega) (hV2.alloc _) H1.out rfl
  (fun e=>by have:=(hV2.lt _ e).2;simp at this) (by have:=alloc_cells_new (w2.setCell ⟨d,c,none⟩ (.slice x1 (ks.length+1) x2)) (.pointer (some ⟨p,0,none⟩)) 105;simpa using this)
 have HT1:Hid _:=T1
 have HV:Hid _:=And.intro hV1 hV2
 have HL2:Hid _:=hlt2
 clear HI T1 t2 t3 t4 hV2 hlt2 y1 y2 y3
 go_wp2_with fail
 refine (HI2.out ()).mono ?_
 rintro e w3 ⟨v2,rfl,t2,t3,t4⟩
 have T2:=rowTurned (w:=w2.setCell ⟨d,c,none⟩ (.slice x1 (ks.length+1) x2)) (tg:=tg.more w1.heap.size o u) (o:=o) (d:=d) (c:=c+1) (u:=u+1) (by rw [Tags.more_old HM1.out.top];exact HDt.out.2) (Nat.lt_of_lt_of_le HM1.out.top HT1.out.1.size) HV.out.1 HL2.out ((grown_alloc _ _ _).trans t3) t2 (t4.imp id (fun ⟨g,h1,h2⟩=>⟨g,h1,by simp at h2 ⊢;omega⟩))
 obtain ⟨x3,x4,rfl⟩:=own_form t2
 have hc3:w3.cell? ⟨d,c+1,none⟩=_:=(T2.2.2.2.2.1 (c+1)).trans HV.out.1
 have hf3:w3.frozen? ⟨d,c+1,none⟩=false:=(T2.2.2.2.2.2 (c+1)).trans (by rw [World.frozen?_setCell];exact hf2')
 have HF:Hid (KMapNew tg o d c u 105 (insAt ks i nm) (insAt vs i (.pointer (some ⟨p,0,none⟩))) w (w3.setCell ⟨d,c+1,none⟩ (.slice x3 (ks.length+1) x4))):=by
  have hnl:(insAt ks i nm).length=ks.length+1:=insAt_length hle
  have e1:insAt (strVals ks) i (.string nm)=strVals (insAt ks i nm):=insAt_map _ _ _ _
  obtain ⟨z1,z2,z3,z4,_⟩:=HT1.out
  obtain ⟨u1,u2,u3,u4,_⟩:=T2
  rw [e1] at z3
  exact KMapNew.after (kmap_turned z1 u1 HDt.out HM1.out.top (by rw [insAt_length (by rw [HLn.out];exact hle),hnl,HLn.out]) z2 (by rw [hnl];exact z3) z4 u2 (by rw [hnl];exact u3) u4) HQ1.out HM.out.top
 clear HI2 T2 t2 t3 t4 HT1 HV HL2 hc1 hf1 hV1
 go_wp2_with fail
 go_end0
 exact ⟨rfl,HF.out⟩
end Go.Proofs.YtekdenkllipehabGreatDoor
