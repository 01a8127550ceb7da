import Derived.Test.YtekdenkllipehabGreatDoorA23
import Derived.Test.YtekdenkllipehabGreatDoorA33
set_option maxRecDepth 100000
set_option maxHeartbeats 8000000
namespace Go.Proofs.YtekdenkllipehabGreatDoor
open Go.RowKit
variable {ao:Option Addr} {c d n n' o u:Nat} {e tv:TypeId} {ks:List ByteArray} {ps:List Nat} {tg:Tags} {v v' v1 v2:Value} {w w' w1 w2 wa wb:World} {xs':List Value}
structure Turned (tg:Tags) (o d c u:Nat) (w w':World):Prop where
 os:w'.os=w.os
 tape:w'.tape=w.tape
 output:w'.output=w.output
 size:w.heap.size≤w'.heap.size
 block:∀ k,k<w.heap.size→tg k≠(o,0)→tg k≠(o,u)→w'.heap[k]?=w.heap[k]?
 cell:∀ j,j≠c→w'.cell? ⟨d,j,none⟩=w.cell? ⟨d,j,none⟩
 fr:∀ j,w'.frozen? ⟨d,j,none⟩=false
theorem zDJ {cap:Nat} (hu:u≠0)
  (hfr:∀ j,w.frozen? ⟨d,j,none⟩=false) (htd:tg d=(o,0)) (htop:d<w.heap.size) (hc:w.cell? ⟨d,c,none⟩=some (.slice ao n cap)) (htag:∀ g,(Value.slice ao n cap).ownBlock=some g→tg g=(o,u))
  (hg:w.grownBy w2 (Value.slice ao n cap).ownBlock) (ho:w2.ownsRow 0 e 1 v' n' xs') (hw:v'.ownBlock=(Value.slice ao n cap).ownBlock∨∃ g,v'.ownBlock=some g∧w.heap.size≤g) :
  Turned tg o d c u w (w2.setCell ⟨d,c,none⟩ v')∧(w2.setCell ⟨d,c,none⟩ v').cell? ⟨d,c,none⟩=some v'∧(w2.setCell ⟨d,c,none⟩ v').ownsRow 0 e 1 v' n' xs'∧(∀ g,v'.ownBlock=some g→(tg.more w.heap.size o u) g=(o,u))∧(∀ j,w2.cell? ⟨d,j,none⟩=w.cell? ⟨d,j,none⟩)∧∀ j,w2.frozen? ⟨d,j,none⟩=false:=by
 have hdb:w2.heap[d]?=w.heap[d]?:=hg.block d htop (fun e=>Zg (htag d e.symm) hu htd);have htag':∀ g,v'.ownBlock=some g→(tg.more w.heap.size o u) g=(o,u):=fun g hgb=>by
  rcases zRc g w.heap.size with hl|hl
  ·rw [Tags.zD hl];rcases hw with e|⟨g',e,h2⟩
   ·exact htag g (e.symm.trans hgb)
   ·rw [e] at hgb;injection hgb with hgb;omega
  ·exact Tags.zV hl
 refine ⟨⟨hg.os,hg.tape,hg.output,by simpa using hg.size,fun k hk h0 h1=>?_,fun j hj=>?_,fun j=>?_⟩,?_,?_,htag',fun j=>zS6 (a:=⟨d,j,none⟩) hdb,fun j=>(zS9 (a:=⟨d,j,none⟩) hdb).trans (hfr j)⟩
 ·rw [heap_setCell_other w2 ⟨d,c,none⟩ k v' (fun e=>h0 (by simp at e;rw [e];exact htd))];exact hg.block k hk (fun e=>h1 (htag k e.symm))
 ·rw [zS5 _ _ _ _ (by intro e;injection e with _ e2;exact hj e2.symm)];exact zS6 (a:=⟨d,j,none⟩) hdb
 ·rw [zS8];exact (zS9 (a:=⟨d,j,none⟩) hdb).trans (hfr j)
 ·exact zS7 _ _ _ ((zS6 (a:=⟨d,c,none⟩) hdb).trans hc)
 ·refine zO ho (fun g hgb=>heap_setCell_other w2 ⟨d,c,none⟩ g v' (fun e=>?_));simp at e;have h1:=htag' g hgb;rw [e,Tags.zD htop] at h1;exact Zg h1 hu htd
theorem Turned.row (h:Turned tg o d c u w w') {c' u':Nat} {xs:List Value} (hc:c'≠c) (hu:u'≠u) (h0:u'≠0) (hcell:w.cell? ⟨d,c',none⟩=some v) (hr:w.ownsRow 0 e 1 v n xs) (ht:∀ g,v.ownBlock=some g→tg g=(o,u')) :
  w'.cell? ⟨d,c',none⟩=some v∧w'.ownsRow 0 e 1 v n xs:=
 ⟨(h.cell c' hc).trans hcell,zO hr (fun g hg=>h.block g (hr.lt g hg).2 (Zg (ht g hg) h0) (Zg (ht g hg) hu))⟩
theorem ZI (l:List ByteArray):∀ x∈zG l,x.oneCell'=true:=fun x hx=>by
 simp only [zG,List.mem_map] at hx;obtain ⟨_,_,rfl⟩:=hx;rfl
theorem zBx (l:List Nat):∀ x∈yP l,x.oneCell'=true:=fun x hx=>by
 simp only [yP,List.mem_map] at hx;obtain ⟨_,_,rfl⟩:=hx;rfl
theorem YN {α β:Type} (f:α→β) (l:List α) (i:Nat) (x:α):zJ (l.map f) i (f x)=(zJ l i x).map f:=by simp [zJ]
theorem zET {α β:Type} (f:α→β) (l:List α) (i:Nat):(l.map f).eraseIdx i=(l.eraseIdx i).map f:=by simp [List.eraseIdx_eq_take_drop_succ,List.map_append]
def Yw (tg:Tags) (o d:Nat) (names:List ByteArray) (ps:List Nat) (w w':World):Prop:=
 ∃ tg':Tags,(∀ k,k<w.heap.size→tg' k=tg k)∧MapAt w' tg' o d names ps∧zBN tg o d w w'
theorem zFF (hq:Turned tg o d 1 1 w wa) (hr:Turned (tg.more w.heap.size o 1) o d 2 2 wa wb) (htd:tg d=(o,0)) (htop:d<w.heap.size)
  {names:List ByteArray} (hl:ps.length=names.length)
  (k1:wa.cell? ⟨d,1,none⟩=some v1) (k2:wa.ownsRow 0 9 1 v1 names.length (zG names)) (k3:∀ g,v1.ownBlock=some g→(tg.more w.heap.size o 1) g=(o,1))
  (l1:wb.cell? ⟨d,2,none⟩=some v2) (l2:wb.ownsRow 0 87 1 v2 names.length (yP ps)) (l3:∀ g,v2.ownBlock=some g→((tg.more w.heap.size o 1).more wa.heap.size o 2) g=(o,2)) :
  Yw tg o d names ps w wb:=by
 have hold:∀ k,k<w.heap.size→((tg.more w.heap.size o 1).more wa.heap.size o 2) k=tg k:=fun k hk=>by rw [Tags.zD (zR8 hk hq.size),Tags.zD hk]
 obtain ⟨m1,m2⟩:=hr.row (c':=1) (u':=1) (by decide) (by decide) (by decide) k1 k2 k3;obtain ⟨a1,c1,rfl⟩:=zI k2;obtain ⟨a2,c2,rfl⟩:=zI l2;refine ⟨_,hold,⟨hr.fr,(hold d htop).trans htd,zR8 htop (zRK hq.size hr.size),⟨a1,c1,m1,m2,fun g hg=>?_⟩,⟨a2,c2,l1,l2,l3⟩,hl⟩,⟨hr.os.trans hq.os,hr.tape.trans hq.tape,hr.output.trans hq.output,zRK hq.size hr.size,fun k hk h0 h1 h2=>?_,?_,?_,?_⟩⟩
 ·rw [Tags.zD (k2.lt g hg).2];exact k3 g hg
 ·rw [hr.block k (zR8 hk hq.size) (by rw [Tags.zD hk];exact h0) (by rw [Tags.zD hk];exact h2)];exact hq.block k hk h0 h1
 ·exact (hr.cell 0 (by decide)).trans (hq.cell 0 (by decide))
 ·exact (hr.cell 3 (by decide)).trans (hq.cell 3 (by decide))
 ·exact (hr.cell 4 (by decide)).trans (hq.cell 4 (by decide))
theorem Yw.after {names:List ByteArray} (h:Yw tg o d names ps w1 w') (q:Q w w1) (hd:d<w.heap.size):Yw tg o d names ps w w':=by
 obtain ⟨tg',h1,h2,h3⟩:=h;have hs:=q.below.size;have hdb:=q.below.block d hd;exact ⟨tg',fun k hk=>h1 k (zR8 hk hs),h2,⟨h3.os.trans q.below.os,h3.tape.trans q.below.tape,h3.output.trans q.below.output,zRK hs h3.size,fun k hk a b c=>(h3.block k (zR8 hk hs) a b c).trans (q.below.block k hk),h3.c0.trans (zS6 (a:=⟨d,0,none⟩) hdb),h3.c3.trans (zS6 (a:=⟨d,3,none⟩) hdb),h3.c4.trans (zS6 (a:=⟨d,4,none⟩) hdb)⟩⟩
theorem yN (w:World) (u:Value) (t:TypeId):(w.alloc (.cells #[u] t)).heap[w.heap.size]?=some (.cells #[u] t (0,0)):=heap_alloc_new w _
theorem zFG (tg:Tags) (o d:Nat) (fs:List M.Fil) (ps:List Nat) (hs:M.Sorted fs) (hl:fs.length≤64) (nm:ByteArray) (p:Nat) (hp:M.place fs nm=none) (w:World) (h:MapAt w tg o d (zR fs) ps) :
  Calls Tryz.prog 72 #[.pointer (some ⟨d,1,none⟩),.string nm,.pointer (some ⟨p,0,none⟩)] w fun e w'=>e=.returned (.tuple #[])∧Yw tg o d (zJ (zR fs) (M.yR fs nm) nm) (zJ ps (M.yR fs nm) p) w w':=by
 have HM:Hid (MapAt w tg o d (zR fs) ps):=h;have htop:=h.top;obtain ⟨a1,k1,r1,r2,r3⟩:=h.keys;rw [zS] at r1 r2;have HB:Hid _:=fun (_:Unit)=>bsearch fs hs hl nm a1 k1 w r2;rw [hp] at HB;have hle:=M.zBV fs nm;obtain ⟨i,hi⟩:∃ i,M.yR fs nm=i:=⟨_,rfl⟩;rw [hi] at HB hle ⊢;clear h r2 r3;go_enter Tryz.func72,Tryz.ntmps72;go_wp2_with fail;refine (HB.out ()).mono ?_;rintro e w1 ⟨rfl,q1⟩;have hm1:MapAt w1 tg o d (zR fs) ps:=HM.out.kept q1;obtain ⟨b1,c1,s1,s2,s3⟩:=hm1.keys;rw [zS] at s1 s2 s3;have hlS:(zG (zR fs)).length=fs.length:=by simp [zG]
 have HI:Hid _:=fun (_:Unit)=>zG7 (.slice b1 fs.length c1) fs.length (zG (zR fs)) i w1.heap.size (.string nm) (w1.alloc (.cells #[.string nm] 9)) hle (by omega) (s2.alloc _) (ZI _) rfl
  (fun e=>by have:=(s2.lt _ e).2;omega) (yN w1 (.string nm) 9)
 have HS1:Hid _:=s2;have HS3:Hid _:=s3;have HM1:Hid (MapAt w1 tg o d (zR fs) ps):=hm1;have HQ1:Hid (Q w w1):=q1;clear HB s2 s3 hm1 q1 hlS;go_wp2_with fail;refine (HI.out ()).mono ?_;rintro e w2 ⟨v1,rfl,t2,t3,t4⟩;have T1:=zDJ (w:=w1) (tg:=tg) (o:=o) (d:=d) (c:=1) (u:=1) (by decide) HM1.out.fr HM1.out.td HM1.out.top s1 HS3.out ((yE w1 _ _).trans t3) t2 (t4.imp id (fun ⟨g,h1,h2⟩=>⟨g,h1,by simp at h2;omega⟩));obtain ⟨b2,c2,y1,y2,y3⟩:=HM1.out.vals;rw [zS] at y1 y2 y3;obtain ⟨x1,x2,rfl⟩:=zI t2;have hc1:w2.cell? ⟨d,1,none⟩=_:=(T1.2.2.2.2.1 1).trans s1;have hc2:w2.cell? ⟨d,2,none⟩=_:=(T1.2.2.2.2.1 2).trans y1;have hf1:=T1.2.2.2.2.2 1;have hf2:=T1.2.2.2.2.2 2;have hV:=T1.1.row (c':=2) (u':=2) (by decide) (by decide) (by decide) y1 y2 y3;have hlt2:∀ g,(Value.slice b2 fs.length c2).ownBlock=some g→(tg.more w1.heap.size o 1) g=(o,2):=fun g hg=>by rw [Tags.zD (y2.lt g hg).2];exact y3 g hg
 have HI2:Hid _:=fun (_:Unit)=>zPT (.slice b2 fs.length c2) fs.length (yP ps) i w2.heap.size (.pointer (some ⟨p,0,none⟩)) ((w2.setCell ⟨d,1,none⟩ (.slice x1 (fs.length+1) x2)).alloc (.cells #[.pointer (some ⟨p,0,none⟩)] 87)) hle (by omega) (hV.2.alloc _) (zBx _) rfl
  (fun e=>by have:=(hV.2.lt _ e).2;simp at this) (by have:=yN (w2.setCell ⟨d,1,none⟩ (.slice x1 (fs.length+1) x2)) (.pointer (some ⟨p,0,none⟩)) 87;simpa using this)
 have HT1:Hid _:=T1;have HV:Hid _:=hV;have HL2:Hid _:=hlt2;clear HI T1 t2 t3 t4 hV hlt2 y1 y2 y3;go_wp2_with fail;refine (HI2.out ()).mono ?_;rintro e w3 ⟨v2,rfl,t2,t3,t4⟩;have T2:=zDJ (w:=w2.setCell ⟨d,1,none⟩ (.slice x1 (fs.length+1) x2)) (tg:=tg.more w1.heap.size o 1) (o:=o) (d:=d) (c:=2) (u:=2) (by decide) HT1.out.1.fr ((Tags.zD HM1.out.top).trans HM1.out.td) (zR8 HM1.out.top HT1.out.1.size) HV.out.1 HL2.out ((yE _ _ _).trans t3) t2 (t4.imp id (fun ⟨g,h1,h2⟩=>⟨g,h1,by simp at h2 ⊢;omega⟩));obtain ⟨x3,x4,rfl⟩:=zI t2;have hc3:w3.cell? ⟨d,2,none⟩=_:=(T2.2.2.2.2.1 2).trans HV.out.1;have hf3:=T2.2.2.2.2.2 2;have HF:Hid (Yw tg o d (zJ (zR fs) i nm) (zJ ps i p) w (w3.setCell ⟨d,2,none⟩ (.slice x3 (fs.length+1) x4))):=by
  have hnl:(zJ (zR fs) i nm).length=fs.length+1:=by rw [yB (by simpa using hle)];simp
  have e1:zJ (zG (zR fs)) i (.string nm)=zG (zJ (zR fs) i nm):=YN _ _ _ _;have e2:zJ (yP ps) i (.pointer (some ⟨p,0,none⟩))=yP (zJ ps i p):=YN (fun p=>Value.pointer (some ⟨p,0,none⟩)) _ _ _;obtain ⟨z1,z2,z3,z4,_⟩:=HT1.out;obtain ⟨u1,u2,u3,u4,_⟩:=T2;rw [e1] at z3;rw [e2] at u3;have hpl:ps.length=fs.length:=by have:=HM1.out.len;simpa using this
  refine Yw.after (zFF z1 u1 HM1.out.td HM1.out.top (by rw [yB (by omega),hnl];omega) z2 (by rw [hnl];exact z3) z4 u2 (by rw [hnl];exact u3) u4) HQ1.out HM.out.top
 clear HI2 T2 t2 t3 t4 HT1 HV HL2 hc1 hc2 hf1 hf2;go_wp2_with fail;go_end0;exact ⟨rfl,HF.out⟩
theorem zIM (ps:List Nat) (i p:Nat):(yP ps).set i (.pointer (some ⟨p,0,none⟩))=yP (ps.set i p):=by simp [yP,List.map_set]
theorem zHD (tg:Tags) (o d:Nat) (fs:List M.Fil) (ps:List Nat) (hs:M.Sorted fs) (hl:fs.length≤64) (nm:ByteArray) (p i:Nat) (hp:M.place fs nm=some i) (w:World) (h:MapAt w tg o d (zR fs) ps) :
  Calls Tryz.prog 72 #[.pointer (some ⟨d,1,none⟩),.string nm,.pointer (some ⟨p,0,none⟩)] w fun e w'=>e=.returned (.tuple #[])∧Yw tg o d (zR fs) (ps.set i p) w w':=by
 have HM:Hid (MapAt w tg o d (zR fs) ps):=h;have htop:=h.top;obtain ⟨a1,k1,r1,r2,r3⟩:=h.keys;rw [zS] at r1 r2;have HB:Hid _:=fun (_:Unit)=>bsearch fs hs hl nm a1 k1 w r2;rw [hp,M.zCE hs hp] at HB;obtain ⟨f,hf,_,_⟩:=M.yo hp;have hi:i<fs.length:=(zR7.1 hf).1;clear h r2 r3 hf;go_enter Tryz.func72,Tryz.ntmps72;go_wp2_with fail;refine (HB.out ()).mono ?_;rintro e w1 ⟨rfl,q1⟩;have hm1:MapAt w1 tg o d (zR fs) ps:=HM.out.kept q1;obtain ⟨g,cap,gv,capv,p0,e1,e2,e6,e7,_,e9,e3,_,e4⟩:=hm1.at (i:=i) (by simpa using hi);rw [zS] at e1 e2;have e5:=e4 i p0 e3;have hfz:w1.frozen? ⟨gv,i,none⟩=false:=by
  obtain ⟨b2,c2,y1,y2,_⟩:=hm1.vals;rw [zS] at y1 y2;rw [e2] at y1;injection y1 with y1;rw [←y1] at y2;rcases y2.2 with ⟨hv,_⟩|⟨g',c,cur,hv,_,hh,_⟩
  ·injection hv with e;simp at e
  ·injection hv with e;injection e with e;injection e with e;subst e;exact frozen_of_row w1 gv i cur _ hh
 have HF:Hid (Yw tg o d (zR fs) (ps.set i p) w (w1.setCell ⟨gv,i,none⟩ (.pointer (some ⟨p,0,none⟩)))):=by
  have hne:∀ k,tg k≠(o,2)→(w1.setCell ⟨gv,i,none⟩ (.pointer (some ⟨p,0,none⟩))).heap[k]?=w1.heap[k]?:=fun k hk=>heap_setCell_other w1 ⟨gv,i,none⟩ k _ (fun e=>hk (by simp at e;rw [e];exact e7));have hd:=hne d (Zg hm1.td (by decide));obtain ⟨b1,c1,s1,s2,s3⟩:=hm1.keys;obtain ⟨b2,c2,y1,y2,y3⟩:=hm1.vals;rw [zS] at y1 y2 y3;rw [e2] at y1;injection y1 with y1;rw [←y1] at y2 y3;have hst:=(y2.stored i (.pointer (some ⟨p,0,none⟩))).1;rw [zIM] at hst;refine Yw.after (w1:=w1) ⟨tg,fun _ _=>rfl,⟨fun j=>(zS9 (a:=⟨d,j,none⟩) hd).trans (hm1.fr j),hm1.td,by simpa using hm1.top,⟨b1,c1,(zS6 (a:=⟨d,1,none⟩) hd).trans s1,zO s2 (fun k hk=>hne k (Zg (s3 k hk) (by decide))),s3⟩,
   ⟨some ⟨gv,0,none⟩,capv,by rw [zS];exact (zS6 (a:=⟨d,2,none⟩) hd).trans e2,by rw [zS];exact hst,by rw [zS];exact y3⟩,by simpa using hm1.len⟩,
   ⟨rfl,rfl,rfl,by simp,fun k _ _ _ h2=>hne k h2,zS6 (a:=⟨d,0,none⟩) hd,zS6 (a:=⟨d,3,none⟩) hd,zS6 (a:=⟨d,4,none⟩) hd⟩⟩ q1 HM.out.top
 clear HB e1 e3 e4 e6 e7 e9 hm1 q1;go_wp2_with fail;refine bodyPost_ret (results_none rfl _ _ _) rfl ?_;exact ⟨rfl,HF.out⟩
theorem zMD (tg:Tags) (o d:Nat) (fs:List M.Fil) (ps:List Nat) (hs:M.Sorted fs) (hl:fs.length≤64) (nm:ByteArray) (i:Nat) (hp:M.place fs nm=some i) (w:World) (h:MapAt w tg o d (zR fs) ps) :
  Calls Tryz.prog 130 #[.pointer (some ⟨d,1,none⟩),.string nm] w fun e w'=>e=.returned (.tuple #[])∧Yw tg o d (zR (fs.eraseIdx i)) (ps.eraseIdx i) w w':=by
 have HM:Hid (MapAt w tg o d (zR fs) ps):=h;have htop:=h.top;obtain ⟨a1,k1,r1,r2,r3⟩:=h.keys;rw [zS] at r1 r2;have HB:Hid _:=fun (_:Unit)=>bsearch fs hs hl nm a1 k1 w r2;rw [hp,M.zCE hs hp] at HB;obtain ⟨f,hf,_,_⟩:=M.yo hp;have hi:i<fs.length:=(zR7.1 hf).1;clear h r2 r3 hf;go_enter Tryz.func130,Tryz.ntmps130;go_wp2_with fail;refine (HB.out ()).mono ?_;rintro e w1 ⟨rfl,q1⟩;have hm1:MapAt w1 tg o d (zR fs) ps:=HM.out.kept q1;obtain ⟨b1,c1,s1,s2,s3⟩:=hm1.keys;rw [zS] at s1 s2 s3;have HI:Hid _:=fun (_:Unit)=>zPh (.slice b1 fs.length c1) fs.length (zG (zR fs)) i w1 hi (by omega) s2 (ZI _);have HS3:Hid _:=s3;have HM1:Hid (MapAt w1 tg o d (zR fs) ps):=hm1;have HQ1:Hid (Q w w1):=q1;have hwi:IntKind.i64.wrap ((i:Int)+1)=(i:Int)+1:=by rw [IntKind.wrap_i64];omega
 clear HB s2 s3 hm1 q1;go_wp2_with fail;refine (HI.out ()).mono ?_;rintro e w2 ⟨v1,rfl,t2,t3,t4⟩;have T1:=zDJ (w:=w1) (tg:=tg) (o:=o) (d:=d) (c:=1) (u:=1) (by decide) HM1.out.fr HM1.out.td HM1.out.top s1 HS3.out t3 t2 (Or.inl t4);obtain ⟨b2,c2,y1,y2,y3⟩:=HM1.out.vals;rw [zS] at y1 y2 y3;obtain ⟨x1,x2,rfl⟩:=zI t2;have hc1:w2.cell? ⟨d,1,none⟩=_:=(T1.2.2.2.2.1 1).trans s1;have hc2:w2.cell? ⟨d,2,none⟩=_:=(T1.2.2.2.2.1 2).trans y1;have hf1:=T1.2.2.2.2.2 1;have hf2:=T1.2.2.2.2.2 2;have hV:=T1.1.row (c':=2) (u':=2) (by decide) (by decide) (by decide) y1 y2 y3;have hlt2:∀ g,(Value.slice b2 fs.length c2).ownBlock=some g→(tg.more w1.heap.size o 1) g=(o,2):=fun g hg=>by rw [Tags.zD (y2.lt g hg).2];exact y3 g hg
 have HI2:Hid _:=fun (_:Unit)=>zPi (.slice b2 fs.length c2) fs.length (yP ps) i (w2.setCell ⟨d,1,none⟩ (.slice x1 (fs.length-1) x2)) hi (by omega) hV.2 (zBx _);have HT1:Hid _:=T1;have HV:Hid _:=hV;have HL2:Hid _:=hlt2;clear HI T1 t2 t3 t4 hV hlt2 y1 y2 y3;go_wp2_with fail;refine (HI2.out ()).mono ?_;rintro e w3 ⟨v2,rfl,t2,t3,t4⟩;have T2:=zDJ (w:=w2.setCell ⟨d,1,none⟩ (.slice x1 (fs.length-1) x2)) (tg:=tg.more w1.heap.size o 1) (o:=o) (d:=d) (c:=2) (u:=2) (by decide) HT1.out.1.fr ((Tags.zD HM1.out.top).trans HM1.out.td) (zR8 HM1.out.top HT1.out.1.size) HV.out.1 HL2.out t3 t2 (Or.inl t4);obtain ⟨x3,x4,rfl⟩:=zI t2;have hc3:w3.cell? ⟨d,2,none⟩=_:=(T2.2.2.2.2.1 2).trans HV.out.1;have hf3:=T2.2.2.2.2.2 2;have HF:Hid (Yw tg o d (zR (fs.eraseIdx i)) (ps.eraseIdx i) w (w3.setCell ⟨d,2,none⟩ (.slice x3 (fs.length-1) x4))):=by
  have hnl:(zR (fs.eraseIdx i)).length=fs.length-1:=by rw [zS,List.length_eraseIdx,if_pos hi]
  have e1:(zG (zR fs)).eraseIdx i=zG (zR (fs.eraseIdx i)):=by unfold zG zR;rw [zET,zET]
  have e2:(yP ps).eraseIdx i=yP (ps.eraseIdx i):=by unfold yP;rw [zET]
  obtain ⟨z1,z2,z3,z4,_⟩:=HT1.out;obtain ⟨u1,u2,u3,u4,_⟩:=T2;rw [e1] at z3;rw [e2] at u3;have hpl:ps.length=fs.length:=by have:=HM1.out.len;simpa using this
  refine Yw.after (zFF z1 u1 HM1.out.td HM1.out.top (by rw [List.length_eraseIdx,if_pos (by omega),hnl];omega) z2 (by rw [hnl];exact z3) z4 u2 (by rw [hnl];exact u3) u4) HQ1.out HM.out.top
 clear HI2 T2 t2 t3 t4 HT1 HV HL2 hc1 hc2 hf1 hf2;go_wp2_with fail;go_end0;exact ⟨rfl,HF.out⟩
def zb (l:List Int):List Value:=l.map fun n=>.int .i64 n
structure zB4 (w:World) (tg:Tags) (o d c u:Nat) (tv:TypeId) (ks:List ByteArray) (vs:List Value):Prop where
 top:d<w.heap.size
 keys:∃ ao cap,w.cell? ⟨d,c,none⟩=some (.slice ao ks.length cap)∧w.ownsRow 0 9 1 (.slice ao ks.length cap) ks.length (zG ks)∧∀ g,(Value.slice ao ks.length cap).ownBlock=some g→tg g=(o,u)
 vals:∃ ao cap,w.cell? ⟨d,c+1,none⟩=some (.slice ao ks.length cap)∧w.ownsRow 0 tv 1 (.slice ao ks.length cap) ks.length vs∧∀ g,(Value.slice ao ks.length cap).ownBlock=some g→tg g=(o,u+1)
 len:vs.length=ks.length
theorem zB4.keep {tg':Tags} {vs:List Value} (h:zB4 w tg o d c u tv ks vs) (hs:w.heap.size≤w'.heap.size) (ht:∀ k,k<w.heap.size→tg k=(o,u)∨tg k=(o,u+1)→tg' k=tg k)
  (hd:w'.cell? ⟨d,c,none⟩=w.cell? ⟨d,c,none⟩) (hd1:w'.cell? ⟨d,c+1,none⟩=w.cell? ⟨d,c+1,none⟩) (hb:∀ k,k<w.heap.size→tg k=(o,u)∨tg k=(o,u+1)→w'.heap[k]?=w.heap[k]?):zB4 w' tg' o d c u tv ks vs:=by
 obtain ⟨a1,k1,r1,r2,r3⟩:=h.keys;obtain ⟨a2,k2,s1,s2,s3⟩:=h.vals;exact ⟨zR8 h.top hs,
  ⟨a1,k1,hd.trans r1,zO r2 (fun g hg=>hb g (r2.lt g hg).2 (Or.inl (r3 g hg))),fun g hg=>(ht g (r2.lt g hg).2 (Or.inl (r3 g hg))).trans (r3 g hg)⟩,
  ⟨a2,k2,hd1.trans s1,zO s2 (fun g hg=>hb g (s2.lt g hg).2 (Or.inr (s3 g hg))),fun g hg=>(ht g (s2.lt g hg).2 (Or.inr (s3 g hg))).trans (s3 g hg)⟩,h.len⟩
theorem zB4.kept {vs:List Value} (h:zB4 w tg o d c u tv ks vs) (q:Q w w'):zB4 w' tg o d c u tv ks vs:=
 h.keep q.below.size (fun _ _ _=>rfl) (q.below.cell (p:=⟨d,c,none⟩) h.top) (q.below.cell (p:=⟨d,c+1,none⟩) h.top) (fun k hk _=>q.below.block k hk)
theorem zB4.empty (hd:d<w.heap.size) (h0:w.cell? ⟨d,c,none⟩=some (.slice none 0 0)) (h1:w.cell? ⟨d,c+1,none⟩=some (.slice none 0 0)):zB4 w tg o d c u tv [] []:=
 ⟨hd,⟨none,0,h0,World.ownsRow_nil _ _ _ _,fun g hg=>by simp [Value.ownBlock] at hg⟩,⟨none,0,h1,World.ownsRow_nil _ _ _ _,fun g hg=>by simp [Value.ownBlock] at hg⟩,rfl⟩
theorem zB4.at {vs:List Value} (h:zB4 w tg o d c u tv ks vs) {i:Nat} (hv:vs[i]?=some v) :
  ∃ gv capv,w.cell? ⟨d,c+1,none⟩=some (.slice (some ⟨gv,0,none⟩) ks.length capv)∧w.cell? ⟨gv,i,none⟩=some v:=by
 obtain ⟨a2,k2,s1,s2,s3⟩:=h.vals;have hi:i<vs.length:=(zR7.1 hv).1;have hl:=h.len;rcases s2.2 with ⟨_,h0⟩|⟨gv,cv,curv,hvv,_,hhv,_⟩
 ·omega
 injection hvv with f1 f2 f3;subst f1 f3;refine ⟨gv,k2,s1,?_⟩;rw [s2.cellAt i (by omega)];exact hv
theorem zQs (tg:Tags) (o d c u:Nat) (ks:List ByteArray) (vs:List Value) (hs:S.yQ ks) (hl:ks.length≤1048576) (nm:ByteArray) (HV:∀ (i:Nat) (v:Value),vs[i]?=some v→∃ n,v=Value.int .i64 n) (w:World) (h:zB4 w tg o d c u 3 ks vs) :
  Calls Tryz.prog 64 #[.pointer (some ⟨d,c,none⟩),.string nm] w fun e w'=>e=.returned (.tuple #[if S.zDG ks nm=true then (vs[S.Zm ks nm]?).getD (.int .i64 0) else .int .i64 0,.bool (S.zDG ks nm)])∧Q w w':=by
 have HM:Hid (zB4 w tg o d c u 3 ks vs):=h;obtain ⟨a1,k1,r1,r2,r3⟩:=h.keys;have HB:Hid _:=fun (_:Unit)=>zCU ks hs (by omega) nm 0 a1 k1 w r2
 cases hp:S.zDG ks nm with
 | false =>
  rw [hp] at HB;clear h r2 r3;go_enter Tryz.func64,Tryz.ntmps64;go_wp2_with fail;refine (HB.out ()).mono ?_;rintro e w1 ⟨rfl,q1⟩;go_wp2_with fail
  go_ret2
  exact ⟨rfl,q1⟩
 | true =>
  rw [hp] at HB;have hm:=(S.zG0 hs).1 (S.y7.1 hp);have hi:S.Zm ks nm<ks.length:=(zR7.1 hm).1;obtain ⟨i,hii⟩:∃ i,S.Zm ks nm=i:=⟨_,rfl⟩;rw [hii] at HB hi ⊢;obtain ⟨v,hv⟩:∃ v,vs[i]?=some v:=⟨_,zR6 (by rw [h.len];exact hi)⟩;obtain ⟨gv,capv,e2,e5⟩:=HM.out.at hv;obtain ⟨n,rfl⟩:=HV i v hv;rw [hv];simp only [if_true,zRI];clear h r2 r3 hp hm hii hv HV;go_enter Tryz.func64,Tryz.ntmps64;go_wp2_with fail;refine (HB.out ()).mono ?_;rintro e w1 ⟨rfl,q1⟩;have k2:=zA e2 q1;have k5:=zA e5 q1;clear HB;go_wp2_with fail
  go_ret2
  exact ⟨rfl,q1⟩
theorem zQr (tg:Tags) (o d c u:Nat) (ks:List ByteArray) (vs:List Value) (hs:S.yQ ks) (hl:ks.length≤1048576) (nm:ByteArray) (HV:∀ (i:Nat) (v:Value),vs[i]?=some v→∃ p:Option Addr,v=Value.pointer p) (w:World) (h:zB4 w tg o d c u 105 ks vs) :
  Calls Tryz.prog 52 #[.pointer (some ⟨d,c,none⟩),.string nm] w fun e w'=>e=.returned (.tuple #[if S.zDG ks nm=true then (vs[S.Zm ks nm]?).getD (.pointer none) else .pointer none,.bool (S.zDG ks nm)])∧Q w w':=by
 have HM:Hid (zB4 w tg o d c u 105 ks vs):=h;obtain ⟨a1,k1,r1,r2,r3⟩:=h.keys;have HB:Hid _:=fun (_:Unit)=>zCU ks hs (by omega) nm 0 a1 k1 w r2
 cases hp:S.zDG ks nm with
 | false =>
  rw [hp] at HB;clear h r2 r3;go_enter Tryz.func52,Tryz.ntmps52;go_wp2_with fail;refine (HB.out ()).mono ?_;rintro e w1 ⟨rfl,q1⟩;go_wp2_with fail
  go_ret2
  exact ⟨rfl,q1⟩
 | true =>
  rw [hp] at HB;have hm:=(S.zG0 hs).1 (S.y7.1 hp);have hi:S.Zm ks nm<ks.length:=(zR7.1 hm).1;obtain ⟨i,hii⟩:∃ i,S.Zm ks nm=i:=⟨_,rfl⟩;rw [hii] at HB hi ⊢;obtain ⟨v,hv⟩:∃ v,vs[i]?=some v:=⟨_,zR6 (by rw [h.len];exact hi)⟩;obtain ⟨gv,capv,e2,e5⟩:=HM.out.at hv;obtain ⟨p,rfl⟩:=HV i v hv;rw [hv];simp only [if_true,zRI];clear h r2 r3 hp hm hii hv HV;go_enter Tryz.func52,Tryz.ntmps52;go_wp2_with fail;refine (HB.out ()).mono ?_;rintro e w1 ⟨rfl,q1⟩;have k2:=zA e2 q1;have k5:=zA e5 q1;clear HB;go_wp2_with fail
  go_ret2
  exact ⟨rfl,q1⟩
structure zBJ (tg:Tags) (o d c u:Nat) (w w':World):Prop where
 os:w'.os=w.os
 tape:w'.tape=w.tape
 output:w'.output=w.output
 size:w.heap.size≤w'.heap.size
 block:∀ k,k<w.heap.size→k≠d→tg k≠(o,u)→w'.heap[k]?=w.heap[k]?
 cell:∀ j,j≠c→w'.cell? ⟨d,j,none⟩=w.cell? ⟨d,j,none⟩
 fr:∀ j,w'.frozen? ⟨d,j,none⟩=w.frozen? ⟨d,j,none⟩
theorem YL {cap sz:Nat} (hd:tg d≠(o,u)) (htop:d<w.heap.size) (hc:w.cell? ⟨d,c,none⟩=some (.slice ao n cap)) (htag:∀ g,(Value.slice ao n cap).ownBlock=some g→tg g=(o,u))
  (hg:w.grownBy w2 (Value.slice ao n cap).ownBlock) (ho:w2.ownsRow 0 e sz v' n' xs') (hw:v'.ownBlock=(Value.slice ao n cap).ownBlock∨∃ g,v'.ownBlock=some g∧w.heap.size≤g) :
  zBJ tg o d c u w (w2.setCell ⟨d,c,none⟩ v')∧(w2.setCell ⟨d,c,none⟩ v').cell? ⟨d,c,none⟩=some v'∧(w2.setCell ⟨d,c,none⟩ v').ownsRow 0 e sz v' n' xs'∧(∀ g,v'.ownBlock=some g→(tg.more w.heap.size o u) g=(o,u))∧(∀ j,w2.cell? ⟨d,j,none⟩=w.cell? ⟨d,j,none⟩)∧∀ j,w2.frozen? ⟨d,j,none⟩=w.frozen? ⟨d,j,none⟩:=by
 have hdb:w2.heap[d]?=w.heap[d]?:=hg.block d htop (fun e=>hd (htag d e.symm));have htag':∀ g,v'.ownBlock=some g→(tg.more w.heap.size o u) g=(o,u):=fun g hgb=>by
  rcases zRc g w.heap.size with hl|hl
  ·rw [Tags.zD hl];rcases hw with e|⟨g',e,h2⟩
   ·exact htag g (e.symm.trans hgb)
   ·rw [e] at hgb;injection hgb with hgb;omega
  ·exact Tags.zV hl
 refine ⟨⟨hg.os,hg.tape,hg.output,by simpa using hg.size,fun k hk h0 h1=>?_,fun j hj=>?_,fun j=>?_⟩,?_,?_,htag',fun j=>zS6 (a:=⟨d,j,none⟩) hdb,fun j=>zS9 (a:=⟨d,j,none⟩) hdb⟩
 ·rw [heap_setCell_other w2 ⟨d,c,none⟩ k v' (fun e=>h0 (by simpa using e))];exact hg.block k hk (fun e=>h1 (htag k e.symm))
 ·rw [zS5 _ _ _ _ (by intro e;injection e with _ e2;exact hj e2.symm)];exact zS6 (a:=⟨d,j,none⟩) hdb
 ·rw [zS8];exact zS9 (a:=⟨d,j,none⟩) hdb
 ·exact zS7 _ _ _ ((zS6 (a:=⟨d,c,none⟩) hdb).trans hc)
 ·refine zO ho (fun g hgb=>heap_setCell_other w2 ⟨d,c,none⟩ g v' (fun e=>?_));simp at e;have h1:=htag' g hgb;rw [e,Tags.zD htop] at h1;exact hd h1
structure zQg (tg:Tags) (o d c u:Nat) (w w':World):Prop where
 os:w'.os=w.os
 tape:w'.tape=w.tape
 output:w'.output=w.output
 size:w.heap.size≤w'.heap.size
 block:∀ k,k<w.heap.size→k≠d→tg k≠(o,u)→tg k≠(o,u+1)→w'.heap[k]?=w.heap[k]?
 cell:∀ j,j≠c→j≠c+1→w'.cell? ⟨d,j,none⟩=w.cell? ⟨d,j,none⟩
 fr:∀ j,w'.frozen? ⟨d,j,none⟩=w.frozen? ⟨d,j,none⟩
def Z7 (tg:Tags) (o d c u:Nat) (tv:TypeId) (ks:List ByteArray) (vs:List Value) (w w':World):Prop:=
 ∃ tg':Tags,(∀ k,k<w.heap.size→tg' k=tg k)∧zB4 w' tg' o d c u tv ks vs∧zQg tg o d c u w w'
theorem zBz (hq:zBJ tg o d c u w wa) (hr:zBJ (tg.more w.heap.size o u) o d (c+1) (u+1) wa wb) (hd:tg d≠(o,u)∧tg d≠(o,u+1)) (htop:d<w.heap.size)
  {vs:List Value} (hl:vs.length=ks.length)
  (k1:wa.cell? ⟨d,c,none⟩=some v1) (k2:wa.ownsRow 0 9 1 v1 ks.length (zG ks)) (k3:∀ g,v1.ownBlock=some g→(tg.more w.heap.size o u) g=(o,u))
  (l1:wb.cell? ⟨d,c+1,none⟩=some v2) (l2:wb.ownsRow 0 tv 1 v2 ks.length vs) (l3:∀ g,v2.ownBlock=some g→((tg.more w.heap.size o u).more wa.heap.size o (u+1)) g=(o,u+1)) :
  Z7 tg o d c u tv ks vs w wb:=by
 have hold:∀ k,k<w.heap.size→((tg.more w.heap.size o u).more wa.heap.size o (u+1)) k=tg k:=fun k hk=>by rw [Tags.zD (zR8 hk hq.size),Tags.zD hk]
 obtain ⟨a1,c1,rfl⟩:=zI k2;obtain ⟨a2,c2,rfl⟩:=zI l2;refine ⟨_,hold,⟨zR8 htop (zRK hq.size hr.size),⟨a1,c1,(hr.cell c (by omega)).trans k1,zO k2 (fun g hg=>hr.block g (k2.lt g hg).2 (fun e=>?_) (fun e=>?_)),fun g hg=>?_⟩,⟨a2,c2,l1,l2,l3⟩,hl⟩,⟨hr.os.trans hq.os,hr.tape.trans hq.tape,hr.output.trans hq.output,zRK hq.size hr.size,fun k hk h0 h1 h2=>?_,fun j h1 h2=>(hr.cell j h2).trans (hq.cell j h1),fun j=>(hr.fr j).trans (hq.fr j)⟩⟩
 ·have:=k3 g hg;rw [e,Tags.zD htop] at this;exact hd.1 this
 ·have:=k3 g hg;rw [this] at e;injection e;omega
 ·rw [Tags.zD (k2.lt g hg).2];exact k3 g hg
 ·rw [hr.block k (zR8 hk hq.size) h0 (by rw [Tags.zD hk];exact h2)];exact hq.block k hk h0 h1
theorem Z7.after {vs:List Value} (h:Z7 tg o d c u tv ks vs w1 w') (q:Q w w1) (hd:d<w.heap.size):Z7 tg o d c u tv ks vs w w':=by
 obtain ⟨tg',h1,h2,h3⟩:=h;have hs:=q.below.size;have hdb:=q.below.block d hd;exact ⟨tg',fun k hk=>h1 k (zR8 hk hs),h2,⟨h3.os.trans q.below.os,h3.tape.trans q.below.tape,h3.output.trans q.below.output,zRK hs h3.size,fun k hk a b c=>(h3.block k (zR8 hk hs) a b c).trans (q.below.block k hk),fun j h1 h2=>(h3.cell j h1 h2).trans (zS6 (a:=⟨d,j,none⟩) hdb),fun j=>(h3.fr j).trans (zS9 (a:=⟨d,j,none⟩) hdb)⟩⟩
theorem zQQ (tg:Tags) (o d c u:Nat) (ks:List ByteArray) (vs:List Value) (hs:S.yQ ks) (hl:ks.length≤1048575) (nm:ByteArray) (x:Int) (hp:S.zDG ks nm=false) (hend:∀ y∈ks,S.zw y nm) (h1:∀ x∈vs,x.oneCell'=true) (w:World) (h:zB4 w tg o d c u 3 ks vs) (hd:tg d≠(o,u)∧tg d≠(o,u+1)) (hfr:w.frozen? ⟨d,c,none⟩=false∧w.frozen? ⟨d,c+1,none⟩=false) :
  Calls Tryz.prog 65 #[.pointer (some ⟨d,c,none⟩),.string nm,.int .i64 x] w fun e w'=>e=.returned (.tuple #[])∧Z7 tg o d c u 3 (zJ ks (S.Zm ks nm) nm) (zJ vs (S.Zm ks nm) (.int .i64 x)) w w':=by
 have HM:Hid (zB4 w tg o d c u 3 ks vs):=h;have htop:=h.top;have hlen:=h.len;obtain ⟨a1,k1,r1,r2,r3⟩:=h.keys;have HB:Hid _:=fun (_:Unit)=>zCU ks hs (by omega) nm 0 a1 k1 w r2;rw [hp] at HB;have hle:=S.zAH ks nm;have hi:S.Zm ks nm=ks.length:=S.zCJ hend;rw [hi] at HB hle ⊢;have HFr:Hid (w.frozen? ⟨d,c,none⟩=false∧w.frozen? ⟨d,c+1,none⟩=false):=hfr;have HDt:Hid (tg d≠(o,u)∧tg d≠(o,u+1)):=hd;have H1:Hid (∀ x∈vs,x.oneCell'=true):=h1;have HLn:Hid (vs.length=ks.length):=hlen;have HS0:Hid (S.yQ ks):=hs;clear h r2 r3 hfr hd h1 hlen hp hs hi hend;go_enter Tryz.func65,Tryz.ntmps65;go_wp2_with fail;refine (HB.out ()).mono ?_;rintro e w1 ⟨rfl,q1⟩;have hm1:=HM.out.kept q1;obtain ⟨b1,c1,s1,s2,s3⟩:=hm1.keys;have hf1:w1.frozen? ⟨d,c,none⟩=false:=(q1.below.frozen (p:=⟨d,c,none⟩) htop).trans HFr.out.1;have HFr2:Hid (w1.frozen? ⟨d,c+1,none⟩=false):=(q1.below.frozen (p:=⟨d,c+1,none⟩) htop).trans HFr.out.2;have HI:Hid _:=fun (_:Unit)=>zG7 (.slice b1 ks.length c1) ks.length (zG ks) ks.length w1.heap.size (.string nm) (w1.alloc (.cells #[.string nm] 9)) hle (by omega) (s2.alloc _) (ZI _) rfl
  (fun e=>by have:=(s2.lt _ e).2;omega) (yN w1 (.string nm) 9)
 have HS3:Hid _:=s3;have HM1:Hid (zB4 w1 tg o d c u 3 ks vs):=hm1;have HQ1:Hid (Q w w1):=q1;clear HB s2 s3 hm1 q1;go_wp2_with fail;refine (HI.out ()).mono ?_;rintro e w2 ⟨v1,rfl,t2,t3,t4⟩;have T1:=YL (w:=w1) (tg:=tg) (o:=o) (d:=d) (c:=c) (u:=u) HDt.out.1 HM1.out.top s1 HS3.out ((yE w1 _ _).trans t3) t2 (t4.imp id (fun ⟨g,h1,h2⟩=>⟨g,h1,by simp at h2;omega⟩));obtain ⟨b2,c2,y1,y2,y3⟩:=HM1.out.vals;obtain ⟨x1,x2,rfl⟩:=zI t2;have hc1:w2.cell? ⟨d,c,none⟩=_:=(T1.2.2.2.2.1 c).trans s1;have hf1':=(T1.2.2.2.2.2 c).trans hf1;have hf2':=(T1.2.2.2.2.2 (c+1)).trans HFr2.out;have hV1:(w2.setCell ⟨d,c,none⟩ (.slice x1 (ks.length+1) x2)).cell? ⟨d,c+1,none⟩=some (.slice b2 ks.length c2):=(T1.1.cell (c+1) (by omega)).trans y1;have hV2:(w2.setCell ⟨d,c,none⟩ (.slice x1 (ks.length+1) x2)).ownsRow 0 3 1 (.slice b2 ks.length c2) ks.length vs:=zO y2 (fun g hg=>T1.1.block g (y2.lt g hg).2 (fun e=>HDt.out.2 (by rw [←e];exact y3 g hg)) (fun e=>by have:=y3 g hg;rw [this] at e;injection e;omega));have hlt2:∀ g,(Value.slice b2 ks.length c2).ownBlock=some g→(tg.more w1.heap.size o u) g=(o,u+1):=fun g hg=>by rw [Tags.zD (y2.lt g hg).2];exact y3 g hg
 have HI2:Hid _:=fun (_:Unit)=>zFJ (.slice b2 ks.length c2) ks.length vs w2.heap.size (.int .i64 x) ((w2.setCell ⟨d,c,none⟩ (.slice x1 (ks.length+1) x2)).alloc (.cells #[.int .i64 x] 3)) (by omega) (hV2.alloc _) rfl
  (by have:=yN (w2.setCell ⟨d,c,none⟩ (.slice x1 (ks.length+1) x2)) (.int .i64 x) 3;simpa using this)
 have HT1:Hid _:=T1;have HV:Hid _:=And.intro hV1 hV2;have HL2:Hid _:=hlt2;clear HI T1 t2 t3 t4 hV2 hlt2 y1 y2 y3;go_wp2_with fail;refine (HI2.out ()).mono ?_;rintro e w3 ⟨v2,rfl,t2,t3,t4⟩;have T2:=YL (w:=w2.setCell ⟨d,c,none⟩ (.slice x1 (ks.length+1) x2)) (tg:=tg.more w1.heap.size o u) (o:=o) (d:=d) (c:=c+1) (u:=u+1) (by rw [Tags.zD HM1.out.top];exact HDt.out.2) (zR8 HM1.out.top HT1.out.1.size) HV.out.1 HL2.out ((yE _ _ _).trans t3) t2 (t4.imp id (fun ⟨g,h1,h2⟩=>⟨g,h1,by simp at h2 ⊢;omega⟩));obtain ⟨x3,x4,rfl⟩:=zI t2;have hc3:w3.cell? ⟨d,c+1,none⟩=_:=(T2.2.2.2.2.1 (c+1)).trans HV.out.1;have hf3:w3.frozen? ⟨d,c+1,none⟩=false:=(T2.2.2.2.2.2 (c+1)).trans (by rw [zS8];exact hf2');have HF:Hid (Z7 tg o d c u 3 (zJ ks ks.length nm) (zJ vs ks.length (.int .i64 x)) w (w3.setCell ⟨d,c+1,none⟩ (.slice x3 (ks.length+1) x4))):=by
  have hnl:(zJ ks ks.length nm).length=ks.length+1:=yB hle;have e1:zJ (zG ks) ks.length (.string nm)=zG (zJ ks ks.length nm):=YN _ _ _ _;obtain ⟨z1,z2,z3,z4,_⟩:=HT1.out;obtain ⟨u1,u2,u3,u4,_⟩:=T2;rw [e1] at z3;exact Z7.after (zBz z1 u1 HDt.out HM1.out.top (by rw [yB (by rw [HLn.out];exact hle),hnl,HLn.out]) z2 (by rw [hnl];exact z3) z4 u2 (by rw [hnl];exact u3) u4) HQ1.out HM.out.top
 clear HI2 T2 t2 t3 t4 HT1 HV HL2 hc1 hf1 hV1;go_wp2_with fail;go_end0;exact ⟨rfl,HF.out⟩
theorem zQq (tg:Tags) (o d c u:Nat) (ks:List ByteArray) (vs:List Value) (hs:S.yQ ks) (hl:ks.length≤1048575) (nm:ByteArray) (p:Nat) (hp:S.zDG ks nm=false) (h1:∀ x∈vs,x.oneCell'=true) (w:World) (h:zB4 w tg o d c u 105 ks vs) (hd:tg d≠(o,u)∧tg d≠(o,u+1)) (hfr:w.frozen? ⟨d,c,none⟩=false∧w.frozen? ⟨d,c+1,none⟩=false) :
  Calls Tryz.prog 53 #[.pointer (some ⟨d,c,none⟩),.string nm,.pointer (some ⟨p,0,none⟩)] w fun e w'=>e=.returned (.tuple #[])∧Z7 tg o d c u 105 (zJ ks (S.Zm ks nm) nm) (zJ vs (S.Zm ks nm) (.pointer (some ⟨p,0,none⟩))) w w':=by
 have HM:Hid (zB4 w tg o d c u 105 ks vs):=h;have htop:=h.top;have hlen:=h.len;obtain ⟨a1,k1,r1,r2,r3⟩:=h.keys;have HB:Hid _:=fun (_:Unit)=>zCU ks hs (by omega) nm 0 a1 k1 w r2;rw [hp] at HB;have hle:=S.zAH ks nm;obtain ⟨i,hi⟩:∃ i,S.Zm ks nm=i:=⟨_,rfl⟩;rw [hi] at HB hle ⊢;have HFr:Hid (w.frozen? ⟨d,c,none⟩=false∧w.frozen? ⟨d,c+1,none⟩=false):=hfr;have HDt:Hid (tg d≠(o,u)∧tg d≠(o,u+1)):=hd;have H1:Hid (∀ x∈vs,x.oneCell'=true):=h1;have HLn:Hid (vs.length=ks.length):=hlen;have HS0:Hid (S.yQ ks):=hs;clear h r2 r3 hfr hd h1 hlen hp hs;go_enter Tryz.func53,Tryz.ntmps53;go_wp2_with fail;refine (HB.out ()).mono ?_;rintro e w1 ⟨rfl,q1⟩;have hm1:=HM.out.kept q1;obtain ⟨b1,c1,s1,s2,s3⟩:=hm1.keys;have hf1:w1.frozen? ⟨d,c,none⟩=false:=(q1.below.frozen (p:=⟨d,c,none⟩) htop).trans HFr.out.1;have HFr2:Hid (w1.frozen? ⟨d,c+1,none⟩=false):=(q1.below.frozen (p:=⟨d,c+1,none⟩) htop).trans HFr.out.2;have HI:Hid _:=fun (_:Unit)=>zG7 (.slice b1 ks.length c1) ks.length (zG ks) i w1.heap.size (.string nm) (w1.alloc (.cells #[.string nm] 9)) hle (by omega) (s2.alloc _) (ZI _) rfl
  (fun e=>by have:=(s2.lt _ e).2;omega) (yN w1 (.string nm) 9)
 have HS3:Hid _:=s3;have HM1:Hid (zB4 w1 tg o d c u 105 ks vs):=hm1;have HQ1:Hid (Q w w1):=q1;clear HB s2 s3 hm1 q1;go_wp2_with fail;refine (HI.out ()).mono ?_;rintro e w2 ⟨v1,rfl,t2,t3,t4⟩;have T1:=YL (w:=w1) (tg:=tg) (o:=o) (d:=d) (c:=c) (u:=u) HDt.out.1 HM1.out.top s1 HS3.out ((yE w1 _ _).trans t3) t2 (t4.imp id (fun ⟨g,h1,h2⟩=>⟨g,h1,by simp at h2;omega⟩));obtain ⟨b2,c2,y1,y2,y3⟩:=HM1.out.vals;obtain ⟨x1,x2,rfl⟩:=zI t2;have hc1:w2.cell? ⟨d,c,none⟩=_:=(T1.2.2.2.2.1 c).trans s1;have hf1':=(T1.2.2.2.2.2 c).trans hf1;have hf2':=(T1.2.2.2.2.2 (c+1)).trans HFr2.out;have hV1:(w2.setCell ⟨d,c,none⟩ (.slice x1 (ks.length+1) x2)).cell? ⟨d,c+1,none⟩=some (.slice b2 ks.length c2):=(T1.1.cell (c+1) (by omega)).trans y1;have hV2:(w2.setCell ⟨d,c,none⟩ (.slice x1 (ks.length+1) x2)).ownsRow 0 105 1 (.slice b2 ks.length c2) ks.length vs:=zO y2 (fun g hg=>T1.1.block g (y2.lt g hg).2 (fun e=>HDt.out.2 (by rw [←e];exact y3 g hg)) (fun e=>by have:=y3 g hg;rw [this] at e;injection e;omega));have hlt2:∀ g,(Value.slice b2 ks.length c2).ownBlock=some g→(tg.more w1.heap.size o u) g=(o,u+1):=fun g hg=>by rw [Tags.zD (y2.lt g hg).2];exact y3 g hg
 have HI2:Hid _:=fun (_:Unit)=>zPU (.slice b2 ks.length c2) ks.length vs i w2.heap.size (.pointer (some ⟨p,0,none⟩)) ((w2.setCell ⟨d,c,none⟩ (.slice x1 (ks.length+1) x2)).alloc (.cells #[.pointer (some ⟨p,0,none⟩)] 105)) hle (by omega) (hV2.alloc _) H1.out rfl
  (fun e=>by have:=(hV2.lt _ e).2;simp at this) (by have:=yN (w2.setCell ⟨d,c,none⟩ (.slice x1 (ks.length+1) x2)) (.pointer (some ⟨p,0,none⟩)) 105;simpa using this)
 have HT1:Hid _:=T1;have HV:Hid _:=And.intro hV1 hV2;have HL2:Hid _:=hlt2;clear HI T1 t2 t3 t4 hV2 hlt2 y1 y2 y3;go_wp2_with fail;refine (HI2.out ()).mono ?_;rintro e w3 ⟨v2,rfl,t2,t3,t4⟩;have T2:=YL (w:=w2.setCell ⟨d,c,none⟩ (.slice x1 (ks.length+1) x2)) (tg:=tg.more w1.heap.size o u) (o:=o) (d:=d) (c:=c+1) (u:=u+1) (by rw [Tags.zD HM1.out.top];exact HDt.out.2) (zR8 HM1.out.top HT1.out.1.size) HV.out.1 HL2.out ((yE _ _ _).trans t3) t2 (t4.imp id (fun ⟨g,h1,h2⟩=>⟨g,h1,by simp at h2 ⊢;omega⟩));obtain ⟨x3,x4,rfl⟩:=zI t2;have hc3:w3.cell? ⟨d,c+1,none⟩=_:=(T2.2.2.2.2.1 (c+1)).trans HV.out.1;have hf3:w3.frozen? ⟨d,c+1,none⟩=false:=(T2.2.2.2.2.2 (c+1)).trans (by rw [zS8];exact hf2');have HF:Hid (Z7 tg o d c u 105 (zJ ks i nm) (zJ vs i (.pointer (some ⟨p,0,none⟩))) w (w3.setCell ⟨d,c+1,none⟩ (.slice x3 (ks.length+1) x4))):=by
  have hnl:(zJ ks i nm).length=ks.length+1:=yB hle;have e1:zJ (zG ks) i (.string nm)=zG (zJ ks i nm):=YN _ _ _ _;obtain ⟨z1,z2,z3,z4,_⟩:=HT1.out;obtain ⟨u1,u2,u3,u4,_⟩:=T2;rw [e1] at z3;exact Z7.after (zBz z1 u1 HDt.out HM1.out.top (by rw [yB (by rw [HLn.out];exact hle),hnl,HLn.out]) z2 (by rw [hnl];exact z3) z4 u2 (by rw [hnl];exact u3) u4) HQ1.out HM.out.top
 clear HI2 T2 t2 t3 t4 HT1 HV HL2 hc1 hf1 hV1;go_wp2_with fail;go_end0;exact ⟨rfl,HF.out⟩
theorem zQp (tg:Tags) (o d c u:Nat) (ks:List ByteArray) (vs:List Value) (hs:S.yQ ks) (hl:ks.length≤1048575) (nm:ByteArray) (x:Int) (hp:S.zDG ks nm=false) (h1:∀ x∈vs,x.oneCell'=true) (w:World) (h:zB4 w tg o d c u 3 ks vs) (hd:tg d≠(o,u)∧tg d≠(o,u+1)) (hfr:w.frozen? ⟨d,c,none⟩=false∧w.frozen? ⟨d,c+1,none⟩=false) :
  Calls Tryz.prog 65 #[.pointer (some ⟨d,c,none⟩),.string nm,.int .i64 x] w fun e w'=>e=.returned (.tuple #[])∧Z7 tg o d c u 3 (zJ ks (S.Zm ks nm) nm) (zJ vs (S.Zm ks nm) (.int .i64 x)) w w':=by
 have HM:Hid (zB4 w tg o d c u 3 ks vs):=h;have htop:=h.top;have hlen:=h.len;obtain ⟨a1,k1,r1,r2,r3⟩:=h.keys;have HB:Hid _:=fun (_:Unit)=>zCU ks hs (by omega) nm 0 a1 k1 w r2;rw [hp] at HB;have hle:=S.zAH ks nm;obtain ⟨i,hi⟩:∃ i,S.Zm ks nm=i:=⟨_,rfl⟩;rw [hi] at HB hle ⊢;have HFr:Hid (w.frozen? ⟨d,c,none⟩=false∧w.frozen? ⟨d,c+1,none⟩=false):=hfr;have HDt:Hid (tg d≠(o,u)∧tg d≠(o,u+1)):=hd;have H1:Hid (∀ x∈vs,x.oneCell'=true):=h1;have HLn:Hid (vs.length=ks.length):=hlen;have HS0:Hid (S.yQ ks):=hs;clear h r2 r3 hfr hd h1 hlen hp hs;go_enter Tryz.func65,Tryz.ntmps65;go_wp2_with fail;refine (HB.out ()).mono ?_;rintro e w1 ⟨rfl,q1⟩;have hm1:=HM.out.kept q1;obtain ⟨b1,c1,s1,s2,s3⟩:=hm1.keys;have hf1:w1.frozen? ⟨d,c,none⟩=false:=(q1.below.frozen (p:=⟨d,c,none⟩) htop).trans HFr.out.1;have HFr2:Hid (w1.frozen? ⟨d,c+1,none⟩=false):=(q1.below.frozen (p:=⟨d,c+1,none⟩) htop).trans HFr.out.2;have HI:Hid _:=fun (_:Unit)=>zG7 (.slice b1 ks.length c1) ks.length (zG ks) i w1.heap.size (.string nm) (w1.alloc (.cells #[.string nm] 9)) hle (by omega) (s2.alloc _) (ZI _) rfl
  (fun e=>by have:=(s2.lt _ e).2;omega) (yN w1 (.string nm) 9)
 have HS3:Hid _:=s3;have HM1:Hid (zB4 w1 tg o d c u 3 ks vs):=hm1;have HQ1:Hid (Q w w1):=q1;clear HB s2 s3 hm1 q1;go_wp2_with fail;refine (HI.out ()).mono ?_;rintro e w2 ⟨v1,rfl,t2,t3,t4⟩;have T1:=YL (w:=w1) (tg:=tg) (o:=o) (d:=d) (c:=c) (u:=u) HDt.out.1 HM1.out.top s1 HS3.out ((yE w1 _ _).trans t3) t2 (t4.imp id (fun ⟨g,h1,h2⟩=>⟨g,h1,by simp at h2;omega⟩));obtain ⟨b2,c2,y1,y2,y3⟩:=HM1.out.vals;obtain ⟨x1,x2,rfl⟩:=zI t2;have hc1:w2.cell? ⟨d,c,none⟩=_:=(T1.2.2.2.2.1 c).trans s1;have hf1':=(T1.2.2.2.2.2 c).trans hf1;have hf2':=(T1.2.2.2.2.2 (c+1)).trans HFr2.out;have hV1:(w2.setCell ⟨d,c,none⟩ (.slice x1 (ks.length+1) x2)).cell? ⟨d,c+1,none⟩=some (.slice b2 ks.length c2):=(T1.1.cell (c+1) (by omega)).trans y1;have hV2:(w2.setCell ⟨d,c,none⟩ (.slice x1 (ks.length+1) x2)).ownsRow 0 3 1 (.slice b2 ks.length c2) ks.length vs:=zO y2 (fun g hg=>T1.1.block g (y2.lt g hg).2 (fun e=>HDt.out.2 (by rw [←e];exact y3 g hg)) (fun e=>by have:=y3 g hg;rw [this] at e;injection e;omega));have hlt2:∀ g,(Value.slice b2 ks.length c2).ownBlock=some g→(tg.more w1.heap.size o u) g=(o,u+1):=fun g hg=>by rw [Tags.zD (y2.lt g hg).2];exact y3 g hg
 have HI2:Hid _:=fun (_:Unit)=>zPV (.slice b2 ks.length c2) ks.length vs i w2.heap.size (.int .i64 x) ((w2.setCell ⟨d,c,none⟩ (.slice x1 (ks.length+1) x2)).alloc (.cells #[.int .i64 x] 3)) hle (by omega) (hV2.alloc _) H1.out rfl
  (fun e=>by have:=(hV2.lt _ e).2;simp at this) (by have:=yN (w2.setCell ⟨d,c,none⟩ (.slice x1 (ks.length+1) x2)) (.int .i64 x) 3;simpa using this)
 have HT1:Hid _:=T1;have HV:Hid _:=And.intro hV1 hV2;have HL2:Hid _:=hlt2;clear HI T1 t2 t3 t4 hV2 hlt2 y1 y2 y3;go_wp2_with fail;refine (HI2.out ()).mono ?_;rintro e w3 ⟨v2,rfl,t2,t3,t4⟩;have T2:=YL (w:=w2.setCell ⟨d,c,none⟩ (.slice x1 (ks.length+1) x2)) (tg:=tg.more w1.heap.size o u) (o:=o) (d:=d) (c:=c+1) (u:=u+1) (by rw [Tags.zD HM1.out.top];exact HDt.out.2) (zR8 HM1.out.top HT1.out.1.size) HV.out.1 HL2.out ((yE _ _ _).trans t3) t2 (t4.imp id (fun ⟨g,h1,h2⟩=>⟨g,h1,by simp at h2 ⊢;omega⟩));obtain ⟨x3,x4,rfl⟩:=zI t2;have hc3:w3.cell? ⟨d,c+1,none⟩=_:=(T2.2.2.2.2.1 (c+1)).trans HV.out.1;have hf3:w3.frozen? ⟨d,c+1,none⟩=false:=(T2.2.2.2.2.2 (c+1)).trans (by rw [zS8];exact hf2');have HF:Hid (Z7 tg o d c u 3 (zJ ks i nm) (zJ vs i (.int .i64 x)) w (w3.setCell ⟨d,c+1,none⟩ (.slice x3 (ks.length+1) x4))):=by
  have hnl:(zJ ks i nm).length=ks.length+1:=yB hle;have e1:zJ (zG ks) i (.string nm)=zG (zJ ks i nm):=YN _ _ _ _;obtain ⟨z1,z2,z3,z4,_⟩:=HT1.out;obtain ⟨u1,u2,u3,u4,_⟩:=T2;rw [e1] at z3;exact Z7.after (zBz z1 u1 HDt.out HM1.out.top (by rw [yB (by rw [HLn.out];exact hle),hnl,HLn.out]) z2 (by rw [hnl];exact z3) z4 u2 (by rw [hnl];exact u3) u4) HQ1.out HM.out.top
 clear HI2 T2 t2 t3 t4 HT1 HV HL2 hc1 hf1 hV1;go_wp2_with fail;go_end0;exact ⟨rfl,HF.out⟩
end Go.Proofs.YtekdenkllipehabGreatDoor
