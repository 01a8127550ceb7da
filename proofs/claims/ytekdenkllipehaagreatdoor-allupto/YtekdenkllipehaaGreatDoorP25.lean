import Derived.Test.YtekdenkllipehaaGreatDoorP24
set_option maxRecDepth 99999
set_option maxHeartbeats 0
namespace Go.Proofs.YtekdenkllipehaaGreatDoor
open Go.RowKit
variable{ao:Option Addr}{c d n n' o u:Nat}{e tv:TypeId}{ks:List BA}{ps:List Nat}{tg:Tags}{v v' v1 v2:Value}{w w' w1 w2 wa wb:World}{xs':List Value}
theorem Yr(nm:BA)(w:World):
  Calls Tryz.prog 68 #[nS,sT nm] w fun e w'=>e=.returned (.tuple #[iT 0,.bool false])/\Q w w':=by
 go_in;go_wp2_with fail
 go_loopw [7,8] (fun a b wr=>a=iT 0/\b=iT 0/\wr=w) (fun _ _ _=>0)
 case atStart=>exact⟨rfl,rfl,rfl⟩
 case round =>
  obtain⟨rfl,rfl,rfl⟩:=hrel;go_wp2_with fail
  go_ret2
  exact⟨rfl,Q.refl _⟩
theorem bsearch(fs:List M.Fil)(hs:M.Sorted fs)(hl:fs.length<=64)(nm:BA)(ao:Option Addr)(cap:Nat)(w:World)(hr:w.ownsRow 0 9 1 (.slice ao fs.length cap) fs.length (AX (Am fs))):
  Calls Tryz.prog 68 #[.slice ao fs.length cap,sT nm] w fun e w'=>e=.returned (.tuple #[iT (M.CQ fs nm:Nat),.bool (M.place fs nm).isSome])/\Q w w':=by
 rcases hr.2 with⟨hv,h0⟩|⟨g,c,cur,hv,_,hh,_⟩
 .have hf:fs=[]:=zLN h0;subst hf;injection hv with e1 e2 e3;subst e1 e3;exact Yr nm w
 .injection hv with e1 e2 e3;subst e1 e3;obtain⟨Sx,qj⟩:∃Sx:Nat->BA,Sx=fun t=>((fs[t]?).map fun f=>f.name).getD nm:=⟨_,rfl⟩;have hc:∀j,j<fs.length->w.cell? (aD g (0+j))=some (sT (Sx j)):=fun j hj=>by
   rw[zLk,hr.cellAt j (by omega),qj];simp[AX,Am,List.getElem?_eq_getElem hj]
  have hb:Lib.bsGo (fun t=>Op.bytesLess (Sx t).toList nm.toList) fs.length 0 fs.length=M.CQ fs nm:=by
   refine Lib.bsGo_spec _ (M.CQ fs nm) (fun t ht=>?_) (fun t ht=>?_) _ _ _ (by omega) (zLS _) (M.J8 fs nm)
   .have hlt:t<fs.length:=zLJ ht (M.J8 fs nm);have:=M.Jf (zLH hlt) ht;rw[qj];simpa[List.getElem?_eq_getElem hlt,M.ahead]using this
   .rw[qj];by_cases hlt:t<fs.length
    .have:=M.Ng hs (zLH hlt) ht;simpa[List.getElem?_eq_getElem hlt,M.ahead]using this
    .simp[List.getElem?_eq_none (Nat.le_of_not_lt hlt),M.Ci]
  have hC:=Any2.slices_BinarySearch_string uF g 0 fs.length cap Sx nm w (by omega) hc;rw[hb]at hC;refine Calls.mono hC ?_;rintro e w'⟨rfl,q,rfl⟩;refine⟨?_,Q.drewN (Q.refl w) q⟩;have hd:decide (M.CQ fs nm<fs.length/\Sx (M.CQ fs nm)=nm)=(M.place fs nm).isSome:=by
   rw[M.Xr hs nm,qj];by_cases hlt:M.CQ fs nm<fs.length
   .simp only[zLH hlt,zM1,zLT,hlt,true_and];by_cases hn:fs[M.CQ fs nm].name=nm
    .simp[hn]
    .simp[hn]
   .simp[hlt]
  rw[hd]
def Ny(ps:List Nat):Option Nat->Value
 |some i=>.pointer ((ps[i]?).map fun p=>(aD p 0))
 |none=>.pointer none
theorem Lp(tg:Tags)(o d:Nat)(fs:List M.Fil)(ps:List Nat)(hs:M.Sorted fs)(hl:fs.length<=64)(nm:BA)(w:World)(h:MapAt w tg o d (Am fs) ps):
  Calls Tryz.prog 41 #[.pointer (some (aD d 1)),sT nm] w fun e w'=>e=.returned (.tuple #[Ny ps (M.place fs nm),.bool (M.place fs nm).isSome])/\Q w w':=by
 have HM:=h_ h;obtain⟨a1,k1,r1,r2,r3⟩:=h.keys;rw[Ao]at r1 r2;have HB:=hU (bsearch fs hs hl nm a1 k1 w r2)
 cases hp:M.place fs nm with
 |none =>
  rw[hp]at HB;go_in;go_wp2_with fail;apply(HB.out ()).mono;rintro e w1⟨rfl,q1⟩;go_wp2_with fail
  go_ret2
  exact⟨rfl,q1⟩
 |some i =>
  rw[hp]at HB;have hlow:=M.Lf hs hp;obtain⟨f,hf,_,_⟩:=M.Cf hp;have hi:i<fs.length:=(zLI.1 hf).1;obtain⟨g,cap,gv,Ia,p,e1,e2,_,_,_,_,e3,_,e4⟩:=HM.out.at (i:=i) (by simpa using hi);rw[Ao]at e2;have e5:=e4 i p e3;have hpt:Ny ps (some i)=pT p:=by simp[Ny,e3]
  rw[hlow]at HB;rw[hpt];go_in;go_wp2_with fail;apply(HB.out ()).mono;rintro e w1⟨rfl,q1⟩;have k2:=AA e2 q1;have k5:=AA e5 q1;go_wp2_with fail
  go_ret2
  exact⟨rfl,q1⟩
theorem uD(tg:Tags)(o d:Nat)(fs:List M.Fil)(ps:List Nat)(w:World)(h:MapAt w tg o d (Am fs) ps):
  Calls Tryz.prog 39 #[.pointer (some (aD d 1))] w fun e w'=>e=.returned (iT (fs.length:Nat))/\w'=w:=by
 obtain⟨a1,k1,r1,_,_⟩:=h.keys;rw[Ao]at r1;go_in;go_wp2;go_ret;exact⟨rfl,rfl⟩
structure Turned(tg:Tags)(o d c u:Nat)(w w':World):Prop where
 os:w'.os=w.os
 tape:w'.tape=w.tape
 output:w'.output=w.output
 size:w.heap.size<=w'.heap.size
 block:∀k,k<w.heap.size->tg k≠(o,0)->tg k≠(o,u)->w'.heap[k]?=w.heap[k]?
 cell:∀j,j≠c->w'.cell? (aD d j)=w.cell? (aD d j)
 fr:∀j,w'.frozen? (aD d j)=false
theorem OD{cap:Nat}(hu:u≠0)(hfr:∀j,w.frozen? (aD d j)=false)(htd:tg d=(o,0))(htop:d<w.heap.size)(hc:w.cell? (aD d c)=some (.slice ao n cap))(htag:∀g,(Value.slice ao n cap).ownBlock=some g->tg g=(o,u))(hg:w.grownBy w2 (Value.slice ao n cap).ownBlock)(ho:w2.ownsRow 0 e 1 v' n' xs')(hw:v'.ownBlock=(Value.slice ao n cap).ownBlock\/∃g,v'.ownBlock=some g/\w.heap.size<=g):
  Turned tg o d c u w (w2.setCell (aD d c) v')/\(w2.setCell (aD d c) v').cell? (aD d c)=some v'/\(w2.setCell (aD d c) v').ownsRow 0 e 1 v' n' xs'/\(∀g,v'.ownBlock=some g->(tg.more w.heap.size o u) g=(o,u))/\(∀j,w2.cell? (aD d j)=w.cell? (aD d j))/\∀j,w2.frozen? (aD d j)=false:=by
 have hdb:w2.heap[d]?=w.heap[d]?:=hg.block d htop (fun e=>DV (htag d e.symm) hu htd);have V9:∀g,v'.ownBlock=some g->(tg.more w.heap.size o u) g=(o,u):=fun g hgb=>by
  rcases zLn g w.heap.size with hl|hl
  .rw[Tags.AQ hl];rcases hw with e|⟨g',e,h2⟩
   .exact htag g (e.symm.trans hgb)
   .rw[e]at hgb;injection hgb with hgb;omega
  .exact Tags.Ay hl
 refine⟨⟨hg.os,hg.tape,hg.output,by simpa using hg.size,fun k hk h0 h1=>?_,fun j hj=>?_,fun j=>?_⟩,?_,?_,V9,fun j=>zMI (a:=(aD d j)) hdb,fun j=>(zML (a:=(aD d j)) hdb).trans (hfr j)⟩
 .rw[heap_setCell_other w2 (aD d c) k v' (fun e=>h0 (by simp at e;rw[e];exact htd))];exact hg.block k hk (fun e=>h1 (htag k e.symm))
 .rw[zMH _ _ _ _ (by intro e;injection e with _ e2;exact hj e2.symm)];exact zMI (a:=(aD d j)) hdb
 .rw[zMK];exact(zML (a:=(aD d j)) hdb).trans (hfr j)
 .exact zMJ _ _ _ ((zMI (a:=(aD d c)) hdb).trans hc)
 .refine Ai ho (fun g hgb=>heap_setCell_other w2 (aD d c) g v' (fun e=>?_));simp at e;have h1:=V9 g hgb;rw[e,Tags.AQ htop]at h1;exact DV h1 hu htd
theorem Turned.row(h:Turned tg o d c u w w'){c' u':Nat}{xs:List Value}(hc:c'≠c)(hu:u'≠u)(h0:u'≠0)(hcell:w.cell? (aD d c')=some v)(hr:w.ownsRow 0 e 1 v n xs)(ht:∀g,v.ownBlock=some g->tg g=(o,u')):
  w'.cell? (aD d c')=some v/\w'.ownsRow 0 e 1 v n xs:=
 ⟨(h.cell c' hc).trans hcell,Ai hr (fun g hg=>h.block g (hr.lt g hg).2 (DV (ht g hg) h0) (DV (ht g hg) hu))⟩
theorem FQ(l:List BA):∀x∈AX l,x.oneCell'=true:=fun x hx=>by
 simp only[AX,List.mem_map]at hx;obtain⟨_,_,rfl⟩:=hx;rfl
theorem Kn(l:List Nat):∀x∈CF l,x.oneCell'=true:=fun x hx=>by
 simp only[CF,List.mem_map]at hx;obtain⟨_,_,rfl⟩:=hx;rfl
theorem Jj{α β:Type}(f:α->β)(l:List α)(i:Nat)(x:α):Ah (l.map f) i (f x)=(Ah l i x).map f:=by simp[Ah]
theorem QS{α β:Type}(f:α->β)(l:List α)(i:Nat):(l.map f).eraseIdx i=(l.eraseIdx i).map f:=by simp[List.eraseIdx_eq_take_drop_succ,List.map_append]
def GK(tg:Tags)(o d:Nat)(names:List BA)(ps:List Nat)(w w':World):Prop:=
 ∃AU:Tags,(∀k,k<w.heap.size->AU k=tg k)/\MapAt w' AU o d names ps/\Jy tg o d w w'
theorem Rt(hq:Turned tg o d 1 1 w wa)(hr:Turned (tg.more w.heap.size o 1) o d 2 2 wa wb)(htd:tg d=(o,0))(htop:d<w.heap.size){names:List BA}(hl:ps.length=names.length)(k1:wa.cell? (aD d 1)=some v1)(k2:wa.ownsRow 0 9 1 v1 names.length (AX names))(k3:∀g,v1.ownBlock=some g->(tg.more w.heap.size o 1) g=(o,1))(l1:wb.cell? (aD d 2)=some v2)(l2:wb.ownsRow 0 65 1 v2 names.length (CF ps))(l3:∀g,v2.ownBlock=some g->((tg.more w.heap.size o 1).more wa.heap.size o 2) g=(o,2)):
  GK tg o d names ps w wb:=by
 have hold:∀k,k<w.heap.size->((tg.more w.heap.size o 1).more wa.heap.size o 2) k=tg k:=fun k hk=>by rw[Tags.AQ (zLJ hk hq.size),Tags.AQ hk]
 obtain⟨m1,m2⟩:=hr.row (c':=1) (u':=1) (by decide) (by decide) (by decide) k1 k2 k3;obtain⟨a1,c1,rfl⟩:=Ac k2;obtain⟨a2,c2,rfl⟩:=Ac l2;refine⟨_,hold,⟨hr.fr,(hold d htop).trans htd,zLJ htop (zLV hq.size hr.size),⟨a1,c1,m1,m2,fun g hg=>?_⟩,⟨a2,c2,l1,l2,l3⟩,hl⟩,⟨hr.os.trans hq.os,hr.tape.trans hq.tape,hr.output.trans hq.output,zLV hq.size hr.size,fun k hk h0 h1 h2=>?_,?_,?_,?_⟩⟩
 .rw[Tags.AQ (k2.lt g hg).2];exact k3 g hg
 .rw[hr.block k (zLJ hk hq.size) (by rw[Tags.AQ hk];exact h0) (by rw[Tags.AQ hk];exact h2)];exact hq.block k hk h0 h1
 .exact(hr.cell 0 (by decide)).trans (hq.cell 0 (by decide))
 .exact(hr.cell 3 (by decide)).trans (hq.cell 3 (by decide))
 .exact(hr.cell 4 (by decide)).trans (hq.cell 4 (by decide))
theorem GK.after{names:List BA}(h:GK tg o d names ps w1 w')(q:Q w w1)(hd:d<w.heap.size):GK tg o d names ps w w':=by
 obtain⟨AU,h1,h2,h3⟩:=h;have hs:=q.below.size;have hdb:=q.below.block d hd;exact⟨AU,fun k hk=>h1 k (zLJ hk hs),h2,⟨h3.os.trans q.below.os,h3.tape.trans q.below.tape,h3.output.trans q.below.output,zLV hs h3.size,fun k hk a b c=>(h3.block k (zLJ hk hs) a b c).trans (q.below.block k hk),h3.c0.trans (zMI (a:=(aD d 0)) hdb),h3.c3.trans (zMI (a:=(aD d 3)) hdb),h3.c4.trans (zMI (a:=(aD d 4)) hdb)⟩⟩
theorem Ck(w:World)(u:Value)(t:TypeId):(w.alloc (.cells #[u] t)).heap[w.heap.size]?=some (.cells #[u] t (0,0)):=heap_alloc_new w _
theorem Ru(tg:Tags)(o d:Nat)(fs:List M.Fil)(ps:List Nat)(hs:M.Sorted fs)(hl:fs.length<=64)(nm:BA)(p:Nat)(hp:M.place fs nm=none)(w:World)(h:MapAt w tg o d (Am fs) ps):
  Calls Tryz.prog 44 #[.pointer (some (aD d 1)),sT nm,pT p] w fun e w'=>e=.returned (.tuple #[])/\GK tg o d (Ah (Am fs) (M.CQ fs nm) nm) (Ah ps (M.CQ fs nm) p) w w':=by
 have HM:=h_ h;have htop:=h.top;obtain⟨a1,k1,r1,r2,r3⟩:=h.keys;rw[Ao]at r1 r2;have HB:=hU (bsearch fs hs hl nm a1 k1 w r2);rw[hp]at HB;have hle:=M.J8 fs nm;obtain⟨i,hi⟩:=xe (M.CQ fs nm);rw[hi]at HB hle⊢;go_in;go_wp2_with fail;apply(HB.out ()).mono;rintro e w1⟨rfl,q1⟩;have hm1:MapAt w1 tg o d (Am fs) ps:=HM.out.kept q1;obtain⟨b1,c1,s1,s2,s3⟩:=hm1.keys;rw[Ao]at s1 s2 s3;have hlS:(AX (Am fs)).length=fs.length:=by simp[AX]
 have HI:Hid _:=fun(_:Unit)=>YG (.slice b1 fs.length c1) fs.length (AX (Am fs)) i w1.heap.size (sT nm) (w1.alloc (.cells #[sT nm] 9)) hle (by omega) (s2.alloc _) (FQ _) rfl
  (fun e=>by have:=(s2.lt _ e).2;omega) (Ck w1 (sT nm) 9)
 have nV:Hid _:=s2;have nU:Hid _:=s3;have Ie:=h_ hm1;have Qp:=h_ q1;go_wp2_with fail;apply(HI.out ()).mono;rintro e w2⟨v1,rfl,t2,t3,t4⟩;have T1:=OD (w:=w1) (tg:=tg) (o:=o) (d:=d) (c:=1) (u:=1) (by decide) Ie.out.fr Ie.out.td Ie.out.top s1 nU.out ((CY w1 _ _).trans t3) t2 (t4.imp id (fun⟨g,h1,h2⟩=>⟨g,h1,by simp at h2;omega⟩));obtain⟨b2,c2,y1,y2,y3⟩:=Ie.out.vals;rw[Ao]at y1 y2 y3;obtain⟨x1,x2,rfl⟩:=Ac t2;have hc1:w2.cell? (aD d 1)=_:=(T1.2.2.2.2.1 1).trans s1;have hc2:w2.cell? (aD d 2)=_:=(T1.2.2.2.2.1 2).trans y1;have hf1:=T1.2.2.2.2.2 1;have hf2:=T1.2.2.2.2.2 2;have hV:=T1.1.row (c':=2) (u':=2) (by decide) (by decide) (by decide) y1 y2 y3;have hlt2:∀g,(Value.slice b2 fs.length c2).ownBlock=some g->(tg.more w1.heap.size o 1) g=(o,2):=fun g hg=>by rw[Tags.AQ (y2.lt g hg).2];exact y3 g hg
 have HI2:Hid _:=fun(_:Unit)=>wX (.slice b2 fs.length c2) fs.length (CF ps) i w2.heap.size (pT p) ((w2.setCell (aD d 1) (.slice x1 (fs.length+1) x2)).alloc (.cells #[pT p] 65)) hle (by omega) (hV.2.alloc _) (Kn _) rfl
  (fun e=>by have:=(hV.2.lt _ e).2;simp at this) (by have:=Ck (w2.setCell (aD d 1) (.slice x1 (fs.length+1) x2)) (pT p) 65;simpa using this)
 have HT1:Hid _:=T1;have HV:Hid _:=hV;have HL2:Hid _:=hlt2;go_wp2_with fail;apply(HI2.out ()).mono;rintro e w3⟨v2,rfl,t2,t3,t4⟩;have T2:=OD (w:=w2.setCell (aD d 1) (.slice x1 (fs.length+1) x2)) (tg:=tg.more w1.heap.size o 1) (o:=o) (d:=d) (c:=2) (u:=2) (by decide) HT1.out.1.fr ((Tags.AQ Ie.out.top).trans Ie.out.td) (zLJ Ie.out.top HT1.out.1.size) HV.out.1 HL2.out ((CY _ _ _).trans t3) t2 (t4.imp id (fun⟨g,h1,h2⟩=>⟨g,h1,by simp at h2⊢;omega⟩));obtain⟨x3,x4,rfl⟩:=Ac t2;have hc3:w3.cell? (aD d 2)=_:=(T2.2.2.2.2.1 2).trans HV.out.1;have hf3:=T2.2.2.2.2.2 2;have HF:Hid (GK tg o d (Ah (Am fs) i nm) (Ah ps i p) w (w3.setCell (aD d 2) (.slice x3 (fs.length+1) x4))):=by
  have hnl:(Ah (Am fs) i nm).length=fs.length+1:=by rw[CX (by simpa using hle)];simp
  have e1:Ah (AX (Am fs)) i (sT nm)=AX (Ah (Am fs) i nm):=Jj _ _ _ _;have e2:Ah (CF ps) i (pT p)=CF (Ah ps i p):=Jj (fun p=>Value.pointer (some (aD p 0))) _ _ _;obtain⟨z1,z2,z3,z4,_⟩:=HT1.out;obtain⟨u1,u2,u3,u4,_⟩:=T2;rw[e1]at z3;rw[e2]at u3;have hpl:ps.length=fs.length:=by have:=Ie.out.len;simpa using this
  refine GK.after (Rt z1 u1 Ie.out.td Ie.out.top (by rw[CX (by omega),hnl];omega) z2 (by rw[hnl];exact z3) z4 u2 (by rw[hnl];exact u3) u4) Qp.out HM.out.top
 go_wp2_with fail;go_end0;exact⟨rfl,HF.out⟩
theorem Xp(ps:List Nat)(i p:Nat):(CF ps).set i (pT p)=CF (ps.set i p):=by simp[CF,List.map_set]
theorem Vp(tg:Tags)(o d:Nat)(fs:List M.Fil)(ps:List Nat)(hs:M.Sorted fs)(hl:fs.length<=64)(nm:BA)(p i:Nat)(hp:M.place fs nm=some i)(w:World)(h:MapAt w tg o d (Am fs) ps):
  Calls Tryz.prog 44 #[.pointer (some (aD d 1)),sT nm,pT p] w fun e w'=>e=.returned (.tuple #[])/\GK tg o d (Am fs) (ps.set i p) w w':=by
 have HM:=h_ h;have htop:=h.top;obtain⟨a1,k1,r1,r2,r3⟩:=h.keys;rw[Ao]at r1 r2;have HB:=hU (bsearch fs hs hl nm a1 k1 w r2);rw[hp,M.Lf hs hp]at HB;obtain⟨f,hf,_,_⟩:=M.Cf hp;have hi:i<fs.length:=(zLI.1 hf).1;go_in;go_wp2_with fail;apply(HB.out ()).mono;rintro e w1⟨rfl,q1⟩;have hm1:MapAt w1 tg o d (Am fs) ps:=HM.out.kept q1;obtain⟨g,cap,gv,Ia,p0,e1,e2,e6,e7,_,e9,e3,_,e4⟩:=hm1.at (i:=i) (by simpa using hi);rw[Ao]at e1 e2;have e5:=e4 i p0 e3;have hfz:w1.frozen? (aD gv i)=false:=by
  obtain⟨b2,c2,y1,y2,_⟩:=hm1.vals;rw[Ao]at y1 y2;rw[e2]at y1;injection y1 with y1;rw[<-y1]at y2;rcases y2.2 with⟨hv,_⟩|⟨g',c,cur,hv,_,hh,_⟩
  .injection hv with e;simp at e
  .injection hv with e;injection e with e;injection e with e;subst e;exact frozen_of_row w1 gv i cur _ hh
 have HF:Hid (GK tg o d (Am fs) (ps.set i p) w (w1.setCell (aD gv i) (pT p))):=by
  have hne:∀k,tg k≠(o,2)->(w1.setCell (aD gv i) (pT p)).heap[k]?=w1.heap[k]?:=fun k hk=>heap_setCell_other w1 (aD gv i) k _ (fun e=>hk (by simp at e;rw[e];exact e7));have hd:=hne d (DV hm1.td (by decide));obtain⟨b1,c1,s1,s2,s3⟩:=hm1.keys;obtain⟨b2,c2,y1,y2,y3⟩:=hm1.vals;rw[Ao]at y1 y2 y3;rw[e2]at y1;injection y1 with y1;rw[<-y1]at y2 y3;have hst:=(y2.stored i (pT p)).1;rw[Xp]at hst;refine GK.after (w1:=w1) ⟨tg,fun _ _=>rfl,⟨fun j=>(zML (a:=(aD d j)) hd).trans (hm1.fr j),hm1.td,by simpa using hm1.top,⟨b1,c1,(zMI (a:=(aD d 1)) hd).trans s1,Ai s2 (fun k hk=>hne k (DV (s3 k hk) (by decide))),s3⟩,
   ⟨some (aD gv 0),Ia,by rw[Ao];exact(zMI (a:=(aD d 2)) hd).trans e2,by rw[Ao];exact hst,by rw[Ao];exact y3⟩,by simpa using hm1.len⟩,
   ⟨rfl,rfl,rfl,by simp,fun k _ _ _ h2=>hne k h2,zMI (a:=(aD d 0)) hd,zMI (a:=(aD d 3)) hd,zMI (a:=(aD d 4)) hd⟩⟩ q1 HM.out.top
 go_wp2_with fail;refine bodyPost_ret (results_none rfl _ _ _) rfl ?_;exact⟨rfl,HF.out⟩
theorem jO(tg:Tags)(o d:Nat)(fs:List M.Fil)(ps:List Nat)(hs:M.Sorted fs)(hl:fs.length<=64)(nm:BA)(i:Nat)(hp:M.place fs nm=some i)(w:World)(h:MapAt w tg o d (Am fs) ps):
  Calls Tryz.prog 121 #[.pointer (some (aD d 1)),sT nm] w fun e w'=>e=.returned (.tuple #[])/\GK tg o d (Am (fs.eraseIdx i)) (ps.eraseIdx i) w w':=by
 have HM:=h_ h;have htop:=h.top;obtain⟨a1,k1,r1,r2,r3⟩:=h.keys;rw[Ao]at r1 r2;have HB:=hU (bsearch fs hs hl nm a1 k1 w r2);rw[hp,M.Lf hs hp]at HB;obtain⟨f,hf,_,_⟩:=M.Cf hp;have hi:i<fs.length:=(zLI.1 hf).1;go_in;go_wp2_with fail;apply(HB.out ()).mono;rintro e w1⟨rfl,q1⟩;have hm1:MapAt w1 tg o d (Am fs) ps:=HM.out.kept q1;obtain⟨b1,c1,s1,s2,s3⟩:=hm1.keys;rw[Ao]at s1 s2 s3;have HI:=hU (yH (.slice b1 fs.length c1) fs.length (AX (Am fs)) i w1 hi (by omega) s2 (FQ _));have nU:Hid _:=s3;have Ie:=h_ hm1;have Qp:=h_ q1;have hwi:IntKind.i64.wrap ((i:Int)+1)=(i:Int)+1:=by rw[IntKind.wrap_i64];omega
 go_wp2_with fail;apply(HI.out ()).mono;rintro e w2⟨v1,rfl,t2,t3,t4⟩;have T1:=OD (w:=w1) (tg:=tg) (o:=o) (d:=d) (c:=1) (u:=1) (by decide) Ie.out.fr Ie.out.td Ie.out.top s1 nU.out t3 t2 (Or.inl t4);obtain⟨b2,c2,y1,y2,y3⟩:=Ie.out.vals;rw[Ao]at y1 y2 y3;obtain⟨x1,x2,rfl⟩:=Ac t2;have hc1:w2.cell? (aD d 1)=_:=(T1.2.2.2.2.1 1).trans s1;have hc2:w2.cell? (aD d 2)=_:=(T1.2.2.2.2.1 2).trans y1;have hf1:=T1.2.2.2.2.2 1;have hf2:=T1.2.2.2.2.2 2;have hV:=T1.1.row (c':=2) (u':=2) (by decide) (by decide) (by decide) y1 y2 y3;have hlt2:∀g,(Value.slice b2 fs.length c2).ownBlock=some g->(tg.more w1.heap.size o 1) g=(o,2):=fun g hg=>by rw[Tags.AQ (y2.lt g hg).2];exact y3 g hg
 have HI2:=hU (yI (.slice b2 fs.length c2) fs.length (CF ps) i (w2.setCell (aD d 1) (.slice x1 (fs.length-1) x2)) hi (by omega) hV.2 (Kn _));have HT1:Hid _:=T1;have HV:Hid _:=hV;have HL2:Hid _:=hlt2;go_wp2_with fail;apply(HI2.out ()).mono;rintro e w3⟨v2,rfl,t2,t3,t4⟩;have T2:=OD (w:=w2.setCell (aD d 1) (.slice x1 (fs.length-1) x2)) (tg:=tg.more w1.heap.size o 1) (o:=o) (d:=d) (c:=2) (u:=2) (by decide) HT1.out.1.fr ((Tags.AQ Ie.out.top).trans Ie.out.td) (zLJ Ie.out.top HT1.out.1.size) HV.out.1 HL2.out t3 t2 (Or.inl t4);obtain⟨x3,x4,rfl⟩:=Ac t2;have hc3:w3.cell? (aD d 2)=_:=(T2.2.2.2.2.1 2).trans HV.out.1;have hf3:=T2.2.2.2.2.2 2;have HF:Hid (GK tg o d (Am (fs.eraseIdx i)) (ps.eraseIdx i) w (w3.setCell (aD d 2) (.slice x3 (fs.length-1) x4))):=by
  have hnl:(Am (fs.eraseIdx i)).length=fs.length-1:=by rw[Ao,List.length_eraseIdx,if_pos hi]
  have e1:(AX (Am fs)).eraseIdx i=AX (Am (fs.eraseIdx i)):=by unfold AX Am;rw[QS,QS]
  have e2:(CF ps).eraseIdx i=CF (ps.eraseIdx i):=by unfold CF;rw[QS]
  obtain⟨z1,z2,z3,z4,_⟩:=HT1.out;obtain⟨u1,u2,u3,u4,_⟩:=T2;rw[e1]at z3;rw[e2]at u3;have hpl:ps.length=fs.length:=by have:=Ie.out.len;simpa using this
  refine GK.after (Rt z1 u1 Ie.out.td Ie.out.top (by rw[List.length_eraseIdx,if_pos (by omega),hnl];omega) z2 (by rw[hnl];exact z3) z4 u2 (by rw[hnl];exact u3) u4) Qp.out HM.out.top
 go_wp2_with fail;go_end0;exact⟨rfl,HF.out⟩
def BO(l:List Int):List Value:=l.map fun n=>iT n
structure Ka(w:World)(tg:Tags)(o d c u:Nat)(tv:TypeId)(ks:List BA)(vs:List Value):Prop where
 top:d<w.heap.size
 keys:∃ao cap,w.cell? (aD d c)=some (.slice ao ks.length cap)/\w.ownsRow 0 9 1 (.slice ao ks.length cap) ks.length (AX ks)/\∀g,(Value.slice ao ks.length cap).ownBlock=some g->tg g=(o,u)
 vals:∃ao cap,w.cell? (aD d (c+1))=some (.slice ao ks.length cap)/\w.ownsRow 0 tv 1 (.slice ao ks.length cap) ks.length vs/\∀g,(Value.slice ao ks.length cap).ownBlock=some g->tg g=(o,u+1)
 len:vs.length=ks.length
theorem Ka.keep{AU:Tags}{vs:List Value}(h:Ka w tg o d c u tv ks vs)(hs:w.heap.size<=w'.heap.size)(ht:∀k,k<w.heap.size->tg k=(o,u)\/tg k=(o,u+1)->AU k=tg k)(hd:w'.cell? (aD d c)=w.cell? (aD d c))(hd1:w'.cell? (aD d (c+1))=w.cell? (aD d (c+1)))(hb:∀k,k<w.heap.size->tg k=(o,u)\/tg k=(o,u+1)->w'.heap[k]?=w.heap[k]?):Ka w' AU o d c u tv ks vs:=by
 obtain⟨a1,k1,r1,r2,r3⟩:=h.keys;obtain⟨a2,k2,s1,s2,s3⟩:=h.vals;exact⟨zLJ h.top hs,
  ⟨a1,k1,hd.trans r1,Ai r2 (fun g hg=>hb g (r2.lt g hg).2 (Or.inl (r3 g hg))),fun g hg=>(ht g (r2.lt g hg).2 (Or.inl (r3 g hg))).trans (r3 g hg)⟩,
  ⟨a2,k2,hd1.trans s1,Ai s2 (fun g hg=>hb g (s2.lt g hg).2 (Or.inr (s3 g hg))),fun g hg=>(ht g (s2.lt g hg).2 (Or.inr (s3 g hg))).trans (s3 g hg)⟩,h.len⟩
theorem Ka.kept{vs:List Value}(h:Ka w tg o d c u tv ks vs)(q:Q w w'):Ka w' tg o d c u tv ks vs:=
 h.keep q.below.size (fun _ _ _=>rfl) (q.below.cell (p:=(aD d c)) h.top) (q.below.cell (p:=(aD d (c+1))) h.top) (fun k hk _=>q.below.block k hk)
theorem Ka.empty(hd:d<w.heap.size)(h0:w.cell? (aD d c)=some nS)(h1:w.cell? (aD d (c+1))=some nS):Ka w tg o d c u tv [] []:=
 ⟨hd,⟨none,0,h0,World.ownsRow_nil _ _ _ _,fun g hg=>by simp[Value.ownBlock]at hg⟩,⟨none,0,h1,World.ownsRow_nil _ _ _ _,fun g hg=>by simp[Value.ownBlock]at hg⟩,rfl⟩
theorem Ka.at{vs:List Value}(h:Ka w tg o d c u tv ks vs){i:Nat}(hv:vs[i]?=some v):
  ∃gv Ia,w.cell? (aD d (c+1))=some (.slice (some (aD gv 0)) ks.length Ia)/\w.cell? (aD gv i)=some v:=by
 obtain⟨a2,k2,s1,s2,s3⟩:=h.vals;have hi:i<vs.length:=(zLI.1 hv).1;have hl:=h.len;rcases s2.2 with⟨_,h0⟩|⟨gv,cv,zFU,hvv,_,hhv,_⟩
 .omega
 injection hvv with f1 f2 f3;subst f1 f3;refine⟨gv,k2,s1,?_⟩;rw[s2.cellAt i (by omega)];exact hv
theorem zEL(tg:Tags)(o d c u:Nat)(ks:List BA)(vs:List Value)(hs:S.DL ks)(hl:ks.length<=1048576)(nm:BA)(HV:∀(i:Nat)(v:Value),vs[i]?=some v->∃n,v=Value.int .i64 n)(w:World)(h:Ka w tg o d c u 3 ks vs):
  Calls Tryz.prog 63 #[.pointer (some (aD d c)),sT nm] w fun e w'=>e=.returned (.tuple #[if S.QJ ks nm=true then(vs[S.Et ks nm]?).getD (iT 0)else iT 0,.bool (S.QJ ks nm)])/\Q w w':=by
 have HM:=h_ h;obtain⟨a1,k1,r1,r2,r3⟩:=h.keys;have HB:=hU (Od ks hs (by omega) nm 0 a1 k1 w r2)
 cases hp:S.QJ ks nm with
 |false =>
  rw[hp]at HB;go_in;go_wp2_with fail;apply(HB.out ()).mono;rintro e w1⟨rfl,q1⟩;go_wp2_with fail
  go_ret2
  exact⟨rfl,q1⟩
 |true =>
  rw[hp]at HB;have hm:=(S.Ta hs).1 (S.Cn.1 hp);have hi:S.Et ks nm<ks.length:=(zLI.1 hm).1;obtain⟨i,hii⟩:=xe (S.Et ks nm);rw[hii]at HB hi⊢;obtain⟨v,hv⟩:∃v,vs[i]?=some v:=⟨_,zLH (by rw[h.len];exact hi)⟩;obtain⟨gv,Ia,e2,e5⟩:=HM.out.at hv;obtain⟨n,rfl⟩:=HV i v hv;rw[hv];simp only[if_true,zLT];go_in;go_wp2_with fail;apply(HB.out ()).mono;rintro e w1⟨rfl,q1⟩;have k2:=AA e2 q1;have k5:=AA e5 q1;go_wp2_with fail
  go_ret2
  exact⟨rfl,q1⟩
theorem zEK(tg:Tags)(o d c u:Nat)(ks:List BA)(vs:List Value)(hs:S.DL ks)(hl:ks.length<=1048576)(nm:BA)(HV:∀(i:Nat)(v:Value),vs[i]?=some v->∃p:Option Addr,v=Value.pointer p)(w:World)(h:Ka w tg o d c u 154 ks vs):
  Calls Tryz.prog 100 #[.pointer (some (aD d c)),sT nm] w fun e w'=>e=.returned (.tuple #[if S.QJ ks nm=true then(vs[S.Et ks nm]?).getD (.pointer none)else .pointer none,.bool (S.QJ ks nm)])/\Q w w':=by
 have HM:=h_ h;obtain⟨a1,k1,r1,r2,r3⟩:=h.keys;have HB:=hU (Od ks hs (by omega) nm 0 a1 k1 w r2)
 cases hp:S.QJ ks nm with
 |false =>
  rw[hp]at HB;go_in;go_wp2_with fail;apply(HB.out ()).mono;rintro e w1⟨rfl,q1⟩;go_wp2_with fail
  go_ret2
  exact⟨rfl,q1⟩
 |true =>
  rw[hp]at HB;have hm:=(S.Ta hs).1 (S.Cn.1 hp);have hi:S.Et ks nm<ks.length:=(zLI.1 hm).1;obtain⟨i,hii⟩:=xe (S.Et ks nm);rw[hii]at HB hi⊢;obtain⟨v,hv⟩:∃v,vs[i]?=some v:=⟨_,zLH (by rw[h.len];exact hi)⟩;obtain⟨gv,Ia,e2,e5⟩:=HM.out.at hv;obtain⟨p,rfl⟩:=HV i v hv;rw[hv];simp only[if_true,zLT];go_in;go_wp2_with fail;apply(HB.out ()).mono;rintro e w1⟨rfl,q1⟩;have k2:=AA e2 q1;have k5:=AA e5 q1;go_wp2_with fail
  go_ret2
  exact⟨rfl,q1⟩
structure Jv(tg:Tags)(o d c u:Nat)(w w':World):Prop where
 os:w'.os=w.os
 tape:w'.tape=w.tape
 output:w'.output=w.output
 size:w.heap.size<=w'.heap.size
 block:∀k,k<w.heap.size->k≠d->tg k≠(o,u)->w'.heap[k]?=w.heap[k]?
 cell:∀j,j≠c->w'.cell? (aD d j)=w.cell? (aD d j)
 fr:∀j,w'.frozen? (aD d j)=w.frozen? (aD d j)
theorem Gd{cap sz:Nat}(hd:tg d≠(o,u))(htop:d<w.heap.size)(hc:w.cell? (aD d c)=some (.slice ao n cap))(htag:∀g,(Value.slice ao n cap).ownBlock=some g->tg g=(o,u))(hg:w.grownBy w2 (Value.slice ao n cap).ownBlock)(ho:w2.ownsRow 0 e sz v' n' xs')(hw:v'.ownBlock=(Value.slice ao n cap).ownBlock\/∃g,v'.ownBlock=some g/\w.heap.size<=g):
  Jv tg o d c u w (w2.setCell (aD d c) v')/\(w2.setCell (aD d c) v').cell? (aD d c)=some v'/\(w2.setCell (aD d c) v').ownsRow 0 e sz v' n' xs'/\(∀g,v'.ownBlock=some g->(tg.more w.heap.size o u) g=(o,u))/\(∀j,w2.cell? (aD d j)=w.cell? (aD d j))/\∀j,w2.frozen? (aD d j)=w.frozen? (aD d j):=by
 have hdb:w2.heap[d]?=w.heap[d]?:=hg.block d htop (fun e=>hd (htag d e.symm));have V9:∀g,v'.ownBlock=some g->(tg.more w.heap.size o u) g=(o,u):=fun g hgb=>by
  rcases zLn g w.heap.size with hl|hl
  .rw[Tags.AQ hl];rcases hw with e|⟨g',e,h2⟩
   .exact htag g (e.symm.trans hgb)
   .rw[e]at hgb;injection hgb with hgb;omega
  .exact Tags.Ay hl
 refine⟨⟨hg.os,hg.tape,hg.output,by simpa using hg.size,fun k hk h0 h1=>?_,fun j hj=>?_,fun j=>?_⟩,?_,?_,V9,fun j=>zMI (a:=(aD d j)) hdb,fun j=>zML (a:=(aD d j)) hdb⟩
 .rw[heap_setCell_other w2 (aD d c) k v' (fun e=>h0 (by simpa using e))];exact hg.block k hk (fun e=>h1 (htag k e.symm))
 .rw[zMH _ _ _ _ (by intro e;injection e with _ e2;exact hj e2.symm)];exact zMI (a:=(aD d j)) hdb
 .rw[zMK];exact zML (a:=(aD d j)) hdb
 .exact zMJ _ _ _ ((zMI (a:=(aD d c)) hdb).trans hc)
 .refine Ai ho (fun g hgb=>heap_setCell_other w2 (aD d c) g v' (fun e=>?_));simp at e;have h1:=V9 g hgb;rw[e,Tags.AQ htop]at h1;exact hd h1
structure zC9(tg:Tags)(o d c u:Nat)(w w':World):Prop where
 os:w'.os=w.os
 tape:w'.tape=w.tape
 output:w'.output=w.output
 size:w.heap.size<=w'.heap.size
 block:∀k,k<w.heap.size->k≠d->tg k≠(o,u)->tg k≠(o,u+1)->w'.heap[k]?=w.heap[k]?
 cell:∀j,j≠c->j≠c+1->w'.cell? (aD d j)=w.cell? (aD d j)
 fr:∀j,w'.frozen? (aD d j)=w.frozen? (aD d j)
def Fe(tg:Tags)(o d c u:Nat)(tv:TypeId)(ks:List BA)(vs:List Value)(w w':World):Prop:=
 ∃AU:Tags,(∀k,k<w.heap.size->AU k=tg k)/\Ka w' AU o d c u tv ks vs/\zC9 tg o d c u w w'
theorem Pz(hq:Jv tg o d c u w wa)(hr:Jv (tg.more w.heap.size o u) o d (c+1) (u+1) wa wb)(hd:tg d≠(o,u)/\tg d≠(o,u+1))(htop:d<w.heap.size){vs:List Value}(hl:vs.length=ks.length)(k1:wa.cell? (aD d c)=some v1)(k2:wa.ownsRow 0 9 1 v1 ks.length (AX ks))(k3:∀g,v1.ownBlock=some g->(tg.more w.heap.size o u) g=(o,u))(l1:wb.cell? (aD d (c+1))=some v2)(l2:wb.ownsRow 0 tv 1 v2 ks.length vs)(l3:∀g,v2.ownBlock=some g->((tg.more w.heap.size o u).more wa.heap.size o (u+1)) g=(o,u+1)):
  Fe tg o d c u tv ks vs w wb:=by
 have hold:∀k,k<w.heap.size->((tg.more w.heap.size o u).more wa.heap.size o (u+1)) k=tg k:=fun k hk=>by rw[Tags.AQ (zLJ hk hq.size),Tags.AQ hk]
 obtain⟨a1,c1,rfl⟩:=Ac k2;obtain⟨a2,c2,rfl⟩:=Ac l2;refine⟨_,hold,⟨zLJ htop (zLV hq.size hr.size),⟨a1,c1,(hr.cell c (by omega)).trans k1,Ai k2 (fun g hg=>hr.block g (k2.lt g hg).2 (fun e=>?_) (fun e=>?_)),fun g hg=>?_⟩,⟨a2,c2,l1,l2,l3⟩,hl⟩,⟨hr.os.trans hq.os,hr.tape.trans hq.tape,hr.output.trans hq.output,zLV hq.size hr.size,fun k hk h0 h1 h2=>?_,fun j h1 h2=>(hr.cell j h2).trans (hq.cell j h1),fun j=>(hr.fr j).trans (hq.fr j)⟩⟩
 .have:=k3 g hg;rw[e,Tags.AQ htop]at this;exact hd.1 this
 .have:=k3 g hg;rw[this]at e;injection e;omega
 .rw[Tags.AQ (k2.lt g hg).2];exact k3 g hg
 .rw[hr.block k (zLJ hk hq.size) h0 (by rw[Tags.AQ hk];exact h2)];exact hq.block k hk h0 h1
theorem Fe.after{vs:List Value}(h:Fe tg o d c u tv ks vs w1 w')(q:Q w w1)(hd:d<w.heap.size):Fe tg o d c u tv ks vs w w':=by
 obtain⟨AU,h1,h2,h3⟩:=h;have hs:=q.below.size;have hdb:=q.below.block d hd;exact⟨AU,fun k hk=>h1 k (zLJ hk hs),h2,⟨h3.os.trans q.below.os,h3.tape.trans q.below.tape,h3.output.trans q.below.output,zLV hs h3.size,fun k hk a b c=>(h3.block k (zLJ hk hs) a b c).trans (q.below.block k hk),fun j h1 h2=>(h3.cell j h1 h2).trans (zMI (a:=(aD d j)) hdb),fun j=>(h3.fr j).trans (zML (a:=(aD d j)) hdb)⟩⟩
theorem zAY(tg:Tags)(o d c u:Nat)(ks:List BA)(vs:List Value)(hs:S.DL ks)(hl:ks.length<=1048575)(nm:BA)(x:Int)(hp:S.QJ ks nm=false)(hend:∀y∈ks,S.Bc y nm)(h1:∀x∈vs,x.oneCell'=true)(w:World)(h:Ka w tg o d c u 3 ks vs)(hd:tg d≠(o,u)/\tg d≠(o,u+1))(hfr:w.frozen? (aD d c)=false/\w.frozen? (aD d (c+1))=false):
  Calls Tryz.prog 64 #[.pointer (some (aD d c)),sT nm,iT x] w fun e w'=>e=.returned (.tuple #[])/\Fe tg o d c u 3 (Ah ks (S.Et ks nm) nm) (Ah vs (S.Et ks nm) (iT x)) w w':=by
 have HM:=h_ h;have htop:=h.top;have hlen:=h.len;obtain⟨a1,k1,r1,r2,r3⟩:=h.keys;have HB:=hU (Od ks hs (by omega) nm 0 a1 k1 w r2);rw[hp]at HB;have hle:=S.Je ks nm;have hi:S.Et ks nm=ks.length:=S.Ls hend;rw[hi]at HB hle⊢;have gJ:=h_ hfr;have XQ:=h_ hd;have H1:=h_ h1;have gH:=h_ hlen;have zw:=h_ hs;clear h r2 r3 hfr hd h1 hlen hp hs hi hend;go_in;go_wp2_with fail;apply(HB.out ()).mono;rintro e w1⟨rfl,q1⟩;have hm1:=HM.out.kept q1;obtain⟨b1,c1,s1,s2,s3⟩:=hm1.keys;have hf1:w1.frozen? (aD d c)=false:=(q1.below.frozen (p:=(aD d c)) htop).trans gJ.out.1;have nA:=h_ ((q1.below.frozen (p:=(aD d (c+1))) htop).trans gJ.out.2);have HI:Hid _:=fun(_:Unit)=>YG (.slice b1 ks.length c1) ks.length (AX ks) ks.length w1.heap.size (sT nm) (w1.alloc (.cells #[sT nm] 9)) hle (by omega) (s2.alloc _) (FQ _) rfl
  (fun e=>by have:=(s2.lt _ e).2;omega) (Ck w1 (sT nm) 9)
 have nU:Hid _:=s3;have Ie:=h_ hm1;have Qp:=h_ q1;clear HB s2 s3 hm1 q1;go_wp2_with fail;apply(HI.out ()).mono;rintro e w2⟨v1,rfl,t2,t3,t4⟩;have T1:=Gd (w:=w1) (tg:=tg) (o:=o) (d:=d) (c:=c) (u:=u) XQ.out.1 Ie.out.top s1 nU.out ((CY w1 _ _).trans t3) t2 (t4.imp id (fun⟨g,h1,h2⟩=>⟨g,h1,by simp at h2;omega⟩));obtain⟨b2,c2,y1,y2,y3⟩:=Ie.out.vals;obtain⟨x1,x2,rfl⟩:=Ac t2;have hc1:w2.cell? (aD d c)=_:=(T1.2.2.2.2.1 c).trans s1;have zBF:=(T1.2.2.2.2.2 c).trans hf1;have kP:=(T1.2.2.2.2.2 (c+1)).trans nA.out;have hV1:(w2.setCell (aD d c) (.slice x1 (ks.length+1) x2)).cell? (aD d (c+1))=some (.slice b2 ks.length c2):=(T1.1.cell (c+1) (by omega)).trans y1;have hV2:(w2.setCell (aD d c) (.slice x1 (ks.length+1) x2)).ownsRow 0 3 1 (.slice b2 ks.length c2) ks.length vs:=Ai y2 (fun g hg=>T1.1.block g (y2.lt g hg).2 (fun e=>XQ.out.2 (by rw[<-e];exact y3 g hg)) (fun e=>by have:=y3 g hg;rw[this]at e;injection e;omega));have hlt2:∀g,(Value.slice b2 ks.length c2).ownBlock=some g->(tg.more w1.heap.size o u) g=(o,u+1):=fun g hg=>by rw[Tags.AQ (y2.lt g hg).2];exact y3 g hg
 have HI2:Hid _:=fun(_:Unit)=>Rx (.slice b2 ks.length c2) ks.length vs w2.heap.size (iT x) ((w2.setCell (aD d c) (.slice x1 (ks.length+1) x2)).alloc (.cells #[iT x] 3)) (by omega) (hV2.alloc _) rfl
  (by have:=Ck (w2.setCell (aD d c) (.slice x1 (ks.length+1) x2)) (iT x) 3;simpa using this)
 have HT1:Hid _:=T1;have HV:Hid _:=And.intro hV1 hV2;have HL2:Hid _:=hlt2;clear HI T1 t2 t3 t4 hV2 hlt2 y1 y2 y3;go_wp2_with fail;apply(HI2.out ()).mono;rintro e w3⟨v2,rfl,t2,t3,t4⟩;have T2:=Gd (w:=w2.setCell (aD d c) (.slice x1 (ks.length+1) x2)) (tg:=tg.more w1.heap.size o u) (o:=o) (d:=d) (c:=c+1) (u:=u+1) (by rw[Tags.AQ Ie.out.top];exact XQ.out.2) (zLJ Ie.out.top HT1.out.1.size) HV.out.1 HL2.out ((CY _ _ _).trans t3) t2 (t4.imp id (fun⟨g,h1,h2⟩=>⟨g,h1,by simp at h2⊢;omega⟩));obtain⟨x3,x4,rfl⟩:=Ac t2;have hc3:w3.cell? (aD d (c+1))=_:=(T2.2.2.2.2.1 (c+1)).trans HV.out.1;have hf3:w3.frozen? (aD d (c+1))=false:=(T2.2.2.2.2.2 (c+1)).trans (by rw[zMK];exact kP);have HF:Hid (Fe tg o d c u 3 (Ah ks ks.length nm) (Ah vs ks.length (iT x)) w (w3.setCell (aD d (c+1)) (.slice x3 (ks.length+1) x4))):=by
  have hnl:(Ah ks ks.length nm).length=ks.length+1:=CX hle;have e1:Ah (AX ks) ks.length (sT nm)=AX (Ah ks ks.length nm):=Jj _ _ _ _;obtain⟨z1,z2,z3,z4,_⟩:=HT1.out;obtain⟨u1,u2,u3,u4,_⟩:=T2;rw[e1]at z3;exact Fe.after (Pz z1 u1 XQ.out Ie.out.top (by rw[CX (by rw[gH.out];exact hle),hnl,gH.out]) z2 (by rw[hnl];exact z3) z4 u2 (by rw[hnl];exact u3) u4) Qp.out HM.out.top
 clear HI2 T2 t2 t3 t4 HT1 HV HL2 hc1 hf1 hV1;go_wp2_with fail;go_end0;exact⟨rfl,HF.out⟩
theorem zEJ(tg:Tags)(o d c u:Nat)(ks:List BA)(vs:List Value)(hs:S.DL ks)(hl:ks.length<=1048575)(nm:BA)(p:Nat)(hp:S.QJ ks nm=false)(h1:∀x∈vs,x.oneCell'=true)(w:World)(h:Ka w tg o d c u 154 ks vs)(hd:tg d≠(o,u)/\tg d≠(o,u+1))(hfr:w.frozen? (aD d c)=false/\w.frozen? (aD d (c+1))=false):
  Calls Tryz.prog 101 #[.pointer (some (aD d c)),sT nm,pT p] w fun e w'=>e=.returned (.tuple #[])/\Fe tg o d c u 154 (Ah ks (S.Et ks nm) nm) (Ah vs (S.Et ks nm) (pT p)) w w':=by
 have HM:=h_ h;have htop:=h.top;have hlen:=h.len;obtain⟨a1,k1,r1,r2,r3⟩:=h.keys;have HB:=hU (Od ks hs (by omega) nm 0 a1 k1 w r2);rw[hp]at HB;have hle:=S.Je ks nm;obtain⟨i,hi⟩:=xe (S.Et ks nm);rw[hi]at HB hle⊢;have gJ:=h_ hfr;have XQ:=h_ hd;have H1:=h_ h1;have gH:=h_ hlen;have zw:=h_ hs;clear h r2 r3 hfr hd h1 hlen hp hs;go_in;go_wp2_with fail;apply(HB.out ()).mono;rintro e w1⟨rfl,q1⟩;have hm1:=HM.out.kept q1;obtain⟨b1,c1,s1,s2,s3⟩:=hm1.keys;have hf1:w1.frozen? (aD d c)=false:=(q1.below.frozen (p:=(aD d c)) htop).trans gJ.out.1;have nA:=h_ ((q1.below.frozen (p:=(aD d (c+1))) htop).trans gJ.out.2);have HI:Hid _:=fun(_:Unit)=>YG (.slice b1 ks.length c1) ks.length (AX ks) i w1.heap.size (sT nm) (w1.alloc (.cells #[sT nm] 9)) hle (by omega) (s2.alloc _) (FQ _) rfl
  (fun e=>by have:=(s2.lt _ e).2;omega) (Ck w1 (sT nm) 9)
 have nU:Hid _:=s3;have Ie:=h_ hm1;have Qp:=h_ q1;clear HB s2 s3 hm1 q1;go_wp2_with fail;apply(HI.out ()).mono;rintro e w2⟨v1,rfl,t2,t3,t4⟩;have T1:=Gd (w:=w1) (tg:=tg) (o:=o) (d:=d) (c:=c) (u:=u) XQ.out.1 Ie.out.top s1 nU.out ((CY w1 _ _).trans t3) t2 (t4.imp id (fun⟨g,h1,h2⟩=>⟨g,h1,by simp at h2;omega⟩));obtain⟨b2,c2,y1,y2,y3⟩:=Ie.out.vals;obtain⟨x1,x2,rfl⟩:=Ac t2;have hc1:w2.cell? (aD d c)=_:=(T1.2.2.2.2.1 c).trans s1;have zBF:=(T1.2.2.2.2.2 c).trans hf1;have kP:=(T1.2.2.2.2.2 (c+1)).trans nA.out;have hV1:(w2.setCell (aD d c) (.slice x1 (ks.length+1) x2)).cell? (aD d (c+1))=some (.slice b2 ks.length c2):=(T1.1.cell (c+1) (by omega)).trans y1;have hV2:(w2.setCell (aD d c) (.slice x1 (ks.length+1) x2)).ownsRow 0 154 1 (.slice b2 ks.length c2) ks.length vs:=Ai y2 (fun g hg=>T1.1.block g (y2.lt g hg).2 (fun e=>XQ.out.2 (by rw[<-e];exact y3 g hg)) (fun e=>by have:=y3 g hg;rw[this]at e;injection e;omega));have hlt2:∀g,(Value.slice b2 ks.length c2).ownBlock=some g->(tg.more w1.heap.size o u) g=(o,u+1):=fun g hg=>by rw[Tags.AQ (y2.lt g hg).2];exact y3 g hg
 have HI2:Hid _:=fun(_:Unit)=>wY (.slice b2 ks.length c2) ks.length vs i w2.heap.size (pT p) ((w2.setCell (aD d c) (.slice x1 (ks.length+1) x2)).alloc (.cells #[pT p] 154)) hle (by omega) (hV2.alloc _) H1.out rfl
  (fun e=>by have:=(hV2.lt _ e).2;simp at this) (by have:=Ck (w2.setCell (aD d c) (.slice x1 (ks.length+1) x2)) (pT p) 154;simpa using this)
 have HT1:Hid _:=T1;have HV:Hid _:=And.intro hV1 hV2;have HL2:Hid _:=hlt2;clear HI T1 t2 t3 t4 hV2 hlt2 y1 y2 y3;go_wp2_with fail;apply(HI2.out ()).mono;rintro e w3⟨v2,rfl,t2,t3,t4⟩;have T2:=Gd (w:=w2.setCell (aD d c) (.slice x1 (ks.length+1) x2)) (tg:=tg.more w1.heap.size o u) (o:=o) (d:=d) (c:=c+1) (u:=u+1) (by rw[Tags.AQ Ie.out.top];exact XQ.out.2) (zLJ Ie.out.top HT1.out.1.size) HV.out.1 HL2.out ((CY _ _ _).trans t3) t2 (t4.imp id (fun⟨g,h1,h2⟩=>⟨g,h1,by simp at h2⊢;omega⟩));obtain⟨x3,x4,rfl⟩:=Ac t2;have hc3:w3.cell? (aD d (c+1))=_:=(T2.2.2.2.2.1 (c+1)).trans HV.out.1;have hf3:w3.frozen? (aD d (c+1))=false:=(T2.2.2.2.2.2 (c+1)).trans (by rw[zMK];exact kP);have HF:Hid (Fe tg o d c u 154 (Ah ks i nm) (Ah vs i (pT p)) w (w3.setCell (aD d (c+1)) (.slice x3 (ks.length+1) x4))):=by
  have hnl:(Ah ks i nm).length=ks.length+1:=CX hle;have e1:Ah (AX ks) i (sT nm)=AX (Ah ks i nm):=Jj _ _ _ _;obtain⟨z1,z2,z3,z4,_⟩:=HT1.out;obtain⟨u1,u2,u3,u4,_⟩:=T2;rw[e1]at z3;exact Fe.after (Pz z1 u1 XQ.out Ie.out.top (by rw[CX (by rw[gH.out];exact hle),hnl,gH.out]) z2 (by rw[hnl];exact z3) z4 u2 (by rw[hnl];exact u3) u4) Qp.out HM.out.top
 clear HI2 T2 t2 t3 t4 HT1 HV HL2 hc1 hf1 hV1;go_wp2_with fail;go_end0;exact⟨rfl,HF.out⟩
end Go.Proofs.YtekdenkllipehaaGreatDoor
