import Derived.Test.YtekdenkllipehabGreatDoorP48
set_option maxRecDepth 100000
set_option maxHeartbeats 8000000
namespace Go.Proofs.YtekdenkllipehabGreatDoor
open Go.RowKit
variable {C:S.Con} {L:List S.zZ} {T:S.Two} {X X':S.Sto} {ao:Option Addr} {bs:List (List Rec)} {clock:Int} {d d' r s s' x:Nat} {tg:Tags} {w w0 wr:World}
theorem Yn.kept {w':World} {ss:List Stq} (h:Yn w ao ss) (q:Q w w'):Yn w' ao ss:=fun i x hx=>by
 obtain ⟨⟨k1,k2,k3,k4⟩,b,off,e,c0,c1,c2,c3,c4⟩:=h i x hx;refine ⟨⟨k1,k2,k3,fun j y hy=>?_⟩,b,off,e,zA c0 q,zA c1 q,zA c2 q,zA c3 q,zA c4 q⟩;obtain ⟨b',o',g1,g2,g3⟩:=k4 j y hy;exact ⟨b',o',g1,zA g2 q,zQe g3 q.below.size⟩
structure zIy (w:World) (tg:Tags) (r s d s' d' x:Nat) (L:List S.zZ) (clock water:Int) (T:S.Two) (X X':S.Sto) (bs:List (List Rec)) (C:S.Con):Prop where
 run:ZQ w tg 1 r d' x L clock water true
 s1:∃ a b,zL w tg 3 s d X a b
 d1:∃ a b,zC w tg 2 d T.dsk a b
 s2:∃ a b,zL w tg 5 s' d' X' a b
 d2:∃ a b,zC w tg 4 d' T.dsk a b
 tab:Tab w
 gt:(tg 1).1=0
 ok1:S.yM L clock water T X bs C
 ok2:S.yM L clock water T X' bs C
 fine:T.dsk.yD
theorem zIy.keep {w w':World} {tg tg':Tags} {P:Nat→Prop} {r s d s' d' x x':Nat} {L:List S.zZ} {clock water:Int} {T:S.Two} {X X':S.Sto} {bs:List (List Rec)} {C:S.Con} (h:zIy w tg r s d s' d' x L clock water T X X' bs C) (k:Kept P tg w tg' w') (hP:∀ y,P y→y=1) (hR:ZQ w' tg' 1 r d' x' L clock water true):zIy w' tg' r s d s' d' x' L clock water T X X' bs C:=by
 obtain ⟨_,⟨a1,b1,h1⟩,⟨a2,b2,h2⟩,⟨a3,b3,h3⟩,⟨a4,b4,h4⟩,h5,h6,h7,h8,h9⟩:=h;have hb:∀ n,n≠1→∀ k,k<w.heap.size→(tg k).1=n→w'.heap[k]?=w.heap[k]?:=fun n hn k' hk e=>k.block k' hk (fun e2=>hn (by rw [←e];exact hP _ e2));have hG:=Zj h5;exact ⟨hR,⟨a1,b1,h1.keep k.size k.tags (hb 3 (by omega))⟩,⟨a2,b2,h2.keep k.size k.tags (hb 2 (by omega))⟩,⟨a3,b3,h3.keep k.size k.tags (hb 5 (by omega))⟩,⟨a4,b4,h4.keep k.size k.tags (hb 4 (by omega))⟩,yB h5 (hb 0 (by omega) _ hG h6),by rw [k.tags _ hG];exact h6,h7,h8,h9⟩
theorem zIy.q {w w':World} {tg:Tags} {r s d s' d' x:Nat} {L:List S.zZ} {clock water:Int} {T:S.Two} {X X':S.Sto} {bs:List (List Rec)} {C:S.Con} (h:zIy w tg r s d s' d' x L clock water T X X' bs C) (q:Q w w'):zIy w' tg r s d s' d' x L clock water T X X' bs C:=
 h.keep (P:=fun _=>False) (Kept.yU q (fun _ _=>rfl)) (fun _ e=>e.elim) (h.run.kept q)
theorem zIy.set {w:World} {tg:Tags} {r s d s' d' x:Nat} {L:List S.zZ} {clock water:Int} {T:S.Two} {X X':S.Sto} {bs:List (List Rec)} {C:S.Con} (h:zIy w tg r s d s' d' x L clock water T X X' bs C) (y:Nat):zIy (w.setCell ⟨r,1,none⟩ (.pointer (some ⟨y,0,none⟩))) tg r s d s' d' y L clock water T X X' bs C:=
 h.keep (Kept.setAt (w:=w) (tg:=tg) (R:=r) (r:=1) (j:=1) (by rw [h.run.tr]) _) (fun _ e=>e) (h.run.set 1 _ (by omega) rfl rfl rfl rfl rfl)
theorem zIy.right {water:Int} (h:zIy w tg r s d s' d' x L clock water T X X' bs C) (hx:x=s∨x=s') (W:World) (q:Q w W) (k:ByteArray) (hk:1≤k.size∧k.size≤64) (t:Int) (ht:0≤t∨t<water) :
  Calls Tryz.prog 10 #[.pointer (some ⟨r,0,none⟩),.string k,.int .i64 t] W fun e w'=>e=.returned (.bool true)∧Q W w':=by
 obtain ⟨h0,⟨a1,b1,h1⟩,⟨a2,b2,h2⟩,⟨a3,b3,h3⟩,⟨a4,b4,h4⟩,h5,h6,h7,h8,h9⟩:=h.q q;rcases hx with rfl|rfl
 ·exact zFh h0 h1 h2 h9 h5 h7 k hk t ht
 ·exact zFh h0 h3 h4 h9 h5 h8 k hk t ht
theorem zIy.facts {w:World} {tg:Tags} {r s d s' d' x:Nat} {L:List S.zZ} {clock water:Int} {T:S.Two} {X X':S.Sto} {bs:List (List Rec)} {C:S.Con} (h:zIy w tg r s d s' d' x L clock water T X X' bs C):∃ ao cap,zGP w r L clock ao cap:=
 ZQ.facts h.run h.ok1
def zLD (tg:Tags):Tags:=fun k=>if (tg k).1=1∨(tg k).1=2∨(tg k).1=3 then tg k else if (tg k).1=20 then (4,(tg k).2) else (0,0)
theorem zJ8 (tg:Tags) (k:Nat):(zLD tg k).1<10∧(zLD tg k).1≠5:=by
 unfold zLD;split
 ·rename_i h;rcases h with h | h | h<;>rw [h]<;>omega
 split<;>simp
theorem zGx {w1 w3:World} {tg3:Tags} {water:Int} {i3 i4 i7 i8:List Nat} (hB:zGM w0 w1 tg 10 1 3 2 r s d L clock water water T X bs C) (hp:X.zT=false) (hK:Kept (fun x=>x=1∨x=20) tg w1 tg3 w3) (hR3:ZQ w3 tg3 1 r d' s L clock water true) (hD3:zC w3 tg3 2 d T.dsk i3 i4) (hE3:zC w3 tg3 20 d' T.dsk i7 i8) :
  Calls Tryz.prog 18 #[.pointer (some ⟨d',0,none⟩)] w3 fun e w4=>∃ s' tg4,e=.returned (.tuple #[.pointer (some ⟨s',0,none⟩),.int .i64 0])∧zIy w4 tg4 r s d s' d' s L clock water T X (yc X.fl bs.flatten bs.flatten.length) bs C∧Q w0 w4:=by
 obtain ⟨j1,j2,j3,j4,hr⟩:=hB.run.rdy;have hG:=Zj hr.tab;have hGl:=hr.low _ hG;have hG1:=hB.run.rG;have hG2:=hr.tabo;have hfew:=hB.run.ok.few.2;have hS3:=hr.sto.keep hK.size hK.tags (fun k hk e=>hK.block k hk (by rw [e];omega));have h1:∀ k,k<w3.heap.size→(tg3 k).1=1∨(tg3 k).1=2∨(tg3 k).1=3→zLD tg3 k=tg3 k:=fun k _ e=>by unfold zLD;rw [if_pos e]
 have hGt:(zLD tg3 1).1=0:=by
  unfold zLD;rw [hK.tags _ hG,if_neg (by omega),if_neg (by omega)]
 have hT3:Tab w3:=yB hr.tab (hK.block _ hG (by omega));have hG3:=Zj hT3;obtain ⟨q3,t3⟩:=zDr hB.q hB.z hK (by omega);have z3:∀ k,k<w0.heap.size→(zLD tg3 k).1=0:=fun k hk=>by
  have:=t3 k hk;unfold zLD;rw [if_neg (by omega),if_neg (by omega)]
 have hL3:zC w3 (zLD tg3) 4 d' T.dsk i7 i8:=hE3.owner (fun k _ e=>by unfold zLD;rw [if_neg (by omega),if_pos e]);refine (zFp (o:=5) (od:=4) (m:=10) (d:=d') (T0:=T) (bs:=bs) (C:=C) (bad:=False) (wm:=X.fl) hL3 hr.fine hB.run.ok.on hB.run.ok.good.fil hT3 (by omega) (fun k _=>(zJ8 tg3 k).1) (fun k _=>(zJ8 tg3 k).2) (by omega) (by omega)).mono ?_;rintro e w4 ⟨tg4,i9,i10,hK4,_,hc⟩;rw [hB.run.ok.settle] at hc;rcases hc with ⟨hf,_⟩|⟨hf,_⟩|⟨_,s',hs',rfl,hS4,hD4⟩
 ·exact hf.elim
 ·exact absurd rfl hf
 have hb:∀ n,n≠4→∀ k,k<w3.heap.size→(zLD tg3 k).1=n→w4.heap[k]?=w3.heap[k]?:=fun n hn k hk e=>hK4.block k hk (by rw [e];exact hn);refine ⟨s',tg4,rfl,⟨(hR3.retag (fun k hk e=>h1 k hk (Or.inl e))).keep hK4 (by omega),⟨_,_,(hS3.retag (fun k hk e=>h1 k hk (Or.inr (Or.inr e)))).keep hK4.size hK4.tags (hb 3 (by omega))⟩,⟨_,_,(hD3.retag (fun k hk e=>h1 k hk (Or.inr (Or.inl e)))).keep hK4.size hK4.tags (hb 2 (by omega))⟩,⟨_,_,hS4⟩,⟨_,_,hD4⟩,yB hT3 (hb 0 (by omega) _ hG3 hGt),by rw [hK4.tags _ hG3];exact hGt,hB.run.ok,(hB.run.ok.again hp).1,hr.fine⟩,(zDr q3 z3 hK4 (by omega)).1⟩
def YN (w0:World) (r s d s' d':Nat) (L:List S.zZ) (clock water:Int) (T:S.Two) (X X':S.Sto) (bs:List (List Rec)) (C:S.Con) (x:Nat) (ao:Option Addr) (cap:Nat) (wr:World):Prop:=
 ∃ tg,zIy wr tg r s d s' d' x L clock water T X X' bs C∧Q w0 wr∧zGP wr r L clock ao cap
theorem YN.q {w0:World} {r s d s' d':Nat} {L:List S.zZ} {clock water:Int} {T:S.Two} {X X':S.Sto} {bs:List (List Rec)} {C:S.Con} {x:Nat} {ao:Option Addr} {cap:Nat} {wr w':World} (h:YN w0 r s d s' d' L clock water T X X' bs C x ao cap wr) (q:Q wr w'):YN w0 r s d s' d' L clock water T X X' bs C x ao cap w':=by
 obtain ⟨tg,h1,h2,f1,f2,f3,f4⟩:=h;refine ⟨tg,h1.q q,h2.trans q,zA f1 q,zA f2 q,f3,fun i f hf=>?_⟩;obtain ⟨g1,g2,g,e,c0,c1,c2,c3⟩:=f4 i f hf;exact ⟨g1,g2,g,e,zA c0 q,zA c1 q,zA c2 q,zA c3 q⟩
theorem YN.set {w0:World} {r s d s' d':Nat} {L:List S.zZ} {clock water:Int} {T:S.Two} {X X':S.Sto} {bs:List (List Rec)} {C:S.Con} {x:Nat} {ao:Option Addr} {cap:Nat} {wr:World} (h:YN w0 r s d s' d' L clock water T X X' bs C x ao cap wr) (hr:w0.heap.size≤r) (y:Nat):YN w0 r s d s' d' L clock water T X X' bs C y ao cap (wr.setCell ⟨r,1,none⟩ (.pointer (some ⟨y,0,none⟩))):=by
 obtain ⟨tg,h1,h2,f1,f2,f3,f4⟩:=h;have hP:=h1.set y;obtain ⟨o2,k2,F1,F2,F3,F4⟩:=hP.facts;have hne:(⟨r,1,none⟩:Addr)≠⟨r,2,none⟩:=by intro e;injection e with _ e;omega
 have e2:=F1;rw [zRb _ _ _ _ hne,f1] at e2;injection e2 with e2;injection e2 with e3 _ e4;subst e3 e4;exact ⟨tg,hP,h2.setCell (p:=⟨r,1,none⟩) hr _,F1,F2,F3,F4⟩
theorem YN.at {water:Int} {cap:Nat} (h:YN w0 r s d s' d' L clock water T X X' bs C x ao cap wr) :
  wr.cell? ⟨r,2,none⟩=some (.slice ao L.length cap)∧wr.cell? ⟨r,3,none⟩=some (.int .i64 clock)∧wr.cell? ⟨r,1,none⟩=some (.pointer (some ⟨x,0,none⟩))∧wr.frozen? ⟨r,1,none⟩=false∧∀ (i:Nat) (f:S.zZ),L[i]?=some f→(0≤f.stamp∧f.stamp≤clock)∧(1≤f.key.size∧f.key.size≤64)∧∃ g,ao=some ⟨g,0,none⟩∧wr.cell? ⟨g,i*4,none⟩=some (.string f.key)∧wr.cell? ⟨g,i*4+1,none⟩=some (.int .i64 f.stamp):=by
 obtain ⟨tg,h1,h2,f1,f2,f3,f4⟩:=h;refine ⟨f1,f2,h1.run.c1,h1.run.fr 1,fun i f hf=>?_⟩;obtain ⟨g1,g2,g,e,c0,c1,_,_⟩:=f4 i f hf;exact ⟨g1,g2,g,e,c0,c1⟩
theorem YN.base {water:Int} {cap:Nat} (h:YN w0 r s d s' d' L clock water T X X' bs C x ao cap wr):Q w0 wr:=by
 obtain ⟨tg,h1,h2,_⟩:=h;exact h2
theorem YN.right {w0:World} {r s d s' d':Nat} {L:List S.zZ} {clock water:Int} {T:S.Two} {X X':S.Sto} {bs:List (List Rec)} {C:S.Con} {x:Nat} {ao:Option Addr} {cap:Nat} {wr:World} (h:YN w0 r s d s' d' L clock water T X X' bs C x ao cap wr) (hx:x=s∨x=s') (W:World) (q:Q wr W) (k:ByteArray) (hk:1≤k.size∧k.size≤64) (t:Int) (ht:0≤t∨t<water) :
  Calls Tryz.prog 10 #[.pointer (some ⟨r,0,none⟩),.string k,.int .i64 t] W fun e w'=>e=.returned (.bool true)∧Q W w':=by
 obtain ⟨tg,h1,_⟩:=h;exact h1.right hx W q k hk t ht
theorem zIl (w:World) (hT:Tab w) (ss:List Stq) (ao:Option Addr) (cap:Nat) (hS:Yn w ao ss) (stamp:Int) (hst:-9223372036854775808≤stamp∧stamp≤9223372036854775807) :
  Calls Tryz.prog 4 #[.slice ao ss.length cap,.int .i64 stamp] w fun e w'=>e=.returned (.bool true)∧Q w w':=by
 have DN:Hid _:=fun (_:Unit)=>zC0 1048576 (by omega) (fun _=>(0,0)) 2 w;have HS:Hid (Tab w∧Yn w ao ss):=⟨hT,hS⟩;clear hT hS;go_enter Tryz.func4,Tryz.ntmps4;go_wp2_with fail;refine (DN.out ()).mono ?_;rintro e w1 ⟨rfl,hL1,q1⟩;have OP:Hid _:=fun (_:Unit)=>zLy HS.out.1 q1 hL1;obtain ⟨d,hd⟩:∃ d,d=w.heap.size:=⟨_,rfl⟩;clear DN hL1 q1;go_wp2_with fail;refine (OP.out ()).mono ?_;rintro e w2 ⟨s,rfl,tg3,hB3⟩;obtain ⟨r,hr⟩:∃ r,r=w2.heap.size:=⟨_,rfl⟩;obtain ⟨w3,hw3⟩:∃ w3,w3=w2.alloc (.cells #[.pointer (some ⟨d,0,none⟩),.pointer (some ⟨s,0,none⟩),.slice none 0 0,.int .i64 0,.int .i64 (-1),.bool true] 33):=⟨_,rfl⟩;rw [←hd,←hr,←hw3] at hB3;obtain ⟨i1,i2,i3,i4,hr3⟩:=hB3.run.rdy;have CP:Hid _:=fun (_:Unit)=>zBW (od2:=20) (J:=0) hB3.run.run hr3.disk zBo rfl (by omega) (by omega) (by omega) (by omega) (by omega);have HB3:Hid (zGM w w3 tg3 10 1 3 2 r s d [] 0 (-1) (-1) Yp (yc (-1) [] 0) [] (fun _=>[])):=hB3;clear OP hB3 hr3;go_wp2_with fail;rw [←hd,←hw3,←hr];clear hw3 hr hd;refine (CP.out ()).mono ?_;rintro e w4 ⟨rfl,tg4,d',i5,i6,hd',hK4,hR4,hD4,hE4⟩;rw [zLz.copy] at hE4;have r0:=hR4.c0;have OP:Hid _:=fun (_:Unit)=>zGx HB3.out rfl hK4 hR4 hD4 hE4;clear CP hK4 hR4 hD4 hE4 HB3;go_wp2_with fail;refine (OP.out ()).mono ?_;rintro e w5 ⟨s',tg5,rfl,hP5,q5⟩;have r5:=hP5.run.c5;obtain ⟨k1,k2,h3⟩:=hP5.s2;obtain ⟨k3,k4,h4⟩:=hP5.d2;have GA:=zEM h3 hP5.ok2.good (fun _=>⟨h4,hP5.fine,hP5.ok2.on⟩) hP5.tab zAq 0;have ha:(yc (yc (-1) [] 0).fl ([]:List (List Rec)).flatten ([]:List (List Rec)).flatten.length).asking zAq 0=0:=by
  unfold S.Sto.asking;rw [hP5.ok2.dead,if_neg (by simp),if_neg (by decide),if_neg (by rw [hP5.ok2.wm];omega)]
 have htold:=hP5.ok2.keeps.told (t:=0) (by rw [hP5.ok2.wm];omega) zAq;rw [ha] at GA;simp only [if_true,false_and,or_false] at GA;rw [htold] at GA;have GB:Hid _:=fun (_:Unit)=>GA;unfold zOM zAq at GB;have HQ5:Hid (Q w w5):=q5;clear OP hP5 q5 GA ha htold r0 h3 h4;go_wp2_with fail;refine (GB.out ()).mono ?_;rintro e w6 ⟨rfl,q6⟩;have HQ6:Hid (Q w w6):=HQ5.out.trans q6;have PL:Hid _:=fun (_:Unit)=>zCg w6 (yE HS.out.1 HQ6.out) ss ao cap (HS.out.2.kept HQ6.out);clear GB q6 HQ5 HS r5;go_wp2_with fail;refine (PL.out ()).mono ?_;rintro e w7 ⟨r1,s1,d1,L,clock,water,rfl,hR,h0⟩;have FL:Hid _:=fun (_:Unit)=>zDL hR;have hcl:=hR.nums.2.2.1;clear PL hR;go_wp2_with fail;refine (FL.out ()).mono ?_;rintro e w8 ⟨rfl,tg8,T,X,bs,C,hB,hp⟩;obtain ⟨j1,j2,j3,j4,hr8⟩:=hB.run.rdy;have c1:=hB.run.run.c1;have hr1:w.heap.size≤r1:=by
  have h1:=HQ6.out.below.size;have h2:¬r1<w6.heap.size:=fun e=>by have:=hB.z r1 e;rw [hB.run.run.tr] at this;omega
  omega
 have CP:Hid _:=fun (_:Unit)=>zBW (od2:=20) (J:=0) hB.run.run hr8.disk hr8.fine hB.run.ok.alive (by omega) (by omega) (by omega) (by omega) (by omega);have HB:Hid (zGM w6 w8 tg8 10 1 3 2 r1 s1 d1 L clock water water T X bs C∧X.zT=false):=⟨hB,hp⟩;clear FL hB hp hr8;go_wp2_with fail;refine (CP.out ()).mono ?_;rintro e w9 ⟨rfl,tg9,d2,j5,j6,hd2,hK9,hR9,hD9,hE9⟩;rw [HB.out.1.run.ok.copy] at hE9;have r0:=hR9.c0;have OP:Hid _:=fun (_:Unit)=>zGx HB.out.1 HB.out.2 hK9 hR9 hD9 hE9;clear CP hK9 hR9 hD9 hE9 HB c1 hd2;go_wp2_with fail;refine (OP.out ()).mono ?_;rintro e w10 ⟨s2,tg10,rfl,hP10,q10⟩;have r5:=hP10.run.c5;obtain ⟨fo,fc,hF⟩:=hP10.facts;have hlen:=hF.2.2.1;have HP:Hid (YN w r1 s1 d1 s2 d2 L clock water T X (yc X.fl bs.flatten bs.flatten.length) bs C s1 fo fc w10):=⟨tg10,hP10,HQ6.out.trans q10,hF⟩;have P5:Hid _:=zBM stamp 5 hst (by omega);obtain ⟨p5,hp5⟩:∃ p5,p5=pk stamp 5:=⟨_,rfl⟩;have hp5r:=zBL stamp 5 (by omega);rw [←hp5] at P5 hp5r;have e5:IntKind.i64.wrap (clock+p5)=clock+p5:=by rw [IntKind.wrap_i64];omega
 clear OP hP10 q10 hF r0 hp5 HQ6;go_wp2_with fail
 go_loopw [19] (fun ti wr=>∃ i:Nat,ti=.int .i64 (i:Int)∧i≤L.length∧∃ x,Hid (YN w r1 s1 d1 s2 d2 L clock water T X (yc X.fl bs.flatten bs.flatten.length) bs C x fo fc wr)) (fun ti _=>L.length-(intOf ti).toNat)
 case atStart=>exact ⟨0,rfl,zQn _,s1,HP⟩
 case round =>
  obtain ⟨i,rfl,hi,x,HP⟩:=hrel;obtain ⟨c2,c3,c1,f1,hfa⟩:=HP.out.at;by_cases hlt:i<L.length
  ·obtain ⟨f,hf⟩:∃ f,L[i]?=some f:=⟨_,zQc hlt⟩;have hltI:(i:Int)<(L.length:Int):=by omega
   obtain ⟨hfs,hfk,g,hg,_,_⟩:=hfa i f hf;subst hg;have HF:Hid (L[i]?=some f):=hf;have HP1:Hid (YN w r1 s1 d1 s2 d2 L clock water T X (yc X.fl bs.flatten bs.flatten.length) bs C s2 (some ⟨g,0,none⟩) fc (wr.setCell ⟨r1,1,none⟩ (.pointer (some ⟨s2,0,none⟩)))):=HP.out.set hr1 s2;obtain ⟨wA,hwA⟩:∃ wA,wA=wr.setCell ⟨r1,1,none⟩ (.pointer (some ⟨s2,0,none⟩)):=⟨_,rfl⟩;rw [←hwA] at HP1;clear hfa hf;go_upto_region 24 with fail
   rw [←hwA];clear hwA c2 c3 c1 f1 HP;obtain ⟨c2,c3,c1,f1,hfa⟩:=HP1.out.at;obtain ⟨_,_,g',hg',k0,k1⟩:=hfa i f HF.out;obtain rfl:g=g':=by injection hg' with e;injection e
   have R1:Hid _:=fun (W:World) (q:Q wA W)=>HP1.out.right (Or.inr rfl) W q f.key hfk f.stamp (Or.inl hfs.1);clear hfa hg'
   go_region_held3 (fun w'=>w'.cell? ⟨r1,2,none⟩=some (.slice (some ⟨g,0,none⟩) L.length fc)∧w'.cell? ⟨g,i*4,none⟩=some (.string f.key)∧w'.cell? ⟨g,i*4+1,none⟩=some (.int .i64 f.stamp))
    (first | exact ⟨c2,k0,k1⟩ | exact hS4)
    (first
     | (go_at_call 10;refine (R1.out _ ((Q.refl wA).drew)).mono ?_;rintro e w4 ⟨rfl,q4⟩;have hS4:w4.cell? ⟨r1,2,none⟩=some (.slice (some ⟨g,0,none⟩) L.length fc)∧w4.cell? ⟨g,i*4,none⟩=some (.string f.key)∧w4.cell? ⟨g,i*4+1,none⟩=some (.int .i64 f.stamp):=⟨zA c2 (((Q.refl wA).drew).trans q4),zA k0 (((Q.refl wA).drew).trans q4),zA k1 (((Q.refl wA).drew).trans q4)⟩))
   all_goals
    have HP4:Hid (YN w r1 s1 d1 s2 d2 L clock water T X (yc X.fl bs.flatten bs.flatten.length) bs C s2 (some ⟨g,0,none⟩) fc w4):=HP1.out.q (((Q.refl wA).drew).trans q4);clear hS4 q4 R1 HP1 c2 c3 c1 f1 k0 k1;obtain ⟨c2,c3,c1,f1,hfa⟩:=HP4.out.at;obtain ⟨_,_,g',hg',k0,k1⟩:=hfa i f HF.out;obtain rfl:g=g':=by injection hg' with e;injection e
    have R2:Hid _:=fun (W:World) (q:Q w4 W)=>HP4.out.right (Or.inr rfl) W q f.key hfk (clock+p5) (Or.inl (by omega));clear hfa hg';go_upto_region 25 with fail
    go_region_held3 (fun w'=>w'.cell? ⟨r1,2,none⟩=some (.slice (some ⟨g,0,none⟩) L.length fc)∧w'.cell? ⟨g,i*4,none⟩=some (.string f.key)∧w'.cell? ⟨r1,3,none⟩=some (.int .i64 clock))
     (first | exact ⟨c2,k0,c3⟩ | exact hS5)
     (first
      | (go_at_call 12;refine (P5.out _).mono ?_;rintro e w6 ⟨rfl,hw6⟩;subst hw6)
      | (go_at_call 10;refine (R2.out _ ((Q.refl w4).drew)).mono ?_;rintro e w5 ⟨rfl,q5⟩;have hS5:w5.cell? ⟨r1,2,none⟩=some (.slice (some ⟨g,0,none⟩) L.length fc)∧w5.cell? ⟨g,i*4,none⟩=some (.string f.key)∧w5.cell? ⟨r1,3,none⟩=some (.int .i64 clock):=⟨zA c2 (((Q.refl w4).drew).trans q5),zA k0 (((Q.refl w4).drew).trans q5),zA c3 (((Q.refl w4).drew).trans q5)⟩))
    all_goals
     have HP5:Hid (YN w r1 s1 d1 s2 d2 L clock water T X (yc X.fl bs.flatten bs.flatten.length) bs C s2 (some ⟨g,0,none⟩) fc w5):=HP4.out.q (((Q.refl w4).drew).trans q5);clear hS5 q5 R2 HP4 c2 c3 c1 f1 k0 k1;obtain ⟨c2,c3,c1,f1,hfa⟩:=HP5.out.at;have HP6:Hid (YN w r1 s1 d1 s2 d2 L clock water T X (yc X.fl bs.flatten bs.flatten.length) bs C s1 (some ⟨g,0,none⟩) fc (w5.setCell ⟨r1,1,none⟩ (.pointer (some ⟨s1,0,none⟩)))):=HP5.out.set hr1 s1;obtain ⟨wB,hwB⟩:∃ wB,wB=w5.setCell ⟨r1,1,none⟩ (.pointer (some ⟨s1,0,none⟩)):=⟨_,rfl⟩;rw [←hwB] at HP6;clear hfa;go_upto_region 27 with fail
     rw [←hwB];clear hwB c2 c3 c1 f1 HP5;obtain ⟨c2,c3,c1,f1,hfa⟩:=HP6.out.at;obtain ⟨_,_,g',hg',k0,k1⟩:=hfa i f HF.out;obtain rfl:g=g':=by injection hg' with e;injection e
     have R3:Hid _:=fun (W:World) (q:Q wB W)=>HP6.out.right (Or.inl rfl) W q f.key hfk f.stamp (Or.inl hfs.1);clear hfa hg'
     go_region_held3 (fun w'=>w'.cell? ⟨r1,2,none⟩=some (.slice (some ⟨g,0,none⟩) L.length fc)∧w'.cell? ⟨g,i*4,none⟩=some (.string f.key)∧w'.cell? ⟨g,i*4+1,none⟩=some (.int .i64 f.stamp))
      (first | exact ⟨c2,k0,k1⟩ | exact hS7)
      (first
       | (go_at_call 10;refine (R3.out _ ((Q.refl wB).drew)).mono ?_;rintro e w7 ⟨rfl,q7⟩;have hS7:w7.cell? ⟨r1,2,none⟩=some (.slice (some ⟨g,0,none⟩) L.length fc)∧w7.cell? ⟨g,i*4,none⟩=some (.string f.key)∧w7.cell? ⟨g,i*4+1,none⟩=some (.int .i64 f.stamp):=⟨zA c2 (((Q.refl wB).drew).trans q7),zA k0 (((Q.refl wB).drew).trans q7),zA k1 (((Q.refl wB).drew).trans q7)⟩))
     all_goals
      have HP7:Hid (YN w r1 s1 d1 s2 d2 L clock water T X (yc X.fl bs.flatten bs.flatten.length) bs C s1 (some ⟨g,0,none⟩) fc w7):=HP6.out.q (((Q.refl wB).drew).trans q7);clear hS7 q7 R3 HP6 c2 c3 c1 f1 k0 k1;go_wp2_with fail
      go_roundw
      case rel=>exact ⟨i+1,by go_num,by omega,s1,HP7⟩
      case measure=>simp [intOf];omega
  ·obtain rfl:i=L.length:=by omega
   have HE:Hid (Q w wr):=HP.out.base;clear hfa HP;go_wp2_with fail;go_ret;exact ⟨rfl,HE.out⟩
end Go.Proofs.YtekdenkllipehabGreatDoor
