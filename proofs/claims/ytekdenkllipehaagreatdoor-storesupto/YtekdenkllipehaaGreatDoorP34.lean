import Derived.Test.YtekdenkllipehaaGreatDoorP31
import Derived.Test.YtekdenkllipehaaGreatDoorP32
set_option maxRecDepth 99999
set_option maxHeartbeats 0
namespace Go.Proofs.YtekdenkllipehaaGreatDoor
open Go.RowKit
section
variable{ao:Option Addr}{bad:Prop}{bl:BA}{bs:List (List Rec)}{c lc nx:Nat}{left rest:List Rec}{w w':World}{wm:Int}
def KY(bad:Prop)(T:List UInt8)(bs:List (List Rec))(wm:Int):Prop:=
 match S.readFile T with
 |none=>bad
 |some L=>L.wm=wm/\L.IV=S.CR 0 bs/\JK bad ⟨L.blocks.toArray⟩ bs
theorem KY.whole{bs:List (List Rec)}{wm:Int}(bad:Prop)(hok:∀b∈bs,S.OkB b)(hw:-1<=wm)(hw2:wm<=1099511627776)(hs:(S.Aa bs wm).length<=1048576):KY bad (S.Aa bs wm) bs wm:=by
 unfold KY;rw[S.TP hok hw hw2 hs];exact⟨rfl,rfl,JK.whole bad bs⟩
structure MS(bad:Prop)(D:M.Dsk)(bs:List (List Rec))(wm:Int):Prop where
 alive:D.dead=false
 file:((D.read Bw).2=7/\bs=[]/\wm=-1)\/((D.read Bw).2=0/\KY bad (D.read Bw).1 bs wm)
def Reads(bad:Prop)(bs:List (List Rec))(wm:Int)(w:World)(e:Ending)(w':World):Prop:=
 (∃bl ao cap,JK bad bl bs/\bl.size<=1048576/\e=.returned (.tuple #[F3 wm bl ao bs.length cap,iT 0])/\Dz w' ao (S.CR 0 bs)/\∀a,ao=some a->w.heap.size<=a.block)
 \/ (bad/\e=.returned (.tuple #[Mi,iT 3]))
theorem S.Sd:∀bs:List (List Rec),bs.length<=(S.Aw bs).length
 |[]=>zLK _
 |b::bs=>by
  have:=S.Sd bs;have h4:4<=(S.Aj b).length:=by unfold S.Aj;rw[M.Ar];omega
  have e:S.Aw (b::bs)=S.Aj b++S.Aw bs:=by simp[S.Aw]
  rw[e,zLL,zLQ];omega
theorem JK.few(h:JK bad bl bs)(hb:bl.size<=1048576):bs.length<=1048576:=by
 have:=S.Sd bs;have:=h.size;omega
theorem Qv{T:List UInt8}{L:S.Lay}(h:S.readFile T=some L):L.blocks.length<=T.length:=by
 unfold S.readFile at h
 cases h1:S.Gp T 8 with
 |none=>rw[h1]at h;cases h
 |some p =>
  obtain⟨A,foot⟩:=p;rw[h1]at h;simp only at h
  cases h2:S.Gp A (((CG foot 72057594037927935 0).1:Int)-2097152)with
  |none=>rw[h2]at h;cases h
  |some p =>
   obtain⟨bl,idx⟩:=p;rw[h2]at h;simp only at h;have l1:=(KF h1).1;have l2:=(KF h2).1;unfold S.FU at h;simp only at h;split at h
   .cases h
   .injection h with h;subst h;exact zLV l2 l1
theorem Md(tg:Tags)(o d:Nat)(D:M.Dsk)(ids ps:List Nat)(hD:D.BS)(hO:MS bad D bs wm)(w:World)(h:AJ w tg o d D ids ps)(hT:Tab w):
  Calls Tryz.prog 61 #[pT d] w fun e w'=>Reads bad bs wm w e w'/\Q w w':=by
 apply(VD tg o d D ids ps hD w h hT).mono;rintro e w'⟨hR,q⟩;refine⟨?_,q⟩;have hs:=Rh hD Bw;unfold Oe at hR;rcases hO.file with⟨h7,rfl,rfl⟩|⟨h0,hTx⟩
 .obtain⟨⟨x,c⟩,hx⟩:=ex (D.read Bw);rw[<-hx]at hR h7;simp only at h7;subst h7;exact Or.inl ⟨⟨#[]⟩,none,0,⟨rfl,fun i b p hi=>by simp at hi⟩,by simp[ByteArray.size],hR,Or.inl rfl,fun a ha=>by cases ha⟩
 .obtain⟨⟨x,c⟩,hx⟩:=ex (D.read Bw);rw[<-hx]at hR h0 hTx hs;simp only at h0 hTx hs;subst h0;unfold KY at hTx;simp only at hR;unfold J3 at hR
  cases hf:S.readFile x with
  |none =>
   rw[hf]at hR hTx;exact Or.inr ⟨hTx,hR⟩
  |some L =>
   rw[hf]at hR hTx;obtain⟨ao,cap,he,hE,ha⟩:=hR;obtain⟨h1,h2,h3⟩:=hTx;rw[h2]at hE he;rw[S.Cz,h1]at he;refine Or.inl ⟨_,ao,cap,h3,?_,he,hE,ha⟩;have:=Qv hf;simp[ByteArray.size];omega
def S.Sto.vAt(X:S.Sto)(C:S.Con)(k:BA)(t:Int):BA×Bool:=
 match X.FM k t with
 |some r=>(r.body,decide (r.kind=0))
 |none=>S.told (S.Ak (C k) t)
def zA5(p:BA×Bool):Ending:=.returned (.tuple #[sT p.1,.bool p.2,iT 0])
theorem aR{tg AU:Tags}{o s d od:Nat}{X:S.Sto}{ids ps Al ps':List Nat}{D:M.Dsk}{C:S.Con}(h:Ag w tg o s d X ids ps)(hX:X.Ok)(hd:AJ w AU od d D Al ps')(hD:D.BS)(hO:MS bad D bs wm)(hF:S.Fil CU bs C)(hT:Tab w)(hn:∀k,S.BX X.newest k=none->C k=[])(k:BA)(t:Int):
  Calls Tryz.prog 76 #[pT s,sT k,iT t] w fun e w'=>(e=zA5 (X.vAt C k t)\/(bad/\e=Wv))/\Q w w':=by
 have PA:Hid _:=fun(W:World)(q:Q w W)=>Lh (h.kept q) hX k t;have NG:Hid _:=fun(W:World)(q:Q w W)=>Jd (h.kept q) hX k;have SR:Hid _:=fun(W:World)(q:Q w W)=>Md AU od d D Al ps' hD hO W (hd.kept q) (CJ hT q);have LV:Hid _:=fun(bl:BA)(ao:Option Addr)(cap:Nat)(hL:JK bad bl bs)(hb:bl.size<=1048576)(W:World)(q:Q w W)(hE:Dz W ao (S.CR 0 bs))=>cK hL hb hF (hL.few hb) wm ao cap k t W hE (CJ hT q);have c0:=h.c0;have hn':=hn k
 cases hp:X.FM k t with
 |some r =>
  have hv:X.vAt C k t=(r.body,decide (r.kind=0)):=by simp[S.Sto.vAt,hp]
  have hdc:decide (r.kind=0)=(r.kind==0):=by
   by_cases h0:r.kind=0
   .simp[h0]
   .rw[decide_eq_false h0];exact(zM9.2 h0).symm
  rw[hv,hdc];rw[hp]at PA;simp only[zLT,zLX]at PA;unfold Rec.val at PA;go_in;go_wp2_with fail;apply(PA.out _ (Q.refl w)).mono;rintro e w1⟨rfl,q1⟩;go_wp2_with fail;go_quiet (fail);go_wp2_with fail
  go_ret3
  exact⟨Or.inl rfl,(by first|exact(q1.alloc _ _).drewN _|exact(q1.alloc _ _).drew)⟩
 |none =>
  have hv:X.vAt C k t=S.told (S.Ak (C k) t):=by simp[S.Sto.vAt,hp]
  rw[hv];rw[hp]at PA;simp only[Option.getD_none,zLo]at PA;unfold JS Rec.val at PA
  cases hnk:S.BX X.newest k with
  |none =>
   have hz:zA5 (S.told (S.Ak (C k) t))=.returned (.tuple #[eS,.bool false,iT 0]):=by
    rw[hn' hnk];rfl
   rw[hz];rw[hnk]at NG;simp only[Option.getD_none,zLo]at NG;go_in;go_wp2_with fail;apply(PA.out _ (Q.refl w)).mono;rintro e w1⟨rfl,q1⟩;have W9:=hU (NG.out _ (q1.alloc #[eS,iT 0,iT 0,eS] 119));go_wp2_with fail;apply(W9.out ()).mono;rintro e w2⟨rfl,q2⟩;have q3:=(q1.alloc #[eS,iT 0,iT 0,eS] 119).trans q2;go_wp2_with fail
   go_ret3
   exact⟨Or.inl rfl,q3⟩
  |some nn =>
   have hte:zA5 (S.told (S.Ak (C k) t))=Gb (S.Ak (C k) t):=rfl;rw[hte];obtain⟨tv,htv⟩:=xe (S.told (S.Ak (C k) t));unfold Gb at LV⊢;rw[htv]at LV⊢;rw[hnk]at NG;simp only[zLT,zLX]at NG;go_in;go_wp2_with fail;apply(PA.out _ (Q.refl w)).mono;rintro e w1⟨rfl,q1⟩;have W9:=hU (NG.out _ (q1.alloc #[eS,iT 0,iT 0,eS] 119));go_wp2_with fail;apply(W9.out ()).mono;rintro e w2⟨rfl,q2⟩;have q3:=(q1.alloc #[eS,iT 0,iT 0,eS] 119).trans q2;have SR2:=hU (SR.out w2 q3);have k0:=AA c0 q3;go_wp2_with fail;apply(SR2.out ()).mono;rintro e w3⟨hR,q4⟩;have q5:=q3.trans q4;rcases hR with⟨bl,ao,cap,hL,hb,rfl,hE,_⟩|⟨hbad,rfl⟩
   .have q6:=q5.alloc #[iT wm,sT bl,.slice ao bs.length cap] 112;have LV2:=hU (LV.out bl ao cap hL hb _ q6 (hE.kept ((Q.refl w3).alloc _ _)));unfold F3 at*;go_wp2_with fail;apply(LV2.out ()).mono;rintro e w4⟨hA,q8⟩;have q7:=q6.trans q8;rcases hA with rfl|⟨hbad,rfl⟩
    .go_wp2_with fail
     go_ret3
     exact⟨Or.inl rfl,q7⟩
    .unfold Wv;go_wp2_with fail
     go_ret3
     exact⟨Or.inr ⟨hbad,rfl⟩,q7⟩
   .unfold Mi;go_wp2_with fail
    go_ret3
    exact⟨Or.inr ⟨hbad,rfl⟩,q5.alloc _ _⟩
structure But(c:Nat)(w w':World):Prop where
 os:w'.os=w.os
 tape:w'.tape=w.tape
 output:w'.output=w.output
 size:w.heap.size<=w'.heap.size
 block:∀k,k<w.heap.size->k≠c->w'.heap[k]?=w.heap[k]?
theorem But.refl(c:Nat)(w:World):But c w w:=⟨rfl,rfl,rfl,zLK _,fun _ _ _=>rfl⟩
theorem But.Be(q:Q w w'):But c w w':=⟨q.below.os,q.below.tape,q.below.output,q.below.size,fun k hk _=>q.below.block k hk⟩
theorem But.trans{c:Nat}{a b d:World}(h:But c a b)(k:But c b d):But c a d:=
 ⟨k.os.trans h.os,k.tape.trans h.tape,k.output.trans h.output,zLV h.size k.size,fun i hi hn=>(k.block i (zLJ hi h.size) hn).trans (h.block i hi hn)⟩
theorem But.set(h:But c w w')(j:Nat)(v:Value):But c w (w'.setCell (aD c j) v):=
 ⟨h.os,h.tape,h.output,by simpa using h.size,fun k hk hn=>(heap_setCell_other w' (aD c j) k v (fun e=>hn (by simpa using e))).trans (h.block k hk hn)⟩
theorem Dz.but{l:List S.Ent}(h:Dz w ao l)(hb:But c w w')(hn:∀a,ao=some a->l≠[]->a.block≠c):Dz w' ao l:=by
 by_cases hl:l=[]
 .exact Or.inl hl
 rcases h with h|⟨g,rfl,hg,hc⟩
 .exact Or.inl h
 .have e:w'.heap[g]?=w.heap[g]?:=hb.block g hg (hn _ rfl hl);have k:∀j,w'.cell? (aD g j)=w.cell? (aD g j):=fun j=>zMI (a:=(aD g j)) e;refine Or.inr ⟨g,rfl,zLJ hg hb.size,fun i x hi=>?_⟩;obtain⟨a,b,d,f⟩:=hc i x hi;exact⟨(k _).trans a,(k _).trans b,(k _).trans d,(k _).trans f⟩
theorem Rcs.but{l:List Rec}(h:Rcs w ao l)(hb:But c w w')(hn:∀a,ao=some a->a.block≠c):Rcs w' ao l:=by
 rcases h with h|⟨g,off,rfl,hg,hc⟩
 .exact Or.inl h
 .have e:w'.heap[g]?=w.heap[g]?:=hb.block g hg (hn _ rfl);have k:∀j,w'.cell? (aD g j)=w.cell? (aD g j):=fun j=>zMI (a:=(aD g j)) e;refine Or.inr ⟨g,off,rfl,zLJ hg hb.size,fun i x hi=>?_⟩;obtain⟨a,b,d,f⟩:=hc i x hi;exact⟨(k _).trans a,(k _).trans b,(k _).trans d,(k _).trans f⟩
def Qa(wm:Int)(bl:BA)(ao:Option Addr)(n cap:Nat)(nx:Nat)(lo:Option Addr)(ln lc:Nat):List Value:=[iT wm,sT bl,.slice ao n cap,iT (nx:Int),.slice lo ln lc]
structure Gv(bad:Prop)(w:World)(c:Nat)(bs:List (List Rec))(wm:Int)(bl:BA)(ao:Option Addr)(cap nx:Nat)(lo:Option Addr)(lc:Nat)(left rest:List Rec):Prop where
 laid:JK bad bl bs
 small:bl.size<=1048576
 ok:∀b∈bs,S.OkB b
 var:Ca w c (Qa wm bl ao bs.length cap nx lo left.length lc)
 IV:Dz w ao (S.CR 0 bs)
 QV:∀a,ao=some a->S.CR 0 bs≠[]->a.block≠c
 recs:Rcs w lo left
 ZB:∀a,lo=some a->a.block≠c
 Na:∀a,lo=some a->a.block<w.heap.size
 cap:left.length<=lc
 next:nx<=bs.length
 rest:left++(bs.drop nx).flatten=rest
theorem Gv.kept{bad:Prop}{w w':World}{c:Nat}{bs:List (List Rec)}{wm:Int}{bl:BA}{ao:Option Addr}{cap nx:Nat}{lo:Option Addr}{lc:Nat}{left rest:List Rec}(h:Gv bad w c bs wm bl ao cap nx lo lc left rest)(q:Q w w'):Gv bad w' c bs wm bl ao cap nx lo lc left rest:=
 ⟨h.laid,h.small,h.ok,h.var.kept q,h.IV.kept q,h.QV,h.recs.kept q,h.ZB,fun a ha=>zLJ (h.Na a ha) q.below.size,h.cap,h.next,h.rest⟩
theorem fD{b:List Rec}{e:Ending}(h:vK bad b w e w'):∃(ao:Option Addr)(n cap:Nat)(co:Int),e=.returned (.tuple #[.slice ao n cap,iT co]) /\
  ((co=0/\n=b.length/\∃base,w.heap.size<=base/\w'.ownsRow base 119 4 (.slice ao b.length cap) b.length (AY b))\/(bad/\co=3)):=by
 rcases h with⟨ao,cap,base,rfl,hb,ho⟩|⟨hb,rfl⟩
 .exact⟨ao,b.length,cap,0,rfl,Or.inl ⟨rfl,rfl,base,hb,ho⟩⟩
 .exact⟨none,0,0,3,rfl,Or.inr ⟨hb,rfl⟩⟩
theorem Vb{base:Nat}{t:TypeId}{sz:Nat}{n cap:Nat}{xs:List Value}(h:w.ownsRow base t sz (.slice ao n cap) n xs):n<=cap:=by
 rcases h.2 with⟨_,rfl⟩|⟨g,cp,cur,hv,_,_,hle,_⟩
 .exact zLS _
 .injection hv with _ _ e;subst e;exact hle
def tK(bad:Prop)(c:Nat)(bs:List (List Rec))(wm:Int)(bl:BA)(ao:Option Addr)(cap:Nat)(lo:Option Addr)(rest:List Rec)(w:World)(e:Ending)(w':World):Prop:=
 (e=.returned (iT 0)/\∃nx lo' lc left,Gv bad w' c bs wm bl ao cap nx lo' lc left rest/\(left=[]->rest=[])/\∀a,lo'=some a->lo=some a\/w.heap.size<=a.block)\/(bad/\e=.returned (iT 3))
theorem rV{bad:Prop}{w:World}{c:Nat}{bs:List (List Rec)}{wm:Int}{bl:BA}{ao:Option Addr}{cap nx:Nat}{lo:Option Addr}{lc:Nat}{left rest:List Rec}(h:Gv bad w c bs wm bl ao cap nx lo lc left rest)(hT:Tab w):
  Calls Tryz.prog 189 #[pT c] w fun e w'=>tK bad c bs wm bl ao cap lo rest w e w'/\But c w w':=by
 have Ef:bs.length<=1048576:=h.laid.few h.small;have m0:=h.var.cell 0 rfl;have m1:=h.var.cell 1 rfl;have m2:=h.var.cell 2 rfl;have m3:=h.var.cell 3 rfl;have m4:=h.var.cell 4 rfl;by_cases hl:left=[]
 .subst hl;by_cases hn:nx=bs.length
  .have HH:Hid _:=h;have hr:rest=[]:=by rw[<-h.rest,hn];simp
   subst hn;simp only[zLW]at m4;go_in;go_wp2_with fail;go_quiet (fail);go_wp2;go_ret;exact⟨Or.inl ⟨rfl,_,_,_,[],HH.out.kept ((Q.refl w).drewN _),fun _=>hr,fun _ h=>Or.inl h⟩,But.Be ((Q.refl w).drewN _)⟩
  .have hlt:nx<bs.length:=Nat.lt_of_le_of_ne h.next hn;obtain⟨b,hb⟩:∃b,bs[nx]?=some b:=⟨_,zLH hlt⟩;have LB:Hid _:=fun(W:World)(q:Q w W)=>Kq h.laid h.small h.ok wm ao cap nx b hb Ef W (h.IV.kept q) (CJ hT q);have hnI:((nx:Int)==(bs.length:Int))=false:=by rw[zM9];omega
   ((have zIs:¬(nx:Int)=(bs.length:Int):=by omega);have hw1:IntKind.i64.wrap ((nx:Int)+1)=((nx+1:Nat):Int):=by rw[IntKind.wrap_i64];omega);have HH:Hid _:=h;have uR:=h.var.1;unfold F3 at LB;simp only[zLW]at m4;go_in;go_wp2_with fail;go_quiet (fail);have qa:Q w (w.drewN nq):=(Q.refl w).drewN _;have v0:=AA m0 qa;have v1:=AA m1 qa;have v2:=AA m2 qa;have v3:=AA m3 qa;go_upto_region 3 with fail
   go_region_held3 (fun w'=>Q w w'/\w'.cell? (aD c 0)=some (iT wm)/\w'.cell? (aD c 1)=some (sT bl)/\w'.cell? (aD c 2)=some (.slice ao bs.length cap)/\w'.cell? (aD c 3)=some (iT (nx:Int))) (first|exact⟨qa,v0,v1,v2,v3⟩|exact⟨qa.drew,v0,v1,v2,v3⟩|exact Db)
    (first|(go_at_call 62;apply(LB.out _ qa.drew).mono;rintro e w4⟨hB,q4⟩;have q5:Q w w4:=qa.trans (Aq q4);have Db:Q w w4/\w4.cell? (aD c 0)=some (iT wm)/\w4.cell? (aD c 1)=some (sT bl)/\w4.cell? (aD c 2)=some (.slice ao bs.length cap)/\w4.cell? (aD c 3)=some (iT (nx:Int)):=⟨q5,AA m0 q5,AA m1 q5,AA m2 q5,AA m3 q5⟩;obtain⟨Dj,n',cap',co,rfl,hco⟩:=fD hB))
   have LK:Ca w4 c (Qa wm bl ao bs.length cap nx lo 0 lc):=HH.out.var.kept q5;unfold Qa at LK;have x3:=LK.cell 3 rfl;have x4:=LK.cell 4 rfl;have f3:=LK.free 3 rfl;have f4:=LK.free 4 rfl;have M8:=(LK.set 4 (.slice Dj n' cap')).set 3 (iT ((nx:Int)+1));have y3:=(LK.set 4 (.slice Dj n' cap')).cell 3 rfl;have g3:=(LK.set 4 (.slice Dj n' cap')).free 3 rfl;have HV:Hid _:=M8;have HB2:Hid _:=And.intro hco q5;go_wp2;go_ret;obtain⟨hco,q5⟩:=HB2.out;have IJ:But c w4 ((w4.setCell (aD c 4) (.slice Dj n' cap')).setCell (aD c 3) (iT ((nx:Int)+1))):=((But.refl c w4).set 4 _).set 3 _;refine⟨?_,(But.Be q5).trans IJ⟩;rcases hco with⟨rfl,rfl,base,hbase,hown⟩|⟨hbad,rfl⟩
   .have hH:=HH.out;have dQ:=hH.ok b (zLR hb);obtain⟨g,hg1,hg2,hg3⟩:=Lj hown dQ.some_;have hgb:base<=g:=Dx hown g (by rw[hg1];rfl);have hgc:∀a,Dj=some a->a.block≠c:=fun a ha=>by
     rw[hg1]at ha;injection ha with ha;subst ha;simp only;simp at hbase;omega
    refine Or.inl ⟨rfl,nx+1,Dj,cap',b,⟨hH.laid,hH.small,hH.ok,?_,(hH.IV.kept q5).but IJ hH.QV,hH.QV,(F8 hown).but IJ hgc,hgc,?_,Vb hown,hlt,?_⟩,fun e=>absurd e dQ.some_,fun a ha=>Or.inr ?_⟩
    .have:=HV.out;simp only[List.set_cons_succ,List.set_cons_zero]at this;unfold Qa;rw[Int.natCast_add,Int.natCast_one];exact this
    .intro a ha;rw[hg1]at ha;injection ha with ha;subst ha;simpa using hg2
    .have hd:bs.drop nx=b::bs.drop (nx+1):=by
      obtain⟨hi,he⟩:=zLI.1 hb;rw[<-he,List.drop_eq_getElem_cons hi]
     rw[<-hH.rest,hd,zLz,zLb]
    .rw[hg1]at ha;injection ha with ha;subst ha;simp only;simp at hbase;omega
   .exact Or.inr ⟨hbad,rfl⟩
 .have hpos:0<left.length:=List.length_pos_iff.2 hl;have zGl:(0:Int)<(left.length:Int):=by omega
  have HH:Hid _:=h;go_in;go_wp2_with fail;go_quiet (fail);go_wp2;go_ret;exact⟨Or.inl ⟨rfl,_,_,_,left,HH.out.kept ((Q.refl w).drewN _),fun e=>absurd e hl,fun _ h=>Or.inl h⟩,But.Be ((Q.refl w).drewN _)⟩
def Zx(bad:Prop)(c:Nat)(bs:List (List Rec))(wm:Int)(bl:BA)(ao:Option Addr)(cap:Nat)(N7:Option Addr)(A B:List Rec)(w:World)(e:Ending)(w':World):Prop:=
 (∃vo vc,e=.returned (.tuple #[.slice vo A.length vc,iT 0])/\w'.ownsRow w.heap.size 119 4 (.slice vo A.length vc) A.length (AY A)/\∃nx lo lc left,Gv bad w' c bs wm bl ao cap nx lo lc left B/\∀a,lo=some a->(∃a0,N7=some a0/\a.block=a0.block)\/w.heap.size<=a.block)\/(bad/\e=.returned (.tuple #[nS,iT 3]))
theorem vQ(h:Tab w)(hb:But c w w')(hc:c≠0):Tab w':=fun i hi=>by
 have h1:=h i hi;have ht:0<w.heap.size:=by
  rcases zLn 0 w.heap.size with h2|h2
  .exact h2
  .unfold World.cell? at h1;simp[Array.getElem?_eq_none h2]at h1
 exact(zMI (a:=(aD 0 i)) (hb.block _ ht hc.symm)).trans h1
theorem Gv.grown{w0:World}{cap:Nat}{lo:Option Addr}{row:Option Nat}(h:Gv bad w c bs wm bl ao cap nx lo lc left rest)(hE:Dz w0 ao (S.CR 0 bs))(hc:c<w0.heap.size)(hg:w.grownBy w' row)(hr:∀g,row=some g->w0.heap.size<=g)(hl:∀a g,lo=some a->row=some g->a.block≠g):Gv bad w' c bs wm bl ao cap nx lo lc left rest:=by
 have hb:∀k,k<w.heap.size->row≠some k->w'.heap[k]?=w.heap[k]?:=fun k hk hn=>hg.block k hk (fun e=>hn e.symm);refine⟨h.laid,h.small,h.ok,?_,?_,h.QV,?_,h.ZB,fun a ha=>zLJ (h.Na a ha) hg.size,h.cap,h.next,h.rest⟩
 .have e:w'.heap[c]?=w.heap[c]?:=hb c h.var.1 (fun e=>by have:=hr c e;omega);exact⟨zLJ h.var.1 hg.size,fun i v hv=>⟨(zMI (a:=(aD c i)) e).trans (h.var.2 i v hv).1,(zML (a:=(aD c i)) e).trans (h.var.2 i v hv).2⟩⟩
 .rcases hE with hE|⟨g,hao,hgl,_⟩
  .exact Or.inl hE
  .rcases h.IV with h1|⟨g2,h2,h3,h4⟩
   .exact Or.inl h1
   .rw[hao]at h2;injection h2 with h2;injection h2 with h2;subst h2;have e:w'.heap[g]?=w.heap[g]?:=hb g h3 (fun e=>by have:=hr g e;omega);have k:∀j,w'.cell? (aD g j)=w.cell? (aD g j):=fun j=>zMI (a:=(aD g j)) e;refine Or.inr ⟨g,hao,zLJ h3 hg.size,fun i x hi=>?_⟩;obtain⟨a,b,d,f⟩:=h4 i x hi;exact⟨(k _).trans a,(k _).trans b,(k _).trans d,(k _).trans f⟩
 .rcases h.recs with h1|⟨g,off,h2,h3,h4⟩
  .exact Or.inl h1
  .have e:w'.heap[g]?=w.heap[g]?:=hb g h3 (fun e=>hl _ g h2 e rfl);have k:∀j,w'.cell? (aD g j)=w.cell? (aD g j):=fun j=>zMI (a:=(aD g j)) e;refine Or.inr ⟨g,off,h2,zLJ h3 hg.size,fun i x hi=>?_⟩;obtain⟨a,b,d,f⟩:=h4 i x hi;exact⟨(k _).trans a,(k _).trans b,(k _).trans d,(k _).trans f⟩
theorem Gv.tail{cap g off:Nat}{r:Rec}(h:Gv bad w c bs wm bl ao cap nx (some (aD g off)) lc (r::left) (r::rest))(lo':Option Addr)(hlo:lo'=some (aD g (off+4))\/(left=[]/\lo'=some (aD g off))):
  Gv bad (w.setCell (aD c 4) (.slice lo' left.length (lc-1))) c bs wm bl ao cap nx lo' (lc-1) left rest:=by
 have IJ:But c w (w.setCell (aD c 4) (.slice lo' left.length (lc-1))):=(But.refl c w).set 4 _;have hgc:g≠c:=h.ZB _ rfl;have hn:∀a,lo'=some a->a.block≠c:=fun a ha=>by
  rcases hlo with e|⟨_,e⟩<;>(rw[e]at ha;injection ha with ha;subst ha;exact hgc)
 have hcap:=h.cap;simp only[zLQ]at hcap;refine⟨h.laid,h.small,h.ok,?_,h.IV.but IJ h.QV,h.QV,?_,hn,fun a ha=>?_,by omega,h.next,?_⟩
 .have:=h.var.set 4 (.slice lo' left.length (lc-1));unfold Qa at this⊢;simpa using this
 .rcases hlo with e|⟨e,_⟩
  .subst e;refine Rcs.but ?_ IJ hn;rcases h.recs with h1|⟨b,o2,h2,h3,h4⟩
   .cases h1
   ·(injection h2 with h2;injection h2 with h2 h5;subst h2 h5;refine Or.inr ⟨g,off+4,rfl,h3,fun i x hi=>?_⟩;have:=h4 (i+1) x (by simpa using hi);have e1:off+4+i*4=off+(i+1)*4:=by omega);rw[e1];exact this
  .exact Or.inl e
 .have hgb:=h.Na _ rfl;rcases hlo with e|⟨_,e⟩<;>(rw[e]at ha;injection ha with ha;subst ha;simpa using hgb)
 .have:=h.rest;simp only[zLd,List.cons.injEq,true_and]at this;exact this
theorem GZ{P:Program}{ops:Array Oper}{rest:List Oper}{o:Oper}{a:Act}{Q:Exit->Act->World->Prop}(hgd:o.guard=none)(s x:Operand)(t:TypeId)(ho:o.op=.call { callee:=.builtin .append,args:=#[s,x],argTypes:=#[t,t]})(base:Nat)(e:TypeId)(i:TypeInfo)(z:Value)(size bytes:Nat)(ht:P.underlying t=some (.slice e))(hi:P.info? e=some i)(hz:i.zero=some z)(hsize:i.size=size)(hby:i.bytes=bytes)(hzs:z.cells.size=size)(hsz:0<size)(v:Value)(n:Nat)(xs:List Value)(hs:a.eval s=v)(hown:w.ownsRow base e size v n xs)(ad:Addr)(m c:Nat)(news:List Value)(hx:a.eval x=.slice (some ad) m c)(hl:news.length=m*size)(hnews:∀j u,news[j]?=some u->w.cell? (ad.add j)=some u)(h1:∀u∈news,u.oneCell'=true)(hm:0<m)(h63:n+m<=maxLen)(hbytes:(n+m)*bytes<=140737488355328)(hbase:base<=w.heap.size)(h:∀v' w',w'.ownsRow base e size v' (n+m) (xs++news)->w.grownBy w' v.ownBlock->(v'.ownBlock=v.ownBlock\/v'.ownBlock=some w.heap.size)->wpList P ops Q rest (a.put o.dst v') w'):wpList P ops Q (o::rest) a w:=by
 refine wpList_plain hgd fun _ hK=>?_;obtain⟨v',w',hr,h2,h3,_⟩:=run_append_own (P:=P) w base t o.type e i z size bytes ht hi hz hsize hby hzs hsz v n xs hown ad m c news hl hnews h1 h63 hbytes hbase;have h4:=BQ (ty:=o.type) ht hi hz hsize hby hown hl hnews h1 hm h63 hbytes hr;unfold Oper.wp execOp;simp only[ho,resolve,invoke,builtin,Sem.run_bind,Sem.run_pure,Result.andThen_ok,List.map_toArray,zLx,List.map_nil,hs,hx,hr];exact hK _ _ (h v' w' h2 h3 h4)
theorem Y6{A B:List Rec}{cap pJ:Nat}{N7:Option Addr}{pz:Nat}{Lv:List Rec}(h0:Gv bad w c bs wm bl ao cap pJ N7 pz Lv (A++B))(hT:Tab w)(uS:c≠0)(hA:A≠[])(k:BA)(hk:∀r∈A,r.key=k)(hB:∀r∈B,r.key≠k)(hl:A.length<=1048576):
  Calls Tryz.prog 170 #[pT c,sT k] w fun e w'=>Zx bad c bs wm bl ao cap N7 A B w e w'/\But c w w':=by
 have uR:=h0.var.1;have FI:Hid _:=@rV bad;have TB:Hid _:=fun(W:World)(hb:But c w W)=>vQ hT hb uS;have HE0:Hid _:=h0.IV;obtain⟨i0,hi,hz0,hz1,hz2⟩:=info_parts dI;go_in;go_wp2_with fail
 go_loopw [6] (fun v wr=>∃(j nx:Nat)(lo:Option Addr)(lc:Nat)(left:List Rec)(vo:Option Addr)(vc:Nat),j<=A.length/\v=.slice vo j vc/\Gv bad wr c bs wm bl ao cap nx lo lc left (A.drop j++B)/\wr.ownsRow w.heap.size 119 4 (.slice vo j vc) j (AY (A.take j))/\But c w wr/\(∀a g,lo=some a->(Value.slice vo j vc).ownBlock=some g->a.block≠g)/\(∀a,lo=some a->(∃a0,N7=some a0/\a.block=a0.block)\/w.heap.size<=a.block))
  (fun v _=>A.length-lenOf v)
 case atStart=>exact⟨0,pJ,N7,pz,Lv,none,0,zLS _,rfl,by simpa using h0,by simpa[AY]using World.ownsRow_nil _ _ _ _,But.refl c w,fun a g _ h=>by simp[Value.ownBlock]at h,fun a ha=>Or.inl ⟨a,ha,rfl⟩⟩
 case round =>
  obtain⟨j,nx,lo,lc,left,vo,vc,hj,rfl,hC,hown,IJ,hne,EW⟩:=hrel;have FI2:=hU (FI.out hC (TB.out wr IJ));have HH:Hid _:=And.intro hown (And.intro IJ (And.intro hne EW));go_wp2_with fail;apply(FI2.out ()).mono;rintro e w1⟨hF,hb1⟩;rcases hF with⟨rfl,nx1,lo1,zO,jc,YU,hem,hlo1⟩|⟨hbad,rfl⟩
  .have m4:=YU.var.cell 4 rfl;have f4:=YU.var.free 4 rfl;by_cases hjl:j<A.length
   .obtain⟨r,hr⟩:∃r,A[j]?=some r:=⟨_,zLH hjl⟩;have hd:A.drop j=r::A.drop (j+1):=by
     obtain⟨hi,he⟩:=zLI.1 hr;rw[<-he,List.drop_eq_getElem_cons hi]
    rw[hd,zLd]at YU hem;have hrk:r.key=k:=hk r (zLR hr)
    cases jc with
    |nil=>exact absurd (hem rfl) (by simp)
    |cons x Gi =>
     have hx:x=r:=by
      have:=YU.rest;simp only[zLd,List.cons.injEq]at this;exact this.1
     ((((subst hx;obtain⟨g,off,hlo,hgl,hat⟩:=YU.recs.at (k:=0) (by simp);subst hlo;obtain⟨r0,r1,r2,r3⟩:=hat 0 x rfl;simp only[Nat.zero_mul,Nat.add_zero]at r0 r1 r2 r3;have hlen:(x::Gi).length=Gi.length+1:=rfl;rw[hlen]at m4;have hp1:¬((Gi.length+1:Nat):Int)=0:=by omega);have hp2:(((Gi.length+1:Nat):Int)==0)=false:=by rw[zM9];exact hp1);have hp3:¬((Gi.length:Int)+1)=0:=by omega);have zU:(((Gi.length:Int)+1)==0)=false:=by rw[zM9];exact hp3);have hp5:(0:Int)<((Gi.length+1:Nat):Int):=by omega
     subst hrk;have zBg:Hid _:=YU;have hcap1:=YU.cap;rw[hlen]at hcap1;obtain⟨hown,IJ,hne,EW⟩:=HH.out;have hown1:w1.ownsRow w.heap.size 119 4 (.slice vo j vc) j (AY (A.take j)):=Ai hown (fun g2 hg2=>hb1.block g2 (hown.lt g2 hg2).2 (by have:=(hown.lt g2 hg2).1;omega));have hown2:=own_below hown1 (((Q.refl w1).alloc #[sT x.key,iT x.stamp,iT x.kind,sT x.body] 119).below);have hsz1:w.heap.size<=w1.heap.size:=zLV IJ.size hb1.size;have hne1:∀g2,(Value.slice vo j vc).ownBlock=some g2->g≠g2:=fun g2 hg2=>by
      rcases hlo1 _ rfl with h1|h1
      .exact hne _ g2 h1 hg2
      .have:=(hown.lt g2 hg2).2;simp only at h1;omega
     have qZ:(∃a0,N7=some a0/\g=a0.block)\/w.heap.size<=g:=by
      rcases hlo1 _ rfl with h1|h1
      .exact EW _ h1
      .exact Or.inr (zLV IJ.size h1)
     (((((have HN:Hid _:=And.intro hne1 (And.intro hown1 (And.intro (IJ.trans hb1) qZ));go_wp2_with(at_builtin;refine GZ rfl (.tmp 30) (.tmp 37) 115 rfl w.heap.size 119 i0 (.agg #[eS,iT 0,iT 0,eS]) 4 48 Tryz.underlying115 hi hz0 hz1 hz2 rfl (by decide) _ _ _ rfl hown2 (aD w1.heap.size 0) 1 1 x.cells rfl rfl ?c1 ?c2 (by omega) ?c3 ?c4 ?c5 ?_));case c1=>exact Fy _ _ _);case c2=>exact EI _);case c3=>unfold maxLen;omega);case c4=>omega);case c5=>simp;omega
     intro v' w' hown' hgrow hvb;obtain⟨vo2,vc2,hv2⟩:=Ac hown';subst hv2;have hq1:Q w1 (w1.alloc (.cells #[sT x.key,iT x.stamp,iT x.kind,sT x.body] 119)):=(Q.refl w1).alloc _ _;have hC2:=(zBg.out.kept hq1).grown HE0.out uR hgrow (fun g2 hg2=>(HN.out.2.1.lt g2 hg2).1) (fun a g2 ha hg2=>by injection ha with ha;subst ha;exact HN.out.1 g2 hg2);have x4:=hC2.var.cell 4 rfl;have y4:=hC2.var.free 4 rfl;rw[hlen]at x4;have Sj:Hid _:=hC2;have HOW:Hid _:=And.intro hown' (And.intro hgrow hvb);go_wp2_with fail;have hlo2:(if zO=1 then some ((aD g off):Addr)else some (aD g (off+4)))=some (aD g (off+4))\/(Gi=[]/\(if zO=1 then some ((aD g off):Addr)else some (aD g (off+4)))=some (aD g off)):=by
      by_cases h1:zO=1
      .exact Or.inr ⟨zLN (by omega),by rw[if_pos h1]⟩
      .exact Or.inl (by rw[if_neg h1])
     obtain⟨lo2,hlo3⟩:∃lo2,(if zO=1 then some ((aD g off):Addr)else some (aD g (off+4)))=lo2:=⟨_,rfl⟩;rw[hlo3]at hlo2⊢;have hgb:∀a,lo2=some a->a.block=g:=fun a ha=>by
      rcases hlo2 with e|⟨_,e⟩<;>(rw[e]at ha;injection ha with ha;subst ha;rfl)
     go_roundw
     case rel =>
      obtain⟨hown',hgrow,hvb⟩:=HOW.out;obtain⟨hne1,hown1,R3,qZ⟩:=HN.out;have hrow:AY (A.take (j+1))=AY (A.take j)++x.cells:=by
       rw[zLv,hr];simp only[Option.toList_some];rw[CV,D7]
      refine⟨j+1,nx1,lo2,zO-1,Gi,vo2,vc2,hjl,rfl,Sj.out.tail lo2 hlo2,?_,?_,?_,fun a ha=>by rw[hgb a ha];exact qZ⟩
      .rw[hrow];exact Ai hown' (fun g2 hg2=>heap_setCell_other w' (aD c 4) g2 _ (fun e=>by have:=(hown'.lt g2 hg2).1;simp at e;omega))
      .refine But.set ⟨hgrow.os.trans R3.os,hgrow.tape.trans R3.tape,hgrow.output.trans R3.output,?_,fun i hi hn=>?_⟩ 4 _
       .have h1:=hgrow.size;have h2:=R3.size;simp at h1;omega
       .have h2:=R3.size;rw[hgrow.block i (by simp;omega) (fun e=>by have:=(hown1.lt i e.symm).1;omega)];exact(hq1.below.block i (by omega)).trans (R3.block i hi hn)
      .intro a g2 ha hg2;rw[hgb a ha];rcases hvb with e|e
       .rw[e]at hg2;exact hne1 g2 hg2
       .rw[e]at hg2;injection hg2 with hg2;omega
     case measure=>simp only[lenOf];omega
   ·((obtain rfl:j=A.length:=by omega);have hAl:¬(A.length:Int)=0:=by have:=List.length_pos_iff.2 hA;omega);have hAb:((A.length:Int)==0)=false:=by rw[zM9];exact hAl
    rw[List.drop_length,zLb]at YU hem;have fin:Zx bad c bs wm bl ao cap N7 A B w (.returned (.tuple #[.slice vo A.length vc,iT 0])) w1/\But c w w1:=by
     obtain⟨hown,IJ,hne,EW⟩:=HH.out;refine⟨Or.inl ⟨vo,vc,rfl,?_,nx1,lo1,zO,jc,YU,fun a ha=>?_⟩,IJ.trans hb1⟩;rotate_left
     .rcases hlo1 a ha with h1|h1
      .exact EW a h1
      .exact Or.inr (zLV IJ.size h1)
     rw[zM0]at hown;exact Ai hown (fun g2 hg2=>hb1.block g2 (hown.lt g2 hg2).2 (by have:=(hown.lt g2 hg2).1;omega))
    have FN:Hid _:=fin
    cases jc with
    |nil =>
     simp only[zLW]at m4;go_wp2_with fail
     go_ret2
     exact FN.out
    |cons x Gi =>
     have hxB:x∈B:=by
      rw[<-YU.rest];simp
     (((((have hxk:¬x.key=k:=hB x hxB;have hxb:(x.key.toList==k.toList)=false:=by rw[zM9];exact fun e=>hxk (M.EY e));have zIh:(!x.key.toList==k.toList)=true:=by rw[hxb];rfl);obtain⟨g,off,hlo,hgl,hat⟩:=YU.recs.at (k:=0) (by simp);subst hlo;obtain⟨r0,r1,r2,r3⟩:=hat 0 x rfl;simp only[Nat.zero_mul,Nat.add_zero]at r0 r1 r2 r3;have hlen:(x::Gi).length=Gi.length+1:=rfl;rw[hlen]at m4;have hp3:¬((Gi.length:Int)+1)=0:=by omega);have zU:(((Gi.length:Int)+1)==0)=false:=by rw[zM9];exact hp3);have hp5:(0:Int)<((Gi.length+1:Nat):Int):=by omega);go_wp2_with fail
     go_ret2
     exact FN.out
  .obtain⟨hown,IJ,hne,EW⟩:=HH.out;go_wp2_with fail
   go_ret2
   exact⟨Or.inr ⟨hbad,rfl⟩,IJ.trans hb1⟩
end
namespace S
variable{bs:List (List Rec)}{r:Rec}
theorem YF{α:Type}(l:List α)(p:α->Bool):(l.filter p).getLast?=l.reverse.find? p:=by
 rw[<-List.head?_filter,List.filter_reverse,List.head?_reverse]
def Sto.con(X:Sto)(C:Con):Con:=fun k=>Gw ((BX X.pend k).getD [])++C k
structure Sto.Good(X:Sto)(bs:List (List Rec))(C:Con):Prop where
 ok:X.Ok
 fil:Fil CU bs C
 newest:∀k,BX X.newest k=(C k).head?.map (·.stamp)
 pend:∀kr∈X.pend,∀r∈kr.2,yU kr.1 r
 newer:∀kr∈X.pend,∀r∈kr.2,∀v∈C kr.1,v.stamp<r.stamp
 rP:-1<=X.fl
 lG:X.fl<=X.wm
 top:X.wm<=1099511627776
theorem UB(rs:List Rec)(t:Int):Ak (Gw rs) t=(JE rs t).map fun r=>⟨r.stamp,if r.kind=2 then none else some r.body⟩:=by
 unfold Ak Gw JE;rw[YF,List.find?_map];rfl
theorem Sto.Good.vAt{X:Sto}{bs:List (List Rec)}{C:Con}(h:X.Good bs C)(k:BA)(t:Int):X.vAt C k t=told (Ak (X.con C k) t):=by
 unfold Sto.vAt Sto.con Sto.FM;rw[Fu]
 cases hl:BX X.pend k with
 |none=>simp[Gw,Ak]
 |some rs =>
  simp only[Option.bind_some,zLT];rw[UB]
  cases hr:JE rs t with
  |none=>rfl
  |some r =>
   have hm:r∈rs:=by
    unfold JE at hr;exact(List.mem_filter.1 (List.mem_of_getLast? hr)).1
   have hp:=h.pend _ ((Bl h.ok.Dn).1 hl) r hm;simp only[zM1];rcases hp.kind with h0|⟨h2,hb⟩
   .rw[if_neg (by omega)];simp[told,h0]
   .rw[if_pos h2];have:r.body=⟨#[]⟩:=by
     apply ByteArray.ext;exact Array.eq_empty_of_size_eq_zero hb
    simp[told,h2,this]
theorem Sto.Good.empty{X:Sto}{C:Con}(h:X.Good bs C)(k:BA)(hk:BX X.newest k=none):C k=[]:=by
 have:=h.newest k;rw[hk]at this
 cases hc:C k with
 |nil=>rfl
 |cons v l=>rw[hc]at this;simp at this
theorem Sto.Good.falling{X:Sto}{bs:List (List Rec)}{C:Con}(h:X.Good bs C)(k:BA):(X.con C k).Pairwise fun a b=>b.stamp<a.stamp:=by
 unfold Sto.con;rw[zLh];refine⟨?_,h.fil.falling k,?_⟩
 .cases hl:BX X.pend k with
  |none=>simp[Gw]
  |some rs =>
   have hm:=(Bl h.ok.Dn).1 hl;have hu:=(h.ok.each _ hm).1;simp only[zLT];unfold Gw;rw[List.pairwise_map,List.pairwise_reverse];exact hu
 .cases hl:BX X.pend k with
  |none=>simp[Gw]
  |some rs =>
   have hm:=(Bl h.ok.Dn).1 hl;intro a ha b hb;simp only[zLT]at ha;unfold Gw at ha;rw[List.mem_map]at ha;obtain⟨r,hr,rfl⟩:=ha;exact h.newer _ hm r (List.mem_reverse.1 hr) b hb
theorem Sto.Good.latest{X:Sto}{bs:List (List Rec)}{C:Con}(h:X.Good bs C)(k:BA):X.latest k=match (X.con C k).head? with|some v=>max X.wm v.stamp|none=>X.wm:=by
 unfold Sto.latest Sto.FM Sto.con;rw[h.newest k]
 cases hl:BX X.pend k with
 |none =>
  simp only[Option.bind_none,Option.getD_none]
  cases hc:C k with
  |nil=>simp[Gw]
  |cons v l=>simp[Gw]
 |some rs =>
  have hm:=(Bl h.ok.Dn).1 hl;obtain⟨hu,hne,_⟩:=h.ok.each _ hm;simp only[Option.bind_some,zLT];obtain⟨r,hr⟩:∃r,rs.getLast?=some r:=by
   cases hg:rs.getLast? with
   |none=>exact absurd (List.getLast?_eq_none_iff.1 hg) hne
   |some r=>exact⟨r,rfl⟩
  have hrm:=List.mem_of_getLast? hr;have hall:rs.filter (fun r=>decide (r.stamp<=1099511627776))=rs:=by
   rw[List.filter_eq_self];intro x hx;have:=(h.pend _ hm x hx).fits;simp only[Rec.fits,zMF]at this⊢;exact this.2.2.2.2.1
  have hlast:JE rs 1099511627776=some r:=by unfold JE;rw[hall];exact hr
  rw[hlast];have hh:(Gw rs++C k).head?=some ⟨r.stamp,if r.kind=2 then Option.none else some r.body⟩:=by
   unfold Gw;rw[List.head?_append,List.head?_map,List.head?_reverse,hr];rfl
  rw[hh]
  cases hc:C k with
  |nil=>simp
  |cons v l =>
   have:=h.newer _ hm r hrm v (by rw[hc];simp);simp only[List.head?_cons,zM1];simp only[Int.max_def];split<;>split<;>(try split)<;>omega
def Pb(r:Rec):Vs:=⟨r.stamp,if r.kind=2 then none else some r.body⟩
theorem Sto.Good.Mg{X:Sto}{C:Con}(h:X.Good bs C)(ha:X.adding r=0):∀v∈X.con C r.key,v.stamp<r.stamp:=by
 have hl:=h.latest r.key;have h0:X.latest r.key<r.stamp:=by
  unfold Sto.adding at ha;split at ha
  .omega
  split at ha
  .omega
  split at ha
  .omega
  split at ha
  .omega
  .rename_i hx;omega
 have hf:=h.falling r.key;intro v hv
 cases hc:X.con C r.key with
 |nil=>rw[hc]at hv;simp at hv
 |cons a l =>
  rw[hc]at hv hl hf;simp only[List.head?_cons]at hl;have hm:a.stamp<=X.latest r.key:=by
   rw[hl];simp only[Int.max_def];split<;>omega
  rcases zME.1 hv with rfl|hv
  .omega
  .have:=(zM5.1 hf).1 v hv;omega
theorem Ko{X:Sto}{C:Con}(hX:X.Ok)(h:∀v∈X.con C r.key,v.stamp<r.stamp):∀kr∈X.pend,kr.1=r.key->∀x∈kr.2,x.stamp<r.stamp:=by
 intro kr hkr hk x hx;have hl:BX X.pend r.key=some kr.2:=(Bl hX.Dn).2 (by rw[<-hk];exact hkr);refine h (Pb x) ?_;unfold Sto.con Gw;rw[hl,zMD];exact Or.inl (List.mem_map.2 ⟨x,List.mem_reverse.2 hx,rfl⟩)
theorem Sto.Good.put{X:Sto}{bs:List (List Rec)}{C:Con}(h:X.Good bs C){r:Rec}(ha:X.adding r=0)(hr:yU r.key r)(hf:X.pend.length<1048000/\∀kr∈X.pend,kr.2.length<1048000):
  (X.put r).Good bs C/\(X.put r).con C=(X.con C).put r.key (Pb r::X.con C r.key):=by
 have hs:=h.Mg ha;have hP:=Sto.zAK h.ok r hf (Ko h.ok hs);have hlk:=Sto.jQ h.ok r hP;have hn:(X.put r).newest=X.newest:=by unfold Sto.put;rfl
 have hmem:∀kr∈(X.put r).pend,∀x∈kr.2,(x=r/\kr.1=r.key)\/∃k2∈X.pend,k2.1=kr.1/\x∈k2.2:=by
  intro kr hkr x hx;have h1:=(Bl hP.Dn).2 (show(kr.1,kr.2)∈(X.put r).pend from hkr);rw[hlk kr.1]at h1;by_cases hk:kr.1=r.key
  .rw[if_pos hk]at h1;injection h1 with h1;rw[<-h1,zMD]at hx;rcases hx with hx|hx
   .right
    cases hl:BX X.pend r.key with
    |none=>rw[hl]at hx;simp at hx
    |some rs =>
     rw[hl]at hx;exact⟨(r.key,rs),(Bl h.ok.Dn).1 hl,hk.symm,hx⟩
   .exact Or.inl ⟨by simpa using hx,hk⟩
  .rw[if_neg hk]at h1;exact Or.inr ⟨(kr.1,kr.2),(Bl h.ok.Dn).1 h1,rfl,hx⟩
 refine⟨⟨hP,h.fil,fun k=>by rw[hn];exact h.newest k,fun kr hkr x hx=>?_,fun kr hkr x hx v hv=>?_,h.rP,h.lG,h.top⟩,?_⟩
 .rcases hmem kr hkr x hx with⟨rfl,hk⟩|⟨k2,h2,hk2,hx2⟩
  .rw[hk];exact hr
  .rw[<-hk2];exact h.pend k2 h2 x hx2
 .rcases hmem kr hkr x hx with⟨rfl,hk⟩|⟨k2,h2,hk2,hx2⟩
  .exact hs v (by rw[hk]at hv;unfold Sto.con;exact zMD.2 (Or.inr hv))
  .exact h.newer k2 h2 x hx2 v (by rw[hk2];exact hv)
 .funext k;unfold Sto.con Con.put;rw[hlk k];by_cases hk:k=r.key
  .subst hk;rw[if_pos rfl,if_pos rfl];simp[Gw,Pb]
  .rw[if_neg hk,if_neg hk]
theorem Sto.Good.raise{X:Sto}{C:Con}(h:X.Good bs C){t:Int}(ht:X.raising t=0):Sto.Good { X with wm:=t } bs C:=by
 have h2:¬(t<X.wm\/1099511627776<t):=fun e=>by
  unfold Sto.raising at ht;split at ht
  .omega
  .simp at ht
 have:=h.lG;exact⟨⟨h.ok.Qx,h.ok.Dn,h.ok.Pg,h.ok.Ro,h.ok.each⟩,h.fil,h.newest,h.pend,h.newer,h.rP,by simp only;omega,by simp only;omega⟩
def Sto.JG(X:Sto)(F:List Rec)(k:BA):List Rec:=((BX X.pend k).getD []).reverse++BZ k F
theorem Sto.Good.tells{X:Sto}{bs:List (List Rec)}{C:Con}(h:X.Good bs C)(k:BA):EF CU (X.JG bs.flatten k) (X.con C k):=by
 unfold Sto.JG Sto.con;refine EF.append ?_ (h.fil.holds k).tells;unfold Gw;refine Rn (k:=k) fun r hr=>?_
 cases hl:BX X.pend k with
 |none=>rw[hl]at hr;simp at hr
 |some rs =>
  rw[hl]at hr;exact h.pend _ ((Bl h.ok.Dn).1 hl) r (List.mem_reverse.1 hr)
theorem Sto.Good.qY{X:Sto}{C:Con}(h:X.Good bs C){k:BA}(hr:r∈X.JG bs.flatten k):r.key=k/\r.fits=true:=by
 unfold Sto.JG at hr;rw[zMD]at hr;rcases hr with hr|hr
 .cases hl:BX X.pend k with
  |none=>rw[hl]at hr;simp at hr
  |some rs =>
   rw[hl]at hr;have:=h.pend _ ((Bl h.ok.Dn).1 hl) r (List.mem_reverse.1 hr);exact⟨this.key,this.fits⟩
 .obtain⟨h1,h2⟩:=Cx.1 hr;obtain⟨b,hb,hrb⟩:=List.mem_flatten.1 h1;exact⟨h2,(h.fil.ok b hb).fits r hrb⟩
def Sto.keys(X:Sto):List BA:=uni (X.newest.length+X.pend.length) (X.newest.map (·.1)) (X.pend.map (·.1))
theorem Sto.Good.J9{X:Sto}{C:Con}(h:X.Good bs C):X.keys.Pairwise Bc/\(∀k,k∈X.keys↔X.con C k≠[])/\∀r∈bs.flatten,r.key∈X.keys:=by
 obtain⟨h1,h2⟩:=gX (X.newest.length+X.pend.length) h.ok.Qx h.ok.Dn (by simp);have hnw:∀k,k∈X.newest.map (·.1)↔C k≠[]:=fun k=>by
  have hn:=h.newest k;constructor
  .intro hk hc;rw[hc]at hn;have:=Dt (by simpa using hn:BX X.newest k=Option.none);rw[Cn.2 hk]at this
   cases this
  .intro hc
   cases hl:BX X.newest k with
   |none=>exact absurd (h.empty k hl) hc
   |some n=>exact Cn.1 (Cs h.ok.Qx hl).1
 have hpd:∀k,k∈X.pend.map (·.1)↔Gw ((BX X.pend k).getD [])≠[]:=fun k=>by
  constructor
  .intro hk hc;obtain⟨kr,hkr,rfl⟩:=List.mem_map.1 hk;have hl:BX X.pend kr.1=some kr.2:=(Bl h.ok.Dn).2 hkr;rw[hl]at hc;simp[Gw]at hc;exact(h.ok.each kr hkr).2.1 hc
  .intro hc
   cases hl:BX X.pend k with
   |none=>rw[hl]at hc;simp[Gw]at hc
   |some rs=>exact Cn.1 (Cs h.ok.Dn hl).1
 have hk:∀k,k∈X.keys↔X.con C k≠[]:=fun k=>by
  show k∈uni _ _ _↔_
  rw[h2 k,hnw k,hpd k];unfold Sto.con;constructor
  .rintro(h|h) e
   .exact h (List.append_eq_nil_iff.1 e).2
   .exact h (List.append_eq_nil_iff.1 e).1
  .intro e;by_cases hc:C k=[]
   .exact Or.inr (fun e2=>e (by rw[e2,hc];rfl))
   .exact Or.inl hc
 refine⟨h1,hk,fun r hr=>(hk r.key).2 fun e=>?_⟩;have hc:C r.key=[]:=(List.append_eq_nil_iff.1 e).2;exact(h.fil.keys r.key).1 hc r hr rfl
end S
section
open Go.Shelf
attribute [local go_sem] Oper.semAt_some
theorem pQ(n p:Nat)(w:World):
  CallsIn Fence.wide n Tryz.prog 169 #[pT p] w fun e w'=>e=.returned (.func (.func 187) #[] #[pT w.heap.size])/\w'=w.alloc (.cells #[pT p] 154):=by
 refine callsIn_of_wp Tryz.func169 rfl trivial ?_ rfl;simp only[Tryz.ntmps169,zLm,zLQ,zLW,Nat.reduceAdd,Nat.reduceSub,zLj,zLi,zLs,zLl,zLb,zLd];gi_wp2;go_ret;exact⟨rfl,rfl⟩
theorem Si.rows{w:World}{tg:Tags}{o p u:Nat}{rs:List Rec}(h:Si w tg o p u rs)(hne:rs≠[]):∃g0 cap0 gv Ia,w.cell? (aD p 0)=some (.slice (some (aD g0 0)) rs.length cap0)/\w.cell? (aD p 1)=some (.slice (some (aD gv 0)) rs.length Ia)/\(∀i x,(rs.map (·.stamp))[i]?=some x->w.cell? (aD g0 i)=some (iT x))/\JI w gv 0 rs/\g0<w.heap.size/\gv<w.heap.size:=by
 obtain⟨ao,cap,r1,r2,_⟩:=h.keys;obtain⟨av,Ia,s1,s2,_⟩:=h.vals;obtain⟨g0,rfl,_,hg0,hc⟩:=Cv r2 (by simpa[BO,BP]using hne);obtain⟨gv,rfl,hgv,hR⟩:=Lj s2 hne;exact⟨g0,cap,gv,Ia,r1,s1,fun i x hx=>hc i _ (by simp only[BO,BP,zLy]at hx⊢;rw[hx];rfl),hR,hg0,hgv⟩
theorem OJ{w:World}{b base:Nat}{e:TypeId}{size:Nat}{v:Value}{n:Nat}{xs:List Value}(h:w.ownsRow base e size v n xs)(hb:b<=base):w.ownsRow b e size v n xs:=by
 refine⟨h.1,?_⟩;rcases h.2 with h2|⟨g,cap,cur,hv,hg,r⟩
 .exact Or.inl h2
 .exact Or.inr ⟨g,cap,cur,hv,zLV hb hg,r⟩
theorem zDz{w W:World}(q:Q w W){D:Nat}(hD:w.heap.size<=D)(o':Obj):Q w (W.putObj D o'):=
 ⟨q.below.grown (grownBy_putObj' W D o') q.below.size (fun k e=>by injection e with e;omega)⟩
theorem FT:∀(L:List Rec),∀u∈AY L,u.oneCell'=true
 |[],u,hu=>by simp[AY]at hu
 |r::L,u,hu=>by
  have e:AY (r::L)=r.cells++AY L:=by simp[AY]
  rw[e,zMD]at hu;rcases hu with hu|hu
  .exact EI r u hu
  .exact FT L u hu
structure JL(w:World)(Bv:Nat)(T:List Rec)(tg:Tags)(W:World):Prop where
 below:Below w.heap.size w W
 old:∀k,k<w.heap.size->tg k=(0,0)
 tb:(tg Bv).1=1
 row:∃vo vc,W.heap[Bv]?=some (.cells #[.slice vo T.length vc] 115 (0,0))/\W.ownsRow (Bv+1) 119 4 (.slice vo T.length vc) T.length (AY T)/\∀g,(Value.slice vo T.length vc).ownBlock=some g->(tg g).1=1
theorem JL.keep{w:World}{Bv:Nat}{T:List Rec}{tg AR:Tags}{A B:World}(h:JL w Bv T tg A){P:Nat->Prop}(hk:Kept P tg A AR B)(h0:¬P 0)(h1:¬P 1):JL w Bv T AR B:=by
 obtain⟨vo,vc,e1,e2,e3⟩:=h.row;have hBv:Bv<A.heap.size:=(zLM.1 e1).1;have hs:=h.below.size;refine⟨⟨hk.os.trans h.below.os,hk.tape.trans h.below.tape,hk.output.trans h.below.output,zLV hs hk.size,fun k hkk=>(hk.block k (by omega) (by rw[h.old k hkk];exact h0)).trans (h.below.block k hkk)⟩,fun k hkk=>(hk.tags k (by omega)).trans (h.old k hkk),by rw[hk.tags Bv hBv];exact h.tb,vo,vc,(hk.block Bv hBv (by rw[h.tb];exact h1)).trans e1,Ai e2 (fun g hg=>hk.block g (e2.lt g hg).2 (by rw[e3 g hg];exact h1)),fun g hg=>?_⟩;rw[hk.tags g (e2.lt g hg).2];exact e3 g hg
theorem JL.push{w:World}{Bv:Nat}{T:List Rec}{tg:Tags}{W w':World}{r:Rec}{vo nH:Option Addr}{vc nI:Nat}(h:JL w Bv T tg W)(hB:w.heap.size<=Bv)(e1:W.heap[Bv]?=some (.cells #[.slice vo T.length vc] 115 (0,0)))(e2:W.ownsRow (Bv+1) 119 4 (.slice vo T.length vc) T.length (AY T))(e3:∀g,(Value.slice vo T.length vc).ownBlock=some g->(tg g).1=1)(hg:(W.alloc (.cells #[sT r.key,iT r.stamp,iT r.kind,sT r.body] 119)).grownBy w' (Value.slice vo T.length vc).ownBlock)(ho:w'.ownsRow (Bv+1) 119 4 (.slice nH (T.length+1) nI) (T.length+1) (AY T++r.cells))(hw:(Value.slice nH (T.length+1) nI).ownBlock=(Value.slice vo T.length vc).ownBlock\/(Value.slice nH (T.length+1) nI).ownBlock=some (W.heap.size+1)):
  w'.cell? (aD Bv 0)=some (.slice vo T.length vc)/\w'.frozen? (aD Bv 0)=false/\JL w Bv (T++[r]) (tg.more W.heap.size 1 0) (w'.setCell (aD Bv 0) (.slice nH (T.length+1) nI))/\Kept (·=1) tg W (tg.more W.heap.size 1 0) (w'.setCell (aD Bv 0) (.slice nH (T.length+1) nI)):=by
 have hBv:Bv<W.heap.size:=(zLM.1 e1).1;have hsz:=hg.size;rw[zMM]at hsz;have zW:(Value.slice vo T.length vc).ownBlock≠some Bv:=fun e=>by have:=(e2.lt Bv e).1;omega
 have h7:∀k,k<W.heap.size->(Value.slice vo T.length vc).ownBlock≠some k->w'.heap[k]?=W.heap[k]?:=fun k hk hn=>by
  rw[hg.block k (by rw[zMM];omega) (fun e=>hn e.symm)];exact((Below.refl _ W).alloc (zLK _) _).block k hk
 have uh:w'.heap[Bv]?=some (.cells #[.slice vo T.length vc] 115 (0,0)):=(h7 Bv hBv zW).trans e1;have hK:Kept (·=1) tg W (tg.more W.heap.size 1 0) (w'.setCell (aD Bv 0) (.slice nH (T.length+1) nI)):=by
  refine⟨hg.os,hg.tape,hg.output,by simp;omega,fun k hk=>Tags.AQ hk,fun k hk hn=>?_⟩;rw[heap_setCell_other w' (aD Bv 0) k _ (fun e=>hn (by simp at e;rw[e];exact h.tb))];exact h7 k hk (fun e=>hn (e3 k e))
 have hs:=h.below.size;refine⟨by simp[World.cell?,uh],frozen_of_row w' Bv 0 _ _ uh,⟨?_,?_,?_,nH,nI,?_,?_,?_⟩,hK⟩
 .refine⟨hK.os.trans h.below.os,hK.tape.trans h.below.tape,hK.output.trans h.below.output,zLV hs hK.size,fun k hk=>(hK.block k (by omega) (by rw[h.old k hk];simp)).trans (h.below.block k hk)⟩
 .exact fun k hk=>(Tags.AQ (by omega)).trans (h.old k hk)
 .rw[Tags.AQ hBv];exact h.tb
 .have hlen:(T++[r]).length=T.length+1:=by simp
  rw[hlen];exact MP _ uh
 .have hlen:(T++[r]).length=T.length+1:=by simp
  rw[hlen,CV,D7];exact Ai ho (fun g hgb=>heap_setCell_other w' (aD Bv 0) g _ (fun e=>by have:=(ho.lt g hgb).1;simp at e;omega))
 .intro g hgb;have hlen:(T++[r]).length=T.length+1:=by simp
  rw[hlen]at hgb;rcases hw with e|e
  .rw[e]at hgb;rw[Tags.AQ (e2.lt g hgb).2];exact e3 g hgb
  .rw[e]at hgb;injection hgb with hgb;rw[Tags.Ay (by omega)]
theorem Fw{F:Fence}{n:Nat}{P:Program}{w:World}{ops:Array Oper}{rest:List Oper}{o:Oper}{a:Act}{Q:Exit->Act->World->Prop}(hgd:o.guard=none)(s x:Operand)(t:TypeId)(ho:o.op=.call { callee:=.builtin .append,args:=#[s,x],argTypes:=#[t,t]})(base:Nat)(e:TypeId)(i:TypeInfo)(z:Value)(size bytes:Nat)(ht:P.underlying t=some (.slice e))(hi:P.info? e=some i)(hz:i.zero=some z)(hsize:i.size=size)(hby:i.bytes=bytes)(hzs:z.cells.size=size)(hsz:0<size)(v:Value)(k:Nat)(xs:List Value)(hs:a.eval s=v)(hown:w.ownsRow base e size v k xs)(ad:Addr)(m c:Nat)(news:List Value)(hx:a.eval x=.slice (some ad) m c)(hl:news.length=m*size)(hnews:∀j u,news[j]?=some u->w.cell? (ad.add j)=some u)(h1:∀u∈news,u.oneCell'=true)(hm:0<m)(h63:k+m<=maxLen)(hbytes:(k+m)*bytes<=140737488355328)(hbase:base<=w.heap.size)(h:∀v' w',w'.ownsRow base e size v' (k+m) (xs++news)->w.grownBy w' v.ownBlock->(v'.ownBlock=v.ownBlock\/v'.ownBlock=some w.heap.size)->wpListIn F n P ops Q rest (a.put o.dst v') w'):wpListIn F n P ops Q (o::rest) a w:=by
 refine wpListIn_plain hgd fun _ hK=>?_;obtain⟨v',w',hr,h2,h3,_⟩:=run_append_own (P:=P) w base t o.type e i z size bytes ht hi hz hsize hby hzs hsz v k xs hown ad m c news hl hnews h1 h63 hbytes hbase;have h4:=BQ (ty:=o.type) ht hi hz hsize hby hown hl hnews h1 hm h63 hbytes hr;unfold Oper.wpIn;refine⟨by simp[Oper.about,ho,resolve,Target.leads,Sem.run_pure],?_⟩;rw[Oper.semAt_plain F _ _ (by rw[ho];intro c hc';cases hc')];simp[execOp,ho,resolve,invoke,builtin,hs,hx,hr,Result.andThen];exact hK _ _ (h v' w' h2 h3 h4)
def Og(bad:Prop)(c:Nat)(bs:List (List Rec))(wm:Int)(bl:BA)(ao:Option Addr)(cap:Nat)(N7:Option Addr)(R B:List Rec)(w:World)(e:Ending)(w':World):Prop:=
 (∃vo vc,e=.returned (.tuple #[.slice vo R.length vc,iT 0])/\w'.ownsRow w.heap.size 119 4 (.slice vo R.length vc) R.length (AY R)/\∃nx lo lc left,Gv bad w' c bs wm bl ao cap nx lo lc left B/\∀a,lo=some a->(∃a0,N7=some a0/\a.block=a0.block)\/w.heap.size<=a.block)\/(bad/\e=.returned (.tuple #[nS,iT 3]))
theorem WE{bad:Prop}{w:World}{tg:Tags}{o s d c:Nat}{X:S.Sto}{ids ps:List Nat}{bs:List (List Rec)}(h:Ag w tg o s d X ids ps)(hX:X.Ok)(k:BA)(rs:List Rec)(hp:S.BX X.pend k=some rs)(hct:c<w.heap.size)(uS:c≠0)(A B:List Rec){wm:Int}{bl:BA}{ao:Option Addr}{cap pJ:Nat}{N7:Option Addr}{pz:Nat}{Lv:List Rec}(h0:Gv bad w c bs wm bl ao cap pJ N7 pz Lv (A++B))(hT:Tab w)(hk:∀r∈A,r.key=k)(hB:∀r∈B,r.key≠k)(hl:A.length<=1048576)(hA:S.BX X.newest k=none↔A=[]):
  Calls Tryz.prog 135 #[pT s,sT k,pT c] w fun e w'=>Og bad c bs wm bl ao cap N7 (rs.reverse++A) B w e w'/\But c w w':=by
 have PG:Hid _:=fun(W:World)(q:Q w W)=>PV (h.kept q) hX k;have NG:Hid _:=fun(W:World)(hW:Ag W tg o s d X ids ps)=>Jd hW hX k;refine(callsIn_wide (n:=9)).1 ?_;refine callsIn_of_wp_marks Tryz.func135 rfl trivial ?_ rfl;simp only[Tryz.ntmps135,zLm,zLQ,zLW,Nat.reduceAdd,Nat.reduceSub,zLj,zLi,zLs,zLl,zLb,zLd];have hmx:Tryz.prog.follows .mixedOrders=true:=by kernel_rfl
 gi_wp2;refine⟨trivial,(callsIn_wide.2 (PG.out _ ((Q.refl w).alloc _ _))).mono ?_⟩;rintro e w1⟨hP,q1⟩;rcases hP with⟨hn,rfl⟩|⟨i,p,id,rs',hpi,hid,hkr,hl2,rfl⟩
 .rw[hp]at hn;cases hn
 .rw[hp]at hl2;injection hl2 with hl2;subst hl2;gi_wp2;refine⟨trivial,(pQ _ _ _).mono ?_⟩;rintro e w2⟨rfl,rfl⟩;gi_wp2;have hrs:=hX.each _ (zLR hkr);simp only at hrs;obtain⟨hin,htp,hfp⟩:=(h.kept (((Q.refl w).alloc #[nS] 115).trans q1)).inner i p id _ hpi hid hkr;obtain⟨dP,_,_⟩:=h.inner i p id _ hpi hid hkr;simp only at hin dP;have hs1:=q1.below.size;rw[zMM]at hs1;obtain⟨wl,hwl⟩:=ex (w1.alloc (.cells #[pT p] 154));obtain⟨MW,M5⟩:∃MW:Tags,MW=fun k=>if k<w.heap.size then(0,0)else if k=w.heap.size then(1,0)else(2,0):=⟨_,rfl⟩
  have Rb:∀k,k<w.heap.size->MW k=(0,0):=fun k hk=>by rw[M5];simp[hk]
  have tl1:MW w.heap.size=(1,0):=by rw[M5];simp
  have tl2:∀k,w.heap.size<k->MW k=(2,0):=fun k hk=>by rw[M5];simp[Nat.not_lt.2 (Nat.le_of_lt hk),Nat.ne_of_gt hk]
  have zR:Q w1 wl:=by rw[hwl];exact(Q.refl w1).alloc _ _
  have hqw:Q w wl:=(((Q.refl w).alloc #[nS] 115).trans q1).trans zR;have hsl:wl.heap.size=w1.heap.size+1:=by rw[hwl];simp
  have zBH:wl.heap[w.heap.size]?=some (.cells #[nS] 115 (0,0)):=by
   rw[zR.below.block _ (by omega),q1.below.block _ (by simp)];exact heap_alloc_new w _
  have M7:wl.cell? (aD w1.heap.size 0)=some (pT p):=by rw[hwl];simp
  have hI0:JL w w.heap.size [] MW wl:=⟨hqw.below,Rb,by rw[tl1],none,0,zBH,World.ownsRow_nil _ _ _ _,fun g hg=>by simp[Value.ownBlock]at hg⟩;rw[<-hwl];refine ZG rfl (by omega) (gf:=187) (lb:=#[pT w1.heap.size]) (by simp[Act.eval]) trivial (enters_of Tryz.func187 rfl rfl) rs.length 4 (fun x=>x=2\/x=3) (·=1) (fun _=>True) (vD rs) MW (by simp) (by simp) ?seq ?ps
   (fun tg i W=>JL w w.heap.size (rs.reverse.take i) tg W) (fun _ _ _ _=>False) ?hI (fun _ _ _ _ _ _ h _=>h) hI0
   (fun tg i vs a' W=>∃(r:Rec)(Br:Nat)(vo:Option Addr)(vc:Nat),rs.reverse[i]?=some r/\JL w w.heap.size (rs.reverse.take i) tg W/\W.heap[w.heap.size]?=some (.cells #[.slice vo (rs.reverse.take i).length vc] 115 (0,0))/\W.ownsRow (w.heap.size+1) 119 4 (.slice vo (rs.reverse.take i).length vc) (rs.reverse.take i).length (AY (rs.reverse.take i))/\(∀g,(Value.slice vo (rs.reverse.take i).length vc).ownBlock=some g->(tg g).1=1) /\
    W.heap[Br]?=some (.cells #[sT r.key,iT r.stamp,iT r.kind,sT r.body] 119 (0,0))/\(tg Br).1=1/\a'={ tmps:=#[pT s,sT k,pT c,undef,undef,undef,nS,iT 0,pT w.heap.size,pT p,.bool true,undef,pT Br,undef,undef,undef,undef,.tuple #[pT p,.bool true],pT s,pT s,.pointer (some (aD s 6)),sT k,.tuple #[pT p,.bool true],pT p,.bool true,.bool true,pT p,.func (.func 187) #[] #[pT w1.heap.size],iT r.stamp,.agg #[sT r.key,iT r.stamp,iT r.kind,sT r.body],undef,undef,undef,undef,undef,undef,undef,undef,undef,undef,undef,undef,undef,undef,undef,undef,undef,undef,undef,undef,undef,undef,undef,undef,undef,undef,undef],defers:=[]})
   ?hAx ?assign ?body ?done (fun _ _ _ _ _ _ h=>h.elim)
  case seq =>
   intro W1 AR hb1 xK ht1;obtain⟨g0,cap0,gv,Ia,x1,x2,x3,x4,x5,x6⟩:=dP.rows hrs.2.1;have bq:∀k j,k<w.heap.size->W1.cell? (aD k j)=w.cell? (aD k j):=fun k j hk=>(hb1.cell (p:=(aD k j)) (show k<wl.heap.size by omega)).trans (hqw.below.cell (p:=(aD k j)) hk);have tq:∀k,k<w.heap.size->(AR k).1=0:=fun k hk=>by rw[ht1 k (by omega),Rb k hk]
   refine zAR (9-1) (by omega) rs (by omega) w1.heap.size p g0 cap0 gv Ia 2 3 _ _ (Or.inl rfl) (Or.inr rfl) (by omega) (fun x hx hy=>by rcases hx with rfl|rfl<;>rcases hy with hy|hy<;>omega) AR W1 ((hb1.cell (p:=(aD w1.heap.size 0)) (show w1.heap.size<wl.heap.size by omega)).trans M7) ((bq p 0 dP.top).trans x1) ((bq p 1 dP.top).trans x2)
    (fun i x hx=>(bq g0 i x5).trans (x3 i x hx)) (fun i r hr=>?_) ⟨by omega,by rw[ht1 _ (by omega),tl2 _ (by omega)];simp⟩ ⟨by have:=dP.top;omega,by rw[tq p dP.top];simp⟩ ⟨by omega,by rw[tq g0 x5];simp⟩ ⟨by omega,by rw[tq gv x6];simp⟩
   obtain⟨y0,y1,y2,y3⟩:=x4 i r hr;exact⟨(bq gv _ x6).trans y0,(bq gv _ x6).trans y1,(bq gv _ x6).trans y2,(bq gv _ x6).trans y3⟩
  case ps=>rintro tg i vs W⟨r,_,_,rfl⟩;rfl
  case hI =>
   rintro tg i A' AR B' hh hk;exact hh.keep hk (by simp) (by simp)
  case hAx =>
   rintro tg i vs a' A' AR B'⟨r,Br,vo,vc,h1,h2,h3,h4,h5,h6,h7,h8⟩hk;have hBl:=(zLM.1 h3).1;have hrl:=(zLM.1 h6).1;refine⟨r,Br,vo,vc,h1,h2.keep hk (by simp) (by simp),(hk.block _ hBl (by rw[h2.tb];simp)).trans h3,Ai h4 (fun g hg=>hk.block g (h4.lt g hg).2 (by rw[h5 g hg];simp)),fun g hg=>by rw[hk.tags g (h4.lt g hg).2];exact h5 g hg,(hk.block _ hrl (by rw[h7];simp)).trans h6,by rw[hk.tags Br hrl];exact h7,h8⟩
  case assign =>
   rintro l i tg vs W K hI⟨r,hi,hr,rfl⟩hK;unfold Rec.val;gi_wp2;obtain⟨vo,vc,e1,e2,e3⟩:=hI.row;have hBl:=(zLM.1 e1).1;have hka:Kept (·=1) tg W (tg.more W.heap.size 1 0) (W.alloc (.cells #[sT r.key,iT r.stamp,iT r.kind,sT r.body] 119)):=Kept.alloc _ (fun k hk=>Tags.AQ hk);have hkb:Kept (fun _=>False) tg W (tg.more W.heap.size 1 0) (W.alloc (.cells #[sT r.key,iT r.stamp,iT r.kind,sT r.body] 119)):=Kept.alloc _ (fun k hk=>Tags.AQ hk);refine hK _ _ (tg.more W.heap.size 1 0) hka ⟨r,W.heap.size,vo,vc,?_,hI.keep hkb (fun h=>h) (fun h=>h),(hkb.block _ hBl (fun h=>h)).trans e1,Ai e2 (fun g hg=>hkb.block g (e2.lt g hg).2 (fun h=>h)),fun g hg=>by rw[hkb.tags g (e2.lt g hg).2];exact e3 g hg,heap_alloc_new W _,by rw[Tags.Ay (zLK _)],rfl⟩;rw[List.getElem?_reverse hi];exact hr
  case body =>
   (((((((rintro l i D5 vs a' W hl2⟨r,Br,vo,vc,h1,h2,h3,h4,h5,h6,h7,rfl⟩;obtain⟨i0,hi,hz0,hz1,hz2⟩:=info_parts dI;have hT1:rs.reverse.take (i+1)=rs.reverse.take i++[r]:=by rw[zLv,h1];rfl);obtain⟨T,hTe⟩:=xe (rs.reverse.take i);have Ur:T.length<=1048576:=by rw[<-hTe];simp;omega);rw[hTe]at hT1 h2 h3 h4 h5;have y0:W.cell? (aD w.heap.size 0)=some (.slice vo T.length vc):=by simp[World.cell?,h3]);have y1:W.cell? (aD Br 0)=some (sT r.key):=by simp[World.cell?,h6]);have y2:W.cell? (aD Br 1)=some (iT r.stamp):=by simp[World.cell?,h6]);have y3:W.cell? (aD Br 2)=some (iT r.kind):=by simp[World.cell?,h6]);have y4:W.cell? (aD Br 3)=some (sT r.body):=by simp[World.cell?,h6]);have hown2:=own_below h4 (((Q.refl W).alloc #[sT r.key,iT r.stamp,iT r.kind,sT r.body] 119).below);have HP:Hid _:=fun(w':World)(nH:Option Addr)(nI:Nat)=>h2.push (w':=w') (r:=r) (nH:=nH) (nI:=nI) (zLK _) h3 h4 h5;have hsz:w.heap.size<W.heap.size:=(zLM.1 h3).1
   gi_wp2_with (gi_at_builtin;refine Fw rfl (.tmp 30) (.tmp 32) 115 rfl (w.heap.size+1) 119 i0 (.agg #[eS,iT 0,iT 0,eS]) 4 48 Tryz.underlying115 hi hz0 hz1 hz2 rfl (by decide) _ _ _ rfl hown2 (aD W.heap.size 0) 1 1 r.cells rfl rfl ?c1 ?c2 (by omega) ?c3 ?c4 ?c5 ?_)
   (((((case c1=>exact Fy _ _ _);case c2=>exact EI _);case c3=>unfold maxLen;omega);case c4=>omega);case c5=>simp;omega);intro v' w' hown' hgrow hvb;obtain⟨vo2,vc2,hv2⟩:=Ac hown';subst hv2;obtain⟨z0,z1,hN,hK⟩:=HP.out w' vo2 vc2 hgrow hown' hvb;have HN:Hid _:=And.intro hN hK;gi_wp2;exact⟨_,HN.out.2,trivial,by show JL w w.heap.size (rs.reverse.take (i+1)) _ _;rw[hT1];exact HN.out.1⟩
  case done =>
   intro D2 D5 W hD hI2 JN OW;have KS:JL w w.heap.size rs.reverse D5 W:=by
    (have:rs.reverse.take rs.length=rs.reverse:=by rw[zLP (by simp)]);have h1:JL w w.heap.size (rs.reverse.take rs.length) D5 W:=hI2;rw[this]at h1;exact h1
   have qW:Q w W:=⟨KS.below⟩;obtain⟨vo,vc,e1,e2,e3⟩:=KS.row;have hDl:=(zLM.1 OW).1;have hBl:=(zLM.1 e1).1;have W9:=hU (NG.out W (h.kept qW));have HR:Hid _:=And.intro e1 (And.intro e2 (And.intro qW OW));by_cases nT:A=[]
   .have hnn:=hA.2 nT;subst nT;rw[hnn]at W9;simp only[Option.getD_none,zLo]at W9;gi_wp2;refine⟨trivial,(callsIn_wide.2 (W9.out ())).mono ?_⟩;rintro e w3⟨rfl,q3⟩;have hD3:w3.heap[D2]?=some (.deferred (some [])):=(q3.below.block D2 hDl).trans OW;have hb3:w3.heap[w.heap.size]?=some (.cells #[.slice vo rs.reverse.length vc] 115 (0,0)):=(q3.below.block _ hBl).trans e1;have y0:w3.cell? (aD w.heap.size 0)=some (.slice vo rs.reverse.length vc):=by simp[World.cell?,hb3]
    gi_wp2;refine⟨by simp,.inl ⟨_,_,rfl,run_takeDeferred hD3,?_⟩⟩;refine⟨_,results_tmp2 rfl _ _ _,?_⟩;have qf:Q w (w3.putObj D2 (.deferred none)):=zDz (qW.trans q3) (by have:=qW.below.size;omega) _;refine⟨Or.inl ⟨vo,vc,by simp,?_,pJ,N7,pz,Lv,h0.kept qf,fun a ha=>Or.inl ⟨a,ha,rfl⟩⟩,But.Be qf⟩;rw[zLw];refine OJ (Ai e2 (fun g hg=>?_)) (by omega);have hne:g≠D2:=fun e=>by
     obtain⟨cc,hcc⟩:=Im e2 g hg;rw[e,OW]at hcc
     cases hcc
    exact(World.putObj_heap_other (by omega)).trans (q3.below.block g (e2.lt g hg).2)
   .obtain⟨nn,hnn⟩:∃nn,S.BX X.newest k=some nn:=by
     cases hnk:S.BX X.newest k with
     |none=>exact absurd (hA.1 hnk) nT
     |some nn=>exact⟨nn,rfl⟩
    (((rw[hnn]at W9;simp only[zLT,zLX]at W9;obtain⟨i0,hi,hz0,hz1,hz2⟩:=info_parts dI;obtain⟨T,hTe⟩:=xe rs.reverse;have Ur:T.length<=1048576:=by rw[<-hTe];simp;omega);rw[hTe]at e1 e2;have HTe:=h_ hTe;gi_wp2;refine⟨trivial,(callsIn_wide.2 (W9.out ())).mono ?_⟩;rintro e w3⟨rfl,q3⟩;have hD3:w3.heap[D2]?=some (.deferred (some [])):=(q3.below.block D2 hDl).trans OW;have hb3:w3.heap[w.heap.size]?=some (.cells #[.slice vo T.length vc] 115 (0,0)):=(q3.below.block _ hBl).trans e1;have e23:w3.ownsRow (w.heap.size+1) 119 4 (.slice vo T.length vc) T.length (AY T):=own_below e2 q3.below;have bM:=qW.trans q3;have TK:=hU (Y6 (h0.kept bM) (CJ hT bM) uS nT k hk hB hl);have zFI:D2<w3.heap.size:=(zLM.1 hD3).1;have hDw:w.heap.size<=D2:=by have:=qW.below.size;omega);gi_wp2;refine⟨trivial,(callsIn_wide.2 (TK.out ())).mono ?_⟩;rintro e w4⟨Db,hb4⟩;have hD4:w4.heap[D2]?=some (.deferred (some [])):=(hb4.block D2 zFI (by omega)).trans hD3;have YS:w4.heap[w.heap.size]?=some (.cells #[.slice vo T.length vc] 115 (0,0)):=(hb4.block _ (zLM.1 hb3).1 (by omega)).trans hb3;have y0:w4.cell? (aD w.heap.size 0)=some (.slice vo T.length vc):=by simp[World.cell?,YS]);have e24:w4.ownsRow (w.heap.size+1) 119 4 (.slice vo T.length vc) T.length (AY T):=Ai e23 (fun g hg=>hb4.block g (e23.lt g hg).2 (by have:=(e23.lt g hg).1;omega));have Dp:But c w w4:=(But.Be bM).trans hb4;rcases Db with⟨vo4,vc4,rfl,JF,nx4,wM,lc4,jb,nR,EW⟩|⟨hbad,rfl⟩
    .obtain⟨g4,xQ,zEm,zEl,kK⟩:=Cv JF (fun e=>nT (zLN (by have:=congrArg List.length e;rw[D8]at this;simp only[zLW]at this;omega)));subst xQ;have qX:∀a g,wM=some a->(Value.slice vo T.length vc).ownBlock=some g->a.block≠g:=fun a g ha hg=>by
      have h1:=e23.lt g hg;rcases EW a ha with⟨a0,ha0,hab⟩|h2
      .have:=h0.Na a0 ha0;omega
      .omega
     have qV:∀a,wM=some a->a.block≠D2:=fun a ha=>by
      rcases EW a ha with⟨a0,ha0,hab⟩|h2
      .have:=h0.Na a0 ha0;omega
      .omega
     have HF:Hid _:=And.intro nR (And.intro qX (And.intro qV (And.intro Dp (And.intro e24 hD4))));have gJ:Hid (∀a,wM=some a->(∃a0,N7=some a0/\a.block=a0.block)\/w.heap.size<=a.block):=fun a ha=>(EW a ha).imp (fun h=>h) (fun h=>zLV bM.below.size h);have hAp:0<A.length:=List.length_pos_iff.2 nT;have qO:w.heap.size+1<=w4.heap.size:=(zLM.1 YS).1;have hcl:(AY A).length=A.length*4:=D8 A;have hc4:=FT A;have zB2:(Value.slice vo T.length vc).ownBlock≠some D2:=fun e=>by
      obtain⟨cc,hcc⟩:=Im HF.out.2.2.2.2.1 D2 e;rw[HF.out.2.2.2.2.2]at hcc
      cases hcc
     gi_wp2_with (gi_at_builtin;refine Fw rfl (.tmp 54) (.tmp 55) 115 rfl (w.heap.size+1) 119 i0 (.agg #[eS,iT 0,iT 0,eS]) 4 48 Tryz.underlying115 hi hz0 hz1 hz2 rfl (by decide) _ _ _ rfl e24 (aD g4 0) A.length vc4 (AY A) rfl hcl ?c1 hc4 hAp ?c3 ?c4 qO ?_)
     case c1 =>
      intro j u hu;have:=kK j u hu;by_cases hj0:j=0
      .subst hj0;simpa[Addr.add]using this
      .simpa[Addr.add,hj0]using this
     (((case c3=>unfold maxLen;omega);case c4=>omega);intro v' w5 hown5 hg5 hv5;obtain⟨vo5,vc5,xE⟩:=Ac hown5;subst xE;have hD5:w5.heap[D2]?=some (.deferred (some [])):=(hg5.block D2 (zLM.1 HF.out.2.2.2.2.2).1 (fun e=>zB2 e.symm)).trans HF.out.2.2.2.2.2;have HG:Hid _:=And.intro hown5 (And.intro hg5 hv5);gi_wp2;refine⟨by simp,.inl ⟨_,_,rfl,run_takeDeferred hD5,?_⟩⟩;refine⟨_,results_tmp2 rfl _ _ _,?_⟩;obtain⟨hown5,hg5,hv5⟩:=HG.out;obtain⟨nR,qX,qV,Dp,zBn,hD4⟩:=HF.out;have uf:=nR.grown h0.IV hct hg5 (fun g hg=>by have:=(zBn.lt g hg).1;omega) qX;have hC6:=uf.grown h0.IV hct (grownBy_putObj' w5 D2 (.deferred none)) (fun g hg=>by injection hg with hg;omega) (fun a g ha hg=>by injection hg with hg;rw[<-hg];exact qV a ha);have hlen:(rs.reverse++A).length=T.length+A.length:=by rw[HTe.out];simp);refine⟨Or.inl ⟨vo5,vc5,by rw[hlen];rfl,?_,nx4,wM,lc4,jb,hC6,gJ.out⟩,⟨?_,?_,?_,?_,?_⟩⟩
     .rw[hlen,HTe.out,CV];refine OJ (Ai hown5 (fun g hg=>?_)) (by omega);have hne:g≠D2:=fun e=>by
       obtain⟨cc,hcc⟩:=Im hown5 g hg;rw[e,hD5]at hcc
       cases hcc
      exact World.putObj_heap_other (by omega)
     .exact hg5.os.trans Dp.os
     .exact hg5.tape.trans Dp.tape
     .exact hg5.output.trans Dp.output
     .have h1:=Dp.size;have h2:=hg5.size;simp;omega
     .intro i hi2 hn2;have h1:=Dp.size;rw[World.putObj_heap_other (by omega),hg5.block i (by omega) (fun e=>by have:=(zBn.lt i e.symm).1;omega)];exact Dp.block i hi2 hn2
    .gi_wp2;refine⟨by simp,.inl ⟨_,_,rfl,run_takeDeferred hD4,?_⟩⟩;refine⟨_,results_tmp2 rfl _ _ _,?_⟩;refine⟨Or.inr ⟨hbad,rfl⟩,Dp.os,Dp.tape,Dp.output,?_,?_⟩
     .have h1:=Dp.size;simp;omega
     .intro i hi2 hn2;rw[World.putObj_heap_other (by omega)];exact Dp.block i hi2 hn2
theorem WG{bad:Prop}{w:World}{tg:Tags}{o s d c:Nat}{X:S.Sto}{ids ps:List Nat}{bs:List (List Rec)}(h:Ag w tg o s d X ids ps)(hX:X.Ok)(k:BA)(hp:S.BX X.pend k=none)(hct:c<w.heap.size)(uS:c≠0)(A B:List Rec){wm:Int}{bl:BA}{ao:Option Addr}{cap pJ:Nat}{N7:Option Addr}{pz:Nat}{Lv:List Rec}(h0:Gv bad w c bs wm bl ao cap pJ N7 pz Lv (A++B))(hT:Tab w)(hk:∀r∈A,r.key=k)(hB:∀r∈B,r.key≠k)(hl:A.length<=1048576)(nT:A≠[])(nn:Int)(hnn:S.BX X.newest k=some nn):
  Calls Tryz.prog 135 #[pT s,sT k,pT c] w fun e w'=>Og bad c bs wm bl ao cap N7 A B w e w'/\But c w w':=by
 have PG:Hid _:=fun(W:World)(q:Q w W)=>PV (h.kept q) hX k;have NG:Hid _:=fun(W:World)(q:Q w W)=>Jd (h.kept q) hX k;rw[hnn]at NG;simp only[zLT,zLX]at NG;have TK:Hid _:=fun(W:World)(q:Q w W)=>Y6 (h0.kept q) (CJ hT q) uS nT k hk hB hl;obtain⟨i0,hi,hz0,hz1,hz2⟩:=info_parts dI;go_in;go_wp2_with fail;apply(PG.out _ ((Q.refl w).alloc _ _)).mono;rintro e w1⟨hP,q1⟩;rcases hP with⟨_,rfl⟩|⟨i,p,id,rs',hpi,hid,hkr,hl2,rfl⟩
 .have q1':=((Q.refl w).alloc #[nS] 115).trans q1;have hb1:w1.heap[w.heap.size]?=some (.cells #[nS] 115 (0,0)):=(q1.below.block _ (by simp)).trans (heap_alloc_new w _);have W9:=hU (NG.out w1 q1');go_wp2_with fail;apply(W9.out ()).mono;rintro e w3⟨rfl,q3⟩;have bM:=q1'.trans q3;have zFM:=(zLM.1 hb1).1;have hb3:w3.heap[w.heap.size]?=some (.cells #[nS] 115 (0,0)):=(q3.below.block _ zFM).trans hb1;have TK2:=hU (TK.out w3 bM);go_wp2_with fail;apply(TK2.out ()).mono;rintro e w4⟨Db,hb4⟩;have YS:w4.heap[w.heap.size]?=some (.cells #[nS] 115 (0,0)):=(hb4.block _ (zLM.1 hb3).1 (by omega)).trans hb3;have y0:w4.cell? (aD w.heap.size 0)=some nS:=by simp[World.cell?,YS]
  have Dp:But c w w4:=(But.Be bM).trans hb4;rcases Db with⟨vo4,vc4,rfl,JF,nx4,wM,lc4,jb,nR,EW⟩|⟨hbad,rfl⟩
  .obtain⟨g4,xQ,zEm,zEl,kK⟩:=Cv JF (fun e=>nT (zLN (by have:=congrArg List.length e;rw[D8]at this;simp only[zLW]at this;omega)));subst xQ;have HF:Hid _:=And.intro nR Dp;have gJ:Hid (∀a,wM=some a->(∃a0,N7=some a0/\a.block=a0.block)\/w.heap.size<=a.block):=fun a ha=>(EW a ha).imp (fun h=>h) (fun h=>zLV bM.below.size h);have hAp:0<A.length:=List.length_pos_iff.2 nT;have qO:w.heap.size+1<=w4.heap.size:=(zLM.1 YS).1;have hcl:(AY A).length=A.length*4:=D8 A;have hc4:=FT A;go_wp2_with(at_builtin;refine GZ rfl (.tmp 54) (.tmp 55) 115 rfl (w.heap.size+1) 119 i0 (.agg #[eS,iT 0,iT 0,eS]) 4 48 Tryz.underlying115 hi hz0 hz1 hz2 rfl (by decide) _ _ _ rfl (World.ownsRow_nil _ _ _ _) (aD g4 0) A.length vc4 (AY A) rfl hcl ?c1 hc4 hAp ?c3 ?c4 qO ?_)
   case c1 =>
    intro j u hu;have:=kK j u hu;by_cases hj0:j=0
    .subst hj0;simpa[Addr.add]using this
    .simpa[Addr.add,hj0]using this
   ((case c3=>unfold maxLen;omega);case c4=>omega);intro v' w5 hown5 hg5 hv5;obtain⟨vo5,vc5,xE⟩:=Ac hown5;subst xE;have HG:Hid _:=And.intro hown5 hg5;go_wp2_with fail
   go_ret2
   obtain⟨hown5,hg5⟩:=HG.out;obtain⟨nR,Dp⟩:=HF.out;have uf:=nR.grown h0.IV hct hg5 (fun g hg=>by simp[Value.ownBlock]at hg) (fun a g ha hg=>by simp[Value.ownBlock]at hg);refine⟨Or.inl ⟨vo5,vc5,rfl,OJ hown5 (by omega),nx4,wM,lc4,jb,uf,gJ.out⟩,⟨hg5.os.trans Dp.os,hg5.tape.trans Dp.tape,hg5.output.trans Dp.output,zLV Dp.size hg5.size,fun i hi2 hn2=>?_⟩⟩;have h1:=Dp.size;exact(hg5.block i (by omega) (fun e=>by simp[Value.ownBlock]at e)).trans (Dp.block i hi2 hn2)
  .go_wp2_with fail
   go_ret2
   exact⟨Or.inr ⟨hbad,rfl⟩,Dp⟩
 .rw[hp]at hl2;cases hl2
end
section
open Go.Shelf
attribute [local go_sem] Oper.semAt_some
theorem nZ(n s:Nat)(w:World):
  CallsIn Fence.wide n Tryz.prog 134 #[.pointer (some (aD s 4)),.pointer (some (aD s 6))] w fun e w'=>e=.returned (.func (.func 166) #[] #[pT w.heap.size,pT (w.heap.size+1)])/\w'=(w.alloc (.cells #[.pointer (some (aD s 4))] 146)).alloc (.cells #[.pointer (some (aD s 6))] 181):=by
 refine callsIn_of_wp Tryz.func134 rfl trivial ?_ rfl;simp only[Tryz.ntmps134,zLm,zLQ,zLW,Nat.reduceAdd,Nat.reduceSub,zLj,zLi,zLs,zLl,zLb,zLd];gi_wp2;go_ret;exact⟨rfl,rfl⟩
def mo(bad:Prop)(so:Nat)(X:S.Sto)(F:List Rec)(tg:Tags)(i:Nat)(vs:Array Value)(W:World):Prop:=
 (∃(k:BA)(vo:Option Addr)(vc:Nat),X.keys[i]?=some k/\vs=#[.slice vo (X.JG F k).length vc,iT 0]/\W.ownsRow 0 119 4 (.slice vo (X.JG F k).length vc) (X.JG F k).length (AY (X.JG F k))/\∀g,(Value.slice vo (X.JG F k).length vc).ownBlock=some g->(tg g).1=so)
 \/ (bad/\vs=#[nS,iT 3])
def Qm(vs:Array Value):Prop:=vs.getD 1 undef=iT 0
theorem U8{rs:List Rec}:∀{k:Nat}{t:List UInt8},BM rs k=some t->k<=t.length
 |0,_,_=>zLS _
 |k+1,t,h=>by
  simp only[BM]at h
  cases ht:BM rs k with
  |none=>rw[ht]at h;simp at h
  |some t0 =>
   cases hr:rs[k]? with
   |none=>rw[ht,hr]at h;simp at h
   |some r =>
    rw[ht,hr]at h;simp only at h;split at h
    .simp at h
    .simp only[zLO]at h;subst h;have h1:=U8 ht;simp only[entry,zLL,List.length_singleton];omega
theorem fB{b:List Rec}(h:S.OkB b):b.length<=(S.Aj b).length:=by
 obtain⟨t,ht⟩:=h.text;unfold S.Aj;rw[M.Ar,ht];unfold Ad at ht;rw[if_neg (by have:=h.few;omega)]at ht;have:=U8 ht;simp only[zLT];omega
theorem Zt:∀{bs:List (List Rec)},(∀b∈bs,S.OkB b)->bs.flatten.length<=(S.Aw bs).length
 |[],_=>by simp
 |b::bs,h=>by
  have h1:=fB (h b (by simp));have h2:=Zt (bs:=bs) (fun x hx=>h x (by simp[hx]));have e1:S.Aw (b::bs)=S.Aj b++S.Aw bs:=by simp[S.Aw]
  rw[e1,zLz];simp only[zLL];omega
theorem Gv.zEI{bad:Prop}{w w':World}{c:Nat}{bs:List (List Rec)}{wm:Int}{bl:BA}{ao:Option Addr}{cap nx:Nat}{lo:Option Addr}{lc:Nat}{left rest:List Rec}(h:Gv bad w c bs wm bl ao cap nx lo lc left rest){R:Nat->Prop}{tg AR:Tags}(hk:Kept R tg w AR w')(hc:¬R (tg c).1)(hE:∀g,ao=some (aD g 0)->g<w.heap.size->S.CR 0 bs≠[]->¬R (tg g).1)(hl:∀a,lo=some a->¬R (tg a.block).1):Gv bad w' c bs wm bl ao cap nx lo lc left rest:=by
 have cb:∀g,g<w.heap.size->¬R (tg g).1->∀j,w'.cell? (aD g j)=w.cell? (aD g j):=fun g h1 h2 j=>zMI (a:=(aD g j)) (hk.block g h1 h2);refine⟨h.laid,h.small,h.ok,?_,?_,h.QV,?_,h.ZB,fun a ha=>zLJ (h.Na a ha) hk.size,h.cap,h.next,h.rest⟩
 .exact⟨zLJ h.var.1 hk.size,fun i v hv=>⟨(cb c h.var.1 hc i).trans (h.var.2 i v hv).1,(zML (a:=(aD c i)) (hk.block c h.var.1 hc)).trans (h.var.2 i v hv).2⟩⟩
 .by_cases hnil:S.CR 0 bs=[]
  .exact Or.inl hnil
  rcases h.IV with h1|⟨g,h2,h3,h4⟩
  .exact Or.inl h1
  .have k:=cb g h3 (hE g h2 h3 hnil);refine Or.inr ⟨g,h2,zLJ h3 hk.size,fun i x hi=>?_⟩;obtain⟨a,b,d,f⟩:=h4 i x hi;exact⟨(k _).trans a,(k _).trans b,(k _).trans d,(k _).trans f⟩
 .rcases h.recs with h1|⟨g,off,h2,h3,h4⟩
  .exact Or.inl h1
  .have k:=cb g h3 (hl _ h2);refine Or.inr ⟨g,off,h2,zLJ h3 hk.size,fun i x hi=>?_⟩;obtain⟨a,b,d,f⟩:=h4 i x hi;exact⟨(k _).trans a,(k _).trans b,(k _).trans d,(k _).trans f⟩
theorem ES{w:World}(h:Tab w):0<w.heap.size:=by
 have h1:=h 0 (by omega);rcases zLn 0 w.heap.size with h2|h2
 .exact h2
 .unfold World.cell? at h1;simp[Array.getElem?_eq_none h2]at h1
theorem Cu{w w':World}(h:Tab w)(hb:w'.heap[0]?=w.heap[0]?):Tab w':=fun i hi=>(zMI (a:=(aD 0 i)) hb).trans (h i hi)
theorem Ka.row{w:World}{tg:Tags}{o s c u:Nat}{tv:TypeId}{ks:List BA}{vs:List Value}(h:Ka w tg o s c u tv ks vs)(hs:(tg s).1=o):∃g la lc,w.cell? (aD s c)=some (.slice la ks.length lc)/\Df w g la ks/\ks.length<=lc/\g<w.heap.size/\(tg g).1=o:=by
 obtain⟨ao,cap,h1,h2,h3⟩:=h.keys;by_cases hk:ks=[]
 .exact⟨s,ao,cap,h1,Or.inl hk,Vb h2,h.top,hs⟩
 .obtain⟨g,rfl,_,hg,hc⟩:=Cv h2 (by simpa[AX]using hk);refine⟨g,_,cap,h1,Or.inr ⟨0,rfl,fun i k hi=>?_⟩,Vb h2,hg,by rw[h3 g rfl]⟩;rw[zLk];exact hc i _ (by simp[AX,hi])
theorem But.kept{c:Nat}{w w':World}(h:But c w w'){P:Nat->Prop}{tg AR:Tags}(hc:P (tg c).1)(ht:∀k,k<w.heap.size->AR k=tg k):Kept P tg w AR w':=
 ⟨h.os,h.tape,h.output,h.size,ht,fun k hk hn=>h.block k hk (fun e=>hn (by rw[e];exact hc))⟩
def zA2(bad:Prop)(so:Nat)(c:Nat)(bs:List (List Rec))(wm:Int)(bl:BA)(ao:Option Addr)(cap:Nat)(tg:Tags)(W:World)(rest:List Rec):Prop:=
 ∃nx lo lc left,Gv bad W c bs wm bl ao cap nx lo lc left rest/\∀a,lo=some a->(tg a.block).1=so
theorem zA2.keep{bad:Prop}{so:Nat}{c:Nat}{bs:List (List Rec)}{wm:Int}{bl:BA}{ao:Option Addr}{cap:Nat}{tg AR:Tags}{W W':World}{rest:List Rec}(h:zA2 bad so c bs wm bl ao cap tg W rest){R:Nat->Prop}(hk:Kept R tg W AR W')(hR:¬R so)(hc:¬R (tg c).1)(hE:∀g,ao=some (aD g 0)->g<W.heap.size->S.CR 0 bs≠[]->¬R (tg g).1):zA2 bad so c bs wm bl ao cap AR W' rest:=by
 obtain⟨nx,lo,lc,left,h1,h2⟩:=h;exact⟨nx,lo,lc,left,h1.zEI hk hc hE (fun a ha=>by rw[h2 a ha];exact hR),fun a ha=>by rw[hk.tags _ (h1.Na a ha)];exact h2 a ha⟩
theorem YQ{bad:Prop}{w:World}{tg:Tags}{o s d c:Nat}{X:S.Sto}{ids ps:List Nat}{bs:List (List Rec)}{C:S.Con}(h:Ag w tg o s d X ids ps)(hX:X.Good bs C)(k:BA)(hkey:X.con C k≠[])(hct:c<w.heap.size)(uS:c≠0)(B:List Rec){wm:Int}{bl:BA}{ao:Option Addr}{cap pJ:Nat}{N7:Option Addr}{pz:Nat}{Lv:List Rec}(h0:Gv bad w c bs wm bl ao cap pJ N7 pz Lv (S.BZ k bs.flatten++B))(hT:Tab w)(hB:∀r∈B,r.key≠k):
  Calls Tryz.prog 135 #[pT s,sT k,pT c] w fun e w'=>Og bad c bs wm bl ao cap N7 (X.JG bs.flatten k) B w e w'/\But c w w':=by
 have hk:∀r∈S.BZ k bs.flatten,r.key=k:=fun r hr=>(S.Cx.1 hr).2;have hl:(S.BZ k bs.flatten).length<=1048576:=by
  have h1:(S.BZ k bs.flatten).length<=bs.flatten.length:=List.length_filter_le ..;have h2:=Zt hX.fil.ok;have h3:=h0.laid.size;have h4:=h0.small;omega
 have hCA:X.fl=X.fl/\(C k=[]↔S.BZ k bs.flatten=[]):=by
  refine⟨rfl,?_⟩;have:=(hX.fil.holds k).tells.length;constructor
  .intro e;rw[e]at this;exact zLN this.symm
  .intro e;rw[e]at this;exact zLN this
 have hnw:=hX.newest k;unfold S.Sto.JG
 cases hp:S.BX X.pend k with
 |some rs =>
  simp only[zLT];refine WE h hX.ok k rs hp hct uS (S.BZ k bs.flatten) B h0 hT hk hB hl ?_;rw[hnw,<-hCA.2]
  cases C k<;>simp
 |none =>
  have hC:C k≠[]:=fun e=>hkey (by unfold S.Sto.con;rw[hp,e];simp[S.Gw]);obtain⟨v,l,hv⟩:=List.exists_cons_of_ne_nil hC;simp only[Option.getD_none,List.reverse_nil,zLb];exact WG h hX.ok k hp hct uS (S.BZ k bs.flatten) B h0 hT hk hB hl (fun e=>hC (hCA.2.2 e)) v.stamp (by rw[hnw,hv];rfl)
theorem WI{bad:Prop}{c:Nat}{bs:List (List Rec)}{wm:Int}{bl:BA}{ao:Option Addr}{cap:Nat}{N7:Option Addr}{R B:List Rec}{w:World}{e:Ending}{w':World}(h:Og bad c bs wm bl ao cap N7 R B w e w'):∃(vo:Option Addr)(m vc:Nat)(co:Int),e=.returned (.tuple #[.slice vo m vc,iT co]) /\
  ((m=R.length/\co=0/\w'.ownsRow w.heap.size 119 4 (.slice vo R.length vc) R.length (AY R)/\∃nx lo lc left,Gv bad w' c bs wm bl ao cap nx lo lc left B/\∀a,lo=some a->(∃a0,N7=some a0/\a.block=a0.block)\/w.heap.size<=a.block)\/(bad/\vo=none/\m=0/\vc=0/\co=3)):=by
 rcases h with⟨vo,vc,rfl,h1,h2⟩|⟨h1,rfl⟩
 .exact⟨vo,_,vc,0,rfl,Or.inl ⟨rfl,rfl,h1,h2⟩⟩
 .exact⟨none,0,0,3,rfl,Or.inr ⟨h1,rfl,rfl,rfl,rfl⟩⟩
end
section
open Go.Shelf
attribute [local go_sem] Oper.semAt_some
theorem Rz{bad:Prop}(n:Nat)(hn:20<=n){w:World}{Ch AU:Tags}{o s d od so sc lo Bs:Nat}{X:S.Sto}{ids ps Al ps':List Nat}{D:M.Dsk}{bs:List (List Rec)}{wm:Int}{C:S.Con}(So Bo Bx:Nat->Prop)(ug:∀x,Bo x->Bx x)(h:Ag w Ch o s d X ids ps)(hX:X.Good bs C)(hd:AJ w AU od d D Al ps')(hD:D.BS)(hO:MS bad D bs wm)(hT:Tab w)(rE:w.cell? (aD Bs 0)=some (pT s))(hBl:Bs<w.heap.size/\¬(Bo (Ch Bs).1\/(Ch Bs).1=sc\/(Ch Bs).1=lo))(hG:¬(Bo (Ch 0).1\/(Ch 0).1=sc\/(Ch 0).1=lo))(hso:So so)(hsc:So sc)(hlo:So lo)(hsl:so≠lo)(hsx:so≠sc)(hxl:sc≠lo)(ql:∀x,So x->¬Bx x)(hoB:¬(Bo o\/o=sc\/o=lo)):
  u7 Fence.wide n Tryz.prog 133 #[pT Bs] X.keys.length So Bo Bx Qm (mo bad so X bs.flatten) Ch w:=by
 intro lp J Jx hJ hJx hY hj0;have SR:Hid _:=fun(W:World)(q:Q w W)=>Md AU od d D Al ps' hD hO W (hd.kept q) (CJ hT q);have c0:=h.c0;refine callsIn_of_wp_marks Tryz.func133 rfl trivial ?_ rfl;simp only[Tryz.ntmps133,zLm,zLQ,zLW,Nat.reduceAdd,Nat.reduceSub,zLj,zLi,zLs,zLl,zLb,zLd];have hmx:Tryz.prog.follows .mixedOrders=true:=by kernel_rfl
 have qy:Q w (w.alloc (.cells #[.func (.yield lp) #[] #[]] 190)):=(Q.refl w).alloc _ _;have k0:=AA c0 qy;have kB:=AA rE qy;have SR2:=hU (SR.out _ qy);clear SR;gi_wp2;refine⟨trivial,fun _=>by omega,(callsIn_wide.2 (SR2.out ())).mono ?_⟩;rintro e w1⟨hR,q1⟩;have zI:Q w w1:=qy.trans q1;have hY1:w1.cell? (aD w.heap.size 0)=some (.func (.yield lp) #[] #[]):=(q1.below.cell (p:=(aD w.heap.size 0)) (by simp)).trans (by simp);have hs1:w.heap.size+1<=w1.heap.size:=by have:=q1.below.size;simpa using this
 clear SR2 k0 kB;rcases hR with⟨bl,ao,cap,hL,hb,rfl,hE,qb⟩|⟨hbad,rfl⟩
 .have qc:Q w1 ((w1.alloc (.cells #[iT wm,sT bl,.slice ao bs.length cap] 112)).alloc (.cells #[iT wm,sT bl,.slice ao bs.length cap,iT 0,nS] 192)):=((Q.refl w1).alloc _ _).alloc _ _;have kB:=AA rE (zI.trans qc);obtain⟨w2,hw2⟩:=ex ((w1.alloc (.cells #[iT wm,sT bl,.slice ao bs.length cap] 112)).alloc (.cells #[iT wm,sT bl,.slice ao bs.length cap,iT 0,nS] 192));have hvar:Ca w2 (w1.heap.size+1) [iT wm,sT bl,.slice ao bs.length cap,iT 0,nS]:=by
   have:=AZ (w1.alloc (.cells #[iT wm,sT bl,.slice ao bs.length cap] 112)) [iT wm,sT bl,.slice ao bs.length cap,iT 0,nS] 192;rw[zMM]at this;rw[hw2];exact this
  have hs2:w2.heap.size=w1.heap.size+2:=by rw[hw2];simp
  rw[<-hw2]at qc kB;unfold F3;gi_wp2;rw[<-hw2];clear hw2;refine wpIn_mono ?_ NoPanic.imp
  gi_region_with_o (refine⟨trivial,fun _=>by omega,(nZ _ _ _).mono ?_⟩;rintro e w3⟨rfl,rfl⟩)
  all_goals
   refine NoPanic.normal ?_;gi_wp2;obtain⟨wl,hwl⟩:=ex (((w2.alloc (.cells #[.pointer (some (aD s 4))] 146)).alloc (.cells #[.pointer (some (aD s 6))] 181)).drew);have qU:Q w2 wl:=by rw[hwl];exact(((Q.refl w2).alloc _ _).alloc _ _).drew
   have hba:wl.cell? (aD (w1.heap.size+2) 0)=some (.pointer (some (aD s 4))):=by
    have h1:=(AZ w2 [.pointer (some (aD s 4))] 146).kept (((Q.refl _).alloc #[.pointer (some (aD s 6))] 181).drew);rw[hs2]at h1;rw[hwl];exact h1.cell 0 rfl
   have hbb:wl.cell? (aD (w1.heap.size+2+1) 0)=some (.pointer (some (aD s 6))):=by
    have h1:=(AZ (w2.alloc (.cells #[.pointer (some (aD s 4))] 146)) [.pointer (some (aD s 6))] 181).kept ((Q.refl _).drew);rw[zMM,hs2]at h1;rw[hwl];exact h1.cell 0 rfl
   have zAl:wl.heap.size=w1.heap.size+4:=by
    (have h1:wl.heap.size=w2.heap.size+1+1:=by rw[hwl];show((w2.alloc _).alloc _).heap.size=_;rw[zMM,zMM]);omega
   (((obtain⟨MW,M5⟩:∃MW:Tags,MW=fun k=>if k<w.heap.size then Ch k else if k=w1.heap.size+1 then(sc,0)else(so,0):=⟨_,rfl⟩);have Rb:∀k,k<w.heap.size->MW k=Ch k:=fun k hk=>by rw[M5];simp[hk]);have tlc:MW (w1.heap.size+1)=(sc,0):=by rw[M5];simp;omega);have tls:∀k,w.heap.size<=k->k≠w1.heap.size+1->MW k=(so,0):=fun k h1 h2=>by rw[M5];simp[Nat.not_lt.2 h1,h2]
   have PE:Q w wl:=(zI.trans qc).trans qU;have hJl:J MW 0 wl:=hJ _ _ _ _ _ hj0 (Kept.Be PE Rb);have hY2:wl.cell? (aD w.heap.size 0)=some (.func (.yield lp) #[] #[]):=AA hY1 (qc.trans qU);obtain⟨hkr,hkm,hkF⟩:=hX.J9;have hsome:¬Bo so:=fun e=>ql so hso (ug so e);have zF1:¬(Bo so\/so=sc\/so=lo):=fun e=>e.elim hsome (fun e=>e.elim hsx hsl);have zBb:∀a,ao=some a->S.CR 0 bs≠[]->w.heap.size<=a.block/\a.block≠w1.heap.size+1:=fun a ha hne=>by
    have h1:=qb a ha;rw[zMM]at h1;rcases hE with h2|⟨g,h2,h3,_⟩
    .exact absurd h2 hne
    .rw[h2]at ha;injection ha with ha;subst ha;simp only at h1⊢;omega
   have uZ:∀g,ao=some (aD g 0)->S.CR 0 bs≠[]->g<w1.heap.size/\(MW g).1=so:=fun g hg hne=>by
    have h1:=zBb _ hg hne;simp only at h1;refine⟨?_,by rw[tls g h1.1 h1.2]⟩;rcases hE with h2|⟨g2,h2,h3,_⟩
    .exact absurd h2 hne
    .rw[h2]at hg;injection hg with hg;injection hg with hg;omega
   have uQ:zA2 bad so (w1.heap.size+1) bs wm bl ao cap MW wl (S.KR bs.flatten X.keys 0):=by
    rw[S.Xg hkF];refine⟨0,none,0,[],⟨hL,hb,hX.fil.ok,hvar.kept qU,(hE.kept qc).kept qU,fun a ha hne=>?_,Or.inl rfl,fun a ha=>(by cases ha),fun a ha=>(by cases ha),zLK _,zLS _,(by rw[zLb,List.drop_zero])⟩,fun a ha=>(by cases ha)⟩;exact(zBb a ha hne).2
   rw[<-hwl];clear hwl M5;refine Xk rfl (by omega) (gf:=166) (lb:=#[pT (w1.heap.size+2),pT (w1.heap.size+2+1)]) (by simp[Act.eval]) trivial (enters_of Tryz.func166 rfl rfl) X.keys.length lo (fun _=>False) (fun x=>Bo x\/x=sc) (fun x=>Bx x\/x=sc) (fun _=>True) (zHZ X.keys) MW (fun h=>h) (fun e=>e.elim (fun e=>ql lo hlo (ug lo e)) (fun e=>hxl e.symm)) (fun e=>e.elim (ql lo hlo) (fun e=>hxl e.symm)) (fun x e=>e.imp (ug x) (fun h=>h)) ?seq ?ps ?hG
    (fun tg i W=>J tg i W/\Kept (fun x=>Bo x\/x=sc\/x=lo) MW wl tg W/\zA2 bad so (w1.heap.size+1) bs wm bl ao cap tg W (S.KR bs.flatten X.keys i)) (fun c tg i W=>c=.ret/\Jx tg i W) ?hI ?hIx ⟨hJl,Kept.refl _ _ _,uQ⟩
    (fun _ vs=>{ tmps:=#[.func (.yield lp) #[] #[],pT Bs,pT w.heap.size,pT w1.heap.size,iT 0,pT (w1.heap.size+1),vs.getD 0 undef,undef,undef,.tuple #[.agg #[iT wm,sT bl,.slice ao bs.length cap],iT 0],pT s,pT s,pT s,pT d,.tuple #[.agg #[iT wm,sT bl,.slice ao bs.length cap],iT 0],.agg #[iT wm,sT bl,.slice ao bs.length cap],iT 0,iT 0,.bool false,undef,undef,undef,.agg #[iT wm,sT bl,.slice ao bs.length cap],.agg #[iT wm,sT bl,.slice ao bs.length cap,iT 0,nS],pT s,pT s,.pointer (some (aD s 4)),pT s,pT s,.pointer (some (aD s 6)),.func (.func 166) #[] #[pT (w1.heap.size+2),pT (w1.heap.size+2+1)],vs.getD 0 undef,undef,undef,undef,undef,undef,undef,undef,undef,undef,undef,undef,undef,undef,undef,undef],defers:=[]}) ?assign ?body ?done ?stop
   case seq =>
    intro W1 AR hb1 xK ht1;obtain⟨g,la,lc,x1,x2,x3,x4,x5⟩:=h.nw.row (by rw[h.ts]);obtain⟨g',ra,rc,z1,z2,z3,z4,z5⟩:=h.pd.row (by rw[h.ts]);have wb:∀k,k<w.heap.size->W1.heap[k]?=w.heap[k]?:=fun k hk=>(hb1.block k (by omega)).trans (PE.below.block k hk);have wc:∀k j,k<w.heap.size->W1.cell? (aD k j)=w.cell? (aD k j):=fun k j hk=>zMI (a:=(aD k j)) (wb k hk);have tgo:∀g,g<w.heap.size->(Ch g).1=o->¬((Bo (AR g).1\/(AR g).1=sc)\/(AR g).1=lo):=fun g h1 h2=>by
     rw[ht1 g (by omega),Rb g h1,h2];exact fun e=>hoB (e.elim (fun e=>e.imp (fun h=>h) Or.inl) (fun e=>Or.inr (Or.inr e)))
    have hu:=u7.depth (n-1) (zA6 n (by omega) (X.newest.map (·.1)) (X.pend.map (·.1)) (w1.heap.size+2) (w1.heap.size+2+1) s g g' la ra lc rc (fun _=>False) (fun x=>(Bo x\/x=sc)\/x=lo) (fun x=>(Bx x\/x=sc)\/x=lo) AR W1 ((hb1.cell (p:=(aD (w1.heap.size+2) 0)) (show w1.heap.size+2<wl.heap.size by omega)).trans hba) ((hb1.cell (p:=(aD (w1.heap.size+2+1) 0)) (show w1.heap.size+2+1<wl.heap.size by omega)).trans hbb) ((wc s 4 h.top).trans x1) ((wc s 6 h.top).trans z1) (x2.of_block (wb g x4)) (z2.of_block (wb g' z4)) x3 z3 ⟨by omega,tgo g x4 x5⟩ ⟨by omega,tgo g' z4 z5⟩);simp only[zM2]at hu;exact hu
   (case ps=>rintro tg i vs W⟨k,_,rfl⟩;rfl);case hG=>rintro tg i vs A' AR B' h _;exact h
   case hI =>
    rintro tg i A' AR B'⟨hj,hk,hc⟩ht;have hk':Kept (fun x=>x=lo) tg A' AR B':=ht.wider fun x hx=>hx.elim False.elim (fun e=>e);refine⟨hJ _ _ _ _ _ hj (hk'.wider fun x e=>e▸hlo),hk.trans (hk'.wider fun x e=>Or.inr (Or.inr e)),hc.keep hk' hsl ?_ ?_⟩
    .rw[hk.tags _ (by omega),tlc];exact hxl
    .intro g hg hgl hne;obtain⟨h1,h2⟩:=uZ g hg hne;rw[hk.tags g (by omega),h2];exact hsl
   case hIx =>
    rintro c tg i A' AR B'⟨hc,hj⟩ht;exact⟨hc,hJx _ _ _ _ _ hj (ht.wider fun x hx=>hx.elim False.elim (fun e=>e▸hlo))⟩
   case assign =>
    rintro l i tg vs W K⟨k,hk,rfl⟩hK;simp only[zLa,zLe,zLY,zLT]at hK;gi_wp2;exact hK
   case body =>
    rintro l i tg vs W hl2⟨hj,hk,hc⟩⟨k,hki,rfl⟩;obtain⟨nx,lo',lc,left,hCI,hlt⟩:=hc;obtain⟨zAm,YN⟩:=S.Xh hX.fil.ord hkr hki;rw[zAm]at hCI;have hkey:X.con C k≠[]:=(hkm k).1 (zLR hki);have xK:=hk.size;have hsw:=PE.below.size;have wW:∀k,k<w.heap.size->¬(Bo (Ch k).1\/(Ch k).1=sc\/(Ch k).1=lo)->W.heap[k]?=w.heap[k]?:=fun k h1 h2=>(hk.block k (by omega) (by rw[Rb k h1];exact h2)).trans (PE.below.block k h1);have hSt:Ag W Ch o s d X ids ps:=h.keep (by omega) (fun _ _=>rfl) (fun k hk' e=>wW k hk' (by rw[e];exact hoB));have fq:=ES hT;have hTW:Tab W:=Cu hT (wW _ fq hG);have HI:=hU (YQ hSt hX k hkey (by omega) (by omega) _ hCI hTW YN);have zB:W.cell? (aD Bs 0)=some (pT s):=(zMI (a:=(aD Bs 0)) (wW Bs hBl.1 hBl.2)).trans rE;have zY:W.cell? (aD w.heap.size 0)=some (.func (.yield lp) #[] #[]):=(zMI (a:=(aD w.heap.size 0)) (hk.block w.heap.size (by omega) (by rw[tls _ (zLK _) (by omega)];exact zF1))).trans hY2;have tgc:tg (w1.heap.size+1)=(sc,0):=(hk.tags _ (by omega)).trans tlc;have rA:∀g,ao=some (aD g 0)->S.CR 0 bs≠[]->(tg g).1=so/\g<W.heap.size:=fun g hg hne=>by
     obtain⟨h1,h2⟩:=uZ g hg hne;exact⟨by rw[hk.tags g (by omega),h2],by omega⟩
    have HH:Hid _:=And.intro hj (And.intro hk (And.intro hlt (And.intro rA hCI.Na)));clear hj hk hlt hCI rA hTW hSt fq wW hkey zAm YN uQ hJl hj0;simp only[zLa,zLe,zLY,zLT];gi_wp2;refine⟨trivial,fun _=>by omega,(CallsIn.inRound l (callsIn_wide.2 (HI.out ()))).mono ?_⟩;rintro e w5⟨hH,hb5⟩;obtain⟨vo,m,vc,co,rfl,hco⟩:=WI hH;obtain⟨hj,hk,hlt,rA,zQ⟩:=HH.out;have hk5:Kept (fun x=>x=sc) tg W (tg.more W.heap.size so 0) w5:=hb5.kept (by rw[tgc]) (fun k hk=>Tags.AQ hk);have hj5:J (tg.more W.heap.size so 0) i w5:=hJ _ _ _ _ _ hj (hk5.wider (fun x e=>e▸hsc));have zY5:w5.cell? (aD w.heap.size 0)=some (.func (.yield lp) #[] #[]):=(zMI (a:=(aD w.heap.size 0)) (hb5.block w.heap.size (by omega) (by omega))).trans zY;have HK:Hid _:=And.intro hk (And.intro hk5 (And.intro hlt (And.intro rA zQ)));clear hk hk5 hlt rA zQ HI HH hH hj;rcases hco with⟨rfl,rfl,hown,nx5,lo5,lc5,zAU,uf,EW⟩|⟨hbad,rfl,rfl,rfl,rfl⟩
    .obtain⟨fn,tmps,assign,body,hy,hR⟩:=YieldAt.within l (n-1-1-1) (hY (tg.more W.heap.size so 0) i #[.slice vo (X.JG bs.flatten k).length vc,iT 0] w5 hj5 (Or.inl ⟨k,vo,vc,hki,rfl,OJ hown (zLS _),fun g hg=>by rw[Tags.Ay (hown.lt g hg).1]⟩));have HC:Hid _:=And.intro uf EW;clear uf EW hown hj5;gi_wp2;refine⟨fun h=>absurd h (by decide),hR.mono ?_⟩;rintro e W6⟨JW,⟨uL,rfl,hok,hJ6⟩|⟨uL,rfl,xk⟩⟩
     .gi_wp2;obtain⟨hk,hk5,hlt,rA,zQ⟩:=HK.out;obtain⟨uf,EW⟩:=HC.out;have hB5:=hk5.size;have hcT:zA2 bad so (w1.heap.size+1) bs wm bl ao cap (tg.more W.heap.size so 0) w5 (S.KR bs.flatten X.keys (i+1)):=by
       refine⟨nx5,lo5,lc5,zAU,uf,fun a ha=>?_⟩;rcases EW a ha with⟨a0,ha0,hab⟩|h2
       .rw[hab,Tags.AQ (zQ a0 ha0)];exact hlt a0 ha0
       .rw[Tags.Ay h2]
      refine⟨JW,(hk5.wider fun x e=>Or.inr e).trans (uL.wider fun x e=>Or.inl e),trivial,hJ6,(hk.trans (hk5.wider fun x e=>Or.inr (Or.inl e))).trans (uL.wider fun x e=>Or.inl e),hcT.keep uL hsome ?_ ?_⟩
      .rw[Tags.AQ (by omega),tgc];exact fun e=>ql sc hsc (ug sc e)
      .intro g hg hgl hne;obtain⟨h1,h2⟩:=rA g hg hne;rw[Tags.AQ h2,h1];exact hsome
     .gi_wp2;obtain⟨hk,hk5,hlt,rA,zQ⟩:=HK.out;exact⟨JW,(hk5.wider fun x e=>Or.inr e).trans (uL.wider fun x e=>Or.inl e),rfl,xk⟩
    .obtain⟨fn,tmps,assign,body,hy,hR⟩:=YieldAt.within l (n-1-1-1) (hY (tg.more W.heap.size so 0) i #[nS,iT 3] w5 hj5 (Or.inr ⟨hbad,rfl⟩));clear hj5;gi_wp2;refine⟨fun h=>absurd h (by decide),hR.mono ?_⟩;rintro e W6⟨JW,⟨uL,rfl,hok,hJ6⟩|⟨uL,rfl,xk⟩⟩
     .exact absurd hok (by simp[Qm])
     .gi_wp2;obtain⟨hk,hk5,hlt,rA,zQ⟩:=HK.out;exact⟨JW,(hk5.wider fun x e=>Or.inr e).trans (uL.wider fun x e=>Or.inl e),rfl,xk⟩
   case done =>
    rintro D2 tg W hD2⟨hj,_,_⟩JN OW;gi_wp2;refine⟨by simp,.inl ⟨_,_,rfl,run_takeDeferred OW,?_⟩⟩;exact⟨_,results_none rfl _ _ _,⟨_,rfl⟩,tg,Or.inl (hJ _ _ _ _ _ hj (Kept.put (by rw[JN];exact hlo) _))⟩
   case stop =>
    rintro D2 c tg i W hD2⟨rfl,hj⟩JN OW;gi_wp2;refine⟨by simp,.inl ⟨_,_,rfl,run_takeDeferred OW,?_⟩⟩;exact⟨_,results_none rfl _ _ _,⟨_,rfl⟩,tg,Or.inr ⟨i,hJx _ _ _ _ _ hj (Kept.put (by rw[JN];exact hlo) _)⟩⟩
 .have hY2:=AA hY1 ((Q.refl w1).alloc #[iT 0,eS,nS] 112);have q2:Q w (w1.alloc (.cells #[iT 0,eS,nS] 112)):=zI.alloc _ _;obtain⟨fn,tmps,assign,body,hy,hR⟩:=YieldAt.depth (n-1) (hY Ch 0 #[nS,iT 3] _ (hJ _ _ _ _ _ hj0 (Kept.Be q2 (fun _ _=>rfl))) (Or.inr ⟨hbad,rfl⟩));unfold Mi;gi_wp2;refine⟨fun h=>absurd h (by decide),hR.mono ?_⟩;rintro e W3⟨AR,⟨hk1,rfl,hok,hJ3⟩|⟨hk1,rfl,hJx3⟩⟩
  .exact absurd hok (by simp[Qm])
  .gi_wp2;refine⟨_,results_none rfl _ _ _,?_⟩;exact⟨⟨_,rfl⟩,AR,.inr ⟨_,hJx3⟩⟩
end
section
variable{AU tg:Tags}{B cap' d o od ow s:Nat}{C V:S.Con}{D:M.Dsk}{EG:List BA}{R ol:List Rec}{T T0:S.Two}{W w w':World}{X:S.Sto}{ao:Option Addr}{bs:List (List Rec)}{ids ps:List Nat}{newer:BA}{nw:List (BA×Int)}{r:Rec}{v:Value}
def Bt(ol:List Rec):Nat:=(ol.map fun r=>r.key.size+r.body.size).sum
structure DZ(w:World)(tg:Tags)(ow B d:Nat)(ol:List Rec)(EG:List BA)(nw:List (BA×Int)):Prop where
 top:B<w.heap.size
 tb:tg B=(ow,0)
 fr:∀j,w.frozen? (aD B j)=false
 c0:w.cell? (aD B 0)=some (pT d)
 c1:∃ao cap,w.cell? (aD B 1)=some (.slice ao ol.length cap)/\w.ownsRow 0 119 4 (.slice ao ol.length cap) ol.length (AY ol)/\∀g,(Value.slice ao ol.length cap).ownBlock=some g->tg g=(ow,3)
 c2:w.cell? (aD B 2)=some (iT (Bt ol:Nat))
 c3:∃ao cap,w.cell? (aD B 3)=some (.slice ao EG.length cap)/\w.ownsRow 0 9 1 (.slice ao EG.length cap) EG.length (AX EG)/\∀g,(Value.slice ao EG.length cap).ownBlock=some g->tg g=(ow,4)
 nw:Ka w tg ow B 4 1 3 (nw.map (·.1)) (BO (nw.map (·.2)))
theorem DZ.keep{w w':World}{tg AU:Tags}{ow B d:Nat}{ol:List Rec}{EG:List BA}{nw:List (BA×Int)}(h:DZ w tg ow B d ol EG nw)(hs:w.heap.size<=w'.heap.size)(ht:∀k,k<w.heap.size->AU k=tg k)(hb:∀k,k<w.heap.size->(tg k).1=ow->w'.heap[k]?=w.heap[k]?):DZ w' AU ow B d ol EG nw:=by
 have hB:w'.heap[B]?=w.heap[B]?:=hb B h.top (by rw[h.tb]);have hc:∀j,w'.cell? (aD B j)=w.cell? (aD B j):=fun j=>zMI (a:=(aD B j)) hB;obtain⟨ao,cap,a1,a2,a3⟩:=h.c1;obtain⟨bo,KM,b1,b2,b3⟩:=h.c3;refine⟨zLJ h.top hs,(ht B h.top).trans h.tb,fun j=>(zML (a:=(aD B j)) hB).trans (h.fr j),(hc 0).trans h.c0,⟨ao,cap,(hc 1).trans a1,Ai a2 (fun g hg=>hb g (a2.lt g hg).2 (by rw[a3 g hg])),fun g hg=>(ht g (a2.lt g hg).2).trans (a3 g hg)⟩,(hc 2).trans h.c2,⟨bo,KM,(hc 3).trans b1,Ai b2 (fun g hg=>hb g (b2.lt g hg).2 (by rw[b3 g hg])),fun g hg=>(ht g (b2.lt g hg).2).trans (b3 g hg)⟩,
  h.nw.keep hs (fun k hk _=>ht k hk) (hc 4) (hc 5) (fun k hk e=>hb k hk (by rcases e with e|e<;>rw[e]))⟩
theorem DZ.kept(h:DZ w tg ow B d ol EG nw)(q:Q w w'):DZ w' tg ow B d ol EG nw:=h.keep q.below.size (fun _ _=>rfl) (fun k hk _=>q.below.block k hk)
theorem dA(h:DZ w tg ow B d ol EG nw):
  Calls Tryz.prog 136 #[pT B] w fun e w'=>e=.returned (.bool (decide (ol.length=64\/8192<=Bt ol)))/\Q w w':=by
 obtain⟨ao,cap,a1,_,_⟩:=h.c1;have c2:=h.c2;by_cases h1:ol.length=64
 .have hd:decide (ol.length=64\/8192<=Bt ol)=true:=by simp[h1]
  rw[hd];have h1I:((ol.length:Int)==64)=true:=by rw[h1];rfl
  go_in;go_wp2;go_ret;exact⟨rfl,Q.refl w⟩
 .have h1I:((ol.length:Int)==64)=false:=by rw[zM9];omega
  have h1J:¬(ol.length:Int)=64:=by omega
  have hd:decide (ol.length=64\/8192<=Bt ol)=decide ((8192:Int)<=(Bt ol:Nat)):=by
   by_cases h2:8192<=Bt ol
   .rw[decide_eq_true (Or.inr h2),decide_eq_true (by omega)]
   .rw[decide_eq_false (fun e=>e.elim h1 h2),decide_eq_false (by omega)]
  rw[hd];obtain⟨z,hz⟩:=xe (Bt ol);rw[hz]at c2⊢;go_in;go_wp2;go_ret;exact⟨rfl,Q.refl w⟩
theorem DZ.ni{fP:List Rec}(h:DZ w tg ow B d ol EG nw)(hs:w.heap.size<=w'.heap.size)(ht:∀k,k<w.heap.size->AU k=tg k)(hb:∀k,k<w.heap.size->k≠B->tg k≠(ow,3)->w'.heap[k]?=w.heap[k]?)(hc:∀j,j≠1->j≠2->w'.cell? (aD B j)=w.cell? (aD B j))(hf:∀j,w'.frozen? (aD B j)=false)(n1:∃ao cap,w'.cell? (aD B 1)=some (.slice ao fP.length cap)/\w'.ownsRow 0 119 4 (.slice ao fP.length cap) fP.length (AY fP)/\∀g,(Value.slice ao fP.length cap).ownBlock=some g->AU g=(ow,3))(n2:w'.cell? (aD B 2)=some (iT (Bt fP:Nat))):DZ w' AU ow B d fP EG nw:=by
 obtain⟨bo,KM,b1,b2,b3⟩:=h.c3;have hne:∀g u,tg g=(ow,u+1)->g≠B:=fun g u e e2=>by rw[e2,h.tb]at e;simp at e
 have h34:∀g,tg g=(ow,4)->tg g≠(ow,3):=fun g e e2=>by rw[e]at e2;simp at e2
 refine⟨zLJ h.top hs,(ht B h.top).trans h.tb,hf,(hc 0 (by omega) (by omega)).trans h.c0,n1,n2,⟨bo,KM,(hc 3 (by omega) (by omega)).trans b1,Ai b2 (fun g hg=>hb g (b2.lt g hg).2 (hne g 3 (b3 g hg)) (h34 g (b3 g hg))),fun g hg=>(ht g (b2.lt g hg).2).trans (b3 g hg)⟩,
  h.nw.keep hs (fun k hk _=>ht k hk) (hc 4 (by omega) (by omega)) (hc 5 (by omega) (by omega)) (fun k hk e=>?_)⟩
 rcases e with e|e
 .exact hb k hk (hne k 0 e) (fun e2=>by rw[e]at e2;simp at e2)
 .exact hb k hk (hne k 1 e) (fun e2=>by rw[e]at e2;simp at e2)
theorem Lb{P:Program}{ops:Array Oper}{o:Oper}{a:Act}{K:Act->World->Prop}{Q:Exit->Act->World->Prop}{E:Prop}(hg:o.guard=none)(s x:Operand)(t:TypeId)(hop:o.op=Op.call { callee:=Callee.builtin Builtin.append,args:=#[s,x],argTypes:=#[t,t]})(base:Nat)(e:TypeId)(i:TypeInfo)(z:Value)(size bytes:Nat)(h1:P.underlying t=some (.slice e))(h2:P.info? e=some i)(h3:i.zero=some z)(h4:i.size=size)(h5:i.bytes=bytes)(h6:z.cells.size=size)(h7:0<size)(v:Value)(n:Nat)(xs:List Value)(hs:a.eval s=v)(hown:w.ownsRow base e size v n xs)(ad:Addr)(m c:Nat)(news:List Value)(hx:a.eval x=.slice (some ad) m c)(hn:news.length=m*size)(hc:∀j u,news[j]?=some u->w.cell? (ad.add j)=some u)(h1c:∀u∈news,u.oneCell'=true)(hm:0<m)(b1:n+m<=maxLen)(b2:(n+m)*bytes<=140737488355328)(hb:base<=w.heap.size)(hK:∀v' w',w'.ownsRow base e size v' (n+m) (xs++news)->w.grownBy w' v.ownBlock->(v'.ownBlock=v.ownBlock\/v'.ownBlock=some w.heap.size)->K (a.put o.dst v') w'):
  if Region.wanted o (yielded ops a.tmps)=true then Oper.wp P o a w K Q else E:=by
 have hw:Region.wanted o (yielded ops a.tmps)=true:=by simp[Region.wanted,hg]
 rw[if_pos hw];obtain⟨v',w',hrun,r1,r2,_⟩:=run_append_own (P:=P) w base t o.type e i z size bytes h1 h2 h3 h4 h5 h6 h7 v n xs hown ad m c news hn hc h1c b1 b2 hb;have r3:=BQ (ty:=o.type) h1 h2 h3 h4 h5 hown hn hc h1c hm b1 b2 hrun;unfold Oper.wp;simp[execOp,hop,resolve,invoke,builtin,hs,hx,hrun,Result.andThen];exact hK v' w' r1 r2 r3
theorem VP(w:World)(r:Rec)(t:TypeId)(n:Nat)(hn:w.heap.size=n):∀j u,r.cells[j]?=some u->(w.alloc (.cells #[sT r.key,iT r.stamp,iT r.kind,sT r.body] t)).cell? (((aD n 0):Addr).add j)=some u:=by
 subst hn;exact Fy w r t
theorem DZ.cells(h:DZ w tg ow B d ol EG nw)(q:Q w W)(hv:∀g,v.ownBlock=some g->tg g=(ow,3))(hg:W.grownBy w' v.ownBlock):∀j,w'.cell? (aD B j)=w.cell? (aD B j)/\w'.frozen? (aD B j)=false:=fun j=>by
 have hB:w'.heap[B]?=w.heap[B]?:=by
  rw[hg.block B (zLJ h.top q.below.size) (fun e=>by have:=hv B e.symm;rw[h.tb]at this;simp at this)];exact q.below.block B h.top
 exact⟨zMI (a:=(aD B j)) hB,(zML (a:=(aD B j)) hB).trans (h.fr j)⟩
theorem DZ.pushed(h:DZ w tg ow B d ol EG nw)(q:Q w W){Dj:Option Addr}{cap:Nat}(ha:w.ownsRow 0 119 4 (.slice ao ol.length cap) ol.length (AY ol))(hv:∀g,(Value.slice ao ol.length cap).ownBlock=some g->tg g=(ow,3))(hg:W.grownBy w' (Value.slice ao ol.length cap).ownBlock)(ho:w'.ownsRow 0 119 4 (.slice Dj (ol.length+1) cap') (ol.length+1) (AY ol++r.cells))(hw:(Value.slice Dj (ol.length+1) cap').ownBlock=(Value.slice ao ol.length cap).ownBlock\/(Value.slice Dj (ol.length+1) cap').ownBlock=some W.heap.size):
  ∃AU,(∀k,k<w.heap.size->AU k=tg k)/\DZ ((w'.setCell (aD B 1) (.slice Dj (ol.length+1) cap')).setCell (aD B 2) (iT (Bt (ol++[r]):Nat))) AU ow B d (ol++[r]) EG nw/\Only ow tg w ((w'.setCell (aD B 1) (.slice Dj (ol.length+1) cap')).setCell (aD B 2) (iT (Bt (ol++[r]):Nat))):=by
 have hc:=h.cells q hv hg;have xK:=q.below.size;have hsg:=hg.size;have Zd:∀g,(Value.slice Dj (ol.length+1) cap').ownBlock=some g->g≠B:=fun g hgb e=>by
  rcases hw with e2|e2
  .rw[e2]at hgb;have:=hv g hgb;rw[e,h.tb]at this;simp at this
  .rw[e2]at hgb;injection hgb with hgb;have:=h.top;omega
 have hother:∀k,k<w.heap.size->k≠B->tg k≠(ow,3)->((w'.setCell (aD B 1) (.slice Dj (ol.length+1) cap')).setCell (aD B 2) (iT (Bt (ol++[r]):Nat))).heap[k]?=w.heap[k]?:=fun k hk hn1 hn2=>by
  rw[heap_setCell_other _ (aD B 2) k _ (by simpa using hn1),heap_setCell_other _ (aD B 1) k _ (by simpa using hn1),hg.block k (by omega) (fun e=>hn2 (hv k e.symm))];exact q.below.block k hk
 have hne:∀i j,i≠j->((aD B i):Addr)≠(aD B j):=fun i j hij e=>by injection e with _ e2;exact hij e2
 refine⟨tg.more w.heap.size ow 3,fun k hk=>Tags.AQ hk,h.ni (by simp;omega) (fun k hk=>Tags.AQ hk) hother ?_ ?_ ⟨Dj,cap',?_,?_,?_⟩ ?_,?_⟩
 .intro j h1 h2;rw[zMH _ _ _ _ (by intro e;injection e with _ e2;omega),zMH _ _ _ _ (by intro e;injection e with _ e2;omega)];exact(hc j).1
 .intro j;rw[zMK,zMK];exact(hc j).2
 .obtain⟨ao0,cap0,x1,_,_⟩:=h.c1;have hlen:(ol++[r]).length=ol.length+1:=by simp
  rw[hlen,zMH _ _ _ _ (hne _ _ (by omega))];exact zMJ _ _ _ ((hc 1).1.trans x1)
 .have hlen:(ol++[r]).length=ol.length+1:=by simp
  rw[hlen,CV,D7];refine Ai ho (fun g hgb=>?_);rw[heap_setCell_other _ (aD B 2) g _ (by simpa using Zd g hgb),heap_setCell_other _ (aD B 1) g _ (by simpa using Zd g hgb)]
 .intro g hgb;have hlen:(ol++[r]).length=ol.length+1:=by simp
  rw[hlen]at hgb;rcases hw with e2|e2
  .rw[e2]at hgb;rw[Tags.AQ (ha.lt g hgb).2];exact hv g hgb
  .rw[e2]at hgb;injection hgb with hgb;exact Tags.Ay (by omega)
 .have x2:=(hc 2).1.trans h.c2;refine zMJ _ _ _ ((zMH _ _ _ _ (hne _ _ (by omega))).trans x2)
 .refine⟨hg.os.trans q.below.os,hg.tape.trans q.below.tape,hg.output.trans q.below.output,by simp;omega,fun k hk hn=>hother k hk (fun e=>hn (by rw[e,h.tb])) (fun e=>hn (by rw[e]))⟩
theorem TW(ol:List Rec)(r:Rec):Bt (ol++[r])=Bt ol+(r.key.size+r.body.size):=by simp[Bt]
theorem Sn(h:DZ w tg ow B d ol EG nw)(r:Rec)(hl:ol.length<=64)(hz:Bt ol<=1048576)(hrs:r.key.size+r.body.size<=1048576):
  Calls Tryz.prog 139 #[pT B,r.val] w fun e w'=>e=.returned (.tuple #[])/\∃AU,(∀k,k<w.heap.size->AU k=tg k)/\DZ w' AU ow B d (ol++[r]) EG nw/\Only ow tg w w':=by
 obtain⟨i0,hi,hz0,hz1,hz2⟩:=info_parts dI;obtain⟨ao,cap,a1,a2,a3⟩:=h.c1;have c2:=h.c2;have htop:=h.top;have htb:=h.tb;have hfr:=h.fr;obtain⟨z,hze⟩:=xe (Bt ol);rw[hze]at c2 hz;have hq1:Q w (w.alloc (.cells #[sT r.key,iT r.stamp,iT r.kind,sT r.body] 119)):=(Q.refl w).alloc _ _;have hq2:Q w ((w.alloc (.cells #[sT r.key,iT r.stamp,iT r.kind,sT r.body] 119)).alloc (.cells #[sT r.key,iT r.stamp,iT r.kind,sT r.body] 119)):=hq1.alloc _ _;have k1:=AA a1 hq1;have hown2:=own_below a2 hq2.below;have HA:Hid _:=h;unfold Rec.val;go_in;go_upto_region 1 with fail
 have hown1:=own_below a2 hq1.below
 go_region_law (refine Lb rfl (.tmp 8) (.tmp 10) 115 rfl 0 119 i0 (.agg #[eS,iT 0,iT 0,eS]) 4 48 Tryz.underlying115 hi hz0 hz1 hz2 rfl (by decide) (.slice ao ol.length cap) ol.length (AY ol) (by simp[Act.eval]) (by exact hown1.alloc _) (aD (w.heap.size+1) 0) 1 1 r.cells (by simp[Act.eval]) rfl (by exact VP _ _ _ _ (by simp)) (EI _) (by decide) (by unfold maxLen;omega) (by omega) (by simp) ?_;intro v' w' hown' hgrow Gy;obtain⟨Er,Bn,hv3⟩:=Ac hown';subst hv3;have qq:Q w ((w.alloc (.cells #[sT r.key,iT r.stamp,iT r.kind,sT r.body] 119)).drew.alloc (.cells #[sT r.key,iT r.stamp,iT r.kind,sT r.body] 119)):=(hq1.drew).alloc _ _;have kc:=HA.out.cells qq a3 hgrow;have kc1:=(kc 1).1.trans a1;have kf1:=(kc 1).2;have kc2:=(kc 2).1.trans c2;have kf2:=(kc 2).2)
 all_goals
  have hrow:(Value.slice ao ol.length cap).ownBlock≠some w.heap.size:=fun e=>by have:=(a2.lt _ e).2;omega
  have rb:w'.heap[w.heap.size]?=some (.cells #[sT r.key,iT r.stamp,iT r.kind,sT r.body] 119 (0,0)):=by
   rw[hgrow.block w.heap.size (by simp;omega) (fun e=>hrow e.symm)];exact(((Q.refl _).drew).alloc _ _).below.block w.heap.size (by simp) |>.trans (heap_alloc_new w _)
  have rb2:(w'.setCell (aD B 1) (.slice Er (ol.length+1) Bn)).heap[w.heap.size]?=some (.cells #[sT r.key,iT r.stamp,iT r.kind,sT r.body] 119 (0,0)):=(heap_setCell_other _ (aD B 1) w.heap.size _ (by simp;omega)).trans rb;have z0:(w'.setCell (aD B 1) (.slice Er (ol.length+1) Bn)).cell? (aD w.heap.size 0)=some (sT r.key):=by simp[World.cell?,rb2]
  have z3:(w'.setCell (aD B 1) (.slice Er (ol.length+1) Bn)).cell? (aD w.heap.size 3)=some (sT r.body):=by simp[World.cell?,rb2]
  have z2:(w'.setCell (aD B 1) (.slice Er (ol.length+1) Bn)).cell? (aD B 2)=some (iT (z:Int)):=(zMH _ _ _ _ (by intro e;injection e with _ e2;omega)).trans kc2;have f2:(w'.setCell (aD B 1) (.slice Er (ol.length+1) Bn)).frozen? (aD B 2)=false:=by rw[zMK];exact kf2
  have hw1:IntKind.i64.wrap ((r.key.size:Int)+(r.body.size:Int))=(r.key.size:Int)+(r.body.size:Int):=by rw[IntKind.wrap_i64];omega
  have hw2:IntKind.i64.wrap ((z:Int)+((r.key.size:Int)+(r.body.size:Int)))=(z:Int)+((r.key.size:Int)+(r.body.size:Int)):=by rw[IntKind.wrap_i64];omega
  have HP:Hid _:=HA.out.pushed qq a2 a3 hgrow hown' Gy;rw[TW,hze]at HP;go_wp2_with fail
  go_region
  all_goals go_wp2_with fail
  all_goals go_end0
  obtain⟨AU,h1,h2,h3⟩:=HP.out;have e3:((z+(r.key.size+r.body.size):Nat):Int)=(z:Int)+((r.key.size:Int)+(r.body.size:Int)):=by omega
  rw[e3]at h2 h3;exact⟨rfl,AU,h1,h2.kept ((Q.refl _).drew),h3.trans (Only.Be ((Q.refl _).drew))⟩
structure Both(w:World)(tg:Tags)(o od s d:Nat)(X:S.Sto)(D:M.Dsk)(ids ps Al ps':List Nat):Prop where
 XH:Ag w tg o s d X ids ps
 disk:AJ w tg od d D Al ps'
 fine:D.BS
 ne:o≠od
theorem Ag.only(h:Ag w tg o s d X ids ps)(hne:o≠od)(ht:∀k,k<w.heap.size->AU k=tg k)(ho:Only od tg w w'):Ag w' AU o s d X ids ps:=
 h.keep ho.size ht (fun k hk e=>ho.block k hk (by rw[e];exact hne))
theorem AJ.only(h:AJ w tg od d D ids ps)(hne:o≠od)(ht:∀k,k<w.heap.size->AU k=tg k)(ho:Only o tg w w'):AJ w' AU od d D ids ps:=
 h.keep ho.size (fun k hk=>ht k hk) (fun k hk e=>ho.block k hk (by rw[e];exact hne.symm))
theorem dX{Al ps':List Nat}(h:Both w tg o od s d X D ids ps Al ps')(e0:Int):
  Calls Tryz.prog 108 #[pT s,iT e0] w fun e w'=>∃e1:Int,e1=(if S.A8 (D.remove A9).2=10 then 10 else e0)/\e=.returned (iT e1)/\∃AU dJ zK,Both w' AU o od s d (if e1=10 then{ X with dead:=true }else X) (D.remove A9).1 ids ps dJ zK/\Kept (fun x=>x=o\/x=od) tg w AU w':=by
 have c0:=h.XH.c0;have TD:=hU (Y5 tg od d D Al ps' h.fine w h.disk);have hF:=h.fine.remove A9;have MT:Hid _:=fun(W:World)(AR:Tags)(e1:Int)(hW:Ag W AR o s d X ids ps)=>pO hW e1;obtain⟨⟨E,c⟩,hx⟩:=ex ((⟨(D.remove A9).1,S.A8 (D.remove A9).2⟩:M.Dsk×Nat));have hx1:(D.remove A9).1=E:=(congrArg Prod.fst hx).symm;have hx2:S.A8 (D.remove A9).2=c:=(congrArg Prod.snd hx).symm;rw[hx1]at hF TD⊢;rw[hx2]at TD⊢;have HH:Hid _:=h;by_cases hc:c=10
 .subst hc;rw[if_pos rfl];go_in;go_wp2_with fail;apply(TD.out ()).mono;rintro e w1⟨rfl,AR,Mx,ZL,ht1,hL1,ho1⟩;have hS1:=HH.out.XH.only HH.out.ne ht1 ho1;have MT2:=hU (MT.out w1 AR 10 hS1);have HG:Hid _:=And.intro ht1 (And.intro hL1 (And.intro ho1 hS1));go_wp2_with fail;apply(MT2.out ()).mono;rintro e w2⟨rfl,hS2,ho2,hsz2⟩;obtain⟨ht1,hL1,ho1,hS1⟩:=HG.out;have HE:Hid _:=And.intro hS2 ho2;go_wp2;go_ret;obtain⟨hS2,ho2⟩:=HE.out;refine⟨10,rfl,rfl,AR,Mx,ZL,⟨by simpa using hS2,hL1.only HH.out.ne (fun _ _=>rfl) ho2,hF,HH.out.ne⟩,(Kept.DI ho1 ht1 (Or.inr rfl)).trans (Kept.DI ho2 (fun _ _=>rfl) (Or.inl rfl))⟩
 .rw[if_neg hc];have hcI:¬(c:Int)=10:=by omega
  have hcb:((c:Int)==10)=false:=by rw[zM9];exact hcI
  go_in;go_wp2_with fail;apply(TD.out ()).mono;rintro e w1⟨rfl,AR,Mx,ZL,ht1,hL1,ho1⟩;have hS1:=HH.out.XH.only HH.out.ne ht1 ho1;have MT2:=hU (MT.out w1 AR e0 hS1);have HG:Hid _:=And.intro ht1 (And.intro hL1 (And.intro ho1 hS1));go_wp2_with fail;apply(MT2.out ()).mono;rintro e w2⟨rfl,hS2,ho2,hsz2⟩;obtain⟨ht1,hL1,ho1,hS1⟩:=HG.out;have HE:Hid _:=And.intro hS2 ho2;go_wp2;go_ret;obtain⟨hS2,ho2⟩:=HE.out;exact⟨e0,rfl,rfl,AR,Mx,ZL,⟨hS2,hL1.only HH.out.ne (fun _ _=>rfl) ho2,hF,HH.out.ne⟩,(Kept.DI ho1 ht1 (Or.inr rfl)).trans (Kept.DI ho2 (fun _ _=>rfl) (Or.inl rfl))⟩
theorem eD(wm:Int)(hw:-1<=wm)(hw2:wm<=1099511627776)(P:List BA)(ao:Option Addr)(cap:Nat)(w:World)(hS:Strs w ao P)(hT:Tab w)(hP:(M.cat P).length<=100000000)(hPl:P.length<=100000000):
  Calls Tryz.prog 142 #[iT wm,.slice ao P.length cap] w fun e w'=>e=.returned (sT ⟨(S.Eh (M.enc 7 (wm+1).toNat++M.cat P)).toArray⟩)/\Q w w':=by
 have hw1:IntKind.i64.wrap (wm+1)=wm+1:=by rw[IntKind.wrap_i64];omega
 have hel:=EP 7 (wm+1).toNat;obtain⟨A,hA⟩:=ex (M.enc 7 (wm+1).toNat);obtain⟨C,hC⟩:=ex (M.cat P);obtain⟨SL,hSL⟩:=ex (M.sealed (A++C));have zEz:SL.length=A.length+C.length+4:=by rw[hSL,M.Ar];simp
 obtain⟨F,hF⟩:=ex (M.enc 7 (2097152+SL.length));have hFl:=EP 7 (2097152+SL.length);rw[<-hF]at hFl;rw[<-hA]at hel;rw[<-hC]at hP;have hend:S.Eh (M.enc 7 (wm+1).toNat++M.cat P)=SL++M.sealed F:=by unfold S.Eh;rw[<-hA,<-hC,<-hSL,<-hF]
 rw[hend];have NU:Hid _:=fun(W:World)=>GR (wm+1) (by omega) W;have JO:Hid _:=fun(W:World)(q:Q w W)=>L6 P ao cap W (hS.kept q.below) (by rw[<-hC];omega) (by omega);have J1:Hid _:=fun(W:World)=>Ti ⟨A.toArray⟩ ⟨C.toArray⟩ 2 W 9 (by simp[ByteArray.size];omega) (by simp[ByteArray.size];omega);have S1:Hid _:=fun(W:World)(q:Q w W)=>JU ⟨(A++C).toArray⟩ (by simp[ByteArray.size];omega) W (CJ hT q);have N2:Hid _:=fun(W:World)=>GR ((2097152:Int)+(SL.length:Int)) (by omega) W;have S2:Hid _:=fun(W:World)(q:Q w W)=>JU ⟨F.toArray⟩ (by simp[ByteArray.size];omega) W (CJ hT q);have J2:Hid _:=fun(W:World)=>Ti ⟨SL.toArray⟩ ⟨(M.sealed F).toArray⟩ 2 W 9 (by simp[ByteArray.size];omega) (by simp[ByteArray.size,M.Ar];omega);rw[<-hA]at NU;rw[<-hC]at JO;simp only at J1 J2 S1 S2;rw[<-hSL]at S1;have hN2:((2097152:Int)+(SL.length:Int)).toNat=2097152+SL.length:=by omega
 rw[hN2,<-hF]at N2;have hw3:IntKind.i64.wrap ((2097152:Int)+(SL.length:Int))=(2097152:Int)+(SL.length:Int):=by rw[IntKind.wrap_i64];omega
 have hsz:(⟨SL.toArray⟩:BA).size=SL.length:=by simp[ByteArray.size]
 clear hN2 hend hF hSL hA hC hS hT hP hel hFl zEz;go_in;go_wp2_with fail;apply(NU.out _).mono;rintro e w1⟨rfl,q1⟩;have JO2:=hU (JO.out w1 q1);clear NU JO;go_wp2_with fail;apply(JO2.out ()).mono;rintro e w2⟨rfl,q2⟩;have q02:=q1.trans q2;clear JO2 q1 q2;go_wp2_with fail;apply(J1.out _).mono;rintro e w3⟨rfl,q3⟩;have bM:=(q02.alloc _ _).trans q3;have S12:=hU (S1.out w3 bM);clear J1 S1 q02 q3;go_wp2_with fail;apply(S12.out ()).mono;rintro e w4⟨rfl,b4⟩;have zJ:=bM.trans ⟨b4⟩;clear S12 bM b4;go_wp2_with fail;apply(N2.out _).mono;rintro e w5⟨rfl,q5⟩;have q05:=zJ.trans q5;have S22:=hU (S2.out w5 q05);clear N2 S2 zJ q5;go_wp2_with fail;apply(S22.out ()).mono;rintro e w6⟨rfl,b6⟩;have q06:=q05.trans ⟨b6⟩;clear S22 q05 b6;go_wp2_with fail;apply(J2.out _).mono;rintro e w7⟨rfl,q7⟩;have q07:=(q06.alloc _ _).trans q7;clear J2 q06 q7;go_wp2;go_ret;exact⟨rfl,q07⟩
theorem UG(h:DZ w tg ow B d [] EG nw):
  Calls Tryz.prog 137 #[pT B] w fun e w'=>e=.returned (iT 0)/\Q w w':=by
 obtain⟨ao,cap,a1,_,_⟩:=h.c1;simp only[zLW]at a1;clear h;go_in;go_wp2;go_ret;exact⟨rfl,Q.refl w⟩
theorem Ag.Mc(h:Ag w tg o s d X ids ps)(hn:Fe tg o s 4 1 3 (nw.map (·.1)) (BO (nw.map (·.2))) w w'):∃AU,(∀k,k<w.heap.size->AU k=tg k)/\Ag w' AU o s d { X with newest:=nw } ids ps/\Only o tg w w':=by
 obtain⟨AU,ht,hM,hK⟩:=hn;have hne:∀g u,tg g=(o,u+1)->g≠s:=fun g u e e2=>by rw[e2,h.ts]at e;simp at e
 refine⟨AU,ht,⟨hM.top,(ht s h.top).trans h.ts,fun j=>(hK.fr j).trans (h.fr j),(hK.cell 0 (by omega) (by omega)).trans h.c0,(hK.cell 1 (by omega) (by omega)).trans h.c1,(hK.cell 2 (by omega) (by omega)).trans h.c2,(hK.cell 3 (by omega) (by omega)).trans h.c3,hM,?_,h.nodup,h.F9,?_⟩,?_⟩
 .refine h.pd.keep hK.size (fun k hk _=>ht k hk) (hK.cell 6 (by omega) (by omega)) (hK.cell 7 (by omega) (by omega)) (fun k hk e=>?_);rcases e with e|e
  .exact hK.block k hk (hne k 2 e) (fun e2=>by rw[e]at e2;simp at e2) (fun e2=>by rw[e]at e2;simp at e2)
  .exact hK.block k hk (hne k 3 e) (fun e2=>by rw[e]at e2;simp at e2) (fun e2=>by rw[e]at e2;simp at e2)
 .intro i p id kr h1 h2 h3;obtain⟨g1,g2,g3⟩:=h.inner i p id kr h1 h2 h3;have hoth:∀k u,5<=u->k<w.heap.size->tg k=(o,u)->w'.heap[k]?=w.heap[k]?:=fun k u hu hk e=>hK.block k hk (fun e2=>by rw[e2,h.ts]at e;simp at e;omega) (fun e2=>by rw[e]at e2;simp at e2;omega) (fun e2=>by rw[e]at e2;simp at e2;omega);have hp:=hoth p _ (by omega) g1.top g2;exact⟨g1.keep hK.size (fun k hk _=>ht k hk) hp (fun k hk e=>by rcases e with e|e<;>exact hoth k _ (by omega) hk e),(ht p g1.top).trans g2,fun j=>(zML (a:=(aD p j)) hp).trans (g3 j)⟩
 .exact⟨hK.os,hK.tape,hK.output,hK.size,fun k hk hn=>hK.block k hk (fun e=>hn (by rw[e,h.ts])) (fun e=>hn (by rw[e])) (fun e=>hn (by rw[e]))⟩
theorem DZ.Mc{nw':List (BA×Int)}(h:DZ w tg ow B d ol EG nw)(hn:Fe tg ow B 4 1 3 (nw'.map (·.1)) (BO (nw'.map (·.2))) w w'):∃AU,(∀k,k<w.heap.size->AU k=tg k)/\DZ w' AU ow B d ol EG nw'/\Only ow tg w w':=by
 obtain⟨AU,ht,hM,hK⟩:=hn;obtain⟨ao,cap,a1,a2,a3⟩:=h.c1;obtain⟨bo,KM,b1,b2,b3⟩:=h.c3;have hoth:∀k u,3<=u->k<w.heap.size->tg k=(ow,u)->w'.heap[k]?=w.heap[k]?:=fun k u hu hk e=>hK.block k hk (fun e2=>by rw[e2,h.tb]at e;simp at e;omega) (fun e2=>by rw[e]at e2;simp at e2;omega) (fun e2=>by rw[e]at e2;simp at e2;omega);refine⟨AU,ht,⟨hM.top,(ht B h.top).trans h.tb,fun j=>(hK.fr j).trans (h.fr j),(hK.cell 0 (by omega) (by omega)).trans h.c0,⟨ao,cap,(hK.cell 1 (by omega) (by omega)).trans a1,Ai a2 (fun g hg=>hoth g 3 (by omega) (a2.lt g hg).2 (a3 g hg)),fun g hg=>(ht g (a2.lt g hg).2).trans (a3 g hg)⟩,(hK.cell 2 (by omega) (by omega)).trans h.c2,⟨bo,KM,(hK.cell 3 (by omega) (by omega)).trans b1,Ai b2 (fun g hg=>hoth g 4 (by omega) (b2.lt g hg).2 (b3 g hg)),fun g hg=>(ht g (b2.lt g hg).2).trans (b3 g hg)⟩,hM⟩,?_⟩;exact⟨hK.os,hK.tape,hK.output,hK.size,fun k hk hn=>hK.block k hk (fun e=>hn (by rw[e,h.tb])) (fun e=>hn (by rw[e])) (fun e=>hn (by rw[e]))⟩
theorem DZ.uw(h:DZ w tg ow B d ol EG nw)(q:Q w W)(hv:∀g,v.ownBlock=some g->tg g=(ow,4))(hg:W.grownBy w' v.ownBlock):∀j,w'.cell? (aD B j)=w.cell? (aD B j)/\w'.frozen? (aD B j)=false:=fun j=>by
 have hB:w'.heap[B]?=w.heap[B]?:=by
  rw[hg.block B (zLJ h.top q.below.size) (fun e=>by have:=hv B e.symm;rw[h.tb]at this;simp at this)];exact q.below.block B h.top
 exact⟨zMI (a:=(aD B j)) hB,(zML (a:=(aD B j)) hB).trans (h.fr j)⟩
theorem DZ.indexed(h:DZ w tg ow B d ol EG nw)(q:Q w W){bo gF:Option Addr}{cap:Nat}{ps:List BA}(hp:ps.length=4)(hb:w.ownsRow 0 9 1 (.slice bo EG.length cap) EG.length (AX EG))(hv:∀g,(Value.slice bo EG.length cap).ownBlock=some g->tg g=(ow,4))(hg:W.grownBy w' (Value.slice bo EG.length cap).ownBlock)(ho:w'.ownsRow 0 9 1 (.slice gF (EG.length+4) cap') (EG.length+4) (AX EG++AX ps))(hw:(Value.slice gF (EG.length+4) cap').ownBlock=(Value.slice bo EG.length cap).ownBlock\/(Value.slice gF (EG.length+4) cap').ownBlock=some W.heap.size):
  ∃AU,(∀k,k<w.heap.size->AU k=tg k)/\DZ (((w'.setCell (aD B 3) (.slice gF (EG.length+4) cap')).setCell (aD B 1) nS).setCell (aD B 2) (iT 0)) AU ow B d [] (EG++ps) nw/\Only ow tg w (((w'.setCell (aD B 3) (.slice gF (EG.length+4) cap')).setCell (aD B 1) nS).setCell (aD B 2) (iT 0)):=by
 have hc:=h.uw q hv hg;have xK:=q.below.size;have hsg:=hg.size;have htop:=h.top;have Zd:∀g,(Value.slice gF (EG.length+4) cap').ownBlock=some g->g≠B:=fun g hgb e=>by
  rcases hw with e2|e2
  .rw[e2]at hgb;have:=hv g hgb;rw[e,h.tb]at this;simp at this
  .rw[e2]at hgb;injection hgb with hgb;omega
 have hset:∀k,k≠B->(((w'.setCell (aD B 3) (.slice gF (EG.length+4) cap')).setCell (aD B 1) nS).setCell (aD B 2) (iT 0)).heap[k]?=w'.heap[k]?:=fun k hn=>by
  rw[heap_setCell_other _ (aD B 2) k _ (by simpa using hn),heap_setCell_other _ (aD B 1) k _ (by simpa using hn),heap_setCell_other _ (aD B 3) k _ (by simpa using hn)]
 have hother:∀k,k<w.heap.size->k≠B->tg k≠(ow,4)->(((w'.setCell (aD B 3) (.slice gF (EG.length+4) cap')).setCell (aD B 1) nS).setCell (aD B 2) (iT 0)).heap[k]?=w.heap[k]?:=fun k hk hn1 hn2=>by
  rw[hset k hn1,hg.block k (by omega) (fun e=>hn2 (hv k e.symm))];exact q.below.block k hk
 have hne:∀i j,i≠j->((aD B i):Addr)≠(aD B j):=fun i j hij e=>by injection e with _ e2;exact hij e2
 have zW:∀g u,tg g=(ow,u+1)->g≠B:=fun g u e e2=>by rw[e2,h.tb]at e;simp at e
 have hlen:(EG++ps).length=EG.length+4:=by simp[hp]
 have hcj:∀j,j≠1->j≠2->j≠3->(((w'.setCell (aD B 3) (.slice gF (EG.length+4) cap')).setCell (aD B 1) nS).setCell (aD B 2) (iT 0)).cell? (aD B j)=w.cell? (aD B j):=fun j h1 h2 h3=>by
  rw[zMH _ _ _ _ (hne _ _ (by omega)),zMH _ _ _ _ (hne _ _ (by omega)),zMH _ _ _ _ (hne _ _ (by omega))];exact(hc j).1
 refine⟨tg.more w.heap.size ow 4,fun k hk=>Tags.AQ hk,⟨?_,?_,?_,?_,⟨none,0,?_,World.ownsRow_nil _ _ _ _,fun g hgb=>by simp[Value.ownBlock]at hgb⟩,?_,⟨gF,cap',?_,?_,?_⟩,?_⟩,?_⟩
 .simp;omega
 .rw[Tags.AQ htop];exact h.tb
 .intro j;rw[zMK,zMK,zMK];exact(hc j).2
 .rw[hcj 0 (by omega) (by omega) (by omega)];exact h.c0
 .obtain⟨ao0,cap0,x1,_,_⟩:=h.c1;rw[zMH _ _ _ _ (hne _ _ (by omega))];exact zMJ _ _ _ ((zMH _ _ _ _ (hne _ _ (by omega))).trans ((hc 1).1.trans x1))
 .refine zMJ (u:=iT (Bt ol:Nat)) _ _ _ ?_;rw[zMH _ _ _ _ (hne _ _ (by omega)),zMH _ _ _ _ (hne _ _ (by omega))];exact(hc 2).1.trans h.c2
 .obtain⟨ao0,cap0,x1,_,_⟩:=h.c3;rw[hlen,zMH _ _ _ _ (hne _ _ (by omega)),zMH _ _ _ _ (hne _ _ (by omega))];exact zMJ _ _ _ ((hc 3).1.trans x1)
 .have e1:AX (EG++ps)=AX EG++AX ps:=by simp[AX]
  rw[hlen,e1];exact Ai ho (fun g hgb=>hset g (Zd g hgb))
 .intro g hgb;rw[hlen]at hgb;rcases hw with e2|e2
  .rw[e2]at hgb;rw[Tags.AQ (hb.lt g hgb).2];exact hv g hgb
  .rw[e2]at hgb;injection hgb with hgb;exact Tags.Ay (by omega)
 .refine h.nw.keep (by simp;omega) (fun k hk _=>Tags.AQ hk) (hcj 4 (by omega) (by omega) (by omega)) (hcj 5 (by omega) (by omega) (by omega)) (fun k hk e=>?_);rcases e with e|e
  .exact hother k hk (zW k 0 e) (fun e2=>by rw[e]at e2;simp at e2)
  .exact hother k hk (zW k 1 e) (fun e2=>by rw[e]at e2;simp at e2)
 .refine⟨hg.os.trans q.below.os,hg.tape.trans q.below.tape,hg.output.trans q.below.output,by simp;omega,fun k hk hn=>hother k hk (fun e=>hn (by rw[e,h.tb])) (fun e=>hn (by rw[e]))⟩
theorem R8(w:World)(a b c d:BA)(t:TypeId)(n:Nat)(hn:w.heap.size=n):∀j u,(AX [a,b,c,d])[j]?=some u->(w.alloc (.cells #[sT a,sT b,sT c,sT d] t)).cell? (((aD n 0):Addr).add j)=some u:=by
 subst hn;intro j u hu
 match j with
 |0=>simp[AX]at hu;subst hu;simp[Addr.add]
 |1=>simp[AX]at hu;subst hu;simp[Addr.add]
 |2=>simp[AX]at hu;subst hu;simp[Addr.add]
 |3=>simp[AX]at hu;subst hu;simp[Addr.add]
 |j+4=>simp[AX]at hu
theorem cZ{b:List Rec}{m:Nat}(h:b.length=m+1):b[m]?=some (S.BJ b):=by
 unfold S.BJ;rw[List.getLast?_eq_getElem?,h];simp only[zM7];rw[zLH (by omega)];rfl
theorem DZ.sets(h:DZ w tg ow B d ol EG nw)(hc:∀j,w'.cell? (aD B j)=w.cell? (aD B j)/\w'.frozen? (aD B j)=false)(v u:Value):
  (∃x,(w'.setCell (aD B 3) v).cell? (aD B 1)=some x)/\(w'.setCell (aD B 3) v).frozen? (aD B 1)=false/\(∃x,((w'.setCell (aD B 3) v).setCell (aD B 1) u).cell? (aD B 2)=some x)/\((w'.setCell (aD B 3) v).setCell (aD B 1) u).frozen? (aD B 2)=false:=by
 have hne:∀i j,i≠j->((aD B i):Addr)≠(aD B j):=fun i j hij e=>by injection e with _ e2;exact hij e2
 obtain⟨ao,cap,a1,_,_⟩:=h.c1;refine⟨⟨.slice ao ol.length cap,?_⟩,?_,⟨iT (Bt ol:Nat),?_⟩,?_⟩
 .rw[zMH _ _ _ _ (hne _ _ (by omega))];exact(hc 1).1.trans a1
 .rw[zMK];exact(hc 1).2
 .rw[zMH _ _ _ _ (hne _ _ (by omega)),zMH _ _ _ _ (hne _ _ (by omega))];exact(hc 2).1.trans h.c2
 .rw[zMK,zMK];exact(hc 2).2
theorem UF(h:DZ w tg ow B d ol EG nw)(hL:AJ w tg od d D ids ps)(hF:D.BS)(hne:ow≠od)(hT:Tab w)(hok:S.OkB ol)(hix:EG.length<=4194304):
  Calls Tryz.prog 137 #[pT B] w fun e w'=>e=.returned (iT ((D.append A9 (S.Aj ol)).2:Nat))/\∃AU Al ps',AJ w' AU od d (D.append A9 (S.Aj ol)).1 Al ps'/\DZ w' AU ow B d [] (EG++S.G8 ol) nw/\Kept (fun x=>x=ow\/x=od) tg w AU w':=by
 obtain⟨i0,hi,hz0,hz1,hz2⟩:=info_parts jo;obtain⟨ao,cap,a1,a2,a3⟩:=h.c1;obtain⟨bo,KM,b1,b2,b3⟩:=h.c3;obtain⟨t,ht⟩:=hok.text;obtain⟨m,hm⟩:∃m,ol.length=m+1:=⟨ol.length-1,by have:=List.length_pos_iff.2 hok.some_;omega⟩;have hlast:=cZ hm;obtain⟨b,off,hao,hbw,hR⟩:=(F8 a2).at (k:=m) (by omega);obtain⟨r0,r1,r2,r3⟩:=hR m _ hlast;have hft:=hok.fits _ (S.EC hok.some_);simp only[Rec.fits,zMF]at hft;have BU:=l9 ol ao cap w (F8 a2) (by have:=hok.few;omega) hT;rw[ht]at BU;have hbt:S.Aj ol=M.sealed t:=by unfold S.Aj;rw[ht];rfl
 have hbl:=S.NI hok;have hbs:=S.L8 hok.fits;have Ef:=hok.few;obtain⟨tx,htx⟩:∃tx:BA,tx=⟨(M.sealed t).toArray⟩:=⟨_,rfl⟩;have htz:tx.size=(S.Aj ol).length:=by rw[htx,hbt];simp[ByteArray.size]
 have htd:tx.data.toList=S.Aj ol:=by rw[htx,hbt]
 unfold Oc at BU;simp only at BU;rw[<-htx]at BU;obtain⟨e1,he1⟩:∃e1:BA,e1=⟨(M.enc 7 (S.Aj ol).length).toArray⟩:=⟨_,rfl⟩;obtain⟨e2,he2⟩:∃e2:BA,e2=⟨(M.enc 7 (S.BJ ol).key.size).toArray⟩:=⟨_,rfl⟩;obtain⟨e3,he3⟩:∃e3:BA,e3=⟨(M.enc 7 (S.BJ ol).stamp.toNat).toArray⟩:=⟨_,rfl⟩;have hparts:S.G8 ol=[e1,e2,(S.BJ ol).key,e3]:=by rw[he1,he2,he3];rfl
 have N1:Hid (∀W:World,Calls Tryz.prog 149 #[iT (tx.size:Int)] W fun e w'=>e=.returned (sT e1)/\Q W w'):=fun W=>by
  have:=GR (tx.size:Int) (by omega) W;rw[zLp,htz,<-he1]at this;rw[htz];exact this
 have N2:Hid (∀W:World,Calls Tryz.prog 149 #[iT ((S.BJ ol).key.size:Int)] W fun e w'=>e=.returned (sT e2)/\Q W w'):=fun W=>by
  have:=GR ((S.BJ ol).key.size:Int) (by omega) W;rw[zLp,<-he2]at this;exact this
 have N3:Hid (∀W:World,Calls Tryz.prog 149 #[iT (S.BJ ol).stamp] W fun e w'=>e=.returned (sT e3)/\Q W w'):=fun W=>by
  have:=GR (S.BJ ol).stamp (by omega) W;rw[<-he3]at this;exact this
 have DA:Hid _:=fun(W:World)(AR:Tags)(hW:AJ W AR od d D ids ps)=>NE AR od d D ids ps hF A9 tx W hW;rw[htd]at DA;rw[hparts];have HA:Hid _:=h;have HL:Hid _:=hL;have HB:=hU BU;have c0:=h.c0;obtain⟨⟨key,stamp,kind,body⟩,hlr⟩:=xe (S.BJ ol);rw[hlr]at r0 r1 r2 r3 N2 N3⊢;simp only at r0 r1 r2 r3 N2 N3⊢;subst hao;rw[hm]at a1 HB;have nK:IntKind.i64.wrap (m:Int)=(m:Int):=by rw[IntKind.wrap_i64];omega
 have hml:(m:Int)<(m:Int)+1:=by omega
 clear hparts he1 he2 he3 htz htd htx hbl hbs hbt BU hft hR hlast ht hlr hT hL h hok;go_in;go_wp2_with fail;apply(HB.out ()).mono;rintro e w1⟨rfl,q1⟩;have ka1:=AA a1 q1;have k0:=AA r0 q1;have k1:=AA r1 q1;have k2:=AA r2 q1;have k3:=AA r3 q1;have HQ:Hid (∀W,Q w1 W->W.cell? (aD B 1)=some (.slice (some (aD b off)) (m+1) cap)/\W.cell? (aD b (off+m*4))=some (sT key)/\W.cell? (aD b (off+m*4+1))=some (iT stamp)/\W.cell? (aD b (off+m*4+2))=some (iT kind)/\W.cell? (aD b (off+m*4+3))=some (sT body)):=fun W q=>⟨AA ka1 q,AA k0 q,AA k1 q,AA k2 q,AA k3 q⟩;clear HB r0 r1 r2 r3 a1 ka1 k0 k1 k2 k3;go_upto_region 6 with fail
 go_region_held3 (fun W=>W.cell? (aD B 1)=some (.slice (some (aD b off)) (m+1) cap)/\W.cell? (aD b (off+m*4))=some (sT key)/\W.cell? (aD b (off+m*4+1))=some (iT stamp)/\W.cell? (aD b (off+m*4+2))=some (iT kind)/\W.cell? (aD b (off+m*4+3))=some (sT body))
  (first|exact HQ.out _ ((Q.refl _).drew)|exact HQ.out _ (((Q.refl _).drew).alloc _ _)|exact HQ.out _ (((Q.refl _).alloc _ _).drew)) (fail)
 obtain⟨w2,hw2⟩:=ex ((w1.alloc (.cells #[sT key,iT stamp,iT kind,sT body] 119)).drew);have hv:=(AZ w1 [sT key,iT stamp,iT kind,sT body] 119).kept ((Q.refl _).drew);have q2:Q w w2:=by rw[hw2];exact(q1.alloc _ _).drew
 rw[<-hw2]at hv;have hvd:=hv.kept ((Q.refl _).drew);have l0:=hvd.cell 0 rfl;have l1:=hvd.cell 1 rfl;have qW:=q2.drew;have kB:=AA b1 qW;have hsL:w.heap.size<=w1.heap.size:=q1.below.size;clear HQ hvd hv q1;go_upto_region 7 with fail
 rw[<-hw2];clear hw2;refine wp_region_held_drew (S:=fun w'=>w'.cell? (aD w1.heap.size 0)=some (sT key)/\w'.cell? (aD w1.heap.size 1)=some (iT stamp)) (by kernel_rfl) ⟨l0,l1⟩ (fun hHeld=>?_);refine q4 0 ?_;refine q4 1 ?_;refine q4 2 ?_;refine q4 3 ?_;refine q4 5 ?_;refine q4 6 ?_;refine q4 8 ?_;refine q4 9 ?_;refine q4 10 ?_;refine q4 12 ?_;refine q4 13 ?_;refine q4 14 ?_;refine q4 15 ?_;refine wpAnyH_ready (rs:=[4,7]) (by kernel_rfl) (by simp) ?_;refine AllReadyH.cons rfl (fun K hK=>?_) (AllReadyH.cons rfl (fun K hK=>?_) AllReadyH.nil);rotate_left;go_simp;apply(N1.out _).mono;rintro e v⟨rfl,qv⟩
 focus try go_wp2_with fail
 refine hK.out _ _ ⟨AA hHeld.1 qv,AA hHeld.2 qv⟩ (fun AO=>?_);clear hK K hHeld;have hHeld:=AO;clear AO;replace kB:=AA kB qv;replace qW:=qW.trans qv
 try simp only[Act.put,nrm]
 refine wpAnyH_ready (rs:=[4,11]) (by kernel_rfl) (by simp) ?_;refine AllReadyH.cons rfl (fun K hK=>?_) (AllReadyH.cons rfl (fun K hK=>?_) AllReadyH.nil);rotate_left;go_simp;apply(N2.out _).mono;rintro e v⟨rfl,qv⟩
 focus try go_wp2_with fail
 refine hK.out _ _ ⟨AA hHeld.1 qv,AA hHeld.2 qv⟩ (fun AO=>?_);clear hK K hHeld;have hHeld:=AO;clear AO;replace kB:=AA kB qv;replace qW:=qW.trans qv
 try simp only[Act.put,nrm]
 refine wpAnyH_ready (rs:=[4,16]) (by kernel_rfl) (by simp) ?_;refine AllReadyH.cons rfl (fun K hK=>?_) (AllReadyH.cons rfl (fun K hK=>?_) AllReadyH.nil);rotate_left;go_simp;apply(N3.out _).mono;rintro e v⟨rfl,qv⟩
 focus try go_wp2_with fail
 refine hK.out _ _ ⟨AA hHeld.1 qv,AA hHeld.2 qv⟩ (fun AO=>?_);clear hK K hHeld;have hHeld:=AO;clear AO;replace kB:=AA kB qv;replace qW:=qW.trans qv
 try simp only[Act.put,nrm]
 refine wpAnyH_ready (rs:=[4,17]) (by kernel_rfl) (by simp) ?_;refine AllReadyH.cons rfl (fun K hK=>?_) (AllReadyH.cons rfl (fun K hK=>?_) AllReadyH.nil);rotate_left;go_simp;refine hK.out _ _ ⟨AA hHeld.1 ((Q.refl v).alloc #[sT e1,sT e2,sT key,sT e3] 9),AA hHeld.2 ((Q.refl v).alloc #[sT e1,sT e2,sT key,sT e3] 9)⟩ (fun AO=>?_);clear hK K hHeld;have hHeld:=AO;clear AO;replace kB:=AA kB ((Q.refl v).alloc #[sT e1,sT e2,sT key,sT e3] 9);replace qW:=qW.trans ((Q.refl v).alloc #[sT e1,sT e2,sT key,sT e3] 9)
 try simp only[Act.put,nrm]
 obtain⟨bb,hbb⟩:=ex (v.alloc (.cells #[sT e1,sT e2,sT key,sT e3] 9));have hN:bb.heap.size=v.heap.size+1:=by rw[hbb];simp
 have hcl:∀j u,(AX [e1,e2,key,e3])[j]?=some u->bb.cell? (((aD v.heap.size 0):Addr).add j)=some u:=by rw[hbb];exact R8 _ _ _ _ _ _ _ rfl
 rw[<-hbb]at hHeld kB qW⊢;clear hbb;refine rd1 4 (fun K hK=>?_)
 all_goals
  go_simp;refine hK.out _ _ hHeld (fun _=>?_);clear hK K
  try simp only[Act.put,nrm]
 all_goals try(
  refine rdg 7 (fun K hK=>?_);go_simp;apply(N1.out _).mono;rintro e v⟨rfl,qv⟩
  try go_wp2_with fail
  refine hK.out _ _ ⟨AA hHeld.1 qv,AA hHeld.2 qv⟩ (fun AO=>?_);clear hK K hHeld;have hHeld:=AO;clear AO;replace kB:=AA kB qv;replace qW:=qW.trans qv
  try simp only[Act.put,nrm])
 all_goals try(
  refine rdg 11 (fun K hK=>?_);go_simp;apply(N2.out _).mono;rintro e v⟨rfl,qv⟩
  try go_wp2_with fail
  refine hK.out _ _ ⟨AA hHeld.1 qv,AA hHeld.2 qv⟩ (fun AO=>?_);clear hK K hHeld;have hHeld:=AO;clear AO;replace kB:=AA kB qv;replace qW:=qW.trans qv
  try simp only[Act.put,nrm])
 all_goals try(
  refine rdg 16 (fun K hK=>?_);go_simp;apply(N3.out _).mono;rintro e v⟨rfl,qv⟩
  try go_wp2_with fail
  refine hK.out _ _ ⟨AA hHeld.1 qv,AA hHeld.2 qv⟩ (fun AO=>?_);clear hK K hHeld;have hHeld:=AO;clear AO;replace kB:=AA kB qv;replace qW:=qW.trans qv
  try simp only[Act.put,nrm])
 all_goals try(
  refine rdg 17 (fun K hK=>?_);go_simp;refine hK.out _ _ ⟨AA hHeld.1 ((Q.refl v).alloc #[sT e1,sT e2,sT key,sT e3] 9),AA hHeld.2 ((Q.refl v).alloc #[sT e1,sT e2,sT key,sT e3] 9)⟩ (fun AO=>?_);clear hK K hHeld;have hHeld:=AO;clear AO;replace kB:=AA kB ((Q.refl v).alloc #[sT e1,sT e2,sT key,sT e3] 9);replace qW:=qW.trans ((Q.refl v).alloc #[sT e1,sT e2,sT key,sT e3] 9)
  try simp only[Act.put,nrm]
  obtain⟨bb,hbb⟩:=ex (v.alloc (.cells #[sT e1,sT e2,sT key,sT e3] 9));have hN:bb.heap.size=v.heap.size+1:=by rw[hbb];simp
  have hcl:∀j u,(AX [e1,e2,key,e3])[j]?=some u->bb.cell? (((aD v.heap.size 0):Addr).add j)=some u:=by rw[hbb];exact R8 _ _ _ _ _ _ _ rfl
  rw[<-hbb]at hHeld kB qW⊢;clear hbb)
 all_goals
  refine rd1 18 (fun K hK=>?_);refine Lb rfl (.tmp 38) (.tmp 51) 53 rfl 0 9 i0 eS 1 16 Tryz.underlying53 hi hz0 hz1 hz2 rfl (by decide) (.slice bo EG.length KM) EG.length (AX EG) (by simp[Act.eval]) (own_below b2 qW.below) (aD v.heap.size 0) 4 4 (AX [e1,e2,key,e3]) (by simp[Act.eval]) rfl hcl (FQ _) (by decide) (by unfold maxLen;omega) (by omega) (zLS _) ?_;intro v' w' hown' hgrow Gy;obtain⟨Er,Bn,hv3⟩:=Ac hown';subst hv3;have kc:=HA.out.uw qW b3 hgrow;have kc3:=(kc 3).1.trans b1;have kf3:=(kc 3).2;obtain⟨⟨x1,y1⟩,f1,⟨x2,y2⟩,f2⟩:=HA.out.sets kc (.slice Er (EG.length+4) Bn) nS;have HP:Hid _:=HA.out.indexed qW rfl b2 b3 hgrow hown' Gy;have hLb:w'.heap[w1.heap.size]?=bb.heap[w1.heap.size]?:=hgrow.block _ (zLJ (Ei hHeld.1) (zLK _)) (fun e=>by have:=(b2.lt _ e.symm).2;omega);have hS1:w'.cell? (aD w1.heap.size 0)=some (sT key)/\w'.cell? (aD w1.heap.size 1)=some (iT stamp):=⟨(zMI (a:=(aD w1.heap.size 0)) hLb).trans hHeld.1,(zMI (a:=(aD w1.heap.size 1)) hLb).trans hHeld.2⟩;have hBl:B≠w1.heap.size:=fun e=>by have:=HA.out.top;omega
  refine hK.out _ _ hS1 (fun _=>?_);clear hK K hHeld;have hHeld:=hS1
  try simp only[Act.put,nrm]
  refine q4 19 ?_;refine q4 20 ?_;refine rd1 21 (fun K hK=>?_);go_simp;refine hK.out _ _ ⟨(zMH _ _ _ _ (by intro e;injection e with e1;omega)).trans hS1.1,(zMH _ _ _ _ (by intro e;injection e with e1;omega)).trans hS1.2⟩ (fun _=>?_);clear hK K;refine wpAnyH_done (by kernel_rfl) ?_ _;clear hHeld hS1 hLb kc kc3 kf3 hgrow hown' Gy hcl;obtain⟨Co,ht3,hW3,ho3⟩:=HP.out;have x0:=hW3.c0;have DA2:=hU (DA.out _ Co (HL.out.only hne ht3 ho3));have HE:Hid _:=And.intro ht3 (And.intro hW3 ho3);clear HP DA ht3 hW3 ho3;go_wp2_with fail;apply(DA2.out ()).mono;rintro e w4⟨rfl,Em,jv,ps4,j5,hL4,kF⟩;obtain⟨ht3,hW3,ho3⟩:=HE.out;have HF4:Hid _:=And.intro j5 (And.intro hL4 kF);clear DA2 j5 hL4 kF ht3 hW3 ho3 x0 y1 y2 f1 f2;go_wp2;go_ret;obtain⟨ht3,hW3,ho3⟩:=HE.out;obtain⟨j5,hL4,kF⟩:=HF4.out;exact⟨rfl,Em,jv,ps4,hL4,hW3.keep kF.size j5 (fun k hk e=>kF.block k hk (by rw[e];exact hne)),(Kept.DI ho3 ht3 (Or.inl rfl)).trans (Kept.DI kF j5 (Or.inr rfl))⟩
structure Wrt(w:World)(tg:Tags)(ow od B d:Nat)(T0 T:S.Two)(bs:List (List Rec))(ol:List Rec)(C:S.Con)(nw:List (BA×Int)):Prop where
 fM:DZ w tg ow B d ol (S.IG bs) nw
 disk:∃ids ps,AJ w tg od d T.dsk ids ps
 fine:T.dsk.BS
 ne:ow≠od
 tab:Tab w
 FP:(tg 0).1≠ow/\(tg 0).1≠od
 m:S.Wri CU bs ol C
 mF:S.Bld T0 T (S.dat bs)
def Fb(w:World)(tg:Tags)(od d:Nat)(T0:S.Two)(V:S.Con)(c:Nat):Prop:=
 ∃T ids ps,AJ w tg od d T.dsk ids ps/\T.dsk.BS/\((c=9/\(∃x,S.Bld T0 T x)/\S.Full T0 V)\/(c=10/\S.Yy T0 T))
abbrev Wo(ow od:Nat):Nat->Prop:=fun x=>x=ow\/x=od
theorem Fb.keep{w w':World}{tg AU:Tags}{od d:Nat}{T0:S.Two}{V:S.Con}{c:Nat}{P:Nat->Prop}(h:Fb w tg od d T0 V c)(k:Kept P tg w AU w')(hP:¬P od):Fb w' AU od d T0 V c:=by
 obtain⟨T,ids,ps,h1,h2⟩:=h;exact⟨T,ids,ps,h1.keep k.size (fun i hi=>k.tags i hi) (fun i hi e=>k.block i hi (by rw[e];exact hP)),h2⟩
theorem Wrt.keep{w w':World}{tg AU:Tags}{ow od B d:Nat}{T0 T:S.Two}{bs:List (List Rec)}{ol:List Rec}{C:S.Con}{nw:List (BA×Int)}{P:Nat->Prop}(h:Wrt w tg ow od B d T0 T bs ol C nw)(k:Kept P tg w AU w')(h1:¬P ow)(h2:¬P od)(h3:¬P (tg 0).1):Wrt w' AU ow od B d T0 T bs ol C nw:=by
 have hG:=ES h.tab;obtain⟨ids,ps,hd⟩:=h.disk;exact⟨h.fM.keep k.size k.tags (fun i hi e=>k.block i hi (by rw[e];exact h1)),⟨ids,ps,hd.keep k.size (fun i hi=>k.tags i hi) (fun i hi e=>k.block i hi (by rw[e];exact h2))⟩,h.fine,h.ne,Cu h.tab (k.block _ hG h3),by rw[k.tags _ hG];exact h.FP,h.m,h.mF⟩
theorem Wrt.kept(h:Wrt w tg ow od B d T0 T bs ol C nw)(q:Q w w'):Wrt w' tg ow od B d T0 T bs ol C nw:=
 h.keep (P:=fun _=>False) (Kept.Be q (fun _ _=>rfl)) (fun e=>e) (fun e=>e) (fun e=>e)
theorem Wrt.total{w:World}{tg:Tags}{ow od B d:Nat}{T0 T:S.Two}{bs:List (List Rec)}{ol:List Rec}{C:S.Con}{nw:List (BA×Int)}(h:Wrt w tg ow od B d T0 T bs ol C nw):S.len T0.a+(S.Aw bs).length<=1048576/\T0.cap<=1048576:=by
 have h1:=h.fine.good.fits;have h2:=h.fine.good.cap;rw[S.Two.LX]at h1;have h3:T.dsk.cap=T.cap:=rfl;rw[h3]at h1 h2;have h4:T.total=S.len T0.a+(S.Aw bs).length:=by
  unfold S.Two.total;rw[h.mF.a,h.mF.b,<-S.OY]
  cases S.dat bs<;>simp[S.len]
 have:=h.mF.cap;exact⟨by omega,by omega⟩
theorem Wrt.few(h:Wrt w tg ow od B d T0 T bs ol C nw):(S.IG bs).length<=4194304:=by
 have h1:=h.total;have h2:=S.KG bs;rw[S.Ji];omega
theorem PZ:∀{ol:List Rec},(∀r∈ol,r.fits=true)->Bt ol<=4264*ol.length
 |[],_=>by simp[Bt]
 |r::ol,h=>by
  have h1:=PZ (ol:=ol) (fun x hx=>h x (List.mem_cons_of_mem _ hx));have h2:=h r (List.mem_cons_self ..);simp only[Rec.fits,zMF]at h2;unfold Bt at h1⊢;simp only[zLx,List.sum_cons,zLQ];omega
theorem Full.mono{U:S.Con}(h:S.Full T0 V)(hV:∀k v,v∈V k->v∈U k):S.Full T0 U:=by
 obtain⟨R,h1,h2,h3⟩:=h;refine⟨R,h1,fun r hr=>?_,h3⟩;obtain⟨v,hv,h4⟩:=h2 r hr;exact⟨v,hV _ v hv,h4⟩
def ended(bs:List (List Rec))(ol:List Rec):List (List Rec):=if ol=[]then bs else bs++[ol]
theorem SH(h:Wrt w tg ow od B d T0 T bs ol C nw)(hV:∀k v,v∈C k->v∈V k):
  Calls Tryz.prog 137 #[pT B] w fun e w'=>∃(c:Nat)(AU:Tags),e=.returned (iT (c:Int))/\Kept (Wo ow od) tg w AU w'/\((c=0/\∃T',Wrt w' AU ow od B d T0 T' (ended bs ol) [] C nw)\/(c≠0/\Fb w' AU od d T0 V c)):=by
 by_cases ho:ol=[]
 .subst ho;apply(UG h.fM).mono;rintro e w'⟨rfl,q⟩;exact⟨0,tg,rfl,Kept.Be q (fun _ _=>rfl),Or.inl ⟨rfl,T,by unfold ended;rw[if_pos rfl];exact h.kept q⟩⟩
 .obtain⟨ids,ps,hd⟩:=h.disk;have hG:=ES h.tab;apply(UF h.fM hd h.fine h.ne h.tab (h.m.okB ho) h.few).mono;rintro e w'⟨rfl,AU,Al,ps',h1,h2,h3⟩;have gB:=h.fine.append A9 (S.Aj ol);rw[S.Two.NK]at h1 gB⊢;simp only at h1 gB⊢;have hnG:¬Wo ow od (tg 0).1:=fun e=>e.elim h.FP.1 h.FP.2;refine⟨_,AU,rfl,h3,?_⟩;rcases h.mF.append (S.Aj ol)with⟨g1,g2,_⟩|⟨g1,g2,g3⟩|⟨g1,g2⟩
  .refine Or.inl ⟨g1,(T.append (S.Aj ol)).1,?_⟩;unfold ended;rw[if_neg ho];refine⟨by rw[S.cu];exact h2,⟨Al,ps',h1⟩,gB,h.ne,Cu h.tab (h3.block _ hG hnG),by rw[h3.tags _ hG];exact h.FP,h.m.cut ho,?_⟩;rw[S.sD];exact g2
  .rw[S.OY]at g3;refine Or.inr ⟨by omega,(T.append (S.Aj ol)).1,Al,ps',h1,gB,Or.inl ⟨g1,⟨S.dat bs,by rw[g2];exact h.mF⟩,h.m.full ho hV g3⟩⟩
  .exact Or.inr ⟨by omega,(T.append (S.Aj ol)).1,Al,ps',h1,gB,Or.inr ⟨g1,g2⟩⟩
theorem Rcs.jl{P:Nat->Prop}(h:Rcs w ao R)(k:Kept P tg w AU w')(hP:∀a,ao=some a->R≠[]->¬P (tg a.block).1):Rcs w' ao R:=by
 rcases h with h|⟨b,off,rfl,hb,hR⟩
 .exact Or.inl h
 .by_cases hR0:R=[]
  .exact Or.inl hR0
  .have hB:=k.block b hb (hP _ rfl hR0);have hc:∀j,w'.cell? (aD b j)=w.cell? (aD b j):=fun j=>zMI (a:=(aD b j)) hB;refine Or.inr ⟨b,off,rfl,zLJ hb k.size,fun i r hi=>?_⟩;obtain⟨h0,h1,h2,h3⟩:=hR i r hi;exact⟨(hc _).trans h0,(hc _).trans h1,(hc _).trans h2,(hc _).trans h3⟩
structure Ig(w:World)(tg:Tags)(ow od B d:Nat)(T0 T:S.Two)(bs:List (List Rec))(ol:List Rec)(C:S.Con)(nw:List (BA×Int))(key:BA)(R:List Rec)(U:List S.Vs)(k:Nat)(newer:BA)(based:Bool):Prop where
 Qr:Wrt w tg ow od B d T0 T bs ol (C.put key (U.take k)) nw
 based:S.Based CU ol key based newer
 run:S.run CU ⟨#[]⟩ (R.take k)=some (U.take k,newer)
 small:newer.size<=4096
 bef:∀x∈(bs++[ol]).flatten,∀(j:Nat)(r:Rec),k<=j->R[j]?=some r->S.Bef x r
 keys:∀x∈(bs++[ol]).flatten,S.Bc x.key key\/x.key=key
theorem SG(bs:List (List Rec))(ol:List Rec):(ended bs ol++[([]:List Rec)]).flatten=(bs++[ol]).flatten:=by
 unfold ended;split
 .rename_i h;subst h;rfl
 .simp
theorem Ig.cut{w w':World}{tg AU:Tags}{ow od B d:Nat}{T0 T T':S.Two}{bs:List (List Rec)}{ol:List Rec}{C:S.Con}{nw:List (BA×Int)}{key:BA}{R:List Rec}{U:List S.Vs}{k:Nat}{newer:BA}{based:Bool}(h:Ig w tg ow od B d T0 T bs ol C nw key R U k newer based)(hW:Wrt w' AU ow od B d T0 T' (ended bs ol) [] (C.put key (U.take k)) nw):Ig w' AU ow od B d T0 T' (ended bs ol) [] C nw key R U k newer false:=
 ⟨hW,S.Based.cut key newer,h.run,h.small,fun x hx=>h.bef x (by rw[SG]at hx;exact hx),fun x hx=>h.keys x (by rw[SG]at hx;exact hx)⟩
theorem Ig.keep{w w':World}{tg AU:Tags}{ow od B d:Nat}{T0 T:S.Two}{bs:List (List Rec)}{ol:List Rec}{C:S.Con}{nw:List (BA×Int)}{key:BA}{R:List Rec}{U:List S.Vs}{k:Nat}{newer:BA}{based:Bool}(h:Ig w tg ow od B d T0 T bs ol C nw key R U k newer based)(q:Q w w')(ht:∀i,i<w.heap.size->AU i=tg i):Ig w' AU ow od B d T0 T bs ol C nw key R U k newer based:=
 ⟨h.Qr.keep (P:=fun _=>False) (Kept.Be q ht) (fun e=>e) (fun e=>e) (fun e=>e),h.based,h.run,h.small,h.bef,h.keys⟩
theorem Ig.next{key:BA}{U:List S.Vs}{k:Nat}{based:Bool}(h:Ig w tg ow od B d T0 T bs ol C nw key R U k newer based){r':Rec}{s:BA}(hr:R[k]?=some r)(hall:∀x∈R,x.key=key)(Zf:R.Pairwise fun a b=>b.stamp<a.stamp)(hrun:S.run CU ⟨#[]⟩ (R.take (k+1))=some (U.take (k+1),s))(hU:U[k]?=some (S.EH r s))(hs:s.size<=4096)(hwr:S.Wrote CU based newer r s r')(hl:ol.length<64)(hW:DZ w' AU ow B d (ol++[r']) (S.IG bs) nw)(ht:∀i,i<w.heap.size->AU i=tg i)(ho:Only ow tg w w'):Ig w' AU ow od B d T0 T bs (ol++[r']) C nw key R U (k+1) s (based || decide (r.kind≠2)):=by
 have hkey:r.key=key:=hall r (zLR hr);obtain⟨ids,ps,hd⟩:=h.Qr.disk;have hG:=ES h.Qr.tab;have hmem:∀x,x∈(bs++[ol++[r']]).flatten->x∈(bs++[ol]).flatten\/x=r':=fun x hx=>by
  have e:(bs++[ol++[r']]).flatten=(bs++[ol]).flatten++[r']:=by simp
  rw[e,zMD]at hx;simpa using hx
 have hm:S.Wri CU bs (ol++[r']) (C.put key (U.take (k+1))):=by
  have h1:=h.Qr.m.push h.based hkey hwr hl (fun x hx=>h.bef x hx k r (zLK _) hr);rw[S.Con.wC,S.Con.tY,<-S.Ct hU]at h1;exact h1
 refine⟨⟨hW,⟨ids,ps,hd.only h.Qr.ne ht ho⟩,h.Qr.fine,h.Qr.ne,Cu h.Qr.tab (ho.block _ hG h.Qr.FP.1),by rw[ht _ hG];exact h.Qr.FP,hm,h.Qr.mF⟩,(h.based.push hkey hwr).1,hrun,hs,fun x hx j y hj hy=>?_,fun x hx=>?_⟩
 .rcases hmem x hx with hx|rfl
  .exact h.bef x hx j y (by omega) hy
  .refine Or.inr ⟨by rw[hwr.key,hkey,hall y (zLR hy)],?_⟩;rw[hwr.stamp];have h1:=(zLI.1 hr);have h2:=(zLI.1 hy);have h3:=zM3.1 Zf k j h1.1 h2.1 (by omega);rw[h1.2,h2.2]at h3;exact h3
 .rcases hmem x hx with hx|rfl
  .exact h.keys x hx
  .exact Or.inr (by rw[hwr.key,hkey])
theorem gV{s:BA}(hn:newer.size<=4096)(hk:r.kind=0\/r.kind=1\/r.kind=2)(hv:S.valOf CU r newer=some s):s.size<=4096/\r.body.size<=4096:=by
 have h1:=S.J4 hv;refine⟨?_,by omega⟩;rcases hk with h|h|h
 .unfold S.EH S.Vs.size at h1;simp[h]at h1;omega
 .unfold S.EH S.Vs.size at h1;simp[h]at h1;omega
 .unfold S.valOf at hv;rw[if_neg (by omega),if_pos h]at hv;split at hv
  .injection hv with hv;rw[<-hv];exact hn
  .cases hv
theorem TT(h:S.Wri CU bs ol C):Bt ol<=1048576:=by
 have h1:=PZ (ol:=ol) (fun r hr=>h.fits r (by simp;exact Or.inr hr));have h2:=h.few;omega
theorem Xn(h:r.fits=true):r.key.size+r.body.size<=1048576:=by
 simp only[Rec.fits,zMF]at h;omega
end
end Go.Proofs.YtekdenkllipehaaGreatDoor
