import Derived.Test.YtekdenkllipehaaGreatDoorP29
import Derived.Test.YtekdenkllipehaaGreatDoorP30
set_option maxRecDepth 99999
set_option maxHeartbeats 0
namespace Go.Proofs.YtekdenkllipehaaGreatDoor
section
open Go.RowKit
variable{D:M.Dsk}{H:M.Hou}{L:List LV}{Out:Int->Tags->M.Dsk->World->Prop}{a b:List Nat}{d h lc o od rr s:Nat}{dv sv:Value}{lo:Option Addr}{tg:Tags}{w:World}{x:LV}
theorem M.iR(D:M.Dsk)(nm:BA):((D.read nm).2=10)↔D.dead=true:=by
 unfold M.Dsk.read;split
 .rename_i h;exact⟨fun _=>h,fun _=>rfl⟩
 .rename_i h;split
  .exact⟨fun e=>(by cases e),fun e=>absurd e h⟩
  .exact⟨fun e=>(by cases e),fun e=>absurd e h⟩
theorem M.bD(D:M.Dsk)(nm:BA):(D.read nm).2=0\/(D.read nm).2=7\/(D.read nm).2=10:=by
 unfold M.Dsk.read;split
 .exact Or.inr (Or.inr rfl)
 .split
  .exact Or.inr (Or.inl rfl)
  .exact Or.inl rfl
theorem II(hh:A7 w tg rr h (pT d) sv lo lc L H)(hD:AJ w tg od d D a b)(hF:D.BS):
  Calls Tryz.prog 19 #[pT h] w fun e w'=>e=.returned (.bool D.dead)/\Q w w':=by
 have RD:=hU (MG tg od d D a b hF ⟨#[]⟩ w hD);have c0:=hh.c0;have hd:=M.iR D ⟨#[]⟩;have hc:=M.bD D ⟨#[]⟩;generalize D.read ⟨#[]⟩=p at*;obtain⟨x,c⟩:=p;simp only at hd hc;have HD:Hid (D.dead=decide (c=10)):=by
  show D.dead=_
  by_cases h:c=10
  .rw[hd.1 h,decide_eq_true h]
  .rw[decide_eq_false h]
   cases hx:D.dead with
   |false=>rfl
   |true=>exact absurd (hd.2 hx) h
 clear hh hD hF hd;go_in;go_wp2_with fail;apply(RD.out ()).mono;rintro e w1⟨rfl,q1⟩;clear RD c0;rcases hc with rfl|rfl|rfl
 all_goals
  go_wp2;go_ret;refine⟨?_,q1⟩;rw[HD.out];rfl
def M.Hou.roomy(H:M.Hou):Bool:=decide (4096+256*H.calls+8*H.bytes<=H.cap)
def M.Hou.allows(H:M.Hou)(e:Int):Bool:=if e=9 then !H.roomy else decide (e≠3) || H.flipped
theorem QF(hh:A7 w tg rr h dv sv lo lc L H)(h1:H.calls<=4194304)(h2:H.bytes<=16777216):
  Calls Tryz.prog 37 #[pT h] w fun e w'=>e=.returned (.bool H.roomy)/\Q w w':=by
 have c1:=hh.c1;have c5:=hh.c5;have c6:=hh.c6;have e1:IntKind.i64.wrap (256*(H.calls:Int))=256*(H.calls:Int):=by rw[IntKind.wrap_i64];omega
 have e2:IntKind.i64.wrap (4096+256*(H.calls:Int))=4096+256*(H.calls:Int):=by rw[IntKind.wrap_i64];omega
 have e3:IntKind.i64.wrap (8*(H.bytes:Int))=8*(H.bytes:Int):=by rw[IntKind.wrap_i64];omega
 have e4:IntKind.i64.wrap (4096+256*(H.calls:Int)+8*(H.bytes:Int))=4096+256*(H.calls:Int)+8*(H.bytes:Int):=by rw[IntKind.wrap_i64];omega
 clear hh;go_in;go_wp2_with fail;go_quiet (fail);go_wp2;go_ret;refine⟨?_,(Q.refl w).drewN _⟩;unfold M.Hou.roomy;simp;omega
theorem Iz(hh:A7 w tg rr h dv sv lo lc L H)(h1:H.calls<=4194304)(h2:H.bytes<=16777216)(e:Int):
  Calls Tryz.prog 21 #[pT h,iT e] w fun en w'=>en=.returned (.bool (H.allows e))/\Q w w':=by
 have RO:=hU (QF hh h1 h2);have c7:=hh.c7;clear hh;go_in;go_wp2_with fail;apply(RO.out ()).mono;rintro en w1⟨rfl,q1⟩;have d7:=AA c7 q1;clear RO c7;by_cases h9:e=9
 .subst h9;go_wp2;go_ret;exact⟨by simp[M.Hou.allows],q1⟩
 .have g9:(e==9)=false:=by rw[zM9];exact h9
  by_cases h3:e=3
  .subst h3;go_wp2;go_ret;exact⟨by simp[M.Hou.allows],q1⟩
  .have g3:(e==3)=false:=by rw[zM9];exact h3
   (have g3':(e != 3)=true:=by simp[h3]);go_wp2;go_ret;exact⟨by simp[M.Hou.allows,h9,h3],q1⟩
theorem Tf(hx:x.At w)(e:Int)(dead:Bool):
  Calls Tryz.prog 54 #[.agg (AV x.fo x.no x.fc x.nc x.l),iT e,.bool dead] w fun en w'=>∃y:LV,en=.returned (.tuple #[.agg (AV y.fo y.no y.fc y.nc y.l),.bool (x.l.flush e dead).2])/\y.l=(x.l.flush e dead).1/\y.At w'/\(∀a,y.fo=some a\/y.no=some a->x.fo=some a\/x.no=some a)/\Q w w':=by
 by_cases h:x.l.dead=true\/dead=true
 .apply(Qz x.fo x.no x.fc x.nc x.l e dead h w).mono;rintro en w'⟨rfl,q⟩;have hv:(x.l.flush e dead).1.flushed=x.l.flushed/\(x.l.flush e dead).1.now=x.l.now:=by
   unfold M.Lif.flush;split
   .exact⟨rfl,rfl⟩
   .rename_i h1;rcases h with h2|h2
    .exact absurd h2 h1
    .rw[if_pos h2];exact⟨rfl,rfl⟩
  have hk:=hx.kept q;exact⟨⟨x.fo,x.no,x.fc,x.nc,(x.l.flush e dead).1⟩,rfl,rfl,⟨by rw[hv.1];exact hk.f,by rw[hv.2];exact hk.n,by rw[hv.1];exact hk.fz,by rw[hv.2];exact hk.nz⟩,fun a ha=>ha,q⟩
 .have hd:x.l.dead=false:=by
   cases hx:x.l.dead with
   |false=>rfl
   |true=>exact absurd (Or.inl hx) h
  have hdd:dead=false:=by
   cases hx:dead with
   |false=>rfl
   |true=>exact absurd (Or.inr hx) h
  apply(jW x.fo x.no x.fc x.nc x.l e dead hd hdd w).mono;rintro en w'⟨rfl,q⟩;have hk:=hx.kept q;have hf:x.l.flush e dead=(if e=0 then{ x.l with flushed:=x.l.now,pending:=false }else x.l,decide (e=0\/e=9\/e=3)):=by
   unfold M.Lif.flush;rw[if_neg (by rw[hd];simp),if_neg (by rw[hdd];simp)]
  by_cases h0:e=0
  .refine⟨⟨x.no,x.no,x.nc,x.nc,(x.l.flush e dead).1⟩,by rw[if_pos h0],rfl,?_,fun a ha=>Or.inr (by rcases ha with ha|ha<;>exact ha),q⟩;rw[hf,if_pos h0];exact⟨hk.n,hk.n,hk.nz,hk.nz⟩
  .refine⟨⟨x.fo,x.no,x.fc,x.nc,(x.l.flush e dead).1⟩,by rw[if_neg h0],rfl,?_,fun a ha=>ha,q⟩;rw[hf,if_neg h0];exact⟨hk.f,hk.n,hk.fz,hk.nz⟩
def M.EO(e:Int)(dead:Bool)(l:M.Lif):Option M.Lif:=if(l.flush e dead).2=true then some (l.flush e dead).1 else none
def Sk(Out:Int->Tags->M.Dsk->World->Prop)(tg:Tags)(rr o od h s d:Nat)(L:List LV)(H:M.Hou)(w:World)(e:Ending)(w':World):Prop:=
 ∃(ec:Int)(Co:Tags)(D:M.Dsk)(w3:World)(AU:Tags)(L':List LV)(lo:Option Addr)(lc:Nat)(a b:List Nat),Out ec Co D w3/\e=.returned (.bool ({ H with calls:=H.calls+1 }.allows ec&&decide (0<L'.length)))/\L'.map (fun x=>x.l)=L.filterMap (fun x=>M.EO ec D.dead x.l)/\A7 w' AU rr h (pT d) (pT s) lo lc L' { H with calls:=H.calls+1,flushed:=H.flushed || decide (ec=0),quiet:=decide (ec=0)}/\AJ w' AU od d D a b/\Kept (fun x=>x=o\/x=od\/x=rr) tg w AU w'/\Kept (·=rr) Co w3 AU w'
theorem Tp(hh:A7 w tg rr h (pT d) (pT s) lo lc L H)(hne:rr≠o/\rr≠od)(hL:L.length<=1048576)(hcl:H.calls<=4194303)(hby:H.bytes<=16777216)(FL:∀w1,Kept (·=rr) tg w tg w1->Calls Tryz.prog 53 #[pT s] w1 fun e w'=>∃ec Co D a b,Out ec Co D w'/\e=.returned (iT ec)/\Kept (fun x=>x=o\/x=od) tg w1 Co w'/\AJ w' Co od d D a b/\D.BS):
  Calls Tryz.prog 33 #[pT h] w fun e w'=>Sk Out tg rr o od h s d L H w e w':=by
 have c5:=hh.c5;have f5:=hh.fr 5;have e5:IntKind.i64.wrap ((H.calls:Int)+1)=(H.calls:Int)+1:=by rw[IntKind.wrap_i64];omega
 obtain⟨h1,k1⟩:=hh.vV (v:=(H.calls:Int)+1) (by simp);obtain⟨w1,hw1⟩:=ex (w.setCell (aD h 5) (iT ((H.calls:Int)+1)));rw[<-hw1]at h1 k1;have FB:=hU (FL w1 k1);have H1:=h_2 h1 k1;have c2:=hh.c2;clear hh h1 k1 FL;go_in;go_wp2_with fail;rw[<-hw1];clear hw1 c5 f5;apply(FB.out ()).mono;rintro e w2⟨ec,Co,D,a,b,hO,rfl,hK,hD,hF⟩;have M6:=H1.out.1.keep hK (fun e=>by rcases e with e|e<;>omega);have K6:=h_4 M6 hO hK hD;have DE:=hU (II M6 hD hF);have AL:Hid _:=fun(W:World)(q:Q w2 W)=>Iz (M6.keep (P:=fun _=>False) (Kept.Be q (fun _ _=>rfl)) (fun e=>e)) (by show H.calls+1<=_;omega) hby ec;have MV:=h_ M6.lv;have r3:=M6.c3;obtain⟨i0,hi,hz0,hz1,hz2⟩:=info_parts Iy;clear FB hO hK hD hF M6 c2;go_wp2_with fail;apply(DE.out ()).mono;rintro e w3⟨rfl,q3⟩;have AL3:=hU (AL.out w3 q3);clear DE AL;go_wp2_with fail;apply(AL3.out ()).mono;rintro e w4⟨rfl,q4⟩;have yZ:=h_ (q3.trans q4);have LG:=K6.out.1.keep (P:=fun _=>False) (Kept.Be yZ.out (fun _ _=>rfl)) (fun e=>e);have gI:=h_ LG;replace r3:=LG.c3;replace MV:Hid (Dw w4 lo L):=LG.lv;obtain⟨alw,YT⟩:=ex (M.Hou.allows { H with calls:=H.calls+1 } ec);obtain⟨dd,hdd⟩:=ex D.dead;rw[<-YT,<-hdd];have HAD:=h_2 YT hdd;clear YT hdd;clear AL3 q3 q4 LG;go_wp2_with fail
 go_loopw [6,7] (fun tl ti wr=>∃(i:Nat)(L':List LV)(ao:Option Addr)(cap:Nat),tl=.slice ao L'.length cap/\ti=iT (i:Int)/\i<=L.length/\L'.length<=i/\Hid (GX w4 L' ao cap wr)/\Hid (L'.map (fun x=>x.l)=(L.take i).filterMap (fun x=>M.EO ec dd x.l)/\∀y∈L',∀a,y.fo=some a\/y.no=some a->∃x∈L,x.fo=some a\/x.no=some a)) (fun _ ti _=>L.length-(intOf ti).toNat)
 case atStart=>exact⟨0,[],none,0,rfl,rfl,zLS _,zLK _,GX.none w4,rfl,fun y hy=>by cases hy⟩
 case round =>
  obtain⟨i,L',ao,cap,rfl,rfl,hi1,hi2,HL,HM⟩:=hrel;have k3:=AA r3 HL.out.q;by_cases hlt:i<L.length
  .obtain⟨x,hx⟩:∃x,L[i]?=some x:=⟨_,zLH hlt⟩;have I4:(i:Int)<(L.length:Int):=by omega
   obtain⟨g,rfl,hg,hc⟩:=MV.out.row i x hx;have q0:∀j v,x.cells[j]?=some v->wr.cell? (aD g (i*7+j))=some v:=fun j v hv=>AA (hc j v hv) HL.out.q;have x0:=q0 0 _ rfl;have x1:=q0 1 _ rfl;have x2:=q0 2 _ rfl;have x3:=q0 3 _ rfl;have x4:=q0 4 _ rfl;have x5:=q0 5 _ rfl;have x6:=q0 6 _ rfl;rw[Nat.add_zero]at x0;have LR:=hU (Tf ((MV.out.all x (zLR hx)).kept HL.out.q) ec dd);unfold AV at LR;have HX:=h_ hx;clear hx hc q0;go_wp2_with fail;apply(LR.out ()).mono;rintro e w3⟨y,rfl,hyl,hya,hyo,q3⟩;have JM:=h_ (HL.out.kept q3);have HY:Hid (y.At w3/\(∀a,y.fo=some a\/y.no=some a->x.fo=some a\/x.no=some a)/\M.EO ec dd x.l=if(x.l.flush ec dd).2=true then some y.l else none):=⟨hya,hyo,by rw[hyl];rfl⟩;clear LR x0 x1 x2 x3 x4 x5 x6 k3 q3 HL hyl hya hyo
   cases Zg:(x.l.flush ec dd).2
   rotate_left
   .have q5:Q w3 ((w3.alloc (.cells #[.slice y.fo y.l.flushed.AB.length y.fc,iT y.l.flushed.water,.slice y.no y.l.now.AB.length y.nc,iT y.l.now.water,.bool y.l.pending,.bool y.l.dead,.bool y.l.late] 49)).alloc (.cells #[.slice y.fo y.l.flushed.AB.length y.fc,iT y.l.flushed.water,.slice y.no y.l.now.AB.length y.nc,iT y.l.now.water,.bool y.l.pending,.bool y.l.dead,.bool y.l.late] 49)):=((Q.refl w3).alloc _ _).alloc _ _;have hL5:=JM.out.kept q5;have hown5:=hL5.own;have hlow:y.Off (Value.slice ao L'.length cap).ownBlock:=fun a ha e=>by
     have h1:=(hown5.lt _ e).1;have h2:=(MV.out.all x (zLR HX.out)).lt (a:=a) (HY.out.2.1 a ha);omega
    have Uk:=h_3 hL5 (HY.out.1.kept q5) hlow;have hsz:w4.heap.size<=w3.heap.size:=JM.out.q.below.size;clear hL5 hlow q5;have y1:∀j u,y.cells[j]?=some u->((w3.alloc (.cells #[.slice y.fo y.l.flushed.AB.length y.fc,iT y.l.flushed.water,.slice y.no y.l.now.AB.length y.nc,iT y.l.now.water,.bool y.l.pending,.bool y.l.dead,.bool y.l.late] 49)).alloc (.cells #[.slice y.fo y.l.flushed.AB.length y.fc,iT y.l.flushed.water,.slice y.no y.l.now.AB.length y.nc,iT y.l.now.water,.bool y.l.pending,.bool y.l.dead,.bool y.l.late] 49)).cell? (((aD (w3.heap.size+1) 0):Addr).add j)=some u:=by
     have:=FV (w3.alloc (.cells #[.slice y.fo y.l.flushed.AB.length y.fc,iT y.l.flushed.water,.slice y.no y.l.now.AB.length y.nc,iT y.l.now.water,.bool y.l.pending,.bool y.l.dead,.bool y.l.late] 49)) y 49;unfold AV at this;simpa using this
    ((obtain⟨v',w',hrun,hown',hgrow,_⟩:=run_append_own (P:=Tryz.prog) _ w4.heap.size 36 36 49 i0 (.agg #[nS,iT 0,nS,iT 0,.bool false,.bool false,.bool false]) 7 72 Tryz.underlying36 hi hz0 hz1 hz2 rfl (by decide) _ _ _ hown5 (aD (w3.heap.size+1) 0) 1 1 y.cells rfl y1 (H7 y) (by unfold maxLen;omega) (by omega) (by simp;omega);have Gy:=BQ (ty:=36) Tryz.underlying36 hi hz0 hz1 hz2 hown5 (m:=1) (c:=1) rfl y1 (H7 y) (by decide) (by unfold maxLen;omega) (by omega) hrun;obtain⟨Er,Bn,hv⟩:=Ac hown';rw[hv]at hown' Gy hrun;have HP:=h_ (Uk.out.1.push Uk.out.2.1 Uk.out.2.2 hgrow hown' Gy);have hln:(L'++[y]).length=L'.length+1:=by simp);rw[<-hln]at hrun;clear hown' hgrow Gy hv hown5 Uk y1;go_wp2_with(at_builtin;refine Lib.wpList_append_run _ rfl _ _ _ _ rfl _ _ rfl rfl _ _ hrun ?_);clear hrun;go_wp2_with fail);go_roundw
    case rel=>exact⟨i+1,L'++[y],Er,Bn,by rw[hln],by go_num,by omega,by simp;omega,HP,⟨by
     have h1:=HM.out.1;rw[zLv,HX.out,List.filterMap_append,List.map_append,h1];simp[HY.out.2.2,Zg],fun z hz=>by
     (have:z∈L'\/z=y:=by simpa using hz);rcases this with e|e
     .exact HM.out.2 z e
     .rw[e];exact fun a ha=>⟨x,zLR HX.out,HY.out.2.1 a ha⟩⟩⟩
    case measure=>simp[intOf];omega
   ·(have HP:Hid (GX w4 L' ao cap (w3.alloc (.cells #[.slice y.fo y.l.flushed.AB.length y.fc,iT y.l.flushed.water,.slice y.no y.l.now.AB.length y.nc,iT y.l.now.water,.bool y.l.pending,.bool y.l.dead,.bool y.l.late] 49))):=JM.out.kept ((Q.refl w3).alloc _ _);go_wp2_with fail);go_roundw
    case rel=>exact⟨i+1,L',ao,cap,rfl,by go_num,by omega,by omega,HP,⟨by
     have h1:=HM.out.1;rw[zLv,HX.out,List.filterMap_append,h1];simp[HY.out.2.2,Zg],HM.out.2⟩⟩
    case measure=>simp[intOf];omega
  .obtain rfl:i=L.length:=by omega
   have f3:wr.frozen? (aD h 3)=false:=(HL.out.q.below.frozen (p:=(aD h 3)) gI.out.top).trans (gI.out.fr 3);have f4:wr.frozen? (aD h 4)=false:=(HL.out.q.below.frozen (p:=(aD h 4)) gI.out.top).trans (gI.out.fr 4);have f8:wr.frozen? (aD h 8)=false:=(HL.out.q.below.frozen (p:=(aD h 8)) gI.out.top).trans (gI.out.fr 8);have k4:=AA gI.out.c4 HL.out.q;have k8:=AA gI.out.c8 HL.out.q;obtain⟨hT,R5⟩:=gI.out.turn HL.out (fun y hy a ha=>Or.inl (HM.out.2 y hy a ha));obtain⟨g4,m4⟩:=hT.set 4 (.bool (H.flushed || decide (ec=0))) (H':={ H with calls:=H.calls+1,flushed:=H.flushed || decide (ec=0)}) (by omega) rfl rfl rfl rfl rfl rfl rfl rfl rfl;obtain⟨g8,m8⟩:=g4.set 8 (.bool (decide (ec=0))) (H':={ H with calls:=H.calls+1,flushed:=H.flushed || decide (ec=0),quiet:=decide (ec=0)}) (by omega) rfl rfl rfl rfl rfl rfl rfl rfl rfl;have mk:=(R5.trans m4).trans m8;have HE:Hid (A7 (((wr.setCell (aD h 3) (.slice ao L'.length cap)).setCell (aD h 4) (.bool (H.flushed || decide (ec=0)))).setCell (aD h 8) (.bool (decide (ec=0)))) (Co.more w4.heap.size rr 1) rr h (pT d) (pT s) ao cap L' { H with calls:=H.calls+1,flushed:=H.flushed || decide (ec=0),quiet:=decide (ec=0)}/\Kept (·=rr) Co w2 (Co.more w4.heap.size rr 1) (((wr.setCell (aD h 3) (.slice ao L'.length cap)).setCell (aD h 4) (.bool (H.flushed || decide (ec=0)))).setCell (aD h 8) (.bool (decide (ec=0))))):=⟨g8,((Kept.Be yZ.out (fun _ _=>rfl)).wider (R:=(·=rr)) (P:=fun _=>False) (fun x e=>e.elim)).trans mk⟩;have HF:Hid (∀e W,W=((wr.setCell (aD h 3) (.slice ao L'.length cap)).setCell (aD h 4) (.bool (H.flushed || decide (ec=0)))).setCell (aD h 8) (.bool (decide (ec=0)))->e=.returned (.bool (alw&&decide (0<L'.length)))->Sk Out tg rr o od h s d L H w e W):=by
    rintro e W rfl rfl;obtain⟨hf1,hf2⟩:=HE.out;obtain⟨_,hO,hK,hD⟩:=K6.out;have h1:=HM.out.1;rw[zM0]at h1;exact⟨ec,Co,D,w2,_,L',ao,cap,a,b,hO,by rw[HAD.out.1],by rw[h1,HAD.out.2],hf1,hD.keep hf2.size hf2.tags (fun k hk e=>hf2.block k hk (by rw[e];exact fun e=>hne.2 e.symm)),((H1.out.2.wider (fun x e=>Or.inr (Or.inr e))).trans (hK.wider (fun x e=>by rcases e with e|e<;>simp[e]))).trans (hf2.wider (fun x e=>Or.inr (Or.inr e))),hf2⟩
   clear hT R5 g4 m4 g8 m8 mk HE HM HL;by_cases Zg:ec=0
   .subst Zg
    cases hfl:H.flushed<;>cases alw
    all_goals
     rw[hfl]at k4 HF;go_wp2;go_ret;exact HF.out _ _ (by simp) (by simp)
   ·((have heb:(ec==0)=false:=by rw[zM9];exact Zg);have hdc:decide (ec=0)=false:=by simp[Zg]);rw[hdc]at HF
    cases hfl:H.flushed<;>cases alw
    all_goals
     rw[hfl]at k4 HF;go_wp2;go_ret;exact HF.out _ _ (by simp) (by simp)
def M.Fil.two(f:M.Fil):List BA:=[f.name,⟨f.bytes.toArray⟩]
def M.Dsk.list(D:M.Dsk):List BA:=(D.files.map M.Fil.two).flatten
theorem M.O5(h:D.BS)(hd:D.dead=false){i:Nat}{f:M.Fil}(hf:D.files[i]?=some f):D.read f.name=(f.bytes,0):=by
 unfold M.Dsk.read;rw[hd,if_neg (by simp),M.ZM h.sorted hf rfl];simp only;rw[hf];rfl
theorem vM(l:List M.Fil):((l.map M.Fil.two).flatten).length=2*l.length:=by
 induction l with
 |nil=>rfl
 |cons f l ih=>simp[M.Fil.two,ih];omega
theorem QH(hh:A7 w tg rr h (pT d) sv lo lc L H)(hD:AJ w tg od d D a b)(hF:D.BS)(hd:D.dead=false):
  Calls Tryz.prog 59 #[pT h] w fun e w'=>∃ao cap,e=.returned (.slice ao D.list.length cap)/\Parts w D.list ao cap w':=by
 have Ef:=hF.good.few;have hnl:D.names.length=D.files.length:=by unfold M.Dsk.names;rw[hd,if_neg (by simp),zM2]
 have NM:=MH tg od d D a b hF w hD;rw[hnl]at NM;have mg:=hU NM;have RD:Hid _:=fun(W:World)(q:Q w W)(nm:BA)=>MG tg od d D a b hF nm W (hD.kept q);have c0:=hh.c0;have HF:=h_2 hF hd;obtain⟨i0,hi,hz0,hz1,hz2⟩:=info_parts KD;go_in;go_wp2_with fail;apply(mg.out ()).mono;rintro e w1⟨no,nc,rfl,hN⟩;have q1:Q w w1:=⟨hN.below⟩;have HN:Hid (∀(j:Nat)(f:M.Fil),D.files[j]?=some f->∃g,no=some (aD g 0)/\w1.cell? (aD g j)=some (sT f.name)):=fun j f hf=>by
  have hv:(Fp D.names)[j]?=some (sT f.name):=by
   unfold Fp M.Dsk.names;rw[HF.out.2,if_neg (by simp)];simp[hf]
  obtain⟨g,hg,_,_,hc⟩:=Cv hN.own (fun e=>by rw[e]at hv;simp at hv);exact⟨g,hg,hc j _ hv⟩
 have k0:=AA c0 q1;have Qp:=h_ q1;go_wp2_with fail
 go_loopw [3,5] (fun tl ti wr=>∃(i:Nat)(P:List BA)(ao:Option Addr)(cap:Nat),tl=.slice ao P.length cap/\ti=iT (i:Int)/\i<=D.files.length/\P.length<=2*i/\Hid (Parts w1 P ao cap wr)/\Hid (P=((D.files.take i).map M.Fil.two).flatten)) (fun _ ti _=>D.files.length-(intOf ti).toNat)
 case atStart=>exact⟨0,[],none,0,rfl,rfl,zLS _,by simp,⟨Below.refl _ w1,World.ownsRow_nil _ _ _ _⟩,rfl⟩
 case round =>
  obtain⟨i,P,ao,cap,rfl,rfl,hi1,hi2,HP,HE⟩:=hrel;have HQ:Hid (Q w1 wr):=⟨HP.out.below⟩;by_cases hlt:i<D.files.length
  .obtain⟨f,hf⟩:∃f,D.files[i]?=some f:=⟨_,zLH hlt⟩;have I4:(i:Int)<(D.files.length:Int):=by omega
   obtain⟨g,rfl,n0⟩:=HN.out i f hf;have m0:=AA k0 HQ.out;have n1:=AA n0 HQ.out;have R1:=fun(W:World)(q:Q wr W)=>RD.out W ((Qp.out.trans HQ.out).trans q) f.name;rw[M.O5 HF.out.1 HF.out.2 hf]at R1;dsimp only at R1;have R1H:Hid _:=R1;have Ut:=h_ hf;go_upto_region 6 with fail
   go_region_held3 (fun w'=>w'.cell? (aD h 0)=some (pT d)/\w'.cell? (aD g i)=some (sT f.name))
    (first|exact⟨m0,n1⟩|exact Db)
    (first|(go_at_call 26;apply(R1H.out _ ((Q.refl wr).drew)).mono;rintro e w4⟨rfl,q4⟩;have Db:w4.cell? (aD h 0)=some (pT d)/\w4.cell? (aD g i)=some (sT f.name):=⟨AA m0 (((Q.refl wr).drew).trans q4),AA n1 (((Q.refl wr).drew).trans q4)⟩))
   all_goals
    have q5:Q wr w4:=((Q.refl wr).drew).trans q4;have n4:=Db.2;have q6:Q w4 (w4.alloc (.cells #[sT f.name,sT ⟨f.bytes.toArray⟩] 9)):=(Q.refl w4).alloc _ _;have hP6:=HP.out.kept (q5.trans q6);have hown:=hP6.own;have y1:∀j u,(AX f.two)[j]?=some u->(w4.alloc (.cells #[sT f.name,sT ⟨f.bytes.toArray⟩] 9)).cell? (((aD w4.heap.size 0):Addr).add j)=some u:=by
     intro j u hu
     match j with
     |0=>simp[M.Fil.two,AX]at hu;subst hu;simp[Addr.add]
     |1=>simp[M.Fil.two,AX]at hu;subst hu;simp[Addr.add]
     |j+2=>simp[M.Fil.two,AX]at hu
    ((have hsz:w1.heap.size<=w4.heap.size:=(HQ.out.trans q5).below.size;obtain⟨v',w',hrun,hown',hgrow,_⟩:=run_append_own (P:=Tryz.prog) _ w1.heap.size 53 53 9 i0 eS 1 16 Tryz.underlying53 hi hz0 hz1 hz2 rfl (by decide) _ _ _ hown (aD w4.heap.size 0) 2 2 (AX f.two) rfl y1 (FQ _) (by unfold maxLen;omega) (by omega) (by simp;omega);obtain⟨Er,Bn,hv⟩:=Ac hown';rw[hv]at hown' hrun;have HPP:=h_ (hP6.more f.two hgrow hown');have hln:(P++f.two).length=P.length+2:=by simp[M.Fil.two]);rw[<-hln]at hrun;go_wp2_with(at_builtin;refine Lib.wpList_append_run _ rfl _ _ _ _ rfl _ _ rfl rfl _ _ hrun ?_);go_wp2_with fail);go_roundw
    case rel=>exact⟨i+1,P++f.two,Er,Bn,by rw[hln],by go_num,by omega,by rw[hln];omega,HPP,by
     show P++f.two=_
     rw[zLv,Ut.out,List.map_append,List.flatten_append,<-HE.out];simp⟩
    case measure=>simp[intOf];omega
  .obtain rfl:i=D.files.length:=by omega
   have hE:=HE.out;rw[zM0]at hE;have HR:Hid (P=D.list/\Parts w P ao cap wr):=⟨hE,(Qp.out.trans HQ.out).below,Ll HP.out.own Qp.out.below.size⟩;go_wp2;go_ret;exact⟨ao,cap,by rw[<-HR.out.1];rfl,by rw[<-HR.out.1];exact HR.out.2⟩
theorem VL(P:List BA)(ao bo:Option Addr)(ac bc:Nat)(w:World)(hl:P.length<=1048576)(ha:w.ownsRow 0 9 1 (.slice ao P.length ac) P.length (AX P))(hb:w.ownsRow 0 9 1 (.slice bo P.length bc) P.length (AX P)):
  Calls Tryz.prog 60 #[.slice ao P.length ac,.slice bo P.length bc] w fun e w'=>e=.returned (.bool true)/\Q w w':=by
 have HA:=h_ ha;have HB:=h_ hb;go_in;go_wp2_with fail
 go_loopw [5] (fun j wr=>∃k:Nat,j=iT k/\k<=P.length/\Q w wr) (fun j _=>P.length-(intOf j).toNat)
 case atStart=>exact⟨0,rfl,zLS _,Q.refl _⟩
 case round =>
  obtain⟨k,rfl,hk,hq⟩:=hrel;by_cases hlt:k<P.length
  .obtain⟨g1,rfl,c1⟩:∃g,ao=some (aD g 0)/\w.cell? (aD g k)=some (sT P[k]):=by
    rcases HA.out.2 with⟨_,h0⟩|⟨g,c,cur,hv,_⟩
    .omega
    .injection hv with e1;subst e1;refine⟨g,rfl,?_⟩;rw[HA.out.cellAt k (by omega)];simp[AX,List.getElem?_eq_getElem hlt]
   obtain⟨g2,rfl,c2⟩:∃g,bo=some (aD g 0)/\w.cell? (aD g k)=some (sT P[k]):=by
    rcases HB.out.2 with⟨_,h0⟩|⟨g,c,cur,hv,_⟩
    .omega
    .injection hv with e1;subst e1;refine⟨g,rfl,?_⟩;rw[HB.out.cellAt k (by omega)];simp[AX,List.getElem?_eq_getElem hlt]
   ((((((have k1:=AA c1 hq;have k2:=AA c2 hq;generalize P[k]=nm at*;have i1:(k:Int)<(P.length:Int):=by omega);have i0:(0:Int)<=(k:Int):=by omega);have wk:IntKind.i64.wrap ((k:Int)+1)=(k:Int)+1:=by rw[IntKind.wrap_i64];omega);go_wp2_with fail;go_quiet (fail);go_wp2_with fail);go_roundw);case rel=>exact⟨k+1,by go_num,by omega,hq.drewN _⟩);case measure=>simp[intOf];omega
  .obtain rfl:k=P.length:=by omega
   go_wp2;go_ret;exact⟨rfl,hq⟩
theorem Pq(hx:x.At w)(e:Int)(dead:Bool):
  Calls Tryz.prog 57 #[.agg (AV x.fo x.no x.fc x.nc x.l),iT e,.bool dead] w fun en w'=>∃y:LV,en=.returned (.tuple #[.agg (AV y.fo y.no y.fc y.nc y.l),.bool (x.l.compact e dead).2])/\y.l=(x.l.compact e dead).1/\y.l.now=x.l.now/\y.At w'/\(∀a,y.fo=some a\/y.no=some a->x.fo=some a\/x.no=some a)/\Q w w':=by
 have hv:(x.l.compact e dead).1.flushed=x.l.flushed/\(x.l.compact e dead).1.now=x.l.now:=by
  unfold M.Lif.compact;split
  .exact⟨rfl,rfl⟩
  split
  .exact⟨rfl,rfl⟩
  split
  .exact⟨rfl,rfl⟩
  .exact⟨rfl,rfl⟩
 by_cases h:x.l.dead=true\/dead=true
 .apply(N8 x.fo x.no x.fc x.nc x.l e dead h w).mono;rintro en w'⟨rfl,q⟩;have hk:=hx.kept q;exact⟨⟨x.fo,x.no,x.fc,x.nc,(x.l.compact e dead).1⟩,rfl,rfl,hv.2,⟨by rw[hv.1];exact hk.f,by rw[hv.2];exact hk.n,by rw[hv.1];exact hk.fz,by rw[hv.2];exact hk.nz⟩,fun a ha=>ha,q⟩
 .have hd:x.l.dead=false:=by
   cases hx:x.l.dead with
   |false=>rfl
   |true=>exact absurd (Or.inl hx) h
  have hdd:dead=false:=by
   cases hx:dead with
   |false=>rfl
   |true=>exact absurd (Or.inr hx) h
  apply(YA x.fo x.no x.fc x.nc x.l e dead hd hdd w).mono;rintro en w'⟨rfl,q⟩;have he:(x.l.compact e dead).1=x.l:=by
   unfold M.Lif.compact;rw[if_neg (by rw[hd];simp),if_neg (by rw[hdd];simp)];split<;>rfl
  exact⟨x,rfl,he.symm,rfl,hx.kept q,fun a ha=>ha,q⟩
def M.Bd(e:Int)(dead:Bool)(size:Nat)(l:M.Lif):Option M.Lif:=if(l.compact e dead).2=true/\(e≠0\/size<=(l.compact e dead).1.lean)then some (l.compact e dead).1 else none
def K9(Out:Int->Tags->M.Dsk->World->Prop)(tg:Tags)(rr o od h s d:Nat)(L:List LV)(H:M.Hou)(w:World)(e:Ending)(w':World):Prop:=
 ∃(ec:Int)(Co:Tags)(D:M.Dsk)(w3:World)(AU:Tags)(L':List LV)(lo:Option Addr)(lc:Nat)(a b:List Nat)(k:Nat),Out ec Co D w3/\e=.returned (.bool ({ H with calls:=H.calls+1 }.allows ec&&decide (0<L'.length)))/\L'.map (fun x=>x.l)=L.filterMap (fun x=>M.Bd ec D.dead (M.total D.files) x.l)/\A7 w' AU rr h (pT d) (pT s) lo lc L' { H with calls:=H.calls+k,quiet:=decide (ec=0)}/\(k=1\/k=2)/\AJ w' AU od d D a b/\Kept (fun x=>x=o\/x=od\/x=rr) tg w AU w'/\Kept (·=rr) Co w3 AU w'
theorem Q8(hh:A7 w tg rr h (pT d) (pT s) lo lc L H)(hne:rr≠o/\rr≠od)(hL:L.length<=1048576)(hcl:H.calls<=4194302)(hvs:∀x∈L,x.l.now.AB.length<=1048576/\x.l.lean<=1099511627776/\∀v∈x.l.now.AB,v.key.size<=64/\v.value.size<=4096)(hby:H.bytes<=16777216)(FL:∀w1,Kept (·=rr) tg w tg w1->Calls Tryz.prog 55 #[pT s] w1 fun e w'=>∃ec Co D a b,Out ec Co D w'/\e=.returned (iT ec)/\Kept (fun x=>x=o\/x=od) tg w1 Co w'/\AJ w' Co od d D a b/\D.BS/\(ec=0->H.flipped=false->H.armed=false->D.dead=false/\∀U5 W,Kept (·=rr) Co w' U5 W->Calls Tryz.prog 55 #[pT s] W fun e W'=>e=.returned (iT 0)/\Q W W')):
  Calls Tryz.prog 34 #[pT h] w fun e w'=>K9 Out tg rr o od h s d L H w e w':=by
 have c5:=hh.c5;have f5:=hh.fr 5;have e5:IntKind.i64.wrap ((H.calls:Int)+1)=(H.calls:Int)+1:=by rw[IntKind.wrap_i64];omega
 obtain⟨h1,k1⟩:=hh.vV (v:=(H.calls:Int)+1) (by simp);obtain⟨w1,hw1⟩:=ex (w.setCell (aD h 5) (iT ((H.calls:Int)+1)));rw[<-hw1]at h1 k1;have FB:=hU (FL w1 k1);have H1:=h_2 h1 k1;have c2:=hh.c2;clear hh h1 k1 FL;go_in;go_wp2_with fail;rw[<-hw1];clear hw1 c5 f5;apply(FB.out ()).mono;rintro e w2⟨ec,Co,D,a,b,hO,rfl,hK,hD,hF,hC2⟩;have M6:=H1.out.1.keep hK (fun e=>by rcases e with e|e<;>omega);have K6:=h_5 M6 hO hK hD hF;have Sj:Hid _:=hC2;have DE:=hU (II M6 hD hF);have AL:Hid _:=fun(W:World)(q:Q w2 W)=>Iz (M6.keep (P:=fun _=>False) (Kept.Be q (fun _ _=>rfl)) (fun e=>e)) (by show H.calls+1<=_;omega) hby ec;have MV:=h_ M6.lv;have r3:=M6.c3;obtain⟨i0,hi,hz0,hz1,hz2⟩:=info_parts Iy;have SZ:Hid _:=fun(W:World)(q:Q w2 W)=>UJ Co od d D a b hF W (hD.kept q);clear FB hO hK hD hF M6 c2 hC2;go_wp2_with fail;apply(DE.out ()).mono;rintro e w3⟨rfl,q3⟩;have AL3:=hU (AL.out w3 q3);clear DE AL;go_wp2_with fail;apply(AL3.out ()).mono;rintro e w4⟨rfl,q4⟩;have yZ:=h_ (q3.trans q4);have LG:=K6.out.1.keep (P:=fun _=>False) (Kept.Be yZ.out (fun _ _=>rfl)) (fun e=>e);have gI:=h_ LG;replace r3:=LG.c3;replace MV:Hid (Dw w4 lo L):=LG.lv;obtain⟨alw,YT⟩:=ex (M.Hou.allows { H with calls:=H.calls+1 } ec);obtain⟨dd,hdd⟩:=ex D.dead;rw[<-YT,<-hdd];have HAD:=h_2 YT hdd;clear YT hdd;have HVS:=h_ hvs;have r0:=LG.c0;have SZ4:=hU (SZ.out w4 yZ.out);clear AL3 q3 q4 LG SZ hvs;go_wp2_with fail;apply(SZ4.out ()).mono;rintro e w5⟨rfl,q5⟩;have WJ:=gI.out.keep (P:=fun _=>False) (Kept.Be q5 (fun _ _=>rfl)) (fun e=>e);have Qq:=h_2 WJ (yZ.out.trans q5);replace r3:=WJ.c3;replace MV:Hid (Dw w5 lo L):=WJ.lv;obtain⟨sz,hsz⟩:=ex (M.total D.files);rw[<-hsz];have HSZ:=h_ hsz;clear SZ4 r0 WJ q5 hsz gI yZ;go_wp2_with fail
 go_loopw [7,8] (fun tl ti wr=>∃(i:Nat)(L':List LV)(ao:Option Addr)(cap:Nat),tl=.slice ao L'.length cap/\ti=iT (i:Int)/\i<=L.length/\L'.length<=i/\Hid (GX w5 L' ao cap wr)/\Hid (L'.map (fun x=>x.l)=(L.take i).filterMap (fun x=>M.Bd ec dd sz x.l)/\∀y∈L',∀a,y.fo=some a\/y.no=some a->∃x∈L,x.fo=some a\/x.no=some a)) (fun _ ti _=>L.length-(intOf ti).toNat)
 case atStart=>exact⟨0,[],none,0,rfl,rfl,zLS _,zLK _,GX.none w5,rfl,fun y hy=>by cases hy⟩
 case round =>
  obtain⟨i,L',ao,cap,rfl,rfl,hi1,hi2,HL,HM⟩:=hrel;have k3:=AA r3 HL.out.q;by_cases hlt:i<L.length
  .obtain⟨x,hx⟩:∃x,L[i]?=some x:=⟨_,zLH hlt⟩;have I4:(i:Int)<(L.length:Int):=by omega
   (obtain⟨g,rfl,hg,hc⟩:=MV.out.row i x hx;have q0:∀j v,x.cells[j]?=some v->wr.cell? (aD g (i*7+j))=some v:=fun j v hv=>AA (hc j v hv) HL.out.q;have x0:=q0 0 _ rfl;have x1:=q0 1 _ rfl;have x2:=q0 2 _ rfl;have x3:=q0 3 _ rfl;have x4:=q0 4 _ rfl;have x5:=q0 5 _ rfl;have x6:=q0 6 _ rfl;rw[Nat.add_zero]at x0;have LR:=hU (Pq ((MV.out.all x (zLR hx)).kept HL.out.q) ec dd);unfold AV at LR;have HX:=h_ hx;clear hx hc q0;go_wp2_with fail;apply(LR.out ()).mono;rintro e w3⟨y,rfl,hyl,hyn,hya,hyo,q3⟩;have q4:Q w3 (w3.alloc (.cells #[.slice y.fo y.l.flushed.AB.length y.fc,iT y.l.flushed.water,.slice y.no y.l.now.AB.length y.nc,iT y.l.now.water,.bool y.l.pending,.bool y.l.dead,.bool y.l.late] 49)):=(Q.refl w3).alloc _ _;obtain⟨hv1,hv2,hv3⟩:=HVS.out x (zLR HX.out);have hle:y.l.lean=x.l.lean:=by unfold M.Lif.lean;rw[hyn]);have LE:Hid _:=fun(_:Unit)=>pX y.fo y.no y.fc y.nc y.l (by rw[hyn];omega) (by rw[hle];omega) (fun v hv=>by rw[hyn]at hv;have:=hv3 v hv;omega) (w3.alloc (.cells #[.slice y.fo y.l.flushed.AB.length y.fc,iT y.l.flushed.water,.slice y.no y.l.now.AB.length y.nc,iT y.l.now.water,.bool y.l.pending,.bool y.l.dead,.bool y.l.late] 49)) (hya.kept q4).n;unfold AV at LE;have hvv:=AZ w3 [.slice y.fo y.l.flushed.AB.length y.fc,iT y.l.flushed.water,.slice y.no y.l.now.AB.length y.nc,iT y.l.now.water,.bool y.l.pending,.bool y.l.dead,.bool y.l.late] 49;obtain⟨w6,V7⟩:=ex (w3.alloc (.cells #[.slice y.fo y.l.flushed.AB.length y.fc,iT y.l.flushed.water,.slice y.no y.l.now.AB.length y.nc,iT y.l.now.water,.bool y.l.pending,.bool y.l.dead,.bool y.l.late] 49));have HL6:Hid (GX w5 L' ao cap w6/\Ca w6 w3.heap.size [.slice y.fo y.l.flushed.AB.length y.fc,iT y.l.flushed.water,.slice y.no y.l.now.AB.length y.nc,iT y.l.now.water,.bool y.l.pending,.bool y.l.dead,.bool y.l.late]):=by rw[V7];exact⟨(HL.out.kept q3).kept q4,hvv⟩
   have HY:Hid (y.At w6/\(∀a,y.fo=some a\/y.no=some a->x.fo=some a\/x.no=some a)/\M.Bd ec dd sz x.l=if(x.l.compact ec dd).2=true/\(ec≠0\/sz<=y.l.lean)then some y.l else none):=⟨by rw[V7];exact hya.kept q4,hyo,by rw[hyl];rfl⟩;obtain⟨ln,zB6⟩:=ex y.l.lean;rw[<-zB6]at LE HY;rw[<-V7]at LE;clear LR x0 x1 x2 x3 x4 x5 x6 k3 q3 q4 HL hyl hyn hya hyo hv1 hv2 hv3 hle hvv zB6;go_wp2_with fail;rw[<-V7];clear V7;apply(LE.out ()).mono;rintro e w7⟨rfl,q7⟩;have R4:=HL6.out.2.kept q7;have v0:=R4.cell 0 rfl;have v1:=R4.cell 1 rfl;have v2:=R4.cell 2 rfl;have v3:=R4.cell 3 rfl;have v4:=R4.cell 4 rfl;have v5:=R4.cell 5 rfl;have v6:=R4.cell 6 rfl;have HL7:=h_2 (HL6.out.1.kept q7) (HY.out.1.kept q7);obtain⟨okb,xL⟩:=ex ((x.l.compact ec dd).2);rw[<-xL];have HO:Hid (M.Bd ec dd sz x.l=if okb=true/\(ec≠0\/sz<=ln)then some y.l else none):=by
    (show M.Bd ec dd sz x.l=_);rw[HY.out.2.2,xL]
   clear LE HL6 R4 q7 xL;by_cases hall:okb=true/\(ec≠0\/sz<=ln)
   .have HO1:Hid (M.Bd ec dd sz x.l=some y.l):=by rw[if_pos hall]at HO;exact HO
    have q5:Q w7 (w7.alloc (.cells #[.slice y.fo y.l.flushed.AB.length y.fc,iT y.l.flushed.water,.slice y.no y.l.now.AB.length y.nc,iT y.l.now.water,.bool y.l.pending,.bool y.l.dead,.bool y.l.late] 49)):=(Q.refl w7).alloc _ _;have hL5:=HL7.out.1.kept q5;have hown5:=hL5.own;have hlow:y.Off (Value.slice ao L'.length cap).ownBlock:=fun a ha e=>by
     have h1:=(hown5.lt _ e).1;have h2:=(MV.out.all x (zLR HX.out)).lt (a:=a) (HY.out.2.1 a ha);omega
    have hsz:w5.heap.size<=w7.heap.size:=HL7.out.1.q.below.size;have y1:∀j u,y.cells[j]?=some u->(w7.alloc (.cells #[.slice y.fo y.l.flushed.AB.length y.fc,iT y.l.flushed.water,.slice y.no y.l.now.AB.length y.nc,iT y.l.now.water,.bool y.l.pending,.bool y.l.dead,.bool y.l.late] 49)).cell? (((aD w7.heap.size 0):Addr).add j)=some u:=by
     have:=FV w7 y 49;unfold AV at this;exact this
    obtain⟨v',w',hrun,hown',hgrow,_⟩:=run_append_own (P:=Tryz.prog) _ w5.heap.size 36 36 49 i0 (.agg #[nS,iT 0,nS,iT 0,.bool false,.bool false,.bool false]) 7 72 Tryz.underlying36 hi hz0 hz1 hz2 rfl (by decide) _ _ _ hown5 (aD w7.heap.size 0) 1 1 y.cells rfl y1 (H7 y) (by unfold maxLen;omega) (by omega) (by simp;omega);have Gy:=BQ (ty:=36) Tryz.underlying36 hi hz0 hz1 hz2 hown5 (m:=1) (c:=1) rfl y1 (H7 y) (by decide) (by unfold maxLen;omega) (by omega) hrun;obtain⟨Er,Bn,hv⟩:=Ac hown';rw[hv]at hown' Gy hrun;have HP:=h_ (hL5.push (HL7.out.2.kept q5) hlow hgrow hown' Gy);have hln:(L'++[y]).length=L'.length+1:=by simp
    rw[<-hln]at hrun;have HR:Hid ((L'++[y]).map (fun x=>x.l)=(L.take (i+1)).filterMap (fun x=>M.Bd ec dd sz x.l)/\∀y'∈L'++[y],∀a,y'.fo=some a\/y'.no=some a->∃x∈L,x.fo=some a\/x.no=some a):=⟨by
     have h1:=HM.out.1;rw[zLv,HX.out,List.filterMap_append,List.map_append,h1];simp[HO1.out],fun z hz=>by
     (have:z∈L'\/z=y:=by simpa using hz);rcases this with e|e
     .exact HM.out.2 z e
     .rw[e];exact fun a ha=>⟨x,zLR HX.out,HY.out.2.1 a ha⟩⟩
    clear hown' hgrow Gy hv hown5 y1 hL5 hlow q5 HO;obtain⟨rfl,hor⟩:=hall;by_cases he0:ec=0
    .subst he0;have hsl:sz<=ln:=by
      rcases hor with e|e
      .exact absurd rfl e
      .exact e
     ((((have zAo:(sz:Int)<=(ln:Int):=by omega);go_wp2_with(at_builtin;refine Lib.wpList_append_run _ rfl _ _ _ _ rfl _ _ rfl rfl _ _ hrun ?_);clear hrun;go_wp2_with fail);go_roundw);case rel=>exact⟨i+1,L'++[y],Er,Bn,by rw[hln],by go_num,by omega,by simp;omega,HP,HR⟩);case measure=>simp[intOf];omega
    ·(((((have hnb:(ec != 0)=true:=by simp[he0]);have hnf:(ec==0)=false:=by simp[he0]);go_wp2_with(at_builtin;refine Lib.wpList_append_run _ rfl _ _ _ _ rfl _ _ rfl rfl _ _ hrun ?_);clear hrun;go_wp2_with fail);go_roundw);case rel=>exact⟨i+1,L'++[y],Er,Bn,by rw[hln],by go_num,by omega,by simp;omega,HP,HR⟩);case measure=>simp[intOf];omega
   .have HR:Hid (L'.map (fun x=>x.l)=(L.take (i+1)).filterMap (fun x=>M.Bd ec dd sz x.l)/\∀y'∈L',∀a,y'.fo=some a\/y'.no=some a->∃x∈L,x.fo=some a\/x.no=some a):=⟨by
     have h1:=HM.out.1;rw[if_neg hall]at HO;rw[zLv,HX.out,List.filterMap_append,h1];simp[HO.out],HM.out.2⟩
    clear HO
    cases hk:okb
    ·(((subst hk;go_wp2_with fail);go_roundw);case rel=>exact⟨i+1,L',ao,cap,rfl,by go_num,by omega,by omega,HL7.out.1,HR⟩);case measure=>simp[intOf];omega
    ·((((have he0:ec=0:=Classical.byContradiction fun e=>hall ⟨hk,Or.inl e⟩;have hsl:¬sz<=ln:=fun e=>hall ⟨hk,Or.inr e⟩;have zAo:¬(sz:Int)<=(ln:Int):=by omega);subst hk he0;clear hall;go_wp2_with fail);go_roundw);case rel=>exact⟨i+1,L',ao,cap,rfl,by go_num,by omega,by omega,HL7.out.1,HR⟩);case measure=>simp[intOf];omega
  .obtain rfl:i=L.length:=by omega
   have f3:wr.frozen? (aD h 3)=false:=(HL.out.q.below.frozen (p:=(aD h 3)) Qq.out.1.top).trans (Qq.out.1.fr 3);have f8:wr.frozen? (aD h 8)=false:=(HL.out.q.below.frozen (p:=(aD h 8)) Qq.out.1.top).trans (Qq.out.1.fr 8);have k8:=AA Qq.out.1.c8 HL.out.q;have k7:=AA Qq.out.1.c7 HL.out.q;have k9:=AA Qq.out.1.c9 HL.out.q;obtain⟨hT,R5⟩:=Qq.out.1.turn HL.out (fun y hy a ha=>Or.inl (HM.out.2 y hy a ha));obtain⟨g8,m8⟩:=hT.set 8 (.bool (decide (ec=0))) (H':={ H with calls:=H.calls+1,quiet:=decide (ec=0)}) (by omega) rfl rfl rfl rfl rfl rfl rfl rfl rfl;obtain⟨W8,fU⟩:=ex ((wr.setCell (aD h 3) (.slice ao L'.length cap)).setCell (aD h 8) (.bool (decide (ec=0))));rw[<-fU]at g8 m8;have HE:Hid (A7 W8 (Co.more w5.heap.size rr 1) rr h (pT d) (pT s) ao cap L' { H with calls:=H.calls+1,quiet:=decide (ec=0)}/\Kept (·=rr) Co w2 (Co.more w5.heap.size rr 1) W8):=⟨g8,((Kept.Be Qq.out.2 (fun _ _=>rfl)).wider (R:=(·=rr)) (P:=fun _=>False) (fun x e=>e.elim)).trans (R5.trans m8)⟩;have hml:L'.map (fun x=>x.l)=L.filterMap (fun x=>M.Bd ec D.dead (M.total D.files) x.l):=by
    have h1:=HM.out.1;rw[zM0,HAD.out.2,HSZ.out]at h1;exact h1
   have HF:Hid (∀(k:Nat)(tgN:Tags)(W:World)(e:Ending),(k=1\/k=2)->A7 W tgN rr h (pT d) (pT s) ao cap L' { H with calls:=H.calls+k,quiet:=decide (ec=0)}->Kept (·=rr) Co w2 tgN W->e=.returned (.bool (alw&&decide (0<L'.length)))->K9 Out tg rr o od h s d L H w e W):=by
    rintro k tgN W e hk hh8 hf2 rfl;obtain⟨_,hO,hK,hD,_⟩:=K6.out;exact⟨ec,Co,D,w2,tgN,L',ao,cap,a,b,k,hO,by rw[HAD.out.1],hml,hh8,hk,hD.keep hf2.size hf2.tags (fun k hk e=>hf2.block k hk (by rw[e];exact fun e=>hne.2 e.symm)),((H1.out.2.wider (fun x e=>Or.inr (Or.inr e))).trans (hK.wider (fun x e=>by rcases e with e|e<;>simp[e]))).trans (hf2.wider (fun x e=>Or.inr (Or.inr e))),hf2⟩
   clear hT R5 g8 m8 HM HL hml;by_cases hgo:alw=true/\0<L'.length
   ·(obtain⟨rfl,hpos⟩:=hgo;have hpI:¬((L'.length:Int)=0):=by omega);by_cases hst:ec=0/\H.flipped=false/\H.armed=false
    .obtain⟨rfl,hfl,har⟩:=hst;have hd1:decide ((0:Int)=0)=true:=rfl;rw[hd1]at HF HE fU;rw[hfl]at k7;rw[har]at k9;obtain⟨hal,hC⟩:=Sj.out rfl hfl har;have hF:=K6.out.2.2.2.2;have zl:=K6.out.2.2.2.1.keep HE.out.2.size HE.out.2.tags (fun k hk e=>HE.out.2.block k hk (by rw[e];exact fun e=>hne.2 e.symm));have FI:=hU (QH HE.out.1 zl hF hal);have HC:Hid (D.dead=false/\D.BS/\∀U5 W,Kept (·=rr) Co w2 U5 W->Calls Tryz.prog 55 #[pT s] W fun e W'=>e=.returned (iT 0)/\Q W W'):=⟨hal,hF,hC⟩;clear hal hC hF zl Sj hd1;go_wp2_with fail;rw[<-fU];clear fU f3 f8 k7 k8 k9;apply(FI.out ()).mono;rintro e w9⟨ao9,sO,rfl,hP9⟩;have q9:Q W8 w9:=⟨hP9.below⟩;have uM:=HE.out.1.keep (P:=fun _=>False) (Kept.Be q9 (fun _ _=>rfl)) (fun e=>e);have hK9:=HE.out.2.trans ((Kept.Be q9 (fun _ _=>rfl)).wider (R:=(·=rr)) (P:=fun _=>False) (fun x e=>e.elim));have c5:=uM.c5;have f5:=uM.fr 5;have c2:=uM.c2;have e9:IntKind.i64.wrap (((H.calls+1:Nat):Int)+1)=((H.calls+1:Nat):Int)+1:=by rw[IntKind.wrap_i64];omega
     obtain⟨xP,zAX⟩:=uM.vV (v:=(H.calls:Int)+1+1) (by simp);have qp:=hK9.trans zAX;obtain⟨Uw,qL⟩:=ex (w9.setCell (aD h 5) (iT ((H.calls:Int)+1+1)));have hrow:Uw.ownsRow 0 9 1 (.slice ao9 D.list.length sO) D.list.length (AX D.list):=by
      (rw[qL];refine Ai (Ll hP9.own (zLS _)) (fun g hg=>heap_setCell_other _ (aD h 5) g _ (fun e=>?_));have h1:=(hP9.own.lt g hg).1;have h2:=HE.out.1.top;have h3:h=g:=by simpa using e.symm);omega
     rw[<-qL]at xP qp;have H10:=h_3 xP qp hrow;have CO:=hU (HC.out.2.2 _ Uw qp);clear FI hP9 q9 uM hK9 xP zAX qp hrow;go_wp2_with fail;rw[<-qL];clear qL c5 f5 c2;apply(CO.out ()).mono;rintro e y9⟨rfl,q11⟩;have xO:=H10.out.1.keep (P:=fun _=>False) (Kept.Be q11 (fun _ _=>rfl)) (fun e=>e);have kZ:=H10.out.2.1.trans ((Kept.Be q11 (fun _ _=>rfl)).wider (R:=(·=rr)) (P:=fun _=>False) (fun x e=>e.elim));have zBe:=K6.out.2.2.2.1.keep kZ.size kZ.tags (fun k hk e=>kZ.block k hk (by rw[e];exact fun e=>hne.2 e.symm));have FJ:=hU (QH xO zBe HC.out.2.1 HC.out.1);have H11:Hid (A7 y9 (Co.more w5.heap.size rr 1) rr h (pT d) (pT s) ao cap L' { H with calls:=H.calls+1+1,quiet:=true }/\Kept (·=rr) Co w2 (Co.more w5.heap.size rr 1) y9/\y9.ownsRow 0 9 1 (.slice ao9 D.list.length sO) D.list.length (AX D.list)):=⟨xO,kZ,Ai H10.out.2.2 (fun g hg=>q11.below.block g (H10.out.2.2.lt g hg).2)⟩;clear CO q11 xO kZ zBe H10;go_wp2_with fail;apply(FJ.out ()).mono;rintro e w12⟨zFc,zBr,rfl,xg⟩;have XI:Q y9 w12:=⟨xg.below⟩;have hh12:=H11.out.1.keep (P:=fun _=>False) (Kept.Be XI (fun _ _=>rfl)) (fun e=>e);have kY:=H11.out.2.1.trans ((Kept.Be XI (fun _ _=>rfl)).wider (R:=(·=rr)) (P:=fun _=>False) (fun x e=>e.elim));have hll:D.list.length<=1048576:=by
      (have h1:=vM D.files;have h2:=HC.out.2.1.good.few;show(D.files.map M.Fil.two).flatten.length<=_);omega
     have SM:=hU (VL D.list ao9 zFc sO zBr w12 hll (Ai H11.out.2.2 (fun g hg=>XI.below.block g (H11.out.2.2.lt g hg).2)) (Ll xg.own (zLS _)));have H12:=h_2 hh12 kY;clear FJ xg XI hh12 kY hll H11;go_wp2_with fail;apply(SM.out ()).mono;rintro e w13⟨rfl,og⟩;have xN:=H12.out.1.keep (P:=fun _=>False) (Kept.Be og (fun _ _=>rfl)) (fun e=>e);have zBX:=H12.out.2.trans ((Kept.Be og (fun _ _=>rfl)).wider (R:=(·=rr)) (P:=fun _=>False) (fun x e=>e.elim));have RO:Hid _:=fun(_:Unit)=>QF xN (by show H.calls+1+1<=_;omega) hby;have H13:=h_2 xN zBX;clear SM og xN zBX H12;go_wp2_with fail;apply(RO.out ()).mono;rintro e w14⟨rfl,q14⟩;have zFv:Hid (K9 Out tg rr o od h s d L H w (.returned (.bool true)) w14):=HF.out 2 _ _ _ (Or.inr rfl) (H13.out.1.keep (P:=fun _=>False) (Kept.Be q14 (fun _ _=>rfl)) (fun e=>e)) (H13.out.2.trans ((Kept.Be q14 (fun _ _=>rfl)).wider (R:=(·=rr)) (P:=fun _=>False) (fun x e=>e.elim))) (by simp[hpos]);clear RO q14 H13 HF;go_wp2;go_ret;exact zFv.out
    .have hcs:(ec==0)=false\/((ec==0)=true/\H.flipped=true)\/((ec==0)=true/\H.flipped=false/\H.armed=true):=by
      by_cases e:ec=0
      .right
       cases hfl:H.flipped with
       |true=>exact Or.inl ⟨by rw[e];rfl,rfl⟩
       |false =>
        right
        cases har:H.armed with
        |true=>exact⟨by rw[e];rfl,rfl,rfl⟩
        |false=>exact absurd ⟨e,hfl,har⟩ hst
      .exact Or.inl (by simp[e])
     have kS:(ec==0)=decide (ec=0):=by
      by_cases e:ec=0<;>simp[e]
     have hnn:(ec != 0)=!(ec==0):=rfl;obtain⟨qt,hqt⟩:=ex (decide (ec=0));rw[<-hqt]at HF HE fU kS;clear hqt hst;rcases hcs with h1|⟨h1,h2⟩|⟨h1,h2,h3⟩
     all_goals
      (((rw[h1]at kS hnn;subst kS);try rw[h2]at k7);try rw[h3]at k9);go_wp2;go_ret;exact HF.out 1 _ _ _ (Or.inl rfl) (by have h9:=HE.out.1;rw[fU]at h9;exact h9) (by have h9:=HE.out.2;rw[fU]at h9;exact h9) (by simp[hpos])
   .have hfa:(alw&&decide (0<L'.length))=false:=by
     cases alw
     .rfl
     .simp only[Bool.true_and,decide_eq_false_iff_not];exact fun e=>hgo ⟨rfl,e⟩
    rw[hfa]at HF;have hdc:ec=0\/(ec==0)=false:=by
     by_cases e:ec=0
     .exact Or.inl e
     .exact Or.inr (by simp[e])
    have kS:(ec==0)=decide (ec=0):=by
     by_cases e:ec=0<;>simp[e]
    obtain⟨qt,hqt⟩:=ex (decide (ec=0));rw[<-hqt]at HF HE fU kS;clear hqt hdc
    cases ha:alw
    .subst ha;go_wp2;go_ret;exact HF.out 1 _ _ _ (Or.inl rfl) (by have h9:=HE.out.1;rw[fU]at h9;exact h9) (by have h9:=HE.out.2;rw[fU]at h9;exact h9) (by simp)
    .have hz:L'.length=0:=by
      have:¬0<L'.length:=fun e=>hgo ⟨ha,e⟩;omega
     (subst ha;have hzI:(L'.length:Int)=0:=by omega);go_wp2;go_ret;exact HF.out 1 _ _ _ (Or.inl rfl) (by have h9:=HE.out.1;rw[fU]at h9;first|exact h9|(rw[hz]at h9;exact h9)) (by have h9:=HE.out.2;rw[fU]at h9;first|exact h9|(rw[hz]at h9;exact h9)) (by simp)
end
namespace M
def Fil.full(f:Fil):Fil:={ f with synced:=f.bytes.length }
def FE(D:Dsk)(i:Nat):Dsk:=⟨D.cap,(D.files.take i).map Fil.full,false,0⟩
theorem aK(fs:List Fil):total (fs.map Fil.full)=total fs:=by
 unfold total;rw[List.map_map];rfl
theorem Kb{α:Type}{p:α->Bool}:∀{l:List α},(∀x∈l,p x=true)->l.takeWhile p=l/\l.dropWhile p=[]
 |[],_=>⟨rfl,rfl⟩
 |x::l,h=>by
  have h1:=Kb (l:=l) (fun y hy=>h y (List.mem_cons_of_mem _ hy));rw[zLt,List.dropWhile_cons,h x (List.mem_cons_self ..),if_pos rfl,if_pos rfl,h1.1,h1.2];exact⟨rfl,rfl⟩
theorem wD{fs:List Fil}{f:Fil}(h:∀x∈fs,Op.bytesLess x.name.toList f.name.toList=true):put fs f=fs++[f]:=by
 have hb:∀x∈fs,(!beyond f.name x)=true:=fun x hx=>by
  unfold beyond;rw[h x hx];rfl
 unfold put;rw[(Kb hb).1,(Kb hb).2]
theorem bO{fs:List Fil}{nm:BA}(h:∀x∈fs,Op.bytesLess x.name.toList nm.toList=true):place fs nm=none:=by
 unfold place;rw[List.findIdx?_eq_none_iff];intro x hx;have:=h x hx;unfold named;rw[zM9];intro e;rw[e,Ci]at this
 cases this
theorem SQ{D:Dsk}(h:D.BS){i:Nat}{f:Fil}(hf:D.files[i]?=some f):
  ∃E,(FE D i).append f.name f.bytes=(E,0)/\E.sync f.name=(FE D (i+1),0):=by
 have hi:i<D.files.length:=(zLI.1 hf).1;have hlt:∀x∈(FE D i).files,Op.bytesLess x.name.toList f.name.toList=true:=fun x hx=>by
  obtain⟨y,hy,rfl⟩:=List.mem_map.1 hx;obtain⟨j,hj,e⟩:=List.mem_take_iff_getElem.1 hy;have hj':j<i/\j<D.files.length:=by omega
  exact h.sorted.get (i:=j) (j:=i) (a:=y) (by rw[<-e];exact zLH hj'.2) hf hj'.1
 have hpl:=bO hlt;have htake:D.files.take (i+1)=D.files.take i++[f]:=by rw[zLv,hf];rfl
 have htot:total (FE D i).files+f.bytes.length<=D.cap:=by
  have h1:total (D.files.take (i+1))<=total D.files:=by
   have h2:D.files=D.files.take (i+1)++D.files.drop (i+1):=(zLq ..).symm;have h3:=G6 (D.files.take (i+1)) (D.files.drop (i+1));rw[<-h2]at h3;omega
  rw[htake,G6]at h1;have h2:total [f]=f.bytes.length:=by simp[total]
  have h3:total (FE D i).files=total (D.files.take i):=aK _;have:=h.good.fits;have:=h.good.cap;omega
 have hlen:(FE D i).files.length<64:=by
  have:=h.good.few;show((D.files.take i).map Fil.full).length<64
  rw[zM2,zM6];omega
 have hok:=h.good.name f (zLR hf);refine⟨⟨D.cap,(FE D i).files++[⟨f.name,f.bytes,0⟩],false,0⟩,?_,?_⟩
 .unfold Dsk.append;rw[if_neg (by simp[FE]),hok,if_neg (by simp),if_neg (by
   rintro(e|⟨_,e⟩)
   .have:(FE D i).cap=D.cap:=rfl;omega
   .omega)]
  have hd:(FE D i).dies=(FE D i,false):=rfl;rw[hd];simp only;rw[hpl];simp only;rw[wD (f:=⟨f.name,f.bytes,0⟩) hlt];rfl
 .have hp2:place ((FE D i).files++[⟨f.name,f.bytes,0⟩]) f.name=some (FE D i).files.length:=by
   refine ZN (f:=⟨f.name,f.bytes,0⟩) (by simp) (EK.2 rfl) (fun k hk g hg=>?_);rw[zMA hk]at hg;exact Mh hpl g (zLR hg)
  unfold Dsk.sync Dsk.changed;rw[if_neg (by simp)];simp only;rw[hp2];simp only;rw[if_neg (by decide)];have hd:Dsk.dies ⟨D.cap,(FE D i).files++[⟨f.name,f.bytes,0⟩],false,0⟩=(⟨D.cap,(FE D i).files++[⟨f.name,f.bytes,0⟩],false,0⟩,false):=rfl;rw[hd];simp only;rw[EL _ (a:=⟨f.name,f.bytes,0⟩) (by simp),List.set_append_right _ _ (zLK _),Nat.sub_self];unfold FE;rw[htake,List.map_append];rfl
theorem IY{D:Dsk}(h:D.BS):∀i,i<=D.files.length->(FE D i).BS
 |0,_=>Zl h.good.cap
 |i+1,hi=>by
  obtain⟨E,h1,h2⟩:=SQ h (zLH (show i<D.files.length by omega));have h3:=(IY h i (by omega)).append (D.files[i]).name (D.files[i]).bytes;rw[h1]at h3;have h4:=h3.sync (D.files[i]).name;rw[h2]at h4;exact h4
end M
section
open Go.RowKit
variable{D E:M.Dsk}{Gx d d2 h lc od rr:Nat}{H:M.Hou}{L:List LV}{ao lo:Option Addr}{ids ps:List Nat}{sv:Value}{tg:Tags}{w wr:World}
def Fg(w:World)(tg:Tags)(rr od Gx h d d2:Nat)(sv:Value)(lo:Option Addr)(lc:Nat)(L:List LV)(H:M.Hou)(D:M.Dsk)(ids ps:List Nat)(ao:Option Addr)(E:M.Dsk)(wr:World):Prop:=
 ∃(Cr:Tags)(QB jA:List Nat),Kept (·=Gx) tg w Cr wr/\A7 wr Cr rr h (pT d) sv lo lc L H/\AJ wr Cr od d D ids ps/\AJ wr Cr Gx d2 E QB jA /\
  ∀(j:Nat)(f:M.Fil),D.files[j]?=some f->∃g,ao=some (aD g 0)/\wr.cell? (aD g j)=some (sT f.name)/\g<wr.heap.size/\(Cr g).1=rr
theorem Fg.at(hc:Fg w tg rr od Gx h d d2 sv lo lc L H D ids ps ao E wr):
  wr.cell? (aD h 0)=some (pT d)/\wr.frozen? (aD h 0)=false/\(∀(j:Nat)(f:M.Fil),D.files[j]?=some f->∃g,ao=some (aD g 0)/\wr.cell? (aD g j)=some (sT f.name)):=by
 obtain⟨Cr,QB,jA,hK,hR,hD,hE,hN⟩:=hc;refine⟨hR.c0,hR.fr 0,fun j f hf=>?_⟩;obtain⟨g,h1,h2,_⟩:=hN j f hf;exact⟨g,h1,h2⟩
theorem Fg.turn(hc:Fg w tg rr od Gx h d d2 sv lo lc L H D ids ps ao E wr)(h1:rr≠Gx)(h2:od≠Gx):
  ∃(Cr:Tags)(QB jA:List Nat),AJ wr Cr Gx d2 E QB jA/\AJ wr Cr od d D ids ps/\∀(E':M.Dsk)(w':World),Bg Cr Gx d2 E' wr w'->Fg w tg rr od Gx h d d2 sv lo lc L H D ids ps ao E' w':=by
 obtain⟨Cr,QB,jA,hK,hR,hD,hE,hN⟩:=hc;refine⟨Cr,QB,jA,hE,hD,fun E' w' hL=>?_⟩;obtain⟨AU,Al,ps',ht,hE',ho⟩:=hL;have hK':Kept (·=Gx) Cr wr AU w':=Kept.DI ho ht rfl;refine⟨AU,Al,ps',hK.trans hK',hR.keep hK' h1,hD.keep hK'.size hK'.tags (fun k hk e=>hK'.block k hk (by rw[e];exact h2)),hE',fun j f hf=>?_⟩;obtain⟨g,g1,g2,g3,g4⟩:=hN j f hf;have hB:=hK'.block g g3 (by rw[g4];exact h1);exact⟨g,g1,(zMI (a:=(aD g j)) hB).trans g2,zLJ g3 hK'.size,by rw[hK'.tags g g3];exact g4⟩
theorem Fg.q{w:World}{tg:Tags}{rr od Gx h d d2:Nat}{sv:Value}{lo:Option Addr}{lc:Nat}{L:List LV}{H:M.Hou}{D:M.Dsk}{ids ps:List Nat}{ao:Option Addr}{E:M.Dsk}{wr w':World}(hc:Fg w tg rr od Gx h d d2 sv lo lc L H D ids ps ao E wr)(q:Q wr w'):Fg w tg rr od Gx h d d2 sv lo lc L H D ids ps ao E w':=by
 obtain⟨Cr,QB,jA,hK,hR,hD,hE,hN⟩:=hc;have hK':Kept (fun _=>False) Cr wr Cr w':=Kept.Be q (fun _ _=>rfl);refine⟨Cr,QB,jA,hK.trans (hK'.wider (fun x e=>e.elim)),hR.keep hK' (fun e=>e),hD.keep hK'.size hK'.tags (fun k hk e=>hK'.block k hk (fun e=>e)),hE.keep hK'.size hK'.tags (fun k hk e=>hK'.block k hk (fun e=>e)),fun j f hf=>?_⟩;obtain⟨g,g1,g2,g3,g4⟩:=hN j f hf;exact⟨g,g1,AA g2 q,zLJ g3 hK'.size,g4⟩
theorem Nj(hh:A7 w tg rr h (pT d) sv lo lc L H)(hD:AJ w tg od d D ids ps)(hF:D.BS)(ha:D.dead=false)(hcap:H.cap=D.cap)(h1:rr≠Gx)(h2:od≠Gx):
  Calls Tryz.prog 16 #[pT h] w fun e w'=>e=.returned (.bool true)/\∃(AU:Tags)(d':Nat)(Al ps':List Nat),w.heap.size<=d'/\Kept (fun x=>x=rr\/x=Gx) tg w AU w'/\A7 w' AU rr h (pT d') sv lo lc L H/\AJ w' AU Gx d' (M.FE D D.files.length) Al ps':=by
 have Ef:=hF.good.few;have hcc:=hF.good.cap;have DN:=hU (QZ D.cap hcc tg Gx w);have r0:=hh.c0;have r1:=hh.c1;rw[hcap]at r1;have HH:=h_4 hh hD hF ha;go_in;go_wp2_with fail;apply(DN.out ()).mono;rintro e w1⟨rfl,hL1,q1⟩;have k0:=AA r0 q1;have NM:=MH tg od d D ids ps HH.out.2.2.1 w1 (HH.out.2.1.keep q1.below.size (fun _ _=>rfl) (fun k hk _=>q1.below.block k hk));have hnl:D.names.length=D.files.length:=by unfold M.Dsk.names;rw[HH.out.2.2.2,if_neg (by simp),zM2]
 rw[hnl]at NM;have mg:=hU NM;have HL1:=h_2 hL1 q1;go_wp2_with fail;apply(mg.out ()).mono;rintro e w2⟨ao,cap,rfl,hN⟩;have HC:Hid (Fg w tg rr od Gx h d w.heap.size sv lo lc L H D ids ps ao (M.FE D 0) w2):=by
  obtain⟨hL1,q1⟩:=HL1.out;have q2:Q w1 w2:=⟨hN.below⟩;have t0:∀k,k<w.heap.size->((tg.more w.heap.size Gx 0).more w1.heap.size rr 1) k=tg k:=fun k hk=>by
   rw[Tags.AQ (zLJ hk q1.below.size),Tags.AQ hk]
  have t1:∀k,k<w1.heap.size->((tg.more w.heap.size Gx 0).more w1.heap.size rr 1) k=(tg.more w.heap.size Gx 0) k:=fun k hk=>Tags.AQ hk;have hK:Kept (fun _=>False) tg w ((tg.more w.heap.size Gx 0).more w1.heap.size rr 1) w2:=Kept.Be (q1.trans q2) t0;refine⟨_,[],[],hK.wider (fun x e=>e.elim),HH.out.1.keep hK (fun e=>e),HH.out.2.1.keep hK.size hK.tags (fun k hk e=>hK.block k hk (fun e=>e)),hL1.keep q2.below.size t1 (fun k hk _=>q2.below.block k hk),fun j f hf=>?_⟩;have hv:(Fp D.names)[j]?=some (sT f.name):=by
   unfold Fp M.Dsk.names;rw[HH.out.2.2.2,if_neg (by simp)];simp[hf]
  obtain⟨g,hg,hg1,hg2,hc⟩:=Cv hN.own (fun e=>by rw[e]at hv;simp at hv);have hgl:=hN.own.lt g (by rw[hg];rfl);exact⟨g,hg,hc j _ hv,hgl.2,by rw[Tags.Ay hgl.1]⟩
 have hFF:Hid D.BS:=HH.out.2.2.1;have hdd:=h_ HH.out.2.2.2;go_wp2_with fail
 go_loopw [6] (fun ti wr=>∃i:Nat,ti=iT (i:Int)/\i<=D.files.length/\Hid (Fg w tg rr od Gx h d w.heap.size sv lo lc L H D ids ps ao (M.FE D i) wr)) (fun ti _=>D.files.length-(intOf ti).toNat)
 case atStart=>exact⟨0,rfl,zLS _,HC⟩
 case round =>
  obtain⟨i,rfl,hi,HC⟩:=hrel;obtain⟨c0,f0,hn⟩:=HC.out.at;by_cases hlt:i<D.files.length
  .obtain⟨f,hf⟩:∃f,D.files[i]?=some f:=⟨_,zLH hlt⟩;obtain⟨g,rfl,cn⟩:=hn i f hf;have I4:(i:Int)<(D.files.length:Int):=by omega
   obtain⟨Cr,QB,jA,hE,hDo,hT⟩:=HC.out.turn h1 h2;have RD:=fun(W:World)(q:Q wr W)=>MG Cr od d D ids ps hFF.out f.name W (hDo.keep q.below.size (fun _ _=>rfl) (fun k hk _=>q.below.block k hk));rw[M.O5 hFF.out hdd.out hf]at RD;dsimp only at RD;have RDH:Hid _:=RD;have HF:=h_ hf;go_wp2_with fail
   go_region_held3 (fun w'=>w'.cell? (aD h 0)=some (pT d)/\w'.cell? (aD g i)=some (sT f.name))
    (first|exact⟨c0,cn⟩|exact Db)
    (first|(go_at_call 26;apply(RDH.out _ ((Q.refl wr).drew)).mono;rintro e w4⟨rfl,q4⟩;have Db:w4.cell? (aD h 0)=some (pT d)/\w4.cell? (aD g i)=some (sT f.name):=⟨AA c0 (((Q.refl wr).drew).trans q4),AA cn (((Q.refl wr).drew).trans q4)⟩))
   all_goals
    have HC4:=h_ (HC.out.q (((Q.refl wr).drew).trans q4));obtain⟨E,hap,hsy⟩:=M.SQ hFF.out HF.out;obtain⟨zDo,zAb,zE6,hE4,_,kV⟩:=HC4.out.turn h1 h2;have AP:=NE zDo Gx w.heap.size (M.FE D i) zAb zE6 (M.IY hFF.out i hi) f.name ⟨f.bytes.toArray⟩ w4 hE4;rw[show(⟨f.bytes.toArray⟩:BA).data.toList=f.bytes from rfl,hap]at AP;dsimp only at AP;have APH:=hU AP;have HT4:Hid _:=kV;have HEF:Hid E.BS:=by
     have:=(M.IY hFF.out i hi).append f.name f.bytes;rw[hap]at this;exact this
    (((((have HSY:=h_ hsy;obtain⟨c0,f0,hn⟩:=HC4.out.at;obtain⟨g',hg',cn⟩:=hn i f HF.out;obtain rfl:g=g':=by injection hg' with e;injection e);go_wp2_with fail;apply(APH.out ()).mono;rintro e w5⟨rfl,hL5⟩;have HC5:Hid (Fg w tg rr od Gx h d w.heap.size sv lo lc L H D ids ps (some (aD g 0)) E w5):=HT4.out _ _ hL5;obtain⟨zDn,zAa,zE5,hE5,_,hT5⟩:=HC5.out.turn h1 h2;have SY:=UI zDn Gx w.heap.size E zAa zE5 HEF.out f.name w5 hE5;rw[HSY.out]at SY;dsimp only at SY;have SYH:=hU SY;have HT5:Hid _:=hT5;obtain⟨c0,f0,hn⟩:=HC5.out.at;obtain⟨g',hg',cn⟩:=hn i f HF.out;obtain rfl:g=g':=by injection hg' with e;injection e);go_wp2_with fail;apply(SYH.out ()).mono;rintro e w6⟨rfl,hL6⟩;have HC6:Hid (Fg w tg rr od Gx h d w.heap.size sv lo lc L H D ids ps (some (aD g 0)) (M.FE D (i+1)) w6):=HT5.out _ _ hL6;go_wp2_with fail);go_roundw);case rel=>exact⟨i+1,by go_num,by omega,HC6⟩);case measure=>simp[intOf];omega
  .obtain rfl:i=D.files.length:=by omega
   go_wp2;go_ret;obtain⟨Cr,QB,jA,hK,hR,hDo,hE,_⟩:=HC.out;obtain⟨hR',hK'⟩:=hR.set 0 (pT w.heap.size) (ru:=pT w.heap.size) (oF:=sv) (H':=H) (by omega) rfl rfl rfl rfl rfl rfl rfl rfl rfl;exact⟨rfl,Cr,w.heap.size,QB,jA,zLK _,(hK.wider (fun x e=>Or.inr e)).trans (hK'.wider (fun x e=>Or.inl e)),hR',hE.keep hK'.size hK'.tags (fun k hk e=>hK'.block k hk (by rw[e];exact fun e=>h1 e.symm))⟩
def zHi(fp was:Bool)(sv:Value)(ec:Int)(D:M.Dsk):Prop:=
 (ec=0/\D.dead=false/\was=false/\∃s,sv=pT s)\/(ec=10/\D.dead=true/\sv=.pointer none)\/(ec=3/\D.dead=false/\was=false/\sv=.pointer none/\fp=true)
structure zCZ(w:World)(tg:Tags)(rr od Gx h:Nat)(ls:List M.Lif)(H:M.Hou)(D:M.Dsk)(w3:World)(Co:Tags)(d':Nat)(L':List LV)(lo':Option Addr)(IC:Nat):Prop where
 hou:A7 w3 Co rr h (pT d') (.pointer none) lo' IC L' { H with calls:=H.calls+1 }
 map:L'.map (fun x=>x.l)=(ls.map M.Lif.again).flatten
 disk:(¬(D.dead=false/\H.armed=false)/\(∃i j,AJ w3 Co od d' D i j)/\Kept (·=rr) tg w Co w3)\/(D.dead=false/\H.armed=false/\(∃i j,AJ w3 Co Gx d' (M.FE D D.files.length) i j)/\Kept (fun x=>x=rr\/x=Gx) tg w Co w3)
def Ic(Fin:Value->Int->Tags->M.Dsk->Nat->List LV->World->Prop)(rr od h:Nat)(H:M.Hou)(e:Ending)(w':World):Prop:=
 ∃(sv:Value)(ec:Int)(Em:Tags)(D4:M.Dsk)(w4:World)(d':Nat)(L':List LV)(lo':Option Addr)(IC:Nat)(i j:List Nat),e=.returned (.bool true)/\Fin sv ec Em D4 d' L' w4/\A7 w' Em rr h (pT d') sv lo' IC L' { H with calls:=H.calls+1,quiet:=decide (ec=0)}/\AJ w' Em od d' D4 i j/\Kept (·=rr) Em w4 Em w'
theorem WB{Fin:Value->Int->Tags->M.Dsk->Nat->List LV->World->Prop}(hh:A7 w tg rr h (pT d) sv lo lc L H)(hD:AJ w tg od d D ids ps)(hF:D.BS)(hcap:H.cap=D.cap)(hne:rr≠od/\rr≠Gx/\od≠Gx)(hL:L.length<=1048576)(hcl:H.calls<=4194303)(hby:H.bytes<=16777216)(OP:∀w3 Co d' L' lo' IC,zCZ w tg rr od Gx h (L.map fun x=>x.l) H D w3 Co d' L' lo' IC->Calls Tryz.prog 20 #[pT d'] w3 fun e w4=>∃sv ec Em D4 i j,e=.returned (.tuple #[sv,iT ec])/\zHi H.flipped D.dead sv ec D4/\D4.BS/\A7 w4 Em rr h (pT d') (.pointer none) lo' IC L' { H with calls:=H.calls+1 }/\AJ w4 Em od d' D4 i j/\Fin sv ec Em D4 d' L' w4):
  Calls Tryz.prog 12 #[pT h] w fun e w'=>Ic Fin rr od h H e w':=by
 have c5:=hh.c5;have f5:=hh.fr 5;have e5:IntKind.i64.wrap ((H.calls:Int)+1)=(H.calls:Int)+1:=by rw[IntKind.wrap_i64];omega
 obtain⟨h1,k1⟩:=hh.vV (v:=(H.calls:Int)+1) (by simp);obtain⟨w1,hw1⟩:=ex (w.setCell (aD h 5) (iT ((H.calls:Int)+1)));rw[<-hw1]at h1 k1;have AG:=hU (QI h1 hL);have HD1:Hid (AJ w1 tg od d D ids ps/\Kept (·=rr) tg w tg w1):=⟨hD.keep k1.size k1.tags (fun i hi e=>k1.block i hi (by rw[e];exact fun e=>hne.1 e.symm)),k1⟩;have HOP:Hid _:=OP;have HF:=h_2 hF hcap;clear hh h1 k1 OP hD hF hcap;go_in;go_wp2_with fail;rw[<-hw1];clear hw1 c5 f5;apply(AG.out ()).mono;rintro e w2⟨D5,L',lo',IC,rfl,hmap,M6,hK2⟩;have hD2:AJ w2 D5 od d D ids ps:=HD1.out.1.keep hK2.size hK2.tags (fun i hi e=>hK2.block i hi (by rw[e];exact fun e=>hne.1 e.symm));have DE:=hU (II M6 hD2 HF.out.1);have H2:Hid (A7 w2 D5 rr h (pT d) (.pointer none) lo' IC L' { H with calls:=H.calls+1 }/\L'.map (fun x=>x.l)=((L.map fun x=>x.l).map M.Lif.again).flatten/\AJ w2 D5 od d D ids ps/\Kept (·=rr) tg w D5 w2):=⟨M6,by rw[List.map_map];exact hmap,hD2,HD1.out.2.trans hK2⟩;clear AG HD1 hmap M6 hK2 hD2;go_wp2_with fail;apply(DE.out ()).mono;rintro e w3⟨rfl,q3⟩;have hK3:Kept (fun _=>False) D5 w2 D5 w3:=Kept.Be q3 (fun _ _=>rfl);have H3:Hid (A7 w3 D5 rr h (pT d) (.pointer none) lo' IC L' { H with calls:=H.calls+1 }/\L'.map (fun x=>x.l)=((L.map fun x=>x.l).map M.Lif.again).flatten/\AJ w3 D5 od d D ids ps/\Kept (·=rr) tg w D5 w3):=⟨H2.out.1.keep hK3 (fun e=>e),H2.out.2.1,H2.out.2.2.1.keep hK3.size hK3.tags (fun i hi _=>hK3.block i hi (fun e=>e)),H2.out.2.2.2.trans (hK3.wider (fun _ e=>e.elim))⟩;clear DE H2 hK3 q3;obtain⟨was,V6⟩:=ex D.dead;obtain⟨arm,harm⟩:=ex H.armed;have c9:=H3.out.1.c9;have c0:=H3.out.1.c0;simp only at c9;rw[<-harm]at c9;rw[<-V6]at HOP⊢;have HW:=h_2 V6 harm;clear V6 harm;have fin:∀(Y7:Value)(ec:Int)(Em:Tags)(D4:M.Dsk)(d':Nat)(i4 j4:List Nat)(w4 w5:World),Fin Y7 ec Em D4 d' L' w4->A7 w4 Em rr h (pT d') (.pointer none) lo' IC L' { H with calls:=H.calls+1 }->AJ w4 Em od d' D4 i4 j4->Q w4 w5->Ic Fin rr od h H (.returned (.bool true)) ((w5.setCell (aD h 8) (.bool (decide (ec=0)))).setCell (aD h 2) Y7):=by
  intro Y7 ec Em D4 d' i4 j4 w4 w5 hfin LG hD4 q;have XO:Kept (·=rr) Em w4 Em w5:=Kept.Be q (fun _ _=>rfl);have WJ:=LG.keep (P:=fun _=>False) (Kept.Be q (fun _ _=>rfl)) (fun e=>e);obtain⟨h6,k6⟩:=WJ.set 8 (.bool (decide (ec=0))) (ru:=pT d') (oF:=.pointer none) (H':={ H with calls:=H.calls+1,quiet:=decide (ec=0)}) (by omega) rfl rfl rfl rfl rfl rfl rfl rfl rfl;obtain⟨h7,k7⟩:=h6.set 2 Y7 (ru:=pT d') (oF:=Y7) (H':={ H with calls:=H.calls+1,quiet:=decide (ec=0)}) (by omega) rfl rfl rfl rfl rfl rfl rfl rfl rfl;have hK:=(XO.trans k6).trans k7;exact⟨Y7,ec,Em,D4,w4,d',L',lo',IC,i4,j4,rfl,hfin,h7,hD4.keep hK.size hK.tags (fun i hi e=>hK.block i hi (by rw[e];exact fun e=>hne.1 e.symm)),hK⟩
 have HFN:Hid _:=fin;clear fin;have HAL:Hid _:=fun(ec:Int)(w4 w5:World)(Em:Tags)(d':Nat)(LG:A7 w4 Em rr h (pT d') (.pointer none) lo' IC L' { H with calls:=H.calls+1 })(q:Q w4 w5)=>Iz (LG.keep (P:=fun _=>False) (Kept.Be q (fun _ _=>rfl)) (fun e=>e)) (by show H.calls+1<=4194304;omega) hby ec;have HAV:Hid ((∀K,M.Hou.allows K 0=true/\M.Hou.allows K 10=true)/\(H.flipped=true->M.Hou.allows { H with calls:=H.calls+1 } 3=true)):=⟨fun K=>by simp[M.Hou.allows],fun e=>by simp[M.Hou.allows,e]⟩;by_cases hcp:was=false/\arm=false
 .obtain⟨rfl,rfl⟩:=hcp;have CP:=hU (Nj (Gx:=Gx) H3.out.1 H3.out.2.2.1 HF.out.1 HW.out.1.symm HF.out.2 hne.2.1 hne.2.2);go_wp2_with fail;apply(CP.out ()).mono;rintro e w5⟨rfl,JX,d',dK,zL,_,XO,WJ,hD5⟩;have OQ:=hU (HOP.out w5 JX d' L' lo' IC ⟨WJ,H3.out.2.1,Or.inr ⟨HW.out.1.symm,HW.out.2.symm,⟨dK,zL,hD5⟩,(H3.out.2.2.2.wider (fun x e=>Or.inl e)).trans XO⟩⟩);have b0:=WJ.c0;clear CP c9 c0 XO WJ hD5 H3 HOP;go_wp2_with fail;apply(OQ.out ()).mono;rintro e w4⟨Y7,ec,Em,D4,i4,j4,rfl,hok,gD,LG,hD4,hfin⟩;have NS:=h_4 gD LG hD4 hfin;have AL0:Hid _:=fun(W:World)(q:Q w4 W)=>HAL.out ec w4 W Em d' NS.out.2.1 q;have HX0:Hid _:=fun(W:World)(q:Q w4 W)=>HFN.out Y7 ec Em D4 d' i4 j4 w4 W NS.out.2.2.2 NS.out.2.1 NS.out.2.2.1 q;clear OQ b0 gD LG hD4 hfin;rcases hok with⟨rfl,hdd,Bp,s4,rfl⟩|⟨rfl,hdd,rfl⟩|⟨rfl,hdd,Bp,rfl,hfp⟩
  all_goals
   ((((have DE:=hU (II NS.out.2.1 NS.out.2.2.1 NS.out.1);rw[hdd]at DE;go_wp2_with fail;apply(DE.out ()).mono;rintro e w6⟨rfl,q6⟩;have AL:=hU (AL0.out w6 q6));first|rw[(HAV.out.1 _).1]at AL|rw[(HAV.out.1 _).2]at AL|rw[HAV.out.2 hfp]at AL);clear DE;go_wp2_with fail;apply(AL.out ()).mono;rintro e w7⟨rfl,q7⟩;have bL:=q6.trans q7;have f8:w7.frozen? (aD h 8)=false:=(bL.below.frozen (p:=(aD h 8)) NS.out.2.1.top).trans (NS.out.2.1.fr 8);have f2:w7.frozen? (aD h 2)=false:=(bL.below.frozen (p:=(aD h 2)) NS.out.2.1.top).trans (NS.out.2.1.fr 2);have d8:=AA NS.out.2.1.c8 bL;have d2:=AA NS.out.2.1.c2 bL);first|have NR:Hid (Ic Fin rr od h H (.returned (.bool true)) ((w7.setCell (aD h 8) (.bool true)).setCell (aD h 2) (pT s4))):=HX0.out w7 bL|have NR:=h_ (HX0.out w7 bL));clear AL AL0 HX0 q6 q7;go_wp2;go_ret;exact NR.out
 .have OQ:=hU (HOP.out w3 D5 d L' lo' IC ⟨H3.out.1,H3.out.2.1,Or.inl ⟨fun e=>hcp ⟨HW.out.1.trans e.1,HW.out.2.trans e.2⟩,⟨ids,ps,H3.out.2.2.1⟩,H3.out.2.2.2⟩⟩);clear H3 HOP;have zEP:was=true\/(was=false/\arm=true):=by
   cases was<;>cases arm<;>simp at hcp ⊢
  clear hcp;rcases zEP with rfl|⟨rfl,rfl⟩
  all_goals
   go_wp2_with fail;apply(OQ.out ()).mono;rintro e w4⟨Y7,ec,Em,D4,i4,j4,rfl,hok,gD,LG,hD4,hfin⟩;have NS:=h_4 gD LG hD4 hfin;have AL0:Hid _:=fun(W:World)(q:Q w4 W)=>HAL.out ec w4 W Em d NS.out.2.1 q;have HX0:Hid _:=fun(W:World)(q:Q w4 W)=>HFN.out Y7 ec Em D4 d i4 j4 w4 W NS.out.2.2.2 NS.out.2.1 NS.out.2.2.1 q;clear OQ c9 c0 gD LG hD4 hfin;rcases hok with⟨rfl,hdd,Bp,s4,rfl⟩|⟨rfl,hdd,rfl⟩|⟨rfl,hdd,Bp,rfl,hfp⟩
   all_goals
    first
    |(cases Bp;done)
    |(have DE:Hid _:=fun(_:Unit)=>II NS.out.2.1 NS.out.2.2.1 NS.out.1
      (((rw[hdd]at DE;go_wp2_with fail;apply(DE.out ()).mono;rintro e w6⟨rfl,q6⟩;have AL:=hU (AL0.out w6 q6));first|rw[(HAV.out.1 _).1]at AL|rw[(HAV.out.1 _).2]at AL|rw[HAV.out.2 hfp]at AL);clear DE;go_wp2_with fail;apply(AL.out ()).mono;rintro e w7⟨rfl,q7⟩;have bL:=q6.trans q7;have f8:w7.frozen? (aD h 8)=false:=(bL.below.frozen (p:=(aD h 8)) NS.out.2.1.top).trans (NS.out.2.1.fr 8);have f2:w7.frozen? (aD h 2)=false:=(bL.below.frozen (p:=(aD h 2)) NS.out.2.1.top).trans (NS.out.2.1.fr 2);have d8:=AA NS.out.2.1.c8 bL;have d2:=AA NS.out.2.1.c2 bL);first|have NR:Hid (Ic Fin rr od h H (.returned (.bool true)) ((w7.setCell (aD h 8) (.bool true)).setCell (aD h 2) (pT s4))):=HX0.out w7 bL|have NR:=h_ (HX0.out w7 bL)
      clear AL AL0 HX0 q6 q7;go_wp2;go_ret;exact NR.out)
structure SOp where
 kind:Int
 dk:Int
 key:BA
 stamp:Int
 value:BA
 ks:List Int
 a:Int
 b:Int
abbrev SOp.cells(p:SOp)(ko:Option Addr)(kc:Nat):Array Value:=#[iT p.kind,iT p.dk,sT p.key,iT p.stamp,sT p.value,.slice ko p.ks.length kc,iT p.a,iT p.b]
def I64(c:Int):Prop:=-9223372036854775808<=c/\c<=9223372036854775807
theorem Tq{dv:Value}(hh:A7 w tg rr h dv sv lo lc L H)(p:SOp)(ko:Option Addr)(kc:Nat)(hn:H.flipped=true\/H.quiet=false):
  Calls Tryz.prog 17 #[pT h,.agg (p.cells ko kc)] w fun e w'=>e=.returned (.bool true)/\Q w w':=by
 have q0:=(Q.refl w).alloc (p.cells ko kc) 32;have c7:=AA hh.c7 q0;have c8:=AA hh.c8 q0;clear hh;rcases hn with e|e
 .rw[e]at c7;go_in;go_wp2;go_ret;exact⟨rfl,q0⟩
 .rw[e]at c8
  cases hf:H.flipped with
  |true =>
   rw[hf]at c7;go_in;go_wp2;go_ret;exact⟨rfl,q0⟩
  |false =>
   rw[hf]at c7;go_in;go_wp2;go_ret;exact⟨rfl,q0⟩
theorem QG(hh:A7 w tg rr h (pT d) sv lo lc L H)(hD:AJ w tg od d D ids ps)(hF:D.BS)(p:SOp)(ko:Option Addr)(kc:Nat)(hfl:H.flipped=false)(hq:H.quiet=true)(hz:D.names=[]):
  Calls Tryz.prog 17 #[pT h,.agg (p.cells ko kc)] w fun e w'=>e=.returned (.bool true)/\Q w w':=by
 have q0:=(Q.refl w).alloc (p.cells ko kc) 32;have c7:=AA hh.c7 q0;have c8:=AA hh.c8 q0;have c0:=AA hh.c0 q0;rw[hfl]at c7;rw[hq]at c8;have NM:=MH tg od d D ids ps hF _ (hD.kept q0);rw[hz]at NM;have mg:=hU NM;clear hh hD hF hfl hq hz NM;go_in;go_wp2_with fail;apply(mg.out ()).mono;rintro e w2⟨ao,cap,rfl,hN⟩;have q2:Q _ w2:=⟨hN.below⟩;clear mg hN;go_wp2;go_ret;exact⟨rfl,q0.trans q2⟩
def nC(tg:Tags)(rr od h d:Nat)(sv:Value)(lo:Option Addr)(lc:Nat)(L:List LV)(H:M.Hou)(D:M.Dsk)(ids ps:List Nat)(w:World)(e:Ending)(w':World):Prop:=
 e=.returned (.bool true)/\∃AU,A7 w' AU rr h (pT d) sv lo lc L { H with flipped:=true }/\AJ w' AU od d D ids ps/\Kept (fun x=>x=rr\/x=od) tg w AU w'
theorem Q7{D':M.Dsk}{f:M.Fil}(hh:A7 w tg rr h (pT d) sv lo lc L H)(hD:AJ w tg od d D ids ps)(hF:D.BS)(p:SOp)(ko:Option Addr)(kc:Nat)(hfl:H.flipped=false)(hq:H.quiet=true)(hd:D.dead=false)(hfs:D.files=[f])(hne:f.bytes≠[])(ha:I64 p.a)(hb:I64 p.b)(hs:I64 p.stamp)(qQ:rr≠od)(uN:D.flip f.name ((DX p.b f.bytes.length:Nat):Int) (1+((DX p.stamp 255:Nat):Int))=(D',0)):
  Calls Tryz.prog 17 #[pT h,.agg (p.cells ko kc)] w fun e w'=>nC tg rr od h d sv lo lc L H D' ids ps w e w':=by
 have hlen:f.bytes.length<=1048576:=by
  have h1:=hF.good.fits;have h2:=hF.good.cap;rw[hfs]at h1;simp[M.total]at h1;omega
 have hpos:0<f.bytes.length:=List.length_pos_iff.2 hne;have zJE:f.bytes.isEmpty=false:=by rw[List.isEmpty_eq_false_iff];exact hne
 obtain⟨wa,Bp⟩:=ex (w.alloc (.cells (p.cells ko kc) 32));have q0:Q w wa:=by rw[Bp];exact(Q.refl w).alloc _ _
 have V6:wa.heap.size=w.heap.size+1:=by rw[Bp];simp
 have c7:=AA hh.c7 q0;have c8:=AA hh.c8 q0;have c0:=AA hh.c0 q0;have f7:wa.frozen? (aD h 7)=false:=(q0.below.frozen (p:=(aD h 7)) hh.top).trans (hh.fr 7);rw[hfl]at c7;rw[hq]at c8;have k3:wa.cell? (aD w.heap.size 3)=some (iT p.stamp):=by rw[Bp];simp
 have k6:wa.cell? (aD w.heap.size 6)=some (iT p.a):=by rw[Bp];simp
 have k7:wa.cell? (aD w.heap.size 7)=some (iT p.b):=by rw[Bp];simp
 have NM:=MH tg od d D ids ps hF _ (hD.kept q0);have hz:D.names=[f.name]:=by unfold M.Dsk.names;rw[hd,if_neg (by simp),hfs];rfl
 rw[hz]at NM;have mg:=hU NM;have RD:=fun(W:World)(q:Q wa W)=>MG tg od d D ids ps hF f.name W ((hD.kept q0).kept q);rw[M.O5 hF hd (i:=0) (by rw[hfs];rfl)]at RD;dsimp only at RD;have RDH:Hid _:=RD;have PA:Hid _:=fun(W:World)=>Fh p.a ha 1 (by omega) W;have PB:Hid _:=fun(W:World)=>Fh p.b hb f.bytes.length hpos W;have PS:Hid _:=fun(W:World)=>Fh p.stamp hs 255 (by omega) W;have hp0:DX p.a 1=0:=by have:=D9 p.a (n:=1) (by omega);omega
 rw[hp0]at PA;have HH:=h_4 hh hD hF q0;have hem:(⟨f.bytes.toArray⟩:BA).size=f.bytes.length:=by simp[ByteArray.size]
 clear hh hD hF hfl hq hz NM RD hd hfs hp0;go_in;go_upto_region 1 with fail
 rw[<-Bp];clear Bp;go_wp2_with fail;apply(mg.out ()).mono;rintro e w2⟨ao,cap,rfl,hN⟩;have q2:Q wa w2:=⟨hN.below⟩;obtain⟨g,rfl,_,hg,hcg⟩:=Cv hN.own (by simp[Fp]);have g0:=hcg 0 (sT f.name) rfl;have k6':=AA k6 q2;have k7':=AA k7 q2;have k3':=AA k3 q2;have c0':=AA c0 q2;clear mg hN k6 k7 k3 c0 hcg;go_wp2_with fail;apply(PA.out _).mono;rintro e w3⟨rfl,hw3⟩;subst hw3;clear PA k6';have RD2:=hU (RDH.out w3 q2);clear RDH;go_wp2_with fail;apply(RD2.out ()).mono;rintro e w4⟨rfl,q4⟩;have q24:=q2.trans q4;have c0:=AA c0' q4;have k3:=AA k3' q4;have k7:=AA k7' q4;have d7:=AA c7 q24;have f7':w4.frozen? (aD h 7)=false:=(q24.below.frozen (p:=(aD h 7)) (zLJ HH.out.1.top HH.out.2.2.2.below.size)).trans f7;clear RD2 c0' k3' k7' c7 c8 f7 g0 q2;go_upto_region 11 with fail
 obtain⟨w5,jw⟩:=ex (w4.setCell (aD h 7) (.bool true));rw[<-jw];have zJ:=HH.out.2.2.2.trans q24;obtain⟨JR,xH⟩:=ex (tg.more w.heap.size rr 1);have tB:∀k,k<w.heap.size->JR k=tg k:=fun k hk=>by rw[xH];exact Tags.AQ hk
 have LG:=HH.out.1.keep (P:=fun _=>False) (Kept.Be (AR:=JR) zJ tB) (fun e=>e);obtain⟨WJ,kk5⟩:=LG.set 7 (.bool true) (ru:=pT d) (oF:=sv) (H':={ H with flipped:=true }) (by omega) rfl rfl rfl rfl rfl rfl rfl rfl rfl;rw[<-jw]at WJ kk5;have hh0:w.heap.size≠h:=by have:=HH.out.1.top;omega
 have e0:=WJ.c0;have e3:w5.cell? (aD w.heap.size 3)=some (iT p.stamp):=by rw[jw,zMH _ _ _ _ (by intro e;injection e with e;exact hh0 e.symm)];exact k3
 have e7:w5.cell? (aD w.heap.size 7)=some (iT p.b):=by rw[jw,zMH _ _ _ _ (by intro e;injection e with e;exact hh0 e.symm)];exact k7
 have XO:Kept (·=rr) tg w JR w5:=(Kept.Be zJ tB).trans kk5;have hD5:AJ w5 JR od d D ids ps:=HH.out.2.1.keep XO.size XO.tags (fun i hi e=>XO.block i hi (by rw[e];exact fun e=>qQ e.symm));have FC:Hid _:=fun(W:World)(q:Q w5 W)=>rz JR od d D ids ps HH.out.2.2.1 f.name ((DX p.b f.bytes.length:Nat):Int) (1+((DX p.stamp 255:Nat):Int)) W (hD5.kept q);rw[uN]at FC;have zGT:=D9 p.stamp (n:=255) (by omega);have ew:IntKind.i64.wrap (1+((DX p.stamp 255:Nat):Int))=1+((DX p.stamp 255:Nat):Int):=by rw[IntKind.wrap_i64];omega
 have hl5:h<w5.heap.size/\w.heap.size<w5.heap.size/\(JR h).1=rr/\(JR w.heap.size).1=rr:=⟨WJ.top,by have:=q24.below.size;rw[jw];simp;omega,by rw[WJ.th],by rw[xH,Tags.Ay (zLK _)]⟩;have Qq:=h_2 WJ XO;clear xH tB jw LG WJ kk5 XO hD5 zJ k3 k7 d7 f7' c0 q24 q4 uN hh0 HH;refine wp_region_held_drew (S:=fun w'=>w'.cell? (aD h 0)=some (pT d)/\w'.cell? (aD w.heap.size 3)=some (iT p.stamp)/\w'.cell? (aD w.heap.size 7)=some (iT p.b)) (by kernel_rfl) ⟨e0,e3,e7⟩ (fun hHeld=>?_);refine q4 0 ?_;refine q4 1 ?_;refine q4 2 ?_;refine q4 3 ?_;refine q4 4 ?_;refine q4 5 ?_;refine q4 6 ?_;refine q4 7 ?_;refine q4 8 ?_;refine q4 10 ?_;refine q4 11 ?_;refine rd1 9 (fun K hK=>?_);go_simp;apply(PB.out _).mono;rintro e v1⟨rfl,q1⟩
 try go_wp2_with fail
 refine hK.out _ _ hHeld (fun AO=>?_);clear hK K hHeld;have hHeld:=AO;clear AO
 try simp only[Act.put,nrm]
 refine rd1 12 (fun K hK=>?_);go_simp;apply(PS.out _).mono;rintro e v2⟨rfl,q2⟩
 try go_wp2_with fail
 refine hK.out _ _ hHeld (fun AO=>?_);clear hK K hHeld;have hHeld:=AO;clear AO
 try simp only[Act.put,nrm]
 refine q4 13 ?_;refine rd1 14 (fun K hK=>?_);go_simp;apply(FC.out _ ((Q.refl w5).drew)).mono;rintro e v3⟨rfl,hD7,XJ⟩
 try go_wp2_with fail
 refine hK.out _ _ (by
  have b1:=XJ.block h hl5.1 (by rw[hl5.2.2.1];exact qQ);have b2:=XJ.block w.heap.size hl5.2.1 (by rw[hl5.2.2.2];exact qQ);exact⟨(zMI (a:=(aD h 0)) b1).trans hHeld.1,(zMI (a:=(aD w.heap.size 3)) b2).trans hHeld.2.1,(zMI (a:=(aD w.heap.size 7)) b2).trans hHeld.2.2⟩) (fun AO=>?_)
 clear hK K hHeld;have hHeld:=AO;clear AO
 try simp only[Act.put,nrm]
 refine q4 15 ?_;refine wpAnyH_done (by kernel_rfl) ?_ _;clear hHeld;have HE:Hid (nC tg rr od h d sv lo lc L H D' ids ps w (.returned (.bool true)) v3):=by
  have kX:Kept (·=od) JR w5.drew JR v3:=Kept.DI XJ (fun _ _=>rfl) rfl;have qo:Kept (fun _=>False) JR w5 JR w5.drew:=Kept.Be ((Q.refl w5).drew) (fun _ _=>rfl);exact⟨rfl,JR,(Qq.out.1.keep qo (fun e=>e)).keep kX qQ,hD7,(Qq.out.2.wider (fun x e=>Or.inl e)).trans ((qo.wider (fun x e=>e.elim)).trans (kX.wider (fun x e=>Or.inr e)))⟩
 clear hD7 XJ Qq;go_wp2;go_ret;exact HE.out
end
end Go.Proofs.YtekdenkllipehaaGreatDoor
