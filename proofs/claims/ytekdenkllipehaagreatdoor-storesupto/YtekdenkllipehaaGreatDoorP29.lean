import Derived.Test.YtekdenkllipehaaGreatDoorP21
import Derived.Test.YtekdenkllipehaaGreatDoorP22
import Derived.Test.YtekdenkllipehaaGreatDoorP27
set_option maxRecDepth 99999
set_option maxHeartbeats 0
namespace Go.Proofs.YtekdenkllipehaaGreatDoor
open Go.RowKit
variable{B Xz d h lc o rr s:Nat}{L:List LV}{W w w' w0 w3 w4 wr:World}{X:S.Sto}{ao lo no':Option Addr}{dv sv:Value}{ids ps:List Nat}{l':M.Lif}{tg:Tags}{x y:LV}
theorem Qe{Bs:Nat}(h:Ag w tg o s d X ids ps)(hB:w.cell? (aD Bs 0)=some (pT s))(rs:List Rec)(hl:rs.length<=140737488351232)(ao:Option Addr)(cap:Nat)(hr:Rcs w ao rs)(hc:rs.length<=cap):
  Calls Tryz.prog 82 #[.slice ao rs.length cap,pT Bs] w fun e w'=>e=.returned (.slice ao (Ip X.wm rs) cap)/\Q w w':=by
 have c2:=h.c2;have ND:=hU (bR rs hl X.wm ao cap w hr hc);clear h;go_in;go_wp2_with fail;apply(ND.out ()).mono;rintro e w1⟨rfl,q1⟩;go_wp2;go_ret;exact⟨rfl,q1⟩
structure M.Hou where
 cap:Nat
 flushed:Bool
 calls:Nat
 bytes:Nat
 flipped:Bool
 quiet:Bool
 armed:Bool
structure A7(w:World)(tg:Tags)(rr h:Nat)(dv sv:Value)(lo:Option Addr)(lc:Nat)(L:List LV)(H:M.Hou):Prop where
 top:h<w.heap.size
 th:tg h=(rr,0)
 fr:∀j,w.frozen? (aD h j)=false
 c0:w.cell? (aD h 0)=some dv
 c1:w.cell? (aD h 1)=some (iT (H.cap:Int))
 c2:w.cell? (aD h 2)=some sv
 c3:w.cell? (aD h 3)=some (.slice lo L.length lc)
 c4:w.cell? (aD h 4)=some (.bool H.flushed)
 c5:w.cell? (aD h 5)=some (iT (H.calls:Int))
 c6:w.cell? (aD h 6)=some (iT (H.bytes:Int))
 c7:w.cell? (aD h 7)=some (.bool H.flipped)
 c8:w.cell? (aD h 8)=some (.bool H.quiet)
 c9:w.cell? (aD h 9)=some (.bool H.armed)
 lv:Dw w lo L
 tl:∀a,lo=some a->L≠[]->(tg a.block).1=rr/\a.block≠h
 tv:∀x∈L,∀a,x.fo=some a\/x.no=some a->(tg a.block).1=rr/\a.block≠h
theorem Cq.blocks{vo:Option Addr}{vs:List M.Ver}(h:Cq w vo vs)(hs:w.heap.size<=w'.heap.size)(hb:∀a,vo=some a->a.block<w.heap.size->w'.heap[a.block]?=w.heap[a.block]?):Cq w' vo vs:=by
 refine⟨h.1,fun i v hv=>?_⟩;obtain⟨b,off,e,hlt,c0,c1,c2,c3⟩:=h.2 i v hv;have hB:=hb _ e hlt;have hc:∀j,w'.cell? (aD b j)=w.cell? (aD b j):=fun j=>zMI (a:=(aD b j)) hB;exact⟨b,off,e,zLJ hlt hs,(hc _).trans c0,(hc _).trans c1,(hc _).trans c2,(hc _).trans c3⟩
theorem Dw.blocks{w w':World}{lo:Option Addr}{L:List LV}(h:Dw w lo L)(hs:w.heap.size<=w'.heap.size)(h1:∀a,lo=some a->L≠[]->a.block<w.heap.size->w'.heap[a.block]?=w.heap[a.block]?)(h2:∀x∈L,∀a,x.fo=some a\/x.no=some a->a.block<w.heap.size->w'.heap[a.block]?=w.heap[a.block]?):Dw w' lo L:=by
 refine⟨fun x hx=>⟨(h.all x hx).f.blocks hs (fun a e=>h2 x hx a (Or.inl e)),(h.all x hx).n.blocks hs (fun a e=>h2 x hx a (Or.inr e)),(h.all x hx).fz,(h.all x hx).nz⟩,fun i x hi=>?_⟩;obtain⟨g,e,hg,hc⟩:=h.row i x hi;have hne:L≠[]:=fun e2=>by rw[e2]at hi;simp at hi
 exact⟨g,e,zLJ hg hs,fun j v hv=>(zMI (a:=(aD g (i*7+j))) (h1 (aD g 0) e hne hg)).trans (hc j v hv)⟩
theorem A7.keep{AU:Tags}{P:Nat->Prop}{H:M.Hou}(hh:A7 w tg rr h dv sv lo lc L H)(k:Kept P tg w AU w')(hP:¬P rr):A7 w' AU rr h dv sv lo lc L H:=by
 have hB:w'.heap[h]?=w.heap[h]?:=k.block h hh.top (by rw[hh.th];exact hP);have hc:∀j,w'.cell? (aD h j)=w.cell? (aD h j):=fun j=>zMI (a:=(aD h j)) hB;have hlt:∀a,lo=some a->L≠[]->a.block<w.heap.size:=fun a e hne=>by
  obtain⟨x,hx⟩:∃x,L[0]?=some x:=by
   cases L with
   |nil=>exact absurd rfl hne
   |cons x L=>exact⟨x,rfl⟩
  obtain⟨g,e2,hg,_⟩:=hh.lv.row 0 x hx;rw[e]at e2;injection e2 with e2;rw[e2];exact hg
 refine⟨zLJ hh.top k.size,(k.tags h hh.top).trans hh.th,fun j=>(zML (a:=(aD h j)) hB).trans (hh.fr j),(hc 0).trans hh.c0,(hc 1).trans hh.c1,(hc 2).trans hh.c2,(hc 3).trans hh.c3,(hc 4).trans hh.c4,(hc 5).trans hh.c5,(hc 6).trans hh.c6,(hc 7).trans hh.c7,(hc 8).trans hh.c8,(hc 9).trans hh.c9,?_,fun a e hne=>?_,fun x hx a ha=>?_⟩
 .exact hh.lv.blocks k.size (fun a e hne hl=>k.block _ hl (by rw[(hh.tl a e hne).1];exact hP)) (fun x hx a ha hl=>k.block _ hl (by rw[(hh.tv x hx a ha).1];exact hP))
 .rw[k.tags _ (hlt a e hne)];exact hh.tl a e hne
 .rw[k.tags _ ((hh.lv.all x hx).lt ha)];exact hh.tv x hx a ha
theorem A7.set{ru oF:Value}{H H':M.Hou}(hh:A7 w tg rr h dv sv lo lc L H)(j:Nat)(v:Value)(hj:j≠3)(h0:(if j=0 then v else dv)=ru)(h1:(if j=1 then v else iT (H.cap:Int))=iT (H'.cap:Int))(h2:(if j=2 then v else sv)=oF)(h4:(if j=4 then v else .bool H.flushed)=.bool H'.flushed)(h5:(if j=5 then v else iT (H.calls:Int))=iT (H'.calls:Int))(h6:(if j=6 then v else iT (H.bytes:Int))=iT (H'.bytes:Int))(h7:(if j=7 then v else .bool H.flipped)=.bool H'.flipped)(h8:(if j=8 then v else .bool H.quiet)=.bool H'.quiet)(h9:(if j=9 then v else .bool H.armed)=.bool H'.armed):A7 (w.setCell (aD h j) v) tg rr h ru oF lo lc L H'/\Kept (·=rr) tg w tg (w.setCell (aD h j) v):=by
 have hc:∀i u,w.cell? (aD h i)=some u->(w.setCell (aD h j) v).cell? (aD h i)=some (if j=i then v else u):=fun i u hu=>by
  by_cases e:j=i
  .subst e;rw[if_pos rfl];exact zMJ _ _ _ hu
  .rw[if_neg e,zMH _ _ _ _ (by intro e2;injection e2 with _ e3;exact e (by omega))];exact hu
 have hb:∀k,k≠h->(w.setCell (aD h j) v).heap[k]?=w.heap[k]?:=fun k hk=>heap_setCell_other _ (aD h j) k _ (by simpa using hk);refine⟨⟨by simpa using hh.top,hh.th,fun i=>by rw[zMK];exact hh.fr i,by rw[hc 0 _ hh.c0,h0],by rw[hc 1 _ hh.c1,h1],by rw[hc 2 _ hh.c2,h2],by rw[hc 3 _ hh.c3,if_neg hj],by rw[hc 4 _ hh.c4,h4],by rw[hc 5 _ hh.c5,h5],by rw[hc 6 _ hh.c6,h6],by rw[hc 7 _ hh.c7,h7],by rw[hc 8 _ hh.c8,h8],by rw[hc 9 _ hh.c9,h9],hh.lv.blocks (by simp) (fun a e hne _=>hb _ (hh.tl a e hne).2) (fun x hx a ha _=>hb _ (hh.tv x hx a ha).2),hh.tl,hh.tv⟩,⟨rfl,rfl,rfl,by simp,fun _ _=>rfl,fun k _ hn=>hb k (fun e=>hn (by rw[e,hh.th]))⟩⟩
theorem A7.vV{H:M.Hou}(hh:A7 w tg rr h dv sv lo lc L H){v:Int}(hv:v=((H.calls+1:Nat):Int)):A7 (w.setCell (aD h 5) (iT v)) tg rr h dv sv lo lc L { H with calls:=H.calls+1 }/\Kept (·=rr) tg w tg (w.setCell (aD h 5) (iT v)):=by
 subst hv;exact hh.set 5 _ (by omega) rfl rfl rfl rfl rfl rfl rfl rfl rfl
theorem A7.turn{w2:World}{cap:Nat}{L':List LV}{H:M.Hou}(hh:A7 w2 tg rr h dv sv lo lc L H)(hl:GX w2 L' ao cap wr)(ho:∀y∈L',∀a,y.fo=some a\/y.no=some a->(∃x∈L,x.fo=some a\/x.no=some a)\/w2.heap.size<=a.block):
  A7 (wr.setCell (aD h 3) (.slice ao L'.length cap)) (tg.more w2.heap.size rr 1) rr h dv sv ao cap L' H/\Kept (·=rr) tg w2 (tg.more w2.heap.size rr 1) (wr.setCell (aD h 3) (.slice ao L'.length cap)):=by
 have q:=hl.q;have htop:=hh.top;have hsz:=q.below.size;have hc:∀j v,j≠3->w2.cell? (aD h j)=some v->(wr.setCell (aD h 3) (.slice ao L'.length cap)).cell? (aD h j)=some v:=fun j v hj hv=>(zMH _ _ _ _ (by intro e;injection e;omega)).trans (AA hv q);have hb:∀k,k≠h->(wr.setCell (aD h 3) (.slice ao L'.length cap)).heap[k]?=wr.heap[k]?:=fun k hk=>heap_setCell_other _ (aD h 3) k _ (by simpa using hk);have hrow:∀a,ao=some a->L'≠[]->w2.heap.size<=a.block:=fun a e hne=>by
  subst e;rcases hl.own.2 with h2|⟨g,cap',cur,hv,hg,_⟩
  .injection h2.1 with h3;cases h3
  .injection hv with hv;injection hv with hv;subst hv;exact hg
 have zAh:∀y∈L',∀a,y.fo=some a\/y.no=some a->((tg.more w2.heap.size rr 1) a.block).1=rr/\a.block≠h:=fun y hy a ha=>by
  rcases ho y hy a ha with⟨x,hx,hxa⟩|e
  .have:=(hh.lv.all x hx).lt hxa;rw[Tags.AQ this];exact hh.tv x hx a hxa
  .rw[Tags.Ay e];exact⟨rfl,by omega⟩
 refine⟨⟨by simp;omega,by rw[Tags.AQ htop];exact hh.th,fun j=>by rw[zMK];exact(q.below.frozen (p:=(aD h j)) htop).trans (hh.fr j),hc 0 _ (by omega) hh.c0,hc 1 _ (by omega) hh.c1,hc 2 _ (by omega) hh.c2,zMJ _ _ _ (AA hh.c3 q),hc 4 _ (by omega) hh.c4,hc 5 _ (by omega) hh.c5,hc 6 _ (by omega) hh.c6,hc 7 _ (by omega) hh.c7,hc 8 _ (by omega) hh.c8,hc 9 _ (by omega) hh.c9,?_,fun a e hne=>?_,zAh⟩,?_⟩
 .exact(Va hl.all hl.own).blocks (by simp) (fun a e hne _=>hb _ (by have:=hrow a e hne;omega)) (fun x hx a ha _=>hb _ (zAh x hx a ha).2)
 .have:=hrow a e hne;rw[Tags.Ay this];exact⟨rfl,by omega⟩
 .exact(Kept.Be q (fun k hk=>Tags.AQ hk)).trans ⟨rfl,rfl,rfl,by simp,fun _ _=>rfl,fun k _ hn=>hb k (fun e=>hn (by rw[e,Tags.AQ htop,hh.th]))⟩
def M.raised(e:Int)(stamp:Int)(l:M.Lif):Option M.Lif:=if e=((l.raise stamp).2:Nat)then some (l.raise stamp).1 else none
theorem M.Rk(l:M.Lif)(stamp:Int):(l.raise stamp).1.flushed.AB=l.flushed.AB/\(l.raise stamp).1.now.AB=l.now.AB:=by
 unfold M.Lif.raise;split
 .exact⟨rfl,rfl⟩
 split
 .exact⟨rfl,rfl⟩
 .exact⟨rfl,rfl⟩
def mW(tg:Tags)(rr o h s d:Nat)(dv:Value)(L:List LV)(H:M.Hou)(X:S.Sto)(ids ps:List Nat)(stamp:Int)(w:World)(e:Ending)(w':World):Prop:=
 ∃(AU:Tags)(L':List LV)(lo:Option Addr)(lc:Nat),e=.returned (.bool (decide (0<L'.length)))/\L'.map (fun x=>x.l)=L.filterMap (fun x=>M.raised (X.raising stamp) stamp x.l)/\A7 w' AU rr h dv (pT s) lo lc L' { H with calls:=H.calls+1 }/\Ag w' AU o s d (if X.raising stamp=0 then{ X with wm:=stamp }else X) ids ps/\Kept (fun x=>x=o\/x=rr) tg w AU w'
theorem WA{H:M.Hou}(hh:A7 w tg rr h dv (pT s) lo lc L H)(hS:Ag w tg o s d X ids ps)(hne:rr≠o)(hL:L.length<=1048576)(hcl:H.calls<=1048576)(stamp:Int):
  Calls Tryz.prog 32 #[pT h,iT stamp] w fun e w'=>mW tg rr o h s d dv L H X ids ps stamp w e w':=by
 have RA:=hU (ig hS stamp);have HH:=h_2 hh hS;have c2:=hh.c2;clear hh hS;go_in;go_wp2_with fail;apply(RA.out ()).mono;rintro e w1⟨rfl,hS1,ho1,hs1⟩;have hK1:Kept (·=o) tg w tg w1:=Kept.DI ho1 (fun _ _=>rfl) rfl;have hh1:=HH.out.1.keep hK1 hne;have c5:=hh1.c5;have f5:=hh1.fr 5;have e5:IntKind.i64.wrap ((H.calls:Int)+1)=((H.calls+1:Nat):Int):=by rw[IntKind.wrap_i64];omega
 obtain⟨w2,hw2⟩:=ex (w1.setCell (aD h 5) (iT ((H.calls:Int)+1)));have M6:A7 w2 tg rr h dv (pT s) lo lc L { H with calls:=H.calls+1 }:=by rw[hw2];exact(hh1.vV (by simp)).1
 have K6:=h_ M6;have r3:=M6.c3;obtain⟨i0,hi,hz0,hz1,hz2⟩:=info_parts Iy;have MV:=h_ M6.lv;have hset:Kept (·=rr) tg w1 tg w2:=by rw[hw2];exact(hh1.vV (by simp)).2
 have HK2:Hid (Kept (fun x=>x=o\/x=rr) tg w tg w2/\Ag w2 tg o s d (if X.raising stamp=0 then{ X with wm:=stamp }else X) ids ps):=⟨(hK1.wider (fun x e=>Or.inl e)).trans (hset.wider (fun x e=>Or.inr e)),hS1.keep hset.size hset.tags (fun k hk e=>hset.block k hk (by rw[e];exact fun e=>hne e.symm))⟩;obtain⟨er,her⟩:=ex (X.raising stamp);have HER:=h_ her;clear hh1 M6 hset hS1 ho1 hs1 hK1;go_wp2_with fail;rw[<-hw2,<-her];clear hw2 her
 go_loopw [6,7] (fun tl ti wr=>∃(i:Nat)(L':List LV)(ao:Option Addr)(cap:Nat),tl=.slice ao L'.length cap/\ti=iT (i:Int)/\i<=L.length/\L'.length<=i/\Hid (GX w2 L' ao cap wr)/\Hid (L'.map (fun x=>x.l)=(L.take i).filterMap (fun x=>M.raised er stamp x.l)/\∀y∈L',∃x∈L,y.fo=x.fo/\y.no=x.no)) (fun _ ti _=>L.length-(intOf ti).toNat)
 case atStart=>exact⟨0,[],none,0,rfl,rfl,zLS _,zLK _,GX.none w2,rfl,fun y hy=>by cases hy⟩
 case round =>
  obtain⟨i,L',ao,cap,rfl,rfl,hi1,hi2,HL,HM⟩:=hrel;have k3:=AA r3 HL.out.q;by_cases hlt:i<L.length
  .obtain⟨x,hx⟩:∃x,L[i]?=some x:=⟨_,zLH hlt⟩;have I4:(i:Int)<(L.length:Int):=by omega
   obtain⟨g,rfl,hg,hc⟩:=MV.out.row i x hx;have q0:∀j v,x.cells[j]?=some v->wr.cell? (aD g (i*7+j))=some v:=fun j v hv=>AA (hc j v hv) HL.out.q;have x0:=q0 0 _ rfl;have x1:=q0 1 _ rfl;have x2:=q0 2 _ rfl;have x3:=q0 3 _ rfl;have x4:=q0 4 _ rfl;have x5:=q0 5 _ rfl;have x6:=q0 6 _ rfl;rw[Nat.add_zero]at x0;have LR:Hid _:=fun(W:World)=>jT x.fo x.no x.fc x.nc x.l stamp W;unfold AV at LR;have HX:=h_ hx;clear hx hc q0;go_wp2_with fail;apply(LR.out _).mono;rintro e w3⟨rfl,q3⟩;have JM:=h_ (HL.out.kept q3);obtain⟨y,hy⟩:∃y:LV,y=⟨x.fo,x.no,x.fc,x.nc,(x.l.raise stamp).1⟩:=⟨_,rfl⟩;obtain⟨cd,hcd⟩:∃cd:Nat,cd=(x.l.raise stamp).2:=⟨_,rfl⟩;have HY:Hid (y.At w3/\(y.fo=x.fo/\y.no=x.no)/\M.raised er stamp x.l=if er=(cd:Int)then some y.l else none):=by
    have hxa:=(MV.out.all x (zLR HX.out)).kept (HL.out.q.trans q3);obtain⟨v1,v2⟩:=M.Rk x.l stamp;refine⟨?_,by rw[hy];exact⟨rfl,rfl⟩,by rw[hy,hcd];rfl⟩;rw[hy];exact⟨by rw[v1];exact hxa.f,by rw[v2];exact hxa.n,by rw[v1];exact hxa.fz,by rw[v2];exact hxa.nz⟩
   (rw[<-hcd];have ey:AV x.fo x.no x.fc x.nc (x.l.raise stamp).1=AV y.fo y.no y.fc y.nc y.l:=by rw[hy]);unfold AV at ey;clear LR x0 x1 x2 x3 x4 x5 x6 k3 q3 HL;rw[ey];clear ey hy hcd;by_cases Zg:er=(cd:Int)
   .subst Zg;have q5:Q w3 ((w3.alloc (.cells #[.slice y.fo y.l.flushed.AB.length y.fc,iT y.l.flushed.water,.slice y.no y.l.now.AB.length y.nc,iT y.l.now.water,.bool y.l.pending,.bool y.l.dead,.bool y.l.late] 49)).alloc (.cells #[.slice y.fo y.l.flushed.AB.length y.fc,iT y.l.flushed.water,.slice y.no y.l.now.AB.length y.nc,iT y.l.now.water,.bool y.l.pending,.bool y.l.dead,.bool y.l.late] 49)):=((Q.refl w3).alloc _ _).alloc _ _;have hL5:=JM.out.kept q5;have hown5:=hL5.own;have hlow:y.Off (Value.slice ao L'.length cap).ownBlock:=fun a ha e=>by
     have h1:=(hown5.lt _ e).1;have h2:=(MV.out.all x (zLR HX.out)).lt (a:=a) (by rw[<-HY.out.2.1.1,<-HY.out.2.1.2];exact ha);omega
    have Uk:=h_3 hL5 (HY.out.1.kept q5) hlow;have hsz:w2.heap.size<=w3.heap.size:=JM.out.q.below.size;clear hL5 hlow q5;have y1:∀j u,y.cells[j]?=some u->((w3.alloc (.cells #[.slice y.fo y.l.flushed.AB.length y.fc,iT y.l.flushed.water,.slice y.no y.l.now.AB.length y.nc,iT y.l.now.water,.bool y.l.pending,.bool y.l.dead,.bool y.l.late] 49)).alloc (.cells #[.slice y.fo y.l.flushed.AB.length y.fc,iT y.l.flushed.water,.slice y.no y.l.now.AB.length y.nc,iT y.l.now.water,.bool y.l.pending,.bool y.l.dead,.bool y.l.late] 49)).cell? (((aD (w3.heap.size+1) 0):Addr).add j)=some u:=by
     have:=FV (w3.alloc (.cells #[.slice y.fo y.l.flushed.AB.length y.fc,iT y.l.flushed.water,.slice y.no y.l.now.AB.length y.nc,iT y.l.now.water,.bool y.l.pending,.bool y.l.dead,.bool y.l.late] 49)) y 49;unfold AV at this;simpa using this
    ((obtain⟨v',w',hrun,hown',hgrow,_⟩:=run_append_own (P:=Tryz.prog) _ w2.heap.size 36 36 49 i0 (.agg #[nS,iT 0,nS,iT 0,.bool false,.bool false,.bool false]) 7 72 Tryz.underlying36 hi hz0 hz1 hz2 rfl (by decide) _ _ _ hown5 (aD (w3.heap.size+1) 0) 1 1 y.cells rfl y1 (H7 y) (by unfold maxLen;omega) (by omega) (by simp;omega);have Gy:=BQ (ty:=36) Tryz.underlying36 hi hz0 hz1 hz2 hown5 (m:=1) (c:=1) rfl y1 (H7 y) (by decide) (by unfold maxLen;omega) (by omega) hrun;obtain⟨Er,Bn,hv⟩:=Ac hown';rw[hv]at hown' Gy hrun;have HP:=h_ (Uk.out.1.push Uk.out.2.1 Uk.out.2.2 hgrow hown' Gy);have hln:(L'++[y]).length=L'.length+1:=by simp);rw[<-hln]at hrun;clear hown' hgrow Gy hv hown5 Uk y1;go_wp2_with(at_builtin;refine Lib.wpList_append_run _ rfl _ _ _ _ rfl _ _ rfl rfl _ _ hrun ?_);clear hrun;go_wp2_with fail);go_roundw
    case rel=>exact⟨i+1,L'++[y],Er,Bn,by rw[hln],by go_num,by omega,by simp;omega,HP,⟨by
     have h1:=HM.out.1;rw[zLv,HX.out,List.filterMap_append,List.map_append,h1];simp[HY.out.2.2],fun z hz=>by
     (have:z∈L'\/z=y:=by simpa using hz);rcases this with e|e
     .exact HM.out.2 z e
     .rw[e];exact⟨x,zLR HX.out,HY.out.2.1⟩⟩⟩
    case measure=>simp[intOf];omega
   ·((have zEp:(er==(cd:Int))=false:=by rw[zM9];exact Zg);have HP:Hid (GX w2 L' ao cap (w3.alloc (.cells #[.slice y.fo y.l.flushed.AB.length y.fc,iT y.l.flushed.water,.slice y.no y.l.now.AB.length y.nc,iT y.l.now.water,.bool y.l.pending,.bool y.l.dead,.bool y.l.late] 49))):=JM.out.kept ((Q.refl w3).alloc _ _);go_wp2_with fail);go_roundw
    case rel=>exact⟨i+1,L',ao,cap,rfl,by go_num,by omega,by omega,HP,⟨by
     have h1:=HM.out.1;rw[zLv,HX.out,List.filterMap_append,h1];simp[HY.out.2.2,Zg],HM.out.2⟩⟩
    case measure=>simp[intOf];omega
  .obtain rfl:i=L.length:=by omega
   have f3:wr.frozen? (aD h 3)=false:=(HL.out.q.below.frozen (p:=(aD h 3)) K6.out.top).trans (K6.out.fr 3);go_wp2;go_ret;obtain⟨hT,R5⟩:=K6.out.turn HL.out (fun y hy a ha=>by
    obtain⟨x,hx,e1,e2⟩:=HM.out.2 y hy;exact Or.inl ⟨x,hx,by rw[<-e1,<-e2];exact ha⟩)
   refine⟨_,L',ao,cap,rfl,?_,hT,HK2.out.2.keep R5.size R5.tags (fun k hk e=>R5.block k hk (by rw[e];exact fun e=>hne e.symm)),HK2.out.1.trans (R5.wider (fun x e=>Or.inr e))⟩;have h1:=HM.out.1;rw[zM0,HER.out]at h1;exact h1
def M.Ver.rc(v:M.Ver):Rec:=⟨v.key,v.stamp,if v.gone=true then 2 else 0,v.value⟩
def M.putting(e:Int)(v:M.Ver)(l:M.Lif):Option M.Lif:=if e=((l.put v).2:Nat)then some (l.put v).1 else none
def mX(tg:Tags)(rr o h s d:Nat)(dv:Value)(L:List LV)(H:M.Hou)(X:S.Sto)(v:M.Ver)(w:World)(e:Ending)(w':World):Prop:=
 ∃(AU:Tags)(L':List LV)(lo:Option Addr)(lc:Nat)(ids ps:List Nat),e=.returned (.bool (decide (0<L'.length)))/\L'.map (fun x=>x.l)=L.filterMap (fun x=>M.putting (X.adding v.rc) v x.l)/\A7 w' AU rr h dv (pT s) lo lc L' { H with calls:=H.calls+1,bytes:=H.bytes+v.key.size+v.value.size }/\Ag w' AU o s d (if X.adding v.rc=0 then X.put v.rc else X) ids ps/\Kept (fun x=>x=o\/x=rr) tg w AU w'
theorem M.PL(l:M.Lif)(v:M.Ver):(l.put v).1.flushed.AB=l.flushed.AB:=by
 unfold M.Lif.put;split
 .rfl
 split
 .rfl
 split
 .rfl
 .rfl
theorem ZI{wB:World}{JR Em:Tags}{H:M.Hou}{v:M.Ver}(hb:A7 wB JR rr h dv (pT s) lo lc L H/\Ca wB w.heap.size [sT v.key,iT v.stamp,sT v.value,.bool v.gone]/\Q w wB/\(∀k,k<w.heap.size->JR k=tg k)/\∀k,w.heap.size<=k->(JR k).1=rr)(hne:rr≠o)(ht:∀b,b<wB.drew.heap.size->Em b=JR b)(ho:Only o JR wB.drew w4):
  (Kept (·=o) JR wB Em w4/\A7 w4 Em rr h dv (pT s) lo lc L H/\Ca w4 w.heap.size [sT v.key,iT v.stamp,sT v.value,.bool v.gone]/\(Em w.heap.size).1=rr)/\w4.cell? (aD h 2)=some (pT s)/\w4.cell? (aD w.heap.size 0)=some (sT v.key)/\w4.cell? (aD w.heap.size 1)=some (iT v.stamp)/\w4.cell? (aD w.heap.size 2)=some (sT v.value):=by
 obtain⟨hh,hV,q,t0,t1⟩:=hb;have hK:Kept (·=o) JR wB Em w4:=(Kept.Be ((Q.refl wB).drew) (fun _ _=>rfl)).trans (Kept.DI ho ht rfl);have h4:=hh.keep hK hne;have LK:Ca w4 w.heap.size [sT v.key,iT v.stamp,sT v.value,.bool v.gone]:=hV.of_block (hK.block _ hV.1 (by rw[t1 _ (zLK _)];exact hne)) hK.size;exact⟨⟨hK,h4,LK,by rw[hK.tags _ hV.1];exact t1 _ (zLK _)⟩,h4.c2,LK.cell 0 rfl,LK.cell 1 rfl,LK.cell 2 rfl⟩
structure zC4(wr w5:World)(B:Nat)(x y:LV):Prop where
 q:Q wr w5
 var:Ca w5 B y.cells
 va:y.At w5
 hi:wr.heap.size<=B
 fr:y.fo=x.fo/\(y.no=x.no\/∀a,y.no=some a->wr.heap.size<=a.block)
theorem wF(v1:l'.flushed.AB=x.l.flushed.AB){z0 z1 z2 z3 z4 z5 z6:Value}(hx:x.At wr)(q0:Q wr W)(q3:Q W w3)(q4:Q w3 w4)(hv:Cq w3 no' l'.now.AB)(hz:l'.now.AB=[]->no'=none/\Xz=0)(hfr:no'=x.no\/∀a,no'=some a->W.heap.size<=a.block)(hV:Ca w4 B [z0,z1,z2,z3,z4,z5,z6])(hB:B=wr.heap.size/\wr.heap.size<W.heap.size\/B=w3.heap.size):
  zC4 wr (((((((w4.setCell (aD B 0) (.slice x.fo l'.flushed.AB.length x.fc)).setCell (aD B 1) (iT l'.flushed.water)).setCell (aD B 2) (.slice no' l'.now.AB.length Xz)).setCell (aD B 3) (iT l'.now.water)).setCell (aD B 4) (.bool l'.pending)).setCell (aD B 5) (.bool l'.dead)).setCell (aD B 6) (.bool l'.late)) B x ⟨x.fo,no',x.fc,Xz,l'⟩:=by
 have s0:=q0.below.size;have s3:=q3.below.size;have hBl:wr.heap.size<=B:=by omega
 have qq:Q wr w4:=(q0.trans q3).trans q4;have q5:Q wr _:=qq.TF hBl (.slice x.fo l'.flushed.AB.length x.fc) (iT l'.flushed.water) (.slice no' l'.now.AB.length Xz) (iT l'.now.water) (.bool l'.pending) (.bool l'.dead) (.bool l'.late);refine⟨q5,hV.TF _ _ _ _ _ _ _,⟨by have h0:=hx.f.kept q5;rw[<-v1]at h0;exact h0,?_,fun e=>hx.fz (by rw[<-v1];exact e),hz⟩,hBl,rfl,hfr.imp id (fun h a e=>by have:=h a e;omega)⟩;refine(hv.kept q4).blocks (by simp) (fun a e _=>?_);have hne:a.block≠B:=by
  have hlt:l'.now.AB≠[]->a.block<w3.heap.size:=fun hne=>by
   cases hvs:l'.now.AB with
   |nil=>exact absurd hvs hne
   |cons u us =>
    rw[hvs]at hv;obtain⟨b,off,e2,hb,_⟩:=hv.2 0 u rfl;rw[e]at e2;injection e2 with e2;rw[e2];exact hb
  have hnn:l'.now.AB≠[]:=fun h=>by rw[(hz h).1]at e;cases e
  have h3:=hlt hnn;rcases hfr with h|h
  .have:=hx.lt (a:=a) (Or.inr (by rw[<-h];exact e));omega
  .have:=h a e;omega
 have ho:∀(u:World)(j:Nat)(c:Value),(u.setCell (aD B j) c).heap[a.block]?=u.heap[a.block]?:=fun u j c=>heap_setCell_other _ (aD B j) a.block _ (by simpa using hne);rw[ho,ho,ho,ho,ho,ho,ho]
theorem oq(v1:l'.flushed.AB=x.l.flushed.AB)(hx:x.At wr)(q0:Q wr W)(q3:Q W w3)(hv:Cq w3 no' l'.now.AB)(hz:l'.now.AB=[]->no'=none/\Xz=0)(hfr:no'=x.no\/∀a,no'=some a->W.heap.size<=a.block):
  zC4 wr (w3.alloc (.cells #[.slice x.fo l'.flushed.AB.length x.fc,iT l'.flushed.water,.slice no' l'.now.AB.length Xz,iT l'.now.water,.bool l'.pending,.bool l'.dead,.bool l'.late] 49)) w3.heap.size x ⟨x.fo,no',x.fc,Xz,l'⟩:=by
 have s0:=q0.below.size;have s3:=q3.below.size;have q4:Q w3 (w3.alloc (.cells #[.slice x.fo l'.flushed.AB.length x.fc,iT l'.flushed.water,.slice no' l'.now.AB.length Xz,iT l'.now.water,.bool l'.pending,.bool l'.dead,.bool l'.late] 49)):=(Q.refl w3).alloc _ _;have q5:=(q0.trans q3).trans q4;exact⟨q5,AZ w3 _ _,⟨by have h0:=hx.f.kept q5;rw[<-v1]at h0;exact h0,hv.kept q4,fun e=>hx.fz (by rw[<-v1];exact e),hz⟩,by omega,rfl,hfr.imp id (fun h a e=>by have:=h a e;omega)⟩
theorem zC4.give(h:zC4 wr W B x y):∃w5 b5,W=w5/\B=b5/\zC4 wr w5 b5 x y:=⟨W,B,rfl,rfl,h⟩
theorem kD{H:M.Hou}(hh:A7 w tg rr h dv (pT s) lo lc L H)(hS:Ag w tg o s d X ids ps)(hX:X.Ok)(hf:X.pend.length<1048000/\∀kr∈X.pend,kr.2.length<1048000)(hne:rr≠o)(hL:L.length<=1048576)(hcl:H.calls<=1048576)(hby:H.bytes<=4194304)(hvs:∀x∈L,x.l.now.AB.length<=1048576)(v:M.Ver)(hvk:v.key.size<=1048576)(hvv:v.value.size<=1048576)(hvg:v.gone=true->v.value=⟨#[]⟩)(hr:X.adding v.rc=0->∀kr∈X.pend,kr.1=v.key->∀x∈kr.2,x.stamp<v.stamp):
  Calls Tryz.prog 30 #[pT h,FK v] w fun e w'=>mX tg rr o h s d dv L H X v w e w':=by
 obtain⟨JR,xH⟩:=ex (tg.more w.heap.size rr 1);have tB0:∀k,k<w.heap.size->JR k=tg k:=fun k hk=>by rw[xH];exact Tags.AQ hk
 have tB1:∀k,w.heap.size<=k->(JR k).1=rr:=fun k hk=>by rw[xH,Tags.Ay hk]
 have PU:Hid ((v.gone=true->∀(W:World),Q w W->Calls Tryz.prog 46 #[pT s,sT v.key,iT v.stamp] W fun e w'=>Added JR o s d X v.rc W e w')/\(v.gone=false->∀(W:World),Q w W->Calls Tryz.prog 47 #[pT s,sT v.key,iT v.stamp,sT v.value] W fun e w'=>Added JR o s d X v.rc W e w')):=by
  refine⟨fun e W q=>?_,fun e W q=>?_⟩
  .have e1:v.rc=⟨v.key,v.stamp,2,⟨#[]⟩⟩:=by unfold M.Ver.rc;rw[if_pos e,hvg e]
   rw[e1]at hr⊢;exact eO (hS.keep q.below.size tB0 (fun k hk _=>q.below.block k hk)) hX v.key v.stamp hf hr
  .have e1:v.rc=⟨v.key,v.stamp,0,v.value⟩:=by unfold M.Ver.rc;rw[if_neg (by rw[e];simp)]
   rw[e1]at hr⊢;exact wE (hS.keep q.below.size tB0 (fun k hk _=>q.below.block k hk)) hX v.key v.stamp v.value hf hr
 obtain⟨wB,hwB⟩:=ex (w.alloc (.cells #[sT v.key,iT v.stamp,sT v.value,.bool v.gone] 76));have qB:Q w wB:=by rw[hwB];exact(Q.refl w).alloc _ _
 have hV:Ca wB w.heap.size [sT v.key,iT v.stamp,sT v.value,.bool v.gone]:=by rw[hwB];exact AZ w _ _
 have hhB:A7 wB JR rr h dv (pT s) lo lc L H:=hh.keep (P:=fun _=>False) (Kept.Be qB tB0) (fun e=>e);have zx:=h_5 hhB hV qB tB0 tB1;have c2:=hhB.c2;have b0:=hV.cell 0 rfl;have b1:=hV.cell 1 rfl;have b2:=hV.cell 2 rfl;have b3:=hV.cell 3 rfl;have hht:=hh.top;unfold FK;clear hh hS hX hf hr hvg xH tB0 tB1 qB hV hhB
 cases hgo:v.gone
 all_goals
  go_in;rw[hgo]at hwB b3;go_wp2_with fail;rw[<-hwB];clear hwB
  go_region_held3 (fun w'=>w'.cell? (aD h 2)=some (pT s)/\w'.cell? (aD w.heap.size 0)=some (sT v.key)/\w'.cell? (aD w.heap.size 1)=some (iT v.stamp)/\w'.cell? (aD w.heap.size 2)=some (sT v.value))
   (first|exact⟨c2,b0,b1,b2⟩|exact Db)
   (first
    |(go_at_call 47;apply(PU.out.2 hgo _ (zx.out.2.2.1.trans ((Q.refl wB).drew))).mono;rintro e w4⟨rfl,Em,jv,ps4,j5,xZ,kF⟩;obtain⟨H4,Db⟩:=ZI zx.out hne j5 kF)
    |(go_at_call 46;apply(PU.out.1 hgo _ (zx.out.2.2.1.trans ((Q.refl wB).drew))).mono;rintro e w4⟨rfl,Em,jv,ps4,j5,xZ,kF⟩;obtain⟨H4,Db⟩:=ZI zx.out hne j5 kF))
  all_goals
   ((((have HS4:=h_2 xZ H4.1;obtain⟨_,LG,LK,t4⟩:=H4;clear c2 b0 b1 b2 b3 Db xZ j5 kF PU;have c5:=LG.c5;have f5:=LG.fr 5;have c6:=LG.c6;have f6:=LG.fr 6;have b0:=LK.cell 0 rfl;have b2:=LK.cell 2 rfl;have e5:IntKind.i64.wrap ((H.calls:Int)+1)=(H.calls:Int)+1:=by rw[IntKind.wrap_i64];omega);have e6:IntKind.i64.wrap ((H.bytes:Int)+(v.key.size:Int))=(H.bytes:Int)+(v.key.size:Int):=by rw[IntKind.wrap_i64];omega);have e7:IntKind.i64.wrap ((H.bytes:Int)+(v.key.size:Int)+(v.value.size:Int))=(H.bytes:Int)+(v.key.size:Int)+(v.value.size:Int):=by rw[IntKind.wrap_i64];omega);obtain⟨h5,k5⟩:=LG.vV (v:=(H.calls:Int)+1) (by simp);obtain⟨h6,k6⟩:=h5.set 6 (iT ((H.bytes:Int)+(v.key.size:Int)+(v.value.size:Int))) (H':={ H with calls:=H.calls+1,bytes:=H.bytes+v.key.size+v.value.size }) (by omega) rfl rfl rfl rfl rfl (by simp) rfl rfl rfl;have k56:=k5.trans k6;have M8:=(LK.other (C:=h) (by omega) 5 (iT ((H.calls:Int)+1))).other (C:=h) (by omega) 6 (iT ((H.bytes:Int)+(v.key.size:Int)+(v.value.size:Int)));obtain⟨w2,hw2⟩:=ex (((w4.setCell (aD h 5) (iT ((H.calls:Int)+1))).setCell (aD h 6) (iT ((H.bytes:Int)+(v.key.size:Int)+(v.value.size:Int)))).drew);have qd:Q ((w4.setCell (aD h 5) (iT ((H.calls:Int)+1))).setCell (aD h 6) (iT ((H.bytes:Int)+(v.key.size:Int)+(v.value.size:Int)))) w2:=by rw[hw2];exact(Q.refl _).drew);replace h6:=h6.keep (P:=fun _=>False) (Kept.Be qd (fun _ _=>rfl)) (fun e=>e);replace M8:=M8.kept qd;replace k56:=k56.trans (Kept.Be qd (fun _ _=>rfl));have K6:=h_3 h6 M8 k56;have r3:=h6.c3;obtain⟨i0,hi,hz0,hz1,hz2⟩:=info_parts Iy;have MV:=h_ h6.lv;have HVS:=h_ hvs;obtain⟨er,her⟩:=ex (X.adding v.rc);have HER:=h_ her;clear h5 k5 h6 k6 k56 M8 LG LK hvs qd;go_wp2_with fail
   go_region
   go_wp2_with fail;rw[<-hw2,<-her];clear hw2 her
   go_loopw [6,7] (fun tl ti wr=>∃(i:Nat)(L':List LV)(ao:Option Addr)(cap:Nat),tl=.slice ao L'.length cap/\ti=iT (i:Int)/\i<=L.length/\L'.length<=i/\Hid (GX w2 L' ao cap wr)/\Hid (L'.map (fun x=>x.l)=(L.take i).filterMap (fun x=>M.putting er v x.l)/\∀y∈L',∀a,y.fo=some a\/y.no=some a->(∃x∈L,x.fo=some a\/x.no=some a)\/w2.heap.size<=a.block)) (fun _ ti _=>L.length-(intOf ti).toNat)
   case atStart=>exact⟨0,[],none,0,rfl,rfl,zLS _,zLK _,GX.none w2,rfl,fun y hy=>by cases hy⟩
   case round =>
    obtain⟨i,L',ao,cap,rfl,rfl,hi1,hi2,HL,HM⟩:=hrel;have k3:=AA r3 HL.out.q;by_cases hlt:i<L.length
    ·((obtain⟨x,hx⟩:∃x,L[i]?=some x:=⟨_,zLH hlt⟩;have I4:(i:Int)<(L.length:Int):=by omega);obtain⟨g,rfl,hg,hc⟩:=MV.out.row i x hx;have q0:∀j v,x.cells[j]?=some v->wr.cell? (aD g (i*7+j))=some v:=fun j v hv=>AA (hc j v hv) HL.out.q;have x0:=q0 0 _ rfl;have x1:=q0 1 _ rfl;have x2:=q0 2 _ rfl;have x3:=q0 3 _ rfl;have x4:=q0 4 _ rfl;have x5:=q0 5 _ rfl;have x6:=q0 6 _ rfl;rw[Nat.add_zero]at x0;have hxm:=zLR hx;have HXA:=h_ ((MV.out.all x hxm).kept HL.out.q);have LR:Hid _:=fun(W:World)(q:Q wr W)=>wN x.fo x.no x.fc x.nc x.l v (by have:=HVS.out x hxm;omega) W (HXA.out.kept q).n (MV.out.all x hxm).nz;unfold AV FK at LR;rw[hgo]at LR;have HX:=h_ hx;have b0:=AA (K6.out.2.1.cell 0 rfl) HL.out.q;have b1:=AA (K6.out.2.1.cell 1 rfl) HL.out.q;have b2:=AA (K6.out.2.1.cell 2 rfl) HL.out.q;have b3:=AA (K6.out.2.1.cell 3 rfl) HL.out.q;clear hx hc q0 hxm;go_upto_region 11 with fail);have KP:Hid (∀w':World,Q wr w'->w'.cell? (aD h 3)=some (.slice (some (aD g 0)) L.length lc)/\w'.cell? (aD g (i*7))=some (.slice x.fo x.l.flushed.AB.length x.fc)/\w'.cell? (aD g (i*7+1))=some (iT x.l.flushed.water)/\w'.cell? (aD g (i*7+2))=some (.slice x.no x.l.now.AB.length x.nc)/\w'.cell? (aD g (i*7+3))=some (iT x.l.now.water)/\w'.cell? (aD g (i*7+4))=some (.bool x.l.pending)/\w'.cell? (aD g (i*7+5))=some (.bool x.l.dead)/\w'.cell? (aD g (i*7+6))=some (.bool x.l.late)/\w'.cell? (aD w.heap.size 0)=some (sT v.key)/\w'.cell? (aD w.heap.size 1)=some (iT v.stamp)/\w'.cell? (aD w.heap.size 2)=some (sT v.value)/\w'.cell? (aD w.heap.size 3)=some (.bool v.gone)):=fun w' q=>⟨AA k3 q,AA x0 q,AA x1 q,AA x2 q,AA x3 q,AA x4 q,AA x5 q,AA x6 q,AA b0 q,AA b1 q,AA b2 q,AA b3 q⟩;clear k3 x0 x1 x2 x3 x4 x5 x6 b0 b1 b2 b3
     go_region_held3 (fun w'=>w'.cell? (aD h 3)=some (.slice (some (aD g 0)) L.length lc)/\w'.cell? (aD g (i*7))=some (.slice x.fo x.l.flushed.AB.length x.fc)/\w'.cell? (aD g (i*7+1))=some (iT x.l.flushed.water)/\w'.cell? (aD g (i*7+2))=some (.slice x.no x.l.now.AB.length x.nc)/\w'.cell? (aD g (i*7+3))=some (iT x.l.now.water)/\w'.cell? (aD g (i*7+4))=some (.bool x.l.pending)/\w'.cell? (aD g (i*7+5))=some (.bool x.l.dead)/\w'.cell? (aD g (i*7+6))=some (.bool x.l.late)/\w'.cell? (aD w.heap.size 0)=some (sT v.key)/\w'.cell? (aD w.heap.size 1)=some (iT v.stamp)/\w'.cell? (aD w.heap.size 2)=some (sT v.value)/\w'.cell? (aD w.heap.size 3)=some (.bool v.gone))
      (first|with_reducible exact KP.out _ ((Q.refl wr).drew)|with_reducible exact KP.out _ ((Q.refl wr).alloc _ _).drew|with_reducible exact KP.out _ q4|with_reducible exact KP.out _ (q4.alloc _ _)|exact KP.out _ HPX.out.q)
      (first
       |(go_at_call 48;(with_reducible refine(LR.out _ ((Q.refl wr).drew)).mono ?_);rintro e w3⟨no',Xz,rfl,hv',hz',q3,kM⟩;have q4:Q wr w3:=(Q.refl wr).drew.trans q3;have HPX:Hid _:=oq (M.PL x.l v) HXA.out ((Q.refl wr).drew) q3 hv' hz' kM;clear hv' hz' kM q3;unfold AV)
       |(go_at_call 48;(with_reducible refine(LR.out _ (((Q.refl wr).alloc _ _).drew)).mono ?_);rintro e w3⟨no',Xz,rfl,hv',hz',q3,kM⟩;have q4:Q wr w3:=(((Q.refl wr).alloc _ _).drew).trans q3;have V2:=(((AZ wr [nS,iT 0,nS,iT 0,.bool false,.bool false,.bool false] 49).kept (Q.refl _).drew).kept q3);have HPX:Hid _:=wF (M.PL x.l v) HXA.out (((Q.refl wr).alloc _ _).drew) q3 (Q.refl w3) hv' hz' kM V2 (Or.inl ⟨by simp,by simp⟩);have z0:=V2.cell 0 rfl;have d0:=V2.free 0 rfl;have z1:=V2.cell 1 rfl;have d1:=V2.free 1 rfl;have z2:=V2.cell 2 rfl;have d2:=V2.free 2 rfl;have z3:=V2.cell 3 rfl;have d3:=V2.free 3 rfl;have z4:=V2.cell 4 rfl;have d4:=V2.free 4 rfl;have z5:=V2.cell 5 rfl;have d5:=V2.free 5 rfl;have z6:=V2.cell 6 rfl;have d6:=V2.free 6 rfl;clear hv' hz' kM q3;unfold AV))
     all_goals
      obtain⟨w5,b5,e5,eb,hP⟩:=HPX.out.give;rw[e5,eb];clear HPX e5 eb KP LR q4;obtain⟨y,hy⟩:∃y:LV,y=⟨x.fo,no',x.fc,Xz,(x.l.put v).1⟩:=⟨_,rfl⟩;obtain⟨cd,hcd⟩:∃cd:Nat,cd=(x.l.put v).2:=⟨_,rfl⟩;rw[<-hy]at hP;have JM:=h_ (HL.out.kept hP.q);have HY:Hid (y.At w5/\(∀a,y.fo=some a\/y.no=some a->(∃x∈L,x.fo=some a\/x.no=some a)\/w2.heap.size<=a.block)/\M.putting er v x.l=(if er=(cd:Int)then some y.l else none)/\y.Off (Value.slice ao L'.length cap).ownBlock):=by
       have hxm:=zLR HX.out;have hs2:=HL.out.q.below.size;refine⟨hP.va,fun a ha=>?_,by rw[hy,hcd];rfl,fun a ha e=>?_⟩
       .rcases ha with ha|ha
        .exact Or.inl ⟨x,hxm,Or.inl (by rw[<-hP.fr.1];exact ha)⟩
        .rcases hP.fr.2 with e|e
         .exact Or.inl ⟨x,hxm,Or.inr (by rw[<-e];exact ha)⟩
         .exact Or.inr (zLV hs2 (e a ha))
       .have h1:=HL.out.own.lt _ e;rcases ha with ha|ha
        .have h2:=(MV.out.all x hxm).lt (a:=a) (Or.inl (by rw[<-hP.fr.1];exact ha));omega
        .rcases hP.fr.2 with e2|e2
         .have h2:=(MV.out.all x hxm).lt (a:=a) (Or.inr (by rw[<-e2];exact ha));omega
         .have:=e2 a ha;omega
      rw[<-hcd];have g0:w5.cell? (aD b5 0)=some (.slice y.fo y.l.flushed.AB.length y.fc):=hP.var.cell 0 rfl;have g1:w5.cell? (aD b5 1)=some (iT y.l.flushed.water):=hP.var.cell 1 rfl;have g2:w5.cell? (aD b5 2)=some (.slice y.no y.l.now.AB.length y.nc):=hP.var.cell 2 rfl;have g3:w5.cell? (aD b5 3)=some (iT y.l.now.water):=hP.var.cell 3 rfl;have g4:w5.cell? (aD b5 4)=some (.bool y.l.pending):=hP.var.cell 4 rfl;have g5:w5.cell? (aD b5 5)=some (.bool y.l.dead):=hP.var.cell 5 rfl;have g6:w5.cell? (aD b5 6)=some (.bool y.l.late):=hP.var.cell 6 rfl;clear HL hP hy hcd;by_cases Zg:er=(cd:Int)
      ·((subst Zg;have q5:Q w5 (w5.alloc (.cells #[.slice y.fo y.l.flushed.AB.length y.fc,iT y.l.flushed.water,.slice y.no y.l.now.AB.length y.nc,iT y.l.now.water,.bool y.l.pending,.bool y.l.dead,.bool y.l.late] 49)):=(Q.refl w5).alloc _ _;have hL5:=JM.out.kept q5;have hown5:=hL5.own;have Uk:=h_3 hL5 (HY.out.1.kept q5) HY.out.2.2.2;have hsz:w2.heap.size<=w5.heap.size:=JM.out.q.below.size;clear hL5 q5;have y1:∀j u,y.cells[j]?=some u->(w5.alloc (.cells #[.slice y.fo y.l.flushed.AB.length y.fc,iT y.l.flushed.water,.slice y.no y.l.now.AB.length y.nc,iT y.l.now.water,.bool y.l.pending,.bool y.l.dead,.bool y.l.late] 49)).cell? (((aD w5.heap.size 0):Addr).add j)=some u:=FV w5 y 49;obtain⟨v',w',hrun,hown',hgrow,_⟩:=run_append_own (P:=Tryz.prog) _ w2.heap.size 36 36 49 i0 (.agg #[nS,iT 0,nS,iT 0,.bool false,.bool false,.bool false]) 7 72 Tryz.underlying36 hi hz0 hz1 hz2 rfl (by decide) _ _ _ hown5 (aD w5.heap.size 0) 1 1 y.cells rfl y1 (H7 y) (by unfold maxLen;omega) (by omega) (by simp;omega);have Gy:=BQ (ty:=36) Tryz.underlying36 hi hz0 hz1 hz2 hown5 (m:=1) (c:=1) rfl y1 (H7 y) (by decide) (by unfold maxLen;omega) (by omega) hrun;obtain⟨Er,Bn,hv⟩:=Ac hown';rw[hv]at hown' Gy hrun;have HP:=h_ (Uk.out.1.push Uk.out.2.1 Uk.out.2.2 hgrow hown' Gy);have hln:(L'++[y]).length=L'.length+1:=by simp);rw[<-hln]at hrun;clear hown' hgrow Gy hv hown5 Uk y1;go_wp2_with(at_builtin;refine Lib.wpList_append_run _ rfl _ _ _ _ rfl _ _ rfl rfl _ _ hrun ?_);clear hrun;go_wp2_with fail);go_roundw
       case rel=>exact⟨i+1,L'++[y],Er,Bn,by rw[hln],by go_num,by omega,by simp;omega,HP,⟨by
        have h1:=HM.out.1;rw[zLv,HX.out,List.filterMap_append,List.map_append,h1];simp[HY.out.2.2.1],fun z hz=>by
        (have:z∈L'\/z=y:=by simpa using hz);rcases this with e|e
        .exact HM.out.2 z e
        .rw[e];exact HY.out.2.1⟩⟩
       case measure=>simp[intOf];omega
      ·((have zEp:(er==(cd:Int))=false:=by rw[zM9];exact Zg);go_wp2_with fail);go_roundw
       case rel=>exact⟨i+1,L',ao,cap,rfl,by go_num,by omega,by omega,JM,⟨by
        have h1:=HM.out.1;rw[zLv,HX.out,List.filterMap_append,h1];simp[HY.out.2.2.1,Zg],HM.out.2⟩⟩
       case measure=>simp[intOf];omega
    ·(obtain rfl:i=L.length:=by omega);have f3:wr.frozen? (aD h 3)=false:=(HL.out.q.below.frozen (p:=(aD h 3)) K6.out.1.top).trans (K6.out.1.fr 3);go_wp2;go_ret;obtain⟨hT,R5⟩:=K6.out.1.turn HL.out HM.out.2;have hKo:Kept (fun x=>x=o\/x=rr) tg w Em w2:=((Kept.Be zx.out.2.2.1 zx.out.2.2.2.1).trans (HS4.out.2.wider (fun x e=>Or.inl e))).trans (K6.out.2.2.wider (fun x e=>Or.inr e));refine⟨_,L',ao,cap,jv,ps4,rfl,?_,hT,(HS4.out.1.keep K6.out.2.2.size K6.out.2.2.tags (fun k hk e=>K6.out.2.2.block k hk (by rw[e];exact fun e=>hne e.symm))).keep R5.size R5.tags (fun k hk e=>R5.block k hk (by rw[e];exact fun e=>hne e.symm)),hKo.trans (R5.wider (fun x e=>Or.inr e))⟩;have h1:=HM.out.1;rw[zM0,HER.out]at h1;exact h1
def M.tells(k:BA)(t:Int)(gv:BA)(gt:Bool)(gc:Int)(l:M.Lif):Bool:=gv.toList==(l.Cb k t).1.toList&&(gt==(l.Cb k t).2.1&&decide (gc=((l.Cb k t).2.2:Nat)))
def zCW(Ans:BA->Bool->Int->Prop)(tg:Tags)(rr h:Nat)(dv sv:Value)(L:List LV)(H:M.Hou)(k:BA)(t:Int)(w:World)(e:Ending)(w':World):Prop:=
 ∃(gv:BA)(gt:Bool)(gc:Int),Ans gv gt gc/\((gc=3/\H.flipped=true/\(e=.returned (.bool (gv.toList.isEmpty && !gt))/\Q w w'))\/(¬(gc=3/\H.flipped=true)/\∃(AU:Tags)(lo:Option Addr)(lc:Nat),e=.returned (.bool (decide (0<(L.filter fun x=>M.tells k t gv gt gc x.l).length)))/\A7 w' AU rr h dv sv lo lc (L.filter fun x=>M.tells k t gv gt gc x.l) H/\Kept (·=rr) tg w AU w'))
theorem kE{Ans:BA->Bool->Int->Prop}{H:M.Hou}{k:BA}{t:Int}(hh:A7 w tg rr h dv (pT s) lo lc L H)(hL:L.length<=1048576)(hvs:∀x∈L,x.l.now.AB.length<=1048576)(GA:Calls Tryz.prog 49 #[pT s,sT k,iT t] w fun e w'=>(∃gv gt gc,Ans gv gt gc/\e=.returned (.tuple #[sT gv,.bool gt,iT gc]))/\Q w w'):
  Calls Tryz.prog 31 #[pT h,sT k,iT t] w fun e w'=>zCW Ans tg rr h dv (pT s) L H k t w e w':=by
 have GB:=hU GA;have HH:=h_ hh;have HVS:=h_ hvs;have c2:=hh.c2;have c7:=hh.c7;go_in;go_wp2_with fail;apply(GB.out ()).mono;rintro e w2⟨⟨gv,gt,gc,ha,rfl⟩,q1⟩;have HA:=h_2 ha q1;have d7:=AA c7 q1;have M6:=HH.out.keep (P:=fun _=>False) (Kept.Be q1 (fun _ _=>rfl)) (fun e=>e);have K6:=h_ M6;have r3:=M6.c3;have MV:=h_ M6.lv;obtain⟨i0,hi,hz0,hz1,hz2⟩:=info_parts Iy;by_cases hcf:gc=3/\H.flipped=true
 .obtain⟨rfl,hfl⟩:=hcf;rw[hfl]at d7
  cases he:gv.toList.isEmpty
  all_goals
   go_wp2;go_ret;exact⟨gv,gt,3,HA.out.1,Or.inl ⟨rfl,hfl,by simp[he],HA.out.2⟩⟩
 .have HCF:=h_ hcf;have hcs:(gc==3)=false\/((gc==3)=true/\H.flipped=false):=by
   by_cases h3:gc=3
   .right;refine⟨by rw[h3];rfl,?_⟩
    cases hx:H.flipped with
    |false=>rfl
    |true=>exact absurd ⟨h3,hx⟩ hcf
   .left;rw[zM9];exact h3
  rcases hcs with hc3|⟨hc3,hfl⟩
  all_goals
   (try rw[hfl]at d7);go_wp2_with fail
   go_loopw [10,11] (fun tl ti wr=>∃(i:Nat)(L':List LV)(ao:Option Addr)(cap:Nat),tl=.slice ao L'.length cap/\ti=iT (i:Int)/\i<=L.length/\L'.length<=i/\Hid (GX w2 L' ao cap wr)/\Hid (L'=(L.take i).filter (fun x=>M.tells k t gv gt gc x.l))) (fun _ ti _=>L.length-(intOf ti).toNat)
   case atStart=>exact⟨0,[],none,0,rfl,rfl,zLS _,zLK _,GX.none w2,rfl⟩
   case round =>
    obtain⟨i,L',ao,cap,rfl,rfl,hi1,hi2,HL,HM⟩:=hrel;have k3:=AA r3 HL.out.q;by_cases hlt:i<L.length
    .obtain⟨x,hx⟩:∃x,L[i]?=some x:=⟨_,zLH hlt⟩;have I4:(i:Int)<(L.length:Int):=by omega
     obtain⟨g,rfl,hg,hc⟩:=MV.out.row i x hx;have q0:∀j v,x.cells[j]?=some v->wr.cell? (aD g (i*7+j))=some v:=fun j v hv=>AA (hc j v hv) HL.out.q;have Q0:=h_ q0;have x0:=q0 0 _ rfl;have x1:=q0 1 _ rfl;have x2:=q0 2 _ rfl;have x3:=q0 3 _ rfl;have x4:=q0 4 _ rfl;have x5:=q0 5 _ rfl;have x6:=q0 6 _ rfl;rw[Nat.add_zero]at x0;have hxm:=zLR hx;have LR:Hid _:=fun(_:Unit)=>jU x.fo x.no x.fc x.nc x.l k t (by have:=HVS.out x hxm;omega) wr ((MV.out.all x hxm).kept HL.out.q).n;unfold AV at LR;have HX:=h_ hx;obtain⟨⟨rv,rt,rc⟩,hrr⟩:=ex (x.l.Cb k t);rw[<-hrr]at LR;simp only at LR;have HP:Hid (M.tells k t gv gt gc x.l=(gv.toList==rv.toList&&(gt==rt&&decide (gc=(rc:Nat))))):=by
      (show M.tells k t gv gt gc x.l=_);unfold M.tells;rw[<-hrr]
     go_wp2_with fail;apply(LR.out ()).mono;rintro e w3⟨rfl,q3⟩;have JM:=h_2 (HL.out.kept q3) q3;by_cases hall:(gv.toList==rv.toList)=true/\gt=rt/\gc=(rc:Int)
     .obtain⟨h1,rfl,rfl⟩:=hall;have k3:=AA r3 JM.out.1.q;have x0:=AA (Q0.out 0 _ rfl) JM.out.2;have x1:=AA (Q0.out 1 _ rfl) JM.out.2;have x2:=AA (Q0.out 2 _ rfl) JM.out.2;have x3:=AA (Q0.out 3 _ rfl) JM.out.2;have x4:=AA (Q0.out 4 _ rfl) JM.out.2;have x5:=AA (Q0.out 5 _ rfl) JM.out.2;have x6:=AA (Q0.out 6 _ rfl) JM.out.2;rw[Nat.add_zero]at x0;have hxa:=(MV.out.all x (zLR HX.out)).kept JM.out.1.q;have q5:Q w3 (w3.alloc (.cells #[.slice x.fo x.l.flushed.AB.length x.fc,iT x.l.flushed.water,.slice x.no x.l.now.AB.length x.nc,iT x.l.now.water,.bool x.l.pending,.bool x.l.dead,.bool x.l.late] 49)):=(Q.refl w3).alloc _ _;have hL5:=JM.out.1.kept q5;have hown5:=hL5.own;have hlow:x.Off (Value.slice ao L'.length cap).ownBlock:=fun a ha e=>by
       have h1:=(hown5.lt _ e).1;have h2:=(MV.out.all x (zLR HX.out)).lt ha;omega
      have Uk:=h_3 hL5 (hxa.kept q5) hlow;have hsz:w2.heap.size<=w3.heap.size:=JM.out.1.q.below.size;have y1:∀j u,x.cells[j]?=some u->(w3.alloc (.cells #[.slice x.fo x.l.flushed.AB.length x.fc,iT x.l.flushed.water,.slice x.no x.l.now.AB.length x.nc,iT x.l.now.water,.bool x.l.pending,.bool x.l.dead,.bool x.l.late] 49)).cell? (((aD w3.heap.size 0):Addr).add j)=some u:=by
       have:=FV w3 x 49;unfold AV at this;exact this
      ((obtain⟨v',w',hrun,hown',hgrow,_⟩:=run_append_own (P:=Tryz.prog) _ w2.heap.size 36 36 49 i0 (.agg #[nS,iT 0,nS,iT 0,.bool false,.bool false,.bool false]) 7 72 Tryz.underlying36 hi hz0 hz1 hz2 rfl (by decide) _ _ _ hown5 (aD w3.heap.size 0) 1 1 x.cells rfl y1 (H7 x) (by unfold maxLen;omega) (by omega) (by simp;omega);have Gy:=BQ (ty:=36) Tryz.underlying36 hi hz0 hz1 hz2 hown5 (m:=1) (c:=1) rfl y1 (H7 x) (by decide) (by unfold maxLen;omega) (by omega) hrun;obtain⟨Er,Bn,hv⟩:=Ac hown';rw[hv]at hown' Gy hrun;have HPP:=h_ (Uk.out.1.push Uk.out.2.1 Uk.out.2.2 hgrow hown' Gy);have hln:(L'++[x]).length=L'.length+1:=by simp);rw[<-hln]at hrun;go_wp2_with(at_builtin;refine Lib.wpList_append_run _ rfl _ _ _ _ rfl _ _ rfl rfl _ _ hrun ?_);go_wp2_with fail);go_roundw
      case rel=>exact⟨i+1,L'++[x],Er,Bn,by rw[hln],by go_num,by omega,by simp;omega,HPP,by
       show L'++[x]=_
       rw[zLv,HX.out,List.filter_append,<-HM.out];have hp:=HP.out;simp only[h1,BEq.rfl,decide_true,Bool.and_self]at hp;simp[hp]⟩
      case measure=>simp[intOf];omega
     .have hpf:M.tells k t gv gt gc x.l=false:=by
       rw[HP.out]
       cases h1:(gv.toList==rv.toList)with
       |false=>rfl
       |true =>
        cases h2:(gt==rt)with
        |false=>rfl
        |true =>
         rw[Bool.true_and,Bool.true_and,decide_eq_false_iff_not];exact fun h3=>hall ⟨h1,by simpa using h2,h3⟩
      have HPF:Hid (L'=(L.take (i+1)).filter (fun x=>M.tells k t gv gt gc x.l)):=by
       (show L'=_);rw[zLv,HX.out,List.filter_append,<-HM.out];simp[hpf]
      cases h1:(gv.toList==rv.toList)
      ·(((go_wp2_with fail);go_roundw);case rel=>exact⟨i+1,L',ao,cap,rfl,by go_num,by omega,by omega,JM.out.1,HPF⟩);case measure=>simp[intOf];omega
      .by_cases h2:gt=rt
       .subst h2;have h3:(gc==(rc:Int))=false:=by
         rw[zM9];exact fun e=>hall ⟨h1,rfl,e⟩
        (((go_wp2_with fail);go_roundw);case rel=>exact⟨i+1,L',ao,cap,rfl,by go_num,by omega,by omega,JM.out.1,HPF⟩);case measure=>simp[intOf];omega
       .have h2b:(gt==rt)=false:=by
         rw[zM9];exact h2
        (((go_wp2_with fail);go_roundw);case rel=>exact⟨i+1,L',ao,cap,rfl,by go_num,by omega,by omega,JM.out.1,HPF⟩);case measure=>simp[intOf];omega
    .obtain rfl:i=L.length:=by omega
     have f3:wr.frozen? (aD h 3)=false:=(HL.out.q.below.frozen (p:=(aD h 3)) K6.out.top).trans (K6.out.fr 3);go_wp2;go_ret;have hLE:=HM.out;rw[zM0]at hLE;obtain⟨hT,R5⟩:=K6.out.turn HL.out (fun y hy a ha=>by
      rw[hLE]at hy;exact Or.inl ⟨y,(List.mem_filter.1 hy).1,ha⟩)
     refine⟨gv,gt,gc,HA.out.1,Or.inr ⟨HCF.out,_,ao,cap,by rw[<-hLE];simp,by rw[<-hLE];exact hT,?_⟩⟩;exact((Kept.Be HA.out.2 (fun _ _=>rfl)).wider (R:=(·=rr)) (P:=fun _=>False) (fun x e=>e.elim)).trans R5
theorem Qy(A B:List LV):Bj (A++B)=Bj A++Bj B:=by simp[Bj]
theorem Po(y:LV):Bj [y]=y.cells:=by simp[Bj]
theorem Te(q:Q w0 w)(hy:y.At w):GX w0 [y] (some (aD w.heap.size 0)) 1 (w.alloc (.cells #[.slice y.fo y.l.flushed.AB.length y.fc,iT y.l.flushed.water,.slice y.no y.l.now.AB.length y.nc,iT y.l.now.water,.bool y.l.pending,.bool y.l.dead,.bool y.l.late] 49)):=by
 have qa:=(Q.refl w).alloc #[.slice y.fo y.l.flushed.AB.length y.fc,iT y.l.flushed.water,.slice y.no y.l.now.AB.length y.nc,iT y.l.now.water,.bool y.l.pending,.bool y.l.dead,.bool y.l.late] 49;have hm:∀x,x∈[y]->x=y:=fun x hx=>by simpa using hx
 refine⟨(q.trans qa).below,⟨by rw[Po,Pn];rfl,Or.inr ⟨w.heap.size,1,_,rfl,q.below.size,heap_alloc_new w _,zLK _,by unfold maxLen;omega,rfl,by rw[Po];rfl⟩⟩,fun x hx=>by rw[hm x hx];exact hy.kept qa,fun x hx a ha e=>?_⟩;rw[hm x hx]at ha;have:=hy.lt ha;simp only[Value.ownBlock,zLO]at e;omega
theorem jS{M:List LV}{Dj:Option Addr}{cap cap':Nat}(h:GX w0 L ao cap wr)(hM:∀x∈M,x.At wr/\x.Off (Value.slice ao L.length cap).ownBlock)(hg:wr.grownBy w' (Value.slice ao L.length cap).ownBlock)(ho:w'.ownsRow w0.heap.size 49 7 (.slice Dj (L.length+M.length) cap') (L.length+M.length) (Bj L++Bj M))(hb:(Value.slice Dj (L.length+M.length) cap').ownBlock=(Value.slice ao L.length cap).ownBlock\/(Value.slice Dj (L.length+M.length) cap').ownBlock=some wr.heap.size):GX w0 (L++M) Dj cap' w':=by
 have hm:∀y,y∈L++M->y.At wr/\y.Off (Value.slice ao L.length cap).ownBlock:=fun y hy=>by
  rcases zMD.1 hy with e|e
  .exact⟨h.all y e,h.off y e⟩
  .exact hM y e
 have hl:(L++M).length=L.length+M.length:=by simp
 refine⟨h.below.grown hg h.below.size (Dx h.own),by rw[Qy,hl];exact ho,fun y hy=>(hm y hy).1.grown hg (hm y hy).2,fun y hy a ha=>?_⟩;rw[hl];rcases hb with e|e
 .rw[e];exact(hm y hy).2 a ha
 .rw[e];intro e2;injection e2 with e2;have:=(hm y hy).1.lt ha;omega
def Z6(w:World)(x:LV)(e:Ending)(w':World):Prop:=
 ∃(M:List LV)(ao:Option Addr)(cap:Nat),e=.returned (.slice ao M.length cap)/\M.map (fun y=>y.l)=x.l.again/\GX w M ao cap w'/\∀y∈M,∀a,y.fo=some a\/y.no=some a->x.fo=some a\/x.no=some a
theorem Wy(w:World)(hx:x.At w):(⟨x.fo,x.fo,x.fc,x.fc,⟨x.l.flushed,x.l.flushed,false,false,false⟩⟩:LV).At w:=⟨hx.f,hx.f,hx.fz,hx.fz⟩
theorem mQ(w:World)(hx:x.At w):(⟨x.no,x.no,x.nc,x.nc,⟨x.l.now,x.l.now,false,false,false⟩⟩:LV).At w:=⟨hx.n,hx.n,hx.nz,hx.nz⟩
theorem Tg(hx:x.At w):
  Calls Tryz.prog 24 #[.agg (AV x.fo x.no x.fc x.nc x.l)] w fun e w'=>Z6 w x e w':=by
 cases hl:x.l.late with
 |false =>
  have hag:x.l.again=[⟨x.l.flushed,x.l.flushed,false,false,false⟩]:=by unfold M.Lif.again;rw[hl];rfl
  have q0:=(Q.refl w).alloc #[.slice x.fo x.l.flushed.AB.length x.fc,iT x.l.flushed.water,.slice x.no x.l.now.AB.length x.nc,iT x.l.now.water,.bool x.l.pending,.bool x.l.dead,.bool false] 49;have HO:Hid _:=Te q0 (Wy _ (hx.kept q0));unfold AV;rw[hl];go_in;go_wp2;go_ret;have h1:=HO.out;exact⟨[⟨x.fo,x.fo,x.fc,x.fc,⟨x.l.flushed,x.l.flushed,false,false,false⟩⟩],some (aD (w.heap.size+1) 0),1,rfl,by rw[hag];rfl,by simpa using h1,fun y hy a ha=>by
   have:y=_:=List.mem_singleton.1 hy;rw[this]at ha;exact Or.inl (by rcases ha with ha|ha<;>exact ha)⟩
 |true =>
  have hag:x.l.again=[⟨x.l.flushed,x.l.flushed,false,false,false⟩,⟨x.l.now,x.l.now,false,false,false⟩]:=by unfold M.Lif.again;rw[hl];rfl
  obtain⟨y1,hy1⟩:∃y:LV,y=⟨x.fo,x.fo,x.fc,x.fc,⟨x.l.flushed,x.l.flushed,false,false,false⟩⟩:=⟨_,rfl⟩;obtain⟨y2,hy2⟩:∃y:LV,y=⟨x.no,x.no,x.nc,x.nc,⟨x.l.now,x.l.now,false,false,false⟩⟩:=⟨_,rfl⟩;have q0:Q w (w.alloc (.cells #[.slice x.fo x.l.flushed.AB.length x.fc,iT x.l.flushed.water,.slice x.no x.l.now.AB.length x.nc,iT x.l.now.water,.bool x.l.pending,.bool x.l.dead,.bool true] 49)):=(Q.refl w).alloc _ _;have hO:GX w [y1] (some ⟨(w.alloc (.cells #[.slice x.fo x.l.flushed.AB.length x.fc,iT x.l.flushed.water,.slice x.no x.l.now.AB.length x.nc,iT x.l.now.water,.bool x.l.pending,.bool x.l.dead,.bool true] 49)).heap.size,0,none⟩) 1 ((w.alloc (.cells #[.slice x.fo x.l.flushed.AB.length x.fc,iT x.l.flushed.water,.slice x.no x.l.now.AB.length x.nc,iT x.l.now.water,.bool x.l.pending,.bool x.l.dead,.bool true] 49)).alloc (.cells #[.slice x.fo x.l.flushed.AB.length x.fc,iT x.l.flushed.water,.slice x.fo x.l.flushed.AB.length x.fc,iT x.l.flushed.water,.bool false,.bool false,.bool false] 49)):=by rw[hy1];exact Te q0 (Wy _ (hx.kept q0))
  have q1:Q ((w.alloc (.cells #[.slice x.fo x.l.flushed.AB.length x.fc,iT x.l.flushed.water,.slice x.no x.l.now.AB.length x.nc,iT x.l.now.water,.bool x.l.pending,.bool x.l.dead,.bool true] 49)).alloc (.cells #[.slice x.fo x.l.flushed.AB.length x.fc,iT x.l.flushed.water,.slice x.fo x.l.flushed.AB.length x.fc,iT x.l.flushed.water,.bool false,.bool false,.bool false] 49)) (((w.alloc (.cells #[.slice x.fo x.l.flushed.AB.length x.fc,iT x.l.flushed.water,.slice x.no x.l.now.AB.length x.nc,iT x.l.now.water,.bool x.l.pending,.bool x.l.dead,.bool true] 49)).alloc (.cells #[.slice x.fo x.l.flushed.AB.length x.fc,iT x.l.flushed.water,.slice x.fo x.l.flushed.AB.length x.fc,iT x.l.flushed.water,.bool false,.bool false,.bool false] 49)).alloc (.cells #[.slice x.no x.l.now.AB.length x.nc,iT x.l.now.water,.slice x.no x.l.now.AB.length x.nc,iT x.l.now.water,.bool false,.bool false,.bool false] 49)):=(Q.refl _).alloc _ _;have hO2:=hO.kept q1;have hY2:y2.At (((w.alloc (.cells #[.slice x.fo x.l.flushed.AB.length x.fc,iT x.l.flushed.water,.slice x.no x.l.now.AB.length x.nc,iT x.l.now.water,.bool x.l.pending,.bool x.l.dead,.bool true] 49)).alloc (.cells #[.slice x.fo x.l.flushed.AB.length x.fc,iT x.l.flushed.water,.slice x.fo x.l.flushed.AB.length x.fc,iT x.l.flushed.water,.bool false,.bool false,.bool false] 49)).alloc (.cells #[.slice x.no x.l.now.AB.length x.nc,iT x.l.now.water,.slice x.no x.l.now.AB.length x.nc,iT x.l.now.water,.bool false,.bool false,.bool false] 49)):=by rw[hy2];exact mQ _ (hx.kept ((((Q.refl w).alloc _ _).alloc _ _).alloc _ _))
  have hown:=hO2.own;obtain⟨i0,hi,hz0,hz1,hz2⟩:=info_parts Iy;have u1:∀j u,y2.cells[j]?=some u->(((w.alloc (.cells #[.slice x.fo x.l.flushed.AB.length x.fc,iT x.l.flushed.water,.slice x.no x.l.now.AB.length x.nc,iT x.l.now.water,.bool x.l.pending,.bool x.l.dead,.bool true] 49)).alloc (.cells #[.slice x.fo x.l.flushed.AB.length x.fc,iT x.l.flushed.water,.slice x.fo x.l.flushed.AB.length x.fc,iT x.l.flushed.water,.bool false,.bool false,.bool false] 49)).alloc (.cells #[.slice x.no x.l.now.AB.length x.nc,iT x.l.now.water,.slice x.no x.l.now.AB.length x.nc,iT x.l.now.water,.bool false,.bool false,.bool false] 49)).cell? (((aD (w.heap.size+1+1) 0):Addr).add j)=some u:=by
   have:=FV ((w.alloc (.cells #[.slice x.fo x.l.flushed.AB.length x.fc,iT x.l.flushed.water,.slice x.no x.l.now.AB.length x.nc,iT x.l.now.water,.bool x.l.pending,.bool x.l.dead,.bool true] 49)).alloc (.cells #[.slice x.fo x.l.flushed.AB.length x.fc,iT x.l.flushed.water,.slice x.fo x.l.flushed.AB.length x.fc,iT x.l.flushed.water,.bool false,.bool false,.bool false] 49)) y2 49;rw[hy2]at this⊢;unfold AV at this;simpa using this
  obtain⟨v',w',hrun,hown',hgrow,_⟩:=run_append_own (P:=Tryz.prog) _ w.heap.size 36 36 49 i0 (.agg #[nS,iT 0,nS,iT 0,.bool false,.bool false,.bool false]) 7 72 Tryz.underlying36 hi hz0 hz1 hz2 rfl (by decide) _ _ _ hown (aD (w.heap.size+1+1) 0) 1 1 y2.cells rfl u1 (H7 y2) (by unfold maxLen;simp) (by simp) (by simp;omega);have Gy:=BQ (ty:=36) Tryz.underlying36 hi hz0 hz1 hz2 hown (m:=1) (c:=1) rfl u1 (H7 y2) (by decide) (by unfold maxLen;simp) (by simp) hrun;obtain⟨Er,Bn,hv⟩:=Ac hown';rw[hv]at hown' Gy hrun;have hoff:y2.Off (Value.slice (some ⟨(w.alloc (.cells #[.slice x.fo x.l.flushed.AB.length x.fc,iT x.l.flushed.water,.slice x.no x.l.now.AB.length x.nc,iT x.l.now.water,.bool x.l.pending,.bool x.l.dead,.bool true] 49)).heap.size,0,none⟩) [y1].length 1).ownBlock:=fun a ha e=>by
   rw[hy2]at ha;have:=hx.lt (a:=a) (Or.inr (by rcases ha with ha|ha<;>exact ha));simp[Value.ownBlock]at e;omega
  have HP:=h_ (hO2.push hY2 hoff hgrow hown' Gy);have HE:Hid (Z6 w x (.returned (.slice Er 2 Bn)) w'):=⟨[y1,y2],Er,Bn,rfl,by rw[hag,hy1,hy2];rfl,HP.out,fun y hy a ha=>by
   (have:y=y1\/y=y2:=by simpa using hy);rcases this with e|e
   .rw[e,hy1]at ha;exact Or.inl (by rcases ha with ha|ha<;>exact ha)
   .rw[e,hy2]at ha;exact Or.inr (by rcases ha with ha|ha<;>exact ha)⟩
  have e1:(w.alloc (.cells #[.slice x.fo x.l.flushed.AB.length x.fc,iT x.l.flushed.water,.slice x.no x.l.now.AB.length x.nc,iT x.l.now.water,.bool x.l.pending,.bool x.l.dead,.bool true] 49)).heap.size=w.heap.size+1:=by simp
  rw[e1]at hrun;simp only[zLQ,zLW,zLk,Nat.reduceAdd]at hrun;unfold AV;rw[hl];go_in;go_wp2_with(at_builtin;refine Lib.wpList_append_run _ rfl _ _ _ _ rfl _ _ rfl rfl _ _ hrun ?_);go_wp2;go_ret;exact HE.out
def Sl(tg:Tags)(rr h:Nat)(dv:Value)(L:List LV)(H:M.Hou)(w:World)(e:Ending)(w':World):Prop:=
 ∃(AU:Tags)(L':List LV)(lo:Option Addr)(lc:Nat),e=.returned (.tuple #[])/\L'.map (fun x=>x.l)=(L.map fun x=>x.l.again).flatten/\A7 w' AU rr h dv (.pointer none) lo lc L' H/\Kept (·=rr) tg w AU w'
theorem M.MR(l:M.Lif):1<=l.again.length/\l.again.length<=2:=by
 unfold M.Lif.again;split<;>simp
theorem QI{H:M.Hou}(hh:A7 w tg rr h dv sv lo lc L H)(hL:L.length<=1048576):
  Calls Tryz.prog 15 #[pT h] w fun e w'=>Sl tg rr h dv L H w e w':=by
 have r3:=hh.c3;have HH:=h_ hh;have MV:=h_ hh.lv;obtain⟨i0,hi,hz0,hz1,hz2⟩:=info_parts Iy;clear hh;go_in;go_wp2_with fail
 go_loopw [2,3] (fun tl ti wr=>∃(i:Nat)(L':List LV)(ao:Option Addr)(cap:Nat),tl=.slice ao L'.length cap/\ti=iT (i:Int)/\i<=L.length/\L'.length<=2*i/\Hid (GX w L' ao cap wr)/\Hid (L'.map (fun x=>x.l)=((L.take i).map fun x=>x.l.again).flatten/\∀y∈L',∀a,y.fo=some a\/y.no=some a->∃x∈L,x.fo=some a\/x.no=some a)) (fun _ ti _=>L.length-(intOf ti).toNat)
 case atStart=>exact⟨0,[],none,0,rfl,rfl,zLS _,zLS _,GX.none w,rfl,fun y hy=>by cases hy⟩
 case round =>
  obtain⟨i,L',ao,cap,rfl,rfl,hi1,hi2,HL,HM⟩:=hrel;have k3:=AA r3 HL.out.q;by_cases hlt:i<L.length
  .obtain⟨x,hx⟩:∃x,L[i]?=some x:=⟨_,zLH hlt⟩;have I4:(i:Int)<(L.length:Int):=by omega
   (obtain⟨g,rfl,hg,hc⟩:=MV.out.row i x hx;have q0:∀j v,x.cells[j]?=some v->wr.cell? (aD g (i*7+j))=some v:=fun j v hv=>AA (hc j v hv) HL.out.q;have x0:=q0 0 _ rfl;have x1:=q0 1 _ rfl;have x2:=q0 2 _ rfl;have x3:=q0 3 _ rfl;have x4:=q0 4 _ rfl;have x5:=q0 5 _ rfl;have x6:=q0 6 _ rfl;rw[Nat.add_zero]at x0;have LR:=hU (Tg ((MV.out.all x (zLR hx)).kept HL.out.q));unfold AV at LR;have HX:=h_ hx;clear hx hc q0;go_wp2_with fail;apply(LR.out ()).mono;rintro e w3⟨N,bo,KM,rfl,hml,hMl,hmo⟩;have hlen:N.length=x.l.again.length:=by rw[<-hml,zM2]);have hm1:=Go.Proofs.YtekdenkllipehaaGreatDoor.M.MR x.l;have hn1:1<=N.length/\N.length<=2:=by omega
   clear hlen hm1;have q3:=hMl.q;have hL3:=HL.out.kept q3;have hown:=hL3.own;have hMa:∀y∈N,y.At w3/\y.Off (Value.slice ao L'.length cap).ownBlock:=fun y hy=>⟨hMl.all y hy,fun a ha e=>by
    have h1:=(hown.lt _ e).1;have h2:=(MV.out.all x (zLR HX.out)).lt (a:=a) (hmo y hy a ha);omega⟩
   have hne:Bj N≠[]:=fun e=>by
    have:=congrArg List.length e;rw[Fq]at this;simp at this;omega
   obtain⟨g2,rfl,_,hg2,hc2⟩:=Cv hMl.own hne;have y1:∀j u,(Bj N)[j]?=some u->w3.cell? (((aD g2 0):Addr).add j)=some u:=fun j u hu=>by
    have:=hc2 j u hu
    cases j with
    |zero=>simpa[Addr.add]using this
    |succ j=>simpa[Addr.add]using this
   have hone:∀u∈Bj N,u.oneCell'=true:=fun u hu=>by
    unfold Bj at hu;obtain⟨c,hc,hu2⟩:=List.mem_flatten.1 hu;obtain⟨z,_,rfl⟩:=List.mem_map.1 hc;exact H7 z u hu2
   ((have hsz:w.heap.size<=w3.heap.size:=hL3.q.below.size;obtain⟨v',w',hrun,hown',hgrow,_⟩:=run_append_own (P:=Tryz.prog) _ w.heap.size 36 36 49 i0 (.agg #[nS,iT 0,nS,iT 0,.bool false,.bool false,.bool false]) 7 72 Tryz.underlying36 hi hz0 hz1 hz2 rfl (by decide) _ _ _ hown (aD g2 0) N.length KM (Bj N) (Fq N) y1 hone (by unfold maxLen;omega) (by omega) hsz;have Gy:=BQ (ty:=36) Tryz.underlying36 hi hz0 hz1 hz2 hown (m:=N.length) (c:=KM) (Fq N) y1 hone (by omega) (by unfold maxLen;omega) (by omega) hrun;obtain⟨Er,Bn,hv⟩:=Ac hown';rw[hv]at hown' Gy hrun;have HP:=h_ (jS hL3 hMa hgrow hown' Gy);have hln:(L'++N).length=L'.length+N.length:=by simp);rw[<-hln]at hrun;have HMM:=h_2 hml hmo;clear hown' hgrow Gy hv hown y1 hone hne hMa hL3 hMl hml hmo LR x0 x1 x2 x3 x4 x5 x6 k3 q3 HL hc2;go_wp2_with(at_builtin;refine Lib.wpList_append_run _ rfl _ _ _ _ rfl _ _ rfl rfl _ _ hrun ?_);clear hrun;go_wp2_with fail);go_roundw
   case rel=>exact⟨i+1,L'++N,Er,Bn,by rw[hln],by go_num,by omega,by rw[hln];omega,HP,⟨by
    have h1:=HM.out.1;rw[zLv,HX.out,List.map_append,List.map_append,List.flatten_append,h1,HMM.out.1];simp,fun z hz=>by
    rcases zMD.1 hz with e|e
    .exact HM.out.2 z e
    .exact fun a ha=>⟨x,zLR HX.out,HMM.out.2 z e a ha⟩⟩⟩
   case measure=>simp[intOf];omega
  .obtain rfl:i=L.length:=by omega
   have f3:wr.frozen? (aD h 3)=false:=(HL.out.q.below.frozen (p:=(aD h 3)) HH.out.top).trans (HH.out.fr 3);have f2:wr.frozen? (aD h 2)=false:=(HL.out.q.below.frozen (p:=(aD h 2)) HH.out.top).trans (HH.out.fr 2);have k2:=AA HH.out.c2 HL.out.q;obtain⟨hT,R5⟩:=HH.out.turn HL.out (fun y hy a ha=>Or.inl (HM.out.2 y hy a ha));obtain⟨g2,m2⟩:=hT.set 2 (.pointer none) (H':=H) (by omega) rfl rfl rfl rfl rfl rfl rfl rfl rfl;have h1:=HM.out.1;rw[zM0]at h1;have HE:Hid (Sl tg rr h dv L H w (.returned (.tuple #[])) ((wr.setCell (aD h 3) (.slice ao L'.length cap)).setCell (aD h 2) (.pointer none))):=⟨_,L',ao,cap,rfl,h1,g2,R5.trans m2⟩;clear hT R5 g2 m2 h1 HM HL;go_wp2_with fail;go_end0;exact HE.out
end Go.Proofs.YtekdenkllipehaaGreatDoor
