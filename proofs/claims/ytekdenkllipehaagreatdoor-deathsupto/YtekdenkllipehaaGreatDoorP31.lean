import Derived.Test.YtekdenkllipehaaGreatDoorP03
import Derived.Test.YtekdenkllipehaaGreatDoorP21
import Derived.Test.YtekdenkllipehaaGreatDoorP27
import Derived.Test.YtekdenkllipehaaGreatDoorP30
set_option maxRecDepth 99999
set_option maxHeartbeats 0
namespace Go.Proofs.YtekdenkllipehaaGreatDoor
open Go.RowKit
section
open Go.Shelf
attribute [local go_sem] Oper.semAt_some
def zCY(st:List Int)(_:Tags)(i:Nat)(vs:Array Value)(_:World):Prop:=∃x,i<st.length/\st[st.length-1-i]?=some x/\vs=#[iT ((st.length-1-i:Nat):Int),iT x]
theorem zAD(n:Nat)(hn:1<=n)(st:List Int)(hl:st.length<=1048576)(Bs g cap:Nat)(So Bo:Nat->Prop)(Ch:Tags)(w:World)(b1:w.cell? (aD Bs 0)=some (.slice (some (aD g 0)) st.length cap))(hc:∀i x,st[i]?=some x->w.cell? (aD g i)=some (iT x))(hB:Bs<w.heap.size/\¬Bo (Ch Bs).1)(hg:g<w.heap.size/\¬Bo (Ch g).1):
  vB Fence.wide n Tryz.prog 200 #[pT Bs] st.length So Bo (fun _=>True) (zCY st) Ch w:=by
 intro lp J Jx hJ hJx hY h0;refine callsIn_of_wp Tryz.func200 rfl trivial ?_ rfl;simp only[Tryz.ntmps200,zLm,zLQ,zLW,Nat.reduceAdd,Nat.reduceSub,zLj,zLi,zLs,zLl,zLb,zLd];have hmx:Tryz.prog.follows .mixedOrders=true:=by kernel_rfl
 have hw1:IntKind.i64.wrap ((st.length:Int)-1)=(st.length:Int)-1:=by rw[IntKind.wrap_i64];omega
 gi_wp2
 gi_loopw [3] (fun iv wr=>∃(tg:Tags)(k:Nat),k<=st.length/\iv=iT ((st.length:Int)-1-k)/\J tg k wr/\(∀b,b<w.heap.size->tg b=Ch b)/\w.heap.size<=wr.heap.size/\wr.heap[Bs]?=w.heap[Bs]?/\wr.heap[g]?=w.heap[g]?)
  (fun iv _=>(intOf iv+1).toNat)
 case atStart=>exact⟨Ch,0,zLS _,by simp,h0,fun _ _=>rfl,zLK _,rfl,rfl⟩
 case round =>
  obtain⟨tg,k,hk,rfl,hJk,QE,hsz,e1,e2⟩:=hrel;by_cases hlt:k<st.length
  .have hp:(0:Int)<=(st.length:Int)-1-k:=by omega
   (((((obtain⟨x,hx⟩:∃x,st[st.length-1-k]?=some x:=⟨_,zLH (by omega)⟩;have x1:wr.cell? (aD Bs 0)=some (.slice (some (aD g 0)) st.length cap):=(zMI (a:=(aD Bs 0)) e1).trans b1;have x2:wr.cell? ⟨g,st.length-1-k,none⟩=some (iT x):=(zMI (a:=⟨g,st.length-1-k,none⟩) e2).trans (hc _ x hx);have hcast:(st.length:Int)-1-(k:Int)=((st.length-1-k:Nat):Int):=by omega);rw[hcast]at hp⊢;obtain⟨m,hm⟩:=ex (st.length-1-k);rw[<-hm]at x2 hp hx⊢;have hlt2:(m:Int)<(st.length:Int):=by omega);have hlt3:m<st.length:=by omega);have nK:IntKind.i64.wrap ((m:Int)-1)=(m:Int)-1:=by rw[IntKind.wrap_i64];omega);obtain⟨fn,tmps,assign,body,hy,hR⟩:=hY tg k #[iT (m:Int),iT x] wr hJk ⟨x,hlt,by rw[<-hm];exact hx,by rw[<-hm]⟩;have hmI:(m:Int)-1=(st.length:Int)-1-((k+1:Nat):Int):=by omega);have HH:Hid _:=And.intro hmI (And.intro QE (And.intro hsz (And.intro e1 e2)));clear hcast hm hmI QE hsz e1 e2 hJk hx;gi_wp2;refine hR.mono ?_;rintro e W3⟨AR,hk1,⟨rfl,_,hJ3⟩|⟨rfl,hJx3⟩⟩
   ·(gi_wp2);go_roundw
    case rel =>
     obtain⟨hmI,QE,hsz,e1,e2⟩:=HH.out;exact⟨AR,k+1,hlt,by rw[<-hmI],hJ3,fun b hb=>(hk1.tags b (zLJ hb hsz)).trans (QE b hb),zLV hsz hk1.size,(hk1.block Bs (zLJ hB.1 hsz) (by rw[QE Bs hB.1];exact hB.2)).trans e1,(hk1.block g (zLJ hg.1 hsz) (by rw[QE g hg.1];exact hg.2)).trans e2⟩
    case measure=>simp only[intOf];omega
   .gi_wp2;refine bodyPost_ret (results_none rfl _ _ _) rfl ?_;exact⟨⟨_,rfl⟩,AR,.inr ⟨_,hJx3⟩⟩
  .obtain rfl:k=st.length:=by omega
   (have hp:¬(0:Int)<=(st.length:Int)-1-st.length:=by omega);gi_wp2;go_end0;exact⟨⟨_,rfl⟩,tg,Or.inl hJk⟩
theorem oL(n:Nat)(ao:Option Addr)(len cap:Nat)(w:World):
  CallsIn Fence.wide n Tryz.prog 188 #[.slice ao len cap] w fun e w'=>e=.returned (.func (.func 200) #[] #[pT w.heap.size])/\w'=w.alloc (.cells #[.slice ao len cap] 30):=by
 refine callsIn_of_wp Tryz.func188 rfl trivial ?_ rfl;simp only[Tryz.ntmps188,zLm,zLQ,zLW,Nat.reduceAdd,Nat.reduceSub,zLj,zLi,zLs,zLl,zLb,zLd];gi_wp2;go_ret;exact⟨rfl,rfl⟩
theorem Jb{e:Ending}{A B C:Prop}(h:(e=.returned (.bool true)/\A/\B)\/(e=.returned (.bool false)/\C)):∃b:Bool,e=.returned (.bool b)/\((b=true/\A/\B)\/(b=false/\C)):=
 h.elim (fun⟨a,b⟩=>⟨true,a,Or.inl ⟨rfl,b⟩⟩) (fun⟨a,b⟩=>⟨false,a,Or.inr ⟨rfl,b⟩⟩)
def vD(rs:List Rec)(_:Tags)(i:Nat)(vs:Array Value)(_:World):Prop:=∃r,i<rs.length/\rs[rs.length-1-i]?=some r/\vs=#[iT r.stamp,r.val]
theorem zAR(n:Nat)(hn:6<=n)(rs:List Rec)(hl:rs.length<=1048576)(Bm p g cap gv Ia so lo:Nat)(So Bo:Nat->Prop)(hso:So so)(hlo:So lo)(hne:so≠lo)(ql:∀x,So x->¬Bo x)(Ch:Tags)(w:World)(b1:w.cell? (aD Bm 0)=some (pT p))(c1:w.cell? (aD p 0)=some (.slice (some (aD g 0)) rs.length cap))(c2:w.cell? (aD p 1)=some (.slice (some (aD gv 0)) rs.length Ia))(hc:∀i x,(rs.map (·.stamp))[i]?=some x->w.cell? (aD g i)=some (iT x))(hv:JI w gv 0 rs)(hB:Bm<w.heap.size/\¬(Bo (Ch Bm).1\/(Ch Bm).1=lo))(hp:p<w.heap.size/\¬(Bo (Ch p).1\/(Ch p).1=lo))(hg:g<w.heap.size/\¬(Bo (Ch g).1\/(Ch g).1=lo))(hgv:gv<w.heap.size/\¬(Bo (Ch gv).1\/(Ch gv).1=lo)):
  vB Fence.wide n Tryz.prog 187 #[pT Bm] rs.length So Bo (fun _=>True) (vD rs) Ch w:=by
 intro lp J Jx hJ hJx hY h0;refine callsIn_of_wp_marks Tryz.func187 rfl trivial ?_ rfl;simp only[Tryz.ntmps187,zLm,zLQ,zLW,Nat.reduceAdd,Nat.reduceSub,zLj,zLi,zLs,zLl,zLb,zLd];have hmx:Tryz.prog.follows .mixedOrders=true:=by kernel_rfl
 gi_wp2;refine⟨trivial,fun _=>by omega,(oL _ _ _ _ _).mono ?_⟩;rintro e w'⟨rfl,rfl⟩;gi_wp2;obtain⟨wl,hwl⟩:=ex ((w.alloc (.cells #[.func (.yield lp) #[] #[]] 236)).alloc (.cells #[.slice (some (aD g 0)) rs.length cap] 30));obtain⟨MW,M5⟩:=ex (Ch.more w.heap.size so 0);have zR:Q w wl:=by rw[hwl];exact((Q.refl w).alloc _ _).alloc _ _
 have hsl:wl.heap.size=w.heap.size+2:=by rw[hwl];simp
 have hold:∀k,k<w.heap.size->MW k=Ch k:=fun k hk=>by rw[M5];exact Tags.AQ hk
 have hnew:∀k,w.heap.size<=k->MW k=(so,0):=fun k hk=>by rw[M5];exact Tags.Ay hk
 have y0:wl.cell? (aD w.heap.size 0)=some (.func (.yield lp) #[] #[]):=by rw[hwl];simp
 have y1:wl.cell? (aD (w.heap.size+1) 0)=some (.slice (some (aD g 0)) rs.length cap):=by rw[hwl];simp
 have zAn:¬(Bo so\/so=lo):=fun e=>e.elim (ql so hso) hne;have hno:∀k,k<w.heap.size->¬(Bo (Ch k).1\/(Ch k).1=lo)->¬(Bo (MW k).1\/(MW k).1=lo):=fun k hk hn=>by rw[hold k hk];exact hn
 have hJl:J MW 0 wl:=hJ _ _ _ _ _ h0 (Kept.Be zR hold);rw[<-hwl];clear hwl M5;refine vk rfl (by omega) (gf:=200) (lb:=#[pT (w.heap.size+1)]) (by simp[Act.eval]) trivial (enters_of Tryz.func200 rfl rfl) rs.length lo (fun _=>False) Bo (fun _=>True) (zCY (rs.map (·.stamp))) MW (fun h=>h) (ql lo hlo) ?seq ?ps ?hG
  (fun tg i W=>J tg i W/\Kept (fun x=>Bo x\/x=lo) MW wl tg W) (fun c tg i W=>c=.ret/\Jx tg i W) ?hI ?hIx ⟨hJl,Kept.refl _ _ _⟩ (fun _ vs=>{ tmps:=#[.func (.yield lp) #[] #[],pT Bm,pT w.heap.size,vs.getD 0 undef,vs.getD 1 undef,pT p,pT p,pT p,.slice (some (aD g 0)) rs.length cap,.func (.func 200) #[] #[pT (w.heap.size+1)],vs.getD 0 undef,vs.getD 1 undef,undef,undef,undef,undef,undef,undef,undef,undef,undef,undef,undef],defers:=[]}) ?assign ?body ?done ?stop
 case seq =>
  intro W1 AR hb1 hs1 ht1;have:=vB.depth (n-1) (zAD n (by omega) (rs.map (·.stamp)) (by simpa using hl) (w.heap.size+1) g cap (fun _=>False) (fun x=>Bo x\/x=lo) AR W1 ((hb1.cell (p:=(aD (w.heap.size+1) 0)) (show w.heap.size+1<wl.heap.size by omega)).trans (by simpa using y1))
   (fun i x hx=>(hb1.cell (p:=(aD g i)) (show g<wl.heap.size by omega)).trans ((zR.below.cell (p:=(aD g i)) hg.1).trans (hc i x hx))) ⟨by omega,by rw[ht1 _ (by omega),hnew _ (by omega)];exact zAn⟩ ⟨by omega,by rw[ht1 _ (by omega)];exact hno g hg.1 hg.2⟩)
  rw[zM2]at this;exact this
 case ps=>rintro tg i vs W⟨x,_,_,rfl⟩;rfl
 case hG=>rintro tg i vs A AR B h _;exact h
 case hI =>
  rintro tg i A AR B⟨hj,hk⟩ht;exact⟨hJ _ _ _ _ _ hj (ht.wider fun x hx=>hx.elim False.elim (fun e=>e▸hlo)),hk.trans (ht.wider fun x hx=>hx.elim False.elim Or.inr)⟩
 case hIx =>
  rintro c tg i A AR B⟨hc,hj⟩ht;exact⟨hc,hJx _ _ _ _ _ hj (ht.wider fun x hx=>hx.elim False.elim (fun e=>e▸hlo))⟩
 case assign =>
  rintro l i tg vs W K⟨x,hi,hx,rfl⟩hK;obtain⟨m,hm⟩:=xe (((rs.map (·.stamp)).length-1-i:Nat));rw[hm]at hK⊢;simp only[zLa,zLe,zLY,zLZ,zLT]at hK;gi_wp2;exact hK
 case body =>
  rintro l i tg vs W hl2⟨hj,hk⟩⟨x,hi,hx,rfl⟩;rw[zM2]at hi hx⊢;obtain⟨m,hm⟩:=xe (rs.length-1-i);have hml:m<rs.length:=by omega
  obtain⟨r,hr⟩:∃r,rs[m]?=some r:=⟨_,zLH hml⟩;have hxr:x=r.stamp:=by
   rw[hm,zLy,hr]at hx;simpa using hx.symm
  subst hxr;have kb:∀k j,k<w.heap.size->¬(Bo (Ch k).1\/(Ch k).1=lo)->W.cell? (aD k j)=w.cell? (aD k j):=fun k j h1 h2=>(zMI (a:=(aD k j)) (hk.block k (by omega) (hno k h1 h2))).trans (zR.below.cell (p:=(aD k j)) h1);have z0:W.cell? (aD w.heap.size 0)=some (.func (.yield lp) #[] #[]):=(zMI (a:=(aD w.heap.size 0)) (hk.block w.heap.size (by omega) (by rw[hnew _ (zLK _)];exact zAn))).trans y0;have z1:=(kb Bm 0 hB.1 hB.2).trans b1;have z2:=(kb p 1 hp.1 hp.2).trans c2;obtain⟨r0,r1,r2,r3⟩:=hv m r hr;have z3:=(kb gv _ hgv.1 hgv.2).trans r0;have z4:=(kb gv _ hgv.1 hgv.2).trans r1;have z5:=(kb gv _ hgv.1 hgv.2).trans r2;have z6:=(kb gv _ hgv.1 hgv.2).trans r3;rw[zLk]at z3 z4 z5 z6;have g1:(0:Int)<=(m:Int):=by omega
  have g2:(m:Int)<(rs.length:Int):=by omega
  obtain⟨fn,tmps,assign,body,hy,hR⟩:=YieldAt.depth (n-1-1-1) (hY tg i #[iT r.stamp,r.val] W.drew (hJ _ _ _ _ _ hj (Kept.Be ((Q.refl W).drew) (fun _ _=>rfl))) ⟨r,by omega,by rw[hm];exact hr,rfl⟩);unfold Rec.val at hy;have HK:Hid _:=hk;rw[hm];clear hj hx hm hv hc y0 y1 kb hJl hk;simp only[zLa,zLe,zLY,zLZ,zLT];gi_wp2;refine VO hmx (by kernel_rfl) 11 rfl ?_;refine wpAnyIn_take rfl (i:=1) (v:=iT r.stamp) rfl (by kernel_rfl) (by kernel_rfl) (by kernel_rfl) (fun _ _ _ h=>h) (Ej rfl (fun _=>rfl) (fun _=>rfl)) ?_;simp only[Act.put,nrm];refine wpAnyIn_take rfl (i:=6) (v:=iT (m:Int)) rfl (by kernel_rfl) (by kernel_rfl) (by kernel_rfl) (fun _ _ _ h=>h) (Ej rfl (fun _=>rfl) (fun _=>rfl)) ?_;simp only[Act.put,nrm];refine wpAnyIn_ready (rs:=[0,2]) (by kernel_rfl) (by simp) ?_;refine AllReadyIn.cons rfl (fun K hK=>?_) ?_
  .go_simp;refine hK _ _ ?_;clear hK K;refine wpAnyIn_ready (rs:=[2]) (by kernel_rfl) (by simp) ?_;refine AllReadyIn.cons rfl (fun K hK=>?_) ?_
   .go_simp;refine hK _ _ ?_;clear hK K;refine wpAnyIn_take rfl (i:=3) (v:=pT p) rfl (by kernel_rfl) (by kernel_rfl) (by kernel_rfl) (fun _ _ _ h=>h) (Ej rfl (fun _=>rfl) (fun _=>rfl)) ?_;simp only[Act.put,nrm];refine wpAnyIn_take rfl (i:=4) (v:=.pointer (some (aD p 1))) rfl (by kernel_rfl) (by kernel_rfl) (by kernel_rfl) (fun _ _ _ h=>h) (Ej rfl (fun _=>rfl) (fun _=>rfl)) ?_;simp only[Act.put,nrm];refine wpAnyIn_ready (rs:=[5]) (by kernel_rfl) (by simp) ?_;refine AllReadyIn.cons rfl (fun K hK=>?_) ?_
    .go_simp;refine hK _ _ ?_;clear hK K;refine wpAnyIn_ready (rs:=[7]) (by kernel_rfl) (by simp) ?_;refine AllReadyIn.cons rfl (fun K hK=>?_) ?_
     .go_simp;refine hK _ _ ?_;clear hK K;refine wpAnyIn_ready (rs:=[8]) (by kernel_rfl) (by simp) ?_;refine AllReadyIn.cons rfl (fun K hK=>?_) ?_
      .go_simp;refine hK _ _ ?_;clear hK K;refine wpAnyIn_ready (rs:=[9]) (by kernel_rfl) (by simp) ?_;refine AllReadyIn.cons rfl (fun K hK=>?_) AllReadyIn.nil;go_simp;refine⟨fun h=>absurd h (by decide),hR.mono ?_⟩;rintro e W3⟨AR,hk1,hcs⟩;obtain⟨b,rfl,hb⟩:=Jb hcs;refine hK _ _ ?_;clear hK K;refine wpAnyIn_ready (rs:=[10]) (by kernel_rfl) (by simp) ?_;refine AllReadyIn.cons rfl (fun K hK=>?_) AllReadyIn.nil;go_simp;refine hK _ _ ?_;clear hK K;refine wpAnyIn_done (by kernel_rfl) ?_ _;rcases hb with⟨rfl,_,hJ3⟩|⟨rfl,hJx3⟩
       .gi_wp2;exact⟨AR,(Kept.Be ((Q.refl W).drew) (fun _ _=>rfl)).trans hk1,trivial,hJ3,(HK.out.trans (Kept.Be ((Q.refl W).drew) (fun _ _=>rfl))).trans (hk1.wider fun _=>Or.inl)⟩
       .gi_wp2;exact⟨AR,(Kept.Be ((Q.refl W).drew) (fun _ _=>rfl)).trans hk1,rfl,hJx3⟩
      exact AllReadyIn.nil
     exact AllReadyIn.nil
    exact AllReadyIn.nil
   exact AllReadyIn.nil
  refine AllReadyIn.cons rfl (fun K hK=>?_) ?_
  .go_simp;refine hK _ _ ?_;clear hK K;refine wpAnyIn_take rfl (i:=3) (v:=pT p) rfl (by kernel_rfl) (by kernel_rfl) (by kernel_rfl) (fun _ _ _ h=>h) (Ej rfl (fun _=>rfl) (fun _=>rfl)) ?_;simp only[Act.put,nrm];refine wpAnyIn_take rfl (i:=4) (v:=.pointer (some (aD p 1))) rfl (by kernel_rfl) (by kernel_rfl) (by kernel_rfl) (fun _ _ _ h=>h) (Ej rfl (fun _=>rfl) (fun _=>rfl)) ?_;simp only[Act.put,nrm];refine wpAnyIn_ready (rs:=[0,5]) (by kernel_rfl) (by simp) ?_;refine AllReadyIn.cons rfl (fun K hK=>?_) ?_
   .go_simp;refine hK _ _ ?_;clear hK K;refine wpAnyIn_ready (rs:=[5]) (by kernel_rfl) (by simp) ?_;refine AllReadyIn.cons rfl (fun K hK=>?_) ?_
    .go_simp;refine hK _ _ ?_;clear hK K;refine wpAnyIn_ready (rs:=[7]) (by kernel_rfl) (by simp) ?_;refine AllReadyIn.cons rfl (fun K hK=>?_) ?_
     .go_simp;refine hK _ _ ?_;clear hK K;refine wpAnyIn_ready (rs:=[8]) (by kernel_rfl) (by simp) ?_;refine AllReadyIn.cons rfl (fun K hK=>?_) ?_
      .go_simp;refine hK _ _ ?_;clear hK K;refine wpAnyIn_ready (rs:=[9]) (by kernel_rfl) (by simp) ?_;refine AllReadyIn.cons rfl (fun K hK=>?_) AllReadyIn.nil;go_simp;refine⟨fun h=>absurd h (by decide),hR.mono ?_⟩;rintro e W3⟨AR,hk1,hcs⟩;obtain⟨b,rfl,hb⟩:=Jb hcs;refine hK _ _ ?_;clear hK K;refine wpAnyIn_ready (rs:=[10]) (by kernel_rfl) (by simp) ?_;refine AllReadyIn.cons rfl (fun K hK=>?_) AllReadyIn.nil;go_simp;refine hK _ _ ?_;clear hK K;refine wpAnyIn_done (by kernel_rfl) ?_ _;rcases hb with⟨rfl,_,hJ3⟩|⟨rfl,hJx3⟩
       .gi_wp2;exact⟨AR,(Kept.Be ((Q.refl W).drew) (fun _ _=>rfl)).trans hk1,trivial,hJ3,(HK.out.trans (Kept.Be ((Q.refl W).drew) (fun _ _=>rfl))).trans (hk1.wider fun _=>Or.inl)⟩
       .gi_wp2;exact⟨AR,(Kept.Be ((Q.refl W).drew) (fun _ _=>rfl)).trans hk1,rfl,hJx3⟩
      exact AllReadyIn.nil
     exact AllReadyIn.nil
    exact AllReadyIn.nil
   refine AllReadyIn.cons rfl (fun K hK=>?_) ?_
   .go_simp;refine hK _ _ ?_;clear hK K;refine wpAnyIn_ready (rs:=[0,7]) (by kernel_rfl) (by simp) ?_;refine AllReadyIn.cons rfl (fun K hK=>?_) ?_
    .go_simp;refine hK _ _ ?_;clear hK K;refine wpAnyIn_ready (rs:=[7]) (by kernel_rfl) (by simp) ?_;refine AllReadyIn.cons rfl (fun K hK=>?_) ?_
     .go_simp;refine hK _ _ ?_;clear hK K;refine wpAnyIn_ready (rs:=[8]) (by kernel_rfl) (by simp) ?_;refine AllReadyIn.cons rfl (fun K hK=>?_) ?_
      .go_simp;refine hK _ _ ?_;clear hK K;refine wpAnyIn_ready (rs:=[9]) (by kernel_rfl) (by simp) ?_;refine AllReadyIn.cons rfl (fun K hK=>?_) AllReadyIn.nil;go_simp;refine⟨fun h=>absurd h (by decide),hR.mono ?_⟩;rintro e W3⟨AR,hk1,hcs⟩;obtain⟨b,rfl,hb⟩:=Jb hcs;refine hK _ _ ?_;clear hK K;refine wpAnyIn_ready (rs:=[10]) (by kernel_rfl) (by simp) ?_;refine AllReadyIn.cons rfl (fun K hK=>?_) AllReadyIn.nil;go_simp;refine hK _ _ ?_;clear hK K;refine wpAnyIn_done (by kernel_rfl) ?_ _;rcases hb with⟨rfl,_,hJ3⟩|⟨rfl,hJx3⟩
       .gi_wp2;exact⟨AR,(Kept.Be ((Q.refl W).drew) (fun _ _=>rfl)).trans hk1,trivial,hJ3,(HK.out.trans (Kept.Be ((Q.refl W).drew) (fun _ _=>rfl))).trans (hk1.wider fun _=>Or.inl)⟩
       .gi_wp2;exact⟨AR,(Kept.Be ((Q.refl W).drew) (fun _ _=>rfl)).trans hk1,rfl,hJx3⟩
      exact AllReadyIn.nil
     exact AllReadyIn.nil
    refine AllReadyIn.cons rfl (fun K hK=>?_) ?_
    .go_simp;refine hK _ _ ?_;clear hK K;refine wpAnyIn_ready (rs:=[0,8]) (by kernel_rfl) (by simp) ?_;refine AllReadyIn.cons rfl (fun K hK=>?_) ?_
     .go_simp;refine hK _ _ ?_;clear hK K;refine wpAnyIn_ready (rs:=[8]) (by kernel_rfl) (by simp) ?_;refine AllReadyIn.cons rfl (fun K hK=>?_) ?_
      .go_simp;refine hK _ _ ?_;clear hK K;refine wpAnyIn_ready (rs:=[9]) (by kernel_rfl) (by simp) ?_;refine AllReadyIn.cons rfl (fun K hK=>?_) AllReadyIn.nil;go_simp;refine⟨fun h=>absurd h (by decide),hR.mono ?_⟩;rintro e W3⟨AR,hk1,hcs⟩;obtain⟨b,rfl,hb⟩:=Jb hcs;refine hK _ _ ?_;clear hK K;refine wpAnyIn_ready (rs:=[10]) (by kernel_rfl) (by simp) ?_;refine AllReadyIn.cons rfl (fun K hK=>?_) AllReadyIn.nil;go_simp;refine hK _ _ ?_;clear hK K;refine wpAnyIn_done (by kernel_rfl) ?_ _;rcases hb with⟨rfl,_,hJ3⟩|⟨rfl,hJx3⟩
       .gi_wp2;exact⟨AR,(Kept.Be ((Q.refl W).drew) (fun _ _=>rfl)).trans hk1,trivial,hJ3,(HK.out.trans (Kept.Be ((Q.refl W).drew) (fun _ _=>rfl))).trans (hk1.wider fun _=>Or.inl)⟩
       .gi_wp2;exact⟨AR,(Kept.Be ((Q.refl W).drew) (fun _ _=>rfl)).trans hk1,rfl,hJx3⟩
      exact AllReadyIn.nil
     refine AllReadyIn.cons rfl (fun K hK=>?_) ?_
     .go_simp;refine hK _ _ ?_;clear hK K;refine wpAnyIn_ready (rs:=[0]) (by kernel_rfl) (by simp) ?_;refine AllReadyIn.cons rfl (fun K hK=>?_) ?_
      .go_simp;refine hK _ _ ?_;clear hK K;refine wpAnyIn_ready (rs:=[9]) (by kernel_rfl) (by simp) ?_;refine AllReadyIn.cons rfl (fun K hK=>?_) AllReadyIn.nil;go_simp;refine⟨fun h=>absurd h (by decide),hR.mono ?_⟩;rintro e W3⟨AR,hk1,hcs⟩;obtain⟨b,rfl,hb⟩:=Jb hcs;refine hK _ _ ?_;clear hK K;refine wpAnyIn_ready (rs:=[10]) (by kernel_rfl) (by simp) ?_;refine AllReadyIn.cons rfl (fun K hK=>?_) AllReadyIn.nil;go_simp;refine hK _ _ ?_;clear hK K;refine wpAnyIn_done (by kernel_rfl) ?_ _;rcases hb with⟨rfl,_,hJ3⟩|⟨rfl,hJx3⟩
       .gi_wp2;exact⟨AR,(Kept.Be ((Q.refl W).drew) (fun _ _=>rfl)).trans hk1,trivial,hJ3,(HK.out.trans (Kept.Be ((Q.refl W).drew) (fun _ _=>rfl))).trans (hk1.wider fun _=>Or.inl)⟩
       .gi_wp2;exact⟨AR,(Kept.Be ((Q.refl W).drew) (fun _ _=>rfl)).trans hk1,rfl,hJx3⟩
      exact AllReadyIn.nil
     exact AllReadyIn.nil
    exact AllReadyIn.nil
   exact AllReadyIn.nil
  exact AllReadyIn.nil
 case done =>
  rintro D tg W hD⟨hj,_⟩JN OW;gi_wp2;refine⟨by simp,.inl ⟨_,_,rfl,run_takeDeferred OW,?_⟩⟩;exact⟨_,results_none rfl _ _ _,⟨_,rfl⟩,tg,Or.inl (hJ _ _ _ _ _ hj (Kept.put (by rw[JN];exact hlo) _))⟩
 case stop =>
  rintro D c tg i W hD⟨rfl,hj⟩JN OW;gi_wp2;refine⟨by simp,.inl ⟨_,_,rfl,run_takeDeferred OW,?_⟩⟩;exact⟨_,results_none rfl _ _ _,⟨_,rfl⟩,tg,Or.inr ⟨i,hJx _ _ _ _ _ hj (Kept.put (by rw[JN];exact hlo) _)⟩⟩
end
namespace S
theorem aY(T:Two):S.settle T.dsk=if S.A8 T.Hf.2=0 then(T.Hf.1.drop.1.dsk,S.A8 T.Hf.1.drop.2)else(T.Hf.1.dsk,S.A8 T.Hf.2):=by
 unfold S.settle;rw[Two.iA];simp only;rw[Two.Zn]
def OO(nw:List (BA×Int))(r:Rec):List (BA×Int):=if QJ (nw.map (·.1)) r.key=true then nw else nw++[(r.key,r.stamp)]
def news(F:List Rec):List (BA×Int):=F.foldl OO []
theorem Vl(F:List Rec)(r:Rec):news (F++[r])=OO (news F) r:=by simp[news]
theorem OM{F:List Rec}(hF:F.Pairwise Bef):∀j,j<=F.length->DL ((news (F.take j)).map (·.1))/\(∀k,k∈(news (F.take j)).map (·.1)↔∃r∈F.take j,r.key=k)/\∀k,BX (news (F.take j)) k=(BZ k (F.take j)).head?.map (·.stamp)
 |0,_=>by
  refine⟨List.Pairwise.nil,fun k=>by simp[news],fun k=>by simp[news,BX,BZ]⟩
 |j+1,hj=>by
  obtain⟨h1,h2,h3⟩:=OM hF j (by omega);obtain⟨r,hr⟩:∃r,F[j]?=some r:=⟨_,zLH (by omega)⟩;have e:F.take (j+1)=F.take j++[r]:=by rw[zLv,hr];rfl
  have hbef:∀x∈F.take j,Bef x r:=fun x hx=>by
   have hp:(F.take (j+1)).Pairwise Bef:=hF.sublist (List.take_sublist ..);rw[e,zLh]at hp;exact hp.2.2 x hx r (by simp)
  rw[e,Vl];have hmem:∀k,(∃x∈F.take j++[r],x.key=k)↔(∃x∈F.take j,x.key=k)\/r.key=k:=fun k=>by
   constructor
   .rintro⟨x,hx,hk⟩;rcases zMD.1 hx with hx|hx
    .exact Or.inl ⟨x,hx,hk⟩
    .rw[List.mem_singleton.1 hx]at hk;exact Or.inr hk
   .rintro(⟨x,hx,hk⟩|hk)
    .exact⟨x,List.mem_append_left _ hx,hk⟩
    .exact⟨r,by simp,hk⟩
  unfold OO;by_cases hh:QJ ((news (F.take j)).map (·.1)) r.key=true
  .rw[if_pos hh];obtain⟨x,hx,hxk⟩:=(h2 r.key).1 (Cn.1 hh);refine⟨h1,fun k=>?_,fun k=>?_⟩
   .rw[hmem k,h2 k];constructor
    .exact Or.inl
    .rintro(h|h)
     .exact h
     .exact⟨x,hx,by rw[<-h];exact hxk⟩
   .rw[Da,h3 k];by_cases hk:r.key=k
    .have hne:BZ k (F.take j)≠[]:=fun e2=>by
      have:x∈BZ k (F.take j):=Cx.2 ⟨hx,by rw[hxk];exact hk⟩;rw[e2]at this;simp at this
     obtain⟨y,l,hy⟩:=List.exists_cons_of_ne_nil hne;rw[hy];rfl
    .have:BZ k [r]=[]:=EJ (fun y hy=>by rw[List.mem_singleton.1 hy];exact hk);rw[this,zLw]
  .rw[if_neg hh];have hno:∀x∈F.take j,x.key≠r.key:=fun x hx hk=>hh (Cn.2 ((h2 r.key).2 ⟨x,hx,hk⟩));have hless:∀x∈F.take j,Bc x.key r.key:=fun x hx=>by
    rcases hbef x hx with hb|hb
    .exact hb
    .exact absurd hb.1 (hno x hx)
   have zBT:DL ((news (F.take j)++[(r.key,r.stamp)]).map (·.1)):=by
    unfold DL;rw[List.map_append,zLh];refine⟨h1,List.pairwise_singleton _ _,fun a ha b hb=>?_⟩;obtain⟨x,hx,hxk⟩:=(h2 a).1 ha;rw[List.mem_singleton.1 hb,<-hxk];exact hless x hx
   refine⟨zBT,fun k=>?_,fun k=>?_⟩
   .rw[List.map_append,zMD,hmem k,h2 k];simp only[zLx,List.map_nil,List.mem_singleton];constructor
    .rintro(h|h)
     .exact Or.inl h
     .exact Or.inr h.symm
    .rintro(h|h)
     .exact Or.inl h
     .exact Or.inr h.symm
   .rw[Da];unfold BX at h3⊢;rw[List.find?_append];by_cases hk:r.key=k
    .subst hk;have hnone:BZ r.key (F.take j)=[]:=EJ hno;have hf:=h3 r.key;rw[hnone]at hf⊢;simp only[List.head?_nil,Option.map_none,Option.map_eq_none_iff]at hf;rw[hf];simp[BZ]
    .have:BZ k [r]=[]:=EJ (fun y hy=>by rw[List.mem_singleton.1 hy];exact hk);rw[this,zLw,<-h3 k];simp[hk]
end S
end Go.Proofs.YtekdenkllipehaaGreatDoor
