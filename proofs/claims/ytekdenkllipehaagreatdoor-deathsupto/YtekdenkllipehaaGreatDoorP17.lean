import Derived.Test.YtekdenkllipehaaGreatDoorP13
import Derived.Test.YtekdenkllipehaaGreatDoorP15
import Derived.OwnWalk
set_option maxRecDepth 99999
set_option maxHeartbeats 0
namespace Go.Proofs.YtekdenkllipehaaGreatDoor
open Go.RowKit
variable{C Y a base n:Nat}{ao:Option Addr}{bl s:BA}{e:TypeId}{fl:Bool}{l:List S.Ent}{w w' wr:World}{wm:Int}{xs:List Value}
namespace S
def Ent.cells(e:Ent):List Value:=[iT (e.lo:Int),iT (e.hi:Int),sT e.key,iT (e.stamp:Int)]
def C8(l:List Ent):List Value:=l.flatMap Ent.cells
theorem QX(A B:List Ent):C8 (A++B)=C8 A++C8 B:=by simp[C8]
theorem WU(e:Ent):C8 [e]=e.cells:=by simp[C8]
theorem QW(l:List Ent):(C8 l).length=l.length*4:=by
 induction l with
 |nil=>rfl
 |cons s l ih=>show(s.cells++C8 l).length=_;rw[zLL,ih];simp[Ent.cells];omega
theorem Nq:∀{L:List Ent}{k:Nat}{r:Ent},L[k]?=some r->(C8 L)[k*4]?=some (iT (r.lo:Int))/\(C8 L)[k*4+1]?=some (iT (r.hi:Int))/\(C8 L)[k*4+2]?=some (sT r.key)/\(C8 L)[k*4+3]?=some (iT (r.stamp:Int))
 |[],_,_,h=>by simp at h
 |t::L,0,r,h=>by
  simp at h;subst h;exact⟨rfl,rfl,rfl,rfl⟩
 |t::L,k+1,r,h=>by
  have e:C8 (t::L)=iT (t.lo:Int)::iT (t.hi:Int)::sT t.key::iT (t.stamp:Int)::C8 L:=rfl;have ih:=Nq (L:=L) (k:=k) (r:=r) (by simpa using h);rw[e,show(k+1)*4=k*4+1+1+1+1 by omega];simpa using ih
end S
def Dz(w:World)(ao:Option Addr)(l:List S.Ent):Prop:=l=[]\/∃g,ao=some (aD g 0)/\g<w.heap.size/\∀(i:Nat)(e:S.Ent),l[i]?=some e ->
 w.cell? (aD g (i*4))=some (iT (e.lo:Int))/\w.cell? (aD g (i*4+1))=some (iT (e.hi:Int))/\w.cell? (aD g (i*4+2))=some (sT e.key)/\w.cell? (aD g (i*4+3))=some (iT (e.stamp:Int))
theorem Dz.kept(h:Dz w ao l)(q:Q w w'):Dz w' ao l:=by
 rcases h with h|⟨g,rfl,hg,hc⟩
 .exact Or.inl h
 .refine Or.inr ⟨g,rfl,zLJ hg q.below.size,fun i e hi=>?_⟩;obtain⟨a,b,c,d⟩:=hc i e hi;exact⟨AA a q,AA b q,AA c q,AA d q⟩
theorem o8{cap:Nat}(h:w.ownsRow base 144 4 (.slice ao l.length cap) l.length (S.C8 l)):Dz w ao l:=by
 by_cases hne:l=[]
 .exact Or.inl hne
 .have hcl:=S.QW l;have hl0:l.length≠0:=fun e=>hne (zLN e);obtain⟨g,rfl,_,hlt,hc⟩:=Cv h (fun e=>by rw[e]at hcl;simp at hcl;omega);refine Or.inr ⟨g,rfl,hlt,fun i e hi=>?_⟩;obtain⟨a,b,c,d⟩:=S.Nq hi;exact⟨hc _ _ a,hc _ _ b,hc _ _ c,hc _ _ d⟩
def F3(wm:Int)(blocks:BA)(ao:Option Addr)(n cap:Nat):Value:=.agg #[iT wm,sT blocks,.slice ao n cap]
def Mi:Value:=.agg #[iT 0,eS,nS]
def J3(w:World)(o:Option S.Lay)(e:Ending)(w':World):Prop:=
 match o with
 |none=>e=.returned (.tuple #[Mi,iT 3])
 |some L=>∃ao cap,e=.returned (.tuple #[F3 L.wm ⟨L.blocks.toArray⟩ ao L.IV.length cap,iT 0])/\Dz w' ao L.IV/\∀a,ao=some a->w.heap.size<=a.block
theorem xA:(Tryz.prog.info? 144).map (fun i=>(i.zero,i.size,i.bytes))=some (some (.agg #[iT 0,iT 0,eS,iT 0]),4,40):=by kernel_rfl
theorem IQ(w:World)(B o:Nat)(v:Value):w.grownBy (w.setCell (aD B o) v) (some B):=
 ⟨rfl,rfl,rfl,by simp,fun k _ hne=>heap_setCell_other w (aD B o) k v (fun e=>hne (by simp at e;rw[e]))⟩
theorem VN{size:Nat}{v:Value}(h:w.ownsRow base e size v n xs)(hb:∀g,v.ownBlock=some g->w'.heap[g]?=w.heap[g]?):w'.ownsRow base e size v n xs:=by
 refine⟨h.1,?_⟩;rcases h.2 with h2|⟨g,cap,cur,hv,hg,hh,r⟩
 .exact Or.inl h2
 .exact Or.inr ⟨g,cap,cur,hv,hg,by rw[hb g (by rw[hv];rfl)];exact hh,r⟩
structure Idg(w:World)(C Y:Nat)(s:BA)(a:Nat)(fl:Bool)(wm:Int)(bl:BA)(l:List S.Ent)(ao:Option Addr)(cap:Nat)(wr:World):Prop where
 below:Below w.heap.size w wr
 low:w.heap.size<=C/\C<Y
 rd:Jw wr C s a fl
 c0:wr.cell? (aD Y 0)=some (iT wm)
 c1:wr.cell? (aD Y 1)=some (sT bl)
 c2:wr.cell? (aD Y 2)=some (.slice ao l.length cap)
 f2:wr.frozen? (aD Y 2)=false
 top:Y<wr.heap.size
 own:wr.ownsRow (Y+1) 144 4 (.slice ao l.length cap) l.length (S.C8 l)
 ans:Ca wr w.heap.size [iT 0,eS,nS]/\w.heap.size<C
theorem Ca.grown{B:Nat}{vs:List Value}{row:Option Nat}(h:Ca w B vs)(hg:w.grownBy w' row)(hne:row≠some B):Ca w' B vs:=by
 have hb:w'.heap[B]?=w.heap[B]?:=hg.block B h.1 (fun e=>hne e.symm);exact⟨zLJ h.1 hg.size,fun i v hv=>⟨(zMI (a:=(aD B i)) hb).trans (h.2 i v hv).1,(zML (a:=(aD B i)) hb).trans (h.2 i v hv).2⟩⟩
theorem Idg.kept{w wr w':World}{C Y a:Nat}{s:BA}{fl:Bool}{wm:Int}{bl:BA}{l:List S.Ent}{ao:Option Addr}{cap:Nat}(h:Idg w C Y s a fl wm bl l ao cap wr)(q:Q wr w'):Idg w C Y s a fl wm bl l ao cap w':=
 ⟨h.below.trans (q.below.mono h.below.size),h.low,h.rd.kept q,AA h.c0 q,AA h.c1 q,AA h.c2 q,(q.below.frozen (p:=(aD Y 2)) h.top).trans h.f2,zLJ h.top q.below.size,own_below h.own q.below,h.ans.1.kept q,h.ans.2⟩
theorem Idg.next{a':Nat}{fl':Bool}{cap:Nat}(h:Idg w C Y s a fl wm bl l ao cap wr)(hg:wr.grownBy w' (some C))(hr:Jw w' C s a' fl'):Idg w C Y s a' fl' wm bl l ao cap w':=by
 have hY:w'.heap[Y]?=wr.heap[Y]?:=hg.block Y h.top (fun e=>by injection e;have:=h.low.2;omega);refine⟨h.below.grown hg h.below.size (fun k hk=>by injection hk;have:=h.low.1;omega),h.low,hr,(zMI (a:=(aD Y 0)) hY).trans h.c0,(zMI (a:=(aD Y 1)) hY).trans h.c1,(zMI (a:=(aD Y 2)) hY).trans h.c2,(zML (a:=(aD Y 2)) hY).trans h.f2,zLJ h.top hg.size,h.own.kept hg ?_,h.ans.1.grown hg (by have:=h.ans.2;simp;omega),h.ans.2⟩;rcases hb:(Value.slice ao l.length cap).ownBlock with _|k
 .exact Or.inl rfl
 .right;have:=(h.own.lt k hb).1;have:=h.low.2;simp;omega
theorem Idg.push{e:S.Ent}{Dj:Option Addr}{cap cap':Nat}(h:Idg w C Y s a fl wm bl l ao cap wr)(hg:wr.grownBy w' (Value.slice ao l.length cap).ownBlock)(ho:w'.ownsRow (Y+1) 144 4 (.slice Dj (l.length+1) cap') (l.length+1) (S.C8 l++e.cells)):Idg w C Y s a fl wm bl (l++[e]) Dj cap' (w'.setCell (aD Y 2) (.slice Dj (l.length+1) cap')):=by
 have hlow:∀k,(Value.slice ao l.length cap).ownBlock=some k->Y<k:=fun k hk=>(h.own.lt k hk).1;have hlow':∀k,(Value.slice Dj (l.length+1) cap').ownBlock=some k->Y<k:=fun k hk=>(ho.lt k hk).1;have hY:w'.heap[Y]?=wr.heap[Y]?:=hg.block Y h.top (fun e=>by have:=hlow Y e.symm;omega);have hrd:=h.rd.grown hg (fun e=>by have:=hlow C e;have:=h.low.2;omega);have hl:=h.low;refine⟨(h.below.grown hg h.below.size (fun k hk=>by have:=hlow k hk;omega)).setCell (by show w.heap.size<=Y;omega) _,h.low,?_,?_,?_,?_,?_,?_,?_,?_,h.ans.2⟩
 .exact hrd.grown (row:=some Y) (IQ w' Y 2 _) (by simp;omega)
 .rw[zMH _ _ _ _ (by simp)];exact(zMI (a:=(aD Y 0)) hY).trans h.c0
 .rw[zMH _ _ _ _ (by simp)];exact(zMI (a:=(aD Y 1)) hY).trans h.c1
 .rw[zLL];exact zMJ _ _ _ ((zMI (a:=(aD Y 2)) hY).trans h.c2)
 .rw[zMK];exact(zML (a:=(aD Y 2)) hY).trans h.f2
 .have:=hg.size;have:=h.top;simp;omega
 .rw[S.QX,S.WU,zLL];refine ho.kept (IQ w' Y 2 _) ?_;rcases hb:(Value.slice Dj (l.length+1) cap').ownBlock with _|k
  .exact Or.inl rfl
  .right;have:=hlow' k hb;simp;omega
 .exact(h.ans.1.grown hg (fun e=>by have:=hlow _ e;have:=h.ans.2;omega)).other (by have:=h.ans.2;omega) 2 _
theorem Idg.aside{E:Nat}{cap:Nat}(h:Idg w C Y s a fl wm bl l ao cap wr)(hg:wr.grownBy w' (some E))(hE:Y<E)(hne:(Value.slice ao l.length cap).ownBlock≠some E):Idg w C Y s a fl wm bl l ao cap w':=by
 have hl:=h.low;have hY:w'.heap[Y]?=wr.heap[Y]?:=hg.block Y h.top (fun e=>by injection e;omega);exact⟨h.below.grown hg h.below.size (fun k hk=>by injection hk;omega),h.low,h.rd.grown hg (by simp;omega),(zMI (a:=(aD Y 0)) hY).trans h.c0,(zMI (a:=(aD Y 1)) hY).trans h.c1,(zMI (a:=(aD Y 2)) hY).trans h.c2,(zML (a:=(aD Y 2)) hY).trans h.f2,zLJ h.top hg.size,VN h.own (fun g hgb=>hg.block g (h.own.lt g hgb).2 (fun e=>hne (hgb.trans e))),h.ans.1.grown hg (by have:=h.ans.2;simp;omega),h.ans.2⟩
theorem wG{size:Nat}{cap:Nat}(h:w.ownsRow base e size (.slice ao n cap) n xs):∀a,ao=some a->base<=a.block:=fun a ha=>by
 rcases h.2 with⟨hv,_⟩|⟨g,c,cur,hv,hg,_⟩
 .injection hv with e1;rw[ha]at e1;cases e1
 .injection hv with e1;rw[ha]at e1;injection e1 with e1;rw[e1];exact hg
theorem WT(w:World)(e:S.Ent)(t:TypeId):∀j u,e.cells[j]?=some u->(w.alloc (.cells #[iT (e.lo:Int),iT (e.hi:Int),sT e.key,iT (e.stamp:Int)] t)).cell? (((aD w.heap.size 0):Addr).add j)=some u:=by
 intro j u hj
 match j,hj with
 |0,hj=>simp[S.Ent.cells]at hj;subst hj;simp[Addr.add]
 |1,hj=>simp[S.Ent.cells]at hj;subst hj;simp[Addr.add]
 |2,hj=>simp[S.Ent.cells]at hj;subst hj;simp[Addr.add]
 |3,hj=>simp[S.Ent.cells]at hj;subst hj;simp[Addr.add]
 |j+4,hj=>simp[S.Ent.cells]at hj
theorem UE(e:S.Ent):∀u∈e.cells,u.oneCell'=true:=by
 intro u hu;simp[S.Ent.cells]at hu;rcases hu with rfl|rfl|rfl|rfl<;>rfl
theorem TN(bl idx:BA)(hb:bl.size<=1048576)(hi:idx.size<=1048576)(w:World):
  Calls Tryz.prog 89 #[sT bl,sT idx] w fun e w'=>J3 w (S.FU bl.data.toList idx.data.toList) e w'/\Q w w':=by
 have hlen:idx.data.toList.length=idx.size:=by simp
 have hlb:bl.data.toList.length=bl.size:=by simp
 obtain⟨⟨v0,a0⟩,h0⟩:=ex (CG idx.data.toList 1099511627777 0);obtain⟨fl0,xS⟩:=ex (JD idx.data.toList 1099511627777 0);have l0:=Cw (T:=idx.data.toList) (most:=1099511627777) (a:=0) (by omega);rw[<-h0,hlen]at l0;obtain⟨res,hres⟩:=ex (S.Jm idx.data.toList bl.size idx.size a0 0 fl0 []);have HE:Hid (S.FU bl.data.toList idx.data.toList=match res with|(l,at_,bad)=>if bad=true\/at_≠bl.size then none else some ⟨(v0:Int)-1,bl.data.toList,l⟩):=by
  unfold S.FU;rw[<-h0,<-xS,hlb,hlen];simp only;rw[<-hres];exact rfl
 have N0:Hid _:=fun W=>rdNum idx (by omega) 0 (w.heap.size+1) 1099511627777 false W;rw[<-h0,<-xS]at N0;have XD:Hid _:=fun W=>iZ idx W;simp only at l0;go_in;go_wp2_with fail;apply(XD.out _).mono;rintro e w1⟨rfl,hA1,q1⟩;simp only[zMM]at hA1;go_wp2_with fail;apply(N0.out _ hA1).mono;rintro e w2⟨rfl,hA2,g2⟩;have hs1:=q1.below.size;simp only[zMM]at hs1;have hs2:=g2.size;have ht2:=hA2.top;have hI0:Idg w (w.heap.size+1) w2.heap.size idx a0 (false || fl0) ((v0:Int)-1) bl [] none 0 (w2.alloc (.cells #[iT ((v0:Int)-1),sT bl,nS] 112)):=by
  refine⟨?_,⟨by omega,by omega⟩,hA2.kept ((Q.refl _).alloc _ _),by simp,by simp,by simp,by simp,by simp,World.ownsRow_nil _ _ _ _,?_,by omega⟩
  .exact((((Below.refl _ w).alloc (zLK _) _).trans (q1.below.mono (by simp))).grown g2 (by omega) (fun k hk=>by injection hk;omega)).alloc (by omega) _
  .exact(((AZ w [iT 0,eS,nS] 112).kept q1).grown g2 (by simp)).kept ((Q.refl _).alloc _ _)
 rw[Bool.false_or]at hI0;have HN:Hid _:=fun(a most:Nat)(fl:Bool)(W:World)=>rdNum idx (by omega) a (w.heap.size+1) most fl W;have HX:Hid _:=fun(a n:Nat)(fl:Bool)(hn:n<72057594037927936)(ha:a<=idx.size)(W:World)=>zAH idx (by omega) a (w.heap.size+1) n fl hn ha W;have HMo:Hid _:=fun(a:Nat)(fl:Bool)(W:World)=>zAI idx a (w.heap.size+1) fl W;have zy:Hid _:=fun(a:Nat)(fl:Bool)(W:World)=>oW idx a (w.heap.size+1) fl W;obtain⟨Y,hY⟩:=xe w2.heap.size;have hYw:w.heap.size+1<Y:=by omega
 obtain⟨i0,hif,hz0,hz1,hz2⟩:=info_parts xA;go_wp2_with fail;rw[hY]at hI0
 go_loopw [8] (fun t wr=>∃(a at_ f:Nat)(fl:Bool)(l:List S.Ent)(ao:Option Addr)(cap:Nat),t=iT (at_:Int)/\a<=idx.size/\at_<=1048576*a/\idx.size<=a+f/\l.length<=a/\Idg w (w.heap.size+1) Y idx a fl ((v0:Int)-1) bl l ao cap wr/\Hid (res=S.Jm idx.data.toList bl.size f a at_ fl l)) (fun _ wr=>idx.size-(match wr.cell? (aD (w.heap.size+1) 1)with|some v=>(intOf v).toNat|none=>0))
 case atStart=>exact⟨a0,0,idx.size,fl0,[],none,0,rfl,by omega,by omega,by omega,by simp,hI0,hres⟩
 case round =>
  obtain⟨a,at_,f,fl,l,ao,cap,rfl,ha,hat,hf,hll,hI,hR⟩:=hrel;have MO:=hU (HMo.out a fl wr hI.rd);by_cases hlt:a<idx.size
  .have hd:decide (a<idx.size)=true:=by simpa using hlt
   rw[hd]at MO;obtain⟨⟨v1,a1⟩,h1⟩:=ex (CG idx.data.toList bl.size a);have n1:=S.Rp (T:=idx.data.toList) (most:=bl.size) (a:=a) (by omega);rw[<-h1,hlen]at n1;obtain⟨⟨m,a2⟩,h2⟩:=ex (CG idx.data.toList 64 a1);have n2:=Cw (T:=idx.data.toList) (most:=64) (a:=a1) (by rw[hlen];exact n1.2.1);have n2':=S.Rq (T:=idx.data.toList) (most:=64) (a:=a1) (by rw[hlen];exact n1.2.1);rw[<-h2,hlen]at n2;rw[<-h2]at n2';obtain⟨⟨t,a3⟩,h3⟩:=ex (Ho idx.data.toList m a2);have n3:=Ob (T:=idx.data.toList) (n:=m) (a:=a2) (by rw[hlen];exact n2.1);have n3':=S.fA (T:=idx.data.toList) (n:=m) (a:=a2) (by rw[hlen];exact n2.1);rw[<-h3,hlen]at n3;rw[<-h3]at n3';obtain⟨⟨st,a4⟩,h4⟩:=ex (CG idx.data.toList 1099511627776 a3);have n4:=Cw (T:=idx.data.toList) (most:=1099511627776) (a:=a3) (by rw[hlen];exact n3.1);have n4':=S.Rq (T:=idx.data.toList) (most:=1099511627776) (a:=a3) (by rw[hlen];exact n3.1);rw[<-h4,hlen]at n4;rw[<-h4]at n4';simp only at n1 n2 n2' n3 n3' n4 n4';obtain⟨f',rfl⟩:∃f',f=f'+1:=⟨f-1,by omega⟩;obtain⟨x,hx⟩:=xe (at_+v1);have HR2:Hid (res=S.Jm idx.data.toList bl.size f' a4 x (fl || S.SF idx.data.toList bl.size a) (l++[⟨at_,x,⟨t.toArray⟩,st⟩])):=by
    have hr:=hR.out;unfold S.Jm at hr;rw[if_pos (by omega)]at hr;have e:S.Yd idx.data.toList bl.size a at_=(⟨at_,x,⟨t.toArray⟩,st⟩,a4):=by
     unfold S.Yd;simp only[<-h1,<-h2,<-h3,<-h4,hx]
    rw[e]at hr;exact hr
   have HB:Hid (S.SF idx.data.toList bl.size a=(JD idx.data.toList bl.size a || (JD idx.data.toList 64 a1 || (Sb idx.data.toList m a2 || JD idx.data.toList 1099511627776 a3)))):=by
    unfold S.SF;simp only[<-h1,<-h2,<-h3];exact trivial
   ((((((((((((((have M1:Hid _:=fun(W:World)=>HN.out a bl.size fl W;rw[<-h1]at M1;have M2:Hid _:=fun(fl:Bool)(W:World)=>HN.out a1 64 fl W;rw[<-h2]at M2;have M3:Hid _:=fun(fl:Bool)(W:World)=>HX.out a2 m fl n2.2.2 n2.1 W;rw[<-h3]at M3;have M4:Hid _:=fun(fl:Bool)(W:World)=>HN.out a3 1099511627776 fl W;rw[<-h4]at M4;simp only at M1 M2 M3 M4;have GY:=h_ hI.rd.c1;have hxI:(at_:Int)+(v1:Int)=(x:Int):=by omega);have hxb:x<=1048576*a4:=by omega);have hsum:a4<=idx.size/\a<a4:=by omega);have HX2:Hid (x<=1048576*a4/\a4<=idx.size/\a<a4):=⟨hxb,hsum⟩;have hxw:x<=1152921504606846976:=by omega);have hvw:v1<=1048576:=by omega);have haw:at_<=1152921504606846976:=by omega);generalize (⟨t.toArray⟩:BA)=tx at*;go_wp2_with fail;apply(MO.out ()).mono;rintro e w3⟨rfl,q3⟩;have KS:=hI.kept q3;go_wp2_with fail;apply(M1.out _ KS.rd).mono;rintro e w4⟨rfl,uj,g4⟩;have hI4:=(KS.next g4 uj).kept ((Q.refl w4).alloc #[iT (at_:Int),iT (x:Int),eS,iT 0] 144);have LK:=Yz w4 (iT (at_:Int)) (iT (x:Int)) eS (iT 0) 144;have hE:Y<w4.heap.size:=(KS.next g4 uj).top;have HNE:Hid ((Value.slice ao l.length cap).ownBlock≠some w4.heap.size):=fun e=>by have:=((KS.next g4 uj).own.lt _ e).2;omega);go_wp2_with fail;apply(M2.out _ _ hI4.rd).mono;rintro e w5⟨rfl,hA5,g5⟩;have hI5:=hI4.next g5 hA5;have M8:=LK.grown g5 (by simp;omega);go_wp2_with fail;apply(M3.out _ _ hI5.rd).mono;rintro e w6⟨rfl,hA6,g6⟩;have hI6:=(hI5.next g6 hA6).aside (Ld w6 w4.heap.size 2 (sT tx)) hE HNE.out;have hV6:=M8.grown g6 (by simp;omega);have k6:=hV6.c2;have j6:=hV6.fr 2;have zBN:=hV6.set2 (sT tx);go_wp2_with fail;apply(M4.out _ _ hI6.rd).mono;rintro e w7⟨rfl,hA7,g7⟩;have zi:=(hI6.next g7 hA7).aside (Ld w7 w4.heap.size 3 (iT (st:Int))) hE HNE.out;have R4:=zBN.grown g7 (by simp;omega);have k7:=R4.c3;have j7:=R4.fr 3;have dR:=R4.vW (iT (st:Int));have c0:=dR.c0;have c1:=dR.c1;have c2:=dR.c2;have c3:=dR.c3;have y2:=zi.c2;have z2:=zi.f2;have hown:=zi.own.alloc (.cells #[iT (at_:Int),iT (x:Int),sT tx,iT (st:Int)] 144);have hY7:=zi.top;go_wp2_with(at_builtin;refine wpList_append_own _ rfl (.tmp 36) (.tmp 38) 110 rfl (Y+1) 144 i0 (.agg #[iT 0,iT 0,eS,iT 0]) 4 40 Tryz.underlying110 hif hz0 hz1 hz2 rfl (by decide) _ _ _ rfl hown (aD w7.heap.size 0) 1 1 (S.Ent.cells ⟨at_,x,tx,st⟩) rfl rfl ?c1 ?c2 ?c3 ?c4 ?c5 ?_));case c1=>have:=WT (w7.setCell (aD w4.heap.size 3) (iT (st:Int))) ⟨at_,x,tx,st⟩ 144;simpa using this);case c2=>exact UE _);case c3=>unfold maxLen;omega);case c4=>omega);case c5=>simp at hY7⊢;omega);intro v' w' hown' hgrow _;obtain⟨Er,Bn,hv⟩:=Ac hown';rw[hv]at hown';rw[hv];have dS:=zi.kept ((Q.refl _).alloc #[iT (at_:Int),iT (x:Int),sT tx,iT (st:Int)] 144);have hI8:=dS.push hgrow hown';have hYb:=hgrow.block Y dS.top (fun e=>by have:=(dS.own.lt Y e.symm).1;omega);have y8:=(zMI (a:=(aD Y 2)) hYb).trans dS.c2;have z8:=(zML (a:=(aD Y 2)) hYb).trans dS.f2;have qh:=((dR.grown (Ep ((Q.refl _).alloc #[iT (at_:Int),iT (x:Int),sT tx,iT (st:Int)] 144) none) (by simp)).grown hgrow HNE.out).grown (Ld w' Y 2 (.slice Er (l.length+1) Bn)) (by simp;omega);have c8:=qh.c1;go_wp2_with fail);go_roundw
   case rel =>
    refine⟨a4,x,f',_,_,Er,Bn,rfl,HX2.out.2.1,HX2.out.1,by have:=HX2.out;omega,by simp;have:=HX2.out;omega,?_,HR2⟩;rw[HB.out];simpa[Bool.or_assoc]using hI8
   case measure =>
    have r8:=hI8.rd.c1;simp only[r8,GY.out,intOf,zLp];have:=HX2.out;omega
  .have hd:decide (a<idx.size)=false:=by simpa using hlt
   rw[hd]at MO;have FA:Hid _:=fun(W:World)(h:Jw W (w.heap.size+1) idx a fl)=>zy.out a fl W h;have HR2:Hid (res=(l,at_,fl)):=by
    have hr:=hR.out
    cases f with
    |zero=>exact hr
    |succ f =>
     unfold S.Jm at hr;rw[if_neg (by omega)]at hr;exact hr
   rw[HR2.out]at HE;go_wp2_with fail;apply(MO.out ()).mono;rintro e w3⟨rfl,q3⟩;have KS:=hI.kept q3;go_wp2_with fail;apply(FA.out _ KS.rd).mono;rintro e w4⟨rfl,hw4⟩;subst hw4;have b0:=KS.ans.1.cell 0 rfl;have b1:=KS.ans.1.cell 1 rfl;have b2:=KS.ans.1.cell 2 rfl;have d0:=KS.ans.1.free 0 rfl;have d1:=KS.ans.1.free 1 rfl;have d2:=KS.ans.1.free 2 rfl;have y0:=KS.c0;have y1:=KS.c1;have y2:=KS.c2
   cases hfl:fl with
   |true =>
    rw[hfl]at HE;have HE2:Hid (S.FU bl.data.toList idx.data.toList=none):=by
     have:=HE.out;rw[if_pos (Or.inl rfl)]at this;exact this
    have HE:Hid _:=HE2.out;subst hfl;have hset:=((KS.ans.1.set 0 (iT 0)).set 1 eS).set 2 nS;have k0:=hset.cell 0 rfl;have k1:=hset.cell 1 rfl;have k2:=hset.cell 2 rfl;have hq:Q w (((w4.setCell (aD w.heap.size 0) (iT 0)).setCell (aD w.heap.size 1) eS).setCell (aD w.heap.size 2) nS):=⟨((KS.below.setCell (zLK _) _).setCell (zLK _) _).setCell (zLK _) _⟩;go_wp2_with fail;refine bodyPost_ret (v:=.tuple #[.agg #[iT 0,eS,nS],iT 3]) (by simp[results,Tryz.results89,go_sem,k0,k1,k2]) rfl ?_;exact⟨by rw[HE.out];exact rfl,hq⟩
   |false =>
    rw[hfl]at HE;subst hfl;by_cases xW:at_=bl.size
    .have HE2:Hid (S.FU bl.data.toList idx.data.toList=some ⟨(v0:Int)-1,bl.data.toList,l⟩):=by
      have:=HE.out;rw[if_neg (by simp[xW])]at this;exact this
     (have hne:((at_:Int)==(bl.size:Int))=true:=by simp[xW]);have zBK:(at_:Int)=(bl.size:Int):=by omega
     have HLo:Hid (∀a,ao=some a->w.heap.size<=a.block):=fun a ha=>by
      have h0:=wG KS.own a ha;omega
     have hset:=((KS.ans.1.set 0 (iT ((v0:Int)-1))).set 1 (sT bl)).set 2 (.slice ao l.length cap);have k0:=hset.cell 0 rfl;have k1:=hset.cell 1 rfl;have k2:=hset.cell 2 rfl;have hfin:Dz (((w4.setCell (aD w.heap.size 0) (iT ((v0:Int)-1))).setCell (aD w.heap.size 1) (sT bl)).setCell (aD w.heap.size 2) (.slice ao l.length cap)) ao l:=by
      refine o8 (VN KS.own (fun g hg=>?_));have hg1:=(KS.own.lt g hg).1;rw[heap_setCell_other _ (aD w.heap.size 2) g _ (by simp;omega),heap_setCell_other _ (aD w.heap.size 1) g _ (by simp;omega),heap_setCell_other _ (aD w.heap.size 0) g _ (by simp;omega)]
     have hq:Q w (((w4.setCell (aD w.heap.size 0) (iT ((v0:Int)-1))).setCell (aD w.heap.size 1) (sT bl)).setCell (aD w.heap.size 2) (.slice ao l.length cap)):=⟨((KS.below.setCell (zLK _) _).setCell (zLK _) _).setCell (zLK _) _⟩;go_wp2_with fail;refine bodyPost_ret (v:=.tuple #[.agg #[iT ((v0:Int)-1),sT bl,.slice ao l.length cap],iT 0]) (by simp[results,Tryz.results89,go_sem,k0,k1,k2]) rfl ?_;refine⟨?_,hq⟩;rw[HE2.out];exact⟨ao,cap,rfl,hfin,HLo.out⟩
    .have HE2:Hid (S.FU bl.data.toList idx.data.toList=none):=by
      have:=HE.out;rw[if_pos (Or.inr xW)]at this;exact this
     ((have hne:((at_:Int)==(bl.size:Int))=false:=by rw[zM9];omega);have zBK:¬(at_:Int)=(bl.size:Int):=by omega);have HE:Hid _:=HE2.out;have hset:=((KS.ans.1.set 0 (iT 0)).set 1 eS).set 2 nS;have k0:=hset.cell 0 rfl;have k1:=hset.cell 1 rfl;have k2:=hset.cell 2 rfl;have hq:Q w (((w4.setCell (aD w.heap.size 0) (iT 0)).setCell (aD w.heap.size 1) eS).setCell (aD w.heap.size 2) nS):=⟨((KS.below.setCell (zLK _) _).setCell (zLK _) _).setCell (zLK _) _⟩;go_wp2_with fail;refine bodyPost_ret (v:=.tuple #[.agg #[iT 0,eS,nS],iT 3]) (by simp[results,Tryz.results89,go_sem,k0,k1,k2]) rfl ?_;exact⟨by rw[HE.out];exact rfl,hq⟩
end Go.Proofs.YtekdenkllipehaaGreatDoor
