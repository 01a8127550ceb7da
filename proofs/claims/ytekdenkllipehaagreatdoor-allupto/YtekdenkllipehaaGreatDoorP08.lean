import Derived.Test.YtekdenkllipehaaGreatDoorP05
import Derived.Test.YtekdenkllipehaaGreatDoorP07
set_option maxRecDepth 99999
set_option maxHeartbeats 0
namespace Go.Proofs.YtekdenkllipehaaGreatDoor
open Go.RowKit
namespace S
variable{A R b o:List Rec}{T l m:List UInt8}{a most:Nat}{bs:List (List Rec)}{k n s:BA}{r:Rec}{t wm:Int}
abbrev Ap:=BA->BA->Option BA
structure Vs where
 stamp:Int
 val:Option BA
def valOf(ap:Ap)(r:Rec)(n:BA):Option BA:=
 if r.kind=0 then(if r.body.size<=4096 then some r.body else none)
 else if r.kind=2 then(if r.body.size=0 then some n else none)
 else match ap r.body n with
  |some s=>if r.body.size<=s.size/\s.size<=4096 then some s else none
  |none=>none
def EH(r:Rec)(s:BA):Vs:=⟨r.stamp,if r.kind=2 then none else some s⟩
def run(ap:Ap):BA->List Rec->Option (List Vs×BA)
 |n,[]=>some ([],n)
 |n,r::rs =>
  match valOf ap r n with
  |none=>none
  |some s =>
   match run ap s rs with
   |none=>none
   |some (l,e)=>some (EH r s::l,e)
theorem GQ(ap:Ap):∀(A B:List Rec)(n:BA),run ap n (A++B)=match run ap n A with
  |none=>none
  |some (l,e)=>match run ap e B with
   |none=>none
   |some (m,f)=>some (l++m,f)
 |[],B,n=>by
  simp only[zLb,run]
  cases run ap n B with
  |none=>rfl
  |some p=>rfl
 |r::A,B,n=>by
  simp only[zLd,run]
  cases valOf ap r n with
  |none=>rfl
  |some s =>
   simp only[GQ ap A B s]
   cases run ap s A with
   |none=>rfl
   |some p =>
    simp only
    cases run ap p.2 B with
    |none=>rfl
    |some q=>rfl
def EF(ap:Ap)(R:List Rec)(V:List Vs):Prop:=∀n,∃e,run ap n R=some (V,e)
theorem EF.nil(ap:Ap):EF ap [] []:=fun n=>⟨n,rfl⟩
theorem EF.append{ap:Ap}{B:List Rec}{V U:List Vs}(h:EF ap A V)(k:EF ap B U):EF ap (A++B) (V++U):=fun n=>by
 obtain⟨e,he⟩:=h n;obtain⟨f,hf⟩:=k e;exact⟨f,by rw[GQ,he];simp only[hf]⟩
theorem EF.inj{ap:Ap}{V U:List Vs}(h:EF ap A V)(k:EF ap A U):V=U:=by
 obtain⟨e,he⟩:=h ⟨#[]⟩;obtain⟨f,hf⟩:=k ⟨#[]⟩;rw[he]at hf;injection hf with hf;injection hf
theorem Me{ap:Ap}:∀{R:List Rec}{n e:BA}{V:List Vs},run ap n R=some (V,e)->V.map (·.stamp)=R.map (·.stamp)
 |[],n,e,V,h=>by simp only[run,zLO,Prod.mk.injEq]at h;rw[<-h.1];rfl
 |r::R,n,e,V,h=>by
  simp only[run]at h
  cases hv:valOf ap r n with
  |none=>rw[hv]at h;cases h
  |some s =>
   rw[hv]at h;simp only at h
   cases hr:run ap s R with
   |none=>rw[hr]at h;cases h
   |some p =>
    obtain⟨l,f⟩:=p;rw[hr]at h;simp only[zLO,Prod.mk.injEq]at h;rw[<-h.1];simp only[zLx,EH];rw[Me hr]
theorem EF.stamps{ap:Ap}{V:List Vs}(h:EF ap R V):V.map (·.stamp)=R.map (·.stamp):=by
 obtain⟨e,he⟩:=h ⟨#[]⟩;exact Me he
theorem EF.length{ap:Ap}{R:List Rec}{V:List Vs}(h:EF ap R V):V.length=R.length:=by
 have:=congrArg List.length h.stamps;simpa using this
def Vs.size(v:Vs):Nat:=match v.val with|some s=>s.size|none=>0
theorem J4{ap:Ap}(h:valOf ap r n=some s):r.body.size<=(EH r s).size/\(EH r s).size<=4096:=by
 unfold valOf at h;unfold Vs.size EH;by_cases h0:r.kind=0
 .rw[if_pos h0]at h;split at h
  .injection h with h;subst h;have h2:¬r.kind=2:=by omega
   rw[if_neg h2];exact⟨zLK _,by assumption⟩
  .cases h
 .rw[if_neg h0]at h;by_cases h2:r.kind=2
  .rw[if_pos h2]at h;rw[if_pos h2];split at h
   .exact⟨by omega,by simp⟩
   .cases h
  .rw[if_neg h2]at h;rw[if_neg h2]
   cases ha:ap r.body n with
   |none=>rw[ha]at h;cases h
   |some t =>
    rw[ha]at h;simp only at h;split at h
    .injection h with h;subst h;assumption
    .cases h
theorem O3{ap:Ap}:∀{R:List Rec}{n e:BA}{V:List Vs},run ap n R=some (V,e)->(∀(i:Nat)(r:Rec)(v:Vs),R[i]?=some r->V[i]?=some v->r.body.size<=v.size/\v.size<=4096)
 |[],n,e,V,h=>fun i r v hr=>by simp at hr
 |r::R,n,e,V,h=>fun i x v hx hv=>by
  simp only[run]at h
  cases ho:valOf ap r n with
  |none=>rw[ho]at h;cases h
  |some s =>
   rw[ho]at h;simp only at h
   cases hr:run ap s R with
   |none=>rw[hr]at h;cases h
   |some p =>
    obtain⟨l,f⟩:=p;rw[hr]at h;simp only[zLO,Prod.mk.injEq]at h;obtain⟨rfl,_⟩:=h
    cases i with
    |zero =>
     simp only[zLY,zLO]at hx hv;subst hx hv;exact J4 ho
    |succ i=>exact O3 hr i x v (by simpa using hx) (by simpa using hv)
def Ak(V:List Vs)(t:Int):Option Vs:=V.find? fun v=>decide (v.stamp<=t)
def told:Option Vs->BA×Bool
 |some ⟨_,some s⟩=>(s,true)
 |_=>(⟨#[]⟩,false)
theorem Fu(A B:List Vs)(t:Int):Ak (A++B) t=match Ak A t with|some v=>some v|none=>Ak B t:=by
 unfold Ak;rw[List.find?_append]
 cases List.find? (fun v=>decide (v.stamp<=t)) A<;>rfl
theorem F6{V:List Vs}(h:∀v∈V,t<v.stamp):Ak V t=none:=by
 unfold Ak;rw[List.find?_eq_none];intro v hv;have:=h v hv;simp;omega
abbrev Bc(a b:BA):Prop:=Op.bytesLess a.toList b.toList=true
theorem CW(a:BA):¬Bc a a:=by unfold Bc;rw[M.Ci];decide
theorem Ee{a b c:BA}(h:Bc a b)(k:Bc b c):Bc a c:=M.H8 h k
theorem Gl(a b:BA):Bc a b\/a=b\/Bc b a:=by
 rcases M.Ms a.toList b.toList with h|h|h
 .exact Or.inl h
 .exact Or.inr (Or.inl (M.EY h))
 .exact Or.inr (Or.inr h)
theorem Ev{a b:BA}(h:Bc a b):a≠b:=fun e=>by subst e;exact CW a h
theorem Iw{a b:BA}(h:Bc a b):¬Bc b a:=fun k=>CW a (Ee h k)
def Bef(p r:Rec):Prop:=Bc p.key r.key\/(p.key=r.key/\r.stamp<p.stamp)
theorem Bef.trans{a b c:Rec}(h:Bef a b)(k:Bef b c):Bef a c:=by
 rcases h with h|⟨h1,h2⟩
 .rcases k with k|⟨k1,_⟩
  .exact Or.inl (Ee h k)
  .exact Or.inl (k1▸h)
 .rcases k with k|⟨k1,k2⟩
  .exact Or.inl (h1▸k)
  .exact Or.inr ⟨h1.trans k1,by omega⟩
theorem gL(p r:Rec):p.wrong r=false↔Bef p r:=by
 unfold Rec.wrong Rec.less Rec.same Bef;rcases Gl p.key r.key with h|h|h
 .have h1:Op.bytesLess p.key.toList r.key.toList=true:=h;have h2:(p.key.toList==r.key.toList)=false:=by
   rw[zM9];intro e;exact Ev h (M.EY e)
  rw[h1,h2];simp;exact Or.inl h
 .have h1:Op.bytesLess p.key.toList r.key.toList=false:=by rw[h];exact M.Ci _
  have h2:(p.key.toList==r.key.toList)=true:=by rw[h];simp
  have h3:¬Bc p.key r.key:=by unfold Bc;rw[h1];decide
  rw[h1,h2];simp[h,CW]
 .have h1:Op.bytesLess p.key.toList r.key.toList=false:=by
   cases hc:Op.bytesLess p.key.toList r.key.toList with
   |false=>rfl
   |true=>exact absurd hc (Iw h)
  have h2:(p.key.toList==r.key.toList)=false:=by
   rw[zM9];intro e;exact Ev h (M.EY e).symm
  rw[h1,h2];simp only[Bool.or_false,Bool.not_false,Bool.true_or];refine⟨fun e=>(by cases e),fun e=>?_⟩;rcases e with e|⟨e,_⟩
  .exact absurd e (Iw h)
  .exact absurd e.symm (Ev h)
structure OkB(b:List Rec):Prop where
 some_:b≠[]
 few:b.length<=64
 fits:∀r∈b,r.fits=true
 ord:b.Pairwise Bef
theorem sV(hf:∀r∈b,r.fits=true)(ho:b.Pairwise Bef){k:Nat}(hr:b[k]?=some r):KN b k r=false:=by
 unfold KN;rw[hf r (zLR hr)];by_cases h0:0<k
 .have hk:k<b.length:=(zLI.1 hr).1;have hp:before b k r=b[k-1]:=by
   unfold before;rw[List.getD_eq_getElem?_getD,zLH (by omega)];rfl
  have hB:Bef b[k-1] b[k]:=zM3.1 ho (k-1) k (by omega) hk (by omega);have hr':r=b[k]:=by
   have:=zLI.1 hr;exact this.2.symm
  rw[hp,hr',(gL _ _).2 hB];simp
 .have:k=0:=by omega
  subst this;simp
theorem U6{b:List Rec}(hf:∀r∈b,r.fits=true)(ho:b.Pairwise Bef):∀k,k<=b.length->∃t,BM b k=some t
 |0,_=>⟨_,rfl⟩
 |k+1,h=>by
  obtain⟨t,ht⟩:=U6 hf ho k (by omega);have hr:b[k]?=some b[k]:=zLH (by omega);exact⟨_,Ot ht hr (sV hf ho hr)⟩
theorem OkB.text(h:OkB b):∃t,Ad b=some t:=by
 obtain⟨t,ht⟩:=U6 h.fits h.ord b.length (zLK _);exact⟨t,by unfold Ad;rw[if_neg (by have:=h.few;omega)];exact ht⟩
def BZ(k:BA)(R:List Rec):List Rec:=R.filter fun r=>decide (r.key=k)
theorem Da(k:BA)(A B:List Rec):BZ k (A++B)=BZ k A++BZ k B:=by simp[BZ]
theorem Cx:r∈BZ k R↔r∈R/\r.key=k:=by simp[BZ]
theorem EJ(h:∀r∈R,r.key≠k):BZ k R=[]:=by
 unfold BZ;rw[List.filter_eq_nil_iff];intro r hr;simpa using h r hr
theorem Vh(h:∀r∈R,r.key=k):BZ k R=R:=by
 unfold BZ;rw[List.filter_eq_self];intro r hr;simpa using h r hr
def Holds(ap:Ap):List (List Rec)->BA->List Vs->Prop
 |[],_,V=>V=[]
 |b::bs,k,V=>∃V1 V2,EF ap (BZ k b) V1/\Holds ap bs k V2/\V=V1++V2
theorem Holds.tells{ap:Ap}{k:BA}:∀{bs:List (List Rec)}{V:List Vs},Holds ap bs k V->EF ap (BZ k bs.flatten) V
 |[],V,h=>by
  have:V=[]:=h;subst this;exact EF.nil ap
 |b::bs,V,h=>by
  obtain⟨V1,V2,h1,h2,rfl⟩:=h;rw[zLz,Da];exact h1.append h2.tells
theorem Holds.append{ap:Ap}{k:BA}:∀{az bs:List (List Rec)}{V U:List Vs},Holds ap az k V->Holds ap bs k U->Holds ap (az++bs) k (V++U)
 |[],bs,V,U,h,g=>by
  have:V=[]:=h;subst this;exact g
 |a::az,bs,V,U,h,g=>by
  obtain⟨V1,V2,h1,h2,rfl⟩:=h;exact⟨V1,V2++U,h1,h2.append g,zLc _ _ _⟩
theorem Holds.split{ap:Ap}{k:BA}:∀{az bs:List (List Rec)}{V:List Vs},Holds ap (az++bs) k V->∃V1 V2,Holds ap az k V1/\Holds ap bs k V2/\V=V1++V2
 |[],bs,V,h=>⟨[],V,rfl,h,rfl⟩
 |a::az,bs,V,h=>by
  obtain⟨V1,V2,h1,h2,rfl⟩:=h;obtain⟨U1,U2,g1,g2,rfl⟩:=Holds.split h2;exact⟨V1++U1,U2,⟨V1,U1,h1,g1,rfl⟩,g2,(zLc _ _ _).symm⟩
theorem Holds.one{ap:Ap}{V:List Vs}(h:EF ap (BZ k b) V):Holds ap [b] k V:=⟨V,[],h,rfl,by simp⟩
abbrev XF(r:Rec)(k:BA)(t:Int):Prop:=Bc r.key k\/(r.key=k/\t<r.stamp)
theorem XF.tZ{p:Rec}(h:Bef p r)(g:XF r k t):XF p k t:=by
 rcases h with h|⟨h1,h2⟩
 .rcases g with g|⟨g1,_⟩
  .exact Or.inl (Ee h g)
  .exact Or.inl (g1▸h)
 .rcases g with g|⟨g1,g2⟩
  .exact Or.inl (h1▸g)
  .exact Or.inr ⟨h1.trans g1,by omega⟩
theorem YV{ap:Ap}{az:List (List Rec)}{V:List Vs}(Q9:((az++b::bs).flatten).Pairwise Bef)(hH:Holds ap (az++b::bs) k V)(ha:∀r∈az.flatten,XF r k t)(hb:∃r∈b,¬XF r k t):∃U,EF ap (BZ k b) U/\Ak V t=Ak U t:=by
 obtain⟨V1,V2,h1,h2,rfl⟩:=hH.split;obtain⟨U,U2,g1,g2,rfl⟩:=h2;refine⟨U,g1,?_⟩;have e1:Ak V1 t=none:=by
  refine F6 fun v hv=>?_;have hs:=h1.tells.stamps;have:v.stamp∈V1.map (·.stamp):=List.mem_map_of_mem hv;rw[hs,List.mem_map]at this;obtain⟨r,hr,he⟩:=this;rw[Cx]at hr;rcases ha r hr.1 with h|⟨_,h⟩
  .exact absurd hr.2 (Ev h)
  .omega
 rw[Fu,e1];simp only;rw[Fu]
 cases hU:Ak U t with
 |some v=>rfl
 |none =>
  simp only;refine F6 fun v hv=>?_;have hs:=g2.tells.stamps;have:v.stamp∈U2.map (·.stamp):=List.mem_map_of_mem hv;rw[hs,List.mem_map]at this;obtain⟨r,hr,he⟩:=this;rw[Cx]at hr;obtain⟨x,hx,hnx⟩:=hb;rw[List.flatten_append,zLh]at Q9;have uJ:=Q9.2.1;rw[zLz,zLh]at uJ;have hB:=uJ.2.2 x hx r hr.1;by_cases hxk:x.key=k
  .exfalso;have hnx2:x.stamp<=t:=by
    refine Int.not_lt.1 fun hlt=>hnx (Or.inr ⟨hxk,hlt⟩)
   (have hxm:x∈BZ k b:=Cx.2 ⟨hx,hxk⟩;have:x.stamp∈U.map (·.stamp):=by rw[g1.stamps];exact List.mem_map_of_mem hxm);rw[List.mem_map]at this;obtain⟨u,hu,hue⟩:=this;unfold Ak at hU;rw[List.find?_eq_none]at hU;have:=hU u hu;simp at this;omega
  .exfalso;rcases Gl x.key k with h|h|h
   .exact hnx (Or.inl h)
   .exact hxk h
   .rcases hB with hB|⟨hB,_⟩
    .rw[hr.2]at hB;exact Iw h hB
    .rw[hr.2]at hB;exact hxk hB
theorem dY{ap:Ap}{V:List Vs}(hH:Holds ap bs k V)(ha:∀r∈bs.flatten,XF r k t):Ak V t=none:=by
 refine F6 fun v hv=>?_;have hs:=hH.tells.stamps;have:v.stamp∈V.map (·.stamp):=List.mem_map_of_mem hv;rw[hs,List.mem_map]at this;obtain⟨r,hr,he⟩:=this;rw[Cx]at hr;rcases ha r hr.1 with h|⟨_,h⟩
 .exact absurd hr.2 (Ev h)
 .omega
abbrev Con:=BA->List Vs
def Con.put(C:Con)(k:BA)(V:List Vs):Con:=fun x=>if x=k then V else C x
structure Wri(ap:Ap)(bs:List (List Rec))(o:List Rec)(C:Con):Prop where
 holds:∀k,Holds ap (bs++[o]) k (C k)
 ord:((bs++[o]).flatten).Pairwise Bef
 fits:∀r∈(bs++[o]).flatten,r.fits=true
 few:o.length<=64
 blk:∀b∈bs,b≠[]/\b.length<=64
theorem Wri.start(ap:Ap):Wri ap [] [] (fun _=>[]):=
 ⟨fun _=>⟨[],[],EF.nil ap,rfl,rfl⟩,List.Pairwise.nil,fun _ h=>by simp at h,zLS _,fun _ h=>by simp at h⟩
def Based(ap:Ap)(o:List Rec)(k:BA)(based:Bool)(newer:BA):Prop:=∀n,∃U,run ap n (BZ k o)=some (U,if based then newer else n)
theorem Based.none{ap:Ap}(newer:BA)(h:∀r∈o,r.key≠k):Based ap o k false newer:=fun n=>⟨[],by rw[EJ h];rfl⟩
structure Wrote(ap:Ap)(based:Bool)(newer:BA)(r:Rec)(s:BA)(r':Rec):Prop where
 key:r'.key=r.key
 stamp:r'.stamp=r.stamp
 gone:r'.kind=2↔r.kind=2
 fits:r'.fits=true
 here:based=true->valOf ap r' newer=some s
 any:based=false->r.kind≠2->∀n,valOf ap r' n=some s
 none:based=false->r.kind=2->∀n,valOf ap r' n=some n
theorem TM{ap:Ap}(h:valOf ap r n=some s):run ap n [r]=some ([EH r s],s):=by
 simp[run,h]
theorem Based.push{ap:Ap}{based:Bool}{newer:BA}{r':Rec}(h:Based ap o k based newer)(hk:r.key=k)(hw:Wrote ap based newer r s r'):
  Based ap (o++[r']) k (based || decide (r.kind≠2)) s/\∀n,∃U e,run ap n (BZ k o)=some (U,e)/\run ap n (BZ k (o++[r']))=some (U++[EH r s],if(based || decide (r.kind≠2))=true then s else n):=by
 have hr':BZ k [r']=[r']:=Vh (fun x hx=>by simp at hx;subst hx;rw[hw.key,hk]);have key:∀n,∃U e,run ap n (BZ k o)=some (U,e)/\run ap n (BZ k (o++[r']))=some (U++[EH r s],if(based || decide (r.kind≠2))=true then s else n):=fun n=>by
  obtain⟨U,hU⟩:=h n;refine⟨U,_,hU,?_⟩;rw[Da,hr',GQ,hU];simp only;have hv:∀t,EH r' t=if r.kind=2 then EH r s else⟨r.stamp,some t⟩:=fun t=>by
   unfold EH;rw[hw.stamp];by_cases h2:r.kind=2
   .rw[if_pos (hw.gone.2 h2),if_pos h2,if_pos h2]
   .rw[if_neg (fun e=>h2 (hw.gone.1 e)),if_neg h2]
  have hvs:EH r' s=EH r s:=by
   rw[hv s];by_cases h2:r.kind=2
   .rw[if_pos h2]
   .rw[if_neg h2];unfold EH;rw[if_neg h2]
  cases based with
  |true =>
   have h1:=hw.here rfl;simp only[if_true,Bool.true_or];rw[TM h1,hvs]
  |false =>
   by_cases h2:r.kind=2
   .have h1:=hw.none rfl h2 n;simp only[zM8,if_false,Bool.false_or];rw[TM h1,hv n,if_pos h2];simp[h2]
   .have h1:=hw.any rfl h2 n;simp only[zM8,if_false,Bool.false_or];rw[TM h1,hvs];simp[h2]
 refine⟨fun n=>?_,key⟩;obtain⟨U,e,_,h2⟩:=key n;exact⟨_,h2⟩
theorem Wri.push{ap:Ap}{bs:List (List Rec)}{o:List Rec}{C:Con}(h:Wri ap bs o C){k:BA}{based:Bool}{newer s:BA}{r r':Rec}(hB:Based ap o k based newer)(hk:r.key=k)(hw:Wrote ap based newer r s r')(hl:o.length<64)(hbef:∀x∈(bs++[o]).flatten,Bef x r):Wri ap bs (o++[r']) (C.put k (C k++[EH r s])):=by
 have Nl:(bs++[o++[r']]).flatten=(bs++[o]).flatten++[r']:=by simp
 refine⟨fun x=>?_,?_,?_,by simp;omega,h.blk⟩
 .obtain⟨V1,V2,g1,g2,g3⟩:=(h.holds x).split;obtain⟨U1,U2,f1,f2,f3⟩:=g2;have f2':U2=[]:=f2;subst f2';rw[zLw]at f3;subst f3;unfold Con.put;by_cases hx:x=k
  .subst hx;rw[if_pos rfl,g3,zLc];refine g1.append (Holds.one fun n=>?_);obtain⟨U,e,e1,e2⟩:=(hB.push hk hw).2 n;obtain⟨e',he'⟩:=f1 n;rw[he']at e1;injection e1 with e1;injection e1 with e1 _;subst e1;exact⟨_,e2⟩
  .rw[if_neg hx,g3];refine g1.append (Holds.one ?_);have:BZ x [r']=[]:=EJ (fun y hy=>by simp at hy;subst hy;rw[hw.key,hk];exact fun e=>hx e.symm);rw[Da,this,zLw];exact f1
 .rw[Nl,zLh];refine⟨h.ord,by simp,fun x hx y hy=>?_⟩;simp only[List.mem_singleton]at hy;subst hy;have:=hbef x hx;unfold Bef at*;rw[hw.key,hw.stamp];exact this
 .intro x hx;rw[Nl,zMD]at hx;rcases hx with hx|hx
  .exact h.fits x hx
  .simp only[List.mem_singleton]at hx;subst hx;exact hw.fits
theorem Wri.cut{ap:Ap}{C:Con}(h:Wri ap bs o C)(ho:o≠[]):Wri ap (bs++[o]) [] C:=by
 have Nl:(bs++[o]++[([]:List Rec)]).flatten=(bs++[o]).flatten:=by simp
 refine⟨fun k=>?_,by rw[Nl];exact h.ord,by rw[Nl];exact h.fits,zLS _,fun b hb=>?_⟩
 .have:=(h.holds k).append (Holds.one (EF.nil ap):Holds ap [[]] k []);rw[zLw]at this;exact this
 .rw[zMD]at hb;rcases hb with hb|hb
  .exact h.blk b hb
  .simp only[List.mem_singleton]at hb;subst hb;exact⟨ho,h.few⟩
theorem Wri.okB{ap:Ap}{C:Con}(h:Wri ap bs o C)(ho:o≠[]):OkB o:=by
 refine⟨ho,h.few,fun r hr=>h.fits r (by simp;exact Or.inr hr),?_⟩;have:=h.ord;rw[List.flatten_append,zLh]at this;simpa using this.2.1
structure Fil(ap:Ap)(bs:List (List Rec))(C:Con):Prop where
 holds:∀k,Holds ap bs k (C k)
 ord:(bs.flatten).Pairwise Bef
 ok:∀b∈bs,OkB b
theorem Wri.fil{ap:Ap}{C:Con}(h:Wri ap bs [] C):Fil ap bs C:=by
 have Nl:(bs++[([]:List Rec)]).flatten=bs.flatten:=by simp
 have Q9:(bs.flatten).Pairwise Bef:=by rw[<-Nl];exact h.ord
 refine⟨fun k=>?_,Q9,fun b hb=>⟨(h.blk b hb).1,(h.blk b hb).2,fun r hr=>h.fits r (by rw[Nl];exact List.mem_flatten.2 ⟨b,hb,hr⟩),?_⟩⟩
 .obtain⟨V1,V2,g1,g2,g3⟩:=(h.holds k).split;obtain⟨U1,U2,f1,f2,f3⟩:=g2;have e1:U1=[]:=(EF.inj f1 (EF.nil ap));have e2:U2=[]:=f2;subst e1 e2;have:V2=[]:=f3;subst this;rw[g3,zLw];exact g1
 .rw[List.pairwise_flatten]at Q9;exact Q9.1 b hb
theorem Fil.none(ap:Ap):Fil ap [] (fun _=>[]):=⟨fun _=>rfl,List.Pairwise.nil,fun _ h=>by simp at h⟩
theorem Fil.keys{ap:Ap}{C:Con}(h:Fil ap bs C)(k:BA):C k=[]↔∀r∈bs.flatten,r.key≠k:=by
 have ht:=(h.holds k).tells;constructor
 .intro e r hr hk;have hl:=ht.length;rw[e]at hl;have:BZ k bs.flatten=[]:=zLN hl.symm;have hm:r∈BZ k bs.flatten:=Cx.2 ⟨hr,hk⟩;rw[this]at hm;simp at hm
 .intro e;rw[EJ e]at ht;exact EF.inj ht (EF.nil ap)
theorem Fil.stamps{ap:Ap}{bs:List (List Rec)}{C:Con}(h:Fil ap bs C)(k:BA):(C k).map (·.stamp)=(BZ k bs.flatten).map (·.stamp):=(h.holds k).tells.stamps
theorem Fil.falling{ap:Ap}{C:Con}(h:Fil ap bs C)(k:BA):(C k).Pairwise fun a b=>b.stamp<a.stamp:=by
 have hp:(BZ k bs.flatten).Pairwise Bef:=h.ord.sublist List.filter_sublist;have hp2:((BZ k bs.flatten).map (·.stamp)).Pairwise fun a b=>b<a:=by
  rw[List.pairwise_map];refine List.Pairwise.imp_of_mem (fun{x y}hx hy hb=>?_) hp;rcases hb with hb|hb
  .rw[(Cx.1 hx).2,(Cx.1 hy).2]at hb;exact absurd hb (CW _)
  .exact hb.2
 rw[<-h.stamps k,List.pairwise_map]at hp2;exact hp2
theorem TJ{ap:Ap}:∀{R:List Rec}{n e:BA}{V:List Vs}(j:Nat),run ap n R=some (V,e)->∃f,run ap n (R.take j)=some (V.take j,f)
 |[],n,e,V,j,h=>by
  simp only[run,zLO,Prod.mk.injEq]at h;obtain⟨rfl,_⟩:=h;exact⟨n,by simp[run]⟩
 |r::R,n,e,V,0,h=>⟨n,by simp[run]⟩
 |r::R,n,e,V,j+1,h=>by
  simp only[run]at h
  cases ho:valOf ap r n with
  |none=>rw[ho]at h;cases h
  |some s =>
   rw[ho]at h;simp only at h
   cases hr:run ap s R with
   |none=>rw[hr]at h;cases h
   |some p =>
    obtain⟨l,f⟩:=p;rw[hr]at h;simp only[zLO,Prod.mk.injEq]at h;obtain⟨rfl,_⟩:=h;obtain⟨f',hf'⟩:=TJ j hr;exact⟨f',by simp only[List.take_succ_cons,run,ho,hf']⟩
theorem EF.take{ap:Ap}{R:List Rec}{V:List Vs}(h:EF ap R V)(j:Nat):EF ap (R.take j) (V.take j):=fun n=>by
 obtain⟨e,he⟩:=h n;exact TJ j he
def needs(wm:Int):List Vs->Nat
 |[]=>0
 |v::l=>if wm<v.stamp then needs wm l+1 else if v.val=none then 0 else 1
def Aj(b:List Rec):List UInt8:=M.sealed ((Ad b).getD [])
def zEC:Rec:=⟨⟨#[]⟩,0,0,⟨#[]⟩⟩
def BJ(b:List Rec):Rec:=b.getLast?.getD zEC
def Dv(b:List Rec):List UInt8:=M.enc 7 (Aj b).length++(M.enc 7 (BJ b).key.size++((BJ b).key.data.toList++M.enc 7 (BJ b).stamp.toNat))
def idxOf(bs:List (List Rec)):List UInt8:=(bs.map Dv).flatten
def Aw(bs:List (List Rec)):List UInt8:=(bs.map Aj).flatten
def Af(bs:List (List Rec))(wm:Int):List UInt8:=M.enc 7 (wm+1).toNat++idxOf bs
def Eh(t:List UInt8):List UInt8:=M.sealed t++M.sealed (M.enc 7 (2097152+(M.sealed t).length))
def Aa(bs:List (List Rec))(wm:Int):List UInt8:=Aw bs++Eh (Af bs wm)
structure Ent where
 lo:Nat
 hi:Nat
 key:BA
 stamp:Nat
def Yd(T:List UInt8)(nb a at_:Nat):Ent×Nat:=
 match CG T nb a with
 |(v,a1)=>match CG T 64 a1 with
 |(m,a2)=>match Ho T m a2 with
 |(t,a3)=>match CG T 1099511627776 a3 with
 |(st,a4)=>(⟨at_,at_+v,⟨t.toArray⟩,st⟩,a4)
def SF(T:List UInt8)(nb a:Nat):Bool:=
 JD T nb a || (JD T 64 (CG T nb a).2 || (Sb T (CG T 64 (CG T nb a).2).1 (CG T 64 (CG T nb a).2).2 || JD T 1099511627776 (Ho T (CG T 64 (CG T nb a).2).1 (CG T 64 (CG T nb a).2).2).2))
def Jm(T:List UInt8)(nb:Nat):Nat->Nat->Nat->Bool->List Ent->List Ent×Nat×Bool
 |0,_,at_,bad,l=>(l,at_,bad)
 |f+1,a,at_,bad,l =>
  if a<T.length then Jm T nb f (Yd T nb a at_).2 (Yd T nb a at_).1.hi (bad || SF T nb a) (l++[(Yd T nb a at_).1])
  else(l,at_,bad)
theorem Rp(h:a<T.length):a<(CG T most a).2/\(CG T most a).2<=T.length/\(CG T most a).1<=most:=by
 have h1:=Cw (T:=T) (most:=most) (a:=a) (by omega);refine⟨?_,h1.1,h1.2.1⟩;unfold CG
 cases hg:M.Cb T a with
 |none=>exact h
 |some p =>
  obtain⟨v,nx⟩:=p;have:=M.Bu hg;simp only;split
  .exact h
  .exact this.2.1
theorem Rq(h:a<=T.length):a<=(CG T most a).2:=by
 by_cases hl:a<T.length
 .exact Nat.le_of_lt (Rp hl).1
 .have:a=T.length:=by omega
  unfold CG
  cases hg:M.Cb T a with
  |none=>exact h
  |some p =>
   obtain⟨v,nx⟩:=p;have:=M.Bu hg;omega
theorem fA{n:Nat}(h:a<=T.length):a<=(Ho T n a).2:=by
 unfold Ho;split
 .exact h
 .exact Nat.le_add_right _ _
def Row:Nat->List Ent->Nat->Prop
 |a,[],b=>a=b
 |a,e::l,b=>e.lo=a/\a<=e.hi/\Row e.hi l b
theorem Row.snoc{e:Ent}:∀{l:List Ent}{a:Nat},Row a l e.lo->e.lo<=e.hi->Row a (l++[e]) e.hi
 |[],a,h,h2=>by
  have:a=e.lo:=h;exact⟨this.symm,by omega,rfl⟩
 |x::l,a,h,h2=>⟨h.1,h.2.1,Row.snoc h.2.2 h2⟩
theorem Row.le:∀{l:List Ent}{a b:Nat},Row a l b->a<=b
 |[],a,b,h=>by
  have:a=b:=h;omega
 |e::l,a,b,h=>zLV h.2.1 h.2.2.le
theorem Row.at:∀{l:List Ent}{a b i:Nat}{e:Ent},Row a l b->l[i]?=some e->a<=e.lo/\e.lo<=e.hi/\e.hi<=b
 |[],a,b,i,e,h,hi=>by simp at hi
 |x::l,a,b,0,e,h,hi=>by
  simp only[zLY,zLO]at hi;subst hi;exact⟨by have:=h.1;omega,by have:=h.1;have:=h.2.1;omega,h.2.2.le⟩
 |x::l,a,b,i+1,e,h,hi=>by
  have:=Row.at h.2.2 (i:=i) (e:=e) (by simpa using hi);exact⟨zLV h.2.1 this.1,this.2⟩
def RG(at_:Nat)(b:List Rec):Ent:=⟨at_,at_+(Aj b).length,(BJ b).key,(BJ b).stamp.toNat⟩
def CR:Nat->List (List Rec)->List Ent
 |_,[]=>[]
 |at_,b::bs=>RG at_ b::CR (at_+(Aj b).length) bs
theorem Cz:∀(at_:Nat)(bs:List (List Rec)),(CR at_ bs).length=bs.length
 |_,[]=>rfl
 |at_,b::bs=>by simp[CR,Cz _ bs]
theorem QU:∀{bs:List (List Rec)}{at_ i:Nat}{b:List Rec},bs[i]?=some b->∃p,(CR at_ bs)[i]?=some (RG p b)/\p=at_+(Aw (bs.take i)).length
 |[],at_,i,b,h=>by simp at h
 |x::bs,at_,0,b,h=>by
  simp only[zLY,zLO]at h;subst h;exact⟨at_,rfl,by simp[Aw]⟩
 |x::bs,at_,i+1,b,h=>by
  obtain⟨p,h1,h2⟩:=QU (bs:=bs) (at_:=at_+(Aj x).length) (i:=i) (b:=b) (by simpa using h);refine⟨p,by simpa[CR]using h1,?_⟩;rw[h2];simp only[List.take_succ_cons,Aw,zLx,zLz,zLL];omega
theorem G9(az bs:List (List Rec)):Aw (az++bs)=Aw az++Aw bs:=by simp[Aw]
theorem Wt(b:List Rec):Aw [b]=Aj b:=by simp[Aw]
theorem mE{i:Nat}(h:bs[i]?=some b):((Aw bs).drop (Aw (bs.take i)).length).take (Aj b).length=Aj b:=by
 have hi:i<bs.length:=(zLI.1 h).1;have hb:bs[i]=b:=(zLI.1 h).2;have e:bs=bs.take i++b::bs.drop (i+1):=by rw[<-hb,List.getElem_cons_drop,zLq]
 have e2:Aw bs=Aw (bs.take i)++(Aj b++Aw (bs.drop (i+1))):=by
  have:=congrArg Aw e;rw[G9]at this;rw[this];simp[Aw]
 rw[e2,List.drop_left,List.take_left]
theorem Hw(h:Sits T a (l++m)):Sits T a l:=(Bq h).1
theorem Fx(h:Sits T a (l++m)):Sits T (a+l.length) m:=(Bq h).2
theorem EC(h:b≠[]):BJ b∈b:=by
 unfold BJ
 cases hb:b.getLast? with
 |none=>exact absurd (List.getLast?_eq_none_iff.1 hb) h
 |some r=>exact List.mem_of_getLast? hb
theorem dx{nb at_:Nat}(hb:OkB b)(hn:(Aj b).length<=nb)(hnb:nb<72057594037927936)(h:Sits T a (Dv b)):
  Yd T nb a at_=(RG at_ b,a+(Dv b).length)/\SF T nb a=false:=by
 have hf:=hb.fits _ (EC hb.some_);simp only[Rec.fits,zMF]at hf;obtain⟨f1,f2,f3,f4,f5,f6,f7⟩:=hf;unfold Dv at h;have s1:=Hw h;have s2:=Hw (Fx h);have s3:=Hw (Fx (Fx h));have s4:=Fx (Fx (Fx h));have hk:(BJ b).key.data.toList.length=(BJ b).key.size:=by simp
 have e1:=Cg (most:=nb) s1 (by omega) hn;have e2:=Cg (most:=64) s2 (by omega) f2;have e3:=NH s3;rw[hk]at e3;have e4:=Cg (most:=1099511627776) s4 (by omega) (by omega);have g1:=Io (most:=nb) s1 (by omega) hn;have g2:=Io (most:=64) s2 (by omega) f2;have g3:=Yq s3;rw[hk]at g3;have g4:=Io (most:=1099511627776) s4 (by omega) (by omega);constructor
 .rw[hk]at e4;unfold Yd;simp only[e1,e2,e3,e4];unfold RG Dv;simp only[zLL,hk];congr 1;omega
 .unfold SF;rw[hk]at g4;simp only[e1,e2,e3,g1,g2,g3,g4,Bool.or_self]
theorem QT{T:List UInt8}{nb:Nat}(hnb:nb<72057594037927936):∀(bs:List (List Rec))(f a at_:Nat)(l:List Ent),(∀b∈bs,OkB b)->at_+(Aw bs).length<=nb->Sits T a (idxOf bs)->a+(idxOf bs).length=T.length->(idxOf bs).length<=f ->
  Jm T nb f a at_ false l=(l++CR at_ bs,at_+(Aw bs).length,false)
 |[],f,a,at_,l,_,_,_,h3,_=>by
  have h3':a=T.length:=by simpa[idxOf]using h3
  cases f with
  |zero=>simp[Jm,CR,Aw]
  |succ f =>
   unfold Jm;rw[if_neg (by omega)];simp[CR,Aw]
 |b::bs,f,a,at_,l,hok,h1,h2,h3,h4=>by
  have hb:=hok b (by simp);have e0:idxOf (b::bs)=Dv b++idxOf bs:=by simp[idxOf]
  have e0':Aw (b::bs)=Aj b++Aw bs:=by simp[Aw]
  rw[e0]at h2 h3 h4;rw[e0']at h1;rw[zLL]at h1 h3 h4;have hpos:0<(Dv b).length:=by
   unfold Dv;rw[zLL];have:=M.ER 7 (Aj b).length;omega
  cases f with
  |zero=>omega
  |succ f =>
   obtain⟨g1,g2⟩:=dx (at_:=at_) hb (by omega) hnb (Hw h2);unfold Jm;rw[if_pos (by omega),g1,g2];simp only[Bool.or_self];rw[QT hnb bs f (a+(Dv b).length) (RG at_ b).hi _ (fun x hx=>hok x (by simp[hx])) (by unfold RG;simp only;omega) (Fx h2) (by omega) (by omega)];rw[e0',zLL];simp only[CR,RG,zLc,List.singleton_append,Prod.mk.injEq,and_true,true_and];omega
structure Lay where
 wm:Int
 blocks:List UInt8
 IV:List Ent
def FU(blocks T:List UInt8):Option Lay:=
 match CG T 1099511627777 0,Jm T blocks.length T.length (CG T 1099511627777 0).2 0 (JD T 1099511627777 0) []with
 |(v,_),(l,at_,bad)=>if bad=true\/at_≠blocks.length then none else some ⟨(v:Int)-1,blocks,l⟩
theorem Nc(hok:∀b∈bs,OkB b)(hw:-1<=wm)(hw2:wm<=1099511627776)(hnb:(Aw bs).length<72057594037927936):FU (Aw bs) (Af bs wm)=some ⟨wm,Aw bs,CR 0 bs⟩:=by
 unfold FU Af;have s:Sits (M.enc 7 (wm+1).toNat++idxOf bs) 0 (M.enc 7 (wm+1).toNat++idxOf bs):=⟨[],[],by simp,rfl⟩;have e1:=Cg (most:=1099511627777) (Hw s) (by omega) (by omega);have e2:=Io (most:=1099511627777) (Hw s) (by omega) (by omega);rw[e1,e2];simp only;have h0:0<(M.enc 7 (wm+1).toNat).length:=M.ER 7 _;rw[QT hnb bs _ _ 0 [] hok (by omega) (Fx s) (by simp) (by simp)];simp;omega
def Gp(T:List UInt8)(n:Int):Option (List UInt8×List UInt8):=
 if n<4\/(T.length:Int)<n then none
 else if(T.drop (T.length-4))=M.le4 (M.sum ((T.drop (T.length-n.toNat)).take (n.toNat-4)))then some (T.take (T.length-n.toNat),(T.drop (T.length-n.toNat)).take (n.toNat-4))else none
theorem Ez(A t:List UInt8):Gp (A++M.sealed t) ((M.sealed t).length:Nat)=some (A,t):=by
 have hl:=M.Ar t;unfold Gp;have h4:(M.le4 (M.sum t)).length=4:=rfl;have e1:(A++M.sealed t).length-(M.sealed t).length=A.length:=by rw[zLL];omega
 have e2:(A++M.sealed t).drop ((A++M.sealed t).length-4)=M.le4 (M.sum t):=by
  have:(A++M.sealed t).length-4=(A++t).length:=by rw[zLL,zLL,hl];omega
  rw[this];unfold M.sealed;rw[<-zLc,List.drop_left]
 rw[if_neg (by rw[zLL];omega),zLp,e1,e2,List.drop_left,List.take_left];have e3:(M.sealed t).take ((M.sealed t).length-4)=t:=by
  rw[hl,zM7];unfold M.sealed;rw[List.take_left]
 rw[e3,if_pos rfl]
def readFile(T:List UInt8):Option Lay:=
 match Gp T 8 with
 |none=>none
 |some (A,foot) =>
  match Gp A (((CG foot 72057594037927935 0).1:Int)-2097152)with
  |none=>none
  |some (blocks,idx)=>FU blocks idx
theorem enc4(n:Nat)(h1:2097152<=n)(h2:n<268435456):(M.enc 7 n).length=4:=by
 unfold M.enc M.enc M.enc M.enc;rw[if_neg (by omega),if_neg (by omega),if_neg (by omega),if_pos (by omega)];rfl
theorem TP(hok:∀b∈bs,OkB b)(hw:-1<=wm)(hw2:wm<=1099511627776)(hs:(Aa bs wm).length<=1048576):readFile (Aa bs wm)=some ⟨wm,Aw bs,CR 0 bs⟩:=by
 have hl:(Aa bs wm).length=(Aw bs).length+(Eh (Af bs wm)).length:=by unfold Aa;rw[zLL]
 have hle:(Eh (Af bs wm)).length=(M.sealed (Af bs wm)).length+(M.sealed (M.enc 7 (2097152+(M.sealed (Af bs wm)).length))).length:=by unfold Eh;rw[zLL]
 have h8:(M.sealed (M.enc 7 (2097152+(M.sealed (Af bs wm)).length))).length=8:=by rw[M.Ar,enc4 _ (by omega) (by omega)]
 have e:Aa bs wm=(Aw bs++M.sealed (Af bs wm))++M.sealed (M.enc 7 (2097152+(M.sealed (Af bs wm)).length)):=by unfold Aa Eh;rw[zLc]
 have c1:=Ez (Aw bs++M.sealed (Af bs wm)) (M.enc 7 (2097152+(M.sealed (Af bs wm)).length));rw[h8,<-e]at c1;have s:Sits (M.enc 7 (2097152+(M.sealed (Af bs wm)).length)) 0 (M.enc 7 (2097152+(M.sealed (Af bs wm)).length)):=⟨[],[],by simp,rfl⟩;have e1:=Cg (most:=72057594037927935) s (by omega) (by omega);unfold readFile;rw[show((8:Nat):Int)=8 from rfl]at c1;rw[c1];simp only;rw[e1];simp only;rw[show((2097152+(M.sealed (Af bs wm)).length:Nat):Int)-2097152=((M.sealed (Af bs wm)).length:Nat) by omega,Ez];simp only;exact Nc hok hw hw2 (by omega)
end S
section
def opened(T R:ByteArray):Ending:=
 if R.data.toList=M.le4 (M.sum T.data.toList)then .returned (.tuple #[.string T,.int .i64 0])
 else .returned (.tuple #[.string ⟨#[]⟩,.int .i64 3])
theorem iL(T R:ByteArray)(h:R.data.toList=M.le4 (M.sum T.data.toList)):(⟨(M.sealed T.data.toList).toArray⟩:ByteArray)=T++R:=by
 unfold M.sealed;rw[<-h,<-ByteArray.mk_append_mk]
end
namespace S
variable{F b:List Rec}{U V l r:List BA}{bs:List (List Rec)}{k:BA}{wm:Int}
def low:List BA->List BA->BA
 |[],[]=>⟨#[]⟩
 |a::_,[]=>a
 |[],b::_=>b
 |a::_,b::_=>if Bc a b then a else b
def beh(l:List BA)(k:BA):List BA:=
 match l with
 |[]=>[]
 |a::t=>if a=k then t else a::t
def uni:Nat->List BA->List BA->List BA
 |0,_,_=>[]
 |n+1,l,r=>if l=[]/\r=[]then[]else low l r::uni n (beh l (low l r)) (beh r (low l r))
theorem Fv(a:BA)(t:List BA):beh (a::t) a=t:=by simp[beh]
theorem mK{a:BA}(h:a≠k)(t:List BA):beh (a::t) k=a::t:=by simp[beh,h]
theorem UY(k:BA):beh [] k=[]:=rfl
theorem Sg(l:List BA)(k:BA):(beh l k).length<=l.length:=by
 cases l with
 |nil=>simp[beh]
 |cons a t=>unfold beh;simp only;split<;>simp
theorem mJ(l:List BA)(k:BA):(beh l k).Sublist l:=by
 cases l with
 |nil=>simp[beh]
 |cons a t =>
  unfold beh;simp only;split
  .exact List.sublist_cons_self ..
  .exact List.Sublist.refl _
theorem UZ(h:¬(l=[]/\r=[])):(beh l (low l r)).length+(beh r (low l r)).length<l.length+r.length:=by
 have hl:=Sg l (low l r);have hr:=Sg r (low l r)
 cases l with
 |nil=>cases r with
  |nil=>exact absurd ⟨rfl,rfl⟩ h
  |cons b u=>simp[low,Fv,UY]
 |cons a t=>cases r with
  |nil=>simp[low,Fv,UY]
  |cons b u =>
   unfold low at hl hr⊢;simp only at hl hr⊢;split
   .rename_i hk;rw[if_pos hk]at hr;rw[Fv];simp only[zLQ]at hr⊢;omega
   .rename_i hk;rw[if_neg hk]at hl;rw[Fv];simp only[zLQ]at hl⊢;omega
theorem yQ(hl:l.Pairwise Bc)(hr:r.Pairwise Bc)(h:¬(l=[]/\r=[])):
  (∀x,x∈l\/x∈r↔x=low l r\/x∈beh l (low l r)\/x∈beh r (low l r))/\(∀x,x∈beh l (low l r)\/x∈beh r (low l r)->Bc (low l r) x):=by
 cases l with
 |nil=>cases r with
  |nil=>exact absurd ⟨rfl,rfl⟩ h
  |cons b u =>
   have hp:=zM5.1 hr;simp only[low,Fv,UY,List.not_mem_nil,false_or,zME];exact⟨fun x=>trivial,fun x hx=>hp.1 x hx⟩
 |cons a t=>cases r with
  |nil =>
   have hp:=zM5.1 hl;simp only[low,Fv,UY,List.not_mem_nil,or_false,zME];exact⟨fun x=>trivial,fun x hx=>hp.1 x hx⟩
  |cons b u =>
   have hp:=zM5.1 hl;have hq:=zM5.1 hr;unfold low;simp only;split
   .rename_i hk;rw[Fv,mK (Ev hk).symm];simp only[zME];refine⟨fun x=>?_,fun x hx=>?_⟩
    .constructor
     .rintro((h1|h1)|h1)
      .exact Or.inl h1
      .exact Or.inr (Or.inl h1)
      .exact Or.inr (Or.inr h1)
     .rintro(h1|h1|h1)
      .exact Or.inl (Or.inl h1)
      .exact Or.inl (Or.inr h1)
      .exact Or.inr h1
    .rcases hx with hx|hx|hx
     .exact hp.1 x hx
     .rw[hx];exact hk
     .exact Ee hk (hq.1 x hx)
   .rename_i hk;rw[Fv];by_cases hab:a=b
    .subst hab;rw[Fv];simp only[zME];refine⟨fun x=>?_,fun x hx=>hx.elim (hp.1 x) (hq.1 x)⟩;constructor
     .rintro((h1|h1)|(h1|h1))
      .exact Or.inl h1
      .exact Or.inr (Or.inl h1)
      .exact Or.inl h1
      .exact Or.inr (Or.inr h1)
     .rintro(h1|h1|h1)
      .exact Or.inl (Or.inl h1)
      .exact Or.inl (Or.inr h1)
      .exact Or.inr (Or.inr h1)
    .have hba:Bc b a:=by
      rcases Gl a b with h1|h1|h1
      .exact absurd h1 hk
      .exact absurd h1 hab
      .exact h1
     rw[mK hab];simp only[zME];refine⟨fun x=>?_,fun x hx=>?_⟩
     .constructor
      .rintro((h1|h1)|(h1|h1))
       .exact Or.inr (Or.inl (Or.inl h1))
       .exact Or.inr (Or.inl (Or.inr h1))
       .exact Or.inl h1
       .exact Or.inr (Or.inr h1)
      .rintro(h1|(h1|h1)|h1)
       .exact Or.inr (Or.inl h1)
       .exact Or.inl (Or.inl h1)
       .exact Or.inl (Or.inr h1)
       .exact Or.inr (Or.inr h1)
     .rcases hx with(hx|hx)|hx
      .rw[hx];exact hba
      .exact Ee hba (hp.1 x hx)
      .exact hq.1 x hx
theorem gX:∀(n:Nat){l r:List BA},l.Pairwise Bc->r.Pairwise Bc->l.length+r.length<=n->(uni n l r).Pairwise Bc/\∀x,x∈uni n l r↔x∈l\/x∈r
 |0,l,r,hl,hr,hn=>by
  have e1:l=[]:=zLN (by omega);have e2:r=[]:=zLN (by omega);subst e1 e2;simp[uni]
 |n+1,l,r,hl,hr,hn=>by
  unfold uni;by_cases h:l=[]/\r=[]
  .rw[if_pos h,h.1,h.2];simp
  .rw[if_neg h];have hless:=UZ h;obtain⟨h1,h2⟩:=yQ hl hr h;obtain⟨g1,g2⟩:=gX n (hl.sublist (mJ l (low l r))) (hr.sublist (mJ r (low l r))) (by omega);refine⟨zM5.2 ⟨fun x hx=>h2 x ((g2 x).1 hx),g1⟩,fun x=>?_⟩;rw[zME,g2 x,h1 x]
def inK(V:List BA)(k:BA):Bool:=V.any fun x=>decide (x=k)
theorem Ew:inK V k=true↔k∈V:=by
 unfold inK;rw[List.any_eq_true];exact⟨fun⟨x,h1,h2⟩=>(of_decide_eq_true h2)▸h1,fun h=>⟨k,h,by simp⟩⟩
theorem Ry(h:k∉V):inK V k=false:=by
 cases hb:inK V k with
 |false=>rfl
 |true=>exact absurd (Ew.1 hb) h
theorem Pf{k:BA}{V:List BA}(hk:∀v∈V,Bc k v):∀{F:List Rec},F.Pairwise Bef->F.filter (fun r=>inK (k::V) r.key)=BZ k F++F.filter (fun r=>inK V r.key)
 |[],_=>rfl
 |r::F,h=>by
  have hp:=zM5.1 h;have ih:=Pf hk hp.2;by_cases h1:r.key=k
  .have h2:r.key∉V:=fun hv=>CW k (by have:=hk _ hv;rw[h1]at this;exact this);have e1:inK (k::V) r.key=true:=Ew.2 (by simp[h1]);have e2:inK V r.key=false:=Ry h2;have e3:BZ k (r::F)=r::BZ k F:=by simp[BZ,h1]
   rw[List.filter_cons_of_pos (by exact e1),List.filter_cons_of_neg (by simp[e2]),ih,e3,zLd]
  .have e3:BZ k (r::F)=BZ k F:=by simp[BZ,h1]
   by_cases h2:r.key∈V
   ·
    have hno:BZ k F=[]:=EJ fun x hx e=>by
     rcases hp.1 x hx with hb|hb
     .exact Iw (hk _ h2) (by rw[e]at hb;exact hb)
     .exact h1 (by rw[hb.1,e])
    have e1:inK (k::V) r.key=true:=Ew.2 (List.mem_cons_of_mem _ h2);have e2:inK V r.key=true:=Ew.2 h2;rw[List.filter_cons_of_pos (by exact e1),List.filter_cons_of_pos (by exact e2),ih,e3,hno];rfl
   .rw[List.filter_cons_of_neg (by rw[Ry (by simp[h1,h2])];simp),List.filter_cons_of_neg (by rw[Ry h2];simp),ih,e3]
def KR(F:List Rec)(U:List BA)(i:Nat):List Rec:=F.filter fun r=>inK (U.drop i) r.key
theorem Xg(h:∀r∈F,r.key∈U):KR F U 0=F:=by
 unfold KR;rw[List.drop_zero,List.filter_eq_self];exact fun r hr=>Ew.2 (h r hr)
theorem Xh(hF:F.Pairwise Bef)(hU:U.Pairwise Bc){i:Nat}(hk:U[i]?=some k):KR F U i=BZ k F++KR F U (i+1)/\∀r∈KR F U (i+1),r.key≠k:=by
 obtain⟨hi,he⟩:=zLI.1 hk;have hd:U.drop i=k::U.drop (i+1):=by rw[<-he,List.drop_eq_getElem_cons hi]
 have hp:(U.drop i).Pairwise Bc:=hU.sublist (List.drop_sublist ..);rw[hd]at hp;have hp':=zM5.1 hp;refine⟨?_,fun r hr e=>?_⟩
 .unfold KR;rw[hd];exact Pf hp'.1 hF
 .unfold KR at hr;rw[List.mem_filter]at hr;have:=Ew.1 hr.2;exact CW k (by have h:=hp'.1 _ this;rw[e]at h;exact h)
def Gw(rs:List Rec):List Vs:=rs.reverse.map fun r=>⟨r.stamp,if r.kind=2 then none else some r.body⟩
structure yU(k:BA)(r:Rec):Prop where
 key:r.key=k
 fits:r.fits=true
 kind:r.kind=0\/(r.kind=2/\r.body.size=0)
 size:r.body.size<=4096
theorem yU.val{ap:Ap}{r:Rec}(h:yU k r)(n:BA):∃s,valOf ap r n=some s/\EH r s=⟨r.stamp,if r.kind=2 then none else some r.body⟩:=by
 rcases h.kind with h0|⟨h2,hb⟩
 .refine⟨r.body,by unfold valOf;rw[if_pos h0,if_pos h.size],by unfold EH;rw[if_neg (by omega)]⟩
 .refine⟨n,by unfold valOf;rw[if_neg (by omega),if_pos h2,if_pos hb],by unfold EH;rw[if_pos h2,if_pos h2]⟩
theorem Rn{ap:Ap}{k:BA}:∀{R:List Rec},(∀r∈R,yU k r)->EF ap R (R.map fun r=>⟨r.stamp,if r.kind=2 then none else some r.body⟩)
 |[],_=>EF.nil ap
 |r::R,h=>fun n=>by
  obtain⟨s,h1,h2⟩:=(h r (by simp)).val (ap:=ap) n;obtain⟨e,he⟩:=Rn (ap:=ap) (R:=R) (fun x hx=>h x (List.mem_cons_of_mem _ hx)) s;exact⟨e,by simp only[run,h1,he,h2,zLx]⟩
theorem IW:∀(f j n:Nat),n<128^(j+1)->(M.enc f n).length<=j+1
 |0,j,n,_=>by simp[M.enc]
 |f+1,j,n,h=>by
  simp only[M.enc];split
  .simp
  .rename_i hn
   cases j with
   |zero=>simp at h;omega
   |succ j =>
    have h2:n/128<128^(j+1):=by
     rw[Nat.div_lt_iff_lt_mul (by omega)];rw[Nat.pow_succ]at h;exact h
    have:=IW f j (n/128) h2;simp;omega
theorem rq(rs:List Rec)(k:Nat)(r:Rec)(h:r.fits=true):(entry rs k r).length<=11+r.key.size+r.body.size:=by
 simp only[Rec.fits,zMF]at h;have hs:=Ik rs k r;have h1:=IW 7 0 (Av rs k r) (by omega);have h2:=IW 7 0 (r.key.size-Av rs k r) (by omega);have h3:=IW 7 5 r.stamp.toNat (by have:=h.2.2.2.2.1;have:(128:Nat)^(5+1)=4398046511104:=(by decide);omega);have h4:=IW 7 1 r.body.size (by have:(128:Nat)^(1+1)=16384:=(by decide);omega);have h5:(r.key.data.toList.drop (Av rs k r)).length<=r.key.size:=by simp
 have h6:r.body.data.toList.length=r.body.size:=by simp
 simp only[entry,zLL,List.length_singleton];omega
def P8(r:Rec):Nat:=11+r.key.size+r.body.size
theorem U7{rs:List Rec}(hl:rs.length<=64):∀{k:Nat}{t:List UInt8},BM rs k=some t->t.length<=1+((rs.take k).map P8).sum
 |0,t,h=>by
  simp only[BM,zLO]at h;subst h;have:=IW 7 0 rs.length (by omega);simp;omega
 |k+1,t,h=>by
  simp only[BM]at h
  cases ht:BM rs k with
  |none=>rw[ht]at h;simp at h
  |some t0 =>
   cases hr:rs[k]? with
   |none=>rw[ht,hr]at h;simp at h
   |some r =>
    rw[ht,hr]at h;simp only at h;split at h
    .simp at h
    .rename_i hb;simp only[zLO]at h;subst h;have h1:=U7 hl ht;have hf:r.fits=true:=by
      cases hff:r.fits with
      |true=>rfl
      |false=>simp[KN,hff]at hb
     (have h2:=rq rs k r hf;have e:rs.take (k+1)=rs.take k++[r]:=by rw[zLv,hr];rfl);rw[e];simp only[zLL,List.map_append,List.sum_append,zLx,List.map_nil,List.sum_cons,List.sum_nil,P8]at h1⊢;omega
theorem NI(h:OkB b):(Aj b).length<=5+(b.map P8).sum:=by
 obtain⟨t,ht⟩:=h.text;unfold Aj;rw[M.Ar,ht];unfold Ad at ht;rw[if_neg (by have:=h.few;omega)]at ht;have:=U7 h.few ht;rw[zLP (zLK _)]at this;simp only[zLT];omega
theorem L8:∀{b:List Rec},(∀r∈b,r.fits=true)->(b.map P8).sum<=4275*b.length
 |[],_=>by simp
 |r::b,h=>by
  have h1:=h r (by simp);simp only[Rec.fits,zMF]at h1;have:=L8 (b:=b) (fun x hx=>h x (by simp[hx]));simp only[zLx,List.sum_cons,zLQ,P8]at this⊢;omega
def UQ(r:Rec):Nat:=26+2*r.key.size+r.body.size
def costs(R:List Rec):Nat:=(R.map UQ).sum
theorem WY(A B:List Rec):costs (A++B)=costs A+costs B:=by simp[costs]
theorem uy:∀{b:List Rec}(k:Nat),b≠[]->(∃r∈b,r.key.size=k)->15+k+(b.map P8).sum<=costs b
 |[],_,h,_=>absurd rfl h
 |[r],k,_,⟨x,hx,hk⟩=>by
  simp at hx;subst hx;simp[costs,UQ,P8];omega
 |r::s::b,k,_,⟨x,hx,hk⟩=>by
  have hle:∀l:List Rec,(l.map P8).sum<=costs l:=fun l=>by
   induction l with
   |nil=>simp[costs]
   |cons y l ih =>
    simp only[costs,zLx,List.sum_cons,UQ,P8]at ih⊢;omega
  rcases zME.1 hx with rfl|hx
  .have:=hle (s::b);simp only[costs,zLx,List.sum_cons,UQ,P8]at this⊢;omega
  .have:=uy (b:=s::b) k (by simp) ⟨x,hx,hk⟩;simp only[costs,zLx,List.sum_cons,UQ,P8]at this⊢;omega
theorem dz(h:OkB b):(Aj b).length+(Dv b).length<=costs b:=by
 have h1:=NI h;have hm:=EC h.some_;have hf:=h.fits _ hm;simp only[Rec.fits,zMF]at hf;have h2:=L8 h.fits;have h3:=h.few;have e1:=IW 7 2 (Aj b).length (by have:(128:Nat)^(2+1)=2097152:=(by decide);omega);have e2:=IW 7 0 (BJ b).key.size (by omega);have e3:=IW 7 5 (BJ b).stamp.toNat (by have:(128:Nat)^(5+1)=4398046511104:=(by decide);omega);have e4:(BJ b).key.data.toList.length=(BJ b).key.size:=by simp
 have h4:=uy (BJ b).key.size h.some_ ⟨_,hm,rfl⟩;unfold Dv;simp only[zLL];omega
theorem MQ:∀{bs:List (List Rec)},(∀b∈bs,OkB b)->(Aw bs).length+(idxOf bs).length<=costs bs.flatten
 |[],_=>by simp[Aw,idxOf,costs]
 |b::bs,h=>by
  have h1:=dz (h b (by simp));have h2:=MQ (bs:=bs) (fun x hx=>h x (by simp[hx]));have e1:Aw (b::bs)=Aj b++Aw bs:=by simp[Aw]
  have e2:idxOf (b::bs)=Dv b++idxOf bs:=by simp[idxOf]
  rw[e1,e2,zLz,WY];simp only[zLL];omega
theorem Zm(hw:wm<=1099511627776)(hs:(idxOf bs).length<=100000000):(Eh (Af bs wm)).length<=18+(idxOf bs).length:=by
 have e1:=IW 7 5 (wm+1).toNat (by have:(128:Nat)^(5+1)=4398046511104:=(by decide);omega);have h2:(M.sealed (Af bs wm)).length=(M.enc 7 (wm+1).toNat).length+(idxOf bs).length+4:=by rw[M.Ar];unfold Af;simp
 unfold Eh;rw[zLL,M.Ar (M.enc 7 _),enc4 _ (by omega) (by omega),h2];omega
theorem Kt(h:∀b∈bs,OkB b)(hw:wm<=1099511627776)(hs:costs bs.flatten<=100000000):(Aa bs wm).length<=18+costs bs.flatten:=by
 have h1:=MQ h;have h2:=Zm (bs:=bs) hw (by omega);unfold Aa;rw[zLL];omega
theorem Ov{α β:Type}(f:α->Nat)(g:β->Nat)(R:α->β->Prop):∀(L:List α)(K:List β),L.Pairwise (fun x x'=>∀y,R x y->¬R x' y)->(∀x∈L,∃y∈K,R x y/\f x<=g y)->(L.map f).sum<=(K.map g).sum
 |[],K,_,_=>by simp
 |x::L,K,hp,h=>by
  obtain⟨y,hy,hR,hf⟩:=h x (by simp);obtain⟨A,B,rfl⟩:=List.append_of_mem hy;have hp':=zM5.1 hp;have ih:=Ov f g R L (A++B) hp'.2 (fun x' hx'=>by
   obtain⟨y',hy',hR',hf'⟩:=h x' (by simp[hx']);refine⟨y',?_,hR',hf'⟩;have hne:y'≠y:=fun e=>hp'.1 x' hx' y hR (by rw[<-e];exact hR');simp only[zMD,zME]at hy'⊢;rcases hy' with h1|h1|h1
   .exact Or.inl h1
   .exact absurd h1 hne
   .exact Or.inr h1)
  simp only[zLx,List.sum_cons,List.map_append,List.sum_append]at ih⊢;omega
end S
end Go.Proofs.YtekdenkllipehaaGreatDoor
