import Derived.Test.YtekdenkllipehabGreatDoorA05
import Derived.Test.YtekdenkllipehabGreatDoorA08
set_option maxRecDepth 100000
set_option maxHeartbeats 8000000
namespace Go.Proofs.YtekdenkllipehabGreatDoor.S
open Go.RowKit
variable {A F R b o:List Rec} {T l m:List UInt8} {U V:List ByteArray} {a i most:Nat} {bs:List (List Rec)} {k n s:ByteArray} {r:Rec} {t wm:Int}
abbrev Ap:=ByteArray→ByteArray→Option ByteArray
structure Vs where
 stamp:Int
 val:Option ByteArray
def valOf (ap:Ap) (r:Rec) (n:ByteArray):Option ByteArray:=
 if r.kind=0 then (if r.body.size≤4096 then some r.body else none)
 else if r.kind=2 then (if r.body.size=0 then some n else none)
 else match ap r.body n with
  | some s=>if r.body.size≤s.size∧s.size≤4096 then some s else none
  | none=>none
def Zx (r:Rec) (s:ByteArray):Vs:=⟨r.stamp,if r.kind=2 then none else some s⟩
def run (ap:Ap):ByteArray→List Rec→Option (List Vs × ByteArray)
 | n,[]=>some ([],n)
 | n,r::rs =>
  match valOf ap r n with
  | none=>none
  | some s =>
   match run ap s rs with
   | none=>none
   | some (l,e)=>some (Zx r s::l,e)
theorem Yz (ap:Ap):∀ (A B:List Rec) (n:ByteArray),run ap n (A++B)=match run ap n A with
  | none=>none
  | some (l,e)=>match run ap e B with
   | none=>none
   | some (m,f)=>some (l++m,f)
 | [],B,n=>by
  simp only [zRQ,run]
  cases run ap n B with
  | none=>rfl
  | some p=>rfl
 | r::A,B,n=>by
  simp only [zRS,run]
  cases valOf ap r n with
  | none=>rfl
  | some s =>
   simp only [Yz ap A B s]
   cases run ap s A with
   | none=>rfl
   | some p =>
    simp only
    cases run ap p.2 B with
    | none=>rfl
    | some q=>rfl
def Zv (ap:Ap) (R:List Rec) (V:List Vs):Prop:=∀ n,∃ e,run ap n R=some (V,e)
theorem Zv.nil (ap:Ap):Zv ap [] []:=fun n=>⟨n,rfl⟩
theorem Zv.append {ap:Ap} {B:List Rec} {V U:List Vs} (h:Zv ap A V) (k:Zv ap B U):Zv ap (A++B) (V++U):=fun n=>by
 obtain ⟨e,he⟩:=h n;obtain ⟨f,hf⟩:=k e;exact ⟨f,by rw [Yz,he];simp only [hf]⟩
theorem Zv.inj {ap:Ap} {V U:List Vs} (h:Zv ap A V) (k:Zv ap A U):V=U:=by
 obtain ⟨e,he⟩:=h ⟨#[]⟩;obtain ⟨f,hf⟩:=k ⟨#[]⟩;rw [he] at hf;injection hf with hf;injection hf
theorem zCb {ap:Ap}:∀ {R:List Rec} {n e:ByteArray} {V:List Vs},run ap n R=some (V,e)→V.map (·.stamp)=R.map (·.stamp)
 | [],n,e,V,h=>by simp only [run,zRD,Prod.mk.injEq] at h;rw [←h.1];rfl
 | r::R,n,e,V,h=>by
  simp only [run] at h
  cases hv:valOf ap r n with
  | none=>rw [hv] at h;cases h
  | some s =>
   rw [hv] at h;simp only at h
   cases hr:run ap s R with
   | none=>rw [hr] at h;cases h
   | some p =>
    obtain ⟨l,f⟩:=p;rw [hr] at h;simp only [zRD,Prod.mk.injEq] at h;rw [←h.1];simp only [zRm,Zx];rw [zCb hr]
theorem Zv.stamps {ap:Ap} {V:List Vs} (h:Zv ap R V):V.map (·.stamp)=R.map (·.stamp):=by
 obtain ⟨e,he⟩:=h ⟨#[]⟩;exact zCb he
theorem Zv.length {ap:Ap} {R:List Rec} {V:List Vs} (h:Zv ap R V):V.length=R.length:=by
 have:=congrArg List.length h.stamps;simpa using this
def Vs.size (v:Vs):Nat:=match v.val with | some s=>s.size | none=>0
theorem zBP {ap:Ap} (h:valOf ap r n=some s):r.body.size≤(Zx r s).size∧(Zx r s).size≤4096:=by
 unfold valOf at h;unfold Vs.size Zx;by_cases h0:r.kind=0
 ·rw [if_pos h0] at h;split at h
  ·injection h with h;subst h;have h2:¬r.kind=2:=by omega
   rw [if_neg h2];exact ⟨zR9 _,by assumption⟩
  ·cases h
 ·rw [if_neg h0] at h;by_cases h2:r.kind=2
  ·rw [if_pos h2] at h;rw [if_pos h2];split at h
   ·exact ⟨by omega,by simp⟩
   ·cases h
  ·rw [if_neg h2] at h;rw [if_neg h2]
   cases ha:ap r.body n with
   | none=>rw [ha] at h;cases h
   | some t =>
    rw [ha] at h;simp only at h;split at h
    ·injection h with h;subst h;assumption
    ·cases h
theorem zDt {ap:Ap}:∀ {R:List Rec} {n e:ByteArray} {V:List Vs},run ap n R=some (V,e)→(∀ (i:Nat) (r:Rec) (v:Vs),R[i]?=some r→V[i]?=some v→r.body.size≤v.size∧v.size≤4096)
 | [],n,e,V,h=>fun i r v hr=>by simp at hr
 | r::R,n,e,V,h=>fun i x v hx hv=>by
  simp only [run] at h
  cases ho:valOf ap r n with
  | none=>rw [ho] at h;cases h
  | some s =>
   rw [ho] at h;simp only at h
   cases hr:run ap s R with
   | none=>rw [hr] at h;cases h
   | some p =>
    obtain ⟨l,f⟩:=p;rw [hr] at h;simp only [zRD,Prod.mk.injEq] at h;obtain ⟨rfl,_⟩:=h
    cases i with
    | zero =>
     simp only [zRN,zRD] at hx hv;subst hx hv;exact zBP ho
    | succ i=>exact zDt hr i x v (by simpa using hx) (by simpa using hv)
def zX (V:List Vs) (t:Int):Option Vs:=V.find? fun v=>decide (v.stamp≤t)
def told:Option Vs→ByteArray × Bool
 | some ⟨_,some s⟩=>(s,true)
 | _=>(⟨#[]⟩,false)
theorem Yg (A B:List Vs) (t:Int):zX (A++B) t=match zX A t with | some v=>some v | none=>zX B t:=by
 unfold zX;rw [List.find?_append]
 cases List.find? (fun v=>decide (v.stamp≤t)) A<;>rfl
theorem Yo {V:List Vs} (h:∀ v∈V,t<v.stamp):zX V t=none:=by
 unfold zX;rw [List.find?_eq_none];intro v hv;have:=h v hv;simp;omega
abbrev zw (a b:ByteArray):Prop:=Op.bytesLess a.toList b.toList=true
theorem yU (a:ByteArray):¬zw a a:=by unfold zw;rw [M.yu];decide
theorem YD {a b c:ByteArray} (h:zw a b) (k:zw b c):zw a c:=M.zAQ h k
theorem Y8 (a b:ByteArray):zw a b∨a=b∨zw b a:=by
 rcases M.zCj a.toList b.toList with h|h|h
 ·exact Or.inl h
 ·exact Or.inr (Or.inl (M.Zl h))
 ·exact Or.inr (Or.inr h)
theorem Yf {a b:ByteArray} (h:zw a b):a≠b:=fun e=>by subst e;exact yU a h
theorem zAk {a b:ByteArray} (h:zw a b):¬zw b a:=fun k=>yU a (YD h k)
def Bef (p r:Rec):Prop:=zw p.key r.key∨(p.key=r.key∧r.stamp<p.stamp)
theorem Bef.trans {a b c:Rec} (h:Bef a b) (k:Bef b c):Bef a c:=by
 rcases h with h|⟨h1,h2⟩
 ·rcases k with k|⟨k1,_⟩
  ·exact Or.inl (YD h k)
  ·exact Or.inl (k1▸h)
 ·rcases k with k|⟨k1,k2⟩
  ·exact Or.inl (h1▸k)
  ·exact Or.inr ⟨h1.trans k1,by omega⟩
theorem zLR (p r:Rec):p.wrong r=false↔Bef p r:=by
 unfold Rec.wrong Rec.less Rec.same Bef;rcases Y8 p.key r.key with h|h|h
 ·have h1:Op.bytesLess p.key.toList r.key.toList=true:=h;have h2:(p.key.toList == r.key.toList)=false:=by
   rw [zRy];intro e;exact Yf h (M.Zl e)
  rw [h1,h2];simp;exact Or.inl h
 ·have h1:Op.bytesLess p.key.toList r.key.toList=false:=by rw [h];exact M.yu _
  have h2:(p.key.toList == r.key.toList)=true:=by rw [h];simp
  have h3:¬zw p.key r.key:=by unfold zw;rw [h1];decide
  rw [h1,h2];simp [h,yU]
 ·have h1:Op.bytesLess p.key.toList r.key.toList=false:=by
   cases hc:Op.bytesLess p.key.toList r.key.toList with
   | false=>rfl
   | true=>exact absurd hc (zAk h)
  have h2:(p.key.toList == r.key.toList)=false:=by
   rw [zRy];intro e;exact Yf h (M.Zl e).symm
  rw [h1,h2];simp only [Bool.or_false,Bool.not_false,Bool.true_or];refine ⟨fun e=>(by cases e),fun e=>?_⟩;rcases e with e|⟨e,_⟩
  ·exact absurd e (zAk h)
  ·exact absurd e.symm (Yf h)
structure OkB (b:List Rec):Prop where
 some_:b≠[]
 few:b.length≤64
 fits:∀ r∈b,r.fits=true
 ord:b.Pairwise Bef
theorem zOV (hf:∀ r∈b,r.fits=true) (ho:b.Pairwise Bef) {k:Nat} (hr:b[k]?=some r):zB3 b k r=false:=by
 unfold zB3;rw [hf r (zRG hr)];by_cases h0:0<k
 ·have hk:k<b.length:=(zR7.1 hr).1;have hp:before b k r=b[k-1]:=by
   unfold before;rw [List.getD_eq_getElem?_getD,zR6 (by omega)];rfl
  have hB:Bef b[k-1] b[k]:=zRs.1 ho (k-1) k (by omega) hk (by omega);have hr':r=b[k]:=by
   have:=zR7.1 hr;exact this.2.symm
  rw [hp,hr',(zLR _ _).2 hB];simp
 ·have:k=0:=by omega
  subst this;simp
theorem zGf {b:List Rec} (hf:∀ r∈b,r.fits=true) (ho:b.Pairwise Bef):∀ k,k≤b.length→∃ t,zi b k=some t
 | 0,_=>⟨_,rfl⟩
 | k+1,h=>by
  obtain ⟨t,ht⟩:=zGf hf ho k (by omega);have hr:b[k]?=some b[k]:=zR6 (by omega);exact ⟨_,zDm ht hr (zOV hf ho hr)⟩
theorem OkB.text (h:OkB b):∃ t,zM b=some t:=by
 obtain ⟨t,ht⟩:=zGf h.fits h.ord b.length (zR9 _);exact ⟨t,by unfold zM;rw [if_neg (by have:=h.few;omega)];exact ht⟩
def zu (k:ByteArray) (R:List Rec):List Rec:=R.filter fun r=>decide (r.key=k)
theorem ZY (k:ByteArray) (A B:List Rec):zu k (A++B)=zu k A++zu k B:=by simp [zu]
theorem Zj :r∈zu k R↔r∈R∧r.key=k:=by simp [zu]
theorem Zz (h:∀ r∈R,r.key≠k):zu k R=[]:=by
 unfold zu;rw [List.filter_eq_nil_iff];intro r hr;simpa using h r hr
theorem zH7 (h:∀ r∈R,r.key=k):zu k R=R:=by
 unfold zu;rw [List.filter_eq_self];intro r hr;simpa using h r hr
def Holds (ap:Ap):List (List Rec)→ByteArray→List Vs→Prop
 | [],_,V=>V=[]
 | b::bs,k,V=>∃ V1 V2,Zv ap (zu k b) V1∧Holds ap bs k V2∧V=V1++V2
theorem Holds.tells {ap:Ap} {k:ByteArray}:∀ {bs:List (List Rec)} {V:List Vs},Holds ap bs k V→Zv ap (zu k bs.flatten) V
 | [],V,h=>by
  have:V=[]:=h;subst this;exact Zv.nil ap
 | b::bs,V,h=>by
  obtain ⟨V1,V2,h1,h2,rfl⟩:=h;rw [zRo,ZY];exact h1.append h2.tells
theorem Holds.append {ap:Ap} {k:ByteArray}:∀ {az bs:List (List Rec)} {V U:List Vs},Holds ap az k V→Holds ap bs k U→Holds ap (az++bs) k (V++U)
 | [],bs,V,U,h,g=>by
  have:V=[]:=h;subst this;exact g
 | a::az,bs,V,U,h,g=>by
  obtain ⟨V1,V2,h1,h2,rfl⟩:=h;exact ⟨V1,V2++U,h1,h2.append g,zRR _ _ _⟩
theorem Holds.split {ap:Ap} {k:ByteArray}:∀ {az bs:List (List Rec)} {V:List Vs},Holds ap (az++bs) k V→∃ V1 V2,Holds ap az k V1∧Holds ap bs k V2∧V=V1++V2
 | [],bs,V,h=>⟨[],V,rfl,h,rfl⟩
 | a::az,bs,V,h=>by
  obtain ⟨V1,V2,h1,h2,rfl⟩:=h;obtain ⟨U1,U2,g1,g2,rfl⟩:=Holds.split h2;exact ⟨V1++U1,U2,⟨V1,U1,h1,g1,rfl⟩,g2,(zRR _ _ _).symm⟩
theorem Holds.one {ap:Ap} {V:List Vs} (h:Zv ap (zu k b) V):Holds ap [b] k V:=⟨V,[],h,rfl,by simp⟩
abbrev zHz (r:Rec) (k:ByteArray) (t:Int):Prop:=zw r.key k∨(r.key=k∧t<r.stamp)
theorem zHz.zOf {p:Rec} (h:Bef p r) (g:zHz r k t):zHz p k t:=by
 rcases h with h|⟨h1,h2⟩
 ·rcases g with g|⟨g1,_⟩
  ·exact Or.inl (YD h g)
  ·exact Or.inl (g1▸h)
 ·rcases g with g|⟨g1,g2⟩
  ·exact Or.inl (h1▸g)
  ·exact Or.inr ⟨h1.trans g1,by omega⟩
theorem zIi {ap:Ap} {az:List (List Rec)} {V:List Vs}
  (hord:((az++b::bs).flatten).Pairwise Bef) (hH:Holds ap (az++b::bs) k V) (ha:∀ r∈az.flatten,zHz r k t)
  (hb:∃ r∈b,¬zHz r k t):∃ U,Zv ap (zu k b) U∧zX V t=zX U t:=by
 obtain ⟨V1,V2,h1,h2,rfl⟩:=hH.split;obtain ⟨U,U2,g1,g2,rfl⟩:=h2;refine ⟨U,g1,?_⟩;have e1:zX V1 t=none:=by
  refine Yo fun v hv=>?_;have hs:=h1.tells.stamps;have:v.stamp∈V1.map (·.stamp):=List.mem_map_of_mem hv;rw [hs,List.mem_map] at this;obtain ⟨r,hr,he⟩:=this;rw [Zj] at hr;rcases ha r hr.1 with h|⟨_,h⟩
  ·exact absurd hr.2 (Yf h)
  ·omega
 rw [Yg,e1];simp only;rw [Yg]
 cases hU:zX U t with
 | some v=>rfl
 | none =>
  simp only;refine Yo fun v hv=>?_;have hs:=g2.tells.stamps;have:v.stamp∈U2.map (·.stamp):=List.mem_map_of_mem hv;rw [hs,List.mem_map] at this;obtain ⟨r,hr,he⟩:=this;rw [Zj] at hr;obtain ⟨x,hx,hnx⟩:=hb;rw [List.flatten_append,zRW] at hord;have hord2:=hord.2.1;rw [zRo,zRW] at hord2;have hB:=hord2.2.2 x hx r hr.1;by_cases hxk:x.key=k
  ·exfalso;have hnx2:x.stamp≤t:=by
    refine Int.not_lt.1 fun hlt=>hnx (Or.inr ⟨hxk,hlt⟩)
   have hxm:x∈zu k b:=Zj.2 ⟨hx,hxk⟩;have:x.stamp∈U.map (·.stamp):=by rw [g1.stamps];exact List.mem_map_of_mem hxm
   rw [List.mem_map] at this;obtain ⟨u,hu,hue⟩:=this;unfold zX at hU;rw [List.find?_eq_none] at hU;have:=hU u hu;simp at this;omega
  ·exfalso;rcases Y8 x.key k with h|h|h
   ·exact hnx (Or.inl h)
   ·exact hxk h
   ·rcases hB with hB|⟨hB,_⟩
    ·rw [hr.2] at hB;exact zAk h hB
    ·rw [hr.2] at hB;exact hxk hB
theorem zKv {ap:Ap} {V:List Vs} (hH:Holds ap bs k V) (ha:∀ r∈bs.flatten,zHz r k t):zX V t=none:=by
 refine Yo fun v hv=>?_;have hs:=hH.tells.stamps;have:v.stamp∈V.map (·.stamp):=List.mem_map_of_mem hv;rw [hs,List.mem_map] at this;obtain ⟨r,hr,he⟩:=this;rw [Zj] at hr;rcases ha r hr.1 with h|⟨_,h⟩
 ·exact absurd hr.2 (Yf h)
 ·omega
abbrev Con:=ByteArray→List Vs
def Con.put (C:Con) (k:ByteArray) (V:List Vs):Con:=fun x=>if x=k then V else C x
structure Wri (ap:Ap) (bs:List (List Rec)) (o:List Rec) (C:Con):Prop where
 holds:∀ k,Holds ap (bs++[o]) k (C k)
 ord:((bs++[o]).flatten).Pairwise Bef
 fits:∀ r∈(bs++[o]).flatten,r.fits=true
 few:o.length≤64
 blk:∀ b∈bs,b≠[]∧b.length≤64
theorem Wri.start (ap:Ap):Wri ap [] [] (fun _=>[]):=
 ⟨fun _=>⟨[],[],Zv.nil ap,rfl,rfl⟩,List.Pairwise.nil,fun _ h=>by simp at h,zRH _,fun _ h=>by simp at h⟩
def Based (ap:Ap) (o:List Rec) (k:ByteArray) (based:Bool) (newer:ByteArray):Prop:=∀ n,∃ U,run ap n (zu k o)=some (U,if based then newer else n)
theorem Based.none {ap:Ap} (newer:ByteArray) (h:∀ r∈o,r.key≠k):Based ap o k false newer:=fun n=>⟨[],by rw [Zz h];rfl⟩
structure Wrote (ap:Ap) (based:Bool) (newer:ByteArray) (r:Rec) (s:ByteArray) (r':Rec):Prop where
 key:r'.key=r.key
 stamp:r'.stamp=r.stamp
 gone:r'.kind=2↔r.kind=2
 fits:r'.fits=true
 here:based=true→valOf ap r' newer=some s
 any:based=false→r.kind≠2→∀ n,valOf ap r' n=some s
 none:based=false→r.kind=2→∀ n,valOf ap r' n=some n
theorem zFr {ap:Ap} (h:valOf ap r n=some s):run ap n [r]=some ([Zx r s],s):=by
 simp [run,h]
theorem Based.push {ap:Ap} {based:Bool} {newer:ByteArray} {r':Rec} (h:Based ap o k based newer) (hk:r.key=k) (hw:Wrote ap based newer r s r') :
  Based ap (o++[r']) k (based || decide (r.kind≠2)) s∧∀ n,∃ U e,run ap n (zu k o)=some (U,e)∧run ap n (zu k (o++[r']))=some (U++[Zx r s],if (based || decide (r.kind≠2))=true then s else n):=by
 have hr':zu k [r']=[r']:=zH7 (fun x hx=>by simp at hx;subst hx;rw [hw.key,hk]);have key:∀ n,∃ U e,run ap n (zu k o)=some (U,e)∧run ap n (zu k (o++[r']))=some (U++[Zx r s],if (based || decide (r.kind≠2))=true then s else n):=fun n=>by
  obtain ⟨U,hU⟩:=h n;refine ⟨U,_,hU,?_⟩;rw [ZY,hr',Yz,hU];simp only;have hv:∀ t,Zx r' t=if r.kind=2 then Zx r s else ⟨r.stamp,some t⟩:=fun t=>by
   unfold Zx;rw [hw.stamp];by_cases h2:r.kind=2
   ·rw [if_pos (hw.gone.2 h2),if_pos h2,if_pos h2]
   ·rw [if_neg (fun e=>h2 (hw.gone.1 e)),if_neg h2]
  have hvs:Zx r' s=Zx r s:=by
   rw [hv s];by_cases h2:r.kind=2
   ·rw [if_pos h2]
   ·rw [if_neg h2];unfold Zx;rw [if_neg h2]
  cases based with
  | true =>
   have h1:=hw.here rfl;simp only [if_true,Bool.true_or];rw [zFr h1,hvs]
  | false =>
   by_cases h2:r.kind=2
   ·have h1:=hw.none rfl h2 n;simp only [zRx,if_false,Bool.false_or];rw [zFr h1,hv n,if_pos h2];simp [h2]
   ·have h1:=hw.any rfl h2 n;simp only [zRx,if_false,Bool.false_or];rw [zFr h1,hvs];simp [h2]
 refine ⟨fun n=>?_,key⟩;obtain ⟨U,e,_,h2⟩:=key n;exact ⟨_,h2⟩
theorem Wri.push {ap:Ap} {bs:List (List Rec)} {o:List Rec} {C:Con} (h:Wri ap bs o C) {k:ByteArray} {based:Bool} {newer s:ByteArray} {r r':Rec} (hB:Based ap o k based newer) (hk:r.key=k) (hw:Wrote ap based newer r s r')
  (hl:o.length<64) (hbef:∀ x∈(bs++[o]).flatten,Bef x r):Wri ap bs (o++[r']) (C.put k (C k++[Zx r s])):=by
 have hflat:(bs++[o++[r']]).flatten=(bs++[o]).flatten++[r']:=by simp
 refine ⟨fun x=>?_,?_,?_,by simp;omega,h.blk⟩
 ·obtain ⟨V1,V2,g1,g2,g3⟩:=(h.holds x).split;obtain ⟨U1,U2,f1,f2,f3⟩:=g2;have f2':U2=[]:=f2;subst f2';rw [zRl] at f3;subst f3;unfold Con.put;by_cases hx:x=k
  ·subst hx;rw [if_pos rfl,g3,zRR];refine g1.append (Holds.one fun n=>?_);obtain ⟨U,e,e1,e2⟩:=(hB.push hk hw).2 n;obtain ⟨e',he'⟩:=f1 n;rw [he'] at e1;injection e1 with e1;injection e1 with e1 _;subst e1;exact ⟨_,e2⟩
  ·rw [if_neg hx,g3];refine g1.append (Holds.one ?_);have:zu x [r']=[]:=Zz (fun y hy=>by simp at hy;subst hy;rw [hw.key,hk];exact fun e=>hx e.symm);rw [ZY,this,zRl];exact f1
 ·rw [hflat,zRW];refine ⟨h.ord,by simp,fun x hx y hy=>?_⟩;simp only [List.mem_singleton] at hy;subst hy;have:=hbef x hx;unfold Bef at *;rw [hw.key,hw.stamp];exact this
 ·intro x hx;rw [hflat,zS2] at hx;rcases hx with hx|hx
  ·exact h.fits x hx
  ·simp only [List.mem_singleton] at hx;subst hx;exact hw.fits
theorem Wri.cut {ap:Ap} {C:Con} (h:Wri ap bs o C) (ho:o≠[]):Wri ap (bs++[o]) [] C:=by
 have hflat:(bs++[o]++[([]:List Rec)]).flatten=(bs++[o]).flatten:=by simp
 refine ⟨fun k=>?_,by rw [hflat];exact h.ord,by rw [hflat];exact h.fits,zRH _,fun b hb=>?_⟩
 ·have:=(h.holds k).append (Holds.one (Zv.nil ap):Holds ap [[]] k []);rw [zRl] at this;exact this
 ·rw [zS2] at hb;rcases hb with hb|hb
  ·exact h.blk b hb
  ·simp only [List.mem_singleton] at hb;subst hb;exact ⟨ho,h.few⟩
theorem Wri.okB {ap:Ap} {C:Con} (h:Wri ap bs o C) (ho:o≠[]):OkB o:=by
 refine ⟨ho,h.few,fun r hr=>h.fits r (by simp;exact Or.inr hr),?_⟩;have:=h.ord;rw [List.flatten_append,zRW] at this;simpa using this.2.1
structure Fil (ap:Ap) (bs:List (List Rec)) (C:Con):Prop where
 holds:∀ k,Holds ap bs k (C k)
 ord:(bs.flatten).Pairwise Bef
 ok:∀ b∈bs,OkB b
theorem Wri.fil {ap:Ap} {C:Con} (h:Wri ap bs [] C):Fil ap bs C:=by
 have hflat:(bs++[([]:List Rec)]).flatten=bs.flatten:=by simp
 have hord:(bs.flatten).Pairwise Bef:=by rw [←hflat];exact h.ord
 refine ⟨fun k=>?_,hord,fun b hb=>⟨(h.blk b hb).1,(h.blk b hb).2,fun r hr=>h.fits r (by rw [hflat];exact List.mem_flatten.2 ⟨b,hb,hr⟩),?_⟩⟩
 ·obtain ⟨V1,V2,g1,g2,g3⟩:=(h.holds k).split;obtain ⟨U1,U2,f1,f2,f3⟩:=g2;have e1:U1=[]:=(Zv.inj f1 (Zv.nil ap));have e2:U2=[]:=f2;subst e1 e2;have:V2=[]:=f3;subst this;rw [g3,zRl];exact g1
 ·rw [List.pairwise_flatten] at hord;exact hord.1 b hb
theorem Fil.none (ap:Ap):Fil ap [] (fun _=>[]):=⟨fun _=>rfl,List.Pairwise.nil,fun _ h=>by simp at h⟩
theorem Fil.keys {ap:Ap} {C:Con} (h:Fil ap bs C) (k:ByteArray):C k=[]↔∀ r∈bs.flatten,r.key≠k:=by
 have ht:=(h.holds k).tells;constructor
 ·intro e r hr hk;have hl:=ht.length;rw [e] at hl;have:zu k bs.flatten=[]:=zRC hl.symm;have hm:r∈zu k bs.flatten:=Zj.2 ⟨hr,hk⟩;rw [this] at hm;simp at hm
 ·intro e;rw [Zz e] at ht;exact Zv.inj ht (Zv.nil ap)
theorem Fil.stamps {ap:Ap} {bs:List (List Rec)} {C:Con} (h:Fil ap bs C) (k:ByteArray):(C k).map (·.stamp)=(zu k bs.flatten).map (·.stamp):=(h.holds k).tells.stamps
theorem Fil.falling {ap:Ap} {C:Con} (h:Fil ap bs C) (k:ByteArray):(C k).Pairwise fun a b=>b.stamp<a.stamp:=by
 have hp:(zu k bs.flatten).Pairwise Bef:=h.ord.sublist List.filter_sublist;have hp2:((zu k bs.flatten).map (·.stamp)).Pairwise fun a b=>b<a:=by
  rw [List.pairwise_map];refine List.Pairwise.imp_of_mem (fun {x y} hx hy hb=>?_) hp;rcases hb with hb|hb
  ·rw [(Zj.1 hx).2,(Zj.1 hy).2] at hb;exact absurd hb (yU _)
  ·exact hb.2
 rw [←h.stamps k,List.pairwise_map] at hp2;exact hp2
theorem zFp {ap:Ap}:∀ {R:List Rec} {n e:ByteArray} {V:List Vs} (j:Nat),run ap n R=some (V,e)→∃ f,run ap n (R.take j)=some (V.take j,f)
 | [],n,e,V,j,h=>by
  simp only [run,zRD,Prod.mk.injEq] at h;obtain ⟨rfl,_⟩:=h;exact ⟨n,by simp [run]⟩
 | r::R,n,e,V,0,h=>⟨n,by simp [run]⟩
 | r::R,n,e,V,j+1,h=>by
  simp only [run] at h
  cases ho:valOf ap r n with
  | none=>rw [ho] at h;cases h
  | some s =>
   rw [ho] at h;simp only at h
   cases hr:run ap s R with
   | none=>rw [hr] at h;cases h
   | some p =>
    obtain ⟨l,f⟩:=p;rw [hr] at h;simp only [zRD,Prod.mk.injEq] at h;obtain ⟨rfl,_⟩:=h;obtain ⟨f',hf'⟩:=zFp j hr;exact ⟨f',by simp only [List.take_succ_cons,run,ho,hf']⟩
theorem Zv.take {ap:Ap} {R:List Rec} {V:List Vs} (h:Zv ap R V) (j:Nat):Zv ap (R.take j) (V.take j):=fun n=>by
 obtain ⟨e,he⟩:=h n;exact zFp j he
def needs (wm:Int):List Vs→Nat
 | []=>0
 | v::l=>if wm<v.stamp then needs wm l+1 else if v.val=none then 0 else 1
def zQ (b:List Rec):List UInt8:=M.sealed ((zM b).getD [])
def zQn:Rec:=⟨⟨#[]⟩,0,0,⟨#[]⟩⟩
def zk (b:List Rec):Rec:=b.getLast?.getD zQn
def Zo (b:List Rec):List UInt8:=M.enc 7 (zQ b).length++(M.enc 7 (zk b).key.size++((zk b).key.data.toList++M.enc 7 (zk b).stamp.toNat))
def idxOf (bs:List (List Rec)):List UInt8:=(bs.map Zo).flatten
def zl (bs:List (List Rec)):List UInt8:=(bs.map zQ).flatten
def yj (bs:List (List Rec)) (wm:Int):List UInt8:=M.enc 7 (wm+1).toNat++idxOf bs
def zBe (t:List UInt8):List UInt8:=M.sealed t++M.sealed (M.enc 7 (2097152+(M.sealed t).length))
def za (bs:List (List Rec)) (wm:Int):List UInt8:=zl bs++zBe (yj bs wm)
structure Ent where
 lo:Nat
 hi:Nat
 key:ByteArray
 stamp:Nat
def zEw (T:List UInt8) (nb a at_:Nat):Ent × Nat:=
 match yJ T nb a with
 | (v,a1)=>match yJ T 64 a1 with
 | (m,a2)=>match zAI T m a2 with
 | (t,a3)=>match yJ T 1099511627776 a3 with
 | (st,a4)=>(⟨at_,at_+v,⟨t.toArray⟩,st⟩,a4)
def zEZ (T:List UInt8) (nb a:Nat):Bool:=
 zAB T nb a || (zAB T 64 (yJ T nb a).2 || (zFY T (yJ T 64 (yJ T nb a).2).1 (yJ T 64 (yJ T nb a).2).2 || zAB T 1099511627776 (zAI T (yJ T 64 (yJ T nb a).2).1 (yJ T 64 (yJ T nb a).2).2).2))
def Yv (T:List UInt8) (nb:Nat):Nat→Nat→Nat→Bool→List Ent→List Ent × Nat × Bool
 | 0,_,at_,bad,l=>(l,at_,bad)
 | f+1,a,at_,bad,l =>
  if a<T.length then Yv T nb f (zEw T nb a at_).2 (zEw T nb a at_).1.hi (bad || zEZ T nb a) (l++[(zEw T nb a at_).1])
  else (l,at_,bad)
theorem zFB (h:a<T.length):a<(yJ T most a).2∧(yJ T most a).2≤T.length∧(yJ T most a).1≤most:=by
 have h1:=ZB (T:=T) (most:=most) (a:=a) (by omega);refine ⟨?_,h1.1,h1.2.1⟩;unfold yJ
 cases hg:M.Ze T a with
 | none=>exact h
 | some p =>
  obtain ⟨v,nx⟩:=p;have:=M.yM hg;simp only;split
  ·exact h
  ·exact this.2.1
theorem zFC (h:a≤T.length):a≤(yJ T most a).2:=by
 by_cases hl:a<T.length
 ·exact Nat.le_of_lt (zFB hl).1
 ·have:a=T.length:=by omega
  unfold yJ
  cases hg:M.Ze T a with
  | none=>exact h
  | some p =>
   obtain ⟨v,nx⟩:=p;have:=M.yM hg;omega
theorem zLD {n:Nat} (h:a≤T.length):a≤(zAI T n a).2:=by
 unfold zAI;split
 ·exact h
 ·exact Nat.le_add_right _ _
def Row:Nat→List Ent→Nat→Prop
 | a,[],b=>a=b
 | a,e::l,b=>e.lo=a∧a≤e.hi∧Row e.hi l b
theorem Row.snoc {e:Ent}:∀ {l:List Ent} {a:Nat},Row a l e.lo→e.lo≤e.hi→Row a (l++[e]) e.hi
 | [],a,h,h2=>by
  have:a=e.lo:=h;exact ⟨this.symm,by omega,rfl⟩
 | x::l,a,h,h2=>⟨h.1,h.2.1,Row.snoc h.2.2 h2⟩
theorem Row.le:∀ {l:List Ent} {a b:Nat},Row a l b→a≤b
 | [],a,b,h=>by
  have:a=b:=h;omega
 | e::l,a,b,h=>zRK h.2.1 h.2.2.le
theorem Row.at:∀ {l:List Ent} {a b i:Nat} {e:Ent},Row a l b→l[i]?=some e→a≤e.lo∧e.lo≤e.hi∧e.hi≤b
 | [],a,b,i,e,h,hi=>by simp at hi
 | x::l,a,b,0,e,h,hi=>by
  simp only [zRN,zRD] at hi;subst hi;exact ⟨by have:=h.1;omega,by have:=h.1;have:=h.2.1;omega,h.2.2.le⟩
 | x::l,a,b,i+1,e,h,hi=>by
  have:=Row.at h.2.2 (i:=i) (e:=e) (by simpa using hi);exact ⟨zRK h.2.1 this.1,this.2⟩
def zEW (at_:Nat) (b:List Rec):Ent:=⟨at_,at_+(zQ b).length,(zk b).key,(zk b).stamp.toNat⟩
def yH:Nat→List (List Rec)→List Ent
 | _,[]=>[]
 | at_,b::bs=>zEW at_ b::yH (at_+(zQ b).length) bs
theorem ZE:∀ (at_:Nat) (bs:List (List Rec)),(yH at_ bs).length=bs.length
 | _,[]=>rfl
 | at_,b::bs=>by simp [yH,ZE _ bs]
theorem zEV:∀ {bs:List (List Rec)} {at_ i:Nat} {b:List Rec},bs[i]?=some b→∃ p,(yH at_ bs)[i]?=some (zEW p b)∧p=at_+(zl (bs.take i)).length
 | [],at_,i,b,h=>by simp at h
 | x::bs,at_,0,b,h=>by
  simp only [zRN,zRD] at h;subst h;exact ⟨at_,rfl,by simp [zl]⟩
 | x::bs,at_,i+1,b,h=>by
  obtain ⟨p,h1,h2⟩:=zEV (bs:=bs) (at_:=at_+(zQ x).length) (i:=i) (b:=b) (by simpa using h);refine ⟨p,by simpa [yH] using h1,?_⟩;rw [h2];simp only [List.take_succ_cons,zl,zRm,zRo,zRA];omega
theorem zAE (az bs:List (List Rec)):zl (az++bs)=zl az++zl bs:=by simp [zl]
theorem zHm (b:List Rec):zl [b]=zQ b:=by simp [zl]
theorem zPl (h:bs[i]?=some b):((zl bs).drop (zl (bs.take i)).length).take (zQ b).length=zQ b:=by
 have hi:i<bs.length:=(zR7.1 h).1;have hb:bs[i]=b:=(zR7.1 h).2;have e:bs=bs.take i++b::bs.drop (i+1):=by rw [←hb,List.getElem_cons_drop,zRf]
 have e2:zl bs=zl (bs.take i)++(zQ b++zl (bs.drop (i+1))):=by
  have:=congrArg zl e;rw [zAE] at this;rw [this];simp [zl]
 rw [e2,List.drop_left,List.take_left]
theorem zAL (h:Sits T a (l++m)):Sits T a l:=(yK h).1
theorem Yj (h:Sits T a (l++m)):Sits T (a+l.length) m:=(yK h).2
theorem Zu (h:b≠[]):zk b∈b:=by
 unfold zk
 cases hb:b.getLast? with
 | none=>exact absurd (List.getLast?_eq_none_iff.1 hb) h
 | some r=>exact List.mem_of_getLast? hb
theorem zKz {nb at_:Nat} (hb:OkB b) (hn:(zQ b).length≤nb) (hnb:nb<72057594037927936) (h:Sits T a (Zo b)) :
  zEw T nb a at_=(zEW at_ b,a+(Zo b).length)∧zEZ T nb a=false:=by
 have hf:=hb.fits _ (Zu hb.some_);simp only [Rec.fits,zS4] at hf;obtain ⟨f1,f2,f3,f4,f5,f6,f7⟩:=hf;unfold Zo at h;have s1:=zAL h;have s2:=zAL (Yj h);have s3:=zAL (Yj (Yj h));have s4:=Yj (Yj (Yj h));have hk:(zk b).key.data.toList.length=(zk b).key.size:=by simp
 have e1:=ZN (most:=nb) s1 (by omega) hn;have e2:=ZN (most:=64) s2 (by omega) f2;have e3:=zCq s3;rw [hk] at e3;have e4:=ZN (most:=1099511627776) s4 (by omega) (by omega);have g1:=zAe (most:=nb) s1 (by omega) hn;have g2:=zAe (most:=64) s2 (by omega) f2;have g3:=zJ3 s3;rw [hk] at g3;have g4:=zAe (most:=1099511627776) s4 (by omega) (by omega);constructor
 ·rw [hk] at e4;unfold zEw;simp only [e1,e2,e3,e4];unfold zEW Zo;simp only [zRA,hk];congr 1;omega
 ·unfold zEZ;rw [hk] at g4;simp only [e1,e2,e3,g1,g2,g3,g4,Bool.or_self]
theorem zEU {T:List UInt8} {nb:Nat} (hnb:nb<72057594037927936):∀ (bs:List (List Rec)) (f a at_:Nat) (l:List Ent),(∀ b∈bs,OkB b)→at_+(zl bs).length≤nb→Sits T a (idxOf bs)→a+(idxOf bs).length=T.length→(idxOf bs).length≤f →
  Yv T nb f a at_ false l=(l++yH at_ bs,at_+(zl bs).length,false)
 | [],f,a,at_,l,_,_,_,h3,_=>by
  have h3':a=T.length:=by simpa [idxOf] using h3
  cases f with
  | zero=>simp [Yv,yH,zl]
  | succ f =>
   unfold Yv;rw [if_neg (by omega)];simp [yH,zl]
 | b::bs,f,a,at_,l,hok,h1,h2,h3,h4=>by
  have hb:=hok b (by simp);have e0:idxOf (b::bs)=Zo b++idxOf bs:=by simp [idxOf]
  have e0':zl (b::bs)=zQ b++zl bs:=by simp [zl]
  rw [e0] at h2 h3 h4;rw [e0'] at h1;rw [zRA] at h1 h3 h4;have hpos:0<(Zo b).length:=by
   unfold Zo;rw [zRA];have:=M.ZP 7 (zQ b).length;omega
  cases f with
  | zero=>omega
  | succ f =>
   obtain ⟨g1,g2⟩:=zKz (at_:=at_) hb (by omega) hnb (zAL h2);unfold Yv;rw [if_pos (by omega),g1,g2];simp only [Bool.or_self];rw [zEU hnb bs f (a+(Zo b).length) (zEW at_ b).hi _ (fun x hx=>hok x (by simp [hx])) (by unfold zEW;simp only;omega) (Yj h2) (by omega) (by omega)];rw [e0',zRA];simp only [yH,zEW,zRR,List.singleton_append,Prod.mk.injEq,and_true,true_and];omega
structure Lay where
 wm:Int
 blocks:List UInt8
 ents:List Ent
def YU (blocks T:List UInt8):Option Lay:=
 match yJ T 1099511627777 0,Yv T blocks.length T.length (yJ T 1099511627777 0).2 0 (zAB T 1099511627777 0) [] with
 | (v,_),(l,at_,bad)=>if bad=true∨at_≠blocks.length then none else some ⟨(v:Int)-1,blocks,l⟩
theorem zGx (hok:∀ b∈bs,OkB b) (hw:-1≤wm) (hw2:wm≤1099511627776) (hnb:(zl bs).length<72057594037927936):YU (zl bs) (yj bs wm)=some ⟨wm,zl bs,yH 0 bs⟩:=by
 unfold YU yj;have s:Sits (M.enc 7 (wm+1).toNat++idxOf bs) 0 (M.enc 7 (wm+1).toNat++idxOf bs):=⟨[],[],by simp,rfl⟩;have e1:=ZN (most:=1099511627777) (zAL s) (by omega) (by omega);have e2:=zAe (most:=1099511627777) (zAL s) (by omega) (by omega);rw [e1,e2];simp only;have h0:0<(M.enc 7 (wm+1).toNat).length:=M.ZP 7 _;rw [zEU hnb bs _ _ 0 [] hok (by omega) (Yj s) (by simp) (by simp)];simp;omega
def Yq (T:List UInt8) (n:Int):Option (List UInt8 × List UInt8):=
 if n<4∨(T.length:Int)<n then none
 else if (T.drop (T.length-4))=M.le4 (M.sum ((T.drop (T.length-n.toNat)).take (n.toNat-4))) then some (T.take (T.length-n.toNat),(T.drop (T.length-n.toNat)).take (n.toNat-4)) else none
theorem zCS (A t:List UInt8):Yq (A++M.sealed t) ((M.sealed t).length:Nat)=some (A,t):=by
 have hl:=M.zf t;unfold Yq;have h4:(M.le4 (M.sum t)).length=4:=rfl;have e1:(A++M.sealed t).length-(M.sealed t).length=A.length:=by rw [zRA];omega
 have e2:(A++M.sealed t).drop ((A++M.sealed t).length-4)=M.le4 (M.sum t):=by
  have:(A++M.sealed t).length-4=(A++t).length:=by rw [zRA,zRA,hl];omega
  rw [this];unfold M.sealed;rw [←zRR,List.drop_left]
 rw [if_neg (by rw [zRA];omega),zRe,e1,e2,List.drop_left,List.take_left];have e3:(M.sealed t).take ((M.sealed t).length-4)=t:=by
  rw [hl,zRw];unfold M.sealed;rw [List.take_left]
 rw [e3,if_pos rfl]
def readFile (T:List UInt8):Option Lay:=
 match Yq T 8 with
 | none=>none
 | some (A,foot) =>
  match Yq A (((yJ foot 72057594037927935 0).1:Int)-2097152) with
  | none=>none
  | some (blocks,idx)=>YU blocks idx
theorem enc4 (n:Nat) (h1:2097152≤n) (h2:n<268435456):(M.enc 7 n).length=4:=by
 unfold M.enc M.enc M.enc M.enc;rw [if_neg (by omega),if_neg (by omega),if_neg (by omega),if_pos (by omega)];rfl
theorem zAa (hok:∀ b∈bs,OkB b) (hw:-1≤wm) (hw2:wm≤1099511627776) (hs:(za bs wm).length≤1048576):readFile (za bs wm)=some ⟨wm,zl bs,yH 0 bs⟩:=by
 have hl:(za bs wm).length=(zl bs).length+(zBe (yj bs wm)).length:=by unfold za;rw [zRA]
 have hle:(zBe (yj bs wm)).length=(M.sealed (yj bs wm)).length+(M.sealed (M.enc 7 (2097152+(M.sealed (yj bs wm)).length))).length:=by unfold zBe;rw [zRA]
 have h8:(M.sealed (M.enc 7 (2097152+(M.sealed (yj bs wm)).length))).length=8:=by rw [M.zf,enc4 _ (by omega) (by omega)]
 have e:za bs wm=(zl bs++M.sealed (yj bs wm))++M.sealed (M.enc 7 (2097152+(M.sealed (yj bs wm)).length)):=by unfold za zBe;rw [zRR]
 have c1:=zCS (zl bs++M.sealed (yj bs wm)) (M.enc 7 (2097152+(M.sealed (yj bs wm)).length));rw [h8,←e] at c1;have s:Sits (M.enc 7 (2097152+(M.sealed (yj bs wm)).length)) 0 (M.enc 7 (2097152+(M.sealed (yj bs wm)).length)):=⟨[],[],by simp,rfl⟩;have e1:=ZN (most:=72057594037927935) s (by omega) (by omega);unfold readFile;rw [show ((8:Nat):Int)=8 from rfl] at c1;rw [c1];simp only;rw [e1];simp only;rw [show ((2097152+(M.sealed (yj bs wm)).length:Nat):Int)-2097152=((M.sealed (yj bs wm)).length:Nat) by omega,zCS];simp only;exact zGx hok hw hw2 (by omega)
def low:List ByteArray→List ByteArray→ByteArray
 | [],[]=>⟨#[]⟩
 | a::_,[]=>a
 | [],b::_=>b
 | a::_,b::_=>if zw a b then a else b
def beh (l:List ByteArray) (k:ByteArray):List ByteArray:=
 match l with
 | []=>[]
 | a::t=>if a=k then t else a::t
def uni:Nat→List ByteArray→List ByteArray→List ByteArray
 | 0,_,_=>[]
 | n+1,l,r=>if l=[]∧r=[] then [] else low l r::uni n (beh l (low l r)) (beh r (low l r))
theorem Yh (a:ByteArray) (t:List ByteArray):beh (a::t) a=t:=by simp [beh]
theorem zMr {a:ByteArray} (h:a≠k) (t:List ByteArray):beh (a::t) k=a::t:=by simp [beh,h]
theorem zGL (k:ByteArray):beh [] k=[]:=rfl
theorem zFb (l:List ByteArray) (k:ByteArray):(beh l k).length≤l.length:=by
 cases l with
 | nil=>simp [beh]
 | cons a t=>unfold beh;simp only;split<;>simp
theorem zMq (l:List ByteArray) (k:ByteArray):(beh l k).Sublist l:=by
 cases l with
 | nil=>simp [beh]
 | cons a t =>
  unfold beh;simp only;split
  ·exact List.sublist_cons_self ..
  ·exact List.Sublist.refl _
theorem zGM {l r:List ByteArray} (h:¬(l=[]∧r=[])):(beh l (low l r)).length+(beh r (low l r)).length<l.length+r.length:=by
 have hl:=zFb l (low l r);have hr:=zFb r (low l r)
 cases l with
 | nil=>cases r with
  | nil=>exact absurd ⟨rfl,rfl⟩ h
  | cons b u=>simp [low,Yh,zGL]
 | cons a t=>cases r with
  | nil=>simp [low,Yh,zGL]
  | cons b u =>
   unfold low at hl hr ⊢;simp only at hl hr ⊢;split
   ·rename_i hk;rw [if_pos hk] at hr;rw [Yh];simp only [zRF] at hr ⊢;omega
   ·rename_i hk;rw [if_neg hk] at hl;rw [Yh];simp only [zRF] at hl ⊢;omega
theorem zPo {l r:List ByteArray} (hl:l.Pairwise zw) (hr:r.Pairwise zw) (h:¬(l=[]∧r=[])) :
  (∀ x,x∈l∨x∈r↔x=low l r∨x∈beh l (low l r)∨x∈beh r (low l r))∧(∀ x,x∈beh l (low l r)∨x∈beh r (low l r)→zw (low l r) x):=by
 cases l with
 | nil=>cases r with
  | nil=>exact absurd ⟨rfl,rfl⟩ h
  | cons b u =>
   have hp:=zRu.1 hr;simp only [low,Yh,zGL,List.not_mem_nil,false_or,zS3];exact ⟨fun x=>trivial,fun x hx=>hp.1 x hx⟩
 | cons a t=>cases r with
  | nil =>
   have hp:=zRu.1 hl;simp only [low,Yh,zGL,List.not_mem_nil,or_false,zS3];exact ⟨fun x=>trivial,fun x hx=>hp.1 x hx⟩
  | cons b u =>
   have hp:=zRu.1 hl;have hq:=zRu.1 hr;unfold low;simp only;split
   ·rename_i hk;rw [Yh,zMr (Yf hk).symm];simp only [zS3];refine ⟨fun x=>?_,fun x hx=>?_⟩
    ·constructor
     ·rintro ((h1|h1)|h1)
      ·exact Or.inl h1
      ·exact Or.inr (Or.inl h1)
      ·exact Or.inr (Or.inr h1)
     ·rintro (h1|h1|h1)
      ·exact Or.inl (Or.inl h1)
      ·exact Or.inl (Or.inr h1)
      ·exact Or.inr h1
    ·rcases hx with hx|hx|hx
     ·exact hp.1 x hx
     ·rw [hx];exact hk
     ·exact YD hk (hq.1 x hx)
   ·rename_i hk;rw [Yh];by_cases hab:a=b
    ·subst hab;rw [Yh];simp only [zS3];refine ⟨fun x=>?_,fun x hx=>hx.elim (hp.1 x) (hq.1 x)⟩;constructor
     ·rintro ((h1|h1)|(h1|h1))
      ·exact Or.inl h1
      ·exact Or.inr (Or.inl h1)
      ·exact Or.inl h1
      ·exact Or.inr (Or.inr h1)
     ·rintro (h1|h1|h1)
      ·exact Or.inl (Or.inl h1)
      ·exact Or.inl (Or.inr h1)
      ·exact Or.inr (Or.inr h1)
    ·have hba:zw b a:=by
      rcases Y8 a b with h1|h1|h1
      ·exact absurd h1 hk
      ·exact absurd h1 hab
      ·exact h1
     rw [zMr hab];simp only [zS3];refine ⟨fun x=>?_,fun x hx=>?_⟩
     ·constructor
      ·rintro ((h1|h1)|(h1|h1))
       ·exact Or.inr (Or.inl (Or.inl h1))
       ·exact Or.inr (Or.inl (Or.inr h1))
       ·exact Or.inl h1
       ·exact Or.inr (Or.inr h1)
      ·rintro (h1|(h1|h1)|h1)
       ·exact Or.inr (Or.inl h1)
       ·exact Or.inl (Or.inl h1)
       ·exact Or.inl (Or.inr h1)
       ·exact Or.inr (Or.inr h1)
     ·rcases hx with (hx|hx)|hx
      ·rw [hx];exact hba
      ·exact YD hba (hp.1 x hx)
      ·exact hq.1 x hx
theorem zLY:∀ (n:Nat) {l r:List ByteArray},l.Pairwise zw→r.Pairwise zw→l.length+r.length≤n→(uni n l r).Pairwise zw∧∀ x,x∈uni n l r↔x∈l∨x∈r
 | 0,l,r,hl,hr,hn=>by
  have e1:l=[]:=zRC (by omega);have e2:r=[]:=zRC (by omega);subst e1 e2;simp [uni]
 | n+1,l,r,hl,hr,hn=>by
  unfold uni;by_cases h:l=[]∧r=[]
  ·rw [if_pos h,h.1,h.2];simp
  ·rw [if_neg h];have hless:=zGM h;obtain ⟨h1,h2⟩:=zPo hl hr h;obtain ⟨g1,g2⟩:=zLY n (hl.sublist (zMq l (low l r))) (hr.sublist (zMq r (low l r))) (by omega);refine ⟨zRu.2 ⟨fun x hx=>h2 x ((g2 x).1 hx),g1⟩,fun x=>?_⟩;rw [zS3,g2 x,h1 x]
def inK (V:List ByteArray) (k:ByteArray):Bool:=V.any fun x=>decide (x=k)
theorem YO :inK V k=true↔k∈V:=by
 unfold inK;rw [List.any_eq_true];exact ⟨fun ⟨x,h1,h2⟩=>(of_decide_eq_true h2)▸h1,fun h=>⟨k,h,by simp⟩⟩
theorem zFK (h:k∉V):inK V k=false:=by
 cases hb:inK V k with
 | false=>rfl
 | true=>exact absurd (YO.1 hb) h
theorem zE7 {k:ByteArray} {V:List ByteArray} (hk:∀ v∈V,zw k v):∀ {F:List Rec},F.Pairwise Bef→F.filter (fun r=>inK (k::V) r.key)=zu k F++F.filter (fun r=>inK V r.key)
 | [],_=>rfl
 | r::F,h=>by
  have hp:=zRu.1 h;have ih:=zE7 hk hp.2;by_cases h1:r.key=k
  ·have h2:r.key∉V:=fun hv=>yU k (by have:=hk _ hv;rw [h1] at this;exact this);have e1:inK (k::V) r.key=true:=YO.2 (by simp [h1]);have e2:inK V r.key=false:=zFK h2;have e3:zu k (r::F)=r::zu k F:=by simp [zu,h1]
   rw [List.filter_cons_of_pos (by exact e1),List.filter_cons_of_neg (by simp [e2]),ih,e3,zRS]
  ·have e3:zu k (r::F)=zu k F:=by simp [zu,h1]
   by_cases h2:r.key∈V
   ·
    have hno:zu k F=[]:=Zz fun x hx e=>by
     rcases hp.1 x hx with hb|hb
     ·exact zAk (hk _ h2) (by rw [e] at hb;exact hb)
     ·exact h1 (by rw [hb.1,e])
    have e1:inK (k::V) r.key=true:=YO.2 (List.mem_cons_of_mem _ h2);have e2:inK V r.key=true:=YO.2 h2;rw [List.filter_cons_of_pos (by exact e1),List.filter_cons_of_pos (by exact e2),ih,e3,hno];rfl
   ·rw [List.filter_cons_of_neg (by rw [zFK (by simp [h1,h2])];simp),List.filter_cons_of_neg (by rw [zFK h2];simp),ih,e3]
def zBh (F:List Rec) (U:List ByteArray) (i:Nat):List Rec:=F.filter fun r=>inK (U.drop i) r.key
theorem zIG (h:∀ r∈F,r.key∈U):zBh F U 0=F:=by
 unfold zBh;rw [List.drop_zero,List.filter_eq_self];exact fun r hr=>YO.2 (h r hr)
theorem zIH (hF:F.Pairwise Bef) (hU:U.Pairwise zw) (hk:U[i]?=some k):zBh F U i=zu k F++zBh F U (i+1)∧∀ r∈zBh F U (i+1),r.key≠k:=by
 obtain ⟨hi,he⟩:=zR7.1 hk;have hd:U.drop i=k::U.drop (i+1):=by rw [←he,List.drop_eq_getElem_cons hi]
 have hp:(U.drop i).Pairwise zw:=hU.sublist (List.drop_sublist ..);rw [hd] at hp;have hp':=zRu.1 hp;refine ⟨?_,fun r hr e=>?_⟩
 ·unfold zBh;rw [hd];exact zE7 hp'.1 hF
 ·unfold zBh at hr;rw [List.mem_filter] at hr;have:=YO.1 hr.2;exact yU k (by have h:=hp'.1 _ this;rw [e] at h;exact h)
def zAG (rs:List Rec):List Vs:=rs.reverse.map fun r=>⟨r.stamp,if r.kind=2 then none else some r.body⟩
structure zQ3 (k:ByteArray) (r:Rec):Prop where
 key:r.key=k
 fits:r.fits=true
 kind:r.kind=0∨(r.kind=2∧r.body.size=0)
 size:r.body.size≤4096
theorem zQ3.val {ap:Ap} (h:zQ3 k r) (n:ByteArray):∃ s,valOf ap r n=some s∧Zx r s=⟨r.stamp,if r.kind=2 then none else some r.body⟩:=by
 rcases h.kind with h0|⟨h2,hb⟩
 ·refine ⟨r.body,by unfold valOf;rw [if_pos h0,if_pos h.size],by unfold Zx;rw [if_neg (by omega)]⟩
 ·refine ⟨n,by unfold valOf;rw [if_neg (by omega),if_pos h2,if_pos hb],by unfold Zx;rw [if_pos h2,if_pos h2]⟩
theorem zFA {ap:Ap} {k:ByteArray}:∀ {R:List Rec},(∀ r∈R,zQ3 k r)→Zv ap R (R.map fun r=>⟨r.stamp,if r.kind=2 then none else some r.body⟩)
 | [],_=>Zv.nil ap
 | r::R,h=>fun n=>by
  obtain ⟨s,h1,h2⟩:=(h r (by simp)).val (ap:=ap) n;obtain ⟨e,he⟩:=zFA (ap:=ap) (R:=R) (fun x hx=>h x (List.mem_cons_of_mem _ hx)) s;exact ⟨e,by simp only [run,h1,he,h2,zRm]⟩
theorem zAV:∀ (f j n:Nat),n<128 ^ (j+1)→(M.enc f n).length≤j+1
 | 0,j,n,_=>by simp [M.enc]
 | f+1,j,n,h=>by
  simp only [M.enc];split
  ·simp
  ·rename_i hn
   cases j with
   | zero=>simp at h;omega
   | succ j =>
    have h2:n / 128<128 ^ (j+1):=by
     rw [Nat.div_lt_iff_lt_mul (by omega)];rw [Nat.pow_succ] at h;exact h
    have:=zAV f j (n / 128) h2;simp;omega
theorem zOF (rs:List Rec) (k:Nat) (r:Rec) (h:r.fits=true):(entry rs k r).length≤11+r.key.size+r.body.size:=by
 simp only [Rec.fits,zS4] at h;have hs:=zAZ rs k r;have h1:=zAV 7 0 (zU rs k r) (by omega);have h2:=zAV 7 0 (r.key.size-zU rs k r) (by omega);have h3:=zAV 7 5 r.stamp.toNat (by have:=h.2.2.2.2.1;have:(128:Nat) ^ (5+1)=4398046511104:=(by decide);omega);have h4:=zAV 7 1 r.body.size (by have:(128:Nat) ^ (1+1)=16384:=(by decide);omega);have h5:(r.key.data.toList.drop (zU rs k r)).length≤r.key.size:=by simp
 have h6:r.body.data.toList.length=r.body.size:=by simp
 simp only [entry,zRA,List.length_singleton];omega
def zEK (r:Rec):Nat:=11+r.key.size+r.body.size
theorem zGg {rs:List Rec} (hl:rs.length≤64):∀ {k:Nat} {t:List UInt8},zi rs k=some t→t.length≤1+((rs.take k).map zEK).sum
 | 0,t,h=>by
  simp only [zi,zRD] at h;subst h;have:=zAV 7 0 rs.length (by omega);simp;omega
 | k+1,t,h=>by
  simp only [zi] at h
  cases ht:zi rs k with
  | none=>rw [ht] at h;simp at h
  | some t0 =>
   cases hr:rs[k]? with
   | none=>rw [ht,hr] at h;simp at h
   | some r =>
    rw [ht,hr] at h;simp only at h;split at h
    ·simp at h
    ·rename_i hb;simp only [zRD] at h;subst h;have h1:=zGg hl ht;have hf:r.fits=true:=by
      cases hff:r.fits with
      | true=>rfl
      | false=>simp [zB3,hff] at hb
     have h2:=zOF rs k r hf;have e:rs.take (k+1)=rs.take k++[r]:=by rw [zRk,hr];rfl
     rw [e];simp only [zRA,List.map_append,List.sum_append,zRm,List.map_nil,List.sum_cons,List.sum_nil,zEK] at h1 ⊢;omega
theorem zCr (h:OkB b):(zQ b).length≤5+(b.map zEK).sum:=by
 obtain ⟨t,ht⟩:=h.text;unfold zQ;rw [M.zf,ht];unfold zM at ht;rw [if_neg (by have:=h.few;omega)] at ht;have:=zGg h.few ht;rw [zRE (zR9 _)] at this;simp only [zRI];omega
theorem zCM:∀ {b:List Rec},(∀ r∈b,r.fits=true)→(b.map zEK).sum≤4275*b.length
 | [],_=>by simp
 | r::b,h=>by
  have h1:=h r (by simp);simp only [Rec.fits,zS4] at h1;have:=zCM (b:=b) (fun x hx=>h x (by simp [hx]));simp only [zRm,List.sum_cons,zRF,zEK] at this ⊢;omega
def zIv (r:Rec):Nat:=26+2*r.key.size+r.body.size
def costs (R:List Rec):Nat:=(R.map zIv).sum
theorem zHb (A B:List Rec):costs (A++B)=costs A+costs B:=by simp [costs]
theorem zOp:∀ {b:List Rec} (k:Nat),b≠[]→(∃ r∈b,r.key.size=k)→15+k+(b.map zEK).sum≤costs b
 | [],_,h,_=>absurd rfl h
 | [r],k,_,⟨x,hx,hk⟩=>by
  simp at hx;subst hx;simp [costs,zIv,zEK];omega
 | r::s::b,k,_,⟨x,hx,hk⟩=>by
  have hle:∀ l:List Rec,(l.map zEK).sum≤costs l:=fun l=>by
   induction l with
   | nil=>simp [costs]
   | cons y l ih =>
    simp only [costs,zRm,List.sum_cons,zIv,zEK] at ih ⊢;omega
  rcases zS3.1 hx with rfl|hx
  ·have:=hle (s::b);simp only [costs,zRm,List.sum_cons,zIv,zEK] at this ⊢;omega
  ·have:=zOp (b:=s::b) k (by simp) ⟨x,hx,hk⟩;simp only [costs,zRm,List.sum_cons,zIv,zEK] at this ⊢;omega
theorem zL0 (h:OkB b):(zQ b).length+(Zo b).length≤costs b:=by
 have h1:=zCr h;have hm:=Zu h.some_;have hf:=h.fits _ hm;simp only [Rec.fits,zS4] at hf;have h2:=zCM h.fits;have h3:=h.few;have e1:=zAV 7 2 (zQ b).length (by have:(128:Nat) ^ (2+1)=2097152:=(by decide);omega);have e2:=zAV 7 0 (zk b).key.size (by omega);have e3:=zAV 7 5 (zk b).stamp.toNat (by have:(128:Nat) ^ (5+1)=4398046511104:=(by decide);omega);have e4:(zk b).key.data.toList.length=(zk b).key.size:=by simp
 have h4:=zOp (zk b).key.size h.some_ ⟨_,hm,rfl⟩;unfold Zo;simp only [zRA];omega
theorem zCW:∀ {bs:List (List Rec)},(∀ b∈bs,OkB b)→(zl bs).length+(idxOf bs).length≤costs bs.flatten
 | [],_=>by simp [zl,idxOf,costs]
 | b::bs,h=>by
  have h1:=zL0 (h b (by simp));have h2:=zCW (bs:=bs) (fun x hx=>h x (by simp [hx]));have e1:zl (b::bs)=zQ b++zl bs:=by simp [zl]
  have e2:idxOf (b::bs)=Zo b++idxOf bs:=by simp [idxOf]
  rw [e1,e2,zRo,zHb];simp only [zRA];omega
theorem zJe (hw:wm≤1099511627776) (hs:(idxOf bs).length≤100000000):(zBe (yj bs wm)).length≤18+(idxOf bs).length:=by
 have e1:=zAV 7 5 (wm+1).toNat (by have:(128:Nat) ^ (5+1)=4398046511104:=(by decide);omega);have h2:(M.sealed (yj bs wm)).length=(M.enc 7 (wm+1).toNat).length+(idxOf bs).length+4:=by rw [M.zf];unfold yj;simp
 unfold zBe;rw [zRA,M.zf (M.enc 7 _),enc4 _ (by omega) (by omega),h2];omega
theorem zIn (h:∀ b∈bs,OkB b) (hw:wm≤1099511627776) (hs:costs bs.flatten≤100000000):(za bs wm).length≤18+costs bs.flatten:=by
 have h1:=zCW h;have h2:=zJe (bs:=bs) hw (by omega);unfold za;rw [zRA];omega
theorem zFj {α β:Type} (f:α→Nat) (g:β→Nat) (R:α→β→Prop):∀ (L:List α) (K:List β),L.Pairwise (fun x x'=>∀ y,R x y→¬R x' y)→(∀ x∈L,∃ y∈K,R x y∧f x≤g y)→(L.map f).sum≤(K.map g).sum
 | [],K,_,_=>by simp
 | x::L,K,hp,h=>by
  obtain ⟨y,hy,hR,hf⟩:=h x (by simp);obtain ⟨A,B,rfl⟩:=List.append_of_mem hy;have hp':=zRu.1 hp;have ih:=zFj f g R L (A++B) hp'.2 (fun x' hx'=>by
   obtain ⟨y',hy',hR',hf'⟩:=h x' (by simp [hx']);refine ⟨y',?_,hR',hf'⟩;have hne:y'≠y:=fun e=>hp'.1 x' hx' y hR (by rw [←e];exact hR');simp only [zS2,zS3] at hy' ⊢;rcases hy' with h1|h1|h1
   ·exact Or.inl h1
   ·exact absurd h1 hne
   ·exact Or.inr h1)
  simp only [zRm,List.sum_cons,List.map_append,List.sum_append] at ih ⊢;omega
end Go.Proofs.YtekdenkllipehabGreatDoor.S
