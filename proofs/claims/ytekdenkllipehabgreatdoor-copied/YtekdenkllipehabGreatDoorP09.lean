import Derived.Test.YtekdenkllipehabGreatDoorP05
import Derived.Test.YtekdenkllipehabGreatDoorP08
set_option maxRecDepth 100000
set_option maxHeartbeats 8000000
namespace Go.Proofs.YtekdenkllipehabGreatDoor.S
open Go.RowKit
variable {A F R b o:List Rec} {T l m:List UInt8} {U V:List ByteArray} {a i most:Nat} {bs:List (List Rec)} {k n s:ByteArray} {r:Rec} {t wm:Int}
abbrev Ap:=ByteArray→ByteArray→Option ByteArray
structure Vs where
 stamp:Int
 val:Option ByteArray
def valOf (ap:Ap) (r:Rec) (n:ByteArray):Option ByteArray:=
 if r.kind=0 then (if r.body.size≤4096 then some r.body else none)
 else if r.kind=2 then (if r.body.size=0 then some n else none)
 else match ap r.body n with
  | some s=>if r.body.size≤s.size∧s.size≤4096 then some s else none
  | none=>none
def Zv (r:Rec) (s:ByteArray):Vs:=⟨r.stamp,if r.kind=2 then none else some s⟩
def run (ap:Ap):ByteArray→List Rec→Option (List Vs × ByteArray)
 | n,[]=>some ([],n)
 | n,r::rs =>
  match valOf ap r n with
  | none=>none
  | some s =>
   match run ap s rs with
   | none=>none
   | some (l,e)=>some (Zv r s::l,e)
theorem Yx (ap:Ap):∀ (A B:List Rec) (n:ByteArray),run ap n (A++B)=match run ap n A with
  | none=>none
  | some (l,e)=>match run ap e B with
   | none=>none
   | some (m,f)=>some (l++m,f)
 | [],B,n=>by
  simp only [zQw,run]
  cases run ap n B with
  | none=>rfl
  | some p=>rfl
 | r::A,B,n=>by
  simp only [zQy,run]
  cases valOf ap r n with
  | none=>rfl
  | some s =>
   simp only [Yx ap A B s]
   cases run ap s A with
   | none=>rfl
   | some p =>
    simp only
    cases run ap p.2 B with
    | none=>rfl
    | some q=>rfl
def Zt (ap:Ap) (R:List Rec) (V:List Vs):Prop:=∀ n,∃ e,run ap n R=some (V,e)
theorem Zt.nil (ap:Ap):Zt ap [] []:=fun n=>⟨n,rfl⟩
theorem Zt.append {ap:Ap} {B:List Rec} {V U:List Vs} (h:Zt ap A V) (k:Zt ap B U):Zt ap (A++B) (V++U):=fun n=>by
 obtain ⟨e,he⟩:=h n;obtain ⟨f,hf⟩:=k e;exact ⟨f,by rw [Yx,he];simp only [hf]⟩
theorem Zt.inj {ap:Ap} {V U:List Vs} (h:Zt ap A V) (k:Zt ap A U):V=U:=by
 obtain ⟨e,he⟩:=h ⟨#[]⟩;obtain ⟨f,hf⟩:=k ⟨#[]⟩;rw [he] at hf;injection hf with hf;injection hf
theorem zCe {ap:Ap}:∀ {R:List Rec} {n e:ByteArray} {V:List Vs},run ap n R=some (V,e)→V.map (·.stamp)=R.map (·.stamp)
 | [],n,e,V,h=>by simp only [run,zQj,Prod.mk.injEq] at h;rw [←h.1];rfl
 | r::R,n,e,V,h=>by
  simp only [run] at h
  cases hv:valOf ap r n with
  | none=>rw [hv] at h;cases h
  | some s =>
   rw [hv] at h;simp only at h
   cases hr:run ap s R with
   | none=>rw [hr] at h;cases h
   | some p =>
    obtain ⟨l,f⟩:=p;rw [hr] at h;simp only [zQj,Prod.mk.injEq] at h;rw [←h.1];simp only [zRI,Zv];rw [zCe hr]
theorem Zt.stamps {ap:Ap} {V:List Vs} (h:Zt ap R V):V.map (·.stamp)=R.map (·.stamp):=by
 obtain ⟨e,he⟩:=h ⟨#[]⟩;exact zCe he
theorem Zt.length {ap:Ap} {R:List Rec} {V:List Vs} (h:Zt ap R V):V.length=R.length:=by
 have:=congrArg List.length h.stamps;simpa using this
def Vs.size (v:Vs):Nat:=match v.val with | some s=>s.size | none=>0
theorem zBJ {ap:Ap} (h:valOf ap r n=some s):r.body.size≤(Zv r s).size∧(Zv r s).size≤4096:=by
 unfold valOf at h;unfold Vs.size Zv;by_cases h0:r.kind=0
 ·rw [if_pos h0] at h;split at h
  ·injection h with h;subst h;have h2:¬r.kind=2:=by omega
   rw [if_neg h2];exact ⟨zQf _,by assumption⟩
  ·cases h
 ·rw [if_neg h0] at h;by_cases h2:r.kind=2
  ·rw [if_pos h2] at h;rw [if_pos h2];split at h
   ·exact ⟨by omega,by simp⟩
   ·cases h
  ·rw [if_neg h2] at h;rw [if_neg h2]
   cases ha:ap r.body n with
   | none=>rw [ha] at h;cases h
   | some t =>
    rw [ha] at h;simp only at h;split at h
    ·injection h with h;subst h;assumption
    ·cases h
theorem zDl {ap:Ap}:∀ {R:List Rec} {n e:ByteArray} {V:List Vs},run ap n R=some (V,e)→(∀ (i:Nat) (r:Rec) (v:Vs),R[i]?=some r→V[i]?=some v→r.body.size≤v.size∧v.size≤4096)
 | [],n,e,V,h=>fun i r v hr=>by simp at hr
 | r::R,n,e,V,h=>fun i x v hx hv=>by
  simp only [run] at h
  cases ho:valOf ap r n with
  | none=>rw [ho] at h;cases h
  | some s =>
   rw [ho] at h;simp only at h
   cases hr:run ap s R with
   | none=>rw [hr] at h;cases h
   | some p =>
    obtain ⟨l,f⟩:=p;rw [hr] at h;simp only [zQj,Prod.mk.injEq] at h;obtain ⟨rfl,_⟩:=h
    cases i with
    | zero =>
     simp only [zQt,zQj] at hx hv;subst hx hv;exact zBJ ho
    | succ i=>exact zDl hr i x v (by simpa using hx) (by simpa using hv)
def zW (V:List Vs) (t:Int):Option Vs:=V.find? fun v=>decide (v.stamp≤t)
def told:Option Vs→ByteArray × Bool
 | some ⟨_,some s⟩=>(s,true)
 | _=>(⟨#[]⟩,false)
theorem Yc (A B:List Vs) (t:Int):zW (A++B) t=match zW A t with | some v=>some v | none=>zW B t:=by
 unfold zW;rw [List.find?_append]
 cases List.find? (fun v=>decide (v.stamp≤t)) A<;>rfl
theorem Yk {V:List Vs} (h:∀ v∈V,t<v.stamp):zW V t=none:=by
 unfold zW;rw [List.find?_eq_none];intro v hv;have:=h v hv;simp;omega
abbrev zu (a b:ByteArray):Prop:=Op.bytesLess a.toList b.toList=true
theorem yP (a:ByteArray):¬zu a a:=by unfold zu;rw [M.yu];decide
theorem YB {a b c:ByteArray} (h:zu a b) (k:zu b c):zu a c:=M.zAL h k
theorem Y6 (a b:ByteArray):zu a b∨a=b∨zu b a:=by
 rcases M.zCl a.toList b.toList with h|h|h
 ·exact Or.inl h
 ·exact Or.inr (Or.inl (M.Z7 h))
 ·exact Or.inr (Or.inr h)
theorem Yb {a b:ByteArray} (h:zu a b):a≠b:=fun e=>by subst e;exact yP a h
theorem zAd {a b:ByteArray} (h:zu a b):¬zu b a:=fun k=>yP a (YB h k)
def Bef (p r:Rec):Prop:=zu p.key r.key∨(p.key=r.key∧r.stamp<p.stamp)
theorem Bef.trans {a b c:Rec} (h:Bef a b) (k:Bef b c):Bef a c:=by
 rcases h with h|⟨h1,h2⟩
 ·rcases k with k|⟨k1,_⟩
  ·exact Or.inl (YB h k)
  ·exact Or.inl (k1▸h)
 ·rcases k with k|⟨k1,k2⟩
  ·exact Or.inl (h1▸k)
  ·exact Or.inr ⟨h1.trans k1,by omega⟩
theorem zLG (p r:Rec):p.wrong r=false↔Bef p r:=by
 unfold Rec.wrong Rec.less Rec.same Bef;rcases Y6 p.key r.key with h|h|h
 ·have h1:Op.bytesLess p.key.toList r.key.toList=true:=h;have h2:(p.key.toList == r.key.toList)=false:=by
   rw [zRU];intro e;exact Yb h (M.Z7 e)
  rw [h1,h2];simp;exact Or.inl h
 ·have h1:Op.bytesLess p.key.toList r.key.toList=false:=by rw [h];exact M.yu _
  have h2:(p.key.toList == r.key.toList)=true:=by rw [h];simp
  have h3:¬zu p.key r.key:=by unfold zu;rw [h1];decide
  rw [h1,h2];simp [h,yP]
 ·have h1:Op.bytesLess p.key.toList r.key.toList=false:=by
   cases hc:Op.bytesLess p.key.toList r.key.toList with
   | false=>rfl
   | true=>exact absurd hc (zAd h)
  have h2:(p.key.toList == r.key.toList)=false:=by
   rw [zRU];intro e;exact Yb h (M.Z7 e).symm
  rw [h1,h2];simp only [Bool.or_false,Bool.not_false,Bool.true_or];refine ⟨fun e=>(by cases e),fun e=>?_⟩;rcases e with e|⟨e,_⟩
  ·exact absurd e (zAd h)
  ·exact absurd e.symm (Yb h)
structure OkB (b:List Rec):Prop where
 some_:b≠[]
 few:b.length≤64
 fits:∀ r∈b,r.fits=true
 ord:b.Pairwise Bef
theorem zOE (hf:∀ r∈b,r.fits=true) (ho:b.Pairwise Bef) {k:Nat} (hr:b[k]?=some r):zBc b k r=false:=by
 unfold zBc;rw [hf r (zQm hr)];by_cases h0:0<k
 ·have hk:k<b.length:=(zQd.1 hr).1;have hp:before b k r=b[k-1]:=by
   unfold before;rw [List.getD_eq_getElem?_getD,zQc (by omega)];rfl
  have hB:Bef b[k-1] b[k]:=zRO.1 ho (k-1) k (by omega) hk (by omega);have hr':r=b[k]:=by
   have:=zQd.1 hr;exact this.2.symm
  rw [hp,hr',(zLG _ _).2 hB];simp
 ·have:k=0:=by omega
  subst this;simp
theorem zGb {b:List Rec} (hf:∀ r∈b,r.fits=true) (ho:b.Pairwise Bef):∀ k,k≤b.length→∃ t,zh b k=some t
 | 0,_=>⟨_,rfl⟩
 | k+1,h=>by
  obtain ⟨t,ht⟩:=zGb hf ho k (by omega);have hr:b[k]?=some b[k]:=zQc (by omega);exact ⟨_,zDe ht hr (zOE hf ho hr)⟩
theorem OkB.text (h:OkB b):∃ t,zK b=some t:=by
 obtain ⟨t,ht⟩:=zGb h.fits h.ord b.length (zQf _);exact ⟨t,by unfold zK;rw [if_neg (by have:=h.few;omega)];exact ht⟩
def zo (k:ByteArray) (R:List Rec):List Rec:=R.filter fun r=>decide (r.key=k)
theorem ZR (k:ByteArray) (A B:List Rec):zo k (A++B)=zo k A++zo k B:=by simp [zo]
theorem Zd :r∈zo k R↔r∈R∧r.key=k:=by simp [zo]
theorem Zx (h:∀ r∈R,r.key≠k):zo k R=[]:=by
 unfold zo;rw [List.filter_eq_nil_iff];intro r hr;simpa using h r hr
theorem zH2 (h:∀ r∈R,r.key=k):zo k R=R:=by
 unfold zo;rw [List.filter_eq_self];intro r hr;simpa using h r hr
def Holds (ap:Ap):List (List Rec)→ByteArray→List Vs→Prop
 | [],_,V=>V=[]
 | b::bs,k,V=>∃ V1 V2,Zt ap (zo k b) V1∧Holds ap bs k V2∧V=V1++V2
theorem Holds.tells {ap:Ap} {k:ByteArray}:∀ {bs:List (List Rec)} {V:List Vs},Holds ap bs k V→Zt ap (zo k bs.flatten) V
 | [],V,h=>by
  have:V=[]:=h;subst this;exact Zt.nil ap
 | b::bs,V,h=>by
  obtain ⟨V1,V2,h1,h2,rfl⟩:=h;rw [zRK,ZR];exact h1.append h2.tells
theorem Holds.append {ap:Ap} {k:ByteArray}:∀ {az bs:List (List Rec)} {V U:List Vs},Holds ap az k V→Holds ap bs k U→Holds ap (az++bs) k (V++U)
 | [],bs,V,U,h,g=>by
  have:V=[]:=h;subst this;exact g
 | a::az,bs,V,U,h,g=>by
  obtain ⟨V1,V2,h1,h2,rfl⟩:=h;exact ⟨V1,V2++U,h1,h2.append g,zQx _ _ _⟩
theorem Holds.split {ap:Ap} {k:ByteArray}:∀ {az bs:List (List Rec)} {V:List Vs},Holds ap (az++bs) k V→∃ V1 V2,Holds ap az k V1∧Holds ap bs k V2∧V=V1++V2
 | [],bs,V,h=>⟨[],V,rfl,h,rfl⟩
 | a::az,bs,V,h=>by
  obtain ⟨V1,V2,h1,h2,rfl⟩:=h;obtain ⟨U1,U2,g1,g2,rfl⟩:=Holds.split h2;exact ⟨V1++U1,U2,⟨V1,U1,h1,g1,rfl⟩,g2,(zQx _ _ _).symm⟩
theorem Holds.one {ap:Ap} {V:List Vs} (h:Zt ap (zo k b) V):Holds ap [b] k V:=⟨V,[],h,rfl,by simp⟩
abbrev zHt (r:Rec) (k:ByteArray) (t:Int):Prop:=zu r.key k∨(r.key=k∧t<r.stamp)
theorem zHt.zOP {p:Rec} (h:Bef p r) (g:zHt r k t):zHt p k t:=by
 rcases h with h|⟨h1,h2⟩
 ·rcases g with g|⟨g1,_⟩
  ·exact Or.inl (YB h g)
  ·exact Or.inl (g1▸h)
 ·rcases g with g|⟨g1,g2⟩
  ·exact Or.inl (h1▸g)
  ·exact Or.inr ⟨h1.trans g1,by omega⟩
theorem zIW {ap:Ap} {az:List (List Rec)} {V:List Vs}
  (hord:((az++b::bs).flatten).Pairwise Bef) (hH:Holds ap (az++b::bs) k V) (ha:∀ r∈az.flatten,zHt r k t)
  (hb:∃ r∈b,¬zHt r k t):∃ U,Zt ap (zo k b) U∧zW V t=zW U t:=by
 obtain ⟨V1,V2,h1,h2,rfl⟩:=hH.split;obtain ⟨U,U2,g1,g2,rfl⟩:=h2;refine ⟨U,g1,?_⟩;have e1:zW V1 t=none:=by
  refine Yk fun v hv=>?_;have hs:=h1.tells.stamps;have:v.stamp∈V1.map (·.stamp):=List.mem_map_of_mem hv;rw [hs,List.mem_map] at this;obtain ⟨r,hr,he⟩:=this;rw [Zd] at hr;rcases ha r hr.1 with h|⟨_,h⟩
  ·exact absurd hr.2 (Yb h)
  ·omega
 rw [Yc,e1];simp only;rw [Yc]
 cases hU:zW U t with
 | some v=>rfl
 | none =>
  simp only;refine Yk fun v hv=>?_;have hs:=g2.tells.stamps;have:v.stamp∈U2.map (·.stamp):=List.mem_map_of_mem hv;rw [hs,List.mem_map] at this;obtain ⟨r,hr,he⟩:=this;rw [Zd] at hr;obtain ⟨x,hx,hnx⟩:=hb;rw [List.flatten_append,zR2] at hord;have hord2:=hord.2.1;rw [zRK,zR2] at hord2;have hB:=hord2.2.2 x hx r hr.1;by_cases hxk:x.key=k
  ·exfalso;have hnx2:x.stamp≤t:=by
    refine Int.not_lt.1 fun hlt=>hnx (Or.inr ⟨hxk,hlt⟩)
   have hxm:x∈zo k b:=Zd.2 ⟨hx,hxk⟩;have:x.stamp∈U.map (·.stamp):=by rw [g1.stamps];exact List.mem_map_of_mem hxm
   rw [List.mem_map] at this;obtain ⟨u,hu,hue⟩:=this;unfold zW at hU;rw [List.find?_eq_none] at hU;have:=hU u hu;simp at this;omega
  ·exfalso;rcases Y6 x.key k with h|h|h
   ·exact hnx (Or.inl h)
   ·exact hxk h
   ·rcases hB with hB|⟨hB,_⟩
    ·rw [hr.2] at hB;exact zAd h hB
    ·rw [hr.2] at hB;exact hxk hB
theorem zKn {ap:Ap} {V:List Vs} (hH:Holds ap bs k V) (ha:∀ r∈bs.flatten,zHt r k t):zW V t=none:=by
 refine Yk fun v hv=>?_;have hs:=hH.tells.stamps;have:v.stamp∈V.map (·.stamp):=List.mem_map_of_mem hv;rw [hs,List.mem_map] at this;obtain ⟨r,hr,he⟩:=this;rw [Zd] at hr;rcases ha r hr.1 with h|⟨_,h⟩
 ·exact absurd hr.2 (Yb h)
 ·omega
abbrev Con:=ByteArray→List Vs
def Con.put (C:Con) (k:ByteArray) (V:List Vs):Con:=fun x=>if x=k then V else C x
structure Wri (ap:Ap) (bs:List (List Rec)) (o:List Rec) (C:Con):Prop where
 holds:∀ k,Holds ap (bs++[o]) k (C k)
 ord:((bs++[o]).flatten).Pairwise Bef
 fits:∀ r∈(bs++[o]).flatten,r.fits=true
 few:o.length≤64
 blk:∀ b∈bs,b≠[]∧b.length≤64
theorem Wri.start (ap:Ap):Wri ap [] [] (fun _=>[]):=
 ⟨fun _=>⟨[],[],Zt.nil ap,rfl,rfl⟩,List.Pairwise.nil,fun _ h=>by simp at h,zQn _,fun _ h=>by simp at h⟩
def Based (ap:Ap) (o:List Rec) (k:ByteArray) (based:Bool) (newer:ByteArray):Prop:=∀ n,∃ U,run ap n (zo k o)=some (U,if based then newer else n)
theorem Based.none {ap:Ap} (newer:ByteArray) (h:∀ r∈o,r.key≠k):Based ap o k false newer:=fun n=>⟨[],by rw [Zx h];rfl⟩
structure Wrote (ap:Ap) (based:Bool) (newer:ByteArray) (r:Rec) (s:ByteArray) (r':Rec):Prop where
 key:r'.key=r.key
 stamp:r'.stamp=r.stamp
 gone:r'.kind=2↔r.kind=2
 fits:r'.fits=true
 here:based=true→valOf ap r' newer=some s
 any:based=false→r.kind≠2→∀ n,valOf ap r' n=some s
 none:based=false→r.kind=2→∀ n,valOf ap r' n=some n
theorem zFg {ap:Ap} (h:valOf ap r n=some s):run ap n [r]=some ([Zv r s],s):=by
 simp [run,h]
theorem Based.push {ap:Ap} {based:Bool} {newer:ByteArray} {r':Rec} (h:Based ap o k based newer) (hk:r.key=k) (hw:Wrote ap based newer r s r') :
  Based ap (o++[r']) k (based || decide (r.kind≠2)) s∧∀ n,∃ U e,run ap n (zo k o)=some (U,e)∧run ap n (zo k (o++[r']))=some (U++[Zv r s],if (based || decide (r.kind≠2))=true then s else n):=by
 have hr':zo k [r']=[r']:=zH2 (fun x hx=>by simp at hx;subst hx;rw [hw.key,hk]);have key:∀ n,∃ U e,run ap n (zo k o)=some (U,e)∧run ap n (zo k (o++[r']))=some (U++[Zv r s],if (based || decide (r.kind≠2))=true then s else n):=fun n=>by
  obtain ⟨U,hU⟩:=h n;refine ⟨U,_,hU,?_⟩;rw [ZR,hr',Yx,hU];simp only;have hv:∀ t,Zv r' t=if r.kind=2 then Zv r s else ⟨r.stamp,some t⟩:=fun t=>by
   unfold Zv;rw [hw.stamp];by_cases h2:r.kind=2
   ·rw [if_pos (hw.gone.2 h2),if_pos h2,if_pos h2]
   ·rw [if_neg (fun e=>h2 (hw.gone.1 e)),if_neg h2]
  have hvs:Zv r' s=Zv r s:=by
   rw [hv s];by_cases h2:r.kind=2
   ·rw [if_pos h2]
   ·rw [if_neg h2];unfold Zv;rw [if_neg h2]
  cases based with
  | true =>
   have h1:=hw.here rfl;simp only [if_true,Bool.true_or];rw [zFg h1,hvs]
  | false =>
   by_cases h2:r.kind=2
   ·have h1:=hw.none rfl h2 n;simp only [zRT,if_false,Bool.false_or];rw [zFg h1,hv n,if_pos h2];simp [h2]
   ·have h1:=hw.any rfl h2 n;simp only [zRT,if_false,Bool.false_or];rw [zFg h1,hvs];simp [h2]
 refine ⟨fun n=>?_,key⟩;obtain ⟨U,e,_,h2⟩:=key n;exact ⟨_,h2⟩
theorem Wri.push {ap:Ap} {bs:List (List Rec)} {o:List Rec} {C:Con} (h:Wri ap bs o C) {k:ByteArray} {based:Bool} {newer s:ByteArray} {r r':Rec} (hB:Based ap o k based newer) (hk:r.key=k) (hw:Wrote ap based newer r s r')
  (hl:o.length<64) (hbef:∀ x∈(bs++[o]).flatten,Bef x r):Wri ap bs (o++[r']) (C.put k (C k++[Zv r s])):=by
 have hflat:(bs++[o++[r']]).flatten=(bs++[o]).flatten++[r']:=by simp
 refine ⟨fun x=>?_,?_,?_,by simp;omega,h.blk⟩
 ·obtain ⟨V1,V2,g1,g2,g3⟩:=(h.holds x).split;obtain ⟨U1,U2,f1,f2,f3⟩:=g2;have f2':U2=[]:=f2;subst f2';rw [zRH] at f3;subst f3;unfold Con.put;by_cases hx:x=k
  ·subst hx;rw [if_pos rfl,g3,zQx];refine g1.append (Holds.one fun n=>?_);obtain ⟨U,e,e1,e2⟩:=(hB.push hk hw).2 n;obtain ⟨e',he'⟩:=f1 n;rw [he'] at e1;injection e1 with e1;injection e1 with e1 _;subst e1;exact ⟨_,e2⟩
  ·rw [if_neg hx,g3];refine g1.append (Holds.one ?_);have:zo x [r']=[]:=Zx (fun y hy=>by simp at hy;subst hy;rw [hw.key,hk];exact fun e=>hx e.symm);rw [ZR,this,zRH];exact f1
 ·rw [hflat,zR2];refine ⟨h.ord,by simp,fun x hx y hy=>?_⟩;simp only [List.mem_singleton] at hy;subst hy;have:=hbef x hx;unfold Bef at *;rw [hw.key,hw.stamp];exact this
 ·intro x hx;rw [hflat,zRY] at hx;rcases hx with hx|hx
  ·exact h.fits x hx
  ·simp only [List.mem_singleton] at hx;subst hx;exact hw.fits
theorem Wri.cut {ap:Ap} {C:Con} (h:Wri ap bs o C) (ho:o≠[]):Wri ap (bs++[o]) [] C:=by
 have hflat:(bs++[o]++[([]:List Rec)]).flatten=(bs++[o]).flatten:=by simp
 refine ⟨fun k=>?_,by rw [hflat];exact h.ord,by rw [hflat];exact h.fits,zQn _,fun b hb=>?_⟩
 ·have:=(h.holds k).append (Holds.one (Zt.nil ap):Holds ap [[]] k []);rw [zRH] at this;exact this
 ·rw [zRY] at hb;rcases hb with hb|hb
  ·exact h.blk b hb
  ·simp only [List.mem_singleton] at hb;subst hb;exact ⟨ho,h.few⟩
theorem Wri.okB {ap:Ap} {C:Con} (h:Wri ap bs o C) (ho:o≠[]):OkB o:=by
 refine ⟨ho,h.few,fun r hr=>h.fits r (by simp;exact Or.inr hr),?_⟩;have:=h.ord;rw [List.flatten_append,zR2] at this;simpa using this.2.1
structure Fil (ap:Ap) (bs:List (List Rec)) (C:Con):Prop where
 holds:∀ k,Holds ap bs k (C k)
 ord:(bs.flatten).Pairwise Bef
 ok:∀ b∈bs,OkB b
theorem Wri.fil {ap:Ap} {C:Con} (h:Wri ap bs [] C):Fil ap bs C:=by
 have hflat:(bs++[([]:List Rec)]).flatten=bs.flatten:=by simp
 have hord:(bs.flatten).Pairwise Bef:=by rw [←hflat];exact h.ord
 refine ⟨fun k=>?_,hord,fun b hb=>⟨(h.blk b hb).1,(h.blk b hb).2,fun r hr=>h.fits r (by rw [hflat];exact List.mem_flatten.2 ⟨b,hb,hr⟩),?_⟩⟩
 ·obtain ⟨V1,V2,g1,g2,g3⟩:=(h.holds k).split;obtain ⟨U1,U2,f1,f2,f3⟩:=g2;have e1:U1=[]:=(Zt.inj f1 (Zt.nil ap));have e2:U2=[]:=f2;subst e1 e2;have:V2=[]:=f3;subst this;rw [g3,zRH];exact g1
 ·rw [List.pairwise_flatten] at hord;exact hord.1 b hb
theorem Fil.none (ap:Ap):Fil ap [] (fun _=>[]):=⟨fun _=>rfl,List.Pairwise.nil,fun _ h=>by simp at h⟩
theorem Fil.keys {ap:Ap} {C:Con} (h:Fil ap bs C) (k:ByteArray):C k=[]↔∀ r∈bs.flatten,r.key≠k:=by
 have ht:=(h.holds k).tells;constructor
 ·intro e r hr hk;have hl:=ht.length;rw [e] at hl;have:zo k bs.flatten=[]:=zQi hl.symm;have hm:r∈zo k bs.flatten:=Zd.2 ⟨hr,hk⟩;rw [this] at hm;simp at hm
 ·intro e;rw [Zx e] at ht;exact Zt.inj ht (Zt.nil ap)
theorem Fil.stamps {ap:Ap} {bs:List (List Rec)} {C:Con} (h:Fil ap bs C) (k:ByteArray):(C k).map (·.stamp)=(zo k bs.flatten).map (·.stamp):=(h.holds k).tells.stamps
theorem Fil.falling {ap:Ap} {C:Con} (h:Fil ap bs C) (k:ByteArray):(C k).Pairwise fun a b=>b.stamp<a.stamp:=by
 have hp:(zo k bs.flatten).Pairwise Bef:=h.ord.sublist List.filter_sublist;have hp2:((zo k bs.flatten).map (·.stamp)).Pairwise fun a b=>b<a:=by
  rw [List.pairwise_map];refine List.Pairwise.imp_of_mem (fun {x y} hx hy hb=>?_) hp;rcases hb with hb|hb
  ·rw [(Zd.1 hx).2,(Zd.1 hy).2] at hb;exact absurd hb (yP _)
  ·exact hb.2
 rw [←h.stamps k,List.pairwise_map] at hp2;exact hp2
theorem zFe {ap:Ap}:∀ {R:List Rec} {n e:ByteArray} {V:List Vs} (j:Nat),run ap n R=some (V,e)→∃ f,run ap n (R.take j)=some (V.take j,f)
 | [],n,e,V,j,h=>by
  simp only [run,zQj,Prod.mk.injEq] at h;obtain ⟨rfl,_⟩:=h;exact ⟨n,by simp [run]⟩
 | r::R,n,e,V,0,h=>⟨n,by simp [run]⟩
 | r::R,n,e,V,j+1,h=>by
  simp only [run] at h
  cases ho:valOf ap r n with
  | none=>rw [ho] at h;cases h
  | some s =>
   rw [ho] at h;simp only at h
   cases hr:run ap s R with
   | none=>rw [hr] at h;cases h
   | some p =>
    obtain ⟨l,f⟩:=p;rw [hr] at h;simp only [zQj,Prod.mk.injEq] at h;obtain ⟨rfl,_⟩:=h;obtain ⟨f',hf'⟩:=zFe j hr;exact ⟨f',by simp only [List.take_succ_cons,run,ho,hf']⟩
theorem Zt.take {ap:Ap} {R:List Rec} {V:List Vs} (h:Zt ap R V) (j:Nat):Zt ap (R.take j) (V.take j):=fun n=>by
 obtain ⟨e,he⟩:=h n;exact zFe j he
def needs (wm:Int):List Vs→Nat
 | []=>0
 | v::l=>if wm<v.stamp then needs wm l+1 else if v.val=none then 0 else 1
def zR (b:List Rec):List UInt8:=M.sealed ((zK b).getD [])
def zQK:Rec:=⟨⟨#[]⟩,0,0,⟨#[]⟩⟩
def zf (b:List Rec):Rec:=b.getLast?.getD zQK
def Zi (b:List Rec):List UInt8:=M.enc 7 (zR b).length++(M.enc 7 (zf b).key.size++((zf b).key.data.toList++M.enc 7 (zf b).stamp.toNat))
def idxOf (bs:List (List Rec)):List UInt8:=(bs.map Zi).flatten
def zm (bs:List (List Rec)):List UInt8:=(bs.map zR).flatten
def yh (bs:List (List Rec)) (wm:Int):List UInt8:=M.enc 7 (wm+1).toNat++idxOf bs
def zBb (t:List UInt8):List UInt8:=M.sealed t++M.sealed (M.enc 7 (2097152+(M.sealed t).length))
def zl (bs:List (List Rec)) (wm:Int):List UInt8:=zm bs++zBb (yh bs wm)
structure Ent where
 lo:Nat
 hi:Nat
 key:ByteArray
 stamp:Nat
def zId (T:List UInt8) (nb a at_:Nat):Ent × Nat:=
 match yJ T nb a with
 | (v,a1)=>match yJ T 64 a1 with
 | (m,a2)=>match zAD T m a2 with
 | (t,a3)=>match yJ T 1099511627776 a3 with
 | (st,a4)=>(⟨at_,at_+v,⟨t.toArray⟩,st⟩,a4)
def zFD (T:List UInt8) (nb a:Nat):Bool:=
 zAn T nb a || (zAn T 64 (yJ T nb a).2 || (zFN T (yJ T 64 (yJ T nb a).2).1 (yJ T 64 (yJ T nb a).2).2 || zAn T 1099511627776 (zAD T (yJ T 64 (yJ T nb a).2).1 (yJ T 64 (yJ T nb a).2).2).2))
def zB9 (T:List UInt8) (nb:Nat):Nat→Nat→Nat→Bool→List Ent→List Ent × Nat × Bool
 | 0,_,at_,bad,l=>(l,at_,bad)
 | f+1,a,at_,bad,l =>
  if a<T.length then zB9 T nb f (zId T nb a at_).2 (zId T nb a at_).1.hi (bad || zFD T nb a) (l++[(zId T nb a at_).1])
  else (l,at_,bad)
theorem zF0 (h:a<T.length):a<(yJ T most a).2∧(yJ T most a).2≤T.length∧(yJ T most a).1≤most:=by
 have h1:=ZE (T:=T) (most:=most) (a:=a) (by omega);refine ⟨?_,h1.1,h1.2.1⟩;unfold yJ
 cases hg:M.ZX T a with
 | none=>exact h
 | some p =>
  obtain ⟨v,nx⟩:=p;have:=M.yH hg;simp only;split
  ·exact h
  ·exact this.2.1
theorem zF1 (h:a≤T.length):a≤(yJ T most a).2:=by
 by_cases hl:a<T.length
 ·exact Nat.le_of_lt (zF0 hl).1
 ·have:a=T.length:=by omega
  unfold yJ
  cases hg:M.ZX T a with
  | none=>exact h
  | some p =>
   obtain ⟨v,nx⟩:=p;have:=M.yH hg;omega
theorem zL3 {n:Nat} (h:a≤T.length):a≤(zAD T n a).2:=by
 unfold zAD;split
 ·exact h
 ·exact Nat.le_add_right _ _
def Row:Nat→List Ent→Nat→Prop
 | a,[],b=>a=b
 | a,e::l,b=>e.lo=a∧a≤e.hi∧Row e.hi l b
theorem Row.snoc {e:Ent}:∀ {l:List Ent} {a:Nat},Row a l e.lo→e.lo≤e.hi→Row a (l++[e]) e.hi
 | [],a,h,h2=>by
  have:a=e.lo:=h;exact ⟨this.symm,by omega,rfl⟩
 | x::l,a,h,h2=>⟨h.1,h.2.1,Row.snoc h.2.2 h2⟩
theorem Row.le:∀ {l:List Ent} {a b:Nat},Row a l b→a≤b
 | [],a,b,h=>by
  have:a=b:=h;omega
 | e::l,a,b,h=>zQq h.2.1 h.2.2.le
theorem Row.at:∀ {l:List Ent} {a b i:Nat} {e:Ent},Row a l b→l[i]?=some e→a≤e.lo∧e.lo≤e.hi∧e.hi≤b
 | [],a,b,i,e,h,hi=>by simp at hi
 | x::l,a,b,0,e,h,hi=>by
  simp only [zQt,zQj] at hi;subst hi;exact ⟨by have:=h.1;omega,by have:=h.1;have:=h.2.1;omega,h.2.2.le⟩
 | x::l,a,b,i+1,e,h,hi=>by
  have:=Row.at h.2.2 (i:=i) (e:=e) (by simpa using hi);exact ⟨zQq h.2.1 this.1,this.2⟩
def zEm (at_:Nat) (b:List Rec):Ent:=⟨at_,at_+(zR b).length,(zf b).key,(zf b).stamp.toNat⟩
def yT:Nat→List (List Rec)→List Ent
 | _,[]=>[]
 | at_,b::bs=>zEm at_ b::yT (at_+(zR b).length) bs
theorem ZG:∀ (at_:Nat) (bs:List (List Rec)),(yT at_ bs).length=bs.length
 | _,[]=>rfl
 | at_,b::bs=>by simp [yT,ZG _ bs]
theorem zES:∀ {bs:List (List Rec)} {at_ i:Nat} {b:List Rec},bs[i]?=some b→∃ p,(yT at_ bs)[i]?=some (zEm p b)∧p=at_+(zm (bs.take i)).length
 | [],at_,i,b,h=>by simp at h
 | x::bs,at_,0,b,h=>by
  simp only [zQt,zQj] at h;subst h;exact ⟨at_,rfl,by simp [zm]⟩
 | x::bs,at_,i+1,b,h=>by
  obtain ⟨p,h1,h2⟩:=zES (bs:=bs) (at_:=at_+(zR x).length) (i:=i) (b:=b) (by simpa using h);refine ⟨p,by simpa [yT] using h1,?_⟩;rw [h2];simp only [List.take_succ_cons,zm,zRI,zRK,zQg];omega
theorem zA9 (az bs:List (List Rec)):zm (az++bs)=zm az++zm bs:=by simp [zm]
theorem zHi (b:List Rec):zm [b]=zR b:=by simp [zm]
theorem zPO (h:bs[i]?=some b):((zm bs).drop (zm (bs.take i)).length).take (zR b).length=zR b:=by
 have hi:i<bs.length:=(zQd.1 h).1;have hb:bs[i]=b:=(zQd.1 h).2;have e:bs=bs.take i++b::bs.drop (i+1):=by rw [←hb,List.getElem_cons_drop,zRB]
 have e2:zm bs=zm (bs.take i)++(zR b++zm (bs.drop (i+1))):=by
  have:=congrArg zm e;rw [zA9] at this;rw [this];simp [zm]
 rw [e2,List.drop_left,List.take_left]
theorem zAG (h:Sits T a (l++m)):Sits T a l:=(yF h).1
theorem Yf (h:Sits T a (l++m)):Sits T (a+l.length) m:=(yF h).2
theorem Zq (h:b≠[]):zf b∈b:=by
 unfold zf
 cases hb:b.getLast? with
 | none=>exact absurd (List.getLast?_eq_none_iff.1 hb) h
 | some r=>exact List.mem_of_getLast? hb
theorem zKr {nb at_:Nat} (hb:OkB b) (hn:(zR b).length≤nb) (hnb:nb<72057594037927936) (h:Sits T a (Zi b)) :
  zId T nb a at_=(zEm at_ b,a+(Zi b).length)∧zFD T nb a=false:=by
 have hf:=hb.fits _ (Zq hb.some_);simp only [Rec.fits,zRa] at hf;obtain ⟨f1,f2,f3,f4,f5,f6,f7⟩:=hf;unfold Zi at h;have s1:=zAG h;have s2:=zAG (Yf h);have s3:=zAG (Yf (Yf h));have s4:=Yf (Yf (Yf h));have hk:(zf b).key.data.toList.length=(zf b).key.size:=by simp
 have e1:=ZN (most:=nb) s1 (by omega) hn;have e2:=ZN (most:=64) s2 (by omega) f2;have e3:=zCu s3;rw [hk] at e3;have e4:=ZN (most:=1099511627776) s4 (by omega) (by omega);have g1:=zAY (most:=nb) s1 (by omega) hn;have g2:=zAY (most:=64) s2 (by omega) f2;have g3:=zIs s3;rw [hk] at g3;have g4:=zAY (most:=1099511627776) s4 (by omega) (by omega);constructor
 ·rw [hk] at e4;unfold zId;simp only [e1,e2,e3,e4];unfold zEm Zi;simp only [zQg,hk];congr 1;omega
 ·unfold zFD;rw [hk] at g4;simp only [e1,e2,e3,g1,g2,g3,g4,Bool.or_self]
theorem zER {T:List UInt8} {nb:Nat} (hnb:nb<72057594037927936):∀ (bs:List (List Rec)) (f a at_:Nat) (l:List Ent),(∀ b∈bs,OkB b)→at_+(zm bs).length≤nb→Sits T a (idxOf bs)→a+(idxOf bs).length=T.length→(idxOf bs).length≤f →
  zB9 T nb f a at_ false l=(l++yT at_ bs,at_+(zm bs).length,false)
 | [],f,a,at_,l,_,_,_,h3,_=>by
  have h3':a=T.length:=by simpa [idxOf] using h3
  cases f with
  | zero=>simp [zB9,yT,zm]
  | succ f =>
   unfold zB9;rw [if_neg (by omega)];simp [yT,zm]
 | b::bs,f,a,at_,l,hok,h1,h2,h3,h4=>by
  have hb:=hok b (by simp);have e0:idxOf (b::bs)=Zi b++idxOf bs:=by simp [idxOf]
  have e0':zm (b::bs)=zR b++zm bs:=by simp [zm]
  rw [e0] at h2 h3 h4;rw [e0'] at h1;rw [zQg] at h1 h3 h4;have hpos:0<(Zi b).length:=by
   unfold Zi;rw [zQg];have:=M.Z4 7 (zR b).length;omega
  cases f with
  | zero=>omega
  | succ f =>
   obtain ⟨g1,g2⟩:=zKr (at_:=at_) hb (by omega) hnb (zAG h2);unfold zB9;rw [if_pos (by omega),g1,g2];simp only [Bool.or_self];rw [zER hnb bs f (a+(Zi b).length) (zEm at_ b).hi _ (fun x hx=>hok x (by simp [hx])) (by unfold zEm;simp only;omega) (Yf h2) (by omega) (by omega)];rw [e0',zQg];simp only [yT,zEm,zQx,List.singleton_append,Prod.mk.injEq,and_true,true_and];omega
structure Lay where
 wm:Int
 blocks:List UInt8
 ents:List Ent
def Ym (blocks T:List UInt8):Option Lay:=
 match yJ T 1099511627777 0,zB9 T blocks.length T.length (yJ T 1099511627777 0).2 0 (zAn T 1099511627777 0) [] with
 | (v,_),(l,at_,bad)=>if bad=true∨at_≠blocks.length then none else some ⟨(v:Int)-1,blocks,l⟩
theorem zGr (hok:∀ b∈bs,OkB b) (hw:-1≤wm) (hw2:wm≤1099511627776) (hnb:(zm bs).length<72057594037927936):Ym (zm bs) (yh bs wm)=some ⟨wm,zm bs,yT 0 bs⟩:=by
 unfold Ym yh;have s:Sits (M.enc 7 (wm+1).toNat++idxOf bs) 0 (M.enc 7 (wm+1).toNat++idxOf bs):=⟨[],[],by simp,rfl⟩;have e1:=ZN (most:=1099511627777) (zAG s) (by omega) (by omega);have e2:=zAY (most:=1099511627777) (zAG s) (by omega) (by omega);rw [e1,e2];simp only;have h0:0<(M.enc 7 (wm+1).toNat).length:=M.Z4 7 _;rw [zER hnb bs _ _ 0 [] hok (by omega) (Yf s) (by simp) (by simp)];simp;omega
def zAR (T:List UInt8) (n:Int):Option (List UInt8 × List UInt8):=
 if n<4∨(T.length:Int)<n then none
 else if (T.drop (T.length-4))=M.le4 (M.sum ((T.drop (T.length-n.toNat)).take (n.toNat-4))) then some (T.take (T.length-n.toNat),(T.drop (T.length-n.toNat)).take (n.toNat-4)) else none
theorem zCT (A t:List UInt8):zAR (A++M.sealed t) ((M.sealed t).length:Nat)=some (A,t):=by
 have hl:=M.ze t;unfold zAR;have h4:(M.le4 (M.sum t)).length=4:=rfl;have e1:(A++M.sealed t).length-(M.sealed t).length=A.length:=by rw [zQg];omega
 have e2:(A++M.sealed t).drop ((A++M.sealed t).length-4)=M.le4 (M.sum t):=by
  have:(A++M.sealed t).length-4=(A++t).length:=by rw [zQg,zQg,hl];omega
  rw [this];unfold M.sealed;rw [←zQx,List.drop_left]
 rw [if_neg (by rw [zQg];omega),zRA,e1,e2,List.drop_left,List.take_left];have e3:(M.sealed t).take ((M.sealed t).length-4)=t:=by
  rw [hl,zRS];unfold M.sealed;rw [List.take_left]
 rw [e3,if_pos rfl]
def readFile (T:List UInt8):Option Lay:=
 match zAR T 8 with
 | none=>none
 | some (A,foot) =>
  match zAR A (((yJ foot 72057594037927935 0).1:Int)-2097152) with
  | none=>none
  | some (blocks,idx)=>Ym blocks idx
theorem enc4 (n:Nat) (h1:2097152≤n) (h2:n<268435456):(M.enc 7 n).length=4:=by
 unfold M.enc M.enc M.enc M.enc;rw [if_neg (by omega),if_neg (by omega),if_neg (by omega),if_pos (by omega)];rfl
theorem zFj (hok:∀ b∈bs,OkB b) (hw:-1≤wm) (hw2:wm≤1099511627776) (hs:(zl bs wm).length≤1048576):readFile (zl bs wm)=some ⟨wm,zm bs,yT 0 bs⟩:=by
 have hl:(zl bs wm).length=(zm bs).length+(zBb (yh bs wm)).length:=by unfold zl;rw [zQg]
 have hle:(zBb (yh bs wm)).length=(M.sealed (yh bs wm)).length+(M.sealed (M.enc 7 (2097152+(M.sealed (yh bs wm)).length))).length:=by unfold zBb;rw [zQg]
 have h8:(M.sealed (M.enc 7 (2097152+(M.sealed (yh bs wm)).length))).length=8:=by rw [M.ze,enc4 _ (by omega) (by omega)]
 have e:zl bs wm=(zm bs++M.sealed (yh bs wm))++M.sealed (M.enc 7 (2097152+(M.sealed (yh bs wm)).length)):=by unfold zl zBb;rw [zQx]
 have c1:=zCT (zm bs++M.sealed (yh bs wm)) (M.enc 7 (2097152+(M.sealed (yh bs wm)).length));rw [h8,←e] at c1;have s:Sits (M.enc 7 (2097152+(M.sealed (yh bs wm)).length)) 0 (M.enc 7 (2097152+(M.sealed (yh bs wm)).length)):=⟨[],[],by simp,rfl⟩;have e1:=ZN (most:=72057594037927935) s (by omega) (by omega);unfold readFile;rw [show ((8:Nat):Int)=8 from rfl] at c1;rw [c1];simp only;rw [e1];simp only;rw [show ((2097152+(M.sealed (yh bs wm)).length:Nat):Int)-2097152=((M.sealed (yh bs wm)).length:Nat) by omega,zCT];simp only;exact zGr hok hw hw2 (by omega)
def low:List ByteArray→List ByteArray→ByteArray
 | [],[]=>⟨#[]⟩
 | a::_,[]=>a
 | [],b::_=>b
 | a::_,b::_=>if zu a b then a else b
def beh (l:List ByteArray) (k:ByteArray):List ByteArray:=
 match l with
 | []=>[]
 | a::t=>if a=k then t else a::t
def uni:Nat→List ByteArray→List ByteArray→List ByteArray
 | 0,_,_=>[]
 | n+1,l,r=>if l=[]∧r=[] then [] else low l r::uni n (beh l (low l r)) (beh r (low l r))
theorem Yd (a:ByteArray) (t:List ByteArray):beh (a::t) a=t:=by simp [beh]
theorem zMg {a:ByteArray} (h:a≠k) (t:List ByteArray):beh (a::t) k=a::t:=by simp [beh,h]
theorem zGG (k:ByteArray):beh [] k=[]:=rfl
theorem zFQ (l:List ByteArray) (k:ByteArray):(beh l k).length≤l.length:=by
 cases l with
 | nil=>simp [beh]
 | cons a t=>unfold beh;simp only;split<;>simp
theorem zMf (l:List ByteArray) (k:ByteArray):(beh l k).Sublist l:=by
 cases l with
 | nil=>simp [beh]
 | cons a t =>
  unfold beh;simp only;split
  ·exact List.sublist_cons_self ..
  ·exact List.Sublist.refl _
theorem zGH {l r:List ByteArray} (h:¬(l=[]∧r=[])):(beh l (low l r)).length+(beh r (low l r)).length<l.length+r.length:=by
 have hl:=zFQ l (low l r);have hr:=zFQ r (low l r)
 cases l with
 | nil=>cases r with
  | nil=>exact absurd ⟨rfl,rfl⟩ h
  | cons b u=>simp [low,Yd,zGG]
 | cons a t=>cases r with
  | nil=>simp [low,Yd,zGG]
  | cons b u =>
   unfold low at hl hr ⊢;simp only at hl hr ⊢;split
   ·rename_i hk;rw [if_pos hk] at hr;rw [Yd];simp only [zQl] at hr ⊢;omega
   ·rename_i hk;rw [if_neg hk] at hl;rw [Yd];simp only [zQl] at hl ⊢;omega
theorem zPR {l r:List ByteArray} (hl:l.Pairwise zu) (hr:r.Pairwise zu) (h:¬(l=[]∧r=[])) :
  (∀ x,x∈l∨x∈r↔x=low l r∨x∈beh l (low l r)∨x∈beh r (low l r))∧(∀ x,x∈beh l (low l r)∨x∈beh r (low l r)→zu (low l r) x):=by
 cases l with
 | nil=>cases r with
  | nil=>exact absurd ⟨rfl,rfl⟩ h
  | cons b u =>
   have hp:=zRQ.1 hr;simp only [low,Yd,zGG,List.not_mem_nil,false_or,zRZ];exact ⟨fun x=>trivial,fun x hx=>hp.1 x hx⟩
 | cons a t=>cases r with
  | nil =>
   have hp:=zRQ.1 hl;simp only [low,Yd,zGG,List.not_mem_nil,or_false,zRZ];exact ⟨fun x=>trivial,fun x hx=>hp.1 x hx⟩
  | cons b u =>
   have hp:=zRQ.1 hl;have hq:=zRQ.1 hr;unfold low;simp only;split
   ·rename_i hk;rw [Yd,zMg (Yb hk).symm];simp only [zRZ];refine ⟨fun x=>?_,fun x hx=>?_⟩
    ·constructor
     ·rintro ((h1|h1)|h1)
      ·exact Or.inl h1
      ·exact Or.inr (Or.inl h1)
      ·exact Or.inr (Or.inr h1)
     ·rintro (h1|h1|h1)
      ·exact Or.inl (Or.inl h1)
      ·exact Or.inl (Or.inr h1)
      ·exact Or.inr h1
    ·rcases hx with hx|hx|hx
     ·exact hp.1 x hx
     ·rw [hx];exact hk
     ·exact YB hk (hq.1 x hx)
   ·rename_i hk;rw [Yd];by_cases hab:a=b
    ·subst hab;rw [Yd];simp only [zRZ];refine ⟨fun x=>?_,fun x hx=>hx.elim (hp.1 x) (hq.1 x)⟩;constructor
     ·rintro ((h1|h1)|(h1|h1))
      ·exact Or.inl h1
      ·exact Or.inr (Or.inl h1)
      ·exact Or.inl h1
      ·exact Or.inr (Or.inr h1)
     ·rintro (h1|h1|h1)
      ·exact Or.inl (Or.inl h1)
      ·exact Or.inl (Or.inr h1)
      ·exact Or.inr (Or.inr h1)
    ·have hba:zu b a:=by
      rcases Y6 a b with h1|h1|h1
      ·exact absurd h1 hk
      ·exact absurd h1 hab
      ·exact h1
     rw [zMg hab];simp only [zRZ];refine ⟨fun x=>?_,fun x hx=>?_⟩
     ·constructor
      ·rintro ((h1|h1)|(h1|h1))
       ·exact Or.inr (Or.inl (Or.inl h1))
       ·exact Or.inr (Or.inl (Or.inr h1))
       ·exact Or.inl h1
       ·exact Or.inr (Or.inr h1)
      ·rintro (h1|(h1|h1)|h1)
       ·exact Or.inr (Or.inl h1)
       ·exact Or.inl (Or.inl h1)
       ·exact Or.inl (Or.inr h1)
       ·exact Or.inr (Or.inr h1)
     ·rcases hx with (hx|hx)|hx
      ·rw [hx];exact hba
      ·exact YB hba (hp.1 x hx)
      ·exact hq.1 x hx
theorem zLN:∀ (n:Nat) {l r:List ByteArray},l.Pairwise zu→r.Pairwise zu→l.length+r.length≤n→(uni n l r).Pairwise zu∧∀ x,x∈uni n l r↔x∈l∨x∈r
 | 0,l,r,hl,hr,hn=>by
  have e1:l=[]:=zQi (by omega);have e2:r=[]:=zQi (by omega);subst e1 e2;simp [uni]
 | n+1,l,r,hl,hr,hn=>by
  unfold uni;by_cases h:l=[]∧r=[]
  ·rw [if_pos h,h.1,h.2];simp
  ·rw [if_neg h];have hless:=zGH h;obtain ⟨h1,h2⟩:=zPR hl hr h;obtain ⟨g1,g2⟩:=zLN n (hl.sublist (zMf l (low l r))) (hr.sublist (zMf r (low l r))) (by omega);refine ⟨zRQ.2 ⟨fun x hx=>h2 x ((g2 x).1 hx),g1⟩,fun x=>?_⟩;rw [zRZ,g2 x,h1 x]
def inK (V:List ByteArray) (k:ByteArray):Bool:=V.any fun x=>decide (x=k)
theorem YK :inK V k=true↔k∈V:=by
 unfold inK;rw [List.any_eq_true];exact ⟨fun ⟨x,h1,h2⟩=>(of_decide_eq_true h2)▸h1,fun h=>⟨k,h,by simp⟩⟩
theorem zF8 (h:k∉V):inK V k=false:=by
 cases hb:inK V k with
 | false=>rfl
 | true=>exact absurd (YK.1 hb) h
theorem zE1 {k:ByteArray} {V:List ByteArray} (hk:∀ v∈V,zu k v):∀ {F:List Rec},F.Pairwise Bef→F.filter (fun r=>inK (k::V) r.key)=zo k F++F.filter (fun r=>inK V r.key)
 | [],_=>rfl
 | r::F,h=>by
  have hp:=zRQ.1 h;have ih:=zE1 hk hp.2;by_cases h1:r.key=k
  ·have h2:r.key∉V:=fun hv=>yP k (by have:=hk _ hv;rw [h1] at this;exact this);have e1:inK (k::V) r.key=true:=YK.2 (by simp [h1]);have e2:inK V r.key=false:=zF8 h2;have e3:zo k (r::F)=r::zo k F:=by simp [zo,h1]
   rw [List.filter_cons_of_pos (by exact e1),List.filter_cons_of_neg (by simp [e2]),ih,e3,zQy]
  ·have e3:zo k (r::F)=zo k F:=by simp [zo,h1]
   by_cases h2:r.key∈V
   ·
    have hno:zo k F=[]:=Zx fun x hx e=>by
     rcases hp.1 x hx with hb|hb
     ·exact zAd (hk _ h2) (by rw [e] at hb;exact hb)
     ·exact h1 (by rw [hb.1,e])
    have e1:inK (k::V) r.key=true:=YK.2 (List.mem_cons_of_mem _ h2);have e2:inK V r.key=true:=YK.2 h2;rw [List.filter_cons_of_pos (by exact e1),List.filter_cons_of_pos (by exact e2),ih,e3,hno];rfl
   ·rw [List.filter_cons_of_neg (by rw [zF8 (by simp [h1,h2])];simp),List.filter_cons_of_neg (by rw [zF8 h2];simp),ih,e3]
def zBg (F:List Rec) (U:List ByteArray) (i:Nat):List Rec:=F.filter fun r=>inK (U.drop i) r.key
theorem zI5 (h:∀ r∈F,r.key∈U):zBg F U 0=F:=by
 unfold zBg;rw [List.drop_zero,List.filter_eq_self];exact fun r hr=>YK.2 (h r hr)
theorem zI6 (hF:F.Pairwise Bef) (hU:U.Pairwise zu) (hk:U[i]?=some k):zBg F U i=zo k F++zBg F U (i+1)∧∀ r∈zBg F U (i+1),r.key≠k:=by
 obtain ⟨hi,he⟩:=zQd.1 hk;have hd:U.drop i=k::U.drop (i+1):=by rw [←he,List.drop_eq_getElem_cons hi]
 have hp:(U.drop i).Pairwise zu:=hU.sublist (List.drop_sublist ..);rw [hd] at hp;have hp':=zRQ.1 hp;refine ⟨?_,fun r hr e=>?_⟩
 ·unfold zBg;rw [hd];exact zE1 hp'.1 hF
 ·unfold zBg at hr;rw [List.mem_filter] at hr;have:=YK.1 hr.2;exact yP k (by have h:=hp'.1 _ this;rw [e] at h;exact h)
def zAA (rs:List Rec):List Vs:=rs.reverse.map fun r=>⟨r.stamp,if r.kind=2 then none else some r.body⟩
structure zPc (k:ByteArray) (r:Rec):Prop where
 key:r.key=k
 fits:r.fits=true
 kind:r.kind=0∨(r.kind=2∧r.body.size=0)
 size:r.body.size≤4096
theorem zPc.val {ap:Ap} (h:zPc k r) (n:ByteArray):∃ s,valOf ap r n=some s∧Zv r s=⟨r.stamp,if r.kind=2 then none else some r.body⟩:=by
 rcases h.kind with h0|⟨h2,hb⟩
 ·refine ⟨r.body,by unfold valOf;rw [if_pos h0,if_pos h.size],by unfold Zv;rw [if_neg (by omega)]⟩
 ·refine ⟨n,by unfold valOf;rw [if_neg (by omega),if_pos h2,if_pos hb],by unfold Zv;rw [if_pos h2,if_pos h2]⟩
theorem zEz {ap:Ap} {k:ByteArray}:∀ {R:List Rec},(∀ r∈R,zPc k r)→Zt ap R (R.map fun r=>⟨r.stamp,if r.kind=2 then none else some r.body⟩)
 | [],_=>Zt.nil ap
 | r::R,h=>fun n=>by
  obtain ⟨s,h1,h2⟩:=(h r (by simp)).val (ap:=ap) n;obtain ⟨e,he⟩:=zEz (ap:=ap) (R:=R) (fun x hx=>h x (List.mem_cons_of_mem _ hx)) s;exact ⟨e,by simp only [run,h1,he,h2,zRI]⟩
theorem zAQ:∀ (f j n:Nat),n<128 ^ (j+1)→(M.enc f n).length≤j+1
 | 0,j,n,_=>by simp [M.enc]
 | f+1,j,n,h=>by
  simp only [M.enc];split
  ·simp
  ·rename_i hn
   cases j with
   | zero=>simp at h;omega
   | succ j =>
    have h2:n / 128<128 ^ (j+1):=by
     rw [Nat.div_lt_iff_lt_mul (by omega)];rw [Nat.pow_succ] at h;exact h
    have:=zAQ f j (n / 128) h2;simp;omega
theorem zNz (rs:List Rec) (k:Nat) (r:Rec) (h:r.fits=true):(entry rs k r).length≤11+r.key.size+r.body.size:=by
 simp only [Rec.fits,zRa] at h;have hs:=zAV rs k r;have h1:=zAQ 7 0 (zV rs k r) (by omega);have h2:=zAQ 7 0 (r.key.size-zV rs k r) (by omega);have h3:=zAQ 7 5 r.stamp.toNat (by have:=h.2.2.2.2.1;have:(128:Nat) ^ (5+1)=4398046511104:=(by decide);omega);have h4:=zAQ 7 1 r.body.size (by have:(128:Nat) ^ (1+1)=16384:=(by decide);omega);have h5:(r.key.data.toList.drop (zV rs k r)).length≤r.key.size:=by simp
 have h6:r.body.data.toList.length=r.body.size:=by simp
 simp only [entry,zQg,List.length_singleton];omega
def zEH (r:Rec):Nat:=11+r.key.size+r.body.size
theorem zGc {rs:List Rec} (hl:rs.length≤64):∀ {k:Nat} {t:List UInt8},zh rs k=some t→t.length≤1+((rs.take k).map zEH).sum
 | 0,t,h=>by
  simp only [zh,zQj] at h;subst h;have:=zAQ 7 0 rs.length (by omega);simp;omega
 | k+1,t,h=>by
  simp only [zh] at h
  cases ht:zh rs k with
  | none=>rw [ht] at h;simp at h
  | some t0 =>
   cases hr:rs[k]? with
   | none=>rw [ht,hr] at h;simp at h
   | some r =>
    rw [ht,hr] at h;simp only at h;split at h
    ·simp at h
    ·rename_i hb;simp only [zQj] at h;subst h;have h1:=zGc hl ht;have hf:r.fits=true:=by
      cases hff:r.fits with
      | true=>rfl
      | false=>simp [zBc,hff] at hb
     have h2:=zNz rs k r hf;have e:rs.take (k+1)=rs.take k++[r]:=by rw [zRG,hr];rfl
     rw [e];simp only [zQg,List.map_append,List.sum_append,zRI,List.map_nil,List.sum_cons,List.sum_nil,zEH] at h1 ⊢;omega
theorem zCv (h:OkB b):(zR b).length≤5+(b.map zEH).sum:=by
 obtain ⟨t,ht⟩:=h.text;unfold zR;rw [M.ze,ht];unfold zK at ht;rw [if_neg (by have:=h.few;omega)] at ht;have:=zGc h.few ht;rw [zQk (zQf _)] at this;simp only [zQo];omega
theorem zCN:∀ {b:List Rec},(∀ r∈b,r.fits=true)→(b.map zEH).sum≤4275*b.length
 | [],_=>by simp
 | r::b,h=>by
  have h1:=h r (by simp);simp only [Rec.fits,zRa] at h1;have:=zCN (b:=b) (fun x hx=>h x (by simp [hx]));simp only [zRI,List.sum_cons,zQl,zEH] at this ⊢;omega
def zIk (r:Rec):Nat:=26+2*r.key.size+r.body.size
def costs (R:List Rec):Nat:=(R.map zIk).sum
theorem zHW (A B:List Rec):costs (A++B)=costs A+costs B:=by simp [costs]
theorem zOX:∀ {b:List Rec} (k:Nat),b≠[]→(∃ r∈b,r.key.size=k)→15+k+(b.map zEH).sum≤costs b
 | [],_,h,_=>absurd rfl h
 | [r],k,_,⟨x,hx,hk⟩=>by
  simp at hx;subst hx;simp [costs,zIk,zEH];omega
 | r::s::b,k,_,⟨x,hx,hk⟩=>by
  have hle:∀ l:List Rec,(l.map zEH).sum≤costs l:=fun l=>by
   induction l with
   | nil=>simp [costs]
   | cons y l ih =>
    simp only [costs,zRI,List.sum_cons,zIk,zEH] at ih ⊢;omega
  rcases zRZ.1 hx with rfl|hx
  ·have:=hle (s::b);simp only [costs,zRI,List.sum_cons,zIk,zEH] at this ⊢;omega
  ·have:=zOX (b:=s::b) k (by simp) ⟨x,hx,hk⟩;simp only [costs,zRI,List.sum_cons,zIk,zEH] at this ⊢;omega
theorem zKs (h:OkB b):(zR b).length+(Zi b).length≤costs b:=by
 have h1:=zCv h;have hm:=Zq h.some_;have hf:=h.fits _ hm;simp only [Rec.fits,zRa] at hf;have h2:=zCN h.fits;have h3:=h.few;have e1:=zAQ 7 2 (zR b).length (by have:(128:Nat) ^ (2+1)=2097152:=(by decide);omega);have e2:=zAQ 7 0 (zf b).key.size (by omega);have e3:=zAQ 7 5 (zf b).stamp.toNat (by have:(128:Nat) ^ (5+1)=4398046511104:=(by decide);omega);have e4:(zf b).key.data.toList.length=(zf b).key.size:=by simp
 have h4:=zOX (zf b).key.size h.some_ ⟨_,hm,rfl⟩;unfold Zi;simp only [zQg];omega
theorem zCX:∀ {bs:List (List Rec)},(∀ b∈bs,OkB b)→(zm bs).length+(idxOf bs).length≤costs bs.flatten
 | [],_=>by simp [zm,idxOf,costs]
 | b::bs,h=>by
  have h1:=zKs (h b (by simp));have h2:=zCX (bs:=bs) (fun x hx=>h x (by simp [hx]));have e1:zm (b::bs)=zR b++zm bs:=by simp [zm]
  have e2:idxOf (b::bs)=Zi b++idxOf bs:=by simp [idxOf]
  rw [e1,e2,zRK,zHW];simp only [zQg];omega
theorem zJV (hw:wm≤1099511627776) (hs:(idxOf bs).length≤100000000):(zBb (yh bs wm)).length≤18+(idxOf bs).length:=by
 have e1:=zAQ 7 5 (wm+1).toNat (by have:(128:Nat) ^ (5+1)=4398046511104:=(by decide);omega);have h2:(M.sealed (yh bs wm)).length=(M.enc 7 (wm+1).toNat).length+(idxOf bs).length+4:=by rw [M.ze];unfold yh;simp
 unfold zBb;rw [zQg,M.ze (M.enc 7 _),enc4 _ (by omega) (by omega),h2];omega
theorem zIb (h:∀ b∈bs,OkB b) (hw:wm≤1099511627776) (hs:costs bs.flatten≤100000000):(zl bs wm).length≤18+costs bs.flatten:=by
 have h1:=zCX h;have h2:=zJV (bs:=bs) hw (by omega);unfold zl;rw [zQg];omega
theorem zFY {α β:Type} (f:α→Nat) (g:β→Nat) (R:α→β→Prop):∀ (L:List α) (K:List β),L.Pairwise (fun x x'=>∀ y,R x y→¬R x' y)→(∀ x∈L,∃ y∈K,R x y∧f x≤g y)→(L.map f).sum≤(K.map g).sum
 | [],K,_,_=>by simp
 | x::L,K,hp,h=>by
  obtain ⟨y,hy,hR,hf⟩:=h x (by simp);obtain ⟨A,B,rfl⟩:=List.append_of_mem hy;have hp':=zRQ.1 hp;have ih:=zFY f g R L (A++B) hp'.2 (fun x' hx'=>by
   obtain ⟨y',hy',hR',hf'⟩:=h x' (by simp [hx']);refine ⟨y',?_,hR',hf'⟩;have hne:y'≠y:=fun e=>hp'.1 x' hx' y hR (by rw [←e];exact hR');simp only [zRY,zRZ] at hy' ⊢;rcases hy' with h1|h1|h1
   ·exact Or.inl h1
   ·exact absurd h1 hne
   ·exact Or.inr h1)
  simp only [zRI,List.sum_cons,List.map_append,List.sum_append] at ih ⊢;omega
end Go.Proofs.YtekdenkllipehabGreatDoor.S
