import Derived.Test.YtekdenkllipehabGreatDoorK04
import Derived.Test.YtekdenkllipehabGreatDoorK07
set_option maxRecDepth 100000
set_option maxHeartbeats 8000000
namespace Go.Proofs.YtekdenkllipehabGreatDoor.S
open Go.RowKit
abbrev Ap:=ByteArray→ByteArray→Option ByteArray
structure Vs where
 stamp:Int
 val:Option ByteArray
def valOf (ap:Ap) (r:Rec) (n:ByteArray):Option ByteArray:=
 if r.kind=0 then (if r.body.size≤4096 then some r.body else none)
 else if r.kind=2 then (if r.body.size=0 then some n else none)
 else match ap r.body n with
  | some s=>if r.body.size≤s.size∧s.size≤4096 then some s else none
  | none=>none
def verOf (r:Rec) (s:ByteArray):Vs:=⟨r.stamp,if r.kind=2 then none else some s⟩
def run (ap:Ap):ByteArray→List Rec→Option (List Vs × ByteArray)
 | n,[]=>some ([],n)
 | n,r::rs =>
  match valOf ap r n with
  | none=>none
  | some s =>
   match run ap s rs with
   | none=>none
   | some (l,e)=>some (verOf r s::l,e)
theorem run_append (ap:Ap):∀ (A B:List Rec) (n:ByteArray),run ap n (A++B)=match run ap n A with
  | none=>none
  | some (l,e)=>match run ap e B with
   | none=>none
   | some (m,f)=>some (l++m,f)
 | [],B,n=>by
  simp only [List.nil_append,run]
  cases run ap n B with
  | none=>rfl
  | some p=>rfl
 | r::A,B,n=>by
  simp only [List.cons_append,run]
  cases valOf ap r n with
  | none=>rfl
  | some s =>
   simp only [run_append ap A B s]
   cases run ap s A with
   | none=>rfl
   | some p =>
    simp only
    cases run ap p.2 B with
    | none=>rfl
    | some q=>rfl
def Tells (ap:Ap) (R:List Rec) (V:List Vs):Prop:=∀ n,∃ e,run ap n R=some (V,e)
theorem Tells.nil (ap:Ap):Tells ap [] []:=fun n=>⟨n,rfl⟩
theorem Tells.append {ap:Ap} {A B:List Rec} {V U:List Vs} (h:Tells ap A V) (k:Tells ap B U):Tells ap (A++B) (V++U):=fun n=>by
 obtain ⟨e,he⟩:=h n
 obtain ⟨f,hf⟩:=k e
 exact ⟨f,by rw [run_append,he];simp only [hf]⟩
theorem Tells.inj {ap:Ap} {A:List Rec} {V U:List Vs} (h:Tells ap A V) (k:Tells ap A U):V=U:=by
 obtain ⟨e,he⟩:=h ⟨#[]⟩
 obtain ⟨f,hf⟩:=k ⟨#[]⟩
 rw [he] at hf
 injection hf with hf
 injection hf
theorem run_stamps {ap:Ap}:∀ {R:List Rec} {n e:ByteArray} {V:List Vs},run ap n R=some (V,e)→V.map (·.stamp)=R.map (·.stamp)
 | [],n,e,V,h=>by simp only [run,Option.some.injEq,Prod.mk.injEq] at h;rw [←h.1];rfl
 | r::R,n,e,V,h=>by
  simp only [run] at h
  cases hv:valOf ap r n with
  | none=>rw [hv] at h;cases h
  | some s =>
   rw [hv] at h
   simp only at h
   cases hr:run ap s R with
   | none=>rw [hr] at h;cases h
   | some p =>
    obtain ⟨l,f⟩:=p
    rw [hr] at h
    simp only [Option.some.injEq,Prod.mk.injEq] at h
    rw [←h.1]
    simp only [List.map_cons,verOf]
    rw [run_stamps hr]
theorem Tells.stamps {ap:Ap} {R:List Rec} {V:List Vs} (h:Tells ap R V):V.map (·.stamp)=R.map (·.stamp):=by
 obtain ⟨e,he⟩:=h ⟨#[]⟩
 exact run_stamps he
theorem Tells.length {ap:Ap} {R:List Rec} {V:List Vs} (h:Tells ap R V):V.length=R.length:=by
 have:=congrArg List.length h.stamps
 simpa using this
def Vs.size (v:Vs):Nat:=match v.val with | some s=>s.size | none=>0
theorem valOf_size {ap:Ap} {r:Rec} {n s:ByteArray} (h:valOf ap r n=some s):r.body.size≤(verOf r s).size∧(verOf r s).size≤4096:=by
 unfold valOf at h
 unfold Vs.size verOf
 by_cases h0:r.kind=0
 ·rw [if_pos h0] at h
  split at h
  ·injection h with h
   subst h
   have h2:¬r.kind=2:=by omega
   rw [if_neg h2]
   exact ⟨Nat.le_refl _,by assumption⟩
  ·cases h
 ·rw [if_neg h0] at h
  by_cases h2:r.kind=2
  ·rw [if_pos h2] at h
   rw [if_pos h2]
   split at h
   ·exact ⟨by omega,by simp⟩
   ·cases h
  ·rw [if_neg h2] at h
   rw [if_neg h2]
   cases ha:ap r.body n with
   | none=>rw [ha] at h;cases h
   | some t =>
    rw [ha] at h
    simp only at h
    split at h
    ·injection h with h
     subst h
     assumption
    ·cases h
theorem run_sizes {ap:Ap}:∀ {R:List Rec} {n e:ByteArray} {V:List Vs},run ap n R=some (V,e)→(∀ (i:Nat) (r:Rec) (v:Vs),R[i]?=some r→V[i]?=some v→r.body.size≤v.size∧v.size≤4096)
 | [],n,e,V,h=>fun i r v hr=>by simp at hr
 | r::R,n,e,V,h=>fun i x v hx hv=>by
  simp only [run] at h
  cases ho:valOf ap r n with
  | none=>rw [ho] at h;cases h
  | some s =>
   rw [ho] at h
   simp only at h
   cases hr:run ap s R with
   | none=>rw [hr] at h;cases h
   | some p =>
    obtain ⟨l,f⟩:=p
    rw [hr] at h
    simp only [Option.some.injEq,Prod.mk.injEq] at h
    obtain ⟨rfl,_⟩:=h
    cases i with
    | zero =>
     simp only [List.getElem?_cons_zero,Option.some.injEq] at hx hv
     subst hx hv
     exact valOf_size ho
    | succ i=>exact run_sizes hr i x v (by simpa using hx) (by simpa using hv)
def firstAt (V:List Vs) (t:Int):Option Vs:=V.find? fun v=>decide (v.stamp≤t)
def told:Option Vs→ByteArray × Bool
 | some ⟨_,some s⟩=>(s,true)
 | _=>(⟨#[]⟩,false)
theorem firstAt_append (A B:List Vs) (t:Int):firstAt (A++B) t=match firstAt A t with | some v=>some v | none=>firstAt B t:=by
 unfold firstAt
 rw [List.find?_append]
 cases List.find? (fun v=>decide (v.stamp≤t)) A<;>rfl
theorem firstAt_none {V:List Vs} {t:Int} (h:∀ v∈V,t<v.stamp):firstAt V t=none:=by
 unfold firstAt
 rw [List.find?_eq_none]
 intro v hv
 have:=h v hv
 simp
 omega
abbrev kless (a b:ByteArray):Prop:=Op.bytesLess a.toList b.toList=true
theorem kless_irrefl (a:ByteArray):¬kless a a:=by unfold kless;rw [M.less_irrefl];decide
theorem kless_trans {a b c:ByteArray} (h:kless a b) (k:kless b c):kless a c:=M.less_trans h k
theorem kless_total (a b:ByteArray):kless a b∨a=b∨kless b a:=by
 rcases M.less_total a.toList b.toList with h|h|h
 ·exact Or.inl h
 ·exact Or.inr (Or.inl (M.bytes_ext h))
 ·exact Or.inr (Or.inr h)
theorem kless_ne {a b:ByteArray} (h:kless a b):a≠b:=fun e=>by subst e;exact kless_irrefl a h
theorem kless_asymm {a b:ByteArray} (h:kless a b):¬kless b a:=fun k=>kless_irrefl a (kless_trans h k)
def Bef (p r:Rec):Prop:=kless p.key r.key∨(p.key=r.key∧r.stamp<p.stamp)
theorem Bef.trans {a b c:Rec} (h:Bef a b) (k:Bef b c):Bef a c:=by
 rcases h with h|⟨h1,h2⟩
 ·rcases k with k|⟨k1,_⟩
  ·exact Or.inl (kless_trans h k)
  ·exact Or.inl (k1▸h)
 ·rcases k with k|⟨k1,k2⟩
  ·exact Or.inl (h1▸k)
  ·exact Or.inr ⟨h1.trans k1,by omega⟩
theorem wrong_iff (p r:Rec):p.wrong r=false↔Bef p r:=by
 unfold Rec.wrong Rec.less Rec.same Bef
 rcases kless_total p.key r.key with h|h|h
 ·have h1:Op.bytesLess p.key.toList r.key.toList=true:=h
  have h2:(p.key.toList == r.key.toList)=false:=by
   rw [beq_eq_false_iff_ne]
   intro e
   exact kless_ne h (M.bytes_ext e)
  rw [h1,h2]
  simp
  exact Or.inl h
 ·have h1:Op.bytesLess p.key.toList r.key.toList=false:=by rw [h];exact M.less_irrefl _
  have h2:(p.key.toList == r.key.toList)=true:=by rw [h];simp
  have h3:¬kless p.key r.key:=by unfold kless;rw [h1];decide
  rw [h1,h2]
  simp [h,kless_irrefl]
 ·have h1:Op.bytesLess p.key.toList r.key.toList=false:=by
   cases hc:Op.bytesLess p.key.toList r.key.toList with
   | false=>rfl
   | true=>exact absurd hc (kless_asymm h)
  have h2:(p.key.toList == r.key.toList)=false:=by
   rw [beq_eq_false_iff_ne]
   intro e
   exact kless_ne h (M.bytes_ext e).symm
  rw [h1,h2]
  simp only [Bool.or_false,Bool.not_false,Bool.true_or]
  refine ⟨fun e=>(by cases e),fun e=>?_⟩
  rcases e with e|⟨e,_⟩
  ·exact absurd e (kless_asymm h)
  ·exact absurd e.symm (kless_ne h)
structure OkB (b:List Rec):Prop where
 some_:b≠[]
 few:b.length≤64
 fits:∀ r∈b,r.fits=true
 ord:b.Pairwise Bef
theorem badAt_ok {b:List Rec} (hf:∀ r∈b,r.fits=true) (ho:b.Pairwise Bef) {k:Nat} {r:Rec} (hr:b[k]?=some r):badAt b k r=false:=by
 unfold badAt
 rw [hf r (List.mem_of_getElem? hr)]
 by_cases h0:0<k
 ·have hk:k<b.length:=(List.getElem?_eq_some_iff.1 hr).1
  have hp:before b k r=b[k-1]:=by
   unfold before
   rw [List.getD_eq_getElem?_getD,List.getElem?_eq_getElem (by omega)]
   rfl
  have hB:Bef b[k-1] b[k]:=List.pairwise_iff_getElem.1 ho (k-1) k (by omega) hk (by omega)
  have hr':r=b[k]:=by
   have:=List.getElem?_eq_some_iff.1 hr
   exact this.2.symm
  rw [hp,hr',(wrong_iff _ _).2 hB]
  simp
 ·have:k=0:=by omega
  subst this
  simp
theorem textTo_ok {b:List Rec} (hf:∀ r∈b,r.fits=true) (ho:b.Pairwise Bef):∀ k,k≤b.length→∃ t,textTo b k=some t
 | 0,_=>⟨_,rfl⟩
 | k+1,h=>by
  obtain ⟨t,ht⟩:=textTo_ok hf ho k (by omega)
  have hr:b[k]?=some b[k]:=List.getElem?_eq_getElem (by omega)
  exact ⟨_,textTo_good ht hr (badAt_ok hf ho hr)⟩
theorem OkB.text {b:List Rec} (h:OkB b):∃ t,plainText b=some t:=by
 obtain ⟨t,ht⟩:=textTo_ok h.fits h.ord b.length (Nat.le_refl _)
 exact ⟨t,by unfold plainText;rw [if_neg (by have:=h.few;omega)];exact ht⟩
def ofKey (k:ByteArray) (R:List Rec):List Rec:=R.filter fun r=>decide (r.key=k)
theorem ofKey_append (k:ByteArray) (A B:List Rec):ofKey k (A++B)=ofKey k A++ofKey k B:=by simp [ofKey]
theorem mem_ofKey {k:ByteArray} {R:List Rec} {r:Rec}:r∈ofKey k R↔r∈R∧r.key=k:=by simp [ofKey]
theorem ofKey_none {k:ByteArray} {R:List Rec} (h:∀ r∈R,r.key≠k):ofKey k R=[]:=by
 unfold ofKey
 rw [List.filter_eq_nil_iff]
 intro r hr
 simpa using h r hr
theorem ofKey_all {k:ByteArray} {R:List Rec} (h:∀ r∈R,r.key=k):ofKey k R=R:=by
 unfold ofKey
 rw [List.filter_eq_self]
 intro r hr
 simpa using h r hr
def Holds (ap:Ap):List (List Rec)→ByteArray→List Vs→Prop
 | [],_,V=>V=[]
 | b::bs,k,V=>∃ V1 V2,Tells ap (ofKey k b) V1∧Holds ap bs k V2∧V=V1++V2
theorem Holds.tells {ap:Ap} {k:ByteArray}:∀ {bs:List (List Rec)} {V:List Vs},Holds ap bs k V→Tells ap (ofKey k bs.flatten) V
 | [],V,h=>by
  have:V=[]:=h
  subst this
  exact Tells.nil ap
 | b::bs,V,h=>by
  obtain ⟨V1,V2,h1,h2,rfl⟩:=h
  rw [List.flatten_cons,ofKey_append]
  exact h1.append h2.tells
theorem Holds.append {ap:Ap} {k:ByteArray}:∀ {az bs:List (List Rec)} {V U:List Vs},Holds ap az k V→Holds ap bs k U→Holds ap (az++bs) k (V++U)
 | [],bs,V,U,h,g=>by
  have:V=[]:=h
  subst this
  exact g
 | a::az,bs,V,U,h,g=>by
  obtain ⟨V1,V2,h1,h2,rfl⟩:=h
  exact ⟨V1,V2++U,h1,h2.append g,List.append_assoc _ _ _⟩
theorem Holds.split {ap:Ap} {k:ByteArray}:∀ {az bs:List (List Rec)} {V:List Vs},Holds ap (az++bs) k V→∃ V1 V2,Holds ap az k V1∧Holds ap bs k V2∧V=V1++V2
 | [],bs,V,h=>⟨[],V,rfl,h,rfl⟩
 | a::az,bs,V,h=>by
  obtain ⟨V1,V2,h1,h2,rfl⟩:=h
  obtain ⟨U1,U2,g1,g2,rfl⟩:=Holds.split h2
  exact ⟨V1++U1,U2,⟨V1,U1,h1,g1,rfl⟩,g2,(List.append_assoc _ _ _).symm⟩
theorem Holds.one {ap:Ap} {k:ByteArray} {b:List Rec} {V:List Vs} (h:Tells ap (ofKey k b) V):Holds ap [b] k V:=⟨V,[],h,rfl,by simp⟩
abbrev Fore (r:Rec) (k:ByteArray) (t:Int):Prop:=kless r.key k∨(r.key=k∧t<r.stamp)
theorem Fore.of_bef {p r:Rec} {k:ByteArray} {t:Int} (h:Bef p r) (g:Fore r k t):Fore p k t:=by
 rcases h with h|⟨h1,h2⟩
 ·rcases g with g|⟨g1,_⟩
  ·exact Or.inl (kless_trans h g)
  ·exact Or.inl (g1▸h)
 ·rcases g with g|⟨g1,g2⟩
  ·exact Or.inl (h1▸g)
  ·exact Or.inr ⟨h1.trans g1,by omega⟩
theorem getAt_block {ap:Ap} {az bs:List (List Rec)} {b:List Rec} {k:ByteArray} {t:Int} {V:List Vs}
  (hord:((az++b::bs).flatten).Pairwise Bef) (hH:Holds ap (az++b::bs) k V) (ha:∀ r∈az.flatten,Fore r k t)
  (hb:∃ r∈b,¬Fore r k t):∃ U,Tells ap (ofKey k b) U∧firstAt V t=firstAt U t:=by
 obtain ⟨V1,V2,h1,h2,rfl⟩:=hH.split
 obtain ⟨U,U2,g1,g2,rfl⟩:=h2
 refine ⟨U,g1,?_⟩
 have e1:firstAt V1 t=none:=by
  refine firstAt_none fun v hv=>?_
  have hs:=h1.tells.stamps
  have:v.stamp∈V1.map (·.stamp):=List.mem_map_of_mem hv
  rw [hs,List.mem_map] at this
  obtain ⟨r,hr,he⟩:=this
  rw [mem_ofKey] at hr
  rcases ha r hr.1 with h|⟨_,h⟩
  ·exact absurd hr.2 (kless_ne h)
  ·omega
 rw [firstAt_append,e1]
 simp only
 rw [firstAt_append]
 cases hU:firstAt U t with
 | some v=>rfl
 | none =>
  simp only
  refine firstAt_none fun v hv=>?_
  have hs:=g2.tells.stamps
  have:v.stamp∈U2.map (·.stamp):=List.mem_map_of_mem hv
  rw [hs,List.mem_map] at this
  obtain ⟨r,hr,he⟩:=this
  rw [mem_ofKey] at hr
  obtain ⟨x,hx,hnx⟩:=hb
  rw [List.flatten_append,List.pairwise_append] at hord
  have hord2:=hord.2.1
  rw [List.flatten_cons,List.pairwise_append] at hord2
  have hB:=hord2.2.2 x hx r hr.1
  by_cases hxk:x.key=k
  ·exfalso
   have hnx2:x.stamp≤t:=by
    refine Int.not_lt.1 fun hlt=>hnx (Or.inr ⟨hxk,hlt⟩)
   have hxm:x∈ofKey k b:=mem_ofKey.2 ⟨hx,hxk⟩
   have:x.stamp∈U.map (·.stamp):=by rw [g1.stamps];exact List.mem_map_of_mem hxm
   rw [List.mem_map] at this
   obtain ⟨u,hu,hue⟩:=this
   unfold firstAt at hU
   rw [List.find?_eq_none] at hU
   have:=hU u hu
   simp at this
   omega
  ·exfalso
   rcases kless_total x.key k with h|h|h
   ·exact hnx (Or.inl h)
   ·exact hxk h
   ·rcases hB with hB|⟨hB,_⟩
    ·rw [hr.2] at hB
     exact kless_asymm h hB
    ·rw [hr.2] at hB
     exact hxk hB
theorem getAt_none {ap:Ap} {bs:List (List Rec)} {k:ByteArray} {t:Int} {V:List Vs} (hH:Holds ap bs k V) (ha:∀ r∈bs.flatten,Fore r k t):firstAt V t=none:=by
 refine firstAt_none fun v hv=>?_
 have hs:=hH.tells.stamps
 have:v.stamp∈V.map (·.stamp):=List.mem_map_of_mem hv
 rw [hs,List.mem_map] at this
 obtain ⟨r,hr,he⟩:=this
 rw [mem_ofKey] at hr
 rcases ha r hr.1 with h|⟨_,h⟩
 ·exact absurd hr.2 (kless_ne h)
 ·omega
abbrev Con:=ByteArray→List Vs
def Con.put (C:Con) (k:ByteArray) (V:List Vs):Con:=fun x=>if x=k then V else C x
structure Wri (ap:Ap) (bs:List (List Rec)) (o:List Rec) (C:Con):Prop where
 holds:∀ k,Holds ap (bs++[o]) k (C k)
 ord:((bs++[o]).flatten).Pairwise Bef
 fits:∀ r∈(bs++[o]).flatten,r.fits=true
 few:o.length≤64
 blk:∀ b∈bs,b≠[]∧b.length≤64
theorem Wri.start (ap:Ap):Wri ap [] [] (fun _=>[]):=
 ⟨fun _=>⟨[],[],Tells.nil ap,rfl,rfl⟩,List.Pairwise.nil,fun _ h=>by simp at h,Nat.zero_le _,fun _ h=>by simp at h⟩
def Based (ap:Ap) (o:List Rec) (k:ByteArray) (based:Bool) (newer:ByteArray):Prop:=∀ n,∃ U,run ap n (ofKey k o)=some (U,if based then newer else n)
theorem Based.none {ap:Ap} {o:List Rec} {k:ByteArray} (newer:ByteArray) (h:∀ r∈o,r.key≠k):Based ap o k false newer:=fun n=>⟨[],by rw [ofKey_none h];rfl⟩
structure Wrote (ap:Ap) (based:Bool) (newer:ByteArray) (r:Rec) (s:ByteArray) (r':Rec):Prop where
 key:r'.key=r.key
 stamp:r'.stamp=r.stamp
 gone:r'.kind=2↔r.kind=2
 fits:r'.fits=true
 here:based=true→valOf ap r' newer=some s
 any:based=false→r.kind≠2→∀ n,valOf ap r' n=some s
 none:based=false→r.kind=2→∀ n,valOf ap r' n=some n
theorem run_one {ap:Ap} {n s:ByteArray} {r:Rec} (h:valOf ap r n=some s):run ap n [r]=some ([verOf r s],s):=by
 simp [run,h]
theorem Based.push {ap:Ap} {o:List Rec} {k:ByteArray} {based:Bool} {newer s:ByteArray} {r r':Rec} (h:Based ap o k based newer) (hk:r.key=k) (hw:Wrote ap based newer r s r') :
  Based ap (o++[r']) k (based || decide (r.kind≠2)) s∧∀ n,∃ U e,run ap n (ofKey k o)=some (U,e)∧run ap n (ofKey k (o++[r']))=some (U++[verOf r s],if (based || decide (r.kind≠2))=true then s else n):=by
 have hr':ofKey k [r']=[r']:=ofKey_all (fun x hx=>by simp at hx;subst hx;rw [hw.key,hk])
 have key:∀ n,∃ U e,run ap n (ofKey k o)=some (U,e)∧run ap n (ofKey k (o++[r']))=some (U++[verOf r s],if (based || decide (r.kind≠2))=true then s else n):=fun n=>by
  obtain ⟨U,hU⟩:=h n
  refine ⟨U,_,hU,?_⟩
  rw [ofKey_append,hr',run_append,hU]
  simp only
  have hv:∀ t,verOf r' t=if r.kind=2 then verOf r s else ⟨r.stamp,some t⟩:=fun t=>by
   unfold verOf
   rw [hw.stamp]
   by_cases h2:r.kind=2
   ·rw [if_pos (hw.gone.2 h2),if_pos h2,if_pos h2]
   ·rw [if_neg (fun e=>h2 (hw.gone.1 e)),if_neg h2]
  have hvs:verOf r' s=verOf r s:=by
   rw [hv s]
   by_cases h2:r.kind=2
   ·rw [if_pos h2]
   ·rw [if_neg h2];unfold verOf;rw [if_neg h2]
  cases based with
  | true =>
   have h1:=hw.here rfl
   simp only [if_true,Bool.true_or]
   rw [run_one h1,hvs]
  | false =>
   by_cases h2:r.kind=2
   ·have h1:=hw.none rfl h2 n
    simp only [Bool.false_eq_true,if_false,Bool.false_or]
    rw [run_one h1,hv n,if_pos h2]
    simp [h2]
   ·have h1:=hw.any rfl h2 n
    simp only [Bool.false_eq_true,if_false,Bool.false_or]
    rw [run_one h1,hvs]
    simp [h2]
 refine ⟨fun n=>?_,key⟩
 obtain ⟨U,e,_,h2⟩:=key n
 exact ⟨_,h2⟩
theorem Wri.push {ap:Ap} {bs:List (List Rec)} {o:List Rec} {C:Con} (h:Wri ap bs o C) {k:ByteArray} {based:Bool} {newer s:ByteArray} {r r':Rec} (hB:Based ap o k based newer) (hk:r.key=k) (hw:Wrote ap based newer r s r')
  (hl:o.length<64) (hbef:∀ x∈(bs++[o]).flatten,Bef x r):Wri ap bs (o++[r']) (C.put k (C k++[verOf r s])):=by
 have hflat:(bs++[o++[r']]).flatten=(bs++[o]).flatten++[r']:=by simp
 refine ⟨fun x=>?_,?_,?_,by simp;omega,h.blk⟩
 ·obtain ⟨V1,V2,g1,g2,g3⟩:=(h.holds x).split
  obtain ⟨U1,U2,f1,f2,f3⟩:=g2
  have f2':U2=[]:=f2
  subst f2'
  rw [List.append_nil] at f3
  subst f3
  unfold Con.put
  by_cases hx:x=k
  ·subst hx
   rw [if_pos rfl,g3,List.append_assoc]
   refine g1.append (Holds.one fun n=>?_)
   obtain ⟨U,e,e1,e2⟩:=(hB.push hk hw).2 n
   obtain ⟨e',he'⟩:=f1 n
   rw [he'] at e1
   injection e1 with e1
   injection e1 with e1 _
   subst e1
   exact ⟨_,e2⟩
  ·rw [if_neg hx,g3]
   refine g1.append (Holds.one ?_)
   have:ofKey x [r']=[]:=ofKey_none (fun y hy=>by simp at hy;subst hy;rw [hw.key,hk];exact fun e=>hx e.symm)
   rw [ofKey_append,this,List.append_nil]
   exact f1
 ·rw [hflat,List.pairwise_append]
  refine ⟨h.ord,by simp,fun x hx y hy=>?_⟩
  simp only [List.mem_singleton] at hy
  subst hy
  have:=hbef x hx
  unfold Bef at *
  rw [hw.key,hw.stamp]
  exact this
 ·intro x hx
  rw [hflat,List.mem_append] at hx
  rcases hx with hx|hx
  ·exact h.fits x hx
  ·simp only [List.mem_singleton] at hx
   subst hx
   exact hw.fits
theorem Wri.cut {ap:Ap} {bs:List (List Rec)} {o:List Rec} {C:Con} (h:Wri ap bs o C) (ho:o≠[]):Wri ap (bs++[o]) [] C:=by
 have hflat:(bs++[o]++[([]:List Rec)]).flatten=(bs++[o]).flatten:=by simp
 refine ⟨fun k=>?_,by rw [hflat];exact h.ord,by rw [hflat];exact h.fits,Nat.zero_le _,fun b hb=>?_⟩
 ·have:=(h.holds k).append (Holds.one (Tells.nil ap):Holds ap [[]] k [])
  rw [List.append_nil] at this
  exact this
 ·rw [List.mem_append] at hb
  rcases hb with hb|hb
  ·exact h.blk b hb
  ·simp only [List.mem_singleton] at hb
   subst hb
   exact ⟨ho,h.few⟩
theorem Wri.okB {ap:Ap} {bs:List (List Rec)} {o:List Rec} {C:Con} (h:Wri ap bs o C) (ho:o≠[]):OkB o:=by
 refine ⟨ho,h.few,fun r hr=>h.fits r (by simp;exact Or.inr hr),?_⟩
 have:=h.ord
 rw [List.flatten_append,List.pairwise_append] at this
 simpa using this.2.1
structure Fil (ap:Ap) (bs:List (List Rec)) (C:Con):Prop where
 holds:∀ k,Holds ap bs k (C k)
 ord:(bs.flatten).Pairwise Bef
 ok:∀ b∈bs,OkB b
theorem Wri.fil {ap:Ap} {bs:List (List Rec)} {C:Con} (h:Wri ap bs [] C):Fil ap bs C:=by
 have hflat:(bs++[([]:List Rec)]).flatten=bs.flatten:=by simp
 have hord:(bs.flatten).Pairwise Bef:=by rw [←hflat];exact h.ord
 refine ⟨fun k=>?_,hord,fun b hb=>⟨(h.blk b hb).1,(h.blk b hb).2,fun r hr=>h.fits r (by rw [hflat];exact List.mem_flatten.2 ⟨b,hb,hr⟩),?_⟩⟩
 ·obtain ⟨V1,V2,g1,g2,g3⟩:=(h.holds k).split
  obtain ⟨U1,U2,f1,f2,f3⟩:=g2
  have e1:U1=[]:=(Tells.inj f1 (Tells.nil ap))
  have e2:U2=[]:=f2
  subst e1 e2
  have:V2=[]:=f3
  subst this
  rw [g3,List.append_nil]
  exact g1
 ·rw [List.pairwise_flatten] at hord
  exact hord.1 b hb
theorem Fil.none (ap:Ap):Fil ap [] (fun _=>[]):=⟨fun _=>rfl,List.Pairwise.nil,fun _ h=>by simp at h⟩
theorem Fil.keys {ap:Ap} {bs:List (List Rec)} {C:Con} (h:Fil ap bs C) (k:ByteArray):C k=[]↔∀ r∈bs.flatten,r.key≠k:=by
 have ht:=(h.holds k).tells
 constructor
 ·intro e r hr hk
  have hl:=ht.length
  rw [e] at hl
  have:ofKey k bs.flatten=[]:=List.eq_nil_of_length_eq_zero hl.symm
  have hm:r∈ofKey k bs.flatten:=mem_ofKey.2 ⟨hr,hk⟩
  rw [this] at hm
  simp at hm
 ·intro e
  rw [ofKey_none e] at ht
  exact Tells.inj ht (Tells.nil ap)
theorem Fil.stamps {ap:Ap} {bs:List (List Rec)} {C:Con} (h:Fil ap bs C) (k:ByteArray):(C k).map (·.stamp)=(ofKey k bs.flatten).map (·.stamp):=(h.holds k).tells.stamps
theorem Fil.falling {ap:Ap} {bs:List (List Rec)} {C:Con} (h:Fil ap bs C) (k:ByteArray):(C k).Pairwise fun a b=>b.stamp<a.stamp:=by
 have hp:(ofKey k bs.flatten).Pairwise Bef:=h.ord.sublist List.filter_sublist
 have hp2:((ofKey k bs.flatten).map (·.stamp)).Pairwise fun a b=>b<a:=by
  rw [List.pairwise_map]
  refine List.Pairwise.imp_of_mem (fun {x y} hx hy hb=>?_) hp
  rcases hb with hb|hb
  ·rw [(mem_ofKey.1 hx).2,(mem_ofKey.1 hy).2] at hb
   exact absurd hb (kless_irrefl _)
  ·exact hb.2
 rw [←h.stamps k,List.pairwise_map] at hp2
 exact hp2
theorem run_take {ap:Ap}:∀ {R:List Rec} {n e:ByteArray} {V:List Vs} (j:Nat),run ap n R=some (V,e)→∃ f,run ap n (R.take j)=some (V.take j,f)
 | [],n,e,V,j,h=>by
  simp only [run,Option.some.injEq,Prod.mk.injEq] at h
  obtain ⟨rfl,_⟩:=h
  exact ⟨n,by simp [run]⟩
 | r::R,n,e,V,0,h=>⟨n,by simp [run]⟩
 | r::R,n,e,V,j+1,h=>by
  simp only [run] at h
  cases ho:valOf ap r n with
  | none=>rw [ho] at h;cases h
  | some s =>
   rw [ho] at h
   simp only at h
   cases hr:run ap s R with
   | none=>rw [hr] at h;cases h
   | some p =>
    obtain ⟨l,f⟩:=p
    rw [hr] at h
    simp only [Option.some.injEq,Prod.mk.injEq] at h
    obtain ⟨rfl,_⟩:=h
    obtain ⟨f',hf'⟩:=run_take j hr
    exact ⟨f',by simp only [List.take_succ_cons,run,ho,hf']⟩
theorem Tells.take {ap:Ap} {R:List Rec} {V:List Vs} (h:Tells ap R V) (j:Nat):Tells ap (R.take j) (V.take j):=fun n=>by
 obtain ⟨e,he⟩:=h n
 exact run_take j he
def needs (wm:Int):List Vs→Nat
 | []=>0
 | v::l=>if wm<v.stamp then needs wm l+1 else if v.val=none then 0 else 1
def blkText (b:List Rec):List UInt8:=M.sealed ((plainText b).getD [])
def noRec:Rec:=⟨⟨#[]⟩,0,0,⟨#[]⟩⟩
def lastRec (b:List Rec):Rec:=b.getLast?.getD noRec
def entText (b:List Rec):List UInt8:=M.enc 7 (blkText b).length++(M.enc 7 (lastRec b).key.size++((lastRec b).key.data.toList++M.enc 7 (lastRec b).stamp.toNat))
def idxOf (bs:List (List Rec)):List UInt8:=(bs.map entText).flatten
def blkOf (bs:List (List Rec)):List UInt8:=(bs.map blkText).flatten
def idxText (bs:List (List Rec)) (wm:Int):List UInt8:=M.enc 7 (wm+1).toNat++idxOf bs
def endOf (t:List UInt8):List UInt8:=M.sealed t++M.sealed (M.enc 7 (2097152+(M.sealed t).length))
def fileText (bs:List (List Rec)) (wm:Int):List UInt8:=blkOf bs++endOf (idxText bs wm)
structure Ent where
 lo:Nat
 hi:Nat
 key:ByteArray
 stamp:Nat
def entTo (T:List UInt8) (nb a at_:Nat):Ent × Nat:=
 match numTo T nb a with
 | (v,a1)=>match numTo T 64 a1 with
 | (m,a2)=>match bytTo T m a2 with
 | (t,a3)=>match numTo T 1099511627776 a3 with
 | (st,a4)=>(⟨at_,at_+v,⟨t.toArray⟩,st⟩,a4)
def entBad (T:List UInt8) (nb a:Nat):Bool:=
 numBad T nb a || (numBad T 64 (numTo T nb a).2 || (bytBad T (numTo T 64 (numTo T nb a).2).1 (numTo T 64 (numTo T nb a).2).2 || numBad T 1099511627776 (bytTo T (numTo T 64 (numTo T nb a).2).1 (numTo T 64 (numTo T nb a).2).2).2))
def entsTo (T:List UInt8) (nb:Nat):Nat→Nat→Nat→Bool→List Ent→List Ent × Nat × Bool
 | 0,_,at_,bad,l=>(l,at_,bad)
 | f+1,a,at_,bad,l =>
  if a<T.length then entsTo T nb f (entTo T nb a at_).2 (entTo T nb a at_).1.hi (bad || entBad T nb a) (l++[(entTo T nb a at_).1])
  else (l,at_,bad)
theorem numTo_next {T:List UInt8} {most a:Nat} (h:a<T.length):a<(numTo T most a).2∧(numTo T most a).2≤T.length∧(numTo T most a).1≤most:=by
 have h1:=numTo_le (T:=T) (most:=most) (a:=a) (by omega)
 refine ⟨?_,h1.1,h1.2.1⟩
 unfold numTo
 cases hg:M.getAt T a with
 | none=>exact h
 | some p =>
  obtain ⟨v,nx⟩:=p
  have:=M.getAt_bound hg
  simp only
  split
  ·exact h
  ·exact this.2.1
theorem numTo_mono {T:List UInt8} {most a:Nat} (h:a≤T.length):a≤(numTo T most a).2:=by
 by_cases hl:a<T.length
 ·exact Nat.le_of_lt (numTo_next hl).1
 ·have:a=T.length:=by omega
  unfold numTo
  cases hg:M.getAt T a with
  | none=>exact h
  | some p =>
   obtain ⟨v,nx⟩:=p
   have:=M.getAt_bound hg
   omega
theorem bytTo_mono {T:List UInt8} {n a:Nat} (h:a≤T.length):a≤(bytTo T n a).2:=by
 unfold bytTo
 split
 ·exact h
 ·exact Nat.le_add_right _ _
def Row:Nat→List Ent→Nat→Prop
 | a,[],b=>a=b
 | a,e::l,b=>e.lo=a∧a≤e.hi∧Row e.hi l b
theorem Row.snoc {e:Ent}:∀ {l:List Ent} {a:Nat},Row a l e.lo→e.lo≤e.hi→Row a (l++[e]) e.hi
 | [],a,h,h2=>by
  have:a=e.lo:=h
  exact ⟨this.symm,by omega,rfl⟩
 | x::l,a,h,h2=>⟨h.1,h.2.1,Row.snoc h.2.2 h2⟩
theorem Row.le:∀ {l:List Ent} {a b:Nat},Row a l b→a≤b
 | [],a,b,h=>by
  have:a=b:=h
  omega
 | e::l,a,b,h=>Nat.le_trans h.2.1 h.2.2.le
theorem Row.at:∀ {l:List Ent} {a b i:Nat} {e:Ent},Row a l b→l[i]?=some e→a≤e.lo∧e.lo≤e.hi∧e.hi≤b
 | [],a,b,i,e,h,hi=>by simp at hi
 | x::l,a,b,0,e,h,hi=>by
  simp only [List.getElem?_cons_zero,Option.some.injEq] at hi
  subst hi
  exact ⟨by have:=h.1;omega,by have:=h.1;have:=h.2.1;omega,h.2.2.le⟩
 | x::l,a,b,i+1,e,h,hi=>by
  have:=Row.at h.2.2 (i:=i) (e:=e) (by simpa using hi)
  exact ⟨Nat.le_trans h.2.1 this.1,this.2⟩
def entOf (at_:Nat) (b:List Rec):Ent:=⟨at_,at_+(blkText b).length,(lastRec b).key,(lastRec b).stamp.toNat⟩
def entsOf:Nat→List (List Rec)→List Ent
 | _,[]=>[]
 | at_,b::bs=>entOf at_ b::entsOf (at_+(blkText b).length) bs
theorem entsOf_length:∀ (at_:Nat) (bs:List (List Rec)),(entsOf at_ bs).length=bs.length
 | _,[]=>rfl
 | at_,b::bs=>by simp [entsOf,entsOf_length _ bs]
theorem entsOf_at:∀ {bs:List (List Rec)} {at_ i:Nat} {b:List Rec},bs[i]?=some b→∃ p,(entsOf at_ bs)[i]?=some (entOf p b)∧p=at_+(blkOf (bs.take i)).length
 | [],at_,i,b,h=>by simp at h
 | x::bs,at_,0,b,h=>by
  simp only [List.getElem?_cons_zero,Option.some.injEq] at h
  subst h
  exact ⟨at_,rfl,by simp [blkOf]⟩
 | x::bs,at_,i+1,b,h=>by
  obtain ⟨p,h1,h2⟩:=entsOf_at (bs:=bs) (at_:=at_+(blkText x).length) (i:=i) (b:=b) (by simpa using h)
  refine ⟨p,by simpa [entsOf] using h1,?_⟩
  rw [h2]
  simp only [List.take_succ_cons,blkOf,List.map_cons,List.flatten_cons,List.length_append]
  omega
theorem blkOf_append (az bs:List (List Rec)):blkOf (az++bs)=blkOf az++blkOf bs:=by simp [blkOf]
theorem blkOf_one (b:List Rec):blkOf [b]=blkText b:=by simp [blkOf]
theorem blk_cut {bs:List (List Rec)} {i:Nat} {b:List Rec} (h:bs[i]?=some b):((blkOf bs).drop (blkOf (bs.take i)).length).take (blkText b).length=blkText b:=by
 have hi:i<bs.length:=(List.getElem?_eq_some_iff.1 h).1
 have hb:bs[i]=b:=(List.getElem?_eq_some_iff.1 h).2
 have e:bs=bs.take i++b::bs.drop (i+1):=by rw [←hb,List.getElem_cons_drop,List.take_append_drop]
 have e2:blkOf bs=blkOf (bs.take i)++(blkText b++blkOf (bs.drop (i+1))):=by
  have:=congrArg blkOf e
  rw [blkOf_append] at this
  rw [this]
  simp [blkOf]
 rw [e2,List.drop_left,List.take_left]
theorem sits_head {T l m:List UInt8} {a:Nat} (h:Sits T a (l++m)):Sits T a l:=(sits_append h).1
theorem sits_tail {T l m:List UInt8} {a:Nat} (h:Sits T a (l++m)):Sits T (a+l.length) m:=(sits_append h).2
theorem lastRec_mem {b:List Rec} (h:b≠[]):lastRec b∈b:=by
 unfold lastRec
 cases hb:b.getLast? with
 | none=>exact absurd (List.getLast?_eq_none_iff.1 hb) h
 | some r=>exact List.mem_of_getLast? hb
theorem entTo_sits {T:List UInt8} {nb a at_:Nat} {b:List Rec} (hb:OkB b) (hn:(blkText b).length≤nb) (hnb:nb<72057594037927936) (h:Sits T a (entText b)) :
  entTo T nb a at_=(entOf at_ b,a+(entText b).length)∧entBad T nb a=false:=by
 have hf:=hb.fits _ (lastRec_mem hb.some_)
 simp only [Rec.fits,decide_eq_true_eq] at hf
 obtain ⟨f1,f2,f3,f4,f5,f6,f7⟩:=hf
 unfold entText at h
 have s1:=sits_head h
 have s2:=sits_head (sits_tail h)
 have s3:=sits_head (sits_tail (sits_tail h))
 have s4:=sits_tail (sits_tail (sits_tail h))
 have hk:(lastRec b).key.data.toList.length=(lastRec b).key.size:=by simp
 have e1:=numTo_sits (most:=nb) s1 (by omega) hn
 have e2:=numTo_sits (most:=64) s2 (by omega) f2
 have e3:=bytTo_sits s3
 rw [hk] at e3
 have e4:=numTo_sits (most:=1099511627776) s4 (by omega) (by omega)
 have g1:=numBad_sits (most:=nb) s1 (by omega) hn
 have g2:=numBad_sits (most:=64) s2 (by omega) f2
 have g3:=bytBad_sits s3
 rw [hk] at g3
 have g4:=numBad_sits (most:=1099511627776) s4 (by omega) (by omega)
 constructor
 ·rw [hk] at e4
  unfold entTo
  simp only [e1,e2,e3,e4]
  unfold entOf entText
  simp only [List.length_append,hk]
  congr 1
  omega
 ·unfold entBad
  rw [hk] at g4
  simp only [e1,e2,e3,g1,g2,g3,g4,Bool.or_self]
theorem entsTo_sits {T:List UInt8} {nb:Nat} (hnb:nb<72057594037927936):∀ (bs:List (List Rec)) (f a at_:Nat) (l:List Ent),(∀ b∈bs,OkB b)→at_+(blkOf bs).length≤nb→Sits T a (idxOf bs)→a+(idxOf bs).length=T.length→(idxOf bs).length≤f →
  entsTo T nb f a at_ false l=(l++entsOf at_ bs,at_+(blkOf bs).length,false)
 | [],f,a,at_,l,_,_,_,h3,_=>by
  have h3':a=T.length:=by simpa [idxOf] using h3
  cases f with
  | zero=>simp [entsTo,entsOf,blkOf]
  | succ f =>
   unfold entsTo
   rw [if_neg (by omega)]
   simp [entsOf,blkOf]
 | b::bs,f,a,at_,l,hok,h1,h2,h3,h4=>by
  have hb:=hok b (by simp)
  have e0:idxOf (b::bs)=entText b++idxOf bs:=by simp [idxOf]
  have e0':blkOf (b::bs)=blkText b++blkOf bs:=by simp [blkOf]
  rw [e0] at h2 h3 h4
  rw [e0'] at h1
  rw [List.length_append] at h1 h3 h4
  have hpos:0<(entText b).length:=by
   unfold entText
   rw [List.length_append]
   have:=M.enc_pos 7 (blkText b).length
   omega
  cases f with
  | zero=>omega
  | succ f =>
   obtain ⟨g1,g2⟩:=entTo_sits (at_:=at_) hb (by omega) hnb (sits_head h2)
   unfold entsTo
   rw [if_pos (by omega),g1,g2]
   simp only [Bool.or_self]
   rw [entsTo_sits hnb bs f (a+(entText b).length) (entOf at_ b).hi _ (fun x hx=>hok x (by simp [hx])) (by unfold entOf;simp only;omega) (sits_tail h2) (by omega) (by omega)]
   rw [e0',List.length_append]
   simp only [entsOf,entOf,List.append_assoc,List.singleton_append,Prod.mk.injEq,and_true,true_and]
   omega
structure Lay where
 wm:Int
 blocks:List UInt8
 ents:List Ent
def readIdx (blocks T:List UInt8):Option Lay:=
 match numTo T 1099511627777 0,entsTo T blocks.length T.length (numTo T 1099511627777 0).2 0 (numBad T 1099511627777 0) [] with
 | (v,_),(l,at_,bad)=>if bad=true∨at_≠blocks.length then none else some ⟨(v:Int)-1,blocks,l⟩
theorem readIdx_sits {bs:List (List Rec)} {wm:Int} (hok:∀ b∈bs,OkB b) (hw:-1≤wm) (hw2:wm≤1099511627776) (hnb:(blkOf bs).length<72057594037927936):readIdx (blkOf bs) (idxText bs wm)=some ⟨wm,blkOf bs,entsOf 0 bs⟩:=by
 unfold readIdx idxText
 have s:Sits (M.enc 7 (wm+1).toNat++idxOf bs) 0 (M.enc 7 (wm+1).toNat++idxOf bs):=⟨[],[],by simp,rfl⟩
 have e1:=numTo_sits (most:=1099511627777) (sits_head s) (by omega) (by omega)
 have e2:=numBad_sits (most:=1099511627777) (sits_head s) (by omega) (by omega)
 rw [e1,e2]
 simp only
 have h0:0<(M.enc 7 (wm+1).toNat).length:=M.enc_pos 7 _
 rw [entsTo_sits hnb bs _ _ 0 [] hok (by omega) (sits_tail s) (by simp) (by simp)]
 simp
 omega
def cutEnd (T:List UInt8) (n:Int):Option (List UInt8 × List UInt8):=
 if n<4∨(T.length:Int)<n then none
 else if (T.drop (T.length-4))=M.le4 (M.sum ((T.drop (T.length-n.toNat)).take (n.toNat-4))) then some (T.take (T.length-n.toNat),(T.drop (T.length-n.toNat)).take (n.toNat-4)) else none
theorem cutEnd_sealed (A t:List UInt8):cutEnd (A++M.sealed t) ((M.sealed t).length:Nat)=some (A,t):=by
 have hl:=M.sealed_length t
 unfold cutEnd
 have h4:(M.le4 (M.sum t)).length=4:=rfl
 have e1:(A++M.sealed t).length-(M.sealed t).length=A.length:=by rw [List.length_append];omega
 have e2:(A++M.sealed t).drop ((A++M.sealed t).length-4)=M.le4 (M.sum t):=by
  have:(A++M.sealed t).length-4=(A++t).length:=by rw [List.length_append,List.length_append,hl];omega
  rw [this]
  unfold M.sealed
  rw [←List.append_assoc,List.drop_left]
 rw [if_neg (by rw [List.length_append];omega),Int.toNat_natCast,e1,e2,List.drop_left,List.take_left]
 have e3:(M.sealed t).take ((M.sealed t).length-4)=t:=by
  rw [hl,Nat.add_sub_cancel]
  unfold M.sealed
  rw [List.take_left]
 rw [e3,if_pos rfl]
def readFile (T:List UInt8):Option Lay:=
 match cutEnd T 8 with
 | none=>none
 | some (A,foot) =>
  match cutEnd A (((numTo foot 72057594037927935 0).1:Int)-2097152) with
  | none=>none
  | some (blocks,idx)=>readIdx blocks idx
theorem enc4 (n:Nat) (h1:2097152≤n) (h2:n<268435456):(M.enc 7 n).length=4:=by
 unfold M.enc M.enc M.enc M.enc
 rw [if_neg (by omega),if_neg (by omega),if_neg (by omega),if_pos (by omega)]
 rfl
theorem readFile_sits {bs:List (List Rec)} {wm:Int} (hok:∀ b∈bs,OkB b) (hw:-1≤wm) (hw2:wm≤1099511627776) (hs:(fileText bs wm).length≤1048576):readFile (fileText bs wm)=some ⟨wm,blkOf bs,entsOf 0 bs⟩:=by
 have hl:(fileText bs wm).length=(blkOf bs).length+(endOf (idxText bs wm)).length:=by unfold fileText;rw [List.length_append]
 have hle:(endOf (idxText bs wm)).length=(M.sealed (idxText bs wm)).length+(M.sealed (M.enc 7 (2097152+(M.sealed (idxText bs wm)).length))).length:=by unfold endOf;rw [List.length_append]
 have h8:(M.sealed (M.enc 7 (2097152+(M.sealed (idxText bs wm)).length))).length=8:=by rw [M.sealed_length,enc4 _ (by omega) (by omega)]
 have e:fileText bs wm=(blkOf bs++M.sealed (idxText bs wm))++M.sealed (M.enc 7 (2097152+(M.sealed (idxText bs wm)).length)):=by unfold fileText endOf;rw [List.append_assoc]
 have c1:=cutEnd_sealed (blkOf bs++M.sealed (idxText bs wm)) (M.enc 7 (2097152+(M.sealed (idxText bs wm)).length))
 rw [h8,←e] at c1
 have s:Sits (M.enc 7 (2097152+(M.sealed (idxText bs wm)).length)) 0 (M.enc 7 (2097152+(M.sealed (idxText bs wm)).length)):=⟨[],[],by simp,rfl⟩
 have e1:=numTo_sits (most:=72057594037927935) s (by omega) (by omega)
 unfold readFile
 rw [show ((8:Nat):Int)=8 from rfl] at c1
 rw [c1]
 simp only
 rw [e1]
 simp only
 rw [show ((2097152+(M.sealed (idxText bs wm)).length:Nat):Int)-2097152=((M.sealed (idxText bs wm)).length:Nat) by omega,cutEnd_sealed]
 simp only
 exact readIdx_sits hok hw hw2 (by omega)
def low:List ByteArray→List ByteArray→ByteArray
 | [],[]=>⟨#[]⟩
 | a::_,[]=>a
 | [],b::_=>b
 | a::_,b::_=>if kless a b then a else b
def beh (l:List ByteArray) (k:ByteArray):List ByteArray:=
 match l with
 | []=>[]
 | a::t=>if a=k then t else a::t
def uni:Nat→List ByteArray→List ByteArray→List ByteArray
 | 0,_,_=>[]
 | n+1,l,r=>if l=[]∧r=[] then [] else low l r::uni n (beh l (low l r)) (beh r (low l r))
theorem beh_self (a:ByteArray) (t:List ByteArray):beh (a::t) a=t:=by simp [beh]
theorem beh_ne {a k:ByteArray} (h:a≠k) (t:List ByteArray):beh (a::t) k=a::t:=by simp [beh,h]
theorem beh_nil (k:ByteArray):beh [] k=[]:=rfl
theorem beh_length (l:List ByteArray) (k:ByteArray):(beh l k).length≤l.length:=by
 cases l with
 | nil=>simp [beh]
 | cons a t=>unfold beh;simp only;split<;>simp
theorem beh_sub (l:List ByteArray) (k:ByteArray):(beh l k).Sublist l:=by
 cases l with
 | nil=>simp [beh]
 | cons a t =>
  unfold beh
  simp only
  split
  ·exact List.sublist_cons_self ..
  ·exact List.Sublist.refl _
theorem beh_less {l r:List ByteArray} (h:¬(l=[]∧r=[])):(beh l (low l r)).length+(beh r (low l r)).length<l.length+r.length:=by
 have hl:=beh_length l (low l r)
 have hr:=beh_length r (low l r)
 cases l with
 | nil=>cases r with
  | nil=>exact absurd ⟨rfl,rfl⟩ h
  | cons b u=>simp [low,beh_self,beh_nil]
 | cons a t=>cases r with
  | nil=>simp [low,beh_self,beh_nil]
  | cons b u =>
   unfold low at hl hr ⊢
   simp only at hl hr ⊢
   split
   ·rename_i hk
    rw [if_pos hk] at hr
    rw [beh_self]
    simp only [List.length_cons] at hr ⊢
    omega
   ·rename_i hk
    rw [if_neg hk] at hl
    rw [beh_self]
    simp only [List.length_cons] at hl ⊢
    omega
theorem beh_all {l r:List ByteArray} (hl:l.Pairwise kless) (hr:r.Pairwise kless) (h:¬(l=[]∧r=[])) :
  (∀ x,x∈l∨x∈r↔x=low l r∨x∈beh l (low l r)∨x∈beh r (low l r))∧(∀ x,x∈beh l (low l r)∨x∈beh r (low l r)→kless (low l r) x):=by
 cases l with
 | nil=>cases r with
  | nil=>exact absurd ⟨rfl,rfl⟩ h
  | cons b u =>
   have hp:=List.pairwise_cons.1 hr
   simp only [low,beh_self,beh_nil,List.not_mem_nil,false_or,List.mem_cons]
   exact ⟨fun x=>trivial,fun x hx=>hp.1 x hx⟩
 | cons a t=>cases r with
  | nil =>
   have hp:=List.pairwise_cons.1 hl
   simp only [low,beh_self,beh_nil,List.not_mem_nil,or_false,List.mem_cons]
   exact ⟨fun x=>trivial,fun x hx=>hp.1 x hx⟩
  | cons b u =>
   have hp:=List.pairwise_cons.1 hl
   have hq:=List.pairwise_cons.1 hr
   unfold low
   simp only
   split
   ·rename_i hk
    rw [beh_self,beh_ne (kless_ne hk).symm]
    simp only [List.mem_cons]
    refine ⟨fun x=>?_,fun x hx=>?_⟩
    ·constructor
     ·rintro ((h1|h1)|h1)
      ·exact Or.inl h1
      ·exact Or.inr (Or.inl h1)
      ·exact Or.inr (Or.inr h1)
     ·rintro (h1|h1|h1)
      ·exact Or.inl (Or.inl h1)
      ·exact Or.inl (Or.inr h1)
      ·exact Or.inr h1
    ·rcases hx with hx|hx|hx
     ·exact hp.1 x hx
     ·rw [hx];exact hk
     ·exact kless_trans hk (hq.1 x hx)
   ·rename_i hk
    rw [beh_self]
    by_cases hab:a=b
    ·subst hab
     rw [beh_self]
     simp only [List.mem_cons]
     refine ⟨fun x=>?_,fun x hx=>hx.elim (hp.1 x) (hq.1 x)⟩
     constructor
     ·rintro ((h1|h1)|(h1|h1))
      ·exact Or.inl h1
      ·exact Or.inr (Or.inl h1)
      ·exact Or.inl h1
      ·exact Or.inr (Or.inr h1)
     ·rintro (h1|h1|h1)
      ·exact Or.inl (Or.inl h1)
      ·exact Or.inl (Or.inr h1)
      ·exact Or.inr (Or.inr h1)
    ·have hba:kless b a:=by
      rcases kless_total a b with h1|h1|h1
      ·exact absurd h1 hk
      ·exact absurd h1 hab
      ·exact h1
     rw [beh_ne hab]
     simp only [List.mem_cons]
     refine ⟨fun x=>?_,fun x hx=>?_⟩
     ·constructor
      ·rintro ((h1|h1)|(h1|h1))
       ·exact Or.inr (Or.inl (Or.inl h1))
       ·exact Or.inr (Or.inl (Or.inr h1))
       ·exact Or.inl h1
       ·exact Or.inr (Or.inr h1)
      ·rintro (h1|(h1|h1)|h1)
       ·exact Or.inr (Or.inl h1)
       ·exact Or.inl (Or.inl h1)
       ·exact Or.inl (Or.inr h1)
       ·exact Or.inr (Or.inr h1)
     ·rcases hx with (hx|hx)|hx
      ·rw [hx];exact hba
      ·exact kless_trans hba (hp.1 x hx)
      ·exact hq.1 x hx
theorem uni_all:∀ (n:Nat) {l r:List ByteArray},l.Pairwise kless→r.Pairwise kless→l.length+r.length≤n→(uni n l r).Pairwise kless∧∀ x,x∈uni n l r↔x∈l∨x∈r
 | 0,l,r,hl,hr,hn=>by
  have e1:l=[]:=List.eq_nil_of_length_eq_zero (by omega)
  have e2:r=[]:=List.eq_nil_of_length_eq_zero (by omega)
  subst e1 e2
  simp [uni]
 | n+1,l,r,hl,hr,hn=>by
  unfold uni
  by_cases h:l=[]∧r=[]
  ·rw [if_pos h,h.1,h.2]
   simp
  ·rw [if_neg h]
   have hless:=beh_less h
   obtain ⟨h1,h2⟩:=beh_all hl hr h
   obtain ⟨g1,g2⟩:=uni_all n (hl.sublist (beh_sub l (low l r))) (hr.sublist (beh_sub r (low l r))) (by omega)
   refine ⟨List.pairwise_cons.2 ⟨fun x hx=>h2 x ((g2 x).1 hx),g1⟩,fun x=>?_⟩
   rw [List.mem_cons,g2 x,h1 x]
def inK (V:List ByteArray) (k:ByteArray):Bool:=V.any fun x=>decide (x=k)
theorem inK_iff {V:List ByteArray} {k:ByteArray}:inK V k=true↔k∈V:=by
 unfold inK
 rw [List.any_eq_true]
 exact ⟨fun ⟨x,h1,h2⟩=>(of_decide_eq_true h2)▸h1,fun h=>⟨k,h,by simp⟩⟩
theorem inK_no {V:List ByteArray} {k:ByteArray} (h:k∉V):inK V k=false:=by
 cases hb:inK V k with
 | false=>rfl
 | true=>exact absurd (inK_iff.1 hb) h
theorem ofKey_ahead {k:ByteArray} {V:List ByteArray} (hk:∀ v∈V,kless k v):∀ {F:List Rec},F.Pairwise Bef→F.filter (fun r=>inK (k::V) r.key)=ofKey k F++F.filter (fun r=>inK V r.key)
 | [],_=>rfl
 | r::F,h=>by
  have hp:=List.pairwise_cons.1 h
  have ih:=ofKey_ahead hk hp.2
  by_cases h1:r.key=k
  ·have h2:r.key∉V:=fun hv=>kless_irrefl k (by have:=hk _ hv;rw [h1] at this;exact this)
   have e1:inK (k::V) r.key=true:=inK_iff.2 (by simp [h1])
   have e2:inK V r.key=false:=inK_no h2
   have e3:ofKey k (r::F)=r::ofKey k F:=by simp [ofKey,h1]
   rw [List.filter_cons_of_pos (by exact e1),List.filter_cons_of_neg (by simp [e2]),ih,e3,List.cons_append]
  ·have e3:ofKey k (r::F)=ofKey k F:=by simp [ofKey,h1]
   by_cases h2:r.key∈V
   ·
    have hno:ofKey k F=[]:=ofKey_none fun x hx e=>by
     rcases hp.1 x hx with hb|hb
     ·exact kless_asymm (hk _ h2) (by rw [e] at hb;exact hb)
     ·exact h1 (by rw [hb.1,e])
    have e1:inK (k::V) r.key=true:=inK_iff.2 (List.mem_cons_of_mem _ h2)
    have e2:inK V r.key=true:=inK_iff.2 h2
    rw [List.filter_cons_of_pos (by exact e1),List.filter_cons_of_pos (by exact e2),ih,e3,hno]
    rfl
   ·rw [List.filter_cons_of_neg (by rw [inK_no (by simp [h1,h2])];simp),List.filter_cons_of_neg (by rw [inK_no h2];simp),ih,e3]
def restOf (F:List Rec) (U:List ByteArray) (i:Nat):List Rec:=F.filter fun r=>inK (U.drop i) r.key
theorem restOf_zero {F:List Rec} {U:List ByteArray} (h:∀ r∈F,r.key∈U):restOf F U 0=F:=by
 unfold restOf
 rw [List.drop_zero,List.filter_eq_self]
 exact fun r hr=>inK_iff.2 (h r hr)
theorem restOf_step {F:List Rec} {U:List ByteArray} (hF:F.Pairwise Bef) (hU:U.Pairwise kless) {i:Nat} {k:ByteArray} (hk:U[i]?=some k):restOf F U i=ofKey k F++restOf F U (i+1)∧∀ r∈restOf F U (i+1),r.key≠k:=by
 obtain ⟨hi,he⟩:=List.getElem?_eq_some_iff.1 hk
 have hd:U.drop i=k::U.drop (i+1):=by rw [←he,List.drop_eq_getElem_cons hi]
 have hp:(U.drop i).Pairwise kless:=hU.sublist (List.drop_sublist ..)
 rw [hd] at hp
 have hp':=List.pairwise_cons.1 hp
 refine ⟨?_,fun r hr e=>?_⟩
 ·unfold restOf
  rw [hd]
  exact ofKey_ahead hp'.1 hF
 ·unfold restOf at hr
  rw [List.mem_filter] at hr
  have:=inK_iff.1 hr.2
  exact kless_irrefl k (by have h:=hp'.1 _ this;rw [e] at h;exact h)
def pendV (rs:List Rec):List Vs:=rs.reverse.map fun r=>⟨r.stamp,if r.kind=2 then none else some r.body⟩
structure PRec (k:ByteArray) (r:Rec):Prop where
 key:r.key=k
 fits:r.fits=true
 kind:r.kind=0∨(r.kind=2∧r.body.size=0)
 size:r.body.size≤4096
theorem PRec.val {ap:Ap} {k:ByteArray} {r:Rec} (h:PRec k r) (n:ByteArray):∃ s,valOf ap r n=some s∧verOf r s=⟨r.stamp,if r.kind=2 then none else some r.body⟩:=by
 rcases h.kind with h0|⟨h2,hb⟩
 ·refine ⟨r.body,by unfold valOf;rw [if_pos h0,if_pos h.size],by unfold verOf;rw [if_neg (by omega)]⟩
 ·refine ⟨n,by unfold valOf;rw [if_neg (by omega),if_pos h2,if_pos hb],by unfold verOf;rw [if_pos h2,if_pos h2]⟩
theorem pend_tells {ap:Ap} {k:ByteArray}:∀ {R:List Rec},(∀ r∈R,PRec k r)→Tells ap R (R.map fun r=>⟨r.stamp,if r.kind=2 then none else some r.body⟩)
 | [],_=>Tells.nil ap
 | r::R,h=>fun n=>by
  obtain ⟨s,h1,h2⟩:=(h r (by simp)).val (ap:=ap) n
  obtain ⟨e,he⟩:=pend_tells (ap:=ap) (R:=R) (fun x hx=>h x (List.mem_cons_of_mem _ hx)) s
  exact ⟨e,by simp only [run,h1,he,h2,List.map_cons]⟩
theorem enc_le:∀ (f j n:Nat),n<128 ^ (j+1)→(M.enc f n).length≤j+1
 | 0,j,n,_=>by simp [M.enc]
 | f+1,j,n,h=>by
  simp only [M.enc]
  split
  ·simp
  ·rename_i hn
   cases j with
   | zero=>simp at h;omega
   | succ j =>
    have h2:n / 128<128 ^ (j+1):=by
     rw [Nat.div_lt_iff_lt_mul (by omega)]
     rw [Nat.pow_succ] at h
     exact h
    have:=enc_le f j (n / 128) h2
    simp
    omega
theorem entry_le (rs:List Rec) (k:Nat) (r:Rec) (h:r.fits=true):(entry rs k r).length≤11+r.key.size+r.body.size:=by
 simp only [Rec.fits,decide_eq_true_eq] at h
 have hs:=sharedAt_le rs k r
 have h1:=enc_le 7 0 (sharedAt rs k r) (by omega)
 have h2:=enc_le 7 0 (r.key.size-sharedAt rs k r) (by omega)
 have h3:=enc_le 7 5 r.stamp.toNat (by have:=h.2.2.2.2.1;have:(128:Nat) ^ (5+1)=4398046511104:=(by decide);omega)
 have h4:=enc_le 7 1 r.body.size (by have:(128:Nat) ^ (1+1)=16384:=(by decide);omega)
 have h5:(r.key.data.toList.drop (sharedAt rs k r)).length≤r.key.size:=by simp
 have h6:r.body.data.toList.length=r.body.size:=by simp
 simp only [entry,List.length_append,List.length_singleton]
 omega
def inBlk (r:Rec):Nat:=11+r.key.size+r.body.size
theorem textTo_le {rs:List Rec} (hl:rs.length≤64):∀ {k:Nat} {t:List UInt8},textTo rs k=some t→t.length≤1+((rs.take k).map inBlk).sum
 | 0,t,h=>by
  simp only [textTo,Option.some.injEq] at h
  subst h
  have:=enc_le 7 0 rs.length (by omega)
  simp
  omega
 | k+1,t,h=>by
  simp only [textTo] at h
  cases ht:textTo rs k with
  | none=>rw [ht] at h;simp at h
  | some t0 =>
   cases hr:rs[k]? with
   | none=>rw [ht,hr] at h;simp at h
   | some r =>
    rw [ht,hr] at h
    simp only at h
    split at h
    ·simp at h
    ·rename_i hb
     simp only [Option.some.injEq] at h
     subst h
     have h1:=textTo_le hl ht
     have hf:r.fits=true:=by
      cases hff:r.fits with
      | true=>rfl
      | false=>simp [badAt,hff] at hb
     have h2:=entry_le rs k r hf
     have e:rs.take (k+1)=rs.take k++[r]:=by rw [List.take_add_one,hr];rfl
     rw [e]
     simp only [List.length_append,List.map_append,List.sum_append,List.map_cons,List.map_nil,List.sum_cons,List.sum_nil,inBlk] at h1 ⊢
     omega
theorem blkText_le {b:List Rec} (h:OkB b):(blkText b).length≤5+(b.map inBlk).sum:=by
 obtain ⟨t,ht⟩:=h.text
 unfold blkText
 rw [M.sealed_length,ht]
 unfold plainText at ht
 rw [if_neg (by have:=h.few;omega)] at ht
 have:=textTo_le h.few ht
 rw [List.take_of_length_le (Nat.le_refl _)] at this
 simp only [Option.getD_some]
 omega
theorem inBlk_sum:∀ {b:List Rec},(∀ r∈b,r.fits=true)→(b.map inBlk).sum≤4275*b.length
 | [],_=>by simp
 | r::b,h=>by
  have h1:=h r (by simp)
  simp only [Rec.fits,decide_eq_true_eq] at h1
  have:=inBlk_sum (b:=b) (fun x hx=>h x (by simp [hx]))
  simp only [List.map_cons,List.sum_cons,List.length_cons,inBlk] at this ⊢
  omega
def costR (r:Rec):Nat:=26+2*r.key.size+r.body.size
def costs (R:List Rec):Nat:=(R.map costR).sum
theorem costs_append (A B:List Rec):costs (A++B)=costs A+costs B:=by simp [costs]
theorem blk_le:∀ {b:List Rec} (k:Nat),b≠[]→(∃ r∈b,r.key.size=k)→15+k+(b.map inBlk).sum≤costs b
 | [],_,h,_=>absurd rfl h
 | [r],k,_,⟨x,hx,hk⟩=>by
  simp at hx
  subst hx
  simp [costs,costR,inBlk]
  omega
 | r::s::b,k,_,⟨x,hx,hk⟩=>by
  have hle:∀ l:List Rec,(l.map inBlk).sum≤costs l:=fun l=>by
   induction l with
   | nil=>simp [costs]
   | cons y l ih =>
    simp only [costs,List.map_cons,List.sum_cons,costR,inBlk] at ih ⊢
    omega
  rcases List.mem_cons.1 hx with rfl|hx
  ·have:=hle (s::b)
   simp only [costs,List.map_cons,List.sum_cons,costR,inBlk] at this ⊢
   omega
  ·have:=blk_le (b:=s::b) k (by simp) ⟨x,hx,hk⟩
   simp only [costs,List.map_cons,List.sum_cons,costR,inBlk] at this ⊢
   omega
theorem entText_le {b:List Rec} (h:OkB b):(blkText b).length+(entText b).length≤costs b:=by
 have h1:=blkText_le h
 have hm:=lastRec_mem h.some_
 have hf:=h.fits _ hm
 simp only [Rec.fits,decide_eq_true_eq] at hf
 have h2:=inBlk_sum h.fits
 have h3:=h.few
 have e1:=enc_le 7 2 (blkText b).length (by have:(128:Nat) ^ (2+1)=2097152:=(by decide);omega)
 have e2:=enc_le 7 0 (lastRec b).key.size (by omega)
 have e3:=enc_le 7 5 (lastRec b).stamp.toNat (by have:(128:Nat) ^ (5+1)=4398046511104:=(by decide);omega)
 have e4:(lastRec b).key.data.toList.length=(lastRec b).key.size:=by simp
 have h4:=blk_le (lastRec b).key.size h.some_ ⟨_,hm,rfl⟩
 unfold entText
 simp only [List.length_append]
 omega
theorem blocks_le:∀ {bs:List (List Rec)},(∀ b∈bs,OkB b)→(blkOf bs).length+(idxOf bs).length≤costs bs.flatten
 | [],_=>by simp [blkOf,idxOf,costs]
 | b::bs,h=>by
  have h1:=entText_le (h b (by simp))
  have h2:=blocks_le (bs:=bs) (fun x hx=>h x (by simp [hx]))
  have e1:blkOf (b::bs)=blkText b++blkOf bs:=by simp [blkOf]
  have e2:idxOf (b::bs)=entText b++idxOf bs:=by simp [idxOf]
  rw [e1,e2,List.flatten_cons,costs_append]
  simp only [List.length_append]
  omega
theorem endOf_le {bs:List (List Rec)} {wm:Int} (hw:wm≤1099511627776) (hs:(idxOf bs).length≤100000000):(endOf (idxText bs wm)).length≤18+(idxOf bs).length:=by
 have e1:=enc_le 7 5 (wm+1).toNat (by have:(128:Nat) ^ (5+1)=4398046511104:=(by decide);omega)
 have h2:(M.sealed (idxText bs wm)).length=(M.enc 7 (wm+1).toNat).length+(idxOf bs).length+4:=by rw [M.sealed_length];unfold idxText;simp
 unfold endOf
 rw [List.length_append,M.sealed_length (M.enc 7 _),enc4 _ (by omega) (by omega),h2]
 omega
theorem fileText_le {bs:List (List Rec)} {wm:Int} (h:∀ b∈bs,OkB b) (hw:wm≤1099511627776) (hs:costs bs.flatten≤100000000):(fileText bs wm).length≤18+costs bs.flatten:=by
 have h1:=blocks_le h
 have h2:=endOf_le (bs:=bs) hw (by omega)
 unfold fileText
 rw [List.length_append]
 omega
theorem sum_inj {α β:Type} (f:α→Nat) (g:β→Nat) (R:α→β→Prop):∀ (L:List α) (K:List β),L.Pairwise (fun x x'=>∀ y,R x y→¬R x' y)→(∀ x∈L,∃ y∈K,R x y∧f x≤g y)→(L.map f).sum≤(K.map g).sum
 | [],K,_,_=>by simp
 | x::L,K,hp,h=>by
  obtain ⟨y,hy,hR,hf⟩:=h x (by simp)
  obtain ⟨A,B,rfl⟩:=List.append_of_mem hy
  have hp':=List.pairwise_cons.1 hp
  have ih:=sum_inj f g R L (A++B) hp'.2 (fun x' hx'=>by
   obtain ⟨y',hy',hR',hf'⟩:=h x' (by simp [hx'])
   refine ⟨y',?_,hR',hf'⟩
   have hne:y'≠y:=fun e=>hp'.1 x' hx' y hR (by rw [←e];exact hR')
   simp only [List.mem_append,List.mem_cons] at hy' ⊢
   rcases hy' with h1|h1|h1
   ·exact Or.inl h1
   ·exact absurd h1 hne
   ·exact Or.inr h1)
  simp only [List.map_cons,List.sum_cons,List.map_append,List.sum_append] at ih ⊢
  omega
end Go.Proofs.YtekdenkllipehabGreatDoor.S
