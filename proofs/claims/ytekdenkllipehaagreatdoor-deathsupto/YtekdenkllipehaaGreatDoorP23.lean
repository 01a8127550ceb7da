import Derived.Test.YtekdenkllipehaaGreatDoorP17
import Derived.Test.YtekdenkllipehaaGreatDoorP20
import Derived.Test.YtekdenkllipehaaGreatDoorP22
import Derived.Shelf.Small.Strs
set_option maxRecDepth 99999
set_option maxHeartbeats 0
namespace Go.Proofs.YtekdenkllipehaaGreatDoor
section
open Go.Shelf
def bY:Go.Shelf.Ren:=⟨fun|106=>164|213=>185|265=>199|n=>n,fun|3=>3|9=>9|n=>n,fun n=>n⟩
theorem zAV:Lays.n106 Tryz.prog bY:={
 mixed:=by kernel_rfl
 f106:=Tryz.func164.trans (congrArg some (by kernel_rfl))
 f213:=Tryz.func185.trans (congrArg some (by kernel_rfl))
 f265:=Tryz.func199.trans (congrArg some (by kernel_rfl))
 t3:=Tryz.underlying3
 a3:=Tryz.isAgg3
 z3:=Tryz.sizeOf3
 v3:=Tryz.zeroValue3
 t9:=Tryz.underlying9
 a9:=Tryz.isAgg9
 z9:=Tryz.sizeOf9
 v9:=Tryz.zeroValue9 }
end
section
open Go.RowKit
variable{b:List Rec}{bad:Prop}{bl:BA}{bs:List (List Rec)}{w:World}
theorem qF(x:Int)(w:World):Calls Tryz.prog 183 #[iT x] w fun e w'=>e=.returned (.bool false)/\w'=w:=by
 go_in;go_wp2;go_ret;exact⟨by simp,rfl⟩
def zm(a b:Int):Int:=if a<b then -1 else if b<a then 1 else 0
theorem zBq(a b:Int)(w:World):Calls Tryz.prog 165 #[iT a,iT b] w fun e w'=>e=.returned (iT (zm a b))/\w'=w:=by
 have HN:Hid _:=qF;unfold zm;by_cases h1:a<b
 .rw[if_pos h1];go_in;go_wp2_with(go_at_call 183;apply(HN.out _ _).mono;rintro e w'⟨rfl,rfl⟩);go_ret;exact⟨rfl,rfl⟩
 .rw[if_neg h1];by_cases h2:b<a
  .rw[if_pos h2];go_in;go_wp2_with(go_at_call 183;apply(HN.out _ _).mono;rintro e w'⟨rfl,rfl⟩);go_ret;exact⟨rfl,rfl⟩
  .rw[if_neg h2];go_in;go_wp2_with(go_at_call 183;apply(HN.out _ _).mono;rintro e w'⟨rfl,rfl⟩);go_ret;exact⟨rfl,rfl⟩
theorem zFX(a b:Int)(g:Nat)(w:World)(h0:w.cell? (aD g 0)=some (iT a))(h1:w.cell? (aD g 1)=some (iT b)):
  Calls Tryz.prog 163 #[.slice (some (aD g 0)) 2 2] w fun e w'=>e=.returned (iT (if a=0 then b else a))/\Q w w':=by
 obtain⟨v,hv⟩:∃v,(if a=0 then b else a)=v:=⟨_,rfl⟩;rw[hv];have HV:=h_ hv;go_in;go_wp2_with fail
 go_loopw [8] (fun t wr=>∃k:Nat,t=iT (k:Int)/\k<=2/\Hid ((1<=k->a=0)/\(2<=k->b=0))/\wr=w) (fun t _=>2-(intOf t).toNat)
 case atStart=>exact⟨0,rfl,zLS _,(⟨fun h=>absurd h (by decide),fun h=>absurd h (by decide)⟩:(1<=0->a=0)/\(2<=0->b=0)),rfl⟩
 case round =>
  obtain⟨k,rfl,hk,hab,rfl⟩:=hrel
  match k,hk,hab with
  |0,_,hab =>
   by_cases ha:a=0
   ·((((have hb2:(a==0)=true:=by simp[ha]);have HA:Hid ((1<=1->a=0)/\(2<=1->b=0)):=⟨fun _=>ha,fun h=>absurd h (by decide)⟩;go_wp2_with fail);go_roundw);case rel=>exact⟨1,rfl,by omega,HA,by simp⟩);case measure=>simp[intOf]
   ·((have hb2:(a==0)=false:=by rw[zM9];exact ha);have HE:Hid (a=v):=by rw[<-HV.out,if_neg ha];exact rfl);go_wp2;go_ret;exact⟨by rw[<-HE.out];rfl,Q.refl _⟩
  |1,_,hab =>
   (have ha:=hab.out.1 (by omega);have HE:Hid (b=v):=by rw[<-HV.out,if_pos ha];exact rfl);by_cases hb:b=0
   ·((((have hb2:(b==0)=true:=by simp[hb]);have HA:Hid ((1<=2->a=0)/\(2<=2->b=0)):=⟨fun _=>ha,fun _=>hb⟩;go_wp2_with fail);go_roundw);case rel=>exact⟨2,rfl,by omega,HA,by simp⟩);case measure=>simp[intOf]
   ·(have hb2:(b==0)=false:=by rw[zM9];exact hb);go_wp2;go_ret;exact⟨by rw[<-HE.out];rfl,Q.refl _⟩
  |2,_,hab =>
   (have ha:=hab.out.1 (by omega);have hb:=hab.out.2 (by omega);have HE:Hid (0=v):=by rw[<-HV.out,if_pos ha,hb];exact rfl);go_wp2;go_ret;exact⟨by rw[<-HE.out];rfl,Q.refl _⟩
theorem Jq:∀a b:List UInt8,Lib.compareBytes a b=if Op.bytesLess a b=true then -1 else if a=b then 0 else 1
 |[],[]=>by simp[Lib.compareBytes,Op.bytesLess]
 |[],y::b=>by simp[Lib.compareBytes,Op.bytesLess]
 |x::a,[]=>by simp[Lib.compareBytes,Op.bytesLess]
 |x::a,y::b=>by
  rw[Lib.compareBytes,M.Lu,Jq a b];by_cases h1:x<y
  .simp[h1]
  .by_cases h2:y<x
   ·((have hne:x≠y:=fun e=>by subst e;exact h1 h2);have hb:(x==y)=false:=by rw[zM9];exact hne);simp[h1,h2,hb,hne]
   .have he:x=y:=by
     rcases Nat.lt_trichotomy x.toNat y.toNat with h|h|h
     .exact absurd h h1
     .exact UInt8.toNat_inj.1 h
     .exact absurd h h2
    subst he;simp[h1]
def lm(k1:BA)(s1:Int)(k2:BA)(s2:Int):Int:=if Lib.compareBytes k1.data.toList k2.data.toList=0 then zm s2 s1 else Lib.compareBytes k1.data.toList k2.data.toList
theorem sH(k1:BA)(s1:Int)(k2:BA)(s2:Int):lm k1 s1 k2 s2<0↔S.Bc k1 k2\/(k1=k2/\s2<s1):=by
 unfold lm;rw[Jq];have e1:k1.toList=k1.data.toList:=ByteArray.toList_eq ..;have e2:k2.toList=k2.data.toList:=ByteArray.toList_eq ..;unfold S.Bc;rw[e1,e2]
 cases h:Op.bytesLess k1.data.toList k2.data.toList with
 |true=>simp
 |false =>
  by_cases he:k1.data.toList=k2.data.toList
  .have hk:k1=k2:=M.EY (by rw[e1,e2,he]);have hc:(if false=true then(-1:Int)else if k1.data.toList=k2.data.toList then 0 else 1)=0:=by simp[he]
   rw[hc,if_pos rfl];unfold zm;constructor
   .intro hlt;refine Or.inr ⟨hk,?_⟩;split at hlt
    .assumption
    .split at hlt<;>omega
   .rintro(hx|⟨_,hx⟩)
    .cases hx
    .rw[if_pos hx];decide
  .have hk:¬k1=k2:=fun e=>he (by rw[e]);have hc:(if false=true then(-1:Int)else if k1.data.toList=k2.data.toList then 0 else 1)=1:=by rw[if_neg (by decide),if_neg he]
   rw[hc,if_neg (by decide)];constructor
   .intro hx;exact absurd hx (by decide)
   .rintro(hx|⟨hx,_⟩)
    .cases hx
    .exact absurd hx hk
theorem eB(l1 h1 s1 l2 h2 s2:Int)(k1 k2:BA)(w:World):
  Calls Tryz.prog 131 #[.agg #[iT l1,iT h1,sT k1,iT s1],.agg #[iT l2,iT h2,sT k2,iT s2]] w fun e w'=>e=.returned (iT (lm k1 s1 k2 s2))/\Q w w':=by
 have HS:Hid _:=fun W=>Any.strings_Compare zAV k1 k2 W;have HI:Hid _:=fun W=>zBq s2 s1 W;have HO:Hid _:=fun(g:Nat)(W:World)(h0:W.cell? (aD g 0)=some (iT (Lib.compareBytes k1.data.toList k2.data.toList)))(h1:W.cell? (aD g 1)=some (iT (zm s2 s1)))=>zFX _ _ g W h0 h1;unfold lm;generalize Lib.compareBytes k1.data.toList k2.data.toList=c at*;generalize zm s2 s1=d at*;generalize (if c=0 then d else c)=z at*;have hA:=AZ w [iT l1,iT h1,sT k1,iT s1] 144;have hA2:=hA.kept ((Q.refl _).alloc #[iT l2,iT h2,sT k2,iT s2] 144);have hB:=AZ (w.alloc (.cells #[iT l1,iT h1,sT k1,iT s1] 144)) [iT l2,iT h2,sT k2,iT s2] 144;rw[zMM]at hB;obtain⟨W0,hW0⟩:=xe ((w.alloc (.cells #[iT l1,iT h1,sT k1,iT s1] 144)).alloc (.cells #[iT l2,iT h2,sT k2,iT s2] 144));have hq0:Q w W0:=by rw[<-hW0];exact((Q.refl w).alloc _ _).alloc _ _
 go_in;rw[hW0]at hA2 hB;have m0:=hA2.cell 2 rfl;have m1:=hA2.cell 3 rfl;have m2:=hB.cell 2 rfl;have m3:=hB.cell 3 rfl;go_upto_region 1 with fail
 go_region_held3 (fun w'=>w'.cell? (aD w.heap.size 2)=some (sT k1)/\w'.cell? (aD w.heap.size 3)=some (iT s1)/\w'.cell? (aD (w.heap.size+1) 2)=some (sT k2)/\w'.cell? (aD (w.heap.size+1) 3)=some (iT s2))
  (first|exact⟨m0,m1,m2,m3⟩|exact Db|exact hS5|exact⟨AA m0 (((Q.refl _).alloc _ _).drew),AA m1 (((Q.refl _).alloc _ _).drew),AA m2 (((Q.refl _).alloc _ _).drew),AA m3 (((Q.refl _).alloc _ _).drew)⟩)
  (first|(go_at_call 164;apply(HS.out _).mono;rintro e v1⟨rfl,rfl⟩)|(go_at_call 165;apply(HI.out _).mono;rintro e v2⟨rfl,rfl⟩)|(go_at_call 163;apply(HO.out _ _ (by simp) (by simp)).mono;rintro e v3⟨rfl,q3⟩;have q4:Q W0 v3:=(((Q.refl W0).alloc _ _).drew).trans q3;have hS5:v3.cell? (aD w.heap.size 2)=some (sT k1)/\v3.cell? (aD w.heap.size 3)=some (iT s1)/\v3.cell? (aD (w.heap.size+1) 2)=some (sT k2)/\v3.cell? (aD (w.heap.size+1) 3)=some (iT s2):=⟨AA m0 q4,AA m1 q4,AA m2 q4,AA m3 q4⟩))
 go_wp2;go_ret;exact⟨rfl,hq0.trans q4⟩
structure mY(es:List S.Ent)(key:BA)(t:Int)(m:Nat):Prop where
 le:m<=es.length
 lo:∀(i:Nat)(e:S.Ent),i<m->es[i]?=some e->lm e.key e.stamp key t<0
 hi:∀(i:Nat)(e:S.Ent),m<=i->es[i]?=some e->¬lm e.key e.stamp key t<0
def zCX(m:Nat)(e:Ending):Prop:=∃b:Bool,e=.returned (.tuple #[iT (m:Int),.bool b])
theorem zBu(es:List S.Ent)(hl:es.length<=1048576)(key:BA)(t:Int)(m:Nat)(hm:mY es key t m)(ao:Option Addr)(cap:Nat)(w:World)(h:Dz w ao es):
  Calls Tryz.prog 130 #[.slice ao es.length cap,.agg #[iT 0,iT 0,sT key,iT t],.func (.func 131) #[] #[]] w fun e w'=>zCX m e/\Q w w':=by
 have HH:=h_ h;have HP:=h_ hm;have HC:Hid _:=fun(a b s:Int)(k:BA)(W:World)=>eB a b s 0 0 t k key W;have hml:=hm.le;go_in;go_wp2_with fail;have RB:=AZ w [iT 0,iT 0,sT key,iT t] 144
 go_loopw [9,10] (fun ta tb wr=>∃lo hi:Nat,ta=iT (lo:Int)/\tb=iT (hi:Int)/\lo<=m/\m<=hi/\hi<=es.length/\Ca wr w.heap.size [iT 0,iT 0,sT key,iT t]/\Q w wr) (fun ta tb _=>(intOf tb).toNat-(intOf ta).toNat)
 case atStart=>exact⟨0,es.length,rfl,rfl,zLS _,hml,zLK _,RB,(Q.refl w).alloc _ _⟩
 case round =>
  obtain⟨lo,hi,rfl,rfl,h1,h2,h3,hV,hq⟩:=hrel;by_cases hlt:lo<hi
  .obtain⟨md,hmd⟩:=xe ((lo+hi)/2);have zIw:lo<=md/\md<hi:=by omega
   obtain⟨e,he⟩:∃e,es[md]?=some e:=⟨_,zLH (by omega)⟩;rcases HH.out.kept hq with hnil|⟨g,rfl,hg,hc⟩
   .rw[hnil]at h3;simp at h3;omega
   (((obtain⟨c0,c1,c2,c3⟩:=hc md e he;obtain⟨sm,hsm⟩:=xe (lo+hi);have hsum:(lo:Int)+(hi:Int)=(sm:Int):=by omega);have zIy:(sm:Int)/2=(md:Int):=by omega);have hsb:sm<=2097152:=by omega);have zIx:(md:Int)<(es.length:Int):=by omega
   have m0:=hV.cell 0 rfl;have m1:=hV.cell 1 rfl;have m2:=hV.cell 2 rfl;have m3:=hV.cell 3 rfl;have Sj:Hid _:=fun(W:World)=>HC.out (e.lo:Int) (e.hi:Int) (e.stamp:Int) e.key W;have yg:Hid (lm e.key e.stamp key t<0->md+1<=m):=fun hz=>by
    rcases zLn md m with h|h
    .exact h
    .exact absurd hz (HP.out.hi md e h he)
   have HPh:Hid (¬lm e.key e.stamp key t<0->m<=md):=fun hz=>by
    rcases zLn md m with h|h
    .exact absurd (HP.out.lo md e h he) hz
    .exact h
   generalize lm e.key e.stamp key t=z at*;by_cases hz:z<0
   .have hlm:=yg.out hz;go_upto_region 5 with fail
    go_region_held3 (fun w'=>w'.cell? (aD g (md*4))=some (iT (e.lo:Int))/\w'.cell? (aD g (md*4+1))=some (iT (e.hi:Int))/\w'.cell? (aD g (md*4+2))=some (sT e.key)/\w'.cell? (aD g (md*4+3))=some (iT (e.stamp:Int))/\w'.cell? (aD w.heap.size 0)=some (iT 0)/\w'.cell? (aD w.heap.size 1)=some (iT 0)/\w'.cell? (aD w.heap.size 2)=some (sT key)/\w'.cell? (aD w.heap.size 3)=some (iT t))
     (first|exact⟨c0,c1,c2,c3,m0,m1,m2,m3⟩|exact hS5)
     (first|(go_at_call 131;apply(Sj.out _).mono;rintro e' v3⟨rfl,q3⟩;have q4:Q wr v3:=(Q.refl wr).drew.trans q3;have hS5:v3.cell? (aD g (md*4))=some (iT (e.lo:Int))/\v3.cell? (aD g (md*4+1))=some (iT (e.hi:Int))/\v3.cell? (aD g (md*4+2))=some (sT e.key)/\v3.cell? (aD g (md*4+3))=some (iT (e.stamp:Int))/\v3.cell? (aD w.heap.size 0)=some (iT 0)/\v3.cell? (aD w.heap.size 1)=some (iT 0)/\v3.cell? (aD w.heap.size 2)=some (sT key)/\v3.cell? (aD w.heap.size 3)=some (iT t):=⟨AA c0 q4,AA c1 q4,AA c2 q4,AA c3 q4,AA m0 q4,AA m1 q4,AA m2 q4,AA m3 q4⟩))
    (((have Uq:=hV.kept q4;have hq3:=hq.trans q4;go_wp2_with fail);go_roundw);case rel=>exact⟨md+1,hi,by go_num,rfl,hlm,h2,h3,Uq,hq3⟩);case measure=>simp[intOf];omega
   .have hlm:=HPh.out hz;go_upto_region 5 with fail
    go_region_held3 (fun w'=>w'.cell? (aD g (md*4))=some (iT (e.lo:Int))/\w'.cell? (aD g (md*4+1))=some (iT (e.hi:Int))/\w'.cell? (aD g (md*4+2))=some (sT e.key)/\w'.cell? (aD g (md*4+3))=some (iT (e.stamp:Int))/\w'.cell? (aD w.heap.size 0)=some (iT 0)/\w'.cell? (aD w.heap.size 1)=some (iT 0)/\w'.cell? (aD w.heap.size 2)=some (sT key)/\w'.cell? (aD w.heap.size 3)=some (iT t))
     (first|exact⟨c0,c1,c2,c3,m0,m1,m2,m3⟩|exact hS5)
     (first|(go_at_call 131;apply(Sj.out _).mono;rintro e' v3⟨rfl,q3⟩;have q4:Q wr v3:=(Q.refl wr).drew.trans q3;have hS5:v3.cell? (aD g (md*4))=some (iT (e.lo:Int))/\v3.cell? (aD g (md*4+1))=some (iT (e.hi:Int))/\v3.cell? (aD g (md*4+2))=some (sT e.key)/\v3.cell? (aD g (md*4+3))=some (iT (e.stamp:Int))/\v3.cell? (aD w.heap.size 0)=some (iT 0)/\v3.cell? (aD w.heap.size 1)=some (iT 0)/\v3.cell? (aD w.heap.size 2)=some (sT key)/\v3.cell? (aD w.heap.size 3)=some (iT t):=⟨AA c0 q4,AA c1 q4,AA c2 q4,AA c3 q4,AA m0 q4,AA m1 q4,AA m2 q4,AA m3 q4⟩))
    (((have Uq:=hV.kept q4;have hq3:=hq.trans q4;go_wp2_with fail);go_roundw);case rel=>exact⟨lo,md,rfl,rfl,h1,hlm,by omega,Uq,hq3⟩);case measure=>simp[intOf];omega
  .obtain rfl:lo=m:=by omega
   (obtain rfl:hi=lo:=by omega);by_cases hn:hi<es.length
   .obtain⟨e,he⟩:∃e,es[hi]?=some e:=⟨_,zLH hn⟩;rcases HH.out.kept hq with hnil|⟨g,rfl,hg,hc⟩
    .rw[hnil]at hn;simp at hn
    (obtain⟨c0,c1,c2,c3⟩:=hc hi e he;have hnI:(hi:Int)<(es.length:Int):=by omega);have m0:=hV.cell 0 rfl;have m1:=hV.cell 1 rfl;have m2:=hV.cell 2 rfl;have m3:=hV.cell 3 rfl;have Sj:Hid _:=fun(W:World)=>HC.out (e.lo:Int) (e.hi:Int) (e.stamp:Int) e.key W;generalize lm e.key e.stamp key t=z at*;go_upto_region 8 with fail
    go_region_held3 (fun w'=>w'.cell? (aD g (hi*4))=some (iT (e.lo:Int))/\w'.cell? (aD g (hi*4+1))=some (iT (e.hi:Int))/\w'.cell? (aD g (hi*4+2))=some (sT e.key)/\w'.cell? (aD g (hi*4+3))=some (iT (e.stamp:Int))/\w'.cell? (aD w.heap.size 0)=some (iT 0)/\w'.cell? (aD w.heap.size 1)=some (iT 0)/\w'.cell? (aD w.heap.size 2)=some (sT key)/\w'.cell? (aD w.heap.size 3)=some (iT t))
     (first|exact⟨c0,c1,c2,c3,m0,m1,m2,m3⟩|exact hS5)
     (first|(go_at_call 131;apply(Sj.out _).mono;rintro e' v3⟨rfl,q3⟩;have q4:Q wr v3:=(Q.refl wr).drew.trans q3;have hS5:v3.cell? (aD g (hi*4))=some (iT (e.lo:Int))/\v3.cell? (aD g (hi*4+1))=some (iT (e.hi:Int))/\v3.cell? (aD g (hi*4+2))=some (sT e.key)/\v3.cell? (aD g (hi*4+3))=some (iT (e.stamp:Int))/\v3.cell? (aD w.heap.size 0)=some (iT 0)/\v3.cell? (aD w.heap.size 1)=some (iT 0)/\v3.cell? (aD w.heap.size 2)=some (sT key)/\v3.cell? (aD w.heap.size 3)=some (iT t):=⟨AA c0 q4,AA c1 q4,AA c2 q4,AA c3 q4,AA m0 q4,AA m1 q4,AA m2 q4,AA m3 q4⟩))
    have hq3:=hq.trans q4;go_wp2_with fail
    go_ret2
    exact⟨⟨_,rfl⟩,hq3⟩
   ·(((have hnI:¬(hi:Int)<(es.length:Int):=by omega);have hnd:decide ((hi:Int)<(es.length:Int))=false:=by simpa using hnI);go_upto_region 8 with fail);go_quiet (fail);go_wp2_with fail
    go_ret2
    exact⟨⟨_,rfl⟩,hq.drewN _⟩
theorem l9(rs:List Rec)(ao:Option Addr)(cap:Nat)(w:World)(h:Rcs w ao rs)(hl:rs.length<=140737488351232)(hT:Tab w):
  Calls Tryz.prog 171 #[.slice ao rs.length cap] w fun e w'=>e=Oc (Ad rs)/\Q w w':=by
 have HF:=lI rs ao cap w h hl
 cases ht:Ad rs with
 |none =>
  rw[ht]at HF;have HFi:Hid _:=fun(_:Unit)=>HF;clear HF;go_in;go_wp2_with fail;apply(HFi.out ()).mono;rintro e w1⟨rfl,q1⟩;go_wp2_with fail
  go_ret2
  exact⟨rfl,q1⟩
 |some t =>
  rw[ht]at HF;have HFi:Hid _:=fun(_:Unit)=>HF;have zq:Hid _:=fun W(q:Q w W)=>Nt rs t ht ao cap W (h.kept q);have hlt:=Ij (CS ht).2;have h64:=(CS ht).1;have hts:(⟨t.toArray⟩:BA).size=t.length:=rfl;have hSe:=fun W(hT:Tab W)=>JU ⟨t.toArray⟩ (by rw[hts];omega) W hT;rw[show(⟨t.toArray⟩:BA).data.toList=t from List.toList_toArray]at hSe;have HS:Hid _:=hSe;have HR:Hid (Oc (some t)=.returned (.tuple #[sT ⟨(M.sealed t).toArray⟩,iT 0])):=(rfl:Oc (some t)=_);rw[HR.out];generalize (⟨(M.sealed t).toArray⟩:BA)=sx at*;generalize (⟨t.toArray⟩:BA)=tx at*;clear HF hSe hts;go_in;go_wp2_with fail;apply(HFi.out ()).mono;rintro e w1⟨rfl,q1⟩;go_wp2_with fail;apply(zq.out _ q1).mono;rintro e w2⟨rfl,q2⟩;go_wp2_with fail;apply(HS.out _ (CJ hT (q1.trans q2))).mono;rintro e w3⟨rfl,q3⟩;go_wp2_with fail
  go_ret2
  exact⟨rfl,(q1.trans q2).trans ⟨q3⟩⟩
theorem Li(s u:BA)(x:Int)(hx:x≠0)(w:World)(hU:Calls Tryz.prog 110 #[sT s] w fun e w'=>e=.returned (.tuple #[sT u,iT x])/\Q w w'):
  Calls Tryz.prog 90 #[sT s] w fun e w'=>e=.returned (.tuple #[nS,iT x])/\Q w w':=by
 have HU:Hid _:=fun(_:Unit)=>hU;clear hU;go_in;go_wp2_with fail;apply(HU.out ()).mono;rintro e w1⟨rfl,q1⟩;go_wp2_with fail
 go_ret2
 exact⟨rfl,q1⟩
theorem F8{base:Nat}{ao:Option Addr}{cap:Nat}{L:List Rec}(h:w.ownsRow base 119 4 (.slice ao L.length cap) L.length (AY L)):Rcs w ao L:=by
 by_cases hne:L=[]
 .exact Or.inl hne
 .obtain⟨g,e,hg,hr⟩:=Lj h hne;exact Or.inr ⟨g,0,e,hg,hr⟩
theorem bP(s T:BA)(hs:T.size<=140737488351232)(w:World)(hU:Calls Tryz.prog 110 #[sT s] w fun e w'=>e=.returned (.tuple #[sT T,iT 0])/\Q w w'):
  Calls Tryz.prog 90 #[sT s] w fun e w'=>Parsed T w e w'/\Q w w':=by
 have HU:Hid _:=fun(_:Unit)=>hU;have XD:Hid _:=fun W=>oU T hs W;have hbl:(Dl T.data.toList).length<=64:=by
  unfold Dl;rw[Il];exact(Cw (T:=T.data.toList) (most:=64) (a:=0) (by omega)).2.1
 have HP:Hid (∀rs,Ad rs=some T.data.toList->Dl T.data.toList=rs):=fun rs=>O8;generalize Dl T.data.toList=l at*;have HFt:Hid _:=fun ao cap W h=>lI l ao cap W h (by omega);clear hU
 cases hp:Ad l with
 |none =>
  rw[hp]at HFt;have HN:Hid (∀rs,Ad rs≠some T.data.toList):=fun rs hr=>by
   have:=HP.out rs hr;subst this;rw[hp]at hr
   cases hr
  go_in;go_wp2_with fail;apply(HU.out ()).mono;rintro e w1⟨rfl,q1⟩;go_wp2_with fail;apply(XD.out _).mono;rintro e w2⟨⟨ao,cap,rfl,hown⟩,q2⟩;go_wp2_with fail;apply(HFt.out ao cap _ (F8 hown)).mono;rintro e w3⟨rfl,q3⟩;go_wp2_with fail
  go_ret2
  exact⟨Or.inr ⟨rfl,HN.out⟩,(q1.trans q2).trans q3⟩
 |some t =>
  rw[hp]at HFt;have zq:Hid _:=fun ao cap W h=>Nt l t hp ao cap W h;have htl:(⟨t.toArray⟩:BA).toList=t:=by rw[ByteArray.toList_eq]
  have Ur:T.toList=T.data.toList:=by rw[ByteArray.toList_eq]
  by_cases hEq:t=T.data.toList
  .have hb:((⟨t.toArray⟩:BA).toList==T.toList)=true:=by rw[htl,Ur];simpa using hEq
   (have yg:Hid (Ad l=some T.data.toList):=by show _=_;rw[hp,hEq]);clear htl Ur hEq hp;generalize (⟨t.toArray⟩:BA)=tx at*;go_in;go_wp2_with fail;apply(HU.out ()).mono;rintro e w1⟨rfl,q1⟩;go_wp2_with fail;apply(XD.out _).mono;rintro e w2⟨⟨ao,cap,rfl,hown⟩,q2⟩;go_wp2_with fail;apply(HFt.out ao cap _ (F8 hown)).mono;rintro e w3⟨rfl,q3⟩;have hown3:=own_below hown q3.below;go_wp2_with fail;apply(zq.out ao cap _ (F8 hown3)).mono;rintro e w4⟨rfl,q4⟩;have JF:=own_below hown3 q4.below;go_wp2_with fail
   go_ret2
   exact⟨Or.inl ⟨l,ao,cap,_,rfl,yg.out,by have:=q1.below.size;omega,JF⟩,((q1.trans q2).trans q3).trans q4⟩
  .have hb:((⟨t.toArray⟩:BA).toList==T.toList)=false:=by rw[htl,Ur];simpa using hEq
   have HN:Hid (∀rs,Ad rs≠some T.data.toList):=fun rs hr=>by
    have:=HP.out rs hr;subst this;rw[hp]at hr;exact hEq (Option.some.inj hr)
   clear htl Ur hEq hp;generalize (⟨t.toArray⟩:BA)=tx at*;go_in;go_wp2_with fail;apply(HU.out ()).mono;rintro e w1⟨rfl,q1⟩;go_wp2_with fail;apply(XD.out _).mono;rintro e w2⟨⟨ao,cap,rfl,hown⟩,q2⟩;go_wp2_with fail;apply(HFt.out ao cap _ (F8 hown)).mono;rintro e w3⟨rfl,q3⟩;have hown3:=own_below hown q3.below;go_wp2_with fail;apply(zq.out ao cap _ (F8 hown3)).mono;rintro e w4⟨rfl,q4⟩;go_wp2_with fail
   go_ret2
   exact⟨Or.inr ⟨rfl,HN.out⟩,((q1.trans q2).trans q3).trans q4⟩
theorem jC(s:BA)(hs:s.size<=140737488351232)(w:World)(zEw:Tab w):
  Calls Tryz.prog 90 #[sT s] w fun e w'=>mZ s w e w'/\Q w w':=by
 by_cases h4:s.size<4
 .refine(Li s ⟨#[]⟩ 2 (by decide) w ((NT s h4 w).mono ?_)).mono ?_
  .rintro e w'⟨rfl,rfl⟩;exact⟨rfl,Q.refl _⟩
  .rintro e w'⟨rfl,q⟩;exact⟨Or.inl ⟨h4,rfl⟩,q⟩
 .obtain⟨n,hn⟩:∃n,s.size=n+4:=⟨s.size-4,by omega⟩;obtain⟨T,hT⟩:=xe (s.extract 0 n);obtain⟨R,hR⟩:=xe (s.extract n (n+4));have hsR:s=T++R:=by
   rw[<-hT,<-hR,ByteArray.extract_append_extract];simp[<-hn]
  have hTs:T.size=n:=by rw[<-hT];simp;omega
  have hU:=Ol s T R n (by omega) hn hT hR w zEw;by_cases hc:R.data.toList=M.le4 (M.sum T.data.toList)
  .have hse:Cc T.data.toList=s:=(iL T R hc).trans hsR.symm;refine(bP s T (by omega) w (hU.mono ?_)).mono ?_
   .rintro e w'⟨rfl,q⟩;refine⟨?_,⟨q⟩⟩;unfold opened;rw[if_pos hc]
   .rintro e w'⟨hp,q⟩;exact⟨Or.inr (Or.inr ⟨T,hse,hp⟩),q⟩
  .refine(Li s ⟨#[]⟩ 3 (by decide) w (hU.mono ?_)).mono ?_
   .rintro e w'⟨rfl,q⟩;refine⟨?_,⟨q⟩⟩;unfold opened;rw[if_neg hc]
   .rintro e w'⟨rfl,q⟩;refine⟨Or.inr (Or.inl ⟨by omega,?_,rfl⟩),q⟩;intro t ht;have h1:M.sealed t=T.data.toList++R.data.toList:=by
     have:=congrArg (fun x:BA=>x.data.toList) (ht.trans hsR);simpa[Cc]using this
    have hRs:R.data.toList.length=4:=by
     (have:R.size=4:=by rw[<-hR];simp;omega);exact Array.length_toList.trans this
    have hl:=congrArg List.length h1;rw[M.Ar,zLL,hRs]at hl;unfold M.sealed at h1;obtain⟨e1,e2⟩:=List.append_inj h1 (by omega);rw[<-e1]at hc;exact hc e2.symm
def nG(s:BA)(w:World)(e:Ending)(w':World):Prop:=
 (∃(rs:List Rec)(T:List UInt8)(ao:Option Addr)(cap base:Nat),rs≠[]/\Ad rs=some T/\Cc T=s/\e=.returned (.tuple #[.slice ao rs.length cap,iT 0])/\w.heap.size<=base/\w'.ownsRow base 119 4 (.slice ao rs.length cap) rs.length (AY rs))
 \/ (e=.returned (.tuple #[nS,iT 3])/\∀rs T,rs≠[]->Ad rs=some T->Cc T≠s)
theorem qC(wm:Int)(bl:BA)(hb:bl.size<=1048576)(es:List S.Ent)(ao:Option Addr)(cap:Nat)(i:Nat)(en:S.Ent)(he:es[i]?=some en)(hlo:en.lo<=en.hi)(hhi:en.hi<=bl.size)(_hl:es.length<=1048576)(w:World)(hE:Dz w ao es)(hT:Tab w):
  Calls Tryz.prog 62 #[F3 wm bl ao es.length cap,iT (i:Int)] w fun e w'=>nG (bl.extract en.lo en.hi) w e w'/\Q w w':=by
 have hi:i<es.length:=(zLI.1 he).1;have PA:Hid _:=fun W(q:Q w W)=>jC (bl.extract en.lo en.hi) (by simp;omega) W (CJ hT q);rcases hE with hnil|⟨g,rfl,hg,hc⟩
 .rw[hnil]at hi;simp at hi
 obtain⟨c0,c1,c2,c3⟩:=hc i en he;have k0:=AA c0 ((Q.refl w).alloc #[iT wm,sT bl,.slice (some (aD g 0)) es.length cap] 112);have k1:=AA c1 ((Q.refl w).alloc #[iT wm,sT bl,.slice (some (aD g 0)) es.length cap] 112);have k2:=AA c2 ((Q.refl w).alloc #[iT wm,sT bl,.slice (some (aD g 0)) es.length cap] 112);have k3:=AA c3 ((Q.refl w).alloc #[iT wm,sT bl,.slice (some (aD g 0)) es.length cap] 112);have hiI:(i:Int)<(es.length:Int):=by omega
 have b1:(en.lo:Int)<=(en.hi:Int):=by omega
 have b2:(en.hi:Int)<=(bl.size:Int):=by omega
 unfold F3;generalize hs:bl.extract en.lo en.hi=s at*;go_in;go_wp2_with fail;apply(PA.out _ (((Q.refl w).alloc _ _).alloc _ _)).mono;rintro e w1⟨hP,q1⟩;have q1':Q w w1:=(((Q.refl w).alloc _ _).alloc _ _).trans q1;have hsz:w.heap.size<=((w.alloc (.cells #[iT wm,sT bl,.slice (some (aD g 0)) es.length cap] 112)).alloc (.cells #[iT (en.lo:Int),iT (en.hi:Int),sT en.key,iT (en.stamp:Int)] 144)).heap.size:=by simp;omega
 rcases hP with⟨h4,rfl⟩|⟨h4,hno,rfl⟩|⟨T,hse,hP⟩
 .have HN:Hid (∀rs T,rs≠[]->Ad rs=some T->Cc T≠s):=fun rs T _ _ e=>by
   have:=congrArg ByteArray.size e;have h2:(Cc T).size=(M.sealed T).length:=rfl;rw[h2,M.Ar]at this;omega
  go_wp2_with fail
  go_ret2
  exact⟨Or.inr ⟨rfl,HN.out⟩,q1'⟩
 .have HN:Hid (∀rs T,rs≠[]->Ad rs=some T->Cc T≠s):=fun rs T _ _=>hno T;go_wp2_with fail
  go_ret2
  exact⟨Or.inr ⟨rfl,HN.out⟩,q1'⟩
 .rcases hP with⟨l,lo,lc,base,rfl,hpl,hbase,hown⟩|⟨rfl,hno⟩
  .cases l with
   |nil =>
    have HN:Hid (∀rs T',rs≠[]->Ad rs=some T'->Cc T'≠s):=fun rs T' hne hp e=>by
     have hTT:T'=T.data.toList:=Ja (e.trans hse.symm);rw[hTT]at hp;exact hne (Le hp hpl)
    go_wp2_with fail
    go_ret2
    exact⟨Or.inr ⟨rfl,HN.out⟩,q1'⟩
   |cons r l =>
    (((have HO:Hid _:=hown;have tC:Hid _:=hpl;have hln:((r::l).length:Int)≠0:=by simp;omega);have hlb:(((r::l).length:Int)==0)=false:=by rw[zM9];exact hln);generalize hrl:r::l=rl at*;have hne:rl≠[]:=by rw[<-hrl];simp);have HNe:=h_ hne;go_wp2_with fail
    go_ret2
    exact⟨Or.inl ⟨rl,_,lo,lc,base,HNe.out,tC.out,hse,rfl,zLV hsz hbase,HO.out⟩,q1'⟩
  .have HN:Hid (∀rs T',rs≠[]->Ad rs=some T'->Cc T'≠s):=fun rs T' _ hp e=>by
    have hTT:T'=T.data.toList:=Ja (e.trans hse.symm);rw[hTT]at hp;exact hno rs hp
   go_wp2_with fail
   go_ret2
   exact⟨Or.inr ⟨rfl,HN.out⟩,q1'⟩
theorem Wq(h:S.OkB b):∃T,Ad b=some T/\(Cc T).data.toList=S.Aj b:=by
 obtain⟨T,hT⟩:=h.text;refine⟨T,hT,?_⟩;unfold S.Aj Cc;rw[hT];rfl
theorem fC(h:S.OkB b){s:BA}(hs:s.data.toList=S.Aj b){w':World}{e:Ending}(hB:nG s w e w'):
  ∃ao cap base,e=.returned (.tuple #[.slice ao b.length cap,iT 0])/\w.heap.size<=base/\w'.ownsRow base 119 4 (.slice ao b.length cap) b.length (AY b):=by
 obtain⟨T,hT,hse⟩:=Wq h;have hsT:Cc T=s:=by
  apply ByteArray.ext;apply Array.toList_inj.1;rw[hse,hs]
 rcases hB with⟨rs,T',ao,cap,base,_,hp,zEV,rfl,hb,ho⟩|⟨_,hno⟩
 .have:T'=T:=Ja (zEV.trans hsT.symm);subst this;have:=Le hp hT;subst this;exact⟨ao,cap,base,rfl,hb,ho⟩
 .exact absurd hsT (hno b T h.some_ hT)
namespace S
theorem sU(ho:b.Pairwise Bef)(hne:b≠[]){r:Rec}(hr:r∈b):r=BJ b\/Bef r (BJ b):=by
 have e:b=b.dropLast++[b.getLast hne]:=(List.dropLast_concat_getLast hne).symm;have el:BJ b=b.getLast hne:=by
  unfold BJ;rw[List.getLast?_eq_some_getLast hne];rfl
 rw[el];rw[e,zLh]at ho;rw[e]at hr;rcases zMD.1 hr with h|h
 .exact Or.inr (by simpa using ho.2.2 r h _ (List.mem_singleton.2 rfl))
 .exact Or.inl (by simpa using h)
theorem rH(ho:b.Pairwise Bef)(hne:b≠[]){k:BA}{t:Int}(h:XF (BJ b) k t):∀r∈b,XF r k t:=fun r hr=>by
 rcases sU ho hne hr with e|e
 .rw[e];exact h
 .exact XF.tZ e h
theorem Zp{p:Nat}(hb:OkB b)(k:BA)(t:Int):lm (RG p b).key (RG p b).stamp k t<0↔XF (BJ b) k t:=by
 have hf:=hb.fits _ (EC hb.some_);have h0:0<=(BJ b).stamp:=by
  simp[Rec.fits]at hf;omega
 rw[sH];unfold XF RG;simp only;rw[Int.toNat_of_nonneg h0]
theorem place:∀(bs:List (List Rec))(at_:Nat)(k:BA)(t:Int),(∀b∈bs,OkB b)->(bs.flatten).Pairwise Bef ->
  ∃m,mY (CR at_ bs) k t m/\(m=bs.length->∀r∈bs.flatten,XF r k t)/\(∀b,bs[m]?=some b->(∀r∈(bs.take m).flatten,XF r k t)/\∃r∈b,¬XF r k t)
 |[],at_,k,t,_,_=>⟨0,⟨zLS _,fun i e h=>absurd h (Nat.not_lt_zero _),fun i e _ h=>by simp[CR]at h⟩,fun _ r hr=>by simp at hr,fun b hb=>by simp at hb⟩
 |b::bs,at_,k,t,hok,ho=>by
  have hb:=hok b (by simp);rw[zLz,zLh]at ho;by_cases h:XF (BJ b) k t
  .obtain⟨m,hm,h1,h2⟩:=place bs (at_+(Aj b).length) k t (fun x hx=>hok x (by simp[hx])) ho.2.1;have hall:=rH hb.ord hb.some_ h;refine⟨m+1,⟨?_,?_,?_⟩,?_,?_⟩
   .simp only[CR,zLQ];have:=hm.le;omega
   .intro i e hi he
    cases i with
    |zero =>
     simp[CR]at he;subst he;exact(Zp hb k t).2 h
    |succ i =>
     rw[CR,zLZ]at he;exact hm.lo i e (by omega) he
   .intro i e hi he
    cases i with
    |zero=>omega
    |succ i =>
     rw[CR,zLZ]at he;exact hm.hi i e (by omega) he
   .intro e r hr;rw[zLz]at hr;rcases zMD.1 hr with hr|hr
    .exact hall r hr
    .exact h1 (by simpa using e) r hr
   .intro c hc;rw[zLZ]at hc;obtain⟨g1,g2⟩:=h2 c hc;refine⟨fun r hr=>?_,g2⟩;rw[List.take_succ_cons,zLz]at hr;rcases zMD.1 hr with hr|hr
    .exact hall r hr
    .exact g1 r hr
  .refine⟨0,⟨zLS _,fun i e h=>absurd h (Nat.not_lt_zero _),?_⟩,fun e=>by simp at e,fun c hc=>?_⟩
   .intro i e _ he;have hi:i<(b::bs).length:=by
     have:=(zLI.1 he).1
     rwa [Cz]at this
    obtain⟨c,hc⟩:∃c,(b::bs)[i]?=some c:=⟨_,zLH hi⟩;obtain⟨p,hp,_⟩:=QU (at_:=at_) hc;rw[hp]at he;obtain rfl:=Option.some.inj he;have hcm:=zLR hc;rw[Zp (hok c hcm)];intro hf;apply h
    cases i with
    |zero =>
     simp at hc;subst hc;exact hf
    |succ i =>
     rw[zLZ]at hc;have hcb:=zLR hc;have hl:=EC (hok c hcm).some_;exact XF.tZ (ho.2.2 _ (EC hb.some_) _ (List.mem_flatten.2 ⟨c,hcb,hl⟩)) hf
   .simp at hc;subst hc;exact⟨fun r hr=>by simp at hr,_,EC hb.some_,h⟩
end S
structure JK(bad:Prop)(bl:BA)(bs:List (List Rec)):Prop where
 size:bl.size=(S.Aw bs).length
 each:∀(i:Nat)(b:List Rec)(p:Nat),bs[i]?=some b->p=(S.Aw (bs.take i)).length->(bl.extract p (p+(S.Aj b).length)).data.toList=S.Aj b\/(bad/\∀rs T,rs≠[]->Ad rs=some T->Cc T≠bl.extract p (p+(S.Aj b).length))
theorem S.UW(bs:List (List Rec)){i:Nat}(h:bs[i]?=some b):(S.Aw (bs.take i)).length+(S.Aj b).length<=(S.Aw bs).length:=by
 have hi:i<bs.length:=(zLI.1 h).1;have hb:bs[i]=b:=(zLI.1 h).2;have e:bs=bs.take i++b::bs.drop (i+1):=by rw[<-hb,List.getElem_cons_drop,zLq]
 have e2:S.Aw bs=S.Aw (bs.take i)++(S.Aj b++S.Aw (bs.drop (i+1))):=by
  have:=congrArg S.Aw e;rw[S.G9]at this;rw[this];simp[S.Aw]
 rw[e2];simp
theorem JK.whole(bad:Prop)(bs:List (List Rec)):JK bad ⟨(S.Aw bs).toArray⟩ bs:=by
 refine⟨by simp[ByteArray.size],fun i b p hi hp=>Or.inl ?_⟩;have h:=S.mE hi;rw[ByteArray.data_extract];simp only[List.extract_toArray,List.extract_eq_take_drop,Nat.add_sub_cancel_left];rw[hp];exact h
def vK(bad:Prop)(b:List Rec)(w:World)(e:Ending)(w':World):Prop:=
 (∃ao cap base,e=.returned (.tuple #[.slice ao b.length cap,iT 0])/\w.heap.size<=base/\w'.ownsRow base 119 4 (.slice ao b.length cap) b.length (AY b))
 \/ (bad/\e=.returned (.tuple #[nS,iT 3]))
theorem Kq(hL:JK bad bl bs)(hb:bl.size<=1048576)(hok:∀b∈bs,S.OkB b)(wm:Int)(ao:Option Addr)(cap:Nat)(i:Nat)(b:List Rec)(hi:bs[i]?=some b)(hl:bs.length<=1048576)(w:World)(hE:Dz w ao (S.CR 0 bs))(hT:Tab w):
  Calls Tryz.prog 62 #[F3 wm bl ao bs.length cap,iT (i:Int)] w fun e w'=>vK bad b w e w'/\Q w w':=by
 obtain⟨p,hp,hpe⟩:=S.QU (at_:=0) hi;rw[zLk]at hpe;have hle:=S.UW bs hi;have h:=qC wm bl hb (S.CR 0 bs) ao cap i _ hp (Nat.le_add_right _ _) (by rw[hL.size,hpe];exact hle) (by rw[S.Cz];exact hl) w hE hT;rw[S.Cz]at h;refine h.mono ?_;rintro e w'⟨hB,q⟩;refine⟨?_,q⟩;rcases hL.each i b p hi hpe with h|⟨h1,h2⟩
 .exact Or.inl (fC (hok b (zLR hi)) h hB)
 .rcases hB with⟨rs,T,Dj,cap',base,hne,hp',hs,_⟩|⟨he,_⟩
  .exact absurd hs (h2 rs T hne hp')
  .exact Or.inr ⟨h1,he⟩
def Wv:Ending:=.returned (.tuple #[eS,.bool false,iT 3])
theorem cK{C:S.Con}(hL:JK bad bl bs)(hb:bl.size<=1048576)(hF:S.Fil CU bs C)(hl:bs.length<=1048576)(wm:Int)(ao:Option Addr)(cap:Nat)(key:BA)(t:Int)(w:World)(hE:Dz w ao (S.CR 0 bs))(hT:Tab w):
  Calls Tryz.prog 104 #[F3 wm bl ao bs.length cap,sT key,iT t] w fun e w'=>(e=Gb (S.Ak (C key) t)\/(bad/\e=Wv))/\Q w w':=by
 obtain⟨m,hm,h1,h2⟩:=S.place bs 0 key t hF.ok hF.ord;have hml:m<=bs.length:=by rw[<-S.Cz 0 bs];exact hm.le
 have SB:Hid _:=fun(W:World)(q:Q w W)=>zBu (S.CR 0 bs) (by rw[S.Cz];exact hl) key t m hm ao cap W (hE.kept q);rw[S.Cz]at SB;by_cases he:m=bs.length
 .have hnone:Gb (S.Ak (C key) t)=.returned (.tuple #[eS,.bool false,iT 0]):=by
   rw[S.dY (hF.holds key) (h1 he)];rfl
  rw[hnone];clear hnone h1 h2 hm hE hF hL hml;subst he;unfold F3;go_in;go_wp2_with fail;have RB:=AZ w [iT wm,sT bl,.slice ao bs.length cap] 112;apply(SB.out _ ((Q.refl w).alloc _ _)).mono;rintro e w1⟨⟨bb,rfl⟩,q1⟩;have q1':Q w w1:=((Q.refl w).alloc _ _).trans q1;have m2:=(RB.kept q1).cell 2 rfl;clear SB q1 RB;go_wp2_with fail
  go_ret3
  exact⟨Or.inl rfl,q1'⟩
 .obtain⟨b,M7⟩:∃b,bs[m]?=some b:=⟨_,zLH (by omega)⟩;obtain⟨g1,g2⟩:=h2 b M7;have dQ:=hF.ok b (zLR M7);have hsplit:bs=bs.take m++b::bs.drop (m+1):=by
   obtain⟨hi,hbe⟩:=zLI.1 M7;rw[<-hbe,List.getElem_cons_drop,zLq]
  have Q9:=hF.ord;have hH:=hF.holds key;rw[hsplit]at Q9 hH;obtain⟨U,hU,hUe⟩:=S.YV Q9 hH g1 g2;obtain⟨e0,hrun⟩:=hU ⟨#[]⟩;rw[hUe];have SL:Hid _:=fun(W:World)(q:Q w W)=>Kq hL hb hF.ok wm ao cap m b M7 hl W (hE.kept q) (CJ hT q);have SV:Hid _:=fun(Dj:Option Addr)(cap':Nat)(W:World)(h:Rcs W Dj b)=>XV b (zLV dQ.few (by omega)) dQ.fits key t U e0 hrun Dj cap' W h;have zEe:¬(m:Int)=(bs.length:Int):=by omega
  have zIv:((m:Int)==(bs.length:Int))=false:=by rw[zM9];exact zEe
  clear hUe hrun hU Q9 hH hsplit dQ g1 g2 M7 h1 h2 hm hE hF hL hml;unfold F3 at*;go_in;go_wp2_with fail;have RB:=AZ w [iT wm,sT bl,.slice ao bs.length cap] 112;apply(SB.out _ ((Q.refl w).alloc _ _)).mono;rintro e w1⟨⟨bb,rfl⟩,q1⟩;have q1':Q w w1:=((Q.refl w).alloc _ _).trans q1;have hV1:=RB.kept q1;have m0:=hV1.cell 0 rfl;have m1:=hV1.cell 1 rfl;have m2:=hV1.cell 2 rfl;clear SB q1 RB;go_wp2_with fail;apply(SL.out _ q1').mono;rintro e w2⟨hB,q2⟩;have q2':=q1'.trans q2;clear SL q2;rcases hB with⟨Dj,cap',base,rfl,hbase,hown⟩|⟨hbad,rfl⟩
  .have hR:Rcs w2 Dj b:=F8 hown;clear hown;have SV2:Hid _:=fun(W:World)(q:Q w2 W)=>SV.out Dj cap' W (hR.kept q);clear SV hR;go_wp2_with fail;apply(SV2.out _ (Q.refl w2)).mono;rintro e w3⟨rfl,q3⟩;unfold Gb;go_wp2_with fail
   go_ret3
   exact⟨Or.inl rfl,q2'.trans q3⟩
  .clear SV;go_wp2_with fail
   go_ret3
   exact⟨Or.inr ⟨hbad,rfl⟩,q2'⟩
end
end Go.Proofs.YtekdenkllipehaaGreatDoor
