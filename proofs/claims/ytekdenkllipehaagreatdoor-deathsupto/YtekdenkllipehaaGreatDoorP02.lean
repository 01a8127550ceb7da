import Derived.Test.YtekdenkllipehaaGreatDoorP01
import GoSem.Claim
set_option maxRecDepth 99999
set_option maxHeartbeats 0
namespace Go.Proofs.YtekdenkllipehaaGreatDoor
namespace M
variable{D l:List UInt8}{a a' c f k m:Nat}{acc':List Nat}{b:UInt8}{r:Option (List Nat)}
def enc:Nat->Nat->List UInt8
 |0,n=>[UInt8.ofNat n]
 |f+1,n=>if n<128 then[UInt8.ofNat n]else UInt8.ofNat (n%128+128)::enc f (n/128)
theorem Jp(f n:Nat)(h:n<128):enc f n=[UInt8.ofNat n]:=by
 cases f with
 |zero=>rfl
 |succ f=>simp[enc,h]
theorem Yh(f n:Nat)(h:¬n<128):enc (f+1) n=UInt8.ofNat (n%128+128)::enc f (n/128):=by
 simp[enc,h]
def Rest(l:List UInt8)(f m:Nat)(acc:List UInt8):Prop:=m<128^(f+1)/\acc.length+f=7/\acc++enc f m=l
theorem rest_start(n:Nat)(h:n<72057594037927936):Rest (enc 7 n) 7 n []:=⟨by simpa using h,rfl,rfl⟩
theorem oO{acc:List UInt8}(h:Rest l f m acc)(hm:¬m<128):∃g,f=g+1/\Rest l g (m/128) (acc++[UInt8.ofNat (m%128+128)]):=by
 obtain⟨h1,h2,h3⟩:=h
 cases f with
 |zero=>simp at h1;omega
 |succ g =>
  refine⟨g,rfl,?_,by simp;omega,?_⟩
  .rw[Nat.pow_succ]at h1;exact Nat.div_lt_of_lt_mul (by rw[Nat.mul_comm];exact h1)
  .rw[Yh g m hm]at h3;simpa using h3
theorem ay{acc:List UInt8}(h:Rest l f m acc)(hm:m<128):acc++[UInt8.ofNat m]=l:=by
 rw[<-Jp f m hm];exact h.2.2
theorem oN{acc:List UInt8}(h:Rest l f m acc):acc.length<=7:=by have:=h.2.1;omega
theorem vX{acc:List UInt8}(h:Rest l f m acc):m<72057594037927936:=by
 have h1:=h.1;have h2:=h.2.1;have:128^(f+1)<=128^8:=Nat.pow_le_pow_right (by omega) (by omega);have e:(128:Nat)^8=72057594037927936:=by decide
 omega
def val:List UInt8->Nat
 |[]=>0
 |b::l=>b.toNat%128+128*val l
theorem Sv(l:List UInt8)(b:UInt8):val (l++[b])=val l+b.toNat%128*128^l.length:=by
 induction l with
 |nil=>simp[val]
 |cons c l ih=>simp only[zLd,val,ih,zLQ,Nat.pow_succ];rw[Nat.mul_add];rw[show b.toNat%128*(128^l.length*128)=128*(b.toNat%128*128^l.length) by rw[Nat.mul_comm (128^l.length) 128,Nat.mul_left_comm]];omega
theorem tQ(l:List UInt8):val l<128^l.length:=by
 induction l with
 |nil=>simp[val]
 |cons c l ih=>simp only[val,zLQ,Nat.pow_succ];omega
def rd:Nat->List UInt8->List UInt8->Option (Nat×Nat)
 |0,_,_=>none
 |_+1,_,[]=>none
 |f+1,cs,b::l=>if b.toNat<128 then(if b=0/\cs≠[]then none else some (val (cs++[b]),cs.length+1))else rd f (cs++[b]) l
def Far(D:List UInt8)(k:Nat):Prop:=k<=8/\k<=D.length/\∀c∈D.take k,128<=c.toNat
theorem rW(D:List UInt8):Far D 0:=⟨by omega,by omega,by simp⟩
theorem Ct(hb:D[k]?=some b):D.take (k+1)=D.take k++[b]:=by
 rw[zLv,hb];rfl
theorem drop_cons(hb:D[k]?=some b):D.drop k=b::D.drop (k+1):=by
 obtain⟨h,e⟩:=zLI.1 hb;rw[List.drop_eq_getElem_cons h,e]
theorem rX(h:Far D k)(hk:k<8)(hb:D[k]?=some b)(h1:128<=b.toNat):Far D (k+1):=by
 obtain⟨hl,_⟩:=zLI.1 hb;refine⟨by omega,by omega,fun c hc=>?_⟩;rw[Ct hb,zMD]at hc;rcases hc with hc|hc
 .exact h.2.2 c hc
 .simp at hc;subst hc;exact h1
theorem ZE{D:List UInt8}:∀{k:Nat},Far D k->rd 8 [] D=rd (8-k) (D.take k) (D.drop k)
 |0,_=>by simp
 |k+1,h=>by
  have hl:k<D.length:=by have:=h.2.1;omega
  have hb:D[k]?=some D[k]:=zLH hl;have hk:k<8:=by have:=h.1;omega
  have hf:Far D k:=⟨by omega,by omega,fun c hc=>h.2.2 c (by rw[Ct hb];exact List.mem_append_left _ hc)⟩;have h1:128<=D[k].toNat:=h.2.2 _ (by rw[Ct hb];exact List.mem_append_right _ (List.mem_singleton.2 rfl));rw[ZE hf,drop_cons hb,Ct hb,show 8-k=(8-(k+1))+1 by omega];simp only[rd];rw[if_neg (by omega)]
theorem ve(h:Far D k)(hk:k=8\/k=D.length):rd 8 [] D=none:=by
 rw[ZE h];rcases hk with rfl|rfl
 .simp[rd]
 .rw[List.drop_length];cases 8-D.length<;>simp[rd]
theorem zAF(h:Far D k)(hk:k<8)(hb:D[k]?=some b)(h0:b=0)(hp:0<k):rd 8 [] D=none:=by
 subst h0;have hl:k<D.length:=(zLI.1 hb).1;rw[ZE h,drop_cons hb,show 8-k=(8-(k+1))+1 by omega];have hne:D.take k≠[]:=by intro e;have:=congrArg List.length e;rw[zM6,zLW]at this;omega
 simp[rd,hne]
theorem zAG(h:Far D k)(hk:k<8)(hb:D[k]?=some b)(h1:b.toNat<128)(h0:b≠0\/k=0):rd 8 [] D=some (val (D.take (k+1)),k+1):=by
 have hl:k<D.length:=(zLI.1 hb).1;rw[ZE h,drop_cons hb,Ct hb,show 8-k=(8-(k+1))+1 by omega];have hlen:(D.take k).length=k:=by simp;omega
 have hc:¬(b=0/\D.take k≠[]):=by
  rintro⟨e1,e2⟩;rcases h0 with h0|h0
  .exact h0 e1
  .subst h0;simp at e2
 simp only[rd];rw[if_pos h1,if_neg hc,hlen]
theorem nY(hb:D[k]?=some b):val (D.take (k+1))=val (D.take k)+b.toNat%128*2^(7*k):=by
 have hl:k<D.length:=(zLI.1 hb).1;rw[Ct hb,Sv,show(D.take k).length=k by simp;omega,Nat.pow_mul]
theorem Oj(hk:k<=D.length):val (D.take k)<2^(7*k):=by
 have:=tQ (D.take k);rw[show(D.take k).length=k by simp;omega]at this;rw[Nat.pow_mul];exact this
theorem KO(hk:k<=D.length)(h8:k<=8):val (D.take k)<72057594037927936:=by
 have h:=Oj hk;have:2^(7*k)<=2^56:=Nat.pow_le_pow_right (by omega) (by omega);have e:(2:Nat)^56=72057594037927936:=by decide
 omega
def bit(c:Nat):Nat:=if c%2=1 then c/2 ^^^ 2197175160 else c/2
theorem yO(a b:Nat):bit (a ^^^ b)=bit a ^^^ bit b:=by
 have h0:(a ^^^ b)%2=a%2 ^^^ b%2:=Nat.xor_mod_two_pow (n:=1);have h1:(a ^^^ b)%2=(a+b)%2:=by
  rw[h0];rcases Nat.mod_two_eq_zero_or_one a with ha|ha<;>rcases Nat.mod_two_eq_zero_or_one b with hb|hb<;>rw[ha,hb]
  .show 0=_;omega
  .show 1=_;omega
  .show 1=_;omega
  .show 0=_;omega
 have h2:(a ^^^ b)/2=a/2 ^^^ b/2:=Nat.xor_div_two;unfold bit;rw[h1,h2];rcases Nat.mod_two_eq_zero_or_one a with ha|ha<;>rcases Nat.mod_two_eq_zero_or_one b with hb|hb
 .rw[if_neg (by omega),if_neg (by omega),if_neg (by omega)]
 .rw[if_pos (by omega),if_neg (by omega),if_pos (by omega),Nat.xor_assoc]
 .rw[if_pos (by omega),if_pos (by omega),if_neg (by omega),Nat.xor_assoc,Nat.xor_comm (b/2),Nat.xor_assoc]
 .rw[if_neg (by omega),if_pos (by omega),if_pos (by omega),Nat.xor_assoc,Nat.xor_comm (b/2),<-Nat.xor_assoc 2197175160,Nat.xor_self,Nat.zero_xor]
theorem KI(q:Nat):bit (2*q)=q:=by
 unfold bit;rw[if_neg (by omega)];omega
theorem mH(h:c<4294967296):bit c<4294967296:=by
 unfold bit;split
 .exact Nat.xor_lt_two_pow (n:=32) (by omega) (by decide)
 .omega
def bits:Nat->Nat->Nat
 |0,c=>c
 |k+1,c=>bits k (bit c)
theorem UX(k m c:Nat):bits (k+m) c=bits m (bits k c):=by
 induction k generalizing c with
 |zero=>simp[bits]
 |succ k ih=>rw[Nat.succ_add];exact ih _
theorem Zu(k a b:Nat):bits k (a ^^^ b)=bits k a ^^^ bits k b:=by
 induction k generalizing a b with
 |zero=>rfl
 |succ k ih=>simp only[bits];rw[yO,ih]
theorem yN(h:c<4294967296):bits k c<4294967296:=by
 induction k generalizing c with
 |zero=>exact h
 |succ k ih=>exact ih (mH h)
def half:Nat->Nat
 |0=>0
 |1=>274646895
 |2=>549293790
 |3=>820201905
 |4=>1098587580
 |5=>1361435347
 |6=>1640403810
 |7=>1905808397
 |8=>2197175160
 |9=>2460548119
 |10=>2722870694
 |11=>2987750089
 |12=>3280807620
 |13=>3553878443
 |14=>3811616794
 |15=>4084100981
 |_=>0
theorem kU(i:Nat):half i<4294967296:=by
 unfold half;split<;>decide
theorem mG(r:Nat)(h:r<16):bits 4 r=half r:=by
 have hall:∀x:Fin 16,bits 4 x.val=half x.val:=by decide
 exact hall ⟨r,h⟩
theorem Jt(q:Nat):bits 4 (16*q)=q:=by
 simp only[bits];rw[show 16*q=2*(8*q) by omega,KI,show 8*q=2*(4*q) by omega,KI,show 4*q=2*(2*q) by omega,KI,KI]
theorem vT(c:Nat):c=(16*(c/16)) ^^^ (c%16):=by
 have h1:((16*(c/16)) ^^^ (c%16))/2^4=c/16:=by
  rw[Nat.xor_div_two_pow,show 16*(c/16)/2^4=c/16 by omega,show c%16/2^4=0 by omega,Nat.xor_zero]
 have h2:((16*(c/16)) ^^^ (c%16))%2^4=c%16:=by
  rw[Nat.xor_mod_two_pow,show 16*(c/16)%2^4=0 by omega,show c%16%2^4=c%16 by omega,Nat.zero_xor]
 have h3:=Nat.div_add_mod ((16*(c/16)) ^^^ (c%16)) (2^4);rw[h1,h2]at h3;omega
theorem Wu(c:Nat):bits 4 c=c/16 ^^^ half (c%16):=by
 conv=>lhs;rw[vT c]
 rw[Zu,Jt,mG _ (by omega)]
def step(c:Nat)(b:UInt8):Nat:=bits 8 (c ^^^ b.toNat)
theorem Ih(h:c<4294967296)(b:UInt8):c ^^^ b.toNat<4294967296:=
 Nat.xor_lt_two_pow (n:=32) (by omega) (by have:=b.toNat_lt;omega)
theorem Xa(h:c<4294967296)(b:UInt8):step c b<4294967296:=yN (Ih h b)
theorem Xb(c:Nat)(b:UInt8):
  step c b=((c ^^^ b.toNat)/16 ^^^ half ((c ^^^ b.toNat)%16))/16 ^^^ half (((c ^^^ b.toNat)/16 ^^^ half ((c ^^^ b.toNat)%16))%16):=by
 unfold step;rw[show(8:Nat)=4+4 from rfl,UX,Wu,Wu]
def run(l:List UInt8):Nat:=l.foldl step 4294967295
theorem TL(l:List UInt8)(b:UInt8):run (l++[b])=step (run l) b:=by simp[run]
theorem OX(l:List UInt8)(c:Nat)(h:c<4294967296):l.foldl step c<4294967296:=by
 induction l generalizing c with
 |nil=>exact h
 |cons b l ih=>exact ih _ (Xa h b)
theorem iM(l:List UInt8):run l<4294967296:=OX l _ (by omega)
def sum(l:List UInt8):Nat:=4294967295-run l
theorem sum_lt(l:List UInt8):sum l<4294967296:=by unfold sum;omega
def le4(n:Nat):List UInt8:=[UInt8.ofNat (n%256),UInt8.ofNat (n/256%256),UInt8.ofNat (n/65536%256),UInt8.ofNat (n/16777216%256)]
theorem pu(n:Nat)(h:n<4294967296):#[UInt8.ofNat (n%256),UInt8.ofNat (n/256%256),UInt8.ofNat (n/65536%256),UInt8.ofNat (n/16777216)]=(le4 n).toArray:=by
 unfold le4;rw[show n/16777216%256=n/16777216 by omega]
theorem bX(n:Nat):(le4 n).length=4:=rfl
def sealed(l:List UInt8):List UInt8:=l++le4 (sum l)
theorem Ar(l:List UInt8):(sealed l).length=l.length+4:=by simp[sealed,le4]
def Cb(l:List UInt8)(a:Nat):Option (Nat×Nat):=
 if a<l.length then
  match rd 8 [] (l.drop a)with
  |none=>none
  |some (v,k)=>some (v,a+k)
 else none
theorem ZF:∀(f:Nat)(cs l:List UInt8)(v k:Nat),cs.length+f=8->rd f cs l=some (v,k)->v<72057594037927936/\cs.length<k/\k<=cs.length+l.length/\k<=8
 |0,_,_,_,_,_,h=>by simp[rd]at h
 |f+1,cs,[],_,_,_,h=>by simp[rd]at h
 |f+1,cs,b::l,v,k,hf,h=>by
  simp only[rd]at h;by_cases hb:b.toNat<128
  .rw[if_pos hb]at h;by_cases hz:b=0/\cs≠[]
   .rw[if_pos hz]at h;simp at h
   ·(rw[if_neg hz]at h;simp only[zLO,Prod.mk.injEq]at h;obtain⟨rfl,rfl⟩:=h;refine⟨?_,by omega,by simp,by omega⟩;have h1:=tQ (cs++[b]);have h2:128^(cs++[b]).length<=128^8:=Nat.pow_le_pow_right (by omega) (by simp;omega);have e:(128:Nat)^8=72057594037927936:=by decide);omega
  .rw[if_neg hb]at h;have:=ZF f (cs++[b]) l v k (by simp;omega) h;simp at this;refine⟨this.1,by omega,by simp;omega,this.2.2.2⟩
theorem Bu{v nx:Nat}(h:Cb l a=some (v,nx)):v<72057594037927936/\a<nx/\nx<=l.length/\a<l.length:=by
 unfold Cb at h;by_cases ha:a<l.length
 .rw[if_pos ha]at h
  cases hr:rd 8 [] (l.drop a)with
  |none=>rw[hr]at h;simp at h
  |some p =>
   obtain⟨v',k⟩:=p;rw[hr]at h;simp only[zLO,Prod.mk.injEq]at h;obtain⟨rfl,rfl⟩:=h;have:=ZF 8 [] (l.drop a) v' k (by simp) hr;simp at this;omega
 .rw[if_neg ha]at h;simp at h
def taken(p n:Nat):List Nat:=(List.range n).map fun i=>256+p+i
def zAL(l:List UInt8)(a n:Nat):List Nat:=((l.drop a).take n).map UInt8.toNat
theorem J5(p n:Nat):taken p (n+1)=taken p n++[256+p+n]:=by simp[taken,List.range_succ]
theorem NW(p n:Nat):(taken p n).length=n:=by simp[taken]
def GH(l:List UInt8)(size a:Nat)(acc:List Nat):Option (List Nat×Nat):=
 match Cb l a with
 |none=>none
 |some (u,nx) =>
  if u/2<1\/size-acc.length<u/2 then none
  else if u%2=1 then
   match Cb l nx with
   |none=>none
   |some (p,n2)=>if 72057594037927935-u/2<p then none else some (acc++taken p (u/2),n2)
  else if nx+u/2<=l.length then some (acc++zAL l nx (u/2),nx+u/2)else none
def Ec(l:List UInt8)(size:Nat):Nat->Nat->List Nat->Option (List Nat)
 |0,_,_=>none
 |f+1,a,acc =>
  if a<l.length then
   match GH l size a acc with
   |none=>none
   |some (acc',a')=>Ec l size f a' acc'
  else some acc
def parse(l:List UInt8):Option (Nat×List Nat):=
 match Cb l 0 with
 |none=>none
 |some (size,a) =>
  if 4096<size then none
  else
   match Ec l size (l.length+1) a []with
   |none=>none
   |some acc=>if acc.length=size then some (size,acc)else none
theorem Xc{size:Nat}{acc:List Nat}(h:GH l size a acc=some (acc',a')):a<a'/\a'<=l.length:=by
 unfold GH at h
 cases hg:Cb l a with
 |none=>rw[hg]at h;simp at h
 |some p =>
  obtain⟨u,nx⟩:=p;have hb:=Bu hg;rw[hg]at h;simp only at h;split at h
  .simp at h
  .split at h
   .cases hg2:Cb l nx with
    |none=>rw[hg2]at h;simp at h
    |some q =>
     obtain⟨p,n2⟩:=q;have hb2:=Bu hg2;rw[hg2]at h;simp only at h;split at h
     .simp at h
     .simp only[zLO,Prod.mk.injEq]at h;omega
   .split at h
    .simp only[zLO,Prod.mk.injEq]at h;omega
    .simp at h
def At(l:List UInt8)(size:Nat)(r:Option (List Nat))(a:Nat)(acc:List Nat):Prop:=
 ∃f,(a<=l.length/\l.length<a+f)/\Ec l size f a acc=r
theorem Zw(l:List UInt8)(size a:Nat)(ha:a<=l.length):At l size (Ec l size (l.length+1) a []) a []:=⟨l.length+1,by omega,rfl⟩
theorem zFa{size:Nat}{acc:List Nat}(h:At l size r a acc):a<=l.length:=by
 obtain⟨f,hf,_⟩:=h;exact hf.1
theorem at_end{size:Nat}{acc:List Nat}(h:At l size r a acc)(ha:¬a<l.length):r=some acc:=by
 obtain⟨f,hf,rfl⟩:=h
 cases f with
 |zero=>omega
 |succ f=>simp[Ec,ha]
theorem mM{size:Nat}{acc:List Nat}(h:At l size r a acc)(ha:a<l.length)(hs:GH l size a acc=none):r=none:=by
 obtain⟨f,hf,rfl⟩:=h
 cases f with
 |zero=>omega
 |succ f=>simp[Ec,ha,hs]
theorem Qj{size:Nat}{acc:List Nat}(h:At l size r a acc)(ha:a<l.length)(hs:GH l size a acc=some (acc',a')):At l size r a' acc':=by
 obtain⟨f,hf,rfl⟩:=h;have:=Xc hs
 cases f with
 |zero=>omega
 |succ f=>exact⟨f,by omega,by simp[Ec,ha,hs]⟩
def Fit(acc:List Nat):Prop:=∀x∈acc,x<72057594037928192
theorem yF:Fit []:=fun x hx=>by simp at hx
theorem SA{a b:List Nat}(ha:Fit a)(hb:Fit b):Fit (a++b):=fun x hx=>by
 rcases zMD.1 hx with h|h
 .exact ha x h
 .exact hb x h
theorem lH(p n:Nat)(h:p+n<=72057594037927935):Fit (taken p n):=fun x hx=>by
 simp only[taken,List.mem_map,List.mem_range]at hx;obtain⟨i,hi,rfl⟩:=hx;omega
theorem yE(l:List UInt8)(a n:Nat):Fit (zAL l a n):=fun x hx=>by
 simp only[zAL,List.mem_map]at hx;obtain⟨b,_,rfl⟩:=hx;have:=b.toNat_lt;omega
theorem aV{size:Nat}{acc:List Nat}(h:GH l size a acc=some (acc',a'))(hf:Fit acc):Fit acc':=by
 unfold GH at h
 cases hg:Cb l a with
 |none=>rw[hg]at h;simp at h
 |some p =>
  obtain⟨u,nx⟩:=p;have hb:=Bu hg;rw[hg]at h;simp only at h;split at h
  .simp at h
  .split at h
   .cases hg2:Cb l nx with
    |none=>rw[hg2]at h;simp at h
    |some q =>
     obtain⟨p,n2⟩:=q;rw[hg2]at h;simp only at h;split at h
     .simp at h
     .simp only[zLO,Prod.mk.injEq]at h;obtain⟨rfl,_⟩:=h;exact SA hf (lH p _ (by omega))
   .split at h
    .simp only[zLO,Prod.mk.injEq]at h;obtain⟨rfl,_⟩:=h;exact SA hf (yE l _ _)
    .simp at h
theorem Ox{l:List UInt8}{size:Nat}:∀{f a:Nat}{acc acc':List Nat},Ec l size f a acc=some acc'->Fit acc->Fit acc'
 |0,_,_,_,h,_=>by simp[Ec]at h
 |f+1,a,acc,acc',h,hf=>by
  simp only[Ec]at h;split at h
  .cases hs:GH l size a acc with
   |none=>rw[hs]at h;simp at h
   |some q =>
    obtain⟨b,a'⟩:=q;rw[hs]at h;exact Ox h (aV hs hf)
  .simp only[zLO]at h;subst h;exact hf
theorem Xu{size:Nat}{acc:List Nat}(h:parse l=some (size,acc)):acc.length=size/\size<=4096/\Fit acc:=by
 unfold parse at h
 cases hg:Cb l 0 with
 |none=>rw[hg]at h;simp at h
 |some p =>
  obtain⟨sz,a⟩:=p;rw[hg]at h;simp only at h;split at h
  .simp at h
  .cases hs:Ec l sz (l.length+1) a []with
   |none=>rw[hs]at h;simp at h
   |some b =>
    rw[hs]at h;simp only at h;split at h
    .simp only[zLO,Prod.mk.injEq]at h;obtain⟨rfl,rfl⟩:=h;exact⟨by assumption,by omega,Ox hs yF⟩
    .simp at h
def reach(acc:List Nat):Nat:=acc.foldl (fun m x=>max m (x-255)) 0
theorem bE(acc:List Nat)(x:Nat):reach (acc++[x])=max (reach acc) (x-255):=by simp[reach]
theorem QM(acc:List Nat)(m:Nat):acc.foldl (fun m x=>max m (x-255)) m=max m (reach acc):=by
 induction acc generalizing m with
 |nil=>simp[reach]
 |cons x acc ih=>simp only[reach,List.foldl_cons];rw[ih,ih];omega
theorem Ri(x:Nat)(acc:List Nat):reach (x::acc)=max (x-255) (reach acc):=by
 unfold reach;rw[List.foldl_cons,QM];unfold reach;omega
theorem VT{acc:List Nat}{x:Nat}(h:x∈acc):x-255<=reach acc:=by
 induction acc with
 |nil=>simp at h
 |cons y acc ih =>
  rw[Ri];rcases zME.1 h with rfl|h
  .omega
  .have:=ih h;omega
theorem OE{acc:List Nat}{n:Nat}(h:∀x∈acc,x-255<=n):reach acc<=n:=by
 induction acc with
 |nil=>simp[reach]
 |cons y acc ih =>
  rw[Ri];have h1:=h y (by simp);have h2:=ih fun x hx=>h x (by simp[hx]);omega
theorem iV{acc:List Nat}(h:Fit acc):reach acc<72057594037928192:=by
 have:=OE (n:=72057594037928191) fun x hx=>by have:=h x hx;omega
 omega
def made(acc:List Nat)(base:List UInt8):List UInt8:=acc.map fun x=>if 255<x then base.getD (x-256) 0 else UInt8.ofNat x
theorem tX:∀(f n:Nat)(cs q:List UInt8),n<128^(f+1)->(cs=[]\/0<n)->rd (f+1) cs (enc f n++q)=some (val cs+n*128^cs.length,cs.length+(enc f n).length)
 |f,n,cs,q,hn,h0=>by
  by_cases h:n<128
  .rw[Jp f n h];have hb:(UInt8.ofNat n).toNat=n:=by rw[UInt8.toNat_ofNat'];omega
   have hz:¬(UInt8.ofNat n=0/\cs≠[]):=by
    (rintro⟨e,hc⟩;have:n=0:=by rw[<-hb,e];rfl);rcases h0 with h0|h0
    .exact hc h0
    .omega
   simp only[zLd,zLb,rd];rw[if_pos (by omega),if_neg hz,Sv,hb,show n%128=n by omega];simp
  .match f,hn with
   |0,hn=>simp at hn;omega
   |f+1,hn =>
    rw[Yh f n h];have hb:(UInt8.ofNat (n%128+128)).toNat=n%128+128:=by rw[UInt8.toNat_ofNat'];omega
    have hp:n/128<128^(f+1):=by
     rw[Nat.pow_succ]at hn;exact Nat.div_lt_of_lt_mul (by rw[Nat.mul_comm];exact hn)
    (show rd (f+2) cs (UInt8.ofNat (n%128+128)::(enc f (n/128)++q))=_);rw[rd,if_neg (by omega),tX f (n/128) _ q hp (Or.inr (by omega)),Sv,hb];simp only[zLL,zLQ,zLW,zLk,zLO,Prod.mk.injEq];refine⟨?_,by omega⟩;rw[show(n%128+128)%128=n%128 by omega,Nat.pow_succ,Nat.add_assoc,Nat.mul_comm (128^cs.length) 128,<-Nat.mul_assoc,<-Nat.add_mul];congr 2;omega
theorem ER(f n:Nat):0<(enc f n).length:=by
 cases f with
 |zero=>simp[enc]
 |succ f=>simp only[enc];split<;>simp
theorem Gm(p q:List UInt8)(n:Nat)(hn:n<72057594037927936):Cb (p++(enc 7 n++q)) p.length=some (n,p.length+(enc 7 n).length):=by
 have hl:=ER 7 n;unfold Cb;rw[if_pos (by simp;omega),List.drop_left,tX 7 n [] q (by simpa using hn) (Or.inl rfl)];simp[val]
end M
section
theorem Ct(s:ByteArray)(k:Nat)(h:k<s.size):s.data.toList.take (k+1)=s.data.toList.take k++[s[k]]:=by
 rw[List.take_succ_eq_append_getElem (by simpa using h)];rfl
end
namespace M
variable{a b c:Nat}{p v w:List UInt8}
def subst(a b:List Nat):List Nat:=b.map fun x=>if 255<x then a.getD (x-256) 0 else x
theorem yP(ha:a<4294967296)(hb:b<4294967296)(h:bit a=bit b):a=b:=by
 have top:∀x:Nat,x<2147483648->2147483648<=x ^^^ 2197175160:=by
  intro x hx;have h1:(x ^^^ 2197175160)/2^31=x/2^31 ^^^ 2197175160/2^31:=Nat.xor_div_two_pow;rw[show x/2^31=0 by omega,Nat.zero_xor,show 2197175160/2^31=1 by decide]at h1;omega
 unfold bit at h;split at h<;>split at h
 .have h2:a/2=b/2:=by
   have:=congrArg (· ^^^ 2197175160) h;simpa[Nat.xor_assoc]using this
  omega
 .have:=top (a/2) (by omega);omega
 .have:=top (b/2) (by omega);omega
 .omega
theorem Zv{k:Nat}(ha:a<4294967296)(hb:b<4294967296)(h:bits k a=bits k b):a=b:=by
 induction k generalizing a b with
 |zero=>exact h
 |succ k ih=>exact yP ha hb (ih (mH ha) (mH hb) h)
theorem RV(h:a ^^^ c=b ^^^ c):a=b:=by
 have:=congrArg (· ^^^ c) h;simpa[Nat.xor_assoc]using this
theorem oI{x:UInt8}(ha:a<4294967296)(hb:b<4294967296)(h:step a x=step b x):a=b:=
 RV (Zv (Ih ha x) (Ih hb x) h)
theorem lF(l:List UInt8)(ha:a<4294967296)(hb:b<4294967296)(h:l.foldl step a=l.foldl step b):a=b:=by
 induction l generalizing a b with
 |nil=>exact h
 |cons x l ih=>exact oI ha hb (ih (Xa ha x) (Xa hb x) h)
def num:List UInt8->Nat
 |[]=>0
 |b::w=>b.toNat ^^^ 256*num w
theorem Xw(b:UInt8)(w:List UInt8):num (b::w)%2^8=b.toNat:=by
 have hb:=b.toNat_lt;rw[num,Nat.xor_mod_two_pow,show 256*num w%2^8=0 by omega,Nat.xor_zero];omega
theorem Xx(b:UInt8)(w:List UInt8):num (b::w)/2^8=num w:=by
 have hb:=b.toNat_lt;rw[num,Nat.xor_div_two_pow,show 256*num w/2^8=num w by omega,show b.toNat/2^8=0 by omega,Nat.zero_xor]
theorem Lm(b:UInt8)(w:List UInt8):num (b::w)=b.toNat+256*num w:=by
 have h1:=Xw b w;have h2:=Xx b w;have:=Nat.div_add_mod (num (b::w)) (2^8);omega
theorem jH:∀{v w:List UInt8},v.length=w.length->num v=num w->v=w
 |[],[],_,_=>rfl
 |b::v,c::w,hl,h=>by
  have h1:=Xw b v;rw[h,Xw c w]at h1;have h2:=Xx b v;rw[h,Xx c w]at h2;rw[UInt8.toNat_inj.1 h1,jH (by simpa using hl) h2.symm]
theorem tu:∀(w:List UInt8),num w<256^w.length
 |[]=>by simp[num]
 |b::w=>by
  have h1:=tu w;have h2:=b.toNat_lt;rw[Lm,zLQ,Nat.pow_succ];omega
theorem jG(h:w.length<=4):num w<4294967296:=
 zLJ (tu w) (Nat.pow_le_pow_right (n:=256) (by omega) h)
theorem sS(q:Nat):bits 8 (256*q)=q:=by
 rw[show(8:Nat)=4+4 from rfl,UX,show 256*q=16*(16*q) by omega,Jt,Jt]
theorem QN(w:List UInt8)(c:Nat):w.foldl step c=bits (8*w.length) (c ^^^ num w):=by
 induction w generalizing c with
 |nil=>simp[num,bits]
 |cons b w ih =>
  rw[List.foldl_cons,ih,zLQ,show 8*(w.length+1)=8+8*w.length by omega,UX];congr 1;rw[num,<-Nat.xor_assoc,Zu,sS];rfl
theorem aG(hc:c<4294967296)(hl:v.length=w.length)(h4:v.length<=4)(h:v.foldl step c=w.foldl step c):v=w:=by
 rw[QN,QN,hl]at h;have hv:=jG h4;have hw:=jG (hl▸h4);have:=Zv (Nat.xor_lt_two_pow (n:=32) (by omega) (by omega)) (Nat.xor_lt_two_pow (n:=32) (by omega) (by omega)) h;rw[Nat.xor_comm c,Nat.xor_comm c]at this;exact jH hl (RV this)
theorem zFY{q:List UInt8}(hl:v.length=w.length)(h4:v.length<=4)(h:run (p++v++q)=run (p++w++q)):v=w:=by
 unfold run at h;rw[zMG,zMG,zMG,zMG]at h;have hp:=OX p 4294967295 (by omega);exact aG hp hl h4 (lF q (OX v _ hp) (OX w _ hp) h)
theorem wI(n:Nat)(h:n<4294967296):num (le4 n)=n:=by
 unfold le4;rw[Lm,Lm,Lm,Lm,num];simp only[UInt8.toNat_ofNat'];omega
theorem pG(c:Nat)(h:c<4294967296):4294967295-c=c ^^^ 4294967295:=by
 apply Nat.eq_of_testBit_eq;intro i;have:=Nat.testBit_two_pow_sub_succ (n:=32) (x:=c) (by omega) i;rw[show 2^32-(c+1)=4294967295-c by omega]at this;rw[this,Nat.testBit_xor,show(4294967295:Nat)=2^32-1 by decide,Nat.testBit_two_pow_sub_one];by_cases hi:i<32
 .simp[hi]
 .have:c.testBit i=false:=Nat.testBit_lt_two_pow (zLJ h (Nat.pow_le_pow_right (n:=2) (by omega) (show 32<=i by omega)));simp[hi,this]
theorem Rf(l:List UInt8):run (sealed l)=bits 32 4294967295:=by
 have h:=iM l;unfold sealed;unfold run;rw[zMG,QN,bX,wI _ (sum_lt l)];show bits 32 (run l ^^^ sum l)=_
 unfold sum;rw[pG _ h,<-Nat.xor_assoc,Nat.xor_self,Nat.zero_xor]
theorem VK{s t q:List UInt8}(hl:v.length=w.length)(h4:v.length<=4)(hs:sealed s=p++v++q)(ht:sealed t=p++w++q):v=w:=
 zFY (p:=p) (q:=q) hl h4 (by rw[<-hs,<-ht,Rf,Rf])
end M
end Go.Proofs.YtekdenkllipehaaGreatDoor
