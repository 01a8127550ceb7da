import Derived.Test.YtekdenkllipehabGreatDoorP01
import GoSem.Claim
set_option maxRecDepth 100000
set_option maxHeartbeats 8000000
namespace Go.Proofs.YtekdenkllipehabGreatDoor.M
variable {D l:List UInt8} {a a' c f k m:Nat} {acc':List Nat} {b:UInt8} {r:Option (List Nat)}
def enc:Nat→Nat→List UInt8
 | 0,n=>[UInt8.ofNat n]
 | f+1,n=>if n<128 then [UInt8.ofNat n] else UInt8.ofNat (n % 128+128)::enc f (n / 128)
theorem zBB (f n:Nat) (h:n<128):enc f n=[UInt8.ofNat n]:=by
 cases f with
 | zero=>rfl
 | succ f=>simp [enc,h]
theorem zIh (f n:Nat) (h:¬n<128):enc (f+1) n=UInt8.ofNat (n % 128+128)::enc f (n / 128):=by
 simp [enc,h]
def Rest (l:List UInt8) (f m:Nat) (acc:List UInt8):Prop:=m<128 ^ (f+1)∧acc.length+f=7∧acc++enc f m=l
theorem rest_start (n:Nat) (h:n<72057594037927936):Rest (enc 7 n) 7 n []:=⟨by simpa using h,rfl,rfl⟩
theorem zND {acc:List UInt8} (h:Rest l f m acc) (hm:¬m<128):∃ g,f=g+1∧Rest l g (m / 128) (acc++[UInt8.ofNat (m % 128+128)]):=by
 obtain ⟨h1,h2,h3⟩:=h
 cases f with
 | zero=>simp at h1;omega
 | succ g =>
  refine ⟨g,rfl,?_,by simp;omega,?_⟩
  ·rw [Nat.pow_succ] at h1;exact Nat.div_lt_of_lt_mul (by rw [Nat.mul_comm];exact h1)
  ·rw [zIh g m hm] at h3;simpa using h3
theorem zKA {acc:List UInt8} (h:Rest l f m acc) (hm:m<128):acc++[UInt8.ofNat m]=l:=by
 rw [←zBB f m hm];exact h.2.2
theorem zNC {acc:List UInt8} (h:Rest l f m acc):acc.length≤7:=by have:=h.2.1;omega
theorem zOo {acc:List UInt8} (h:Rest l f m acc):m<72057594037927936:=by
 have h1:=h.1;have h2:=h.2.1;have:128 ^ (f+1)≤128 ^ 8:=Nat.pow_le_pow_right (by omega) (by omega);have e:(128:Nat) ^ 8=72057594037927936:=by decide
 omega
def val:List UInt8→Nat
 | []=>0
 | b::l=>b.toNat % 128+128*val l
theorem zFW (l:List UInt8) (b:UInt8):val (l++[b])=val l+b.toNat % 128*128 ^ l.length:=by
 induction l with
 | nil=>simp [val]
 | cons c l ih=>simp only [zQy,val,ih,zQl,Nat.pow_succ];rw [Nat.mul_add];rw [show b.toNat % 128*(128 ^ l.length*128)=128*(b.toNat % 128*128 ^ l.length) by rw [Nat.mul_comm (128 ^ l.length) 128,Nat.mul_left_comm]];omega
theorem zOL (l:List UInt8):val l<128 ^ l.length:=by
 induction l with
 | nil=>simp [val]
 | cons c l ih=>simp only [val,zQl,Nat.pow_succ];omega
def rd:Nat→List UInt8→List UInt8→Option (Nat × Nat)
 | 0,_,_=>none
 | _+1,_,[]=>none
 | f+1,cs,b::l=>if b.toNat<128 then (if b=0∧cs≠[] then none else some (val (cs++[b]),cs.length+1)) else rd f (cs++[b]) l
def Far (D:List UInt8) (k:Nat):Prop:=k≤8∧k≤D.length∧∀ c∈D.take k,128≤c.toNat
theorem zNu (D:List UInt8):Far D 0:=⟨by omega,by omega,by simp⟩
theorem yt (hb:D[k]?=some b):D.take (k+1)=D.take k++[b]:=by
 rw [zRG,hb];rfl
theorem drop_cons (hb:D[k]?=some b):D.drop k=b::D.drop (k+1):=by
 obtain ⟨h,e⟩:=zQd.1 hb;rw [List.drop_eq_getElem_cons h,e]
theorem zNv (h:Far D k) (hk:k<8) (hb:D[k]?=some b) (h1:128≤b.toNat):Far D (k+1):=by
 obtain ⟨hl,_⟩:=zQd.1 hb;refine ⟨by omega,by omega,fun c hc=>?_⟩;rw [yt hb,zRY] at hc;rcases hc with hc|hc
 ·exact h.2.2 c hc
 ·simp at hc;subst hc;exact h1
theorem zJB {D:List UInt8}:∀ {k:Nat},Far D k→rd 8 [] D=rd (8-k) (D.take k) (D.drop k)
 | 0,_=>by simp
 | k+1,h=>by
  have hl:k<D.length:=by have:=h.2.1;omega
  have hb:D[k]?=some D[k]:=zQc hl;have hk:k<8:=by have:=h.1;omega
  have hf:Far D k:=⟨by omega,by omega,fun c hc=>h.2.2 c (by rw [yt hb];exact List.mem_append_left _ hc)⟩;have h1:128≤D[k].toNat:=h.2.2 _ (by rw [yt hb];exact List.mem_append_right _ (List.mem_singleton.2 rfl));rw [zJB hf,drop_cons hb,yt hb,show 8-k=(8-(k+1))+1 by omega];simp only [rd];rw [if_neg (by omega)]
theorem zOr (h:Far D k) (hk:k=8∨k=D.length):rd 8 [] D=none:=by
 rw [zJB h];rcases hk with rfl|rfl
 ·simp [rd]
 ·rw [List.drop_length];cases 8-D.length<;>simp [rd]
theorem zPj (h:Far D k) (hk:k<8) (hb:D[k]?=some b) (h0:b=0) (hp:0<k):rd 8 [] D=none:=by
 subst h0;have hl:k<D.length:=(zQd.1 hb).1;rw [zJB h,drop_cons hb,show 8-k=(8-(k+1))+1 by omega];have hne:D.take k≠[]:=by intro e;have:=congrArg List.length e;rw [zRR,zQr] at this;omega
 simp [rd,hne]
theorem zPk (h:Far D k) (hk:k<8) (hb:D[k]?=some b) (h1:b.toNat<128) (h0:b≠0∨k=0):rd 8 [] D=some (val (D.take (k+1)),k+1):=by
 have hl:k<D.length:=(zQd.1 hb).1;rw [zJB h,drop_cons hb,yt hb,show 8-k=(8-(k+1))+1 by omega];have hlen:(D.take k).length=k:=by simp;omega
 have hc:¬(b=0∧D.take k≠[]):=by
  rintro ⟨e1,e2⟩;rcases h0 with h0|h0
  ·exact h0 e1
  ·subst h0;simp at e2
 simp only [rd];rw [if_pos h1,if_neg hc,hlen]
theorem zMy (hb:D[k]?=some b):val (D.take (k+1))=val (D.take k)+b.toNat % 128*2 ^ (7*k):=by
 have hl:k<D.length:=(zQd.1 hb).1;rw [yt hb,zFW,show (D.take k).length=k by simp;omega,Nat.pow_mul]
theorem zDa (hk:k≤D.length):val (D.take k)<2 ^ (7*k):=by
 have:=zOL (D.take k);rw [show (D.take k).length=k by simp;omega] at this;rw [Nat.pow_mul];exact this
theorem zBe (hk:k≤D.length) (h8:k≤8):val (D.take k)<72057594037927936:=by
 have h:=zDa hk;have:2 ^ (7*k)≤2 ^ 56:=Nat.pow_le_pow_right (by omega) (by omega);have e:(2:Nat) ^ 56=72057594037927936:=by decide
 omega
def bit (c:Nat):Nat:=if c % 2=1 then c / 2 ^^^ 2197175160 else c / 2
theorem zPQ (a b:Nat):bit (a ^^^ b)=bit a ^^^ bit b:=by
 have h0:(a ^^^ b) % 2=a % 2 ^^^ b % 2:=Nat.xor_mod_two_pow (n:=1);have h1:(a ^^^ b) % 2=(a+b) % 2:=by
  rw [h0];rcases Nat.mod_two_eq_zero_or_one a with ha | ha<;>rcases Nat.mod_two_eq_zero_or_one b with hb | hb<;>rw [ha,hb]
  ·show 0=_;omega
  ·show 1=_;omega
  ·show 1=_;omega
  ·show 0=_;omega
 have h2:(a ^^^ b) / 2=a / 2 ^^^ b / 2:=Nat.xor_div_two;unfold bit;rw [h1,h2];rcases Nat.mod_two_eq_zero_or_one a with ha | ha<;>rcases Nat.mod_two_eq_zero_or_one b with hb | hb
 ·rw [if_neg (by omega),if_neg (by omega),if_neg (by omega)]
 ·rw [if_pos (by omega),if_neg (by omega),if_pos (by omega),Nat.xor_assoc]
 ·rw [if_pos (by omega),if_pos (by omega),if_neg (by omega),Nat.xor_assoc,Nat.xor_comm (b / 2),Nat.xor_assoc]
 ·rw [if_neg (by omega),if_pos (by omega),if_pos (by omega),Nat.xor_assoc,Nat.xor_comm (b / 2),←Nat.xor_assoc 2197175160,Nat.xor_self,Nat.zero_xor]
theorem zBY (q:Nat):bit (2*q)=q:=by
 unfold bit;rw [if_neg (by omega)];omega
theorem zQ6 (h:c<4294967296):bit c<4294967296:=by
 unfold bit;split
 ·exact Nat.xor_lt_two_pow (n:=32) (by omega) (by decide)
 ·omega
def bits:Nat→Nat→Nat
 | 0,c=>c
 | k+1,c=>bits k (bit c)
theorem zOC (k m c:Nat):bits (k+m) c=bits m (bits k c):=by
 induction k generalizing c with
 | zero=>simp [bits]
 | succ k ih=>rw [Nat.succ_add];exact ih _
theorem zOB (k a b:Nat):bits k (a ^^^ b)=bits k a ^^^ bits k b:=by
 induction k generalizing a b with
 | zero=>rfl
 | succ k ih=>simp only [bits];rw [zPQ,ih]
theorem zPP (h:c<4294967296):bits k c<4294967296:=by
 induction k generalizing c with
 | zero=>exact h
 | succ k ih=>exact ih (zQ6 h)
def half:Nat→Nat
 | 0=>0
 | 1=>274646895
 | 2=>549293790
 | 3=>820201905
 | 4=>1098587580
 | 5=>1361435347
 | 6=>1640403810
 | 7=>1905808397
 | 8=>2197175160
 | 9=>2460548119
 | 10=>2722870694
 | 11=>2987750089
 | 12=>3280807620
 | 13=>3553878443
 | 14=>3811616794
 | 15=>4084100981
 | _=>0
theorem zMG (i:Nat):half i<4294967296:=by
 unfold half;split<;>decide
theorem zMd (r:Nat) (h:r<16):bits 4 r=half r:=by
 have hall:∀ x:Fin 16,bits 4 x.val=half x.val:=by decide
 exact hall ⟨r,h⟩
theorem zHk (q:Nat):bits 4 (16*q)=q:=by
 simp only [bits];rw [show 16*q=2*(8*q) by omega,zBY,show 8*q=2*(4*q) by omega,zBY,show 4*q=2*(2*q) by omega,zBY,zBY]
theorem zOk (c:Nat):c=(16*(c / 16)) ^^^ (c % 16):=by
 have h1:((16*(c / 16)) ^^^ (c % 16)) / 2 ^ 4=c / 16:=by
  rw [Nat.xor_div_two_pow,show 16*(c / 16) / 2 ^ 4=c / 16 by omega,show c % 16 / 2 ^ 4=0 by omega,Nat.xor_zero]
 have h2:((16*(c / 16)) ^^^ (c % 16)) % 2 ^ 4=c % 16:=by
  rw [Nat.xor_mod_two_pow,show 16*(c / 16) % 2 ^ 4=0 by omega,show c % 16 % 2 ^ 4=c % 16 by omega,Nat.zero_xor]
 have h3:=Nat.div_add_mod ((16*(c / 16)) ^^^ (c % 16)) (2 ^ 4);rw [h1,h2] at h3;omega
theorem zHl (c:Nat):bits 4 c=c / 16 ^^^ half (c % 16):=by
 conv=>lhs;rw [zOk c]
 rw [zOB,zHk,zMd _ (by omega)]
def step (c:Nat) (b:UInt8):Nat:=bits 8 (c ^^^ b.toNat)
theorem zDZ (h:c<4294967296) (b:UInt8):c ^^^ b.toNat<4294967296:=
 Nat.xor_lt_two_pow (n:=32) (by omega) (by have:=b.toNat_lt;omega)
theorem zOj (h:c<4294967296) (b:UInt8):step c b<4294967296:=zPP (zDZ h b)
theorem zI0 (c:Nat) (b:UInt8) :
  step c b=((c ^^^ b.toNat) / 16 ^^^ half ((c ^^^ b.toNat) % 16)) / 16 ^^^ half (((c ^^^ b.toNat) / 16 ^^^ half ((c ^^^ b.toNat) % 16)) % 16):=by
 unfold step;rw [show (8:Nat)=4+4 from rfl,zOC,zHl,zHl]
def run (l:List UInt8):Nat:=l.foldl step 4294967295
theorem zFf (l:List UInt8) (b:UInt8):run (l++[b])=step (run l) b:=by simp [run]
theorem zNl (l:List UInt8) (c:Nat) (h:c<4294967296):l.foldl step c<4294967296:=by
 induction l generalizing c with
 | nil=>exact h
 | cons b l ih=>exact ih _ (zOj h b)
theorem zON (l:List UInt8):run l<4294967296:=zNl l _ (by omega)
def sum (l:List UInt8):Nat:=4294967295-run l
theorem sum_lt (l:List UInt8):sum l<4294967296:=by unfold sum;omega
def le4 (n:Nat):List UInt8:=[UInt8.ofNat (n % 256),UInt8.ofNat (n / 256 % 256),UInt8.ofNat (n / 65536 % 256),UInt8.ofNat (n / 16777216 % 256)]
theorem zNY (n:Nat) (h:n<4294967296):#[UInt8.ofNat (n % 256),UInt8.ofNat (n / 256 % 256),UInt8.ofNat (n / 65536 % 256),UInt8.ofNat (n / 16777216)]=(le4 n).toArray:=by
 unfold le4;rw [show n / 16777216 % 256=n / 16777216 by omega]
def sealed (l:List UInt8):List UInt8:=l++le4 (sum l)
theorem ze (l:List UInt8):(sealed l).length=l.length+4:=by simp [sealed,le4]
def ZX (l:List UInt8) (a:Nat):Option (Nat × Nat):=
 if a<l.length then
  match rd 8 [] (l.drop a) with
  | none=>none
  | some (v,k)=>some (v,a+k)
 else none
theorem zJC:∀ (f:Nat) (cs l:List UInt8) (v k:Nat),cs.length+f=8→rd f cs l=some (v,k)→v<72057594037927936∧cs.length<k∧k≤cs.length+l.length∧k≤8
 | 0,_,_,_,_,_,h=>by simp [rd] at h
 | f+1,cs,[],_,_,_,h=>by simp [rd] at h
 | f+1,cs,b::l,v,k,hf,h=>by
  simp only [rd] at h;by_cases hb:b.toNat<128
  ·rw [if_pos hb] at h;by_cases hz:b=0∧cs≠[]
   ·rw [if_pos hz] at h;simp at h
   ·rw [if_neg hz] at h;simp only [zQj,Prod.mk.injEq] at h;obtain ⟨rfl,rfl⟩:=h;refine ⟨?_,by omega,by simp,by omega⟩;have h1:=zOL (cs++[b]);have h2:128 ^ (cs++[b]).length≤128 ^ 8:=Nat.pow_le_pow_right (by omega) (by simp;omega);have e:(128:Nat) ^ 8=72057594037927936:=by decide
    omega
  ·rw [if_neg hb] at h;have:=zJC f (cs++[b]) l v k (by simp;omega) h;simp at this;refine ⟨this.1,by omega,by simp;omega,this.2.2.2⟩
theorem yH {v nx:Nat} (h:ZX l a=some (v,nx)):v<72057594037927936∧a<nx∧nx≤l.length∧a<l.length:=by
 unfold ZX at h;by_cases ha:a<l.length
 ·rw [if_pos ha] at h
  cases hr:rd 8 [] (l.drop a) with
  | none=>rw [hr] at h;simp at h
  | some p =>
   obtain ⟨v',k⟩:=p;rw [hr] at h;simp only [zQj,Prod.mk.injEq] at h;obtain ⟨rfl,rfl⟩:=h;have:=zJC 8 [] (l.drop a) v' k (by simp) hr;simp at this;omega
 ·rw [if_neg ha] at h;simp at h
def taken (p n:Nat):List Nat:=(List.range n).map fun i=>256+p+i
def zPp (l:List UInt8) (a n:Nat):List Nat:=((l.drop a).take n).map UInt8.toNat
theorem zBK (p n:Nat):taken p (n+1)=taken p n++[256+p+n]:=by simp [taken,List.range_succ]
theorem zD1 (p n:Nat):(taken p n).length=n:=by simp [taken]
def Yq (l:List UInt8) (size a:Nat) (acc:List Nat):Option (List Nat × Nat):=
 match ZX l a with
 | none=>none
 | some (u,nx) =>
  if u / 2<1∨size-acc.length<u / 2 then none
  else if u % 2=1 then
   match ZX l nx with
   | none=>none
   | some (p,n2)=>if 72057594037927935-u / 2<p then none else some (acc++taken p (u / 2),n2)
  else if nx+u / 2≤l.length then some (acc++zPp l nx (u / 2),nx+u / 2) else none
def YA (l:List UInt8) (size:Nat):Nat→Nat→List Nat→Option (List Nat)
 | 0,_,_=>none
 | f+1,a,acc =>
  if a<l.length then
   match Yq l size a acc with
   | none=>none
   | some (acc',a')=>YA l size f a' acc'
  else some acc
def parse (l:List UInt8):Option (Nat × List Nat):=
 match ZX l 0 with
 | none=>none
 | some (size,a) =>
  if 4096<size then none
  else
   match YA l size (l.length+1) a [] with
   | none=>none
   | some acc=>if acc.length=size then some (size,acc) else none
theorem zI2 {size:Nat} {acc:List Nat} (h:Yq l size a acc=some (acc',a')):a<a'∧a'≤l.length:=by
 unfold Yq at h
 cases hg:ZX l a with
 | none=>rw [hg] at h;simp at h
 | some p =>
  obtain ⟨u,nx⟩:=p;have hb:=yH hg;rw [hg] at h;simp only at h;split at h
  ·simp at h
  ·split at h
   ·cases hg2:ZX l nx with
    | none=>rw [hg2] at h;simp at h
    | some q =>
     obtain ⟨p,n2⟩:=q;have hb2:=yH hg2;rw [hg2] at h;simp only at h;split at h
     ·simp at h
     ·simp only [zQj,Prod.mk.injEq] at h;omega
   ·split at h
    ·simp only [zQj,Prod.mk.injEq] at h;omega
    ·simp at h
def At (l:List UInt8) (size:Nat) (r:Option (List Nat)) (a:Nat) (acc:List Nat):Prop:=
 ∃ f,(a≤l.length∧l.length<a+f)∧YA l size f a acc=r
theorem zJg (l:List UInt8) (size a:Nat) (ha:a≤l.length):At l size (YA l size (l.length+1) a []) a []:=⟨l.length+1,by omega,rfl⟩
theorem zQT {size:Nat} {acc:List Nat} (h:At l size r a acc):a≤l.length:=by
 obtain ⟨f,hf,_⟩:=h;exact hf.1
theorem at_end {size:Nat} {acc:List Nat} (h:At l size r a acc) (ha:¬a<l.length):r=some acc:=by
 obtain ⟨f,hf,rfl⟩:=h
 cases f with
 | zero=>omega
 | succ f=>simp [YA,ha]
theorem zMi {size:Nat} {acc:List Nat} (h:At l size r a acc) (ha:a<l.length) (hs:Yq l size a acc=none):r=none:=by
 obtain ⟨f,hf,rfl⟩:=h
 cases f with
 | zero=>omega
 | succ f=>simp [YA,ha,hs]
theorem zIx {size:Nat} {acc:List Nat} (h:At l size r a acc) (ha:a<l.length) (hs:Yq l size a acc=some (acc',a')):At l size r a' acc':=by
 obtain ⟨f,hf,rfl⟩:=h;have:=zI2 hs
 cases f with
 | zero=>omega
 | succ f=>exact ⟨f,by omega,by simp [YA,ha,hs]⟩
def Fit (acc:List Nat):Prop:=∀ x∈acc,x<72057594037928192
theorem zPI:Fit []:=fun x hx=>by simp at hx
theorem zFB {a b:List Nat} (ha:Fit a) (hb:Fit b):Fit (a++b):=fun x hx=>by
 rcases zRY.1 hx with h|h
 ·exact ha x h
 ·exact hb x h
theorem zMK (p n:Nat) (h:p+n≤72057594037927935):Fit (taken p n):=fun x hx=>by
 simp only [taken,List.mem_map,List.mem_range] at hx;obtain ⟨i,hi,rfl⟩:=hx;omega
theorem zPH (l:List UInt8) (a n:Nat):Fit (zPp l a n):=fun x hx=>by
 simp only [zPp,List.mem_map] at hx;obtain ⟨b,_,rfl⟩:=hx;have:=b.toNat_lt;omega
theorem zK4 {size:Nat} {acc:List Nat} (h:Yq l size a acc=some (acc',a')) (hf:Fit acc):Fit acc':=by
 unfold Yq at h
 cases hg:ZX l a with
 | none=>rw [hg] at h;simp at h
 | some p =>
  obtain ⟨u,nx⟩:=p;have hb:=yH hg;rw [hg] at h;simp only at h;split at h
  ·simp at h
  ·split at h
   ·cases hg2:ZX l nx with
    | none=>rw [hg2] at h;simp at h
    | some q =>
     obtain ⟨p,n2⟩:=q;rw [hg2] at h;simp only at h;split at h
     ·simp at h
     ·simp only [zQj,Prod.mk.injEq] at h;obtain ⟨rfl,_⟩:=h;exact zFB hf (zMK p _ (by omega))
   ·split at h
    ·simp only [zQj,Prod.mk.injEq] at h;obtain ⟨rfl,_⟩:=h;exact zFB hf (zPH l _ _)
    ·simp at h
theorem zDh {l:List UInt8} {size:Nat}:∀ {f a:Nat} {acc acc':List Nat},YA l size f a acc=some acc'→Fit acc→Fit acc'
 | 0,_,_,_,h,_=>by simp [YA] at h
 | f+1,a,acc,acc',h,hf=>by
  simp only [YA] at h;split at h
  ·cases hs:Yq l size a acc with
   | none=>rw [hs] at h;simp at h
   | some q =>
    obtain ⟨b,a'⟩:=q;rw [hs] at h;exact zDh h (zK4 hs hf)
  ·simp only [zQj] at h;subst h;exact hf
theorem zID {size:Nat} {acc:List Nat} (h:parse l=some (size,acc)):acc.length=size∧size≤4096∧Fit acc:=by
 unfold parse at h
 cases hg:ZX l 0 with
 | none=>rw [hg] at h;simp at h
 | some p =>
  obtain ⟨sz,a⟩:=p;rw [hg] at h;simp only at h;split at h
  ·simp at h
  ·cases hs:YA l sz (l.length+1) a [] with
   | none=>rw [hs] at h;simp at h
   | some b =>
    rw [hs] at h;simp only at h;split at h
    ·simp only [zQj,Prod.mk.injEq] at h;obtain ⟨rfl,rfl⟩:=h;exact ⟨by assumption,by omega,zDh hs zPI⟩
    ·simp at h
def reach (acc:List Nat):Nat:=acc.foldl (fun m x=>max m (x-255)) 0
theorem zKE (acc:List Nat) (x:Nat):reach (acc++[x])=max (reach acc) (x-255):=by simp [reach]
theorem zEO (acc:List Nat) (m:Nat):acc.foldl (fun m x=>max m (x-255)) m=max m (reach acc):=by
 induction acc generalizing m with
 | nil=>simp [reach]
 | cons x acc ih=>simp only [reach,List.foldl_cons];rw [ih,ih];omega
theorem zEv (x:Nat) (acc:List Nat):reach (x::acc)=max (x-255) (reach acc):=by
 unfold reach;rw [List.foldl_cons,zEO];unfold reach;omega
theorem zGt {acc:List Nat} {x:Nat} (h:x∈acc):x-255≤reach acc:=by
 induction acc with
 | nil=>simp at h
 | cons y acc ih =>
  rw [zEv];rcases zRZ.1 h with rfl|h
  ·omega
  ·have:=ih h;omega
theorem zDK {acc:List Nat} {n:Nat} (h:∀ x∈acc,x-255≤n):reach acc≤n:=by
 induction acc with
 | nil=>simp [reach]
 | cons y acc ih =>
  rw [zEv];have h1:=h y (by simp);have h2:=ih fun x hx=>h x (by simp [hx]);omega
theorem zLl {acc:List Nat} (h:Fit acc):reach acc<72057594037928192:=by
 have:=zDK (n:=72057594037928191) fun x hx=>by have:=h x hx;omega
 omega
def made (acc:List Nat) (base:List UInt8):List UInt8:=acc.map fun x=>if 255<x then base.getD (x-256) 0 else UInt8.ofNat x
theorem zOO:∀ (f n:Nat) (cs q:List UInt8),n<128 ^ (f+1)→(cs=[]∨0<n)→rd (f+1) cs (enc f n++q)=some (val cs+n*128 ^ cs.length,cs.length+(enc f n).length)
 | f,n,cs,q,hn,h0=>by
  by_cases h:n<128
  ·rw [zBB f n h];have hb:(UInt8.ofNat n).toNat=n:=by rw [UInt8.toNat_ofNat'];omega
   have hz:¬(UInt8.ofNat n=0∧cs≠[]):=by
    rintro ⟨e,hc⟩;have:n=0:=by rw [←hb,e];rfl
    rcases h0 with h0|h0
    ·exact hc h0
    ·omega
   simp only [zQy,zQw,rd];rw [if_pos (by omega),if_neg hz,zFW,hb,show n % 128=n by omega];simp
  ·match f,hn with
   | 0,hn=>simp at hn;omega
   | f+1,hn =>
    rw [zIh f n h];have hb:(UInt8.ofNat (n % 128+128)).toNat=n % 128+128:=by rw [UInt8.toNat_ofNat'];omega
    have hp:n / 128<128 ^ (f+1):=by
     rw [Nat.pow_succ] at hn;exact Nat.div_lt_of_lt_mul (by rw [Nat.mul_comm];exact hn)
    show rd (f+2) cs (UInt8.ofNat (n % 128+128)::(enc f (n / 128)++q))=_
    rw [rd,if_neg (by omega),zOO f (n / 128) _ q hp (Or.inr (by omega)),zFW,hb];simp only [zQg,zQl,zQr,zR5,zQj,Prod.mk.injEq];refine ⟨?_,by omega⟩;rw [show (n % 128+128) % 128=n % 128 by omega,Nat.pow_succ,Nat.add_assoc,Nat.mul_comm (128 ^ cs.length) 128,←Nat.mul_assoc,←Nat.add_mul];congr 2;omega
theorem Z4 (f n:Nat):0<(enc f n).length:=by
 cases f with
 | zero=>simp [enc]
 | succ f=>simp only [enc];split<;>simp
theorem Y7 (p q:List UInt8) (n:Nat) (hn:n<72057594037927936):ZX (p++(enc 7 n++q)) p.length=some (n,p.length+(enc 7 n).length):=by
 have hl:=Z4 7 n;unfold ZX;rw [if_pos (by simp;omega),List.drop_left,zOO 7 n [] q (by simpa using hn) (Or.inl rfl)];simp [val]
end Go.Proofs.YtekdenkllipehabGreatDoor.M
namespace Go.Proofs.YtekdenkllipehabGreatDoor
theorem yt (s:ByteArray) (k:Nat) (h:k<s.size):s.data.toList.take (k+1)=s.data.toList.take k++[s[k]]:=by
 rw [List.take_succ_eq_append_getElem (by simpa using h)];rfl
end Go.Proofs.YtekdenkllipehabGreatDoor
namespace Go.Proofs.YtekdenkllipehabGreatDoor.M
def subst (a b:List Nat):List Nat:=b.map fun x=>if 255<x then a.getD (x-256) 0 else x
end Go.Proofs.YtekdenkllipehabGreatDoor.M
