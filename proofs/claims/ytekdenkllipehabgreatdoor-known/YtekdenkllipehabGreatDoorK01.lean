import GoSem.Claim
set_option maxRecDepth 100000
set_option maxHeartbeats 8000000
namespace Go.Proofs.YtekdenkllipehabGreatDoor.M
def enc:Nat→Nat→List UInt8
 | 0,n=>[UInt8.ofNat n]
 | f+1,n=>if n<128 then [UInt8.ofNat n] else UInt8.ofNat (n % 128+128)::enc f (n / 128)
theorem enc_small (f n:Nat) (h:n<128):enc f n=[UInt8.ofNat n]:=by
 cases f with
 | zero=>rfl
 | succ f=>simp [enc,h]
theorem enc_big (f n:Nat) (h:¬n<128):enc (f+1) n=UInt8.ofNat (n % 128+128)::enc f (n / 128):=by
 simp [enc,h]
def Rest (l:List UInt8) (f m:Nat) (acc:List UInt8):Prop:=m<128 ^ (f+1)∧acc.length+f=7∧acc++enc f m=l
theorem rest_start (n:Nat) (h:n<72057594037927936):Rest (enc 7 n) 7 n []:=⟨by simpa using h,rfl,rfl⟩
theorem rest_big {l:List UInt8} {f m:Nat} {acc:List UInt8} (h:Rest l f m acc) (hm:¬m<128):∃ g,f=g+1∧Rest l g (m / 128) (acc++[UInt8.ofNat (m % 128+128)]):=by
 obtain ⟨h1,h2,h3⟩:=h
 cases f with
 | zero=>simp at h1;omega
 | succ g =>
  refine ⟨g,rfl,?_,by simp;omega,?_⟩
  ·rw [Nat.pow_succ] at h1
   exact Nat.div_lt_of_lt_mul (by rw [Nat.mul_comm];exact h1)
  ·rw [enc_big g m hm] at h3
   simpa using h3
theorem rest_small {l:List UInt8} {f m:Nat} {acc:List UInt8} (h:Rest l f m acc) (hm:m<128):acc++[UInt8.ofNat m]=l:=by
 rw [←enc_small f m hm];exact h.2.2
theorem rest_len {l:List UInt8} {f m:Nat} {acc:List UInt8} (h:Rest l f m acc):acc.length≤7:=by have:=h.2.1;omega
theorem rest_lt {l:List UInt8} {f m:Nat} {acc:List UInt8} (h:Rest l f m acc):m<72057594037927936:=by
 have h1:=h.1
 have h2:=h.2.1
 have:128 ^ (f+1)≤128 ^ 8:=Nat.pow_le_pow_right (by omega) (by omega)
 have e:(128:Nat) ^ 8=72057594037927936:=by decide
 omega
def val:List UInt8→Nat
 | []=>0
 | b::l=>b.toNat % 128+128*val l
theorem val_snoc (l:List UInt8) (b:UInt8):val (l++[b])=val l+b.toNat % 128*128 ^ l.length:=by
 induction l with
 | nil=>simp [val]
 | cons c l ih=>simp only [List.cons_append,val,ih,List.length_cons,Nat.pow_succ];rw [Nat.mul_add];rw [show b.toNat % 128*(128 ^ l.length*128)=128*(b.toNat % 128*128 ^ l.length) by rw [Nat.mul_comm (128 ^ l.length) 128,Nat.mul_left_comm]];omega
theorem val_lt (l:List UInt8):val l<128 ^ l.length:=by
 induction l with
 | nil=>simp [val]
 | cons c l ih=>simp only [val,List.length_cons,Nat.pow_succ];omega
def rd:Nat→List UInt8→List UInt8→Option (Nat × Nat)
 | 0,_,_=>none
 | _+1,_,[]=>none
 | f+1,cs,b::l=>if b.toNat<128 then (if b=0∧cs≠[] then none else some (val (cs++[b]),cs.length+1)) else rd f (cs++[b]) l
def Far (D:List UInt8) (k:Nat):Prop:=k≤8∧k≤D.length∧∀ c∈D.take k,128≤c.toNat
theorem far_zero (D:List UInt8):Far D 0:=⟨by omega,by omega,by simp⟩
theorem take_snoc {D:List UInt8} {k:Nat} {b:UInt8} (hb:D[k]?=some b):D.take (k+1)=D.take k++[b]:=by
 rw [List.take_add_one,hb];rfl
theorem drop_cons {D:List UInt8} {k:Nat} {b:UInt8} (hb:D[k]?=some b):D.drop k=b::D.drop (k+1):=by
 obtain ⟨h,e⟩:=List.getElem?_eq_some_iff.1 hb
 rw [List.drop_eq_getElem_cons h,e]
theorem far_step {D:List UInt8} {k:Nat} {b:UInt8} (h:Far D k) (hk:k<8) (hb:D[k]?=some b) (h1:128≤b.toNat):Far D (k+1):=by
 obtain ⟨hl,_⟩:=List.getElem?_eq_some_iff.1 hb
 refine ⟨by omega,by omega,fun c hc=>?_⟩
 rw [take_snoc hb,List.mem_append] at hc
 rcases hc with hc|hc
 ·exact h.2.2 c hc
 ·simp at hc;subst hc;exact h1
theorem rd_far {D:List UInt8}:∀ {k:Nat},Far D k→rd 8 [] D=rd (8-k) (D.take k) (D.drop k)
 | 0,_=>by simp
 | k+1,h=>by
  have hl:k<D.length:=by have:=h.2.1;omega
  have hb:D[k]?=some D[k]:=List.getElem?_eq_getElem hl
  have hk:k<8:=by have:=h.1;omega
  have hf:Far D k:=⟨by omega,by omega,fun c hc=>h.2.2 c (by rw [take_snoc hb];exact List.mem_append_left _ hc)⟩
  have h1:128≤D[k].toNat:=h.2.2 _ (by rw [take_snoc hb];exact List.mem_append_right _ (List.mem_singleton.2 rfl))
  rw [rd_far hf,drop_cons hb,take_snoc hb,show 8-k=(8-(k+1))+1 by omega]
  simp only [rd]
  rw [if_neg (by omega)]
theorem rd_stop {D:List UInt8} {k:Nat} (h:Far D k) (hk:k=8∨k=D.length):rd 8 [] D=none:=by
 rw [rd_far h]
 rcases hk with rfl|rfl
 ·simp [rd]
 ·rw [List.drop_length];cases 8-D.length<;>simp [rd]
theorem rd_nil {D:List UInt8} {k:Nat} {b:UInt8} (h:Far D k) (hk:k<8) (hb:D[k]?=some b) (h0:b=0) (hp:0<k):rd 8 [] D=none:=by
 subst h0
 have hl:k<D.length:=(List.getElem?_eq_some_iff.1 hb).1
 rw [rd_far h,drop_cons hb,show 8-k=(8-(k+1))+1 by omega]
 have hne:D.take k≠[]:=by intro e;have:=congrArg List.length e;rw [List.length_take,List.length_nil] at this;omega
 simp [rd,hne]
theorem rd_hit {D:List UInt8} {k:Nat} {b:UInt8} (h:Far D k) (hk:k<8) (hb:D[k]?=some b) (h1:b.toNat<128) (h0:b≠0∨k=0):rd 8 [] D=some (val (D.take (k+1)),k+1):=by
 have hl:k<D.length:=(List.getElem?_eq_some_iff.1 hb).1
 rw [rd_far h,drop_cons hb,take_snoc hb,show 8-k=(8-(k+1))+1 by omega]
 have hlen:(D.take k).length=k:=by simp;omega
 have hc:¬(b=0∧D.take k≠[]):=by
  rintro ⟨e1,e2⟩
  rcases h0 with h0|h0
  ·exact h0 e1
  ·subst h0;simp at e2
 simp only [rd]
 rw [if_pos h1,if_neg hc,hlen]
theorem val_step {D:List UInt8} {k:Nat} {b:UInt8} (hb:D[k]?=some b):val (D.take (k+1))=val (D.take k)+b.toNat % 128*2 ^ (7*k):=by
 have hl:k<D.length:=(List.getElem?_eq_some_iff.1 hb).1
 rw [take_snoc hb,val_snoc,show (D.take k).length=k by simp;omega,Nat.pow_mul]
theorem val_take_lt {D:List UInt8} {k:Nat} (hk:k≤D.length):val (D.take k)<2 ^ (7*k):=by
 have:=val_lt (D.take k)
 rw [show (D.take k).length=k by simp;omega] at this
 rw [Nat.pow_mul];exact this
theorem val_take_small {D:List UInt8} {k:Nat} (hk:k≤D.length) (h8:k≤8):val (D.take k)<72057594037927936:=by
 have h:=val_take_lt hk
 have:2 ^ (7*k)≤2 ^ 56:=Nat.pow_le_pow_right (by omega) (by omega)
 have e:(2:Nat) ^ 56=72057594037927936:=by decide
 omega
end Go.Proofs.YtekdenkllipehabGreatDoor.M
namespace Go.Proofs.YtekdenkllipehabGreatDoor.M
def bit (c:Nat):Nat:=if c % 2=1 then c / 2 ^^^ 2197175160 else c / 2
theorem bit_xor (a b:Nat):bit (a ^^^ b)=bit a ^^^ bit b:=by
 have h0:(a ^^^ b) % 2=a % 2 ^^^ b % 2:=Nat.xor_mod_two_pow (n:=1)
 have h1:(a ^^^ b) % 2=(a+b) % 2:=by
  rw [h0]
  rcases Nat.mod_two_eq_zero_or_one a with ha | ha<;>rcases Nat.mod_two_eq_zero_or_one b with hb | hb<;>rw [ha,hb]
  ·show 0=_;omega
  ·show 1=_;omega
  ·show 1=_;omega
  ·show 0=_;omega
 have h2:(a ^^^ b) / 2=a / 2 ^^^ b / 2:=Nat.xor_div_two
 unfold bit
 rw [h1,h2]
 rcases Nat.mod_two_eq_zero_or_one a with ha | ha<;>rcases Nat.mod_two_eq_zero_or_one b with hb | hb
 ·rw [if_neg (by omega),if_neg (by omega),if_neg (by omega)]
 ·rw [if_pos (by omega),if_neg (by omega),if_pos (by omega),Nat.xor_assoc]
 ·rw [if_pos (by omega),if_pos (by omega),if_neg (by omega),Nat.xor_assoc,Nat.xor_comm (b / 2),Nat.xor_assoc]
 ·rw [if_neg (by omega),if_pos (by omega),if_pos (by omega),Nat.xor_assoc,Nat.xor_comm (b / 2),←Nat.xor_assoc 2197175160,Nat.xor_self,Nat.zero_xor]
theorem bit_double (q:Nat):bit (2*q)=q:=by
 unfold bit
 rw [if_neg (by omega)];omega
theorem bit_lt {c:Nat} (h:c<4294967296):bit c<4294967296:=by
 unfold bit
 split
 ·exact Nat.xor_lt_two_pow (n:=32) (by omega) (by decide)
 ·omega
def bits:Nat→Nat→Nat
 | 0,c=>c
 | k+1,c=>bits k (bit c)
theorem bits_add (k m c:Nat):bits (k+m) c=bits m (bits k c):=by
 induction k generalizing c with
 | zero=>simp [bits]
 | succ k ih=>rw [Nat.succ_add];exact ih _
theorem bits_xor (k a b:Nat):bits k (a ^^^ b)=bits k a ^^^ bits k b:=by
 induction k generalizing a b with
 | zero=>rfl
 | succ k ih=>simp only [bits];rw [bit_xor,ih]
theorem bits_lt {k c:Nat} (h:c<4294967296):bits k c<4294967296:=by
 induction k generalizing c with
 | zero=>exact h
 | succ k ih=>exact ih (bit_lt h)
def half:Nat→Nat
 | 0=>0
 | 1=>274646895
 | 2=>549293790
 | 3=>820201905
 | 4=>1098587580
 | 5=>1361435347
 | 6=>1640403810
 | 7=>1905808397
 | 8=>2197175160
 | 9=>2460548119
 | 10=>2722870694
 | 11=>2987750089
 | 12=>3280807620
 | 13=>3553878443
 | 14=>3811616794
 | 15=>4084100981
 | _=>0
theorem half_lt (i:Nat):half i<4294967296:=by
 unfold half;split<;>decide
theorem bits_half (r:Nat) (h:r<16):bits 4 r=half r:=by
 have hall:∀ x:Fin 16,bits 4 x.val=half x.val:=by decide
 exact hall ⟨r,h⟩
theorem bits_sixteen (q:Nat):bits 4 (16*q)=q:=by
 simp only [bits]
 rw [show 16*q=2*(8*q) by omega,bit_double,show 8*q=2*(4*q) by omega,bit_double,show 4*q=2*(2*q) by omega,bit_double,bit_double]
theorem split16 (c:Nat):c=(16*(c / 16)) ^^^ (c % 16):=by
 have h1:((16*(c / 16)) ^^^ (c % 16)) / 2 ^ 4=c / 16:=by
  rw [Nat.xor_div_two_pow,show 16*(c / 16) / 2 ^ 4=c / 16 by omega,show c % 16 / 2 ^ 4=0 by omega,Nat.xor_zero]
 have h2:((16*(c / 16)) ^^^ (c % 16)) % 2 ^ 4=c % 16:=by
  rw [Nat.xor_mod_two_pow,show 16*(c / 16) % 2 ^ 4=0 by omega,show c % 16 % 2 ^ 4=c % 16 by omega,Nat.zero_xor]
 have h3:=Nat.div_add_mod ((16*(c / 16)) ^^^ (c % 16)) (2 ^ 4)
 rw [h1,h2] at h3
 omega
theorem bits_four (c:Nat):bits 4 c=c / 16 ^^^ half (c % 16):=by
 conv=>lhs;rw [split16 c]
 rw [bits_xor,bits_sixteen,bits_half _ (by omega)]
def step (c:Nat) (b:UInt8):Nat:=bits 8 (c ^^^ b.toNat)
theorem xor_byte_lt {c:Nat} (h:c<4294967296) (b:UInt8):c ^^^ b.toNat<4294967296:=
 Nat.xor_lt_two_pow (n:=32) (by omega) (by have:=b.toNat_lt;omega)
theorem step_lt {c:Nat} (h:c<4294967296) (b:UInt8):step c b<4294967296:=bits_lt (xor_byte_lt h b)
theorem step_halves (c:Nat) (b:UInt8) :
  step c b=((c ^^^ b.toNat) / 16 ^^^ half ((c ^^^ b.toNat) % 16)) / 16 ^^^ half (((c ^^^ b.toNat) / 16 ^^^ half ((c ^^^ b.toNat) % 16)) % 16):=by
 unfold step
 rw [show (8:Nat)=4+4 from rfl,bits_add,bits_four,bits_four]
def run (l:List UInt8):Nat:=l.foldl step 4294967295
theorem run_snoc (l:List UInt8) (b:UInt8):run (l++[b])=step (run l) b:=by simp [run]
theorem foldl_lt (l:List UInt8) (c:Nat) (h:c<4294967296):l.foldl step c<4294967296:=by
 induction l generalizing c with
 | nil=>exact h
 | cons b l ih=>exact ih _ (step_lt h b)
theorem run_lt (l:List UInt8):run l<4294967296:=foldl_lt l _ (by omega)
def sum (l:List UInt8):Nat:=4294967295-run l
theorem sum_lt (l:List UInt8):sum l<4294967296:=by unfold sum;omega
def le4 (n:Nat):List UInt8:=[UInt8.ofNat (n % 256),UInt8.ofNat (n / 256 % 256),UInt8.ofNat (n / 65536 % 256),UInt8.ofNat (n / 16777216 % 256)]
theorem le4_last (n:Nat) (h:n<4294967296):#[UInt8.ofNat (n % 256),UInt8.ofNat (n / 256 % 256),UInt8.ofNat (n / 65536 % 256),UInt8.ofNat (n / 16777216)]=(le4 n).toArray:=by
 unfold le4
 rw [show n / 16777216 % 256=n / 16777216 by omega]
def sealed (l:List UInt8):List UInt8:=l++le4 (sum l)
theorem sealed_length (l:List UInt8):(sealed l).length=l.length+4:=by simp [sealed,le4]
end Go.Proofs.YtekdenkllipehabGreatDoor.M
namespace Go.Proofs.YtekdenkllipehabGreatDoor.M
def getAt (l:List UInt8) (a:Nat):Option (Nat × Nat):=
 if a<l.length then
  match rd 8 [] (l.drop a) with
  | none=>none
  | some (v,k)=>some (v,a+k)
 else none
theorem rd_bound:∀ (f:Nat) (cs l:List UInt8) (v k:Nat),cs.length+f=8→rd f cs l=some (v,k)→v<72057594037927936∧cs.length<k∧k≤cs.length+l.length∧k≤8
 | 0,_,_,_,_,_,h=>by simp [rd] at h
 | f+1,cs,[],_,_,_,h=>by simp [rd] at h
 | f+1,cs,b::l,v,k,hf,h=>by
  simp only [rd] at h
  by_cases hb:b.toNat<128
  ·rw [if_pos hb] at h
   by_cases hz:b=0∧cs≠[]
   ·rw [if_pos hz] at h;simp at h
   ·rw [if_neg hz] at h
    simp only [Option.some.injEq,Prod.mk.injEq] at h
    obtain ⟨rfl,rfl⟩:=h
    refine ⟨?_,by omega,by simp,by omega⟩
    have h1:=val_lt (cs++[b])
    have h2:128 ^ (cs++[b]).length≤128 ^ 8:=Nat.pow_le_pow_right (by omega) (by simp;omega)
    have e:(128:Nat) ^ 8=72057594037927936:=by decide
    omega
  ·rw [if_neg hb] at h
   have:=rd_bound f (cs++[b]) l v k (by simp;omega) h
   simp at this
   refine ⟨this.1,by omega,by simp;omega,this.2.2.2⟩
theorem getAt_bound {l:List UInt8} {a v nx:Nat} (h:getAt l a=some (v,nx)):v<72057594037927936∧a<nx∧nx≤l.length∧a<l.length:=by
 unfold getAt at h
 by_cases ha:a<l.length
 ·rw [if_pos ha] at h
  cases hr:rd 8 [] (l.drop a) with
  | none=>rw [hr] at h;simp at h
  | some p =>
   obtain ⟨v',k⟩:=p
   rw [hr] at h
   simp only [Option.some.injEq,Prod.mk.injEq] at h
   obtain ⟨rfl,rfl⟩:=h
   have:=rd_bound 8 [] (l.drop a) v' k (by simp) hr
   simp at this
   omega
 ·rw [if_neg ha] at h;simp at h
def taken (p n:Nat):List Nat:=(List.range n).map fun i=>256+p+i
def putB (l:List UInt8) (a n:Nat):List Nat:=((l.drop a).take n).map UInt8.toNat
theorem taken_succ (p n:Nat):taken p (n+1)=taken p n++[256+p+n]:=by simp [taken,List.range_succ]
theorem taken_length (p n:Nat):(taken p n).length=n:=by simp [taken]
def stepAt (l:List UInt8) (size a:Nat) (acc:List Nat):Option (List Nat × Nat):=
 match getAt l a with
 | none=>none
 | some (u,nx) =>
  if u / 2<1∨size-acc.length<u / 2 then none
  else if u % 2=1 then
   match getAt l nx with
   | none=>none
   | some (p,n2)=>if 72057594037927935-u / 2<p then none else some (acc++taken p (u / 2),n2)
  else if nx+u / 2≤l.length then some (acc++putB l nx (u / 2),nx+u / 2) else none
def stepsAt (l:List UInt8) (size:Nat):Nat→Nat→List Nat→Option (List Nat)
 | 0,_,_=>none
 | f+1,a,acc =>
  if a<l.length then
   match stepAt l size a acc with
   | none=>none
   | some (acc',a')=>stepsAt l size f a' acc'
  else some acc
def parse (l:List UInt8):Option (Nat × List Nat):=
 match getAt l 0 with
 | none=>none
 | some (size,a) =>
  if 4096<size then none
  else
   match stepsAt l size (l.length+1) a [] with
   | none=>none
   | some acc=>if acc.length=size then some (size,acc) else none
theorem stepAt_next {l:List UInt8} {size a a':Nat} {acc acc':List Nat} (h:stepAt l size a acc=some (acc',a')):a<a'∧a'≤l.length:=by
 unfold stepAt at h
 cases hg:getAt l a with
 | none=>rw [hg] at h;simp at h
 | some p =>
  obtain ⟨u,nx⟩:=p
  have hb:=getAt_bound hg
  rw [hg] at h
  simp only at h
  split at h
  ·simp at h
  ·split at h
   ·cases hg2:getAt l nx with
    | none=>rw [hg2] at h;simp at h
    | some q =>
     obtain ⟨p,n2⟩:=q
     have hb2:=getAt_bound hg2
     rw [hg2] at h
     simp only at h
     split at h
     ·simp at h
     ·simp only [Option.some.injEq,Prod.mk.injEq] at h;omega
   ·split at h
    ·simp only [Option.some.injEq,Prod.mk.injEq] at h;omega
    ·simp at h
def At (l:List UInt8) (size:Nat) (r:Option (List Nat)) (a:Nat) (acc:List Nat):Prop:=
 ∃ f,(a≤l.length∧l.length<a+f)∧stepsAt l size f a acc=r
theorem at_start (l:List UInt8) (size a:Nat) (ha:a≤l.length):At l size (stepsAt l size (l.length+1) a []) a []:=⟨l.length+1,by omega,rfl⟩
theorem at_le {l:List UInt8} {size a:Nat} {r:Option (List Nat)} {acc:List Nat} (h:At l size r a acc):a≤l.length:=by
 obtain ⟨f,hf,_⟩:=h
 exact hf.1
theorem at_end {l:List UInt8} {size a:Nat} {r:Option (List Nat)} {acc:List Nat} (h:At l size r a acc) (ha:¬a<l.length):r=some acc:=by
 obtain ⟨f,hf,rfl⟩:=h
 cases f with
 | zero=>omega
 | succ f=>simp [stepsAt,ha]
theorem at_none {l:List UInt8} {size a:Nat} {r:Option (List Nat)} {acc:List Nat} (h:At l size r a acc) (ha:a<l.length) (hs:stepAt l size a acc=none):r=none:=by
 obtain ⟨f,hf,rfl⟩:=h
 cases f with
 | zero=>omega
 | succ f=>simp [stepsAt,ha,hs]
theorem at_step {l:List UInt8} {size a a':Nat} {r:Option (List Nat)} {acc acc':List Nat} (h:At l size r a acc) (ha:a<l.length) (hs:stepAt l size a acc=some (acc',a')):At l size r a' acc':=by
 obtain ⟨f,hf,rfl⟩:=h
 have:=stepAt_next hs
 cases f with
 | zero=>omega
 | succ f=>exact ⟨f,by omega,by simp [stepsAt,ha,hs]⟩
def Fit (acc:List Nat):Prop:=∀ x∈acc,x<72057594037928192
theorem fit_nil:Fit []:=fun x hx=>by simp at hx
theorem fit_append {a b:List Nat} (ha:Fit a) (hb:Fit b):Fit (a++b):=fun x hx=>by
 rcases List.mem_append.1 hx with h|h
 ·exact ha x h
 ·exact hb x h
theorem fit_taken (p n:Nat) (h:p+n≤72057594037927935):Fit (taken p n):=fun x hx=>by
 simp only [taken,List.mem_map,List.mem_range] at hx
 obtain ⟨i,hi,rfl⟩:=hx
 omega
theorem fit_put (l:List UInt8) (a n:Nat):Fit (putB l a n):=fun x hx=>by
 simp only [putB,List.mem_map] at hx
 obtain ⟨b,_,rfl⟩:=hx
 have:=b.toNat_lt
 omega
theorem stepAt_fit {l:List UInt8} {size a a':Nat} {acc acc':List Nat} (h:stepAt l size a acc=some (acc',a')) (hf:Fit acc):Fit acc':=by
 unfold stepAt at h
 cases hg:getAt l a with
 | none=>rw [hg] at h;simp at h
 | some p =>
  obtain ⟨u,nx⟩:=p
  have hb:=getAt_bound hg
  rw [hg] at h
  simp only at h
  split at h
  ·simp at h
  ·split at h
   ·cases hg2:getAt l nx with
    | none=>rw [hg2] at h;simp at h
    | some q =>
     obtain ⟨p,n2⟩:=q
     rw [hg2] at h
     simp only at h
     split at h
     ·simp at h
     ·simp only [Option.some.injEq,Prod.mk.injEq] at h
      obtain ⟨rfl,_⟩:=h
      exact fit_append hf (fit_taken p _ (by omega))
   ·split at h
    ·simp only [Option.some.injEq,Prod.mk.injEq] at h
     obtain ⟨rfl,_⟩:=h
     exact fit_append hf (fit_put l _ _)
    ·simp at h
theorem stepsAt_fit {l:List UInt8} {size:Nat}:∀ {f a:Nat} {acc acc':List Nat},stepsAt l size f a acc=some acc'→Fit acc→Fit acc'
 | 0,_,_,_,h,_=>by simp [stepsAt] at h
 | f+1,a,acc,acc',h,hf=>by
  simp only [stepsAt] at h
  split at h
  ·cases hs:stepAt l size a acc with
   | none=>rw [hs] at h;simp at h
   | some q =>
    obtain ⟨b,a'⟩:=q
    rw [hs] at h
    exact stepsAt_fit h (stepAt_fit hs hf)
  ·simp only [Option.some.injEq] at h;subst h;exact hf
theorem parse_bound {l:List UInt8} {size:Nat} {acc:List Nat} (h:parse l=some (size,acc)):acc.length=size∧size≤4096∧Fit acc:=by
 unfold parse at h
 cases hg:getAt l 0 with
 | none=>rw [hg] at h;simp at h
 | some p =>
  obtain ⟨sz,a⟩:=p
  rw [hg] at h
  simp only at h
  split at h
  ·simp at h
  ·cases hs:stepsAt l sz (l.length+1) a [] with
   | none=>rw [hs] at h;simp at h
   | some b =>
    rw [hs] at h
    simp only at h
    split at h
    ·simp only [Option.some.injEq,Prod.mk.injEq] at h
     obtain ⟨rfl,rfl⟩:=h
     exact ⟨by assumption,by omega,stepsAt_fit hs fit_nil⟩
    ·simp at h
def reach (acc:List Nat):Nat:=acc.foldl (fun m x=>max m (x-255)) 0
theorem reach_snoc (acc:List Nat) (x:Nat):reach (acc++[x])=max (reach acc) (x-255):=by simp [reach]
theorem foldl_reach (acc:List Nat) (m:Nat):acc.foldl (fun m x=>max m (x-255)) m=max m (reach acc):=by
 induction acc generalizing m with
 | nil=>simp [reach]
 | cons x acc ih=>simp only [reach,List.foldl_cons];rw [ih,ih];omega
theorem reach_cons (x:Nat) (acc:List Nat):reach (x::acc)=max (x-255) (reach acc):=by
 unfold reach
 rw [List.foldl_cons,foldl_reach]
 unfold reach
 omega
theorem reach_mem {acc:List Nat} {x:Nat} (h:x∈acc):x-255≤reach acc:=by
 induction acc with
 | nil=>simp at h
 | cons y acc ih =>
  rw [reach_cons]
  rcases List.mem_cons.1 h with rfl|h
  ·omega
  ·have:=ih h;omega
theorem reach_le {acc:List Nat} {n:Nat} (h:∀ x∈acc,x-255≤n):reach acc≤n:=by
 induction acc with
 | nil=>simp [reach]
 | cons y acc ih =>
  rw [reach_cons]
  have h1:=h y (by simp)
  have h2:=ih fun x hx=>h x (by simp [hx])
  omega
theorem reach_fit {acc:List Nat} (h:Fit acc):reach acc<72057594037928192:=by
 have:=reach_le (n:=72057594037928191) fun x hx=>by have:=h x hx;omega
 omega
def made (acc:List Nat) (base:List UInt8):List UInt8:=acc.map fun x=>if 255<x then base.getD (x-256) 0 else UInt8.ofNat x
end Go.Proofs.YtekdenkllipehabGreatDoor.M
namespace Go.Proofs.YtekdenkllipehabGreatDoor.M
theorem rd_enc:∀ (f n:Nat) (cs q:List UInt8),n<128 ^ (f+1)→(cs=[]∨0<n)→rd (f+1) cs (enc f n++q)=some (val cs+n*128 ^ cs.length,cs.length+(enc f n).length)
 | f,n,cs,q,hn,h0=>by
  by_cases h:n<128
  ·rw [enc_small f n h]
   have hb:(UInt8.ofNat n).toNat=n:=by rw [UInt8.toNat_ofNat'];omega
   have hz:¬(UInt8.ofNat n=0∧cs≠[]):=by
    rintro ⟨e,hc⟩
    have:n=0:=by rw [←hb,e];rfl
    rcases h0 with h0|h0
    ·exact hc h0
    ·omega
   simp only [List.cons_append,List.nil_append,rd]
   rw [if_pos (by omega),if_neg hz,val_snoc,hb,show n % 128=n by omega]
   simp
  ·match f,hn with
   | 0,hn=>simp at hn;omega
   | f+1,hn =>
    rw [enc_big f n h]
    have hb:(UInt8.ofNat (n % 128+128)).toNat=n % 128+128:=by rw [UInt8.toNat_ofNat'];omega
    have hp:n / 128<128 ^ (f+1):=by
     rw [Nat.pow_succ] at hn
     exact Nat.div_lt_of_lt_mul (by rw [Nat.mul_comm];exact hn)
    show rd (f+2) cs (UInt8.ofNat (n % 128+128)::(enc f (n / 128)++q))=_
    rw [rd,if_neg (by omega),rd_enc f (n / 128) _ q hp (Or.inr (by omega)),val_snoc,hb]
    simp only [List.length_append,List.length_cons,List.length_nil,Nat.zero_add,Option.some.injEq,Prod.mk.injEq]
    refine ⟨?_,by omega⟩
    rw [show (n % 128+128) % 128=n % 128 by omega,Nat.pow_succ,Nat.add_assoc,Nat.mul_comm (128 ^ cs.length) 128,←Nat.mul_assoc,←Nat.add_mul]
    congr 2
    omega
theorem enc_pos (f n:Nat):0<(enc f n).length:=by
 cases f with
 | zero=>simp [enc]
 | succ f=>simp only [enc];split<;>simp
theorem getAt_enc (p q:List UInt8) (n:Nat) (hn:n<72057594037927936):getAt (p++(enc 7 n++q)) p.length=some (n,p.length+(enc 7 n).length):=by
 have hl:=enc_pos 7 n
 unfold getAt
 rw [if_pos (by simp;omega),List.drop_left,rd_enc 7 n [] q (by simpa using hn) (Or.inl rfl)]
 simp [val]
end Go.Proofs.YtekdenkllipehabGreatDoor.M
namespace Go.Proofs.YtekdenkllipehabGreatDoor
theorem take_snoc (s:ByteArray) (k:Nat) (h:k<s.size):s.data.toList.take (k+1)=s.data.toList.take k++[s[k]]:=by
 rw [List.take_succ_eq_append_getElem (by simpa using h)];rfl
end Go.Proofs.YtekdenkllipehabGreatDoor
namespace Go.Proofs.YtekdenkllipehabGreatDoor.M
def subst (a b:List Nat):List Nat:=b.map fun x=>if 255<x then a.getD (x-256) 0 else x
end Go.Proofs.YtekdenkllipehabGreatDoor.M
