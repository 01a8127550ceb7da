import Derived.Test.YtekdenkllipehaaGreatDoorP02
import Derived.WalkKit
import Derived.ProofKit
import Derived.WalkSmall
set_option maxRecDepth 99999
set_option maxHeartbeats 0
namespace Go.Proofs.YtekdenkllipehaaGreatDoor
section
open Go.RowKit
variable{k:Nat}{p r s:Prop}
abbrev aZ(w:World)(i:Nat):Addr:=⟨w.heap.size,i,none⟩
abbrev pZ(w:World):Value:=.pointer (some ⟨w.heap.size,0,none⟩)
abbrev nS:Value:=.slice none 0 0
abbrev eS:Value:=.string ⟨#[]⟩
abbrev sT(s:ByteArray):Value:=.string s
abbrev BA:=ByteArray
theorem hU(h:p):Hid (Unit->p):=fun _=>h
theorem ex{α:Sort _}(a:α):∃x,x=a:=⟨_,rfl⟩
theorem xe{α:Sort _}(a:α):∃x,a=x:=⟨_,rfl⟩
abbrev aD(a b:Nat):Addr:=⟨a,b,none⟩
abbrev pT(a:Nat):Value:=.pointer (some ⟨a,0,none⟩)
abbrev iT(z:Int):Value:=.int .i64 z
theorem h_(h:p):Hid p:=h
theorem h_2{q:Prop}(a:p)(b:q):Hid (p/\q):=⟨a,b⟩
theorem h_3{q:Prop}(a:p)(b:q)(c:r):Hid (p/\q/\r):=⟨a,b,c⟩
theorem h_4{q:Prop}(a:p)(b:q)(c:r)(d:s):Hid (p/\q/\r/\s):=⟨a,b,c,d⟩
theorem h_5{q t:Prop}(a:p)(b:q)(c:r)(d:s)(e:t):Hid (p/\q/\r/\s/\t):=⟨a,b,c,d,e⟩
abbrev zMH:=@World.cell?_setCell_other
abbrev zMI:=@World.cell?_of_block
abbrev zMJ:=@World.cell?_setCell_same
abbrev zMK:=@World.frozen?_setCell
abbrev zML:=@World.frozen?_of_block
abbrev zMM:=@World.size_alloc
theorem nrm{α:Type}:(∀(l:List α)(i:Nat)(h:i<l.toArray.size),l.toArray[i]'h=l[i]'(by simpa using h))/\(∀(a:α)(l:List α)(i:Nat)(h:i+1<(a::l).length),(a::l)[i+1]'h=l[i]'(by simpa using h))/\(∀(a:α)(l:List α)(h:0<(a::l).length),(a::l)[0]'h=a)/\(∀(l:List α)(i:Nat)(v:α),l.toArray.setIfInBounds i v=(l.set i v).toArray)/\(∀(a:α)(l:List α)(n:Nat)(v:α),(a::l).set (n+1) v=a::l.set n v)/\(∀(a:α)(l:List α)(v:α),(a::l).set 0 v=v::l):=⟨fun _ _ _=>List.getElem_toArray _,fun _ _ _ _=>rfl,fun _ _ _=>rfl,fun _ _ _=>List.setIfInBounds_toArray _ _ _,fun _ _ _ _=>rfl,fun _ _ _=>rfl⟩
structure Q(w w':World):Prop where
 below:Below w.heap.size w w'
theorem Q.refl(w:World):Q w w:=⟨Below.refl _ _⟩
theorem Q.trans{a b c:World}(h:Q a b)(k:Q b c):Q a c:=⟨h.below.trans (k.below.mono h.below.size)⟩
theorem Q.alloc{a b:World}(h:Q a b)(c:Array Value)(t:TypeId):Q a (b.alloc (.cells c t)):=⟨h.below.alloc h.below.size _⟩
theorem Q.setCell{a b:World}(h:Q a b){p:Addr}(hp:a.heap.size<=p.block)(v:Value):Q a (b.setCell p v):=⟨h.below.setCell hp _⟩
theorem Q.drewN{a b:World}(h:Q a b)(n:Nat):Q a (b.drewN n):=⟨below_drewN h.below n⟩
theorem Q.drew{a b:World}(h:Q a b):Q a b.drew:=⟨h.below.drew⟩
theorem Aq{w w1:World}(h:Q w.drew w1):Q w w1:=⟨⟨h.below.os,h.below.tape,h.below.output,h.below.size,h.below.block⟩⟩
structure Rec where
 key:BA
 stamp:Int
 kind:Int
 body:BA
def Rec.val(r:Rec):Value:=.agg #[sT r.key,iT r.stamp,iT r.kind,sT r.body]
def Rec.fits(r:Rec):Bool:=decide (1<=r.key.size/\r.key.size<=64/\r.body.size<=4200/\0<=r.stamp/\r.stamp<=1099511627776/\0<=r.kind/\r.kind<=2)
def JI(w:World)(b off:Nat)(rs:List Rec):Prop:=∀(i:Nat)(r:Rec),rs[i]?=some r ->
 w.cell? (aD b (off+i*4))=some (sT r.key)/\w.cell? (aD b (off+i*4+1))=some (iT r.stamp) /\
 w.cell? (aD b (off+i*4+2))=some (iT r.kind)/\w.cell? (aD b (off+i*4+3))=some (sT r.body)
def common:List UInt8->List UInt8->Nat
 |a::l,b::m=>if a=b then common l m+1 else 0
 |_,_=>0
theorem Wh(a b:List UInt8):common a b<=a.length/\common a b<=b.length:=by
 induction a generalizing b with
 |nil=>simp[common]
 |cons x a ih =>
  cases b with
  |nil=>simp[common]
  |cons y b =>
   simp only[common];split
   .have:=ih b;simp;omega
   .simp
theorem Yl(a b:List UInt8)(k:Nat)(ha:k<=a.length)(hb:k<=b.length)(h:a.take k=b.take k):common a b=k+common (a.drop k) (b.drop k):=by
 induction k generalizing a b with
 |zero=>simp
 |succ k ih =>
  cases a with
  |nil=>simp at ha
  |cons x a =>
   cases b with
   |nil=>simp at hb
   |cons y b =>
    simp only[List.take_succ_cons,List.cons.injEq]at h;obtain⟨rfl,h⟩:=h;simp only[common,if_true,List.drop_succ_cons];rw[ih a b (by simpa using ha) (by simpa using hb) h];omega
theorem Qf{a b:List UInt8}(ha:k<=a.length)(hb:k<=b.length)(h:a.take k=b.take k)(hs:a.length=k\/b.length=k\/a[k]?≠b[k]?):common a b=k:=by
 rw[Yl a b k ha hb h];rcases hs with hs|hs|hs
 .rw[zLf (by omega)];simp[common]
 .rw[zLf (l:=b) (by omega)];cases a.drop k<;>simp[common]
 .cases hda:a.drop k with
  |nil=>simp[common]
  |cons x a' =>
   cases hdb:b.drop k with
   |nil=>simp[common]
   |cons y b' =>
    ((have e1:a[k]?=some x:=by have:=congrArg (fun l:List UInt8=>l[0]?) hda;simpa using this);have e2:b[k]?=some y:=by have:=congrArg (fun l:List UInt8=>l[0]?) hdb;simpa using this);have hne:¬x=y:=fun e=>hs (by rw[e1,e2,e]);simp[common,hne]
def Rec.less(p r:Rec):Bool:=Op.bytesLess p.key.toList r.key.toList
def Rec.same(p r:Rec):Bool:=p.key.toList==r.key.toList
def Rec.wrong(p r:Rec):Bool:=!(p.less r || p.same r) || (p.same r&&decide (p.stamp<=r.stamp))
def before(rs:List Rec)(k:Nat)(r:Rec):Rec:=rs.getD (k-1) r
def KN(rs:List Rec)(k:Nat)(r:Rec):Bool:=!r.fits || (decide (0<k)&&(before rs k r).wrong r)
def Av(rs:List Rec)(k:Nat)(r:Rec):Nat:=if 0<k%8 then common (before rs k r).key.data.toList r.key.data.toList else 0
theorem Ik(rs:List Rec)(k:Nat)(r:Rec):Av rs k r<=r.key.size:=by
 unfold Av;split
 .have:=(Wh (before rs k r).key.data.toList r.key.data.toList).2;simpa using this
 .omega
def entry(rs:List Rec)(k:Nat)(r:Rec):List UInt8:=
 M.enc 7 (Av rs k r)++M.enc 7 (r.key.size-Av rs k r)++r.key.data.toList.drop (Av rs k r)++M.enc 7 r.stamp.toNat++[UInt8.ofNat r.kind.toNat]++M.enc 7 r.body.size++r.body.data.toList
def BM(rs:List Rec):Nat->Option (List UInt8)
 |0=>some (M.enc 7 rs.length)
 |k+1 =>
  match BM rs k,rs[k]? with
  |some t,some r=>if KN rs k r then none else some (t++entry rs k r)
  |_,_=>none
theorem Ot{rs:List Rec}{t:List UInt8}{r:Rec}(h:BM rs k=some t)(hr:rs[k]?=some r)(hb:KN rs k r=false):BM rs (k+1)=some (t++entry rs k r):=by
 simp[BM,h,hr,hb]
theorem aN{rs:List Rec}{r:Rec}(hr:rs[k]?=some r)(hb:KN rs k r=true):BM rs (k+1)=none:=by
 simp only[BM,hr]
 cases BM rs k<;>simp[hb]
theorem Oq{rs:List Rec}{k:Nat}(h:BM rs k=none):∀j,BM rs (k+j)=none
 |0=>h
 |j+1=>by
  show BM rs (k+j+1)=none
  simp only[BM,Oq h j]
def Ad(rs:List Rec):Option (List UInt8):=if 64<rs.length then none else BM rs rs.length
theorem EP:∀(f n:Nat),(M.enc f n).length<=f+1
 |0,_=>by simp[M.enc]
 |f+1,n=>by
  simp only[M.enc];split
  .simp
  .have:=EP f (n/128);simp;omega
theorem WS(rs:List Rec)(k:Nat)(r:Rec)(h:r.fits=true):(entry rs k r).length<=5000:=by
 simp only[Rec.fits,zMF]at h;have h1:=EP 7 (Av rs k r);have h2:=EP 7 (r.key.size-Av rs k r);have h3:=EP 7 r.stamp.toNat;have h4:=EP 7 r.body.size;have h5:(r.key.data.toList.drop (Av rs k r)).length<=64:=by simp;omega
 have h6:r.body.data.toList.length<=4200:=by simpa using h.2.2.1
 simp only[entry,zLL,List.length_singleton];omega
theorem Ij{rs:List Rec}:∀{k:Nat}{t:List UInt8},BM rs k=some t->t.length<=8+5000*k
 |0,t,h=>by
  simp only[BM,zLO]at h;subst h;have:=EP 7 rs.length;omega
 |k+1,t,h=>by
  simp only[BM]at h
  cases ht:BM rs k with
  |none=>rw[ht]at h;simp at h
  |some t0 =>
   cases hr:rs[k]? with
   |none=>rw[ht,hr]at h;simp at h
   |some r =>
    rw[ht,hr]at h;simp only at h;split at h
    .simp at h
    .rename_i hb;simp only[zLO]at h;subst h;have h1:=Ij ht;have hf:r.fits=true:=by
      cases hff:r.fits with
      |true=>rfl
      |false=>simp[KN,hff]at hb
     have h2:=WS rs k r hf;simp only[zLL];omega
end
section
variable{T l:List UInt8}{a i k n:Nat}{bad:Bool}
def Sits(T:List UInt8)(a:Nat)(l:List UInt8):Prop:=∃p q,T=p++(l++q)/\a=p.length
theorem Bq{m:List UInt8}(h:Sits T a (l++m)):Sits T a l/\Sits T (a+l.length) m:=by
 obtain⟨p,q,rfl,rfl⟩:=h;exact⟨⟨p,m++q,by simp,rfl⟩,⟨p++l,q,by simp,by simp⟩⟩
theorem vU(h:Sits T a l):a+l.length<=T.length:=by
 obtain⟨p,q,rfl,rfl⟩:=h;simp
def Vi(T:List UInt8)(a:Nat)(bad:Bool):Nat×Nat×Bool:=
 match M.Cb T a with
 |some (v,nx)=>(v,nx,bad)
 |none=>(0,a,true)
def gY(T:List UInt8)(n a:Nat)(bad:Bool):List UInt8×Nat×Bool:=
 if bad=true\/T.length-a<n then([],a,true)else((T.drop a).take n,a+n,false)
theorem Hz(h:Sits T a (M.enc 7 n))(hn:n<72057594037927936)(bad:Bool):Vi T a bad=(n,a+(M.enc 7 n).length,bad):=by
 obtain⟨p,q,rfl,rfl⟩:=h;unfold Vi;rw[M.Gm p q n hn]
theorem Ma(h:Sits T a l):gY T l.length a false=(l,a+l.length,false):=by
 have hle:=vU h;obtain⟨p,q,rfl,rfl⟩:=h;unfold gY;rw[if_neg (by simp),List.drop_left,List.take_left]
def kindOf:List UInt8->Int
 |[]=>0
 |b::_=>(b.toNat:Int)
def O7(T last:List UInt8)(a:Nat)(bad:Bool):Option (Rec×Nat×Bool):=
 match Vi T a bad with
 |(k,a1,b1) =>
  if last.length<k then none
  else match Vi T a1 b1 with
  |(m,a2,b2)=>match gY T m a2 b2 with
  |(t,a3,b3)=>match Vi T a3 b3 with
  |(st,a4,b4)=>match gY T 1 a4 b4 with
  |(kd,a5,b5)=>match Vi T a5 b5 with
  |(z,a6,b6)=>match gY T z a6 b6 with
  |(bd,a7,b7)=>some (⟨⟨(last.take k++t).toArray⟩,(st:Int),kindOf kd,⟨bd.toArray⟩⟩,a7,b7)
def IE(rs:List Rec):Nat->List UInt8
 |0=>[]
 |k+1=>((rs[k]?).map fun p=>p.key.data.toList).getD []
theorem Yk(a b:List UInt8):a.take (common a b)=b.take (common a b):=by
 induction a generalizing b with
 |nil=>simp[common]
 |cons x a ih =>
  cases b with
  |nil=>simp[common]
  |cons y b =>
   simp only[common];split
   .rename_i e;subst e;simp[ih b]
   .simp
theorem O0{rs:List Rec}{r:Rec}(h:rs[k]?=some r):Av rs k r<=(IE rs k).length/\(IE rs k).take (Av rs k r)=r.key.data.toList.take (Av rs k r):=by
 unfold Av;split
 .match k,h with
  |0,_=>rename_i hk;simp at hk
  |k+1,h =>
   have hl:k<rs.length:=by
    have:=(zLI.1 h).1;omega
   have hb:before rs (k+1) r=rs[k]:=by
    unfold before;rw[zM7,List.getD_eq_getElem?_getD,zLH hl];rfl
   have hla:IE rs (k+1)=(rs[k]).key.data.toList:=by
    simp[IE,List.getElem?_eq_getElem hl]
   rw[hb,hla];exact⟨(Wh _ _).1,Yk _ _⟩
 .simp
theorem iO{r s:Rec}(h1:r.key=s.key)(h2:r.stamp=s.stamp)(h3:r.kind=s.kind)(h4:r.body=s.body):r=s:=by
 cases r;cases s;simp_all
theorem VS{rs:List Rec}{r:Rec}(hr:rs[k]?=some r)(hf:r.fits=true)(h:Sits T a (entry rs k r)):
  O7 T (IE rs k) a false=some (r,a+(entry rs k r).length,false):=by
 simp only[Rec.fits,zMF]at hf;obtain⟨_,hf2,hf3,hf4,hf5,hf6,hf7⟩:=hf;obtain⟨hs1,hs2⟩:=O0 hr;have hs3:=Ik rs k r;have hlen:(entry rs k r).length=(M.enc 7 (Av rs k r)).length+(M.enc 7 (r.key.size-Av rs k r)).length+(r.key.data.toList.drop (Av rs k r)).length+(M.enc 7 r.stamp.toNat).length+1+(M.enc 7 r.body.size).length+r.body.data.toList.length:=by
  simp[entry];omega
 rw[hlen];unfold entry at h;generalize Av rs k r=n at*;obtain⟨h,k7⟩:=Bq h;obtain⟨h,k6⟩:=Bq h;obtain⟨h,k5⟩:=Bq h;obtain⟨h,k4⟩:=Bq h;obtain⟨h,k3⟩:=Bq h;obtain⟨k1,k2⟩:=Bq h;simp only[zLL,zLQ,zLW,zLk]at k2 k3 k4 k5 k6 k7;have hd:(r.key.data.toList.drop n).length=r.key.size-n:=by simp
 have hb:r.body.data.toList.length=r.body.size:=by simp
 have e1:=Hz k1 (by omega) false;have e2:=Hz k2 (by omega) false;have e3:=Ma k3;have e4:=Hz k4 (by omega) false;have e5:=Ma k5;have e6:=Hz k6 (by omega) false;have e7:=Ma k7;rw[hd]at e3;rw[hb]at e7;simp only[zLQ,zLW,zLk]at e5;unfold O7;simp only[e1];rw[if_neg (by omega)];simp only[Nat.add_assoc]at e1 e2 e3 e4 e5 e6 e7⊢;simp only[e2];simp only[hd]at*;simp only[e3,e4,e5,e6,e7];have q1:(⟨((IE rs k).take n++r.key.data.toList.drop n).toArray⟩:BA)=r.key:=by
  rw[hs2,zLq]
 have q2:kindOf [UInt8.ofNat r.kind.toNat]=r.kind:=by
  simp only[kindOf,UInt8.toNat_ofNat'];omega
 simp only[zLO,Prod.mk.injEq,and_true];refine⟨iO q1 (by simp;omega) q2 rfl,by omega⟩
theorem D6{rs:List Rec}:∀{j:Nat}{u:List UInt8},BM rs j=some u->∀k,k<=j->∃t q,BM rs k=some t/\u=t++q
 |0,u,h,k,hk=>by
  obtain rfl:k=0:=by omega
  exact⟨u,[],h,by simp⟩
 |j+1,u,h,k,hk=>by
  by_cases hkj:k=j+1
  .subst hkj;exact⟨u,[],h,by simp⟩
  .cases ht:BM rs j with
   |none=>simp[BM,ht]at h
   |some t0 =>
    cases hr:rs[j]? with
    |none=>simp[BM,ht,hr]at h
    |some r =>
     simp only[BM,ht,hr]at h;split at h
     .simp at h
     .simp only[zLO]at h;subst h;obtain⟨t,q,h1,h2⟩:=D6 ht k (by omega);exact⟨t,q++entry rs j r,h1,by rw[h2];simp⟩
theorem Kh{rs:List Rec}{t u:List UInt8}{r:Rec}(h:BM rs k=some t)(hr:rs[k]?=some r)(hu:BM rs (k+1)=some u):u=t++entry rs k r/\r.fits=true:=by
 simp only[BM,h,hr]at hu;split at hu
 .simp at hu
 .rename_i hb;simp only[zLO]at hu;refine⟨hu.symm,?_⟩
  cases hf:r.fits with
  |true=>rfl
  |false=>simp[KN,hf]at hb
theorem CS{rs:List Rec}(h:Ad rs=some T):rs.length<=64/\BM rs rs.length=some T:=by
 unfold Ad at h;split at h
 .simp at h
 .exact⟨by omega,h⟩
def K7(T:List UInt8)(n i a:Nat)(bad:Bool)(last:List UInt8)(l:List Rec):Prop:=
 ∀rs,Ad rs=some T->n=rs.length/\i<=rs.length/\bad=false/\l=rs.take i/\last=IE rs i/\∃t q,BM rs i=some t/\T=t++q/\a=t.length
theorem L9(h:Vi T 0 false=(n,a,bad)):K7 T n 0 a bad [] []:=by
 intro rs hp;obtain⟨h64,ht⟩:=CS hp;obtain⟨t,q,h1,h2⟩:=D6 ht 0 (by omega);simp only[BM,zLO]at h1;have hs:Sits T 0 (M.enc 7 rs.length):=⟨[],q,by rw[h2,h1];simp,rfl⟩;rw[Hz hs (by omega) false]at h;simp only[Prod.mk.injEq,zLk]at h;obtain⟨e1,e2,e3⟩:=h;exact⟨e1.symm,by omega,e3.symm,by simp,rfl,t,q,by simp[BM,h1],h2,by rw[<-e2,h1]⟩
theorem Nn{last:List UInt8}{l:List Rec}(h:K7 T n i a bad last l)(hi:i<n)(rs:List Rec)(hp:Ad rs=some T):
  ∃r a',rs[i]?=some r/\O7 T last a bad=some (r,a',false)/\∃t q,BM rs (i+1)=some t/\T=t++q/\a'=t.length:=by
 obtain⟨hn,hle,hbad,hl,hlast,t,q,h1,h2,h3⟩:=h rs hp;obtain⟨h64,hT⟩:=CS hp;have hlt:i<rs.length:=by omega
 have hr:rs[i]?=some rs[i]:=zLH hlt;obtain⟨u,q',k1,k2⟩:=D6 hT (i+1) (by omega);obtain⟨e,hf⟩:=Kh h1 hr k1;have hs:Sits T a (entry rs i rs[i]):=⟨t,q',by rw[k2,e];simp,h3⟩;refine⟨rs[i],a+(entry rs i rs[i]).length,hr,?_,u,q',k1,k2,by rw[e,h3];simp⟩;rw[hlast,hbad];exact VS hr hf hs
theorem WM{a':Nat}{bad':Bool}{last:List UInt8}{l:List Rec}{r:Rec}(h:K7 T n i a bad last l)(hi:i<n)(hr:O7 T last a bad=some (r,a',bad')):
  K7 T n (i+1) a' bad' r.key.data.toList (l++[r]):=by
 intro rs hp;obtain⟨r',a'',k1,k2,t,q,k3,k4,k5⟩:=Nn h hi rs hp;rw[hr]at k2;simp only[zLO,Prod.mk.injEq]at k2;obtain⟨rfl,rfl,rfl⟩:=k2;obtain⟨hn,hle,hbad,hl,hlast,_⟩:=h rs hp;have hlt:=(zLI.1 k1).1;refine⟨hn,by omega,rfl,?_,by simp[IE,k1],t,q,k3,k4,k5⟩;rw[hl,List.take_succ_eq_append_getElem hlt];rw[zLH hlt]at k1;simp only[zLO]at k1;rw[k1]
theorem WL{last:List UInt8}{l:List Rec}(h:K7 T n i a bad last l)(hi:i<n)(hr:O7 T last a bad=none):∀rs,Ad rs≠some T:=by
 intro rs hp;obtain⟨r',a'',_,k2,_⟩:=Nn h hi rs hp;rw[hr]at k2;simp at k2
theorem QL{last:List UInt8}{l:List Rec}(h:K7 T n i a bad last l)(he:¬(i<n/\i<65/\bad=false))(rs:List Rec)(hp:Ad rs=some T):rs=l/\bad=false:=by
 obtain⟨hn,hle,hbad,hl,_⟩:=h rs hp;have h64:=(CS hp).1;have:i=rs.length:=by
  rcases zLn i n with hlt|hge
  .exact absurd ⟨hlt,by omega,hbad⟩ he
  .omega
 refine⟨?_,hbad⟩;rw[hl,this,zM0]
def readAll(T:List UInt8)(n:Nat):Nat->Nat->Nat->Bool->List UInt8->List Rec->Option (List Rec)
 |0,_,_,_,_,l=>some l
 |f+1,i,a,bad,last,l =>
  if i<n/\i<65/\bad=false then
   match O7 T last a bad with
   |none=>none
   |some (r,a',bad')=>readAll T n f (i+1) a' bad' r.key.data.toList (l++[r])
  else some l
theorem Ki{T:List UInt8}{n:Nat}(rs:List Rec)(hp:Ad rs=some T):∀(f i a:Nat)(bad:Bool)(last:List UInt8)(l:List Rec),65<=i+f->K7 T n i a bad last l->readAll T n f i a bad last l=some rs
 |0,i,a,bad,last,l,hf,h=>by
  have:=(QL h (by omega) rs hp).1;simp[readAll,this]
 |f+1,i,a,bad,last,l,hf,h=>by
  unfold readAll;split
  .rename_i hc
   cases hr:O7 T last a bad with
   |none=>exact absurd hp (WL h hc.1 hr rs)
   |some p =>
    obtain⟨r,a',bad'⟩:=p;exact Ki rs hp f (i+1) a' bad' _ _ (by omega) (WM h hc.1 hr)
  .rename_i hc;rw[(QL h hc rs hp).1]
theorem Le{rs us:List Rec}(h:Ad rs=some T)(k:Ad us=some T):rs=us:=by
 have hs:∃n a bad,Vi T 0 false=(n,a,bad):=⟨_,_,_,rfl⟩;obtain⟨n,a,bad,hn⟩:=hs;have h1:=Ki rs h 65 0 a bad [] [] (by omega) (L9 hn);have h2:=Ki us k 65 0 a bad [] [] (by omega) (L9 hn);rw[h1]at h2;exact Option.some.inj h2
end
section
open Go.RowKit
variable{B a k most n:Nat}{T l:List UInt8}{w w':World}
def CG(T:List UInt8)(most a:Nat):Nat×Nat:=
 match M.Cb T a with
 |some (v,nx)=>if most<v then(0,T.length)else(v,nx)
 |none=>(0,T.length)
def JD(T:List UInt8)(most a:Nat):Bool:=
 match M.Cb T a with
 |some (v,_)=>decide (most<v)
 |none=>true
def Ho(T:List UInt8)(n a:Nat):List UInt8×Nat:=
 if T.length-a<n then([],T.length)else((T.drop a).take n,a+n)
def Sb(T:List UInt8)(n a:Nat):Bool:=decide (T.length-a<n)
theorem Cg(h:Sits T a (M.enc 7 n))(hn:n<72057594037927936)(hm:n<=most):CG T most a=(n,a+(M.enc 7 n).length):=by
 obtain⟨p,q,rfl,rfl⟩:=h;unfold CG;rw[M.Gm p q n hn];simp only;rw[if_neg (by omega)]
theorem NH(h:Sits T a l):Ho T l.length a=(l,a+l.length):=by
 obtain⟨p,q,rfl,rfl⟩:=h;unfold Ho;rw[if_neg (by simp),List.drop_left,List.take_left]
theorem Io(h:Sits T a (M.enc 7 n))(hn:n<72057594037927936)(hm:n<=most):JD T most a=false:=by
 obtain⟨p,q,rfl,rfl⟩:=h;unfold JD;rw[M.Gm p q n hn];simp only;simp;omega
theorem Yq(h:Sits T a l):Sb T l.length a=false:=by
 obtain⟨p,q,rfl,rfl⟩:=h;unfold Sb;simp
theorem Cw(_h:a<=T.length):(CG T most a).2<=T.length/\(CG T most a).1<=most/\(CG T most a).1<72057594037927936:=by
 unfold CG
 cases hg:M.Cb T a with
 |none=>exact⟨zLK _,by simp,by simp⟩
 |some p =>
  obtain⟨v,nx⟩:=p;have:=M.Bu hg;simp only;split
  .exact⟨zLK _,by simp,by simp⟩
  .exact⟨this.2.2.1,by simp only;omega,this.1⟩
theorem Ob(h:a<=T.length):(Ho T n a).2<=T.length/\(Ho T n a).1.length<=n:=by
 unfold Ho;split
 .exact⟨zLK _,by simp⟩
 .exact⟨by simp only;omega,by simp;omega⟩
def Hy(T ahead:List UInt8)(a:Nat):Rec×Nat:=
 match CG T ahead.length a with
 |(k,a1)=>match CG T 64 a1 with
 |(m,a2)=>match Ho T m a2 with
 |(t,a3)=>match CG T 1099511627776 a3 with
 |(st,a4)=>match CG T 2 a4 with
 |(kd,a5)=>match CG T 4200 a5 with
 |(z,a6)=>match Ho T z a6 with
 |(bd,a7)=>(⟨⟨(ahead.take k++t).toArray⟩,(st:Int),(kd:Int),⟨bd.toArray⟩⟩,a7)
def Dh(rs:List Rec)(k:Nat):List UInt8:=if k%8=0 then[]else IE rs k
theorem VI{rs:List Rec}{r:Rec}(h:rs[k]?=some r):Av rs k r<=(Dh rs k).length/\(Dh rs k).take (Av rs k r)=r.key.data.toList.take (Av rs k r):=by
 unfold Dh;by_cases h8:k%8=0
 .have:Av rs k r=0:=by unfold Av;rw[if_neg (by omega)]
  rw[this];simp
 .rw[if_neg h8];exact O0 h
theorem Xi{rs:List Rec}{r:Rec}(hr:rs[k]?=some r)(hf:r.fits=true)(h:Sits T a (entry rs k r)):
  Hy T (Dh rs k) a=(r,a+(entry rs k r).length):=by
 simp only[Rec.fits,zMF]at hf;obtain⟨_,hf2,hf3,hf4,hf5,hf6,hf7⟩:=hf;obtain⟨hs1,hs2⟩:=VI hr;have hs3:=Ik rs k r;have hlen:(entry rs k r).length=(M.enc 7 (Av rs k r)).length+(M.enc 7 (r.key.size-Av rs k r)).length+(r.key.data.toList.drop (Av rs k r)).length+(M.enc 7 r.stamp.toNat).length+1+(M.enc 7 r.body.size).length+r.body.data.toList.length:=by
  simp[entry];omega
 rw[hlen];unfold entry at h;generalize Av rs k r=n at*;obtain⟨h,k7⟩:=Bq h;obtain⟨h,k6⟩:=Bq h;obtain⟨h,k5⟩:=Bq h;obtain⟨h,k4⟩:=Bq h;obtain⟨h,k3⟩:=Bq h;obtain⟨k1,k2⟩:=Bq h;have hkd:[UInt8.ofNat r.kind.toNat]=M.enc 7 r.kind.toNat:=(M.Jp 7 r.kind.toNat (by omega)).symm;have hk1:(M.enc 7 r.kind.toNat).length=1:=by rw[<-hkd];rfl
 rw[hkd]at k5 k6 k7;simp only[zLL,hk1]at k2 k3 k4 k5 k6 k7;have hd:(r.key.data.toList.drop n).length=r.key.size-n:=by simp
 have hb:r.body.data.toList.length=r.body.size:=by simp
 have e1:=Cg k1 (by omega) hs1;have e2:=Cg (most:=64) k2 (by omega) (by omega);have e3:=NH k3;have e4:=Cg (most:=1099511627776) k4 (by omega) (by omega);have e5:=Cg (most:=2) k5 (by omega) (by omega);have e6:=Cg (most:=4200) k6 (by omega) (by omega);have e7:=NH k7;rw[hd]at e3;rw[hb]at e7;rw[hk1]at e5;unfold Hy;simp only[e1];simp only[Nat.add_assoc]at e1 e2 e3 e4 e5 e6 e7⊢;simp only[e2];simp only[hd]at*;simp only[e3,e4,e5,e6,e7];have q1:(⟨((Dh rs k).take n++r.key.data.toList.drop n).toArray⟩:BA)=r.key:=by
  rw[hs2,zLq]
 simp only[Prod.mk.injEq];refine⟨iO q1 (by simp;omega) (by simp;omega) rfl,by omega⟩
def Kk(T:List UInt8)(a0:Nat):Nat->List Rec×Nat
 |0=>([],a0)
 |i+1=>((Kk T a0 i).1++[(Hy T (Dh (Kk T a0 i).1 i) (Kk T a0 i).2).1],(Hy T (Dh (Kk T a0 i).1 i) (Kk T a0 i).2).2)
def Dl(T:List UInt8):List Rec:=(Kk T (CG T 64 0).2 (CG T 64 0).1).1
theorem Il(T:List UInt8)(a0:Nat):∀i,(Kk T a0 i).1.length=i
 |0=>rfl
 |i+1=>by simp[Kk,Il T a0 i]
theorem Wx{rs:List Rec}{i:Nat}(hi:i<=rs.length):Dh (rs.take i) i=Dh rs i:=by
 unfold Dh;split
 .rfl
 .match i with
  |0=>rfl
  |i+1=>simp only[IE];rw[List.getElem?_take_of_lt (by omega)]
theorem Nf{T:List UInt8}{rs:List Rec}(hp:Ad rs=some T):∀i,i<=rs.length->∃t q,BM rs i=some t/\T=t++q/\Kk T (M.enc 7 rs.length).length i=(rs.take i,t.length)
 |0,_=>by
  obtain⟨h64,ht⟩:=CS hp;obtain⟨t,q,h1,h2⟩:=D6 ht 0 (by omega);refine⟨t,q,h1,h2,?_⟩;simp only[BM,zLO]at h1;subst h1;simp[Kk]
 |i+1,hi=>by
  obtain⟨t,q,h1,h2,h3⟩:=Nf hp i (by omega);obtain⟨h64,ht⟩:=CS hp;obtain⟨u,q',k1,k2⟩:=D6 ht (i+1) hi;have hr:rs[i]?=some rs[i]:=zLH (by omega);obtain⟨e1,hf⟩:=Kh h1 hr k1;have zAp:Sits T t.length (entry rs i rs[i]):=⟨t,q',by rw[k2,e1];simp,rfl⟩;refine⟨u,q',k1,k2,?_⟩;have hx:=Xi hr hf zAp;have hrow:rs.take (i+1)=rs.take i++[rs[i]]:=by rw[zLv,hr];rfl
  simp only[Kk,h3,Wx (show i<=rs.length by omega),hx];rw[hrow,e1,zLL]
theorem O8{rs:List Rec}(hp:Ad rs=some T):Dl T=rs:=by
 obtain⟨h64,ht⟩:=CS hp;obtain⟨t,q,h1,h2⟩:=D6 ht 0 (by omega);simp only[BM,zLO]at h1;have hs:Sits T 0 (M.enc 7 rs.length):=⟨[],q,by rw[h2,h1];simp,rfl⟩;unfold Dl;rw[Cg (most:=64) hs (by omega) h64,zLk];obtain⟨t,q,_,_,h3⟩:=Nf hp rs.length (zLK _);simp only[h3,zM0]
theorem oP{ahead:List UInt8}(h:a<=T.length):(Hy T ahead a).2<=T.length/\(Hy T ahead a).1.key.size<=ahead.length+64/\(Hy T ahead a).1.body.size<=4200/\0<=(Hy T ahead a).1.stamp/\(Hy T ahead a).1.stamp<72057594037927936/\0<=(Hy T ahead a).1.kind/\(Hy T ahead a).1.kind<72057594037927936:=by
 unfold Hy;have h1:=Cw (most:=ahead.length) h;generalize CG T ahead.length a=p1 at*;obtain⟨k,a1⟩:=p1;have h2:=Cw (most:=64) h1.1;simp only at*;generalize CG T 64 a1=p2 at*;obtain⟨m,a2⟩:=p2;have h3:=Ob (n:=m) h2.1;simp only at*;generalize Ho T m a2=p3 at*;obtain⟨t,a3⟩:=p3;have h4:=Cw (most:=1099511627776) h3.1;simp only at*;generalize CG T 1099511627776 a3=p4 at*;obtain⟨st,a4⟩:=p4;have h5:=Cw (most:=2) h4.1;simp only at*;generalize CG T 2 a4=p5 at*;obtain⟨kd,a5⟩:=p5;have h6:=Cw (most:=4200) h5.1;simp only at*;generalize CG T 4200 a5=p6 at*;obtain⟨z,a6⟩:=p6;have h7:=Ob (n:=z) h6.1;simp only at*;generalize Ho T z a6=p7 at*;obtain⟨bd,a7⟩:=p7;simp only at*;refine⟨h7.1,?_,?_,by omega,by omega,by omega,by omega⟩
 .simp only[ByteArray.size,zLm,zLL,zM6];omega
 .simp only[ByteArray.size,zLm];omega
theorem iY{T:List UInt8}{a0:Nat}(h0:a0<=T.length):∀i,(Kk T a0 i).2<=T.length/\∀(j:Nat)(r:Rec),(Kk T a0 i).1[j]?=some r->r.key.size<=64*(j+1)/\r.body.size<=4200/\0<=r.stamp/\r.stamp<72057594037927936/\0<=r.kind/\r.kind<72057594037927936
 |0=>⟨h0,fun j r h=>by simp[Kk]at h⟩
 |i+1=>by
  obtain⟨h1,h2⟩:=iY h0 i;have hl:=Il T a0 i;simp only[Kk];generalize Kk T a0 i=p at*;obtain⟨l,a⟩:=p;simp only at*;have hah:(Dh l i).length<=64*i:=by
   unfold Dh;split
   .simp
   .match i with
    |0=>simp[IE]
    |i+1 =>
     simp only[IE]
     cases hx:l[i]? with
     |none=>simp
     |some r=>have:=(h2 i r hx).1;simpa using this
  have hr:=oP (ahead:=Dh l i) h1;generalize Hy T (Dh l i) a=p at*;obtain⟨r,a'⟩:=p;simp only at*;refine⟨hr.1,fun j u hj=>?_⟩;rcases zLn j l.length with hlt|hge
  .rw[zMA hlt]at hj;exact h2 j u hj
  .rw[zMB hge]at hj;have hj0:j-l.length=0:=by
    have:=(zLI.1 hj).1;simp at this;omega
   (rw[hj0]at hj;simp at hj;subst hj;have:j=i:=by omega);subst this;exact⟨by omega,hr.2.2⟩
def Ca(w:World)(B:Nat)(vs:List Value):Prop:=B<w.heap.size/\∀i v,vs[i]?=some v->w.cell? (aD B i)=some v/\w.frozen? (aD B i)=false
theorem Ca.cell{w:World}{B:Nat}{vs:List Value}(h:Ca w B vs)(i:Nat){v:Value}(hv:vs[i]?=some v):w.cell? (aD B i)=some v:=(h.2 i v hv).1
theorem Ca.free{vs:List Value}(h:Ca w B vs)(i:Nat){v:Value}(hv:vs[i]?=some v):w.frozen? (aD B i)=false:=(h.2 i v hv).2
theorem Ca.kept{vs:List Value}(h:Ca w B vs)(q:Q w w'):Ca w' B vs:=
 ⟨zLJ h.1 q.below.size,fun i v hv=>⟨(q.below.cell (p:=(aD B i)) h.1).trans (h.2 i v hv).1,(q.below.frozen (p:=(aD B i)) h.1).trans (h.2 i v hv).2⟩⟩
theorem Ca.below{vs:List Value}(h:Ca w B vs)(hb:Below n w w')(hn:B<n):Ca w' B vs:=
 ⟨zLJ h.1 hb.size,fun i v hv=>⟨(hb.cell (p:=(aD B i)) hn).trans (h.2 i v hv).1,(hb.frozen (p:=(aD B i)) hn).trans (h.2 i v hv).2⟩⟩
theorem Ca.set{w:World}{B:Nat}{vs:List Value}(h:Ca w B vs)(i:Nat)(x:Value):Ca (w.setCell (aD B i) x) B (vs.set i x):=by
 refine⟨by simpa using h.1,fun j v hv=>?_⟩;by_cases hji:j=i
 .subst hji;have hl:j<vs.length:=by have:=(zLI.1 hv).1;simpa using this
  have hx:x=v:=by rw[List.getElem?_set_self hl]at hv;exact Option.some.inj hv
  subst hx;obtain⟨c,f⟩:=h.2 j _ (zLH hl);exact⟨zMJ _ _ _ c,by rw[zMK];exact f⟩
 .rw[List.getElem?_set_ne (Ne.symm hji)]at hv;obtain⟨c,f⟩:=h.2 j v hv;exact⟨by rw[zMH _ _ _ _ (by intro e;injection e;omega)];exact c,by rw[zMK];exact f⟩
theorem Ca.other{C:Nat}{vs:List Value}(h:Ca w B vs)(hne:B≠C)(i:Nat)(x:Value):Ca (w.setCell (aD C i) x) B vs:=
 ⟨by simpa using h.1,fun j v hv=>⟨by rw[zMH _ _ _ _ (by intro e;injection e;omega)];exact(h.2 j v hv).1,by rw[zMK];exact(h.2 j v hv).2⟩⟩
theorem AZ(w:World)(vs:List Value)(t:TypeId):Ca (w.alloc (.cells vs.toArray t)) w.heap.size vs:=
 ⟨by simp,fun i v hv=>⟨by simpa using hv,by simp⟩⟩
end
end Go.Proofs.YtekdenkllipehaaGreatDoor
