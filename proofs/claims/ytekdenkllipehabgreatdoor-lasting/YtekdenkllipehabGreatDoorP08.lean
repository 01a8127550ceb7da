import Derived.Test.YtekdenkllipehabGreatDoorP02
import Derived.WalkKit
import Derived.ProofKit
import Derived.WalkSmall
set_option maxRecDepth 100000
set_option maxHeartbeats 8000000
namespace Go.Proofs.YtekdenkllipehabGreatDoor
open Go.RowKit
variable {k:Nat}
abbrev zRb:=@World.cell?_setCell_other
abbrev zRc:=@World.cell?_of_block
abbrev zRd:=@World.cell?_setCell_same
abbrev zRe:=@World.frozen?_setCell
abbrev zRf:=@World.frozen?_of_block
abbrev zRg:=@World.size_alloc
theorem nrm {α:Type}:(∀ (l:List α) (i:Nat) (h:i<l.toArray.size),l.toArray[i]'h=l[i]'(by simpa using h))∧(∀ (a:α) (l:List α) (i:Nat) (h:i+1<(a::l).length),(a::l)[i+1]'h=l[i]'(by simpa using h))∧(∀ (a:α) (l:List α) (h:0<(a::l).length),(a::l)[0]'h=a)∧(∀ (l:List α) (i:Nat) (v:α),l.toArray.setIfInBounds i v=(l.set i v).toArray)∧(∀ (a:α) (l:List α) (n:Nat) (v:α),(a::l).set (n+1) v=a::l.set n v)∧(∀ (a:α) (l:List α) (v:α),(a::l).set 0 v=v::l):=⟨fun _ _ _=>List.getElem_toArray _,fun _ _ _ _=>rfl,fun _ _ _=>rfl,fun _ _ _=>List.setIfInBounds_toArray _ _ _,fun _ _ _ _=>rfl,fun _ _ _=>rfl⟩
structure Q (w w':World):Prop where
 below:Below w.heap.size w w'
theorem Q.refl (w:World):Q w w:=⟨Below.refl _ _⟩
theorem Q.trans {a b c:World} (h:Q a b) (k:Q b c):Q a c:=⟨h.below.trans (k.below.mono h.below.size)⟩
theorem Q.alloc {a b:World} (h:Q a b) (c:Array Value) (t:TypeId):Q a (b.alloc (.cells c t)):=⟨h.below.alloc h.below.size _⟩
theorem Q.setCell {a b:World} (h:Q a b) {p:Addr} (hp:a.heap.size≤p.block) (v:Value):Q a (b.setCell p v):=⟨h.below.setCell hp _⟩
theorem Q.drewN {a b:World} (h:Q a b) (n:Nat):Q a (b.drewN n):=⟨below_drewN h.below n⟩
theorem Q.drew {a b:World} (h:Q a b):Q a b.drew:=⟨h.below.drew⟩
theorem zS {w w1:World} (h:Q w.drew w1):Q w w1:=⟨⟨h.below.os,h.below.tape,h.below.output,h.below.size,h.below.block⟩⟩
structure Rec where
 key:ByteArray
 stamp:Int
 kind:Int
 body:ByteArray
def Rec.val (r:Rec):Value:=.agg #[.string r.key,.int .i64 r.stamp,.int .i64 r.kind,.string r.body]
def Rec.fits (r:Rec):Bool:=decide (1≤r.key.size∧r.key.size≤64∧r.body.size≤4200∧0≤r.stamp∧r.stamp≤1099511627776∧0≤r.kind∧r.kind≤2)
def zAr (w:World) (b off:Nat) (rs:List Rec):Prop:=∀ (i:Nat) (r:Rec),rs[i]?=some r →
 w.cell? ⟨b,off+i*4,none⟩=some (.string r.key)∧w.cell? ⟨b,off+i*4+1,none⟩=some (.int .i64 r.stamp) ∧
 w.cell? ⟨b,off+i*4+2,none⟩=some (.int .i64 r.kind)∧w.cell? ⟨b,off+i*4+3,none⟩=some (.string r.body)
def common:List UInt8→List UInt8→Nat
 | a::l,b::m=>if a=b then common l m+1 else 0
 | _,_=>0
theorem zHa (a b:List UInt8):common a b≤a.length∧common a b≤b.length:=by
 induction a generalizing b with
 | nil=>simp [common]
 | cons x a ih =>
  cases b with
  | nil=>simp [common]
  | cons y b =>
   simp only [common];split
   ·have:=ih b;simp;omega
   ·simp
theorem zIo (a b:List UInt8) (k:Nat) (ha:k≤a.length) (hb:k≤b.length) (h:a.take k=b.take k):common a b=k+common (a.drop k) (b.drop k):=by
 induction k generalizing a b with
 | zero=>simp
 | succ k ih =>
  cases a with
  | nil=>simp at ha
  | cons x a =>
   cases b with
   | nil=>simp at hb
   | cons y b =>
    simp only [List.take_succ_cons,List.cons.injEq] at h;obtain ⟨rfl,h⟩:=h;simp only [common,if_true,List.drop_succ_cons];rw [ih a b (by simpa using ha) (by simpa using hb) h];omega
theorem zEZ {a b:List UInt8} (ha:k≤a.length) (hb:k≤b.length) (h:a.take k=b.take k) (hs:a.length=k∨b.length=k∨a[k]?≠b[k]?):common a b=k:=by
 rw [zIo a b k ha hb h];rcases hs with hs|hs|hs
 ·rw [zR0 (by omega)];simp [common]
 ·rw [zR0 (l:=b) (by omega)];cases a.drop k<;>simp [common]
 ·cases hda:a.drop k with
  | nil=>simp [common]
  | cons x a' =>
   cases hdb:b.drop k with
   | nil=>simp [common]
   | cons y b' =>
    have e1:a[k]?=some x:=by have:=congrArg (fun l:List UInt8=>l[0]?) hda;simpa using this
    have e2:b[k]?=some y:=by have:=congrArg (fun l:List UInt8=>l[0]?) hdb;simpa using this
    have hne:¬x=y:=fun e=>hs (by rw [e1,e2,e]);simp [common,hne]
def Rec.less (p r:Rec):Bool:=Op.bytesLess p.key.toList r.key.toList
def Rec.same (p r:Rec):Bool:=p.key.toList == r.key.toList
def Rec.wrong (p r:Rec):Bool:=!(p.less r || p.same r) || (p.same r && decide (p.stamp≤r.stamp))
def before (rs:List Rec) (k:Nat) (r:Rec):Rec:=rs.getD (k-1) r
def zBc (rs:List Rec) (k:Nat) (r:Rec):Bool:=!r.fits || (decide (0<k) && (before rs k r).wrong r)
def zV (rs:List Rec) (k:Nat) (r:Rec):Nat:=if 0<k % 8 then common (before rs k r).key.data.toList r.key.data.toList else 0
theorem zAV (rs:List Rec) (k:Nat) (r:Rec):zV rs k r≤r.key.size:=by
 unfold zV;split
 ·have:=(zHa (before rs k r).key.data.toList r.key.data.toList).2;simpa using this
 ·omega
def entry (rs:List Rec) (k:Nat) (r:Rec):List UInt8:=
 M.enc 7 (zV rs k r)++M.enc 7 (r.key.size-zV rs k r)++r.key.data.toList.drop (zV rs k r)++M.enc 7 r.stamp.toNat++[UInt8.ofNat r.kind.toNat]++M.enc 7 r.body.size++r.body.data.toList
def zh (rs:List Rec):Nat→Option (List UInt8)
 | 0=>some (M.enc 7 rs.length)
 | k+1 =>
  match zh rs k,rs[k]? with
  | some t,some r=>if zBc rs k r then none else some (t++entry rs k r)
  | _,_=>none
theorem zDe {rs:List Rec} {t:List UInt8} {r:Rec} (h:zh rs k=some t) (hr:rs[k]?=some r) (hb:zBc rs k r=false):zh rs (k+1)=some (t++entry rs k r):=by
 simp [zh,h,hr,hb]
theorem zJz {rs:List Rec} {r:Rec} (hr:rs[k]?=some r) (hb:zBc rs k r=true):zh rs (k+1)=none:=by
 simp only [zh,hr]
 cases zh rs k<;>simp [hb]
theorem zDd {rs:List Rec} {k:Nat} (h:zh rs k=none):∀ j,zh rs (k+j)=none
 | 0=>h
 | j+1=>by
  show zh rs (k+j+1)=none
  simp only [zh,zDd h j]
def zK (rs:List Rec):Option (List UInt8):=if 64<rs.length then none else zh rs rs.length
theorem Z0:∀ (f n:Nat),(M.enc f n).length≤f+1
 | 0,_=>by simp [M.enc]
 | f+1,n=>by
  simp only [M.enc];split
  ·simp
  ·have:=Z0 f (n / 128);simp;omega
theorem zHO (rs:List Rec) (k:Nat) (r:Rec) (h:r.fits=true):(entry rs k r).length≤5000:=by
 simp only [Rec.fits,zRa] at h;have h1:=Z0 7 (zV rs k r);have h2:=Z0 7 (r.key.size-zV rs k r);have h3:=Z0 7 r.stamp.toNat;have h4:=Z0 7 r.body.size;have h5:(r.key.data.toList.drop (zV rs k r)).length≤64:=by simp;omega
 have h6:r.body.data.toList.length≤4200:=by simpa using h.2.2.1
 simp only [entry,zQg,List.length_singleton];omega
theorem zAU {rs:List Rec}:∀ {k:Nat} {t:List UInt8},zh rs k=some t→t.length≤8+5000*k
 | 0,t,h=>by
  simp only [zh,zQj] at h;subst h;have:=Z0 7 rs.length;omega
 | k+1,t,h=>by
  simp only [zh] at h
  cases ht:zh rs k with
  | none=>rw [ht] at h;simp at h
  | some t0 =>
   cases hr:rs[k]? with
   | none=>rw [ht,hr] at h;simp at h
   | some r =>
    rw [ht,hr] at h;simp only at h;split at h
    ·simp at h
    ·rename_i hb;simp only [zQj] at h;subst h;have h1:=zAU ht;have hf:r.fits=true:=by
      cases hff:r.fits with
      | true=>rfl
      | false=>simp [zBc,hff] at hb
     have h2:=zHO rs k r hf;simp only [zQg];omega
end Go.Proofs.YtekdenkllipehabGreatDoor
namespace Go.Proofs.YtekdenkllipehabGreatDoor
variable {T l:List UInt8} {a i k n:Nat} {bad:Bool}
def Sits (T:List UInt8) (a:Nat) (l:List UInt8):Prop:=∃ p q,T=p++(l++q)∧a=p.length
theorem yF {m:List UInt8} (h:Sits T a (l++m)):Sits T a l∧Sits T (a+l.length) m:=by
 obtain ⟨p,q,rfl,rfl⟩:=h;exact ⟨⟨p,m++q,by simp,rfl⟩,⟨p++l,q,by simp,by simp⟩⟩
theorem zOl (h:Sits T a l):a+l.length≤T.length:=by
 obtain ⟨p,q,rfl,rfl⟩:=h;simp
def zH3 (T:List UInt8) (a:Nat) (bad:Bool):Nat × Nat × Bool:=
 match M.ZX T a with
 | some (v,nx)=>(v,nx,bad)
 | none=>(0,a,true)
def zLO (T:List UInt8) (n a:Nat) (bad:Bool):List UInt8 × Nat × Bool:=
 if bad=true∨T.length-a<n then ([],a,true) else ((T.drop a).take n,a+n,false)
theorem zAJ (h:Sits T a (M.enc 7 n)) (hn:n<72057594037927936) (bad:Bool):zH3 T a bad=(n,a+(M.enc 7 n).length,bad):=by
 obtain ⟨p,q,rfl,rfl⟩:=h;unfold zH3;rw [M.Y7 p q n hn]
theorem zCa (h:Sits T a l):zLO T l.length a false=(l,a+l.length,false):=by
 have hle:=zOl h;obtain ⟨p,q,rfl,rfl⟩:=h;unfold zLO;rw [if_neg (by simp),List.drop_left,List.take_left]
def kindOf:List UInt8→Int
 | []=>0
 | b::_=>(b.toNat:Int)
def zDn (T last:List UInt8) (a:Nat) (bad:Bool):Option (Rec × Nat × Bool):=
 match zH3 T a bad with
 | (k,a1,b1) =>
  if last.length<k then none
  else match zH3 T a1 b1 with
  | (m,a2,b2)=>match zLO T m a2 b2 with
  | (t,a3,b3)=>match zH3 T a3 b3 with
  | (st,a4,b4)=>match zLO T 1 a4 b4 with
  | (kd,a5,b5)=>match zH3 T a5 b5 with
  | (z,a6,b6)=>match zLO T z a6 b6 with
  | (bd,a7,b7)=>some (⟨⟨(last.take k++t).toArray⟩,(st:Int),kindOf kd,⟨bd.toArray⟩⟩,a7,b7)
def zAM (rs:List Rec):Nat→List UInt8
 | 0=>[]
 | k+1=>((rs[k]?).map fun p=>p.key.data.toList).getD []
theorem zIn (a b:List UInt8):a.take (common a b)=b.take (common a b):=by
 induction a generalizing b with
 | nil=>simp [common]
 | cons x a ih =>
  cases b with
  | nil=>simp [common]
  | cons y b =>
   simp only [common];split
   ·rename_i e;subst e;simp [ih b]
   ·simp
theorem zDk {rs:List Rec} {r:Rec} (h:rs[k]?=some r):zV rs k r≤(zAM rs k).length∧(zAM rs k).take (zV rs k r)=r.key.data.toList.take (zV rs k r):=by
 unfold zV;split
 ·match k,h with
  | 0,_=>rename_i hk;simp at hk
  | k+1,h =>
   have hl:k<rs.length:=by
    have:=(zQd.1 h).1;omega
   have hb:before rs (k+1) r=rs[k]:=by
    unfold before;rw [zRS,List.getD_eq_getElem?_getD,zQc hl];rfl
   have hla:zAM rs (k+1)=(rs[k]).key.data.toList:=by
    simp [zAM,List.getElem?_eq_getElem hl]
   rw [hb,hla];exact ⟨(zHa _ _).1,zIn _ _⟩
 ·simp
theorem zLh {r s:Rec} (h1:r.key=s.key) (h2:r.stamp=s.stamp) (h3:r.kind=s.kind) (h4:r.body=s.body):r=s:=by
 cases r;cases s;simp_all
theorem zGs {rs:List Rec} {r:Rec} (hr:rs[k]?=some r) (hf:r.fits=true) (h:Sits T a (entry rs k r)) :
  zDn T (zAM rs k) a false=some (r,a+(entry rs k r).length,false):=by
 simp only [Rec.fits,zRa] at hf;obtain ⟨_,hf2,hf3,hf4,hf5,hf6,hf7⟩:=hf;obtain ⟨hs1,hs2⟩:=zDk hr;have hs3:=zAV rs k r;have hlen:(entry rs k r).length=(M.enc 7 (zV rs k r)).length+(M.enc 7 (r.key.size-zV rs k r)).length+(r.key.data.toList.drop (zV rs k r)).length+(M.enc 7 r.stamp.toNat).length+1+(M.enc 7 r.body.size).length+r.body.data.toList.length:=by
  simp [entry];omega
 rw [hlen];unfold entry at h;generalize zV rs k r=n at *;obtain ⟨h,k7⟩:=yF h;obtain ⟨h,k6⟩:=yF h;obtain ⟨h,k5⟩:=yF h;obtain ⟨h,k4⟩:=yF h;obtain ⟨h,k3⟩:=yF h;obtain ⟨k1,k2⟩:=yF h;simp only [zQg,zQl,zQr,zR5] at k2 k3 k4 k5 k6 k7;have hd:(r.key.data.toList.drop n).length=r.key.size-n:=by simp
 have hb:r.body.data.toList.length=r.body.size:=by simp
 have e1:=zAJ k1 (by omega) false;have e2:=zAJ k2 (by omega) false;have e3:=zCa k3;have e4:=zAJ k4 (by omega) false;have e5:=zCa k5;have e6:=zAJ k6 (by omega) false;have e7:=zCa k7;rw [hd] at e3;rw [hb] at e7;simp only [zQl,zQr,zR5] at e5;unfold zDn;simp only [e1];rw [if_neg (by omega)];simp only [Nat.add_assoc] at e1 e2 e3 e4 e5 e6 e7 ⊢;simp only [e2];simp only [hd] at *;simp only [e3,e4,e5,e6,e7];have q1:(⟨((zAM rs k).take n++r.key.data.toList.drop n).toArray⟩:ByteArray)=r.key:=by
  rw [hs2,zRB]
 have q2:kindOf [UInt8.ofNat r.kind.toNat]=r.kind:=by
  simp only [kindOf,UInt8.toNat_ofNat'];omega
 simp only [zQj,Prod.mk.injEq,and_true];refine ⟨zLh q1 (by simp;omega) q2 rfl,by omega⟩
theorem Zm {rs:List Rec}:∀ {j:Nat} {u:List UInt8},zh rs j=some u→∀ k,k≤j→∃ t q,zh rs k=some t∧u=t++q
 | 0,u,h,k,hk=>by
  obtain rfl:k=0:=by omega
  exact ⟨u,[],h,by simp⟩
 | j+1,u,h,k,hk=>by
  by_cases hkj:k=j+1
  ·subst hkj;exact ⟨u,[],h,by simp⟩
  ·cases ht:zh rs j with
   | none=>simp [zh,ht] at h
   | some t0 =>
    cases hr:rs[j]? with
    | none=>simp [zh,ht,hr] at h
    | some r =>
     simp only [zh,ht,hr] at h;split at h
     ·simp at h
     ·simp only [zQj] at h;subst h;obtain ⟨t,q,h1,h2⟩:=Zm ht k (by omega);exact ⟨t,q++entry rs j r,h1,by rw [h2];simp⟩
theorem zBr {rs:List Rec} {t u:List UInt8} {r:Rec} (h:zh rs k=some t) (hr:rs[k]?=some r) (hu:zh rs (k+1)=some u):u=t++entry rs k r∧r.fits=true:=by
 simp only [zh,h,hr] at hu;split at hu
 ·simp at hu
 ·rename_i hb;simp only [zQj] at hu;refine ⟨hu.symm,?_⟩
  cases hf:r.fits with
  | true=>rfl
  | false=>simp [zBc,hf] at hb
theorem yL {rs:List Rec} (h:zK rs=some T):rs.length≤64∧zh rs rs.length=some T:=by
 unfold zK at h;split at h
 ·simp at h
 ·exact ⟨by omega,h⟩
def zC6 (T:List UInt8) (n i a:Nat) (bad:Bool) (last:List UInt8) (l:List Rec):Prop:=
 ∀ rs,zK rs=some T→n=rs.length∧i≤rs.length∧bad=false∧l=rs.take i∧last=zAM rs i∧∃ t q,zh rs i=some t∧T=t++q∧a=t.length
theorem zCO (h:zH3 T 0 false=(n,a,bad)):zC6 T n 0 a bad [] []:=by
 intro rs hp;obtain ⟨h64,ht⟩:=yL hp;obtain ⟨t,q,h1,h2⟩:=Zm ht 0 (by omega);simp only [zh,zQj] at h1;have hs:Sits T 0 (M.enc 7 rs.length):=⟨[],q,by rw [h2,h1];simp,rfl⟩;rw [zAJ hs (by omega) false] at h;simp only [Prod.mk.injEq,zR5] at h;obtain ⟨e1,e2,e3⟩:=h;exact ⟨e1.symm,by omega,e3.symm,by simp,rfl,t,q,by simp [zh,h1],h2,by rw [←e2,h1]⟩
theorem zDA {last:List UInt8} {l:List Rec} (h:zC6 T n i a bad last l) (hi:i<n) (rs:List Rec) (hp:zK rs=some T) :
  ∃ r a',rs[i]?=some r∧zDn T last a bad=some (r,a',false)∧∃ t q,zh rs (i+1)=some t∧T=t++q∧a'=t.length:=by
 obtain ⟨hn,hle,hbad,hl,hlast,t,q,h1,h2,h3⟩:=h rs hp;obtain ⟨h64,hT⟩:=yL hp;have hlt:i<rs.length:=by omega
 have hr:rs[i]?=some rs[i]:=zQc hlt;obtain ⟨u,q',k1,k2⟩:=Zm hT (i+1) (by omega);obtain ⟨e,hf⟩:=zBr h1 hr k1;have hs:Sits T a (entry rs i rs[i]):=⟨t,q',by rw [k2,e];simp,h3⟩;refine ⟨rs[i],a+(entry rs i rs[i]).length,hr,?_,u,q',k1,k2,by rw [e,h3];simp⟩;rw [hlast,hbad];exact zGs hr hf hs
theorem zHL {a':Nat} {bad':Bool} {last:List UInt8} {l:List Rec} {r:Rec} (h:zC6 T n i a bad last l) (hi:i<n) (hr:zDn T last a bad=some (r,a',bad')) :
  zC6 T n (i+1) a' bad' r.key.data.toList (l++[r]):=by
 intro rs hp;obtain ⟨r',a'',k1,k2,t,q,k3,k4,k5⟩:=zDA h hi rs hp;rw [hr] at k2;simp only [zQj,Prod.mk.injEq] at k2;obtain ⟨rfl,rfl,rfl⟩:=k2;obtain ⟨hn,hle,hbad,hl,hlast,_⟩:=h rs hp;have hlt:=(zQd.1 k1).1;refine ⟨hn,by omega,rfl,?_,by simp [zAM,k1],t,q,k3,k4,k5⟩;rw [hl,List.take_succ_eq_append_getElem hlt];rw [zQc hlt] at k1;simp only [zQj] at k1;rw [k1]
theorem zHK {last:List UInt8} {l:List Rec} (h:zC6 T n i a bad last l) (hi:i<n) (hr:zDn T last a bad=none):∀ rs,zK rs≠some T:=by
 intro rs hp;obtain ⟨r',a'',_,k2,_⟩:=zDA h hi rs hp;rw [hr] at k2;simp at k2
theorem zEN {last:List UInt8} {l:List Rec} (h:zC6 T n i a bad last l) (he:¬(i<n∧i<65∧bad=false)) (rs:List Rec) (hp:zK rs=some T):rs=l∧bad=false:=by
 obtain ⟨hn,hle,hbad,hl,_⟩:=h rs hp;have h64:=(yL hp).1;have:i=rs.length:=by
  rcases zR8 i n with hlt|hge
  ·exact absurd ⟨hlt,by omega,hbad⟩ he
  ·omega
 refine ⟨?_,hbad⟩;rw [hl,this,zRL]
def readAll (T:List UInt8) (n:Nat):Nat→Nat→Nat→Bool→List UInt8→List Rec→Option (List Rec)
 | 0,_,_,_,_,l=>some l
 | f+1,i,a,bad,last,l =>
  if i<n∧i<65∧bad=false then
   match zDn T last a bad with
   | none=>none
   | some (r,a',bad')=>readAll T n f (i+1) a' bad' r.key.data.toList (l++[r])
  else some l
theorem zBt {T:List UInt8} {n:Nat} (rs:List Rec) (hp:zK rs=some T):∀ (f i a:Nat) (bad:Bool) (last:List UInt8) (l:List Rec),65≤i+f→zC6 T n i a bad last l→readAll T n f i a bad last l=some rs
 | 0,i,a,bad,last,l,hf,h=>by
  have:=(zEN h (by omega) rs hp).1;simp [readAll,this]
 | f+1,i,a,bad,last,l,hf,h=>by
  unfold readAll;split
  ·rename_i hc
   cases hr:zDn T last a bad with
   | none=>exact absurd hp (zHK h hc.1 hr rs)
   | some p =>
    obtain ⟨r,a',bad'⟩:=p;exact zBt rs hp f (i+1) a' bad' _ _ (by omega) (zHL h hc.1 hr)
  ·rename_i hc;rw [(zEN h hc rs hp).1]
theorem zCD {rs us:List Rec} (h:zK rs=some T) (k:zK us=some T):rs=us:=by
 have hs:∃ n a bad,zH3 T 0 false=(n,a,bad):=⟨_,_,_,rfl⟩;obtain ⟨n,a,bad,hn⟩:=hs;have h1:=zBt rs h 65 0 a bad [] [] (by omega) (zCO hn);have h2:=zBt us k 65 0 a bad [] [] (by omega) (zCO hn);rw [h1] at h2;exact Option.some.inj h2
end Go.Proofs.YtekdenkllipehabGreatDoor
namespace Go.Proofs.YtekdenkllipehabGreatDoor
open Go.RowKit
variable {B a k most n:Nat} {T l:List UInt8} {w w':World}
def yJ (T:List UInt8) (most a:Nat):Nat × Nat:=
 match M.ZX T a with
 | some (v,nx)=>if most<v then (0,T.length) else (v,nx)
 | none=>(0,T.length)
def zAn (T:List UInt8) (most a:Nat):Bool:=
 match M.ZX T a with
 | some (v,_)=>decide (most<v)
 | none=>true
def zAD (T:List UInt8) (n a:Nat):List UInt8 × Nat:=
 if T.length-a<n then ([],T.length) else ((T.drop a).take n,a+n)
def zFN (T:List UInt8) (n a:Nat):Bool:=decide (T.length-a<n)
theorem ZN (h:Sits T a (M.enc 7 n)) (hn:n<72057594037927936) (hm:n≤most):yJ T most a=(n,a+(M.enc 7 n).length):=by
 obtain ⟨p,q,rfl,rfl⟩:=h;unfold yJ;rw [M.Y7 p q n hn];simp only;rw [if_neg (by omega)]
theorem zCu (h:Sits T a l):zAD T l.length a=(l,a+l.length):=by
 obtain ⟨p,q,rfl,rfl⟩:=h;unfold zAD;rw [if_neg (by simp),List.drop_left,List.take_left]
theorem zAY (h:Sits T a (M.enc 7 n)) (hn:n<72057594037927936) (hm:n≤most):zAn T most a=false:=by
 obtain ⟨p,q,rfl,rfl⟩:=h;unfold zAn;rw [M.Y7 p q n hn];simp only;simp;omega
theorem zIs (h:Sits T a l):zFN T l.length a=false:=by
 obtain ⟨p,q,rfl,rfl⟩:=h;unfold zFN;simp
theorem ZE (_h:a≤T.length):(yJ T most a).2≤T.length∧(yJ T most a).1≤most∧(yJ T most a).1<72057594037927936:=by
 unfold yJ
 cases hg:M.ZX T a with
 | none=>exact ⟨zQf _,by simp,by simp⟩
 | some p =>
  obtain ⟨v,nx⟩:=p;have:=M.yH hg;simp only;split
  ·exact ⟨zQf _,by simp,by simp⟩
  ·exact ⟨this.2.2.1,by simp only;omega,this.1⟩
theorem zDV (h:a≤T.length):(zAD T n a).2≤T.length∧(zAD T n a).1.length≤n:=by
 unfold zAD;split
 ·exact ⟨zQf _,by simp⟩
 ·exact ⟨by simp only;omega,by simp;omega⟩
def zAH (T ahead:List UInt8) (a:Nat):Rec × Nat:=
 match yJ T ahead.length a with
 | (k,a1)=>match yJ T 64 a1 with
 | (m,a2)=>match zAD T m a2 with
 | (t,a3)=>match yJ T 1099511627776 a3 with
 | (st,a4)=>match yJ T 2 a4 with
 | (kd,a5)=>match yJ T 4200 a5 with
 | (z,a6)=>match zAD T z a6 with
 | (bd,a7)=>(⟨⟨(ahead.take k++t).toArray⟩,(st:Int),(kd:Int),⟨bd.toArray⟩⟩,a7)
def ZY (rs:List Rec) (k:Nat):List UInt8:=if k % 8=0 then [] else zAM rs k
theorem zGj {rs:List Rec} {r:Rec} (h:rs[k]?=some r):zV rs k r≤(ZY rs k).length∧(ZY rs k).take (zV rs k r)=r.key.data.toList.take (zV rs k r):=by
 unfold ZY;by_cases h8:k % 8=0
 ·have:zV rs k r=0:=by unfold zV;rw [if_neg (by omega)]
  rw [this];simp
 ·rw [if_neg h8];exact zDk h
theorem zI7 {rs:List Rec} {r:Rec} (hr:rs[k]?=some r) (hf:r.fits=true) (h:Sits T a (entry rs k r)) :
  zAH T (ZY rs k) a=(r,a+(entry rs k r).length):=by
 simp only [Rec.fits,zRa] at hf;obtain ⟨_,hf2,hf3,hf4,hf5,hf6,hf7⟩:=hf;obtain ⟨hs1,hs2⟩:=zGj hr;have hs3:=zAV rs k r;have hlen:(entry rs k r).length=(M.enc 7 (zV rs k r)).length+(M.enc 7 (r.key.size-zV rs k r)).length+(r.key.data.toList.drop (zV rs k r)).length+(M.enc 7 r.stamp.toNat).length+1+(M.enc 7 r.body.size).length+r.body.data.toList.length:=by
  simp [entry];omega
 rw [hlen];unfold entry at h;generalize zV rs k r=n at *;obtain ⟨h,k7⟩:=yF h;obtain ⟨h,k6⟩:=yF h;obtain ⟨h,k5⟩:=yF h;obtain ⟨h,k4⟩:=yF h;obtain ⟨h,k3⟩:=yF h;obtain ⟨k1,k2⟩:=yF h;have hkd:[UInt8.ofNat r.kind.toNat]=M.enc 7 r.kind.toNat:=(M.zBB 7 r.kind.toNat (by omega)).symm;have hk1:(M.enc 7 r.kind.toNat).length=1:=by rw [←hkd];rfl
 rw [hkd] at k5 k6 k7;simp only [zQg,hk1] at k2 k3 k4 k5 k6 k7;have hd:(r.key.data.toList.drop n).length=r.key.size-n:=by simp
 have hb:r.body.data.toList.length=r.body.size:=by simp
 have e1:=ZN k1 (by omega) hs1;have e2:=ZN (most:=64) k2 (by omega) (by omega);have e3:=zCu k3;have e4:=ZN (most:=1099511627776) k4 (by omega) (by omega);have e5:=ZN (most:=2) k5 (by omega) (by omega);have e6:=ZN (most:=4200) k6 (by omega) (by omega);have e7:=zCu k7;rw [hd] at e3;rw [hb] at e7;rw [hk1] at e5;unfold zAH;simp only [e1];simp only [Nat.add_assoc] at e1 e2 e3 e4 e5 e6 e7 ⊢;simp only [e2];simp only [hd] at *;simp only [e3,e4,e5,e6,e7];have q1:(⟨((ZY rs k).take n++r.key.data.toList.drop n).toArray⟩:ByteArray)=r.key:=by
  rw [hs2,zRB]
 simp only [Prod.mk.injEq];refine ⟨zLh q1 (by simp;omega) (by simp;omega) rfl,by omega⟩
def zBv (T:List UInt8) (a0:Nat):Nat→List Rec × Nat
 | 0=>([],a0)
 | i+1=>((zBv T a0 i).1++[(zAH T (ZY (zBv T a0 i).1 i) (zBv T a0 i).2).1],(zAH T (ZY (zBv T a0 i).1 i) (zBv T a0 i).2).2)
def Zb (T:List UInt8):List Rec:=(zBv T (yJ T 64 0).2 (yJ T 64 0).1).1
theorem zAW (T:List UInt8) (a0:Nat):∀ i,(zBv T a0 i).1.length=i
 | 0=>rfl
 | i+1=>by simp [zBv,zAW T a0 i]
theorem zHo {rs:List Rec} {i:Nat} (hi:i≤rs.length):ZY (rs.take i) i=ZY rs i:=by
 unfold ZY;split
 ·rfl
 ·match i with
  | 0=>rfl
  | i+1=>simp only [zAM];rw [List.getElem?_take_of_lt (by omega)]
theorem zD5 {T:List UInt8} {rs:List Rec} (hp:zK rs=some T):∀ i,i≤rs.length→∃ t q,zh rs i=some t∧T=t++q∧zBv T (M.enc 7 rs.length).length i=(rs.take i,t.length)
 | 0,_=>by
  obtain ⟨h64,ht⟩:=yL hp;obtain ⟨t,q,h1,h2⟩:=Zm ht 0 (by omega);refine ⟨t,q,h1,h2,?_⟩;simp only [zh,zQj] at h1;subst h1;simp [zBv]
 | i+1,hi=>by
  obtain ⟨t,q,h1,h2,h3⟩:=zD5 hp i (by omega);obtain ⟨h64,ht⟩:=yL hp;obtain ⟨u,q',k1,k2⟩:=Zm ht (i+1) hi;have hr:rs[i]?=some rs[i]:=zQc (by omega);obtain ⟨e1,hf⟩:=zBr h1 hr k1;have hsits:Sits T t.length (entry rs i rs[i]):=⟨t,q',by rw [k2,e1];simp,rfl⟩;refine ⟨u,q',k1,k2,?_⟩;have hx:=zI7 hr hf hsits;have hrow:rs.take (i+1)=rs.take i++[rs[i]]:=by rw [zRG,hr];rfl
  simp only [zBv,h3,zHo (show i≤rs.length by omega),hx];rw [hrow,e1,zQg]
theorem zDo {rs:List Rec} (hp:zK rs=some T):Zb T=rs:=by
 obtain ⟨h64,ht⟩:=yL hp;obtain ⟨t,q,h1,h2⟩:=Zm ht 0 (by omega);simp only [zh,zQj] at h1;have hs:Sits T 0 (M.enc 7 rs.length):=⟨[],q,by rw [h2,h1];simp,rfl⟩;unfold Zb;rw [ZN (most:=64) hs (by omega) h64,zR5];obtain ⟨t,q,_,_,h3⟩:=zD5 hp rs.length (zQf _);simp only [h3,zRL]
theorem zNE {ahead:List UInt8} (h:a≤T.length):(zAH T ahead a).2≤T.length∧(zAH T ahead a).1.key.size≤ahead.length+64∧(zAH T ahead a).1.body.size≤4200∧0≤(zAH T ahead a).1.stamp∧(zAH T ahead a).1.stamp<72057594037927936∧0≤(zAH T ahead a).1.kind∧(zAH T ahead a).1.kind<72057594037927936:=by
 unfold zAH;have h1:=ZE (most:=ahead.length) h;generalize yJ T ahead.length a=p1 at *;obtain ⟨k,a1⟩:=p1;have h2:=ZE (most:=64) h1.1;simp only at *;generalize yJ T 64 a1=p2 at *;obtain ⟨m,a2⟩:=p2;have h3:=zDV (n:=m) h2.1;simp only at *;generalize zAD T m a2=p3 at *;obtain ⟨t,a3⟩:=p3;have h4:=ZE (most:=1099511627776) h3.1;simp only at *;generalize yJ T 1099511627776 a3=p4 at *;obtain ⟨st,a4⟩:=p4;have h5:=ZE (most:=2) h4.1;simp only at *;generalize yJ T 2 a4=p5 at *;obtain ⟨kd,a5⟩:=p5;have h6:=ZE (most:=4200) h5.1;simp only at *;generalize yJ T 4200 a5=p6 at *;obtain ⟨z,a6⟩:=p6;have h7:=zDV (n:=z) h6.1;simp only at *;generalize zAD T z a6=p7 at *;obtain ⟨bd,a7⟩:=p7;simp only at *;refine ⟨h7.1,?_,?_,by omega,by omega,by omega,by omega⟩
 ·simp only [ByteArray.size,zR7,zQg,zRR];omega
 ·simp only [ByteArray.size,zR7];omega
theorem zLn {T:List UInt8} {a0:Nat} (h0:a0≤T.length):∀ i,(zBv T a0 i).2≤T.length∧∀ (j:Nat) (r:Rec),(zBv T a0 i).1[j]?=some r→r.key.size≤64*(j+1)∧r.body.size≤4200∧0≤r.stamp∧r.stamp<72057594037927936∧0≤r.kind∧r.kind<72057594037927936
 | 0=>⟨h0,fun j r h=>by simp [zBv] at h⟩
 | i+1=>by
  obtain ⟨h1,h2⟩:=zLn h0 i;have hl:=zAW T a0 i;simp only [zBv];generalize zBv T a0 i=p at *;obtain ⟨l,a⟩:=p;simp only at *;have hah:(ZY l i).length≤64*i:=by
   unfold ZY;split
   ·simp
   ·match i with
    | 0=>simp [zAM]
    | i+1 =>
     simp only [zAM]
     cases hx:l[i]? with
     | none=>simp
     | some r=>have:=(h2 i r hx).1;simpa using this
  have hr:=zNE (ahead:=ZY l i) h1;generalize zAH T (ZY l i) a=p at *;obtain ⟨r,a'⟩:=p;simp only at *;refine ⟨hr.1,fun j u hj=>?_⟩;rcases zR8 j l.length with hlt|hge
  ·rw [zRV hlt] at hj;exact h2 j u hj
  ·rw [zRW hge] at hj;have hj0:j-l.length=0:=by
    have:=(zQd.1 hj).1;simp at this;omega
   rw [hj0] at hj;simp at hj;subst hj;have:j=i:=by omega
   subst this;exact ⟨by omega,hr.2.2⟩
def yZ (w:World) (B:Nat) (vs:List Value):Prop:=B<w.heap.size∧∀ i v,vs[i]?=some v→w.cell? ⟨B,i,none⟩=some v∧w.frozen? ⟨B,i,none⟩=false
theorem yZ.cell {w:World} {B:Nat} {vs:List Value} (h:yZ w B vs) (i:Nat) {v:Value} (hv:vs[i]?=some v):w.cell? ⟨B,i,none⟩=some v:=(h.2 i v hv).1
theorem yZ.free {vs:List Value} (h:yZ w B vs) (i:Nat) {v:Value} (hv:vs[i]?=some v):w.frozen? ⟨B,i,none⟩=false:=(h.2 i v hv).2
theorem yZ.kept {vs:List Value} (h:yZ w B vs) (q:Q w w'):yZ w' B vs:=
 ⟨zQe h.1 q.below.size,fun i v hv=>⟨(q.below.cell (p:=⟨B,i,none⟩) h.1).trans (h.2 i v hv).1,(q.below.frozen (p:=⟨B,i,none⟩) h.1).trans (h.2 i v hv).2⟩⟩
theorem yZ.below {vs:List Value} (h:yZ w B vs) (hb:Below n w w') (hn:B<n):yZ w' B vs:=
 ⟨zQe h.1 hb.size,fun i v hv=>⟨(hb.cell (p:=⟨B,i,none⟩) hn).trans (h.2 i v hv).1,(hb.frozen (p:=⟨B,i,none⟩) hn).trans (h.2 i v hv).2⟩⟩
theorem yZ.set {w:World} {B:Nat} {vs:List Value} (h:yZ w B vs) (i:Nat) (x:Value):yZ (w.setCell ⟨B,i,none⟩ x) B (vs.set i x):=by
 refine ⟨by simpa using h.1,fun j v hv=>?_⟩;by_cases hji:j=i
 ·subst hji;have hl:j<vs.length:=by have:=(zQd.1 hv).1;simpa using this
  have hx:x=v:=by rw [List.getElem?_set_self hl] at hv;exact Option.some.inj hv
  subst hx;obtain ⟨c,f⟩:=h.2 j _ (zQc hl);exact ⟨zRd _ _ _ c,by rw [zRe];exact f⟩
 ·rw [List.getElem?_set_ne (Ne.symm hji)] at hv;obtain ⟨c,f⟩:=h.2 j v hv;exact ⟨by rw [zRb _ _ _ _ (by intro e;injection e;omega)];exact c,by rw [zRe];exact f⟩
theorem yZ.other {C:Nat} {vs:List Value} (h:yZ w B vs) (hne:B≠C) (i:Nat) (x:Value):yZ (w.setCell ⟨C,i,none⟩ x) B vs:=
 ⟨by simpa using h.1,fun j v hv=>⟨by rw [zRb _ _ _ _ (by intro e;injection e;omega)];exact (h.2 j v hv).1,by rw [zRe];exact (h.2 j v hv).2⟩⟩
theorem zI (w:World) (vs:List Value) (t:TypeId):yZ (w.alloc (.cells vs.toArray t)) w.heap.size vs:=
 ⟨by simp,fun i v hv=>⟨by simpa using hv,by simp⟩⟩
end Go.Proofs.YtekdenkllipehabGreatDoor
