import Derived.Test.YtekdenkllipehabGreatDoorK01
import Derived.WalkKit
import Derived.ProofKit
import Derived.WalkSmall
set_option maxRecDepth 100000
set_option maxHeartbeats 8000000
namespace Go.Proofs.YtekdenkllipehabGreatDoor
open Go.RowKit
theorem nrm {α:Type}:(∀ (l:List α) (i:Nat) (h:i<l.toArray.size),l.toArray[i]'h=l[i]'(by simpa using h))∧(∀ (a:α) (l:List α) (i:Nat) (h:i+1<(a::l).length),(a::l)[i+1]'h=l[i]'(by simpa using h))∧(∀ (a:α) (l:List α) (h:0<(a::l).length),(a::l)[0]'h=a)∧(∀ (l:List α) (i:Nat) (v:α),l.toArray.setIfInBounds i v=(l.set i v).toArray)∧(∀ (a:α) (l:List α) (n:Nat) (v:α),(a::l).set (n+1) v=a::l.set n v)∧(∀ (a:α) (l:List α) (v:α),(a::l).set 0 v=v::l):=⟨fun _ _ _=>List.getElem_toArray _,fun _ _ _ _=>rfl,fun _ _ _=>rfl,fun _ _ _=>List.setIfInBounds_toArray _ _ _,fun _ _ _ _=>rfl,fun _ _ _=>rfl⟩
structure Q (w w':World):Prop where
 below:Below w.heap.size w w'
theorem Q.refl (w:World):Q w w:=⟨Below.refl _ _⟩
theorem Q.trans {a b c:World} (h:Q a b) (k:Q b c):Q a c:=⟨h.below.trans (k.below.mono h.below.size)⟩
theorem Q.alloc {a b:World} (h:Q a b) (c:Array Value) (t:TypeId):Q a (b.alloc (.cells c t)):=⟨h.below.alloc h.below.size _⟩
theorem Q.setCell {a b:World} (h:Q a b) {p:Addr} (hp:a.heap.size≤p.block) (v:Value):Q a (b.setCell p v):=⟨h.below.setCell hp _⟩
theorem Q.drewN {a b:World} (h:Q a b) (n:Nat):Q a (b.drewN n):=⟨below_drewN h.below n⟩
theorem Q.drew {a b:World} (h:Q a b):Q a b.drew:=⟨h.below.drew⟩
theorem q_undrew {w w1:World} (h:Q w.drew w1):Q w w1:=⟨⟨h.below.os,h.below.tape,h.below.output,h.below.size,h.below.block⟩⟩
structure Rec where
 key:ByteArray
 stamp:Int
 kind:Int
 body:ByteArray
def Rec.val (r:Rec):Value:=.agg #[.string r.key,.int .i64 r.stamp,.int .i64 r.kind,.string r.body]
def Rec.fits (r:Rec):Bool:=decide (1≤r.key.size∧r.key.size≤64∧r.body.size≤4200∧0≤r.stamp∧r.stamp≤1099511627776∧0≤r.kind∧r.kind≤2)
def RecsAt (w:World) (b off:Nat) (rs:List Rec):Prop:=∀ (i:Nat) (r:Rec),rs[i]?=some r →
 w.cell? ⟨b,off+i*4,none⟩=some (.string r.key)∧w.cell? ⟨b,off+i*4+1,none⟩=some (.int .i64 r.stamp) ∧
 w.cell? ⟨b,off+i*4+2,none⟩=some (.int .i64 r.kind)∧w.cell? ⟨b,off+i*4+3,none⟩=some (.string r.body)
def common:List UInt8→List UInt8→Nat
 | a::l,b::m=>if a=b then common l m+1 else 0
 | _,_=>0
theorem common_le (a b:List UInt8):common a b≤a.length∧common a b≤b.length:=by
 induction a generalizing b with
 | nil=>simp [common]
 | cons x a ih =>
  cases b with
  | nil=>simp [common]
  | cons y b =>
   simp only [common]
   split
   ·have:=ih b;simp;omega
   ·simp
theorem common_drop (a b:List UInt8) (k:Nat) (ha:k≤a.length) (hb:k≤b.length) (h:a.take k=b.take k):common a b=k+common (a.drop k) (b.drop k):=by
 induction k generalizing a b with
 | zero=>simp
 | succ k ih =>
  cases a with
  | nil=>simp at ha
  | cons x a =>
   cases b with
   | nil=>simp at hb
   | cons y b =>
    simp only [List.take_succ_cons,List.cons.injEq] at h
    obtain ⟨rfl,h⟩:=h
    simp only [common,if_true,List.drop_succ_cons]
    rw [ih a b (by simpa using ha) (by simpa using hb) h]
    omega
theorem common_stop {a b:List UInt8} {k:Nat} (ha:k≤a.length) (hb:k≤b.length) (h:a.take k=b.take k) (hs:a.length=k∨b.length=k∨a[k]?≠b[k]?):common a b=k:=by
 rw [common_drop a b k ha hb h]
 rcases hs with hs|hs|hs
 ·rw [List.drop_of_length_le (by omega)];simp [common]
 ·rw [List.drop_of_length_le (l:=b) (by omega)];cases a.drop k<;>simp [common]
 ·cases hda:a.drop k with
  | nil=>simp [common]
  | cons x a' =>
   cases hdb:b.drop k with
   | nil=>simp [common]
   | cons y b' =>
    have e1:a[k]?=some x:=by have:=congrArg (fun l:List UInt8=>l[0]?) hda;simpa using this
    have e2:b[k]?=some y:=by have:=congrArg (fun l:List UInt8=>l[0]?) hdb;simpa using this
    have hne:¬x=y:=fun e=>hs (by rw [e1,e2,e])
    simp [common,hne]
def Rec.less (p r:Rec):Bool:=Op.bytesLess p.key.toList r.key.toList
def Rec.same (p r:Rec):Bool:=p.key.toList == r.key.toList
def Rec.wrong (p r:Rec):Bool:=!(p.less r || p.same r) || (p.same r && decide (p.stamp≤r.stamp))
def before (rs:List Rec) (k:Nat) (r:Rec):Rec:=rs.getD (k-1) r
def badAt (rs:List Rec) (k:Nat) (r:Rec):Bool:=!r.fits || (decide (0<k) && (before rs k r).wrong r)
def sharedAt (rs:List Rec) (k:Nat) (r:Rec):Nat:=if 0<k % 8 then common (before rs k r).key.data.toList r.key.data.toList else 0
theorem sharedAt_le (rs:List Rec) (k:Nat) (r:Rec):sharedAt rs k r≤r.key.size:=by
 unfold sharedAt
 split
 ·have:=(common_le (before rs k r).key.data.toList r.key.data.toList).2
  simpa using this
 ·omega
def entry (rs:List Rec) (k:Nat) (r:Rec):List UInt8:=
 M.enc 7 (sharedAt rs k r)++M.enc 7 (r.key.size-sharedAt rs k r)++r.key.data.toList.drop (sharedAt rs k r)++M.enc 7 r.stamp.toNat++[UInt8.ofNat r.kind.toNat]++M.enc 7 r.body.size++r.body.data.toList
def textTo (rs:List Rec):Nat→Option (List UInt8)
 | 0=>some (M.enc 7 rs.length)
 | k+1 =>
  match textTo rs k,rs[k]? with
  | some t,some r=>if badAt rs k r then none else some (t++entry rs k r)
  | _,_=>none
theorem textTo_good {rs:List Rec} {k:Nat} {t:List UInt8} {r:Rec} (h:textTo rs k=some t) (hr:rs[k]?=some r) (hb:badAt rs k r=false):textTo rs (k+1)=some (t++entry rs k r):=by
 simp [textTo,h,hr,hb]
theorem textTo_bad {rs:List Rec} {k:Nat} {r:Rec} (hr:rs[k]?=some r) (hb:badAt rs k r=true):textTo rs (k+1)=none:=by
 simp only [textTo,hr]
 cases textTo rs k<;>simp [hb]
theorem textTo_none {rs:List Rec} {k:Nat} (h:textTo rs k=none):∀ j,textTo rs (k+j)=none
 | 0=>h
 | j+1=>by
  show textTo rs (k+j+1)=none
  simp only [textTo,textTo_none h j]
def plainText (rs:List Rec):Option (List UInt8):=if 64<rs.length then none else textTo rs rs.length
theorem enc_length:∀ (f n:Nat),(M.enc f n).length≤f+1
 | 0,_=>by simp [M.enc]
 | f+1,n=>by
  simp only [M.enc]
  split
  ·simp
  ·have:=enc_length f (n / 128);simp;omega
theorem entry_length (rs:List Rec) (k:Nat) (r:Rec) (h:r.fits=true):(entry rs k r).length≤5000:=by
 simp only [Rec.fits,decide_eq_true_eq] at h
 have h1:=enc_length 7 (sharedAt rs k r)
 have h2:=enc_length 7 (r.key.size-sharedAt rs k r)
 have h3:=enc_length 7 r.stamp.toNat
 have h4:=enc_length 7 r.body.size
 have h5:(r.key.data.toList.drop (sharedAt rs k r)).length≤64:=by simp;omega
 have h6:r.body.data.toList.length≤4200:=by simpa using h.2.2.1
 simp only [entry,List.length_append,List.length_singleton]
 omega
theorem textTo_length {rs:List Rec}:∀ {k:Nat} {t:List UInt8},textTo rs k=some t→t.length≤8+5000*k
 | 0,t,h=>by
  simp only [textTo,Option.some.injEq] at h
  subst h
  have:=enc_length 7 rs.length
  omega
 | k+1,t,h=>by
  simp only [textTo] at h
  cases ht:textTo rs k with
  | none=>rw [ht] at h;simp at h
  | some t0 =>
   cases hr:rs[k]? with
   | none=>rw [ht,hr] at h;simp at h
   | some r =>
    rw [ht,hr] at h
    simp only at h
    split at h
    ·simp at h
    ·rename_i hb
     simp only [Option.some.injEq] at h
     subst h
     have h1:=textTo_length ht
     have hf:r.fits=true:=by
      cases hff:r.fits with
      | true=>rfl
      | false=>simp [badAt,hff] at hb
     have h2:=entry_length rs k r hf
     simp only [List.length_append];omega
end Go.Proofs.YtekdenkllipehabGreatDoor
namespace Go.Proofs.YtekdenkllipehabGreatDoor
def Sits (T:List UInt8) (a:Nat) (l:List UInt8):Prop:=∃ p q,T=p++(l++q)∧a=p.length
theorem sits_append {T:List UInt8} {a:Nat} {l m:List UInt8} (h:Sits T a (l++m)):Sits T a l∧Sits T (a+l.length) m:=by
 obtain ⟨p,q,rfl,rfl⟩:=h
 exact ⟨⟨p,m++q,by simp,rfl⟩,⟨p++l,q,by simp,by simp⟩⟩
theorem sits_le {T:List UInt8} {a:Nat} {l:List UInt8} (h:Sits T a l):a+l.length≤T.length:=by
 obtain ⟨p,q,rfl,rfl⟩:=h
 simp
def numAt (T:List UInt8) (a:Nat) (bad:Bool):Nat × Nat × Bool:=
 match M.getAt T a with
 | some (v,nx)=>(v,nx,bad)
 | none=>(0,a,true)
def txtAt (T:List UInt8) (n a:Nat) (bad:Bool):List UInt8 × Nat × Bool:=
 if bad=true∨T.length-a<n then ([],a,true) else ((T.drop a).take n,a+n,false)
theorem numAt_sits {T:List UInt8} {a n:Nat} (h:Sits T a (M.enc 7 n)) (hn:n<72057594037927936) (bad:Bool):numAt T a bad=(n,a+(M.enc 7 n).length,bad):=by
 obtain ⟨p,q,rfl,rfl⟩:=h
 unfold numAt
 rw [M.getAt_enc p q n hn]
theorem txtAt_sits {T:List UInt8} {a:Nat} {l:List UInt8} (h:Sits T a l):txtAt T l.length a false=(l,a+l.length,false):=by
 have hle:=sits_le h
 obtain ⟨p,q,rfl,rfl⟩:=h
 unfold txtAt
 rw [if_neg (by simp),List.drop_left,List.take_left]
def kindOf:List UInt8→Int
 | []=>0
 | b::_=>(b.toNat:Int)
def readAt (T last:List UInt8) (a:Nat) (bad:Bool):Option (Rec × Nat × Bool):=
 match numAt T a bad with
 | (k,a1,b1) =>
  if last.length<k then none
  else match numAt T a1 b1 with
  | (m,a2,b2)=>match txtAt T m a2 b2 with
  | (t,a3,b3)=>match numAt T a3 b3 with
  | (st,a4,b4)=>match txtAt T 1 a4 b4 with
  | (kd,a5,b5)=>match numAt T a5 b5 with
  | (z,a6,b6)=>match txtAt T z a6 b6 with
  | (bd,a7,b7)=>some (⟨⟨(last.take k++t).toArray⟩,(st:Int),kindOf kd,⟨bd.toArray⟩⟩,a7,b7)
def lastAt (rs:List Rec):Nat→List UInt8
 | 0=>[]
 | k+1=>((rs[k]?).map fun p=>p.key.data.toList).getD []
theorem common_take (a b:List UInt8):a.take (common a b)=b.take (common a b):=by
 induction a generalizing b with
 | nil=>simp [common]
 | cons x a ih =>
  cases b with
  | nil=>simp [common]
  | cons y b =>
   simp only [common]
   split
   ·rename_i e;subst e;simp [ih b]
   ·simp
theorem shared_last {rs:List Rec} {k:Nat} {r:Rec} (h:rs[k]?=some r):sharedAt rs k r≤(lastAt rs k).length∧(lastAt rs k).take (sharedAt rs k r)=r.key.data.toList.take (sharedAt rs k r):=by
 unfold sharedAt
 split
 ·match k,h with
  | 0,_=>rename_i hk;simp at hk
  | k+1,h =>
   have hl:k<rs.length:=by
    have:=(List.getElem?_eq_some_iff.1 h).1;omega
   have hb:before rs (k+1) r=rs[k]:=by
    unfold before
    rw [Nat.add_sub_cancel,List.getD_eq_getElem?_getD,List.getElem?_eq_getElem hl];rfl
   have hla:lastAt rs (k+1)=(rs[k]).key.data.toList:=by
    simp [lastAt,List.getElem?_eq_getElem hl]
   rw [hb,hla]
   exact ⟨(common_le _ _).1,common_take _ _⟩
 ·simp
theorem rec_ext {r s:Rec} (h1:r.key=s.key) (h2:r.stamp=s.stamp) (h3:r.kind=s.kind) (h4:r.body=s.body):r=s:=by
 cases r;cases s;simp_all
theorem readAt_entry {T:List UInt8} {a k:Nat} {rs:List Rec} {r:Rec} (hr:rs[k]?=some r) (hf:r.fits=true) (h:Sits T a (entry rs k r)) :
  readAt T (lastAt rs k) a false=some (r,a+(entry rs k r).length,false):=by
 simp only [Rec.fits,decide_eq_true_eq] at hf
 obtain ⟨_,hf2,hf3,hf4,hf5,hf6,hf7⟩:=hf
 obtain ⟨hs1,hs2⟩:=shared_last hr
 have hs3:=sharedAt_le rs k r
 have hlen:(entry rs k r).length=(M.enc 7 (sharedAt rs k r)).length+(M.enc 7 (r.key.size-sharedAt rs k r)).length+(r.key.data.toList.drop (sharedAt rs k r)).length+(M.enc 7 r.stamp.toNat).length+1+(M.enc 7 r.body.size).length+r.body.data.toList.length:=by
  simp [entry];omega
 rw [hlen]
 unfold entry at h
 generalize sharedAt rs k r=n at *
 obtain ⟨h,k7⟩:=sits_append h
 obtain ⟨h,k6⟩:=sits_append h
 obtain ⟨h,k5⟩:=sits_append h
 obtain ⟨h,k4⟩:=sits_append h
 obtain ⟨h,k3⟩:=sits_append h
 obtain ⟨k1,k2⟩:=sits_append h
 simp only [List.length_append,List.length_cons,List.length_nil,Nat.zero_add] at k2 k3 k4 k5 k6 k7
 have hd:(r.key.data.toList.drop n).length=r.key.size-n:=by simp
 have hb:r.body.data.toList.length=r.body.size:=by simp
 have e1:=numAt_sits k1 (by omega) false
 have e2:=numAt_sits k2 (by omega) false
 have e3:=txtAt_sits k3
 have e4:=numAt_sits k4 (by omega) false
 have e5:=txtAt_sits k5
 have e6:=numAt_sits k6 (by omega) false
 have e7:=txtAt_sits k7
 rw [hd] at e3
 rw [hb] at e7
 simp only [List.length_cons,List.length_nil,Nat.zero_add] at e5
 unfold readAt
 simp only [e1]
 rw [if_neg (by omega)]
 simp only [Nat.add_assoc] at e1 e2 e3 e4 e5 e6 e7 ⊢
 simp only [e2]
 simp only [hd] at *
 simp only [e3,e4,e5,e6,e7]
 have q1:(⟨((lastAt rs k).take n++r.key.data.toList.drop n).toArray⟩:ByteArray)=r.key:=by
  rw [hs2,List.take_append_drop]
 have q2:kindOf [UInt8.ofNat r.kind.toNat]=r.kind:=by
  simp only [kindOf,UInt8.toNat_ofNat'];omega
 simp only [Option.some.injEq,Prod.mk.injEq,and_true]
 refine ⟨rec_ext q1 (by simp;omega) q2 rfl,by omega⟩
theorem textTo_head {rs:List Rec}:∀ {j:Nat} {u:List UInt8},textTo rs j=some u→∀ k,k≤j→∃ t q,textTo rs k=some t∧u=t++q
 | 0,u,h,k,hk=>by
  obtain rfl:k=0:=by omega
  exact ⟨u,[],h,by simp⟩
 | j+1,u,h,k,hk=>by
  by_cases hkj:k=j+1
  ·subst hkj;exact ⟨u,[],h,by simp⟩
  ·cases ht:textTo rs j with
   | none=>simp [textTo,ht] at h
   | some t0 =>
    cases hr:rs[j]? with
    | none=>simp [textTo,ht,hr] at h
    | some r =>
     simp only [textTo,ht,hr] at h
     split at h
     ·simp at h
     ·simp only [Option.some.injEq] at h
      subst h
      obtain ⟨t,q,h1,h2⟩:=textTo_head ht k (by omega)
      exact ⟨t,q++entry rs j r,h1,by rw [h2];simp⟩
theorem textTo_step {rs:List Rec} {k:Nat} {t u:List UInt8} {r:Rec} (h:textTo rs k=some t) (hr:rs[k]?=some r) (hu:textTo rs (k+1)=some u):u=t++entry rs k r∧r.fits=true:=by
 simp only [textTo,h,hr] at hu
 split at hu
 ·simp at hu
 ·rename_i hb
  simp only [Option.some.injEq] at hu
  refine ⟨hu.symm,?_⟩
  cases hf:r.fits with
  | true=>rfl
  | false=>simp [badAt,hf] at hb
theorem plainText_some {rs:List Rec} {T:List UInt8} (h:plainText rs=some T):rs.length≤64∧textTo rs rs.length=some T:=by
 unfold plainText at h
 split at h
 ·simp at h
 ·exact ⟨by omega,h⟩
def Follows (T:List UInt8) (n i a:Nat) (bad:Bool) (last:List UInt8) (l:List Rec):Prop:=
 ∀ rs,plainText rs=some T→n=rs.length∧i≤rs.length∧bad=false∧l=rs.take i∧last=lastAt rs i∧∃ t q,textTo rs i=some t∧T=t++q∧a=t.length
theorem follows_start {T:List UInt8} {n a:Nat} {bad:Bool} (h:numAt T 0 false=(n,a,bad)):Follows T n 0 a bad [] []:=by
 intro rs hp
 obtain ⟨h64,ht⟩:=plainText_some hp
 obtain ⟨t,q,h1,h2⟩:=textTo_head ht 0 (by omega)
 simp only [textTo,Option.some.injEq] at h1
 have hs:Sits T 0 (M.enc 7 rs.length):=⟨[],q,by rw [h2,h1];simp,rfl⟩
 rw [numAt_sits hs (by omega) false] at h
 simp only [Prod.mk.injEq,Nat.zero_add] at h
 obtain ⟨e1,e2,e3⟩:=h
 exact ⟨e1.symm,by omega,e3.symm,by simp,rfl,t,q,by simp [textTo,h1],h2,by rw [←e2,h1]⟩
theorem follows_read {T:List UInt8} {n i a:Nat} {bad:Bool} {last:List UInt8} {l:List Rec} (h:Follows T n i a bad last l) (hi:i<n) (rs:List Rec) (hp:plainText rs=some T) :
  ∃ r a',rs[i]?=some r∧readAt T last a bad=some (r,a',false)∧∃ t q,textTo rs (i+1)=some t∧T=t++q∧a'=t.length:=by
 obtain ⟨hn,hle,hbad,hl,hlast,t,q,h1,h2,h3⟩:=h rs hp
 obtain ⟨h64,hT⟩:=plainText_some hp
 have hlt:i<rs.length:=by omega
 have hr:rs[i]?=some rs[i]:=List.getElem?_eq_getElem hlt
 obtain ⟨u,q',k1,k2⟩:=textTo_head hT (i+1) (by omega)
 obtain ⟨e,hf⟩:=textTo_step h1 hr k1
 have hs:Sits T a (entry rs i rs[i]):=⟨t,q',by rw [k2,e];simp,h3⟩
 refine ⟨rs[i],a+(entry rs i rs[i]).length,hr,?_,u,q',k1,k2,by rw [e,h3];simp⟩
 rw [hlast,hbad]
 exact readAt_entry hr hf hs
theorem follows_next {T:List UInt8} {n i a a':Nat} {bad bad':Bool} {last:List UInt8} {l:List Rec} {r:Rec} (h:Follows T n i a bad last l) (hi:i<n) (hr:readAt T last a bad=some (r,a',bad')) :
  Follows T n (i+1) a' bad' r.key.data.toList (l++[r]):=by
 intro rs hp
 obtain ⟨r',a'',k1,k2,t,q,k3,k4,k5⟩:=follows_read h hi rs hp
 rw [hr] at k2
 simp only [Option.some.injEq,Prod.mk.injEq] at k2
 obtain ⟨rfl,rfl,rfl⟩:=k2
 obtain ⟨hn,hle,hbad,hl,hlast,_⟩:=h rs hp
 have hlt:=(List.getElem?_eq_some_iff.1 k1).1
 refine ⟨hn,by omega,rfl,?_,by simp [lastAt,k1],t,q,k3,k4,k5⟩
 rw [hl,List.take_succ_eq_append_getElem hlt]
 rw [List.getElem?_eq_getElem hlt] at k1
 simp only [Option.some.injEq] at k1
 rw [k1]
theorem follows_stop {T:List UInt8} {n i a:Nat} {bad:Bool} {last:List UInt8} {l:List Rec} (h:Follows T n i a bad last l) (hi:i<n) (hr:readAt T last a bad=none):∀ rs,plainText rs≠some T:=by
 intro rs hp
 obtain ⟨r',a'',_,k2,_⟩:=follows_read h hi rs hp
 rw [hr] at k2
 simp at k2
theorem follows_end {T:List UInt8} {n i a:Nat} {bad:Bool} {last:List UInt8} {l:List Rec} (h:Follows T n i a bad last l) (he:¬(i<n∧i<65∧bad=false)) (rs:List Rec) (hp:plainText rs=some T):rs=l∧bad=false:=by
 obtain ⟨hn,hle,hbad,hl,_⟩:=h rs hp
 have h64:=(plainText_some hp).1
 have:i=rs.length:=by
  rcases Nat.lt_or_ge i n with hlt|hge
  ·exact absurd ⟨hlt,by omega,hbad⟩ he
  ·omega
 refine ⟨?_,hbad⟩
 rw [hl,this,List.take_length]
def readAll (T:List UInt8) (n:Nat):Nat→Nat→Nat→Bool→List UInt8→List Rec→Option (List Rec)
 | 0,_,_,_,_,l=>some l
 | f+1,i,a,bad,last,l =>
  if i<n∧i<65∧bad=false then
   match readAt T last a bad with
   | none=>none
   | some (r,a',bad')=>readAll T n f (i+1) a' bad' r.key.data.toList (l++[r])
  else some l
theorem readAll_all {T:List UInt8} {n:Nat} (rs:List Rec) (hp:plainText rs=some T):∀ (f i a:Nat) (bad:Bool) (last:List UInt8) (l:List Rec),65≤i+f→Follows T n i a bad last l→readAll T n f i a bad last l=some rs
 | 0,i,a,bad,last,l,hf,h=>by
  have:=(follows_end h (by omega) rs hp).1
  simp [readAll,this]
 | f+1,i,a,bad,last,l,hf,h=>by
  unfold readAll
  split
  ·rename_i hc
   cases hr:readAt T last a bad with
   | none=>exact absurd hp (follows_stop h hc.1 hr rs)
   | some p =>
    obtain ⟨r,a',bad'⟩:=p
    exact readAll_all rs hp f (i+1) a' bad' _ _ (by omega) (follows_next h hc.1 hr)
  ·rename_i hc
   rw [(follows_end h hc rs hp).1]
theorem plainText_inj {rs us:List Rec} {T:List UInt8} (h:plainText rs=some T) (k:plainText us=some T):rs=us:=by
 have hs:∃ n a bad,numAt T 0 false=(n,a,bad):=⟨_,_,_,rfl⟩
 obtain ⟨n,a,bad,hn⟩:=hs
 have h1:=readAll_all rs h 65 0 a bad [] [] (by omega) (follows_start hn)
 have h2:=readAll_all us k 65 0 a bad [] [] (by omega) (follows_start hn)
 rw [h1] at h2
 exact Option.some.inj h2
end Go.Proofs.YtekdenkllipehabGreatDoor
namespace Go.Proofs.YtekdenkllipehabGreatDoor
open Go.RowKit
def numTo (T:List UInt8) (most a:Nat):Nat × Nat:=
 match M.getAt T a with
 | some (v,nx)=>if most<v then (0,T.length) else (v,nx)
 | none=>(0,T.length)
def numBad (T:List UInt8) (most a:Nat):Bool:=
 match M.getAt T a with
 | some (v,_)=>decide (most<v)
 | none=>true
def bytTo (T:List UInt8) (n a:Nat):List UInt8 × Nat:=
 if T.length-a<n then ([],T.length) else ((T.drop a).take n,a+n)
def bytBad (T:List UInt8) (n a:Nat):Bool:=decide (T.length-a<n)
theorem numTo_sits {T:List UInt8} {a n most:Nat} (h:Sits T a (M.enc 7 n)) (hn:n<72057594037927936) (hm:n≤most):numTo T most a=(n,a+(M.enc 7 n).length):=by
 obtain ⟨p,q,rfl,rfl⟩:=h
 unfold numTo
 rw [M.getAt_enc p q n hn]
 simp only
 rw [if_neg (by omega)]
theorem bytTo_sits {T:List UInt8} {a:Nat} {l:List UInt8} (h:Sits T a l):bytTo T l.length a=(l,a+l.length):=by
 obtain ⟨p,q,rfl,rfl⟩:=h
 unfold bytTo
 rw [if_neg (by simp),List.drop_left,List.take_left]
theorem numBad_sits {T:List UInt8} {a n most:Nat} (h:Sits T a (M.enc 7 n)) (hn:n<72057594037927936) (hm:n≤most):numBad T most a=false:=by
 obtain ⟨p,q,rfl,rfl⟩:=h
 unfold numBad
 rw [M.getAt_enc p q n hn]
 simp only
 simp
 omega
theorem bytBad_sits {T:List UInt8} {a:Nat} {l:List UInt8} (h:Sits T a l):bytBad T l.length a=false:=by
 obtain ⟨p,q,rfl,rfl⟩:=h
 unfold bytBad
 simp
theorem numTo_le {T:List UInt8} {most a:Nat} (_h:a≤T.length):(numTo T most a).2≤T.length∧(numTo T most a).1≤most∧(numTo T most a).1<72057594037927936:=by
 unfold numTo
 cases hg:M.getAt T a with
 | none=>exact ⟨Nat.le_refl _,by simp,by simp⟩
 | some p =>
  obtain ⟨v,nx⟩:=p
  have:=M.getAt_bound hg
  simp only
  split
  ·exact ⟨Nat.le_refl _,by simp,by simp⟩
  ·exact ⟨this.2.2.1,by simp only;omega,this.1⟩
theorem bytTo_le {T:List UInt8} {n a:Nat} (h:a≤T.length):(bytTo T n a).2≤T.length∧(bytTo T n a).1.length≤n:=by
 unfold bytTo
 split
 ·exact ⟨Nat.le_refl _,by simp⟩
 ·exact ⟨by simp only;omega,by simp;omega⟩
def recTo (T ahead:List UInt8) (a:Nat):Rec × Nat:=
 match numTo T ahead.length a with
 | (k,a1)=>match numTo T 64 a1 with
 | (m,a2)=>match bytTo T m a2 with
 | (t,a3)=>match numTo T 1099511627776 a3 with
 | (st,a4)=>match numTo T 2 a4 with
 | (kd,a5)=>match numTo T 4200 a5 with
 | (z,a6)=>match bytTo T z a6 with
 | (bd,a7)=>(⟨⟨(ahead.take k++t).toArray⟩,(st:Int),(kd:Int),⟨bd.toArray⟩⟩,a7)
def aheadAt (rs:List Rec) (k:Nat):List UInt8:=if k % 8=0 then [] else lastAt rs k
theorem shared_ahead {rs:List Rec} {k:Nat} {r:Rec} (h:rs[k]?=some r):sharedAt rs k r≤(aheadAt rs k).length∧(aheadAt rs k).take (sharedAt rs k r)=r.key.data.toList.take (sharedAt rs k r):=by
 unfold aheadAt
 by_cases h8:k % 8=0
 ·have:sharedAt rs k r=0:=by unfold sharedAt;rw [if_neg (by omega)]
  rw [this];simp
 ·rw [if_neg h8]
  exact shared_last h
theorem recTo_entry {T:List UInt8} {a k:Nat} {rs:List Rec} {r:Rec} (hr:rs[k]?=some r) (hf:r.fits=true) (h:Sits T a (entry rs k r)) :
  recTo T (aheadAt rs k) a=(r,a+(entry rs k r).length):=by
 simp only [Rec.fits,decide_eq_true_eq] at hf
 obtain ⟨_,hf2,hf3,hf4,hf5,hf6,hf7⟩:=hf
 obtain ⟨hs1,hs2⟩:=shared_ahead hr
 have hs3:=sharedAt_le rs k r
 have hlen:(entry rs k r).length=(M.enc 7 (sharedAt rs k r)).length+(M.enc 7 (r.key.size-sharedAt rs k r)).length+(r.key.data.toList.drop (sharedAt rs k r)).length+(M.enc 7 r.stamp.toNat).length+1+(M.enc 7 r.body.size).length+r.body.data.toList.length:=by
  simp [entry];omega
 rw [hlen]
 unfold entry at h
 generalize sharedAt rs k r=n at *
 obtain ⟨h,k7⟩:=sits_append h
 obtain ⟨h,k6⟩:=sits_append h
 obtain ⟨h,k5⟩:=sits_append h
 obtain ⟨h,k4⟩:=sits_append h
 obtain ⟨h,k3⟩:=sits_append h
 obtain ⟨k1,k2⟩:=sits_append h
 have hkd:[UInt8.ofNat r.kind.toNat]=M.enc 7 r.kind.toNat:=(M.enc_small 7 r.kind.toNat (by omega)).symm
 have hk1:(M.enc 7 r.kind.toNat).length=1:=by rw [←hkd];rfl
 rw [hkd] at k5 k6 k7
 simp only [List.length_append,hk1] at k2 k3 k4 k5 k6 k7
 have hd:(r.key.data.toList.drop n).length=r.key.size-n:=by simp
 have hb:r.body.data.toList.length=r.body.size:=by simp
 have e1:=numTo_sits k1 (by omega) hs1
 have e2:=numTo_sits (most:=64) k2 (by omega) (by omega)
 have e3:=bytTo_sits k3
 have e4:=numTo_sits (most:=1099511627776) k4 (by omega) (by omega)
 have e5:=numTo_sits (most:=2) k5 (by omega) (by omega)
 have e6:=numTo_sits (most:=4200) k6 (by omega) (by omega)
 have e7:=bytTo_sits k7
 rw [hd] at e3
 rw [hb] at e7
 rw [hk1] at e5
 unfold recTo
 simp only [e1]
 simp only [Nat.add_assoc] at e1 e2 e3 e4 e5 e6 e7 ⊢
 simp only [e2]
 simp only [hd] at *
 simp only [e3,e4,e5,e6,e7]
 have q1:(⟨((aheadAt rs k).take n++r.key.data.toList.drop n).toArray⟩:ByteArray)=r.key:=by
  rw [hs2,List.take_append_drop]
 simp only [Prod.mk.injEq]
 refine ⟨rec_ext q1 (by simp;omega) (by simp;omega) rfl,by omega⟩
def rdTo (T:List UInt8) (a0:Nat):Nat→List Rec × Nat
 | 0=>([],a0)
 | i+1=>((rdTo T a0 i).1++[(recTo T (aheadAt (rdTo T a0 i).1 i) (rdTo T a0 i).2).1],(recTo T (aheadAt (rdTo T a0 i).1 i) (rdTo T a0 i).2).2)
def readAllTo (T:List UInt8):List Rec:=(rdTo T (numTo T 64 0).2 (numTo T 64 0).1).1
theorem rdTo_length (T:List UInt8) (a0:Nat):∀ i,(rdTo T a0 i).1.length=i
 | 0=>rfl
 | i+1=>by simp [rdTo,rdTo_length T a0 i]
theorem aheadAt_take {rs:List Rec} {i:Nat} (hi:i≤rs.length):aheadAt (rs.take i) i=aheadAt rs i:=by
 unfold aheadAt
 split
 ·rfl
 ·match i with
  | 0=>rfl
  | i+1=>simp only [lastAt];rw [List.getElem?_take_of_lt (by omega)]
theorem rdTo_follows {T:List UInt8} {rs:List Rec} (hp:plainText rs=some T):∀ i,i≤rs.length→∃ t q,textTo rs i=some t∧T=t++q∧rdTo T (M.enc 7 rs.length).length i=(rs.take i,t.length)
 | 0,_=>by
  obtain ⟨h64,ht⟩:=plainText_some hp
  obtain ⟨t,q,h1,h2⟩:=textTo_head ht 0 (by omega)
  refine ⟨t,q,h1,h2,?_⟩
  simp only [textTo,Option.some.injEq] at h1
  subst h1
  simp [rdTo]
 | i+1,hi=>by
  obtain ⟨t,q,h1,h2,h3⟩:=rdTo_follows hp i (by omega)
  obtain ⟨h64,ht⟩:=plainText_some hp
  obtain ⟨u,q',k1,k2⟩:=textTo_head ht (i+1) hi
  have hr:rs[i]?=some rs[i]:=List.getElem?_eq_getElem (by omega)
  obtain ⟨e1,hf⟩:=textTo_step h1 hr k1
  have hsits:Sits T t.length (entry rs i rs[i]):=⟨t,q',by rw [k2,e1];simp,rfl⟩
  refine ⟨u,q',k1,k2,?_⟩
  have hx:=recTo_entry hr hf hsits
  have hrow:rs.take (i+1)=rs.take i++[rs[i]]:=by rw [List.take_add_one,hr];rfl
  simp only [rdTo,h3,aheadAt_take (show i≤rs.length by omega),hx]
  rw [hrow,e1,List.length_append]
theorem readAllTo_plain {T:List UInt8} {rs:List Rec} (hp:plainText rs=some T):readAllTo T=rs:=by
 obtain ⟨h64,ht⟩:=plainText_some hp
 obtain ⟨t,q,h1,h2⟩:=textTo_head ht 0 (by omega)
 simp only [textTo,Option.some.injEq] at h1
 have hs:Sits T 0 (M.enc 7 rs.length):=⟨[],q,by rw [h2,h1];simp,rfl⟩
 unfold readAllTo
 rw [numTo_sits (most:=64) hs (by omega) h64,Nat.zero_add]
 obtain ⟨t,q,_,_,h3⟩:=rdTo_follows hp rs.length (Nat.le_refl _)
 simp only [h3,List.take_length]
theorem recTo_le {T ahead:List UInt8} {a:Nat} (h:a≤T.length):(recTo T ahead a).2≤T.length∧(recTo T ahead a).1.key.size≤ahead.length+64∧(recTo T ahead a).1.body.size≤4200∧0≤(recTo T ahead a).1.stamp∧(recTo T ahead a).1.stamp<72057594037927936∧0≤(recTo T ahead a).1.kind∧(recTo T ahead a).1.kind<72057594037927936:=by
 unfold recTo
 have h1:=numTo_le (most:=ahead.length) h
 generalize numTo T ahead.length a=p1 at *
 obtain ⟨k,a1⟩:=p1
 have h2:=numTo_le (most:=64) h1.1
 simp only at *
 generalize numTo T 64 a1=p2 at *
 obtain ⟨m,a2⟩:=p2
 have h3:=bytTo_le (n:=m) h2.1
 simp only at *
 generalize bytTo T m a2=p3 at *
 obtain ⟨t,a3⟩:=p3
 have h4:=numTo_le (most:=1099511627776) h3.1
 simp only at *
 generalize numTo T 1099511627776 a3=p4 at *
 obtain ⟨st,a4⟩:=p4
 have h5:=numTo_le (most:=2) h4.1
 simp only at *
 generalize numTo T 2 a4=p5 at *
 obtain ⟨kd,a5⟩:=p5
 have h6:=numTo_le (most:=4200) h5.1
 simp only at *
 generalize numTo T 4200 a5=p6 at *
 obtain ⟨z,a6⟩:=p6
 have h7:=bytTo_le (n:=z) h6.1
 simp only at *
 generalize bytTo T z a6=p7 at *
 obtain ⟨bd,a7⟩:=p7
 simp only at *
 refine ⟨h7.1,?_,?_,by omega,by omega,by omega,by omega⟩
 ·simp only [ByteArray.size,List.size_toArray,List.length_append,List.length_take];omega
 ·simp only [ByteArray.size,List.size_toArray];omega
theorem rdTo_le {T:List UInt8} {a0:Nat} (h0:a0≤T.length):∀ i,(rdTo T a0 i).2≤T.length∧∀ (j:Nat) (r:Rec),(rdTo T a0 i).1[j]?=some r→r.key.size≤64*(j+1)∧r.body.size≤4200∧0≤r.stamp∧r.stamp<72057594037927936∧0≤r.kind∧r.kind<72057594037927936
 | 0=>⟨h0,fun j r h=>by simp [rdTo] at h⟩
 | i+1=>by
  obtain ⟨h1,h2⟩:=rdTo_le h0 i
  have hl:=rdTo_length T a0 i
  simp only [rdTo]
  generalize rdTo T a0 i=p at *
  obtain ⟨l,a⟩:=p
  simp only at *
  have hah:(aheadAt l i).length≤64*i:=by
   unfold aheadAt
   split
   ·simp
   ·match i with
    | 0=>simp [lastAt]
    | i+1 =>
     simp only [lastAt]
     cases hx:l[i]? with
     | none=>simp
     | some r=>have:=(h2 i r hx).1;simpa using this
  have hr:=recTo_le (ahead:=aheadAt l i) h1
  generalize recTo T (aheadAt l i) a=p at *
  obtain ⟨r,a'⟩:=p
  simp only at *
  refine ⟨hr.1,fun j u hj=>?_⟩
  rcases Nat.lt_or_ge j l.length with hlt|hge
  ·rw [List.getElem?_append_left hlt] at hj;exact h2 j u hj
  ·rw [List.getElem?_append_right hge] at hj
   have hj0:j-l.length=0:=by
    have:=(List.getElem?_eq_some_iff.1 hj).1;simp at this;omega
   rw [hj0] at hj
   simp at hj
   subst hj
   have:j=i:=by omega
   subst this
   exact ⟨by omega,hr.2.2⟩
def VarN (w:World) (B:Nat) (vs:List Value):Prop:=B<w.heap.size∧∀ i v,vs[i]?=some v→w.cell? ⟨B,i,none⟩=some v∧w.frozen? ⟨B,i,none⟩=false
theorem VarN.cell {w:World} {B:Nat} {vs:List Value} (h:VarN w B vs) (i:Nat) {v:Value} (hv:vs[i]?=some v):w.cell? ⟨B,i,none⟩=some v:=(h.2 i v hv).1
theorem VarN.free {w:World} {B:Nat} {vs:List Value} (h:VarN w B vs) (i:Nat) {v:Value} (hv:vs[i]?=some v):w.frozen? ⟨B,i,none⟩=false:=(h.2 i v hv).2
theorem VarN.kept {w w':World} {B:Nat} {vs:List Value} (h:VarN w B vs) (q:Q w w'):VarN w' B vs:=
 ⟨Nat.lt_of_lt_of_le h.1 q.below.size,fun i v hv=>⟨(q.below.cell (p:=⟨B,i,none⟩) h.1).trans (h.2 i v hv).1,(q.below.frozen (p:=⟨B,i,none⟩) h.1).trans (h.2 i v hv).2⟩⟩
theorem VarN.below {w w':World} {B n:Nat} {vs:List Value} (h:VarN w B vs) (hb:Below n w w') (hn:B<n):VarN w' B vs:=
 ⟨Nat.lt_of_lt_of_le h.1 hb.size,fun i v hv=>⟨(hb.cell (p:=⟨B,i,none⟩) hn).trans (h.2 i v hv).1,(hb.frozen (p:=⟨B,i,none⟩) hn).trans (h.2 i v hv).2⟩⟩
theorem VarN.set {w:World} {B:Nat} {vs:List Value} (h:VarN w B vs) (i:Nat) (x:Value):VarN (w.setCell ⟨B,i,none⟩ x) B (vs.set i x):=by
 refine ⟨by simpa using h.1,fun j v hv=>?_⟩
 by_cases hji:j=i
 ·subst hji
  have hl:j<vs.length:=by have:=(List.getElem?_eq_some_iff.1 hv).1;simpa using this
  have hx:x=v:=by rw [List.getElem?_set_self hl] at hv;exact Option.some.inj hv
  subst hx
  obtain ⟨c,f⟩:=h.2 j _ (List.getElem?_eq_getElem hl)
  exact ⟨World.cell?_setCell_same _ _ _ c,by rw [World.frozen?_setCell];exact f⟩
 ·rw [List.getElem?_set_ne (Ne.symm hji)] at hv
  obtain ⟨c,f⟩:=h.2 j v hv
  exact ⟨by rw [World.cell?_setCell_other _ _ _ _ (by intro e;injection e;omega)];exact c,by rw [World.frozen?_setCell];exact f⟩
theorem VarN.other {w:World} {B C:Nat} {vs:List Value} (h:VarN w B vs) (hne:B≠C) (i:Nat) (x:Value):VarN (w.setCell ⟨C,i,none⟩ x) B vs:=
 ⟨by simpa using h.1,fun j v hv=>⟨by rw [World.cell?_setCell_other _ _ _ _ (by intro e;injection e;omega)];exact (h.2 j v hv).1,by rw [World.frozen?_setCell];exact (h.2 j v hv).2⟩⟩
theorem varN_new (w:World) (vs:List Value) (t:TypeId):VarN (w.alloc (.cells vs.toArray t)) w.heap.size vs:=
 ⟨by simp,fun i v hv=>⟨by simpa using hv,by simp⟩⟩
end Go.Proofs.YtekdenkllipehabGreatDoor
