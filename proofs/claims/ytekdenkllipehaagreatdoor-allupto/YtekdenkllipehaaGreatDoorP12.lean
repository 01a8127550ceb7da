import Derived.Test.YtekdenkllipehaaGreatDoorP09
import Derived.Deep.QuietTactic
import Derived.BigQuiet
import Derived.Laws.Cover1
import Derived.Deep.DeepCutAuto
import Derived.Laws.OwnMore
import Derived.Deep.RegionWith
import Derived.Laws.IdiomStrings
set_option maxRecDepth 99999
set_option maxHeartbeats 0
namespace Go.Proofs.YtekdenkllipehaaGreatDoor
open Go.RowKit
theorem aF(n l m:Int)(w:World):
  Calls Tryz.prog 176 #[iT n,iT l,iT m] w fun e w'=>e=.returned (.bool (decide (l<=n/\n<=m)))/\w'=w:=by
 by_cases h:l<=n
 .have E:decide (l<=n/\n<=m)=decide (n<=m):=by rw[decide_eq_decide];omega
  rw[E];go_in;go_wp2;go_ret;exact⟨rfl,rfl⟩
 .have E:decide (l<=n/\n<=m)=false:=by simp;omega
  rw[E];go_in;go_wp2;go_ret;exact⟨rfl,rfl⟩
theorem Yt(r:Rec)(w:World):
  Calls Tryz.prog 147 #[r.val] w fun e w'=>e=.returned (.bool r.fits)/\Q w w':=by
 obtain⟨key,stamp,kind,body⟩:=r;simp only[Rec.val,Rec.fits];have W:Hid _:=aF;obtain⟨b1,h1⟩:=ex (decide ((1:Int)<=(key.size:Int)/\(key.size:Int)<=64));obtain⟨b2,h2⟩:=ex (decide ((0:Int)<=stamp/\stamp<=1099511627776));obtain⟨b3,h3⟩:=ex (decide ((0:Int)<=kind/\kind<=2));obtain⟨b4,h4⟩:=ex (decide ((0:Int)<=(body.size:Int)/\(body.size:Int)<=4200));have E:decide (1<=key.size/\key.size<=64/\body.size<=4200/\0<=stamp/\stamp<=1099511627776/\0<=kind/\kind<=2)=(b1&&b2&&b3&&b4):=by
  rw[h1,h2,h3,h4,Bool.eq_iff_iff];simp only[zMF,Bool.and_eq_true];omega
 rw[E];clear E;have W1:=fun w=>W.out (key.size:Int) 1 64 w;have W2:=fun w=>W.out stamp 0 1099511627776 w;have W3:=fun w=>W.out kind 0 2 w;have W4:=fun w=>W.out (body.size:Int) 0 4200 w;rw[<-h1]at W1;rw[<-h2]at W2;rw[<-h3]at W3;rw[<-h4]at W4;have V1:Hid _:=W1;have V2:Hid _:=W2;have V3:Hid _:=W3;have V4:Hid _:=W4;clear W1 W2 W3 W4 W h1 h2 h3 h4;go_in;go_wp2_with fail;apply(V1.out _).mono;rintro e w1⟨rfl,rfl⟩
 cases b1 with
 |false =>
  go_wp2;go_ret;exact⟨rfl,(Q.refl w).alloc _ _⟩
 |true =>
  go_wp2_with fail;apply(V2.out _).mono;rintro e w1⟨rfl,rfl⟩
  cases b2 with
  |false =>
   go_wp2;go_ret;exact⟨rfl,(Q.refl w).alloc _ _⟩
  |true =>
   go_wp2_with fail;apply(V3.out _).mono;rintro e w1⟨rfl,rfl⟩
   cases b3 with
   |false =>
    go_wp2;go_ret;exact⟨rfl,(Q.refl w).alloc _ _⟩
   |true =>
    go_wp2_with fail;apply(V4.out _).mono;rintro e w1⟨rfl,rfl⟩;go_wp2;go_ret;exact⟨by cases b4<;>rfl,(Q.refl w).alloc _ _⟩
theorem JH:∀l:List UInt8,Op.bytesLess l l=false
 |[]=>rfl
 |a::l=>by simp[Op.bytesLess,JH l]
theorem Js:∀x y:List UInt8,Op.bytesLess y x=!(Op.bytesLess x y || x==y)
 |[],[]=>rfl
 |[],_::_=>rfl
 |_::_,[]=>rfl
 |a::x,b::y=>by
  simp only[Op.bytesLess,List.cons_beq_cons,Js x y];by_cases h:a=b
  .subst h;simp
  .have h1:(a==b)=false:=by simpa using h
   (have h2:(b==a)=false:=by simpa using fun e=>h e.symm);rw[h1,h2];simp;have hn:a.toNat≠b.toNat:=fun e=>h (UInt8.toNat_inj.1 e);rw[Bool.eq_iff_iff];simp[UInt8.lt_iff_toNat_lt];omega
theorem dZ(p r:Rec):(!(Op.bytesLess r.key.toList p.key.toList || r.key.toList==p.key.toList) || (r.key.toList==p.key.toList&&decide (r.stamp<p.stamp)))=!p.wrong r:=by
 rw[<-Js];unfold Rec.wrong Rec.less Rec.same;by_cases h:p.key.toList=r.key.toList
 .rw[h,JH];simp;by_cases hs:r.stamp<p.stamp
  .simp[hs]
  .simp[hs];omega
 .have h1:(p.key.toList==r.key.toList)=false:=by simpa using h
  have h2:(r.key.toList==p.key.toList)=false:=by simpa using fun e=>h e.symm
  rw[h1,h2];simp
theorem YW(p r:Rec)(w:World):
  Calls Tryz.prog 148 #[r.val,p.val] w fun e w'=>e=.returned (.bool (!p.wrong r))/\Q w w':=by
 rw[<-dZ];obtain⟨key,stamp,kind,body⟩:=r;obtain⟨zAO,zE4,zGU,zGV⟩:=p;simp only[Rec.val]
 cases h1:Op.bytesLess key.toList zAO.toList<;>cases h2:(key.toList==zAO.toList)
 all_goals
  go_in;go_wp2;go_ret;exact⟨by simp,((Q.refl w).alloc _ _).alloc _ _⟩
def Dy(rs:List Rec)(k:Nat):BA:=if k%8=0 then⟨#[]⟩else((rs[k-1]?).map Rec.key).getD ⟨#[]⟩
theorem Ni(rs:List Rec)(ao:Option Addr)(n cap k:Nat)(hk:k<=rs.length)(hn:rs.length<=n\/k%8=0)(hk2:k<=140737488351232)(hkn:0<k->k<=n)(w:World)(hr:rs=[]\/∃b off,ao=some (aD b off)/\JI w b off rs):
  Calls Tryz.prog 146 #[.slice ao n cap,iT (k:Int)] w fun e w'=>e=.returned (sT (Dy rs k))/\Q w w':=by
 unfold Dy;by_cases h8:k%8=0
 .rw[if_pos h8];have e8:(k:Int).tmod 8=0:=by rw[Int.tmod_eq_emod_of_nonneg (by omega)];omega
  go_in;go_wp2;go_ret;exact⟨rfl,Q.refl w⟩
 .rw[if_neg h8];have hk0:0<k:=by omega
  rcases hr with rfl|⟨b,off,rfl,hr⟩
  .simp at hk;omega
  .obtain⟨j,rfl⟩:∃j,k=j+1:=⟨k-1,by omega⟩;have hj:rs[j]?=some rs[j]:=zLH (by omega);obtain⟨c0,_,_,_⟩:=hr j _ hj;simp only[zM7,hj,zM1,zLT];generalize rs[j]=r at*;have e8:((((j+1:Nat):Int).tmod 8)==0)=false:=by rw[Int.tmod_eq_emod_of_nonneg (by omega),zM9];omega
   (have hw:IntKind.i64.wrap (((j+1:Nat):Int)-1)=(j:Int):=by rw[IntKind.wrap_i64];omega);have hjn:=hkn hk0;go_in;go_wp2;go_ret;exact⟨rfl,Q.refl w⟩
end Go.Proofs.YtekdenkllipehaaGreatDoor
namespace Go.Proofs.YtekdenkllipehaaGreatDoor
open Go.RowKit
def Rcs(w:World)(ao:Option Addr)(rs:List Rec):Prop:=rs=[]\/∃b off,ao=some (aD b off)/\b<w.heap.size/\JI w b off rs
theorem JI.kept{w w':World}{b off:Nat}{rs:List Rec}(h:JI w b off rs)(q:Q w w'):JI w' b off rs:=fun i r hi=>by
 obtain⟨h0,h1,h2,h3⟩:=h i r hi;exact⟨AA h0 q,AA h1 q,AA h2 q,AA h3 q⟩
theorem Rcs.kept{w w':World}{ao:Option Addr}{rs:List Rec}(h:Rcs w ao rs)(q:Q w w'):Rcs w' ao rs:=by
 rcases h with h|⟨b,off,rfl,hb,hr⟩
 .exact Or.inl h
 .exact Or.inr ⟨b,off,rfl,zLJ hb q.below.size,hr.kept q⟩
theorem Rcs.at{w:World}{ao:Option Addr}{rs:List Rec}(h:Rcs w ao rs){k:Nat}(hk:k<rs.length):∃b off,ao=some (aD b off)/\b<w.heap.size/\JI w b off rs:=by
 rcases h with rfl|h
 .simp at hk
 .exact h
def QR(rs:List Rec)(k:Nat):Bool:=(BM rs k).isSome
theorem dn{rs:List Rec}{k:Nat}{r:Rec}(h:QR rs k=true)(hr:rs[k]?=some r)(hb:KN rs k r=false):QR rs (k+1)=true:=by
 unfold QR at*;obtain⟨t,ht⟩:=Option.isSome_iff_exists.1 h;rw[Ot ht hr hb];rfl
theorem lJ{rs:List Rec}{k:Nat}{r:Rec}(hk:k<rs.length)(hr:rs[k]?=some r)(hb:KN rs k r=true):(Ad rs).isSome=false:=by
 unfold Ad;split
 .rfl
 .have h:=aN hr hb;have:=Oq h (rs.length-(k+1));rw[show k+1+(rs.length-(k+1))=rs.length by omega]at this;rw[this];rfl
theorem lI(rs:List Rec)(ao:Option Addr)(cap:Nat)(w:World)(h:Rcs w ao rs)(hl:rs.length<=140737488351232):
  Calls Tryz.prog 117 #[.slice ao rs.length cap] w fun e w'=>e=.returned (.bool (Ad rs).isSome)/\Q w w':=by
 by_cases h64:64<rs.length
 .have E:(Ad rs).isSome=false:=by unfold Ad;rw[if_pos h64];rfl
  rw[E];go_in;go_wp2;go_ret;exact⟨rfl,Q.refl w⟩
 .have HE:Hid (QR rs rs.length=(Ad rs).isSome):=by unfold QR Ad;rw[if_neg h64];exact rfl
  have H0:Hid (QR rs 0=true):=(rfl:QR rs 0=true);have HG:Hid (∀(k:Nat)(r:Rec),QR rs k=true->rs[k]?=some r->KN rs k r=false->QR rs (k+1)=true):=fun k r=>dn;have HB:Hid (∀(k:Nat)(r:Rec),rs[k]?=some r->KN rs k r=true->(Ad rs).isSome=false):=fun k r hr hb=>lJ (zLI.1 hr).1 hr hb;have HH:Hid (Rcs w ao rs):=h;have HBd:Hid _:=Yt;have HF:Hid _:=YW;clear h;go_in;go_wp2_with fail
  go_loopw [10] (fun i wr=>∃k:Nat,i=iT k/\k<=rs.length/\Hid (QR rs k=true)/\Q w wr) (fun i _=>rs.length-(intOf i).toNat)
  case atStart=>exact⟨0,rfl,zLS _,H0,Q.refl w⟩
  case round =>
   obtain⟨k,rfl,hk,za,hq⟩:=hrel;by_cases hlt:k<rs.length
   ·(obtain⟨b,off,rfl,hb,hat⟩:=(HH.out.kept hq).at hlt;have hg:rs[k]?=some rs[k]:=zLH hlt;obtain⟨c0,c1,c2,c3⟩:=hat k _ hg;have HGk:Hid _:=fun hbad=>HG.out k _ za.out hg hbad;have HBk:Hid _:=fun hbad=>HB.out k _ hg hbad;obtain⟨bd,hbd⟩:=ex (KN rs k rs[k]);rw[<-hbd]at HGk HBk;have BD:=HBd.out rs[k];generalize hr:rs[k]=r at*;go_upto_region 6 with fail);go_cut [31] (fun x wx=>x=.bool bd/\Q wr wx)
    case first =>
     ((((have qa:Q wr (wr.alloc (.cells #[sT r.key,iT r.stamp,iT r.kind,sT r.body] 119)):=(Q.refl wr).alloc _ _;obtain⟨wa,Bp⟩:=ex (wr.alloc (.cells #[sT r.key,iT r.stamp,iT r.kind,sT r.body] 119));have v0:wa.cell? (aD wr.heap.size 0)=some (sT r.key):=by rw[Bp];simp);have v1:wa.cell? (aD wr.heap.size 1)=some (iT r.stamp):=by rw[Bp];simp);have v2:wa.cell? (aD wr.heap.size 2)=some (iT r.kind):=by rw[Bp];simp);have v3:wa.cell? (aD wr.heap.size 3)=some (sT r.body):=by rw[Bp];simp);rw[<-Bp]at qa⊢;clear Bp;simp only[Rec.val]at BD;have BH:Hid _:=BD;clear BD c0 c1 c2 c3 HGk HBk
     cases hf:r.fits with
     |false =>
      (((((((rw[hf]at BH;obtain rfl:bd=true:=by rw[hbd];simp[KN,hf]);clear hbd hf hat;refine wp_region_held_drew (S:=fun w'=>Q wr w'/\w'.cell? (aD wr.heap.size 0)=some (sT r.key)/\w'.cell? (aD wr.heap.size 1)=some (iT r.stamp)/\w'.cell? (aD wr.heap.size 2)=some (iT r.kind)/\w'.cell? (aD wr.heap.size 3)=some (sT r.body)) (by kernel_rfl) ⟨qa.drew,v0,v1,v2,v3⟩ (fun hHeld=>?_);refine q4 0 ?_;refine rd1 1 (fun K hK=>?_);go_simp;apply(BH.out _).mono;rintro e v1⟨rfl,q1⟩);try go_wp2_with fail);refine hK.out _ _ ⟨hHeld.1.trans q1,AA hHeld.2.1 q1,AA hHeld.2.2.1 q1,AA hHeld.2.2.2.1 q1,AA hHeld.2.2.2.2 q1⟩ (fun AO=>?_);clear hK K hHeld;have hHeld:=AO;clear AO);try simp only[Act.put,nrm]);refine q4 2 ?_;refine q4 3 ?_;refine q5 4 ?_;refine q5 5 ?_;refine q5 6 ?_;refine q5 7 ?_;refine q5 8 ?_;refine q5 9 ?_;refine q5 10 ?_;refine q5 11 ?_;refine q5 12 ?_;refine q5 13 ?_;refine q5 14 ?_;refine q5 15 ?_;refine q4 16 ?_;refine wpAnyH_done (by kernel_rfl) ?_ _;go_wp2_with fail);go_meet);case rel=>exact⟨rfl,hHeld.1⟩
     |true =>
      rw[hf]at BH;by_cases hk0:k=0
      ·(((((((subst hk0;obtain rfl:bd=false:=by rw[hbd];simp[KN,hf]);clear hbd hf hat;refine wp_region_held_drew (S:=fun w'=>Q wr w'/\w'.cell? (aD wr.heap.size 0)=some (sT r.key)/\w'.cell? (aD wr.heap.size 1)=some (iT r.stamp)/\w'.cell? (aD wr.heap.size 2)=some (iT r.kind)/\w'.cell? (aD wr.heap.size 3)=some (sT r.body)) (by kernel_rfl) ⟨qa.drew,v0,v1,v2,v3⟩ (fun hHeld=>?_);refine q4 0 ?_;refine rd1 1 (fun K hK=>?_);go_simp;apply(BH.out _).mono;rintro e v1⟨rfl,q1⟩);try go_wp2_with fail);refine hK.out _ _ ⟨hHeld.1.trans q1,AA hHeld.2.1 q1,AA hHeld.2.2.1 q1,AA hHeld.2.2.2.1 q1,AA hHeld.2.2.2.2 q1⟩ (fun AO=>?_);clear hK K hHeld;have hHeld:=AO;clear AO);try simp only[Act.put,nrm]);refine q4 2 ?_;refine q4 3 ?_;refine q4 4 ?_;refine q4 5 ?_;refine q4 6 ?_;refine q5 7 ?_;refine q5 8 ?_;refine q5 9 ?_;refine q5 10 ?_;refine q5 11 ?_;refine q5 12 ?_;refine q5 13 ?_;refine q5 14 ?_;refine q4 15 ?_;refine q4 16 ?_;refine wpAnyH_done (by kernel_rfl) ?_ _;go_wp2_with fail);go_meet);case rel=>exact⟨rfl,hHeld.1⟩
      ·(((((((((obtain⟨j,rfl⟩:∃j,k=j+1:=⟨k-1,by omega⟩;have hgj:rs[j]?=some rs[j]:=zLH (by omega);obtain⟨d0,d1,d2,d3⟩:=(hat.kept qa) j _ hgj;have hbe:before rs (j+1) r=rs[j]:=by unfold before;simp[List.getD,hgj]);have zBI:bd=(rs[j]).wrong r:=by rw[hbd];simp[KN,hf,hbe]);have FH:=HF.out rs[j] r;rw[<-zBI]at FH;simp only[Rec.val]at FH;have FO:Hid _:=FH;generalize rs[j]=p at*;have hwj:IntKind.i64.wrap (((j+1:Nat):Int)-1)=(j:Int):=by rw[IntKind.wrap_i64];omega);have hj1:(j:Int)<(rs.length:Int):=by omega);have zIj:IntKind.i64.wrap (j:Int)=(j:Int):=by rw[IntKind.wrap_i64];omega);have hj2:(0:Int)<=(j:Int):=by omega);have hj3:j<rs.length:=by omega);have hd0:decide ((0:Int)<(j:Int)+1)=true:=by rw[zMF];omega);have hj4:(0:Int)<(j:Int)+1:=by omega);clear FH zBI hbe hbd hgj hf hat
       go_region_held3 (fun w'=>Q wr w'/\w'.cell? (aD wr.heap.size 0)=some (sT r.key)/\w'.cell? (aD wr.heap.size 1)=some (iT r.stamp)/\w'.cell? (aD wr.heap.size 2)=some (iT r.kind)/\w'.cell? (aD wr.heap.size 3)=some (sT r.body)/\w'.cell? (aD b (off+j*4))=some (sT p.key)/\w'.cell? (aD b (off+j*4+1))=some (iT p.stamp)/\w'.cell? (aD b (off+j*4+2))=some (iT p.kind)/\w'.cell? (aD b (off+j*4+3))=some (sT p.body)) (first|exact⟨qa.drew,v0,v1,v2,v3,d0,d1,d2,d3⟩|exact Db|exact hS5)
        (first
         |(go_at_call 147;apply(BH.out _).mono;rintro e w4⟨rfl,q4⟩;have Db:Q wr w4/\w4.cell? (aD wr.heap.size 0)=some (sT r.key)/\w4.cell? (aD wr.heap.size 1)=some (iT r.stamp)/\w4.cell? (aD wr.heap.size 2)=some (iT r.kind)/\w4.cell? (aD wr.heap.size 3)=some (sT r.body)/\w4.cell? (aD b (off+j*4))=some (sT p.key)/\w4.cell? (aD b (off+j*4+1))=some (iT p.stamp)/\w4.cell? (aD b (off+j*4+2))=some (iT p.kind)/\w4.cell? (aD b (off+j*4+3))=some (sT p.body):=⟨qa.trans (Aq q4),AA v0 (Aq q4),AA v1 (Aq q4),AA v2 (Aq q4),AA v3 (Aq q4),AA d0 (Aq q4),AA d1 (Aq q4),AA d2 (Aq q4),AA d3 (Aq q4)⟩)
         |(go_at_call 148;apply(FO.out _).mono;rintro e w5⟨rfl,q5⟩;have hS5:Q wr w5/\w5.cell? (aD wr.heap.size 0)=some (sT r.key)/\w5.cell? (aD wr.heap.size 1)=some (iT r.stamp)/\w5.cell? (aD wr.heap.size 2)=some (iT r.kind)/\w5.cell? (aD wr.heap.size 3)=some (sT r.body)/\w5.cell? (aD b (off+j*4))=some (sT p.key)/\w5.cell? (aD b (off+j*4+1))=some (iT p.stamp)/\w5.cell? (aD b (off+j*4+2))=some (iT p.kind)/\w5.cell? (aD b (off+j*4+3))=some (sT p.body):=⟨Db.1.trans q5,AA Db.2.1 q5,AA Db.2.2.1 q5,AA Db.2.2.2.1 q5,AA Db.2.2.2.2.1 q5,AA Db.2.2.2.2.2.1 q5,AA Db.2.2.2.2.2.2.1 q5,AA Db.2.2.2.2.2.2.2.1 q5,AA Db.2.2.2.2.2.2.2.2 q5⟩))
       all_goals
        ((go_wp2_with fail);go_meet);case rel=>exact⟨by simp,hS5.1⟩
    case rest =>
     obtain⟨rfl,qc⟩:=hcut
     cases bd with
     |true =>
      have E:=HBk.out rfl;have E2:Hid _:=E;clear E HGk HBk hbd BD;go_wp2;go_ret;exact⟨congrArg (fun b=>Ending.returned (.bool b)) E2.out.symm,hq.trans qc⟩
     |false =>
      (((have E:Hid (QR rs (k+1)=true):=HGk.out rfl;clear HGk HBk hbd BD;go_wp2_with fail);go_roundw);case rel=>exact⟨k+1,by go_num,by omega,E,hq.trans qc⟩);case measure=>simp[intOf];omega
   ·(obtain rfl:k=rs.length:=by omega);have E:Hid ((Ad rs).isSome=true):=HE.out.symm.trans za.out;go_wp2;go_ret;exact⟨congrArg (fun b=>Ending.returned (.bool b)) E.out.symm,hq⟩
end Go.Proofs.YtekdenkllipehaaGreatDoor
namespace Go.Proofs.YtekdenkllipehaaGreatDoor
open Go.RowKit
variable{D:M.Dsk}{ao bo:Option Addr}{b base bc d i id j k n o p u x:Nat}{e:TypeId}{f:M.Fil}{ids l ps:List Nat}{v:Value}{w w':World}{xs:List Value}
def DU(l:List UInt8):List Value:=l.map fun b=>.int .u8 (b.toNat:Int)
def CF(ps:List Nat):List Value:=ps.map fun p=>pT p
abbrev Tags:=Nat->Nat×Nat
structure Only(o:Nat)(tg:Tags)(w w':World):Prop where
 os:w'.os=w.os
 tape:w'.tape=w.tape
 output:w'.output=w.output
 size:w.heap.size<=w'.heap.size
 block:∀k,k<w.heap.size->(tg k).1≠o->w'.heap[k]?=w.heap[k]?
theorem Only.refl(o:Nat)(tg:Tags)(w:World):Only o tg w w:=⟨rfl,rfl,rfl,zLK _,fun _ _ _=>rfl⟩
theorem Only.Be{tg:Tags}(q:Q w w'):Only o tg w w':=⟨q.below.os,q.below.tape,q.below.output,q.below.size,fun k hk _=>q.below.block k hk⟩
theorem Ai{size:Nat}(h:w.ownsRow base e size v n xs)(hb:∀g,v.ownBlock=some g->w'.heap[g]?=w.heap[g]?):w'.ownsRow base e size v n xs:=by
 refine⟨h.1,?_⟩;rcases h.2 with h2|⟨g,cap,cur,hv,hg,hh,r⟩
 .exact Or.inl h2
 .exact Or.inr ⟨g,cap,cur,hv,hg,by rw[hb g (by rw[hv];rfl)];exact hh,r⟩
theorem Only.trans{o:Nat}{tg:Tags}{a b c:World}(h:Only o tg a b)(k:Only o tg b c):Only o tg a c:=
 ⟨k.os.trans h.os,k.tape.trans h.tape,k.output.trans h.output,zLV h.size k.size,fun i hi hn=>(k.block i (zLJ hi h.size) hn).trans (h.block i hi hn)⟩
theorem Fj{tg:Tags}(h:Only o tg w w')(ht:∀k,k<w.heap.size->k=d->(tg k).1=o)(j:Nat)(v:Value):Only o tg w (w'.setCell (aD d j) v):=
 ⟨h.os,h.tape,h.output,by simpa using h.size,fun k hk hn=>(heap_setCell_other w' (aD d j) k v (fun e=>hn (ht k hk (by simpa using e)))).trans (h.block k hk hn)⟩
def Tags.more(tg:Tags)(n o u:Nat):Tags:=fun k=>if k<n then tg k else(o,u)
theorem Tags.AQ{tg:Tags}(h:k<n):tg.more n o u k=tg k:=by simp[Tags.more,h]
theorem Tags.Ay{tg:Tags}(h:n<=k):tg.more n o u k=(o,u):=by simp[Tags.more,Nat.not_lt.2 h]
theorem M9{α:Type}{l:List α}{a:α}(h:(l.eraseIdx i)[j]?=some a):l[if j<i then j else j+1]?=some a:=by
 rw[List.getElem?_eraseIdx]at h;by_cases hj:j<i
 .rw[if_pos hj]at h⊢;exact h
 .rw[if_neg hj]at h⊢;exact h
def Ah{α:Type}(l:List α)(j:Nat)(x:α):List α:=l.take j++x::l.drop j
theorem F4{α:Type}{l:List α}{x a:α}(hj:j<=l.length)(h:(Ah l j x)[i]?=some a):(i=j/\a=x)\/(i≠j/\l[if i<j then i else i-1]?=some a):=by
 unfold Ah at h;have hl:(l.take j).length=j:=by simp;omega
 rcases Nat.lt_trichotomy i j with hij|rfl|hij
 .right;rw[zMA (by omega),List.getElem?_take_of_lt hij]at h;exact⟨by omega,by rw[if_pos hij];exact h⟩
 .left;rw[zMB (by omega),hl,Nat.sub_self]at h;simp at h;exact⟨rfl,h.symm⟩
 .right;rw[zMB (by omega),hl]at h;obtain⟨m,hm⟩:∃m,i-j=m+1:=⟨i-j-1,by omega⟩;rw[hm,zLZ,zLr]at h;refine⟨by omega,?_⟩;rw[if_neg (by omega),show i-1=j+m by omega];exact h
theorem CX{α:Type}{l:List α}{x:α}(hj:j<=l.length):(Ah l j x).length=l.length+1:=by simp[Ah];omega
theorem P7(h:l.Nodup)(hx:x∉l):(Ah l j x).Nodup:=by
 have hp:(Ah l j x).Perm (x::l):=by
  unfold Ah;refine List.perm_middle.trans ?_;rw[zLq]
 rw[hp.nodup_iff];exact List.nodup_cons.2 ⟨hx,h⟩
theorem EM{α:Type}{l:List α}(hj:j<=l.length)(x:α):(Ah l j x)[j]?=some x:=by
 unfold Ah;have hl:(l.take j).length=j:=by simp;omega
 rw[zMB (by omega),hl,Nat.sub_self];rfl
theorem jm{α:Type}{l:List α}(hj:j<=l.length)(x y:α):(Ah l j x).set j y=Ah l j y:=by
 unfold Ah;have hl:(l.take j).length=j:=by simp;omega
 rw[List.set_append_right _ _ (by omega),hl,Nat.sub_self];rfl
theorem rG(l:List Nat):∃n,n∉l:=by
 suffices h:∃n,∀x∈l,x<n by
  obtain⟨n,hn⟩:=h;exact⟨n,fun hm=>zLg _ (hn n hm)⟩
 induction l with
 |nil=>exact⟨0,fun x hx=>by cases hx⟩
 |cons a l ih =>
  obtain⟨n,hn⟩:=ih;refine⟨n+a+1,fun x hx=>?_⟩;rcases zME.1 hx with rfl|hx
  .omega
  .have:=hn x hx;omega
theorem Yc(h:l.Nodup)(hx:l[i]?=some x):x∉l.eraseIdx i:=by
 intro hm;obtain⟨hi,rfl⟩:=zLI.1 hx;obtain⟨j,hj,hne,e⟩:=List.mem_eraseIdx_iff_getElem.1 hm;have h1:=zM3.1 h;rcases Nat.lt_or_gt_of_ne hne with hlt|hlt
 .exact h1 j i hj hi hlt e
 .exact h1 i j hi hj hlt e.symm
theorem sP(a m:UInt8):bits .xor .u8 (a.toNat:Int) (m.toNat:Int)=((a ^^^ m).toNat:Int):=by
 have ha:=a.toNat_lt;have hm:=m.toNat_lt;rw[Nu .u8 8 (by decide) wraps_u8 a.toNat m.toNat (by omega) (by omega),UInt8.toNat_xor]
theorem BQ{P:Program}{t ty:TypeId}{i:TypeInfo}{z:Value}{size bytes:Nat}(ht:P.underlying t=some (.slice e))(hi:P.info? e=some i)(hz:i.zero=some z)(hsize:i.size=size)(hby:i.bytes=bytes)(hown:w.ownsRow base e size v n xs){a:Addr}{m c:Nat}{news:List Value}(hl:news.length=m*size)(hnews:∀j u,news[j]?=some u->w.cell? (a.add j)=some u)(h1:∀u∈news,u.oneCell'=true)(hm:0<m)(h63:n+m<=maxLen)(hbytes:(n+m)*bytes<=140737488355328){v':Value} (hrun:(Builtin.append_ #[t,t] ty #[v,.slice (some a) m c]).run P w=.ok v' w'):
  v'.ownBlock=v.ownBlock\/v'.ownBlock=some w.heap.size:=by
 subst hsize;subst hby;have hsmall:n+m<=9223372036854775807:=by simp only[maxLen]at h63;omega
 rcases hown.2 with⟨rfl,rfl⟩|⟨g,cap,cur,rfl,hbg,hg,hnc,hcm,hcs,htake⟩
 .have hx:xs=[]:=zLN (by simpa using hown.1);subst hx;have hr:=run_append_nil (P:=P) w t ty e i z ht hi hz a m c news hl hnews (by omega) (by omega) (by have hb:=hbytes;simp only[zLk]at hb;omega);rw[hr]at hrun;injection hrun with hv _;subst hv;exact Or.inr rfl
 .by_cases hroom:n+m<=cap
  .have hfit:n*i.size+news.length<=cur.size:=by rw[hl,hcs,<-Nat.add_mul];exact Nat.mul_le_mul_right _ hroom
   have hr:=run_append_room (P:=P) w t ty e i ht hi g n cap cur hg a m c news hl hnews h1 hroom hfit;rw[hr]at hrun;injection hrun with hv _;subst hv;exact Or.inl rfl
  .have holds:∀j u,xs[j]?=some u->w.cell? (((aD g 0):Addr).add j)=some u:=hown.cells (g:=g) rfl;have hr:=run_append_grow (P:=P) w t ty e i z ht hi hz (aD g 0) n cap xs hown.1 holds a m c news hl hnews (by omega) (by omega) (growslice_fits (by omega) hbytes);rw[hr]at hrun;injection hrun with hv _;subst hv;exact Or.inr rfl
theorem uG:(Tryz.prog.info? 5).map (fun i=>(i.zero,i.size,i.bytes))=some (some (.int .u8 0),1,1):=by kernel_rfl
theorem qH:(Tryz.prog.info? 9).map (fun i=>(i.zero,i.size,i.bytes))=some (some eS,1,16):=by kernel_rfl
def Fp(P:List BA):List Value:=P.map Value.string
structure K5(w:World)(P:List BA)(ao:Option Addr)(cap:Nat)(wr:World):Prop where
 below:Below w.heap.size w wr
 own:wr.ownsRow w.heap.size 9 1 (.slice ao P.length cap) P.length (Fp P)
theorem K5.start(w:World):K5 w [] none 0 w:=⟨Below.refl _ _,World.ownsRow_nil _ _ _ _⟩
theorem K5.push{wr:World}{P:List BA}{Dj:Option Addr}{cap cap':Nat}(h:K5 w P ao cap wr)(p:BA)(o:Obj)(hg:(wr.alloc o).grownBy w' (Value.slice ao P.length cap).ownBlock)(ho:w'.ownsRow w.heap.size 9 1 (.slice Dj (P.length+1) cap') (P.length+1) (Fp P++[sT p])):K5 w (P++[p]) Dj cap' w':=by
 have hs:=h.below.size;refine⟨(h.below.alloc hs _).grown hg (by simp;omega) (Dx h.own),?_⟩;have:Fp (P++[p])=Fp P++[sT p]:=by simp[Fp]
 rw[this,zLL];exact ho
theorem DV{tg:Tags}{a:Nat}(h:tg k=(o,a))(hn:a≠b):tg k≠(o,b):=fun e=>hn (by rw[h]at e;injection e)
structure MapAt(w:World)(tg:Tags)(o d:Nat)(names:List BA)(ps:List Nat):Prop where
 fr:∀j,w.frozen? (aD d j)=false
 td:tg d=(o,0)
 top:d<w.heap.size
 keys:∃ao cap,w.cell? (aD d 1)=some (.slice ao names.length cap)/\w.ownsRow 0 9 1 (.slice ao names.length cap) names.length (AX names)/\∀g,(Value.slice ao names.length cap).ownBlock=some g->tg g=(o,1)
 vals:∃ao cap,w.cell? (aD d 2)=some (.slice ao names.length cap)/\w.ownsRow 0 65 1 (.slice ao names.length cap) names.length (CF ps)/\∀g,(Value.slice ao names.length cap).ownBlock=some g->tg g=(o,2)
 len:ps.length=names.length
structure BF(w:World)(tg:Tags)(o p id:Nat)(f:M.Fil)(bo:Option Addr)(bc:Nat):Prop where
 c0:w.cell? (aD p 0)=some (.slice bo f.bytes.length bc)
 c1:w.cell? (aD p 1)=some (iT (f.synced:Int))
 fr:∀j,w.frozen? (aD p j)=false
 own:w.ownsRow 0 5 1 (.slice bo f.bytes.length bc) f.bytes.length (DU f.bytes)
 tp:tg p=(o,3+2*id)
 tb:∀g,(Value.slice bo f.bytes.length bc).ownBlock=some g->tg g=(o,4+2*id)
 top:p<w.heap.size
def Am(fs:List M.Fil):List BA:=fs.map fun f=>f.name
@[simp] theorem Ao(fs:List M.Fil):(Am fs).length=fs.length:=by simp[Am]
structure AJ(w:World)(tg:Tags)(o d:Nat)(D:M.Dsk)(ids ps:List Nat):Prop where
 map:MapAt w tg o d (Am D.files) ps
 c0:w.cell? (aD d 0)=some (iT (D.cap:Int))
 c3:w.cell? (aD d 3)=some (.bool D.dead)
 c4:w.cell? (aD d 4)=some (iT (D.Ae:Int))
 nodup:ids.Nodup
 F9:ids.length=D.files.length
 file:∀(i p id:Nat)(f:M.Fil),ps[i]?=some p->ids[i]?=some id->D.files[i]?=some f->∃bo bc,BF w tg o p id f bo bc
theorem MapAt.keep{tg AU:Tags}{names:List BA}(h:MapAt w tg o d names ps)(hs:w.heap.size<=w'.heap.size)(ht:∀k,k<w.heap.size->AU k=tg k)(hb:∀k,k<w.heap.size->(tg k=(o,0)\/tg k=(o,1)\/tg k=(o,2))->w'.heap[k]?=w.heap[k]?):MapAt w' AU o d names ps:=by
 have hd:w'.heap[d]?=w.heap[d]?:=hb d h.top (Or.inl h.td);obtain⟨a1,k1,r1,r2,r3⟩:=h.keys;obtain⟨a2,k2,s1,s2,s3⟩:=h.vals;exact⟨fun j=>(zML (a:=(aD d j)) hd).trans (h.fr j),(ht d h.top).trans h.td,zLJ h.top hs,
  ⟨a1,k1,(zMI (a:=(aD d 1)) hd).trans r1,Ai r2 (fun g hg=>hb g (r2.lt g hg).2 (Or.inr (Or.inl (r3 g hg)))),fun g hg=>(ht g (r2.lt g hg).2).trans (r3 g hg)⟩,
  ⟨a2,k2,(zMI (a:=(aD d 2)) hd).trans s1,Ai s2 (fun g hg=>hb g (s2.lt g hg).2 (Or.inr (Or.inr (s3 g hg)))),fun g hg=>(ht g (s2.lt g hg).2).trans (s3 g hg)⟩,h.len⟩
theorem BF.keep{tg AU:Tags}(h:BF w tg o p id f bo bc)(hs:w.heap.size<=w'.heap.size)(ht:∀k,k<w.heap.size->AU k=tg k)(hb:∀k,k<w.heap.size->tg k=(o,3+2*id)\/tg k=(o,4+2*id)->w'.heap[k]?=w.heap[k]?):BF w' AU o p id f bo bc:=by
 have hp:w'.heap[p]?=w.heap[p]?:=hb p h.top (Or.inl h.tp);exact⟨(zMI (a:=(aD p 0)) hp).trans h.c0,(zMI (a:=(aD p 1)) hp).trans h.c1,fun j=>(zML (a:=(aD p j)) hp).trans (h.fr j),Ai h.own (fun g hg=>hb g (h.own.lt g hg).2 (Or.inr (h.tb g hg))),(ht p h.top).trans h.tp,fun g hg=>(ht g (h.own.lt g hg).2).trans (h.tb g hg),zLJ h.top hs⟩
theorem AJ.keep{w w':World}{tg AU:Tags}{o d:Nat}{D:M.Dsk}{ids ps:List Nat}(h:AJ w tg o d D ids ps)(hs:w.heap.size<=w'.heap.size)(ht:∀k,k<w.heap.size->AU k=tg k)(hb:∀k,k<w.heap.size->(tg k).1=o->w'.heap[k]?=w.heap[k]?):AJ w' AU o d D ids ps:=by
 have hd:w'.heap[d]?=w.heap[d]?:=hb d h.map.top (by rw[h.map.td]);refine⟨h.map.keep hs ht (fun k hk e=>hb k hk (by rcases e with e|e|e<;>rw[e])),(zMI (a:=(aD d 0)) hd).trans h.c0,(zMI (a:=(aD d 3)) hd).trans h.c3,(zMI (a:=(aD d 4)) hd).trans h.c4,h.nodup,h.F9,fun i p id f h1 h2 h3=>?_⟩;obtain⟨bo,bc,hF⟩:=h.file i p id f h1 h2 h3;exact⟨bo,bc,hF.keep hs ht (fun k hk e=>hb k hk (by rcases e with e|e<;>rw[e]))⟩
theorem AJ.kept{tg:Tags}(h:AJ w tg o d D ids ps)(q:Q w w'):AJ w' tg o d D ids ps:=
 h.keep q.below.size (fun _ _=>rfl) (fun k hk _=>q.below.block k hk)
theorem MapAt.kept{tg:Tags}{names:List BA}(h:MapAt w tg o d names ps)(q:Q w w'):MapAt w' tg o d names ps:=
 h.keep q.below.size (fun _ _=>rfl) (fun k hk _=>q.below.block k hk)
structure Jy(tg:Tags)(o d:Nat)(w w':World):Prop where
 os:w'.os=w.os
 tape:w'.tape=w.tape
 output:w'.output=w.output
 size:w.heap.size<=w'.heap.size
 block:∀k,k<w.heap.size->tg k≠(o,0)->tg k≠(o,1)->tg k≠(o,2)->w'.heap[k]?=w.heap[k]?
 c0:w'.cell? (aD d 0)=w.cell? (aD d 0)
 c3:w'.cell? (aD d 3)=w.cell? (aD d 3)
 c4:w'.cell? (aD d 4)=w.cell? (aD d 4)
theorem Jy.only{tg:Tags}(h:Jy tg o d w w'):Only o tg w w':=⟨h.os,h.tape,h.output,h.size,fun k hk hn=>h.block k hk (fun e=>hn (by rw[e])) (fun e=>hn (by rw[e])) (fun e=>hn (by rw[e]))⟩
theorem AJ.vY{tg AU:Tags}(h:AJ w tg o d D ids ps)(ho:Jy tg o d w w')(ht:∀k,k<w.heap.size->AU k=tg k){ps' Al:List Nat}{files':List M.Fil}(hm:MapAt w' AU o d (Am files') ps')(hn:Al.Nodup)(hl:Al.length=files'.length)(zBE:∀(i p id:Nat)(f:M.Fil),ps'[i]?=some p->Al[i]?=some id->files'[i]?=some f->∃bo bc,BF w tg o p id f bo bc):AJ w' AU o d ⟨D.cap,files',D.dead,D.Ae⟩ Al ps':=by
 refine⟨hm,ho.c0.trans h.c0,ho.c3.trans h.c3,ho.c4.trans h.c4,hn,hl,fun i p id f h1 h2 h3=>?_⟩;obtain⟨bo,bc,hF⟩:=zBE i p id f h1 h2 h3;exact⟨bo,bc,hF.keep ho.size ht (fun k hk e=>ho.block k hk (by rcases e with e|e<;>exact DV e (by omega)) (by rcases e with e|e<;>exact DV e (by omega)) (by rcases e with e|e<;>exact DV e (by omega)))⟩
theorem AJ.header{tg:Tags}(h:AJ w tg o d D ids ps)(hg:w.grownBy w' (some d))(hfr:∀j,w'.frozen? (aD d j)=false)(h1:w'.cell? (aD d 1)=w.cell? (aD d 1))(h2:w'.cell? (aD d 2)=w.cell? (aD d 2))(dead:Bool)(Ae:Nat)(k0:w'.cell? (aD d 0)=some (iT (D.cap:Int)))(k3:w'.cell? (aD d 3)=some (.bool dead))(k4:w'.cell? (aD d 4)=some (iT (Ae:Int))):
  AJ w' tg o d ⟨D.cap,D.files,dead,Ae⟩ ids ps:=by
 have hne:∀k,k<w.heap.size->tg k≠(o,0)->w'.heap[k]?=w.heap[k]?:=fun k hk ht=>hg.block k hk (fun e=>ht (by simp at e;rw[e];exact h.map.td));obtain⟨a1,q1,r1,r2,r3⟩:=h.map.keys;obtain⟨a2,q2,s1,s2,s3⟩:=h.map.vals;refine⟨⟨hfr,h.map.td,zLJ h.map.top hg.size,⟨a1,q1,h1.trans r1,Ai r2 (fun g hgb=>hne g (r2.lt g hgb).2 (DV (r3 g hgb) (by omega))),r3⟩,⟨a2,q2,h2.trans s1,Ai s2 (fun g hgb=>hne g (s2.lt g hgb).2 (DV (s3 g hgb) (by omega))),s3⟩,h.map.len⟩,k0,k3,k4,h.nodup,h.F9,fun i p id f e1 e2 e3=>?_⟩;obtain⟨bo,bc,hF⟩:=h.file i p id f e1 e2 e3;exact⟨bo,bc,hF.keep hg.size (fun _ _=>rfl) (fun k hk ho=>hne k hk (by rcases ho with e|e<;>exact DV e (by omega)))⟩
theorem jK(h:ids.Nodup)(hi:ids[i]?=some x)(hj:ids[j]?=some x):i=j:=by
 obtain⟨l1,e1⟩:=zLI.1 hi;obtain⟨l2,e2⟩:=zLI.1 hj;exact(List.getElem_inj h).1 (e1.trans e2.symm)
theorem AJ.turn{tg AU:Tags}(h:AJ w tg o d D ids ps)(hp:ps[i]?=some p)(hid:ids[i]?=some id)(hf:D.files[i]?=some f)(hs:w.heap.size<=w'.heap.size)(ht:∀k,k<w.heap.size->AU k=tg k)(hb:∀k,k<w.heap.size->tg k≠(o,3+2*id)->tg k≠(o,4+2*id)->w'.heap[k]?=w.heap[k]?)(f':M.Fil)(hn:f'.name=f.name)(hF:BF w' AU o p id f' bo bc):
  AJ w' AU o d ⟨D.cap,D.files.set i f',D.dead,D.Ae⟩ ids ps:=by
 have hd:w'.heap[d]?=w.heap[d]?:=hb d h.map.top (DV h.map.td (by omega)) (DV h.map.td (by omega));have hnm:Am (D.files.set i f')=Am D.files:=by
  unfold Am;rw[List.map_set];obtain⟨hi,he⟩:=zLI.1 hf;apply List.ext_getElem (by simp);intro n h1 h2;rw[List.getElem_set];split
  .rename_i e;subst e;rw[List.getElem_map,he,hn]
  .rfl
 refine⟨by rw[hnm];exact h.map.keep hs ht (fun k hk e=>hb k hk (by rcases e with e|e|e<;>exact DV e (by omega)) (by rcases e with e|e|e<;>exact DV e (by omega))),(zMI (a:=(aD d 0)) hd).trans h.c0,(zMI (a:=(aD d 3)) hd).trans h.c3,(zMI (a:=(aD d 4)) hd).trans h.c4,h.nodup,by simpa using h.F9,fun j p' id' g hp' hi' hg=>?_⟩;by_cases hj:j=i
 .subst hj;rw[hp]at hp';rw[hid]at hi';obtain rfl:=Option.some.inj hp';obtain rfl:=Option.some.inj hi';have hl:j<D.files.length:=by have:=(zLI.1 hg).1;simpa using this
  simp only[List.getElem?_set_self hl,zLO]at hg;subst hg;exact⟨bo,bc,hF⟩
 .simp only at hg;rw[List.getElem?_set_ne (Ne.symm hj)]at hg;obtain⟨gF,bc',hF'⟩:=h.file j p' id' g hp' hi' hg;have hne:id'≠id:=fun e=>by
   subst e;exact hj (jK h.nodup hi' hid)
  exact⟨gF,bc',hF'.keep hs ht (fun k hk ho=>hb k hk (by rcases ho with e|e<;>exact DV e (by omega)) (by rcases ho with e|e<;>exact DV e (by omega)))⟩
theorem MapAt.at{tg:Tags}{names:List BA}(h:MapAt w tg o d names ps)(hi:i<names.length):
  ∃g cap gv Ia p,w.cell? (aD d 1)=some (.slice (some (aD g 0)) names.length cap)/\w.cell? (aD d 2)=some (.slice (some (aD gv 0)) names.length Ia)/\tg g=(o,1)/\tg gv=(o,2)/\g<w.heap.size/\gv<w.heap.size/\ps[i]?=some p /\
   (∀j nm,names[j]?=some nm->w.cell? (aD g j)=some (sT nm))/\(∀j q,ps[j]?=some q->w.cell? (aD gv j)=some (pT q)):=by
 obtain⟨a1,k1,r1,r2,r3⟩:=h.keys;obtain⟨a2,k2,s1,s2,s3⟩:=h.vals;obtain⟨p,hp⟩:∃p,ps[i]?=some p:=⟨_,zLH (by rw[h.len];exact hi)⟩;rcases r2.2 with⟨_,h0⟩|⟨g,c,cur,hv,_,hh,_⟩
 .omega
 rcases s2.2 with⟨_,h0⟩|⟨gv,cv,zFU,hvv,_,hhv,_⟩
 .omega
 injection hv with e1 e2 e3;injection hvv with f1 f2 f3;subst e1 e3 f1 f3;refine⟨g,k1,gv,k2,p,r1,s1,r3 g rfl,s3 gv rfl,(zLM.1 hh).1,(zLM.1 hhv).1,hp,fun j nm hj=>?_,fun j q hj=>?_⟩
 .rw[r2.cellAt j (by have:=(zLI.1 hj).1;omega)];simp[AX,hj]
 .rw[s2.cellAt j (by have:=(zLI.1 hj).1;have:=h.len;omega)];simp[CF,hj]
def Bg(tg:Tags)(o d:Nat)(D':M.Dsk)(w w':World):Prop:=∃(AU:Tags)(Al ps':List Nat),(∀k,k<w.heap.size->AU k=tg k)/\AJ w' AU o d D' Al ps'/\Only o tg w w'
theorem Bg.same{tg:Tags}{D':M.Dsk}(h:AJ w' tg o d D' ids ps)(ho:Only o tg w w'):Bg tg o d D' w w':=⟨tg,ids,ps,fun _ _=>rfl,h,ho⟩
theorem Cq.kept{vo:Option Addr}{vs:List M.Ver}(h:Cq w vo vs)(q:Q w w'):Cq w' vo vs:=
 ⟨h.1,fun i v hi=>by
  obtain⟨b,off,e,hb,c0,c1,c2,c3⟩:=h.2 i v hi;have k:∀o,w'.cell? (aD b o)=w.cell? (aD b o):=fun o=>q.below.cell (p:=(aD b o)) hb;exact⟨b,off,e,zLJ hb q.below.size,(k _).trans c0,(k _).trans c1,(k _).trans c2,(k _).trans c3⟩⟩
theorem R9{α β:Type}(f:β->α->β)(z:β){l:List α}{x:α}(h:l[k]?=some x):(l.take (k+1)).foldl f z=f ((l.take k).foldl f z) x:=by
 have e:l.take (k+1)=l.take k++[x]:=by rw[zLv,h];rfl
 rw[e,zMG];rfl
theorem Vu(fo no:Option Addr)(fc nc:Nat)(l:M.Lif)(key:BA)(w:World):
  Calls Tryz.prog 73 #[.agg (AV fo no fc nc l),sT key] w fun e w'=>e=.returned (iT (l.asked key:Nat))/\Q w w':=by
 go_in;unfold AV
 cases hd:l.dead with
 |true =>
  go_wp2;go_ret;exact⟨by unfold M.Lif.asked;rw[if_pos hd];rfl,(Q.refl w).alloc _ _⟩
 |false =>
  by_cases h1:key.size<1
  .go_wp2;go_ret;exact⟨by unfold M.Lif.asked;rw[if_neg (by simp[hd]),if_pos (Or.inl h1)];rfl,(Q.refl w).alloc _ _⟩
  .by_cases h2:64<key.size
   .go_wp2;go_ret;exact⟨by unfold M.Lif.asked;rw[if_neg (by simp[hd]),if_pos (Or.inr h2)];rfl,(Q.refl w).alloc _ _⟩
   .go_wp2;go_ret;exact⟨by unfold M.Lif.asked;rw[if_neg (by simp[hd]),if_neg (by omega)];rfl,(Q.refl w).alloc _ _⟩
theorem pY(vo:Option Addr)(vc:Nat)(s:M.Sta)(key:BA)(hl:s.AB.length<=140737488355328)(w:World)(h:Cq w vo s.AB):
  Calls Tryz.prog 74 #[.agg #[.slice vo s.AB.length vc,iT s.water],sT key] w fun e w'=>e=.returned (iT (s.last key))/\Q w w':=by
 have qq:Q w (w.alloc (.cells #[.slice vo s.AB.length vc,iT s.water] 46)):=(Q.refl w).alloc _ _;have HV:=h_ (h.kept qq);have HQ:Hid _:=qq;obtain⟨wa,Bp⟩:=ex (w.alloc (.cells #[.slice vo s.AB.length vc,iT s.water] 46));have a0:wa.cell? (aD w.heap.size 0)=some (.slice vo s.AB.length vc):=by subst Bp;simp
 have hsz:w.heap.size<wa.heap.size:=by subst Bp;simp
 have HW:=h_ Bp;go_in;go_wp2_with fail;simp only[<-Bp]at*
 go_loopw [5,6] (fun n i wr=>∃k:Nat,i=iT k/\k<=s.AB.length/\n=iT ((s.AB.take k).foldl (M.DT key) (-1))/\Q wa wr) (fun _ i _=>s.AB.length-(intOf i).toNat)
 case atStart=>exact⟨0,rfl,zLS _,rfl,Q.refl _⟩
 case round =>
  obtain⟨k,rfl,hk,rfl,hq⟩:=hrel;have b0:wr.cell? (aD w.heap.size 0)=some (.slice vo s.AB.length vc):=(hq.below.cell (p:=(aD w.heap.size 0)) hsz).trans a0;by_cases hlt:k<s.AB.length
  .have hf:s.AB[k]?=some s.AB[k]:=zLH hlt;obtain⟨b,off,hso,hbw,c0,c1,c2,c3⟩:=(HV.out.kept hq).2 k _ hf;subst hso;have HN:=h_ (R9 (M.DT key) (-1) hf);have i1:(k:Int)<(s.AB.length:Int):=by omega
   ((have i0:(0:Int)<=(k:Int):=by omega);have wk:IntKind.i64.wrap ((k:Int)+1)=(k:Int)+1:=by rw[IntKind.wrap_i64];omega);have hwr:w.heap.size<wr.heap.size:=zLJ hsz hq.below.size;generalize (s.AB.take k).foldl (M.DT key) (-1)=n at*;generalize s.AB[k]=v at*
   cases hk1:v.Vy key with
   |true =>
    by_cases hn:n<v.stamp
    ·((((have HE:Hid (M.DT key n v=v.stamp):=by show M.DT key n v=v.stamp;unfold M.DT;simp[hk1,hn]);unfold M.Ver.Vy at hk1;go_wp2_with fail);go_roundw);case rel=>exact⟨k+1,by go_num,by omega,by rw[HN.out,HE.out],hq⟩);case measure=>simp[intOf];omega
    ·((((have HE:Hid (M.DT key n v=n):=by show M.DT key n v=n;unfold M.DT;simp[hn]);unfold M.Ver.Vy at hk1;go_wp2_with fail);go_roundw);case rel=>exact⟨k+1,by go_num,by omega,by rw[HN.out,HE.out],hq⟩);case measure=>simp[intOf];omega
   |false =>
    ((((have HE:Hid (M.DT key n v=n):=by show M.DT key n v=n;unfold M.DT;simp[hk1]);unfold M.Ver.Vy at hk1;go_wp2_with fail);go_roundw);case rel=>exact⟨k+1,by go_num,by omega,by rw[HN.out,HE.out],hq⟩);case measure=>simp[intOf];omega
  .obtain rfl:k=s.AB.length:=by omega
   go_wp2;go_ret;exact⟨by unfold M.Sta.last;rw[zM0];rfl,HQ.out.trans hq⟩
def FK(v:M.Ver):Value:=.agg #[sT v.key,iT v.stamp,sT v.value,.bool v.gone]
theorem ML{W:World}{B:Nat}{a b c d:Value}(h:W.cell? (aD (B+1) o)=some v):((((W.setCell (aD B 0) a).setCell (aD B 1) b).setCell (aD B 2) c).setCell (aD B 3) d).cell? (aD (B+1) o)=some v:=by
 rw[zMH _ _ _ _ (by intro e;injection e;omega),zMH _ _ _ _ (by intro e;injection e;omega),zMH _ _ _ _ (by intro e;injection e;omega),zMH _ _ _ _ (by intro e;injection e;omega)];exact h
theorem uE(vo:Option Addr)(vc:Nat)(s:M.Sta)(key:BA)(stamp:Int)(hl:s.AB.length<=140737488355328)(w:World)(h:Cq w vo s.AB):
  Calls Tryz.prog 78 #[.agg #[.slice vo s.AB.length vc,iT s.water],sT key,iT stamp] w fun e w'=>e=.returned (.tuple #[FK (s.at key stamp),.bool (decide (0<=(s.at key stamp).stamp))])/\Q w w':=by
 obtain⟨wa,Bp⟩:=ex (((w.alloc (.cells #[.slice vo s.AB.length vc,iT s.water] 46)).alloc (.cells #[eS,iT 0,eS,.bool false] 76)).alloc (.cells #[eS,iT (-1),eS,.bool false] 76));have qa:Q w wa:=by rw[Bp];exact(((Q.refl w).alloc _ _).alloc _ _).alloc _ _
 have a0:Ca wa w.heap.size [.slice vo s.AB.length vc,iT s.water]:=by rw[Bp];exact((AZ w [.slice vo s.AB.length vc,iT s.water] _).kept ((Q.refl _).alloc _ _)).kept ((Q.refl _).alloc _ _)
 have a1:Ca wa (w.heap.size+1) [eS,iT 0,eS,.bool false]:=by
  have:=(AZ (w.alloc (.cells #[.slice vo s.AB.length vc,iT s.water] 46)) [eS,iT 0,eS,.bool false] 76).kept ((Q.refl _).alloc #[eS,iT (-1),eS,.bool false] 76);rw[Bp];simpa using this
 have a2:Ca wa (w.heap.size+1+1) (M.Nz).cells:=by
  have:=AZ ((w.alloc (.cells #[.slice vo s.AB.length vc,iT s.water] 46)).alloc (.cells #[eS,iT 0,eS,.bool false] 76)) (M.Nz).cells 76;rw[Bp];simpa[M.Ver.cells,M.Nz]using this
 have HA0:=h_ a0;have HA1:=h_ a1;have HA2:=h_ a2;have HQ:Hid _:=qa;have HV:=h_ h;have HW:Hid _:=Bp;have hsz:wa.heap.size=w.heap.size+1+1+1:=by rw[Bp];simp
 have HZ:Hid _:=hsz;go_in;go_wp2_with fail;rw[<-HW.out]
 go_loopw [9] (fun i wr=>∃k:Nat,i=iT k/\k<=s.AB.length/\Ca wr (w.heap.size+1+1) ((s.AB.take k).foldl (M.EZ key stamp) M.Nz).cells/\Below (w.heap.size+1+1) wa wr) (fun i _=>s.AB.length-(intOf i).toNat)
 case atStart=>exact⟨0,rfl,zLS _,HA2.out,Below.refl _ _⟩
 case round =>
  obtain⟨k,rfl,hk,hb,hB⟩:=hrel;have HB:=h_ hB;have zu:=h_ hb;have hq:Q w wr:=⟨HQ.out.below.trans (hB.mono (by omega))⟩;have hbs:w.heap.size+1+1<wr.heap.size:=hb.1;by_cases hlt:k<s.AB.length
  .have hf:s.AB[k]?=some s.AB[k]:=zLH hlt;obtain⟨b,off,hso,hbw,c0,c1,c2,c3⟩:=(HV.out.kept hq).2 k _ hf;subst hso;have b0:wr.cell? (aD w.heap.size 0)=some (.slice (some (aD b off)) s.AB.length vc):=(HA0.out.below hB (by omega)).cell 0 rfl;have HN:=h_ (R9 (M.EZ key stamp) M.Nz hf);have i1:(k:Int)<(s.AB.length:Int):=by omega
   ((have i0:(0:Int)<=(k:Int):=by omega);have wk:IntKind.i64.wrap ((k:Int)+1)=(k:Int)+1:=by rw[IntKind.wrap_i64];omega);generalize (s.AB.take k).foldl (M.EZ key stamp) M.Nz=n at*;have n0:=hb.cell 0 rfl;have n1:=hb.cell 1 rfl;have n2:=hb.cell 2 rfl;have n3:=hb.cell 3 rfl;have m0:=hb.free 0 rfl;have m1:=hb.free 1 rfl;have m2:=hb.free 2 rfl;have m3:=hb.free 3 rfl;generalize s.AB[k]=v at*
   cases hk1:v.Vy key with
   |true =>
    by_cases hs:v.stamp<=stamp
    .by_cases hn:n.stamp<v.stamp
     ·((have HE:Hid (M.EZ key stamp n v=v):=by show M.EZ key stamp n v=v;unfold M.EZ;simp[hk1,hs,hn]);unfold M.Ver.Vy at hk1;go_wp2_with fail);go_roundw
      case rel =>
       refine⟨k+1,by go_num,by omega,?_,?_⟩
       .rw[HN.out,HE.out];exact((((zu.out.set 0 _).set 1 _).set 2 _).set 3 _).kept ((Q.refl _).alloc _ _)
       .exact(((((HB.out.setCell (zLK _) _).setCell (zLK _) _).setCell (zLK _) _).setCell (zLK _) _).alloc (Nat.le_of_lt ((((zu.out.set 0 _).set 1 _).set 2 _).set 3 _).1) _)
      case measure=>simp[intOf];omega
     ·((have HE:Hid (M.EZ key stamp n v=n):=by show M.EZ key stamp n v=n;unfold M.EZ;simp[hn]);unfold M.Ver.Vy at hk1;go_wp2_with fail);go_roundw
      case rel =>
       refine⟨k+1,by go_num,by omega,?_,?_⟩
       .rw[HN.out,HE.out];exact zu.out.kept ((Q.refl _).alloc _ _)
       .exact HB.out.alloc (by omega) _
      case measure=>simp[intOf];omega
    ·((have HE:Hid (M.EZ key stamp n v=n):=by show M.EZ key stamp n v=n;unfold M.EZ;simp[hs]);unfold M.Ver.Vy at hk1;go_wp2_with fail);go_roundw
     case rel =>
      refine⟨k+1,by go_num,by omega,?_,?_⟩
      .rw[HN.out,HE.out];exact zu.out.kept ((Q.refl _).alloc _ _)
      .exact HB.out.alloc (by omega) _
     case measure=>simp[intOf];omega
   |false =>
     ((have HE:Hid (M.EZ key stamp n v=n):=by show M.EZ key stamp n v=n;unfold M.EZ;simp[hk1]);unfold M.Ver.Vy at hk1;go_wp2_with fail);go_roundw
     case rel =>
      refine⟨k+1,by go_num,by omega,?_,?_⟩
      .rw[HN.out,HE.out];exact zu.out.kept ((Q.refl _).alloc _ _)
      .exact HB.out.alloc (by omega) _
     case measure=>simp[intOf];omega
  .obtain rfl:k=s.AB.length:=by omega
   (have b0:wr.cell? (aD w.heap.size 0)=some (.slice vo s.AB.length vc):=(HA0.out.below hB (by omega)).cell 0 rfl;rw[zM0]at hb;obtain⟨n,hn⟩:=xe (s.at key stamp);have hb:Ca wr (w.heap.size+1+1) n.cells:=by rw[<-hn];exact hb);have HN:=h_ hn;have n0:wr.cell? (aD (w.heap.size+1+1) 0)=some (sT n.key):=hb.cell 0 rfl;have n1:wr.cell? (aD (w.heap.size+1+1) 1)=some (iT n.stamp):=hb.cell 1 rfl;have n2:wr.cell? (aD (w.heap.size+1+1) 2)=some (sT n.value):=hb.cell 2 rfl;have n3:wr.cell? (aD (w.heap.size+1+1) 3)=some (.bool n.gone):=hb.cell 3 rfl;have hr:=HA1.out.below hB (by omega);have r0:wr.cell? (aD (w.heap.size+1) 0)=some eS:=hr.cell 0 rfl;have r1:wr.cell? (aD (w.heap.size+1) 1)=some (iT 0):=hr.cell 1 rfl;have r2:wr.cell? (aD (w.heap.size+1) 2)=some eS:=hr.cell 2 rfl;have r3:wr.cell? (aD (w.heap.size+1) 3)=some (.bool false):=hr.cell 3 rfl;have m0:=hr.free 0 rfl;have m1:=hr.free 1 rfl;have m2:=hr.free 2 rfl;have m3:=hr.free 3 rfl;have HK:Hid (Ca ((((wr.setCell (aD (w.heap.size+1) 0) (sT n.key)).setCell (aD (w.heap.size+1) 1) (iT n.stamp)).setCell (aD (w.heap.size+1) 2) (sT n.value)).setCell (aD (w.heap.size+1) 3) (.bool n.gone)) (w.heap.size+1) n.cells):=(((hr.set 0 _).set 1 _).set 2 _).set 3 _;have HQr:=h_ hq;go_upto_region 8 with fail
   go_region_held3 (fun w'=>w'.cell? (aD (w.heap.size+1+1) 0)=some (sT n.key)/\w'.cell? (aD (w.heap.size+1+1) 1)=some (iT n.stamp)/\w'.cell? (aD (w.heap.size+1+1) 2)=some (sT n.value)/\w'.cell? (aD (w.heap.size+1+1) 3)=some (.bool n.gone))
    (first|exact⟨n0,n1,n2,n3⟩|exact⟨ML n0,ML n1,ML n2,ML n3⟩)
    (fail)
   all_goals
    go_wp2_with fail;have k0:=HK.out.cell 0 (v:=sT n.key) rfl;have k1:=HK.out.cell 1 (v:=iT n.stamp) rfl;have k2:=HK.out.cell 2 (v:=sT n.value) rfl;have k3:=HK.out.cell 3 (v:=.bool n.gone) rfl;refine bodyPost_ret (v:=.tuple #[FK n,.bool (decide (0<=n.stamp))]) (by simp[results,Tryz.results78,go_sem,k0,k1,k2,k3,FK]) rfl ?_;exact⟨by rw[HN.out],((((HQr.out.setCell (p:=(aD (w.heap.size+1) 0)) (Nat.le_succ _) _).setCell (p:=(aD (w.heap.size+1) 1)) (Nat.le_succ _) _).setCell (p:=(aD (w.heap.size+1) 2)) (Nat.le_succ _) _).setCell (p:=(aD (w.heap.size+1) 3)) (Nat.le_succ _) _).drew⟩
theorem jU(fo no:Option Addr)(fc nc:Nat)(l:M.Lif)(key:BA)(stamp:Int)(hl:l.now.AB.length<=140737488355328)(w:World)(h:Cq w no l.now.AB):
  Calls Tryz.prog 50 #[.agg (AV fo no fc nc l),sT key,iT stamp] w fun e w'=>e=.returned (.tuple #[sT (l.Cb key stamp).1,.bool (l.Cb key stamp).2.1,iT ((l.Cb key stamp).2.2:Nat)])/\Q w w':=by
 have fK:Hid (∀W,Calls Tryz.prog 73 #[.agg (AV fo no fc nc l),sT key] W fun e w'=>e=.returned (iT (l.asked key:Nat))/\Q W w'):=fun W=>Vu fo no fc nc l key W;have yu:Hid (∀W,Q w W->Calls Tryz.prog 78 #[.agg #[.slice no l.now.AB.length nc,iT l.now.water],sT key,iT stamp] W fun e w'=>e=.returned (.tuple #[FK (l.now.at key stamp),.bool (decide (0<=(l.now.at key stamp).stamp))])/\Q W w'):=fun W q=>uE no nc l.now key stamp hl W (h.kept q);obtain⟨g,hg⟩:=xe (l.Cb key stamp);have HG:=h_ hg;rw[HG.out];obtain⟨a,ha⟩:=xe (l.asked key);obtain⟨v,hv⟩:=xe (l.now.at key stamp);rw[ha]at fK;rw[hv]at yu;unfold AV at*;have HE:Hid (g=if a≠0 then(⟨#[]⟩,false,a)else if stamp<0\/stamp<l.now.water then(⟨#[]⟩,false,12)else if v.stamp<0\/v.gone=true then(⟨#[]⟩,false,0)else(v.value,true,0)):=by
  show g=_
  rw[<-hg,<-ha,<-hv];rfl
 obtain⟨w1,hw1⟩:=ex (w.alloc (.cells #[.slice fo l.flushed.AB.length fc,iT l.flushed.water,.slice no l.now.AB.length nc,iT l.now.water,.bool l.pending,.bool l.dead,.bool l.late] 49));have q1:Q w w1:=by rw[hw1];exact(Q.refl w).alloc _ _
 have v1:Ca w1 w.heap.size [.slice fo l.flushed.AB.length fc,iT l.flushed.water,.slice no l.now.AB.length nc,iT l.now.water,.bool l.pending,.bool l.dead,.bool l.late]:=by rw[hw1];exact AZ w _ _
 have HW:=h_ hw1;have Qp:=h_ q1;have HV1:=h_ v1;go_in;go_wp2_with fail;apply(fK.out _).mono;rintro e w2⟨rfl,q2⟩;rw[<-HW.out]at q2;have fJ:=h_ (Qp.out.trans q2);have v2:=HV1.out.kept q2;have c2:w2.cell? (aD w.heap.size 2)=some (.slice no l.now.AB.length nc):=v2.cell 2 rfl;have c3:w2.cell? (aD w.heap.size 3)=some (iT l.now.water):=v2.cell 3 rfl;by_cases ha:a=0
 .subst ha;by_cases hs:stamp<0
  .go_wp2_with fail;refine bodyPost_ret (v:=.tuple #[eS,.bool false,iT 12]) (by simp[results,Tryz.results50,go_sem]) rfl ?_;exact⟨by rw[HE.out,if_neg (by simp),if_pos (Or.inl hs)];rfl,fJ.out⟩
  .by_cases hw:stamp<l.now.water
   .go_wp2_with fail;refine bodyPost_ret (v:=.tuple #[eS,.bool false,iT 12]) (by simp[results,Tryz.results50,go_sem]) rfl ?_;exact⟨by rw[HE.out,if_neg (by simp),if_pos (Or.inr hw)];rfl,fJ.out⟩
   .have HC:=hU (yu.out w2 fJ.out);go_wp2_with fail;apply(HC.out ()).mono;rintro e w3⟨rfl,q3⟩;have HQ3:=h_ (fJ.out.trans q3);unfold FK;by_cases hvs:v.stamp<0
    ·(have hv0:¬(0<=v.stamp):=by omega);go_wp2_with fail;refine bodyPost_ret (v:=.tuple #[eS,.bool false,iT 0]) (by simp[results,Tryz.results50,go_sem]) rfl ?_;exact⟨by rw[HE.out,if_neg (by simp),if_neg (by omega),if_pos (Or.inl hvs)];rfl,HQ3.out.alloc _ _⟩
    .have hv0:0<=v.stamp:=by omega
     cases hgo:v.gone with
     |true =>
      go_wp2_with fail;refine bodyPost_ret (v:=.tuple #[eS,.bool false,iT 0]) (by simp[results,Tryz.results50,go_sem]) rfl ?_;exact⟨by rw[HE.out,if_neg (by simp),if_neg (by omega),if_pos (Or.inr hgo)];rfl,HQ3.out.alloc _ _⟩
     |false =>
      go_wp2_with fail;refine bodyPost_ret (v:=.tuple #[sT v.value,.bool true,iT 0]) (by simp[results,Tryz.results50,go_sem]) rfl ?_;exact⟨by rw[HE.out,if_neg (by simp),if_neg (by omega),if_neg (by simp[hgo];omega)];rfl,HQ3.out.alloc _ _⟩
 .have h1:¬((a:Int)=0):=by omega
  go_wp2_with fail;refine bodyPost_ret (v:=.tuple #[eS,.bool false,iT (a:Nat)]) (by simp[results,Tryz.results50,go_sem]) rfl ?_;exact⟨by rw[HE.out,if_pos ha],fJ.out⟩
def BV(vs:List M.Ver):List Value:=vs.flatMap M.Ver.cells
theorem Oi(A B:List M.Ver):BV (A++B)=BV A++BV B:=by simp[BV]
theorem G5(r:M.Ver):BV [r]=r.cells:=by simp[BV]
theorem Ga(L:List M.Ver):(BV L).length=L.length*4:=by
 induction L with
 |nil=>rfl
 |cons s L ih=>show(s.cells++BV L).length=_;rw[zLL,ih];simp[M.Ver.cells];omega
theorem JV:∀{L:List M.Ver}{k:Nat}{r:M.Ver},L[k]?=some r->(BV L)[k*4]?=some (sT r.key)/\(BV L)[k*4+1]?=some (iT r.stamp)/\(BV L)[k*4+2]?=some (sT r.value)/\(BV L)[k*4+3]?=some (.bool r.gone)
 |[],_,_,h=>by simp at h
 |t::L,0,r,h=>by
  simp at h;subst h;exact⟨rfl,rfl,rfl,rfl⟩
 |t::L,k+1,r,h=>by
  have e:BV (t::L)=sT t.key::iT t.stamp::sT t.value::.bool t.gone::BV L:=rfl;have ih:=JV (L:=L) (k:=k) (r:=r) (by simpa using h);rw[e,show(k+1)*4=k*4+1+1+1+1 by omega];simpa using ih
theorem Ii(vs:List M.Ver):∀u∈BV vs,u.oneCell'=true:=by
 intro u hu;simp only[BV,List.mem_flatMap,M.Ver.cells]at hu;obtain⟨s,_,hu⟩:=hu;simp at hu;rcases hu with rfl|rfl|rfl|rfl<;>rfl
theorem Cq.OC{off:Nat}{vs:List M.Ver}(h:Cq w (some (aD b off)) vs):∀j u,(BV vs)[j]?=some u->w.cell? (((aD b off):Addr).add j)=some u:=by
 intro j u hu;have hx:((aD b off):Addr).add j=(aD b (off+j)):=by unfold Addr.add;split<;>simp_all
 rw[hx];have hlt:j<vs.length*4:=by
  rcases zLn j (vs.length*4)with hl|hl
  .exact hl
  .rw[zMC (by rw[Ga];exact hl)]at hu;simp at hu
 have hk:j/4<vs.length:=by omega
 have hs:vs[j/4]?=some vs[j/4]:=zLH hk;obtain⟨b',off',e,_,h0,h1,h2,h3⟩:=h.2 _ _ hs;injection e with e;injection e with e1 e2;subst e1 e2;obtain⟨c0,c1,c2,c3⟩:=JV hs;have hj:j=j/4*4\/j=j/4*4+1\/j=j/4*4+2\/j=j/4*4+3:=by omega
 rcases hj with e|e|e|e
 .rw[e]at hu⊢;rw[c0]at hu;rw[<-hu];exact h0
 .rw[e]at hu⊢;rw[c1]at hu;rw[<-hu];exact h1
 .rw[e]at hu⊢;rw[c2]at hu;rw[<-hu];exact h2
 .rw[e]at hu⊢;rw[c3]at hu;rw[<-hu];exact h3
theorem o7{cap:Nat}{L:List M.Ver}(h:w.ownsRow base 76 4 (.slice ao L.length cap) L.length (BV L)):Cq w ao L:=by
 have hl:=Ga L;refine⟨fun e=>?_,?_⟩
 .subst e;rcases h.2 with⟨_,h0⟩|⟨g,c,cur,hv,_⟩
  .exact zLN h0
  .injection hv with e1;cases e1
 .intro i v hi;have hL:L.length≠0:=fun e=>by rw[zLN e]at hi;simp at hi
  rcases h.2 with⟨_,h0⟩|⟨g,c,cur,hv,hg,hh,_⟩
  .exact absurd h0 hL
  .injection hv with e1 _ e3;subst e1 e3;have hlt:g<w.heap.size:=by
    rcases zLn g w.heap.size with hl|hl
    .exact hl
    .rw[zM4 hl]at hh;simp at hh
   have hc:∀j u,(BV L)[j]?=some u->w.cell? (aD g (0+j))=some u:=fun j u hu=>by
    have hj:j<(BV L).length:=(zLI.1 hu).1;rw[zLk,h.cellAt j (by omega)];exact hu
   obtain⟨c0,c1,c2,c3⟩:=JV hi;exact⟨g,0,rfl,hlt,hc _ _ c0,hc _ _ c1,hc _ _ c2,hc _ _ c3⟩
theorem Sq(w:World)(r:M.Ver)(t:TypeId):∀j u,r.cells[j]?=some u->(w.alloc (.cells #[sT r.key,iT r.stamp,sT r.value,.bool r.gone] t)).cell? (((aD w.heap.size 0):Addr).add j)=some u:=by
 intro j u hj
 match j,hj with
 |0,hj=>simp[M.Ver.cells]at hj;subst hj;simp[Addr.add]
 |1,hj=>simp[M.Ver.cells]at hj;subst hj;simp[Addr.add]
 |2,hj=>simp[M.Ver.cells]at hj;subst hj;simp[Addr.add]
 |3,hj=>simp[M.Ver.cells]at hj;subst hj;simp[Addr.add]
 |j+4,hj=>simp[M.Ver.cells]at hj
theorem AJ.owner{tg AU:Tags}{o':Nat}(h:AJ w tg o d D ids ps)(ht:∀k,k<w.heap.size->(tg k).1=o->AU k=(o',(tg k).2)):AJ w AU o' d D ids ps:=by
 have hh:∀k u,k<w.heap.size->tg k=(o,u)->AU k=(o',u):=fun k u hk e=>by rw[ht k hk (by rw[e]),e]
 obtain⟨a1,k1,r1,r2,r3⟩:=h.map.keys;obtain⟨a2,k2,s1,s2,s3⟩:=h.map.vals;refine⟨⟨h.map.fr,hh d _ h.map.top h.map.td,h.map.top,⟨a1,k1,r1,r2,fun g hg=>hh g _ (r2.lt g hg).2 (r3 g hg)⟩,⟨a2,k2,s1,s2,fun g hg=>hh g _ (s2.lt g hg).2 (s3 g hg)⟩,h.map.len⟩,h.c0,h.c3,h.c4,h.nodup,h.F9,fun i p id f h1 h2 h3=>?_⟩;obtain⟨bo,bc,hF⟩:=h.file i p id f h1 h2 h3;exact⟨bo,bc,hF.c0,hF.c1,hF.fr,hF.own,hh p _ hF.top hF.tp,fun g hg=>hh g _ (hF.own.lt g hg).2 (hF.tb g hg),hF.top⟩
end Go.Proofs.YtekdenkllipehaaGreatDoor
