import Derived.Test.YtekdenkllipehaaGreatDoorP15
import Derived.Test.YtekdenkllipehaaGreatDoorP18
import Derived.Shelf.Spec.SlicesInsert
import Derived.Laws.Rows
import Derived.Lib.SlicesDelete
import Derived.Maps.AppendAt
set_option maxRecDepth 99999
set_option maxHeartbeats 0
namespace Go.Proofs.YtekdenkllipehaaGreatDoor
open Go.RowKit
variable{a c w:World}
theorem rdg{P:Program}{md:Region.Mode}{ops:Array Oper}{Q:Exit->Act->World->Prop}{S:World->Prop}(i:Nat){o:Oper}{fuel:Nat}{listed:Array Bool}{a:Act}(h:∀K:Act->World->Prop,Shut (∀a w,S w->(S w->wpAnyH P md ops Q S fuel (listed.setIfInBounds i true) a w)->K a w)->if Region.wanted o (yielded ops a.tmps)=true then Oper.wp P o a w K Q else K (a.put o.dst undef) w)(hv:listed.getD i true=false:=by decide)(ho:ops[i]?=some o:=by rfl)(hr:Region.ready md ops listed=[i]:=by kernel_rfl):wpAnyH P md ops Q S (fuel+1) listed a w:=
 have _:=hv
 wpAnyH_ready hr (by simp) (AllReadyH.cons ho h AllReadyH.nil)
theorem Ht(n:Nat)(hn:n<72057594037927936):∃a:BA,a.size<=8/\Hid (a.data.toList=M.enc 7 n) /\
  Hid (∀W:World,Calls Tryz.prog 149 #[iT (n:Int)] W fun e w'=>e=.returned (sT a)/\Q W w'):=by
 refine⟨⟨(M.enc 7 n).toArray⟩,?_,?_,?_⟩
 .have:=EP 7 n;simpa[ByteArray.size]using this
 .exact List.toList_toArray ..
 .exact fun W=>J6 n hn W
theorem cell_grown{w':World}{row:Option Nat}{p:Addr}{v:Value}(hg:w.grownBy w' row)(h:w.cell? p=some v)(hne:row≠some p.block):w'.cell? p=some v:=
 (zMI (hg.block p.block (Zq h) (fun e=>hne e.symm))).trans h
theorem lg(k:Nat)(W:World)(b:Nat)(h:W.cell? (aD b 0)=some (.int .u8 (k:Int))):
  (convert 89 9 (.slice (some (aD b 0)) 1 1)).run Tryz.prog W=.ok (sT ⟨#[UInt8.ofNat k]⟩) W:=
 run_convert_bytes_arg (P:=Tryz.prog) W 89 5 Tryz.underlying89 Tryz.underlying5 b 0 1 1 [(k:Int)] rfl (fun i hi=>by
  obtain rfl:i=0:=by omega
  simpa using h) 9 Tryz.underlying9
theorem Ql{rs:List Rec}{k:Nat}{r:Rec}(hr:rs[k]?=some r):common (Dy rs k).data.toList r.key.data.toList=Av rs k r:=by
 unfold Dy Av;by_cases h8:k%8=0
 .rw[if_pos h8,if_neg (by omega)];rfl
 .rw[if_neg h8,if_pos (by omega)]
  match k with
  |0=>simp at h8
  |k+1 =>
   have hl:k+1<rs.length:=(zLI.1 hr).1;have hg:rs[k]?=some rs[k]:=zLH (by omega);simp only[before,zM7,hg,List.getD,zM1,zLT]
theorem iK(P:List BA)(r:Rec)(rs:List Rec)(k st kd:Nat)(hst:r.stamp=(st:Int))(hkd:r.kind=(kd:Int))(a1 a2 a3 a4:BA)(h1:a1.data.toList=M.enc 7 (Av rs k r))(h2:a2.data.toList=M.enc 7 (r.key.size-Av rs k r))(h3:a3.data.toList=M.enc 7 st)(h4:a4.data.toList=M.enc 7 r.body.size):
  M.cat (P++[a1,a2,r.key.extract (Av rs k r) r.key.size,a3,⟨#[UInt8.ofNat kd]⟩,a4,r.body])=M.cat P++entry rs k r:=by
 rw[M.Fa];congr 1;unfold entry;rw[hst,hkd];have hx:(r.key.extract (Av rs k r) r.key.size).data.toList=r.key.data.toList.drop (Av rs k r):=by
  rw[ByteArray.data_extract,Array.toList_extract,List.extract_eq_take_drop,zLP (by simp)]
 simp only[M.cat,List.flatMap_cons,List.flatMap_nil,h1,h2,h3,h4,hx,zLp,zLc,zLw]
theorem Nt(rs:List Rec)(t:List UInt8)(ht:Ad rs=some t)(ao:Option Addr)(cap:Nat)(w:World)(h:Rcs w ao rs):
  Calls Tryz.prog 118 #[.slice ao rs.length cap] w fun e w'=>e=.returned (sT ⟨t.toArray⟩)/\Q w w':=by
 obtain⟨h64,hT⟩:=CS ht;have hlt:=Ij hT;have HT:=h_ hT;have HN:Hid (∀(k:Nat)(u:List UInt8)(r:Rec),BM rs k=some u->rs[k]?=some r->BM rs (k+1)=some (u++entry rs k r)/\r.fits=true):=fun k u r hu hr=>by
  have hk:k<rs.length:=(zLI.1 hr).1;obtain⟨x,q,hx,_⟩:=D6 hT (k+1) (by omega);obtain⟨e1,e2⟩:=Kh hu hr hx;exact⟨by rw[hx,e1],e2⟩
 have HH:=h_ h;have HKA:Hid _:=Ni;have HSB:Hid _:=oM;obtain⟨a0,ha0,Tx,H0⟩:=Ht rs.length (by omega);have HT0:Hid (BM rs 0=some (M.cat [a0])):=by show _=_;rw[M.Yo,Tx.out];rfl
 obtain⟨i0,hi,hz0,hz1,hz2⟩:=info_parts KD;clear h ht hT;go_in;go_wp2_with fail;apply(H0.out _).mono;rintro e w1⟨rfl,q1⟩;have hp0:Parts w [a0] (some (aD w1.heap.size 0)) 1 (w1.alloc (.cells #[sT a0] 9)):=by
  have hs:=q1.below.size;refine⟨q1.below.alloc hs _,?_⟩;refine⟨rfl,Or.inr ⟨w1.heap.size,1,#[sT a0],rfl,hs,heap_alloc_new w1 _,zLK _,by decide,rfl,rfl⟩⟩
 go_wp2_with fail
 go_loopw [3,13] (fun p i wr=>∃(k:Nat)(P:List BA)(ap:Option Addr)(cp:Nat),k<=rs.length/\i=iT k/\p=.slice ap P.length cp/\BM rs k=some (M.cat P)/\P.length=1+7*k/\Parts w P ap cp wr) (fun _ i _=>rs.length-(intOf i).toNat)
 case atStart=>exact⟨0,[a0],_,_,zLS _,rfl,rfl,HT0.out,rfl,hp0⟩
 case round =>
  obtain⟨k,P,ap,cp,hk,rfl,rfl,htx,hPl,hp⟩:=hrel;have yg:=h_ hPl;have zJX:P.length<=449:=by omega
  clear hPl;by_cases hlk:k<rs.length
  .have hg:rs[k]?=some rs[k]:=zLH hlk;obtain⟨hnx,hf⟩:=HN.out k _ _ htx hg;obtain⟨b,off,rfl,hb,hat⟩:=(HH.out.kept ⟨hp.below⟩).at hlk;obtain⟨c0,c1,c2,c3⟩:=hat k _ hg;have hsh:=Ql hg;have hsl:=Ik rs k rs[k];have HKP:Hid _:=iK P rs[k] rs k;have zB9:(Dy rs k).size<=140737488351232:=by
    unfold Dy;split
    .exact zLS _
    .match k with
     |0=>rename_i h8;simp at h8
     |k+1 =>
      have hgk:rs[k]?=some rs[k]:=zLH (by omega);have za:(rs[k]).fits=true:=by
       obtain⟨u,q,hu,_⟩:=D6 HT.out k (by omega);exact(HN.out k u _ hu hgk).2
      simp only[Rec.fits,zMF]at za;simp only[zM7,hgk,zM1,zLT];omega
   generalize rs[k]=r at*;simp only[Rec.fits,zMF]at hf;obtain⟨hf1,hf2,hf3,hf4,hf5,hf6,hf7⟩:=hf;obtain⟨st,hst⟩:=Int.eq_ofNat_of_zero_le hf4;obtain⟨kd,hkd⟩:=Int.eq_ofNat_of_zero_le hf6;have qa:Q wr (wr.alloc (.cells #[sT r.key,iT (st:Int),iT (kd:Int),sT r.body] 119)):=(Q.refl wr).alloc _ _;have KA:=HKA.out rs (some (aD b off)) rs.length cap k hk (Or.inl (zLK _)) (by omega) (fun _=>hk) (wr.alloc (.cells #[sT r.key,iT (st:Int),iT (kd:Int),sT r.body] 119)).drew (Or.inr ⟨b,off,rfl,(hat.kept qa).kept (Q.refl _).drew⟩);have SB':=fun W=>HSB.out (Dy rs k) r.key zB9 (by omega) W;rw[hsh]at SB';have tF:Hid _:=HKP.out st kd hst hkd;rw[hst]at c1;rw[hkd]at c2;have HNx:Hid _:=hnx;obtain⟨n,hn⟩:=ex (Av rs k r);rw[<-hn]at SB' tF hsl;generalize Dy rs k=ak at*;obtain⟨m,hm⟩:=ex (r.key.size-n);rw[<-hm]at tF;obtain⟨a1,ha1,hA1,H1⟩:=Ht n (by omega);obtain⟨a2,ha2,hA2,H2⟩:=Ht m (by omega);obtain⟨a3,ha3,hA3,H3⟩:=Ht st (by omega);obtain⟨a4,ha4,uj,H4⟩:=Ht r.body.size (by omega);have HTx:Hid (BM rs (k+1)=some (M.cat (P++[a1,a2,r.key.extract n r.key.size,a3,⟨#[UInt8.ofNat kd]⟩,a4,r.body]))):=by
    (show _=_);rw[tF.out a1 a2 a3 a4 hA1.out hA2.out hA3.out uj.out];exact HNx.out
   ((have hmw:IntKind.i64.wrap ((r.key.size:Int)-(n:Int))=(m:Int):=by rw[IntKind.wrap_i64];omega);have hkw:IntKind.u8.wrap (kd:Int)=(kd:Int):=by rw[IntKind.wrap_u8];omega);have hng:(n:Int)<=(r.key.size:Int):=by omega
   have hcv:=lg kd;have xJ:∀u∈[Value.string a1,sT a2,sT (r.key.extract n r.key.size),sT a3,sT ⟨#[UInt8.ofNat kd]⟩,sT a4,sT r.body],u.oneCell'=true:=by
    intro u hu;simp at hu;rcases hu with rfl|rfl|rfl|rfl|rfl|rfl|rfl<;>rfl
   ((((((have hne:∀j,(Value.slice ap P.length cp).ownBlock=some j->j<wr.heap.size:=fun j hj=>(hp.own.lt j hj).2;have hpa:=hp.kept qa;have KAh:=hU KA;have SB:Hid _:=SB';clear KA SB' tF HNx hnx htx hsh zB9 hst hkd hn hm hf1 hf4 hf5 hf6 hat HKP;go_upto_region 5 with fail);obtain⟨wa,Bp⟩:=ex (wr.alloc (.cells #[sT r.key,iT (st:Int),iT (kd:Int),sT r.body] 119));have v0:wa.cell? (aD wr.heap.size 0)=some (sT r.key):=by rw[Bp];simp);have v1:wa.cell? (aD wr.heap.size 1)=some (iT (st:Int)):=by rw[Bp];simp);have v2:wa.cell? (aD wr.heap.size 2)=some (iT (kd:Int)):=by rw[Bp];simp);have v3:wa.cell? (aD wr.heap.size 3)=some (sT r.body):=by rw[Bp];simp);rw[<-Bp]at qa hpa KAh⊢;have KA:Hid _:=KAh;clear KAh Bp hp c0 c1 c2 c3);go_cut [6] (fun x wx=>x=iT (n:Int)/\Q wa wx)
   case first =>
    ((((((((((refine wp_region_held_drew (S:=fun w'=>Q wa w'/\w'.cell? (aD wr.heap.size 0)=some (sT r.key)/\w'.cell? (aD wr.heap.size 1)=some (iT (st:Int))/\w'.cell? (aD wr.heap.size 2)=some (iT (kd:Int))/\w'.cell? (aD wr.heap.size 3)=some (sT r.body)) (by kernel_rfl) ⟨(Q.refl _).drew,v0,v1,v2,v3⟩ (fun hHeld=>?_);refine q4 0 ?_;refine q4 1 ?_;refine q4 3 ?_;refine q4 4 ?_;refine rd1 2 (fun K hK=>?_);go_simp;apply(KA.out ()).mono;rintro e v1⟨rfl,q1⟩);try go_wp2_with fail);refine hK.out _ _ ⟨hHeld.1.trans q1,AA hHeld.2.1 q1,AA hHeld.2.2.1 q1,AA hHeld.2.2.2.1 q1,AA hHeld.2.2.2.2 q1⟩ (fun AO=>?_);clear hK K hHeld;have hHeld:=AO;clear AO);try simp only[Act.put,nrm]);refine rd1 5 (fun K hK=>?_);go_simp;apply(SB.out _).mono;rintro e v2⟨rfl,q2⟩);try go_wp2_with fail);refine hK.out _ _ ⟨hHeld.1.trans q2,AA hHeld.2.1 q2,AA hHeld.2.2.1 q2,AA hHeld.2.2.2.1 q2,AA hHeld.2.2.2.2 q2⟩ (fun AO=>?_);clear hK K hHeld;have hHeld:=AO;clear AO);try simp only[Act.put,nrm]);refine q4 6 ?_;refine wpAnyH_done (by kernel_rfl) ?_ _;go_wp2_with fail);go_meet);case rel=>exact⟨rfl,hHeld.1⟩
   case rest =>
    (((((((((((((((((obtain⟨rfl,qc⟩:=hcut;have z0:=AA v0 qc;have z1:=AA v1 qc;have z2:=AA v2 qc;have z3:=AA v3 qc;have hpc:=hpa.kept qc;have hp:=hpc.kept (Q.refl _).drew;have hqw:Q w wc:=⟨hpc.below⟩;clear v0 v1 v2 v3 hpa KA SB qa qc hpc;go_upto_region 6 with fail);refine wp_region_held_drew (S:=fun w'=>Q w w'/\w'.cell? (aD wr.heap.size 0)=some (sT r.key)/\w'.cell? (aD wr.heap.size 1)=some (iT (st:Int))/\w'.cell? (aD wr.heap.size 2)=some (iT (kd:Int))/\w'.cell? (aD wr.heap.size 3)=some (sT r.body)) (by kernel_rfl) ⟨hqw.drew,AA z0 (Q.refl _).drew,AA z1 (Q.refl _).drew,AA z2 (Q.refl _).drew,AA z3 (Q.refl _).drew⟩ (fun hHeld=>?_);clear z0 z1 z2 z3 hqw;generalize World.drew wc=v at*;refine q4 0 ?_;refine q4 1 ?_;refine q4 3 ?_;refine q4 4 ?_;refine q4 5 ?_;refine q4 6 ?_;refine q4 7 ?_;refine q4 9 ?_;refine q4 10 ?_;refine q4 11 ?_;refine q4 12 ?_;refine q4 13 ?_;refine q4 14 ?_;refine q4 16 ?_;refine q4 17 ?_;refine q4 18 ?_;refine q4 21 ?_;refine q4 22 ?_;refine q4 23 ?_;refine q4 25 ?_;refine q4 26 ?_;refine wpAnyH_ready (rs:=[2,19]) (by kernel_rfl) (by simp) ?_;refine AllReadyH.cons rfl (fun K hK=>?_) (AllReadyH.cons rfl (fun K hK=>?_) AllReadyH.nil);go_simp;apply(H1.out _).mono;rintro e v⟨rfl,qv⟩);focus try go_wp2_with fail);refine hK.out _ _ ⟨hHeld.1.trans qv,AA hHeld.2.1 qv,AA hHeld.2.2.1 qv,AA hHeld.2.2.2.1 qv,AA hHeld.2.2.2.2 qv⟩ (fun AO=>?_);clear hK K hHeld;have hHeld:=AO;clear AO;replace hp:=hp.kept qv);try simp only[Act.put,nrm]);refine wpAnyH_ready (rs:=[8,19]) (by kernel_rfl) (by simp) ?_;refine AllReadyH.cons rfl (fun K hK=>?_) (AllReadyH.cons rfl (fun K hK=>?_) AllReadyH.nil);go_simp;apply(H2.out _).mono;rintro e v⟨rfl,qv⟩);focus try go_wp2_with fail);refine hK.out _ _ ⟨hHeld.1.trans qv,AA hHeld.2.1 qv,AA hHeld.2.2.1 qv,AA hHeld.2.2.2.1 qv,AA hHeld.2.2.2.2 qv⟩ (fun AO=>?_);clear hK K hHeld;have hHeld:=AO;clear AO;replace hp:=hp.kept qv);try simp only[Act.put,nrm]);refine wpAnyH_ready (rs:=[15,19]) (by kernel_rfl) (by simp) ?_;refine AllReadyH.cons rfl (fun K hK=>?_) (AllReadyH.cons rfl (fun K hK=>?_) AllReadyH.nil);go_simp;apply(H3.out _).mono;rintro e v⟨rfl,qv⟩);focus try go_wp2_with fail);refine hK.out _ _ ⟨hHeld.1.trans qv,AA hHeld.2.1 qv,AA hHeld.2.2.1 qv,AA hHeld.2.2.2.1 qv,AA hHeld.2.2.2.2 qv⟩ (fun AO=>?_);clear hK K hHeld;have hHeld:=AO;clear AO;replace hp:=hp.kept qv);try simp only[Act.put,nrm]);refine wpAnyH_ready (rs:=[19,24]) (by kernel_rfl) (by simp) ?_;refine AllReadyH.cons rfl (fun K hK=>?_) (AllReadyH.cons rfl (fun K hK=>?_) AllReadyH.nil);rotate_left;go_simp;apply(H4.out _).mono;rintro e v⟨rfl,qv⟩);focus try go_wp2_with fail);refine hK.out _ _ ⟨hHeld.1.trans qv,AA hHeld.2.1 qv,AA hHeld.2.2.1 qv,AA hHeld.2.2.2.1 qv,AA hHeld.2.2.2.2 qv⟩ (fun AO=>?_);clear hK K hHeld;have hHeld:=AO;clear AO;replace hp:=hp.kept qv);try simp only[Act.put,nrm]);refine rd1 19 (fun K hK=>?_)
    all_goals
     ((go_simp;refine hK.out _ _ ⟨hHeld.1.alloc _ _,AA hHeld.2.1 ((Q.refl _).alloc _ _),AA hHeld.2.2.1 ((Q.refl _).alloc _ _),AA hHeld.2.2.2.1 ((Q.refl _).alloc _ _),AA hHeld.2.2.2.2 ((Q.refl _).alloc _ _)⟩ (fun AO=>?_);clear hK K;have hnb:=fun k hk=>(hp.own.lt k hk).2;replace hp:=hp.kept ((Q.refl _).alloc #[.int .u8 (kd:Int)] 5));try simp only[Act.put,nrm]);refine LU (S':=fun w'=>(Q w w'/\w'.cell? (aD wr.heap.size 0)=some (sT r.key)/\w'.cell? (aD wr.heap.size 1)=some (iT (st:Int))/\w'.cell? (aD wr.heap.size 2)=some (iT (kd:Int))/\w'.cell? (aD wr.heap.size 3)=some (sT r.body))/\w'.cell? (aD v.heap.size 0)=some (.int .u8 (kd:Int))) (fun _ h=>h.1) ?_;have hHeld:(fun w'=>(Q w w'/\w'.cell? (aD wr.heap.size 0)=some (sT r.key)/\w'.cell? (aD wr.heap.size 1)=some (iT (st:Int))/\w'.cell? (aD wr.heap.size 2)=some (iT (kd:Int))/\w'.cell? (aD wr.heap.size 3)=some (sT r.body))/\w'.cell? (aD v.heap.size 0)=some (.int .u8 (kd:Int))) _:=⟨AO,by simp⟩;clear AO;generalize World.alloc v (.cells #[.int .u8 (kd:Int)] 5)=v at*;refine q4 20 ?_
    all_goals try(
     ((refine rdg 2 (fun K hK=>?_);go_simp;apply(H1.out _).mono;rintro e v⟨rfl,qv⟩);try go_wp2_with fail);refine hK.out _ _ ⟨⟨hHeld.1.1.trans qv,AA hHeld.1.2.1 qv,AA hHeld.1.2.2.1 qv,AA hHeld.1.2.2.2.1 qv,AA hHeld.1.2.2.2.2 qv⟩,AA hHeld.2 qv⟩ (fun AO=>?_);clear hK K hHeld;have hHeld:=AO;clear AO;replace hp:=hp.kept qv
     try simp only[Act.put,nrm])
    all_goals try(
     ((refine rdg 8 (fun K hK=>?_);go_simp;apply(H2.out _).mono;rintro e v⟨rfl,qv⟩);try go_wp2_with fail);refine hK.out _ _ ⟨⟨hHeld.1.1.trans qv,AA hHeld.1.2.1 qv,AA hHeld.1.2.2.1 qv,AA hHeld.1.2.2.2.1 qv,AA hHeld.1.2.2.2.2 qv⟩,AA hHeld.2 qv⟩ (fun AO=>?_);clear hK K hHeld;have hHeld:=AO;clear AO;replace hp:=hp.kept qv
     try simp only[Act.put,nrm])
    all_goals try(
     ((refine rdg 15 (fun K hK=>?_);go_simp;apply(H3.out _).mono;rintro e v⟨rfl,qv⟩);try go_wp2_with fail);refine hK.out _ _ ⟨⟨hHeld.1.1.trans qv,AA hHeld.1.2.1 qv,AA hHeld.1.2.2.1 qv,AA hHeld.1.2.2.2.1 qv,AA hHeld.1.2.2.2.2 qv⟩,AA hHeld.2 qv⟩ (fun AO=>?_);clear hK K hHeld;have hHeld:=AO;clear AO;replace hp:=hp.kept qv
     try simp only[Act.put,nrm])
    all_goals try(
     ((refine rdg 24 (fun K hK=>?_);go_simp;apply(H4.out _).mono;rintro e v⟨rfl,qv⟩);try go_wp2_with fail);refine hK.out _ _ ⟨⟨hHeld.1.1.trans qv,AA hHeld.1.2.1 qv,AA hHeld.1.2.2.1 qv,AA hHeld.1.2.2.2.1 qv,AA hHeld.1.2.2.2.2 qv⟩,AA hHeld.2 qv⟩ (fun AO=>?_);clear hK K hHeld;have hHeld:=AO;clear AO;replace hp:=hp.kept qv
     try simp only[Act.put,nrm])
    all_goals
     (((((((have hH:=hHeld.1;refine rd1 27 (fun K hK=>?_);go_simp;refine hK.out _ _ ⟨⟨hH.1.alloc _ _,AA hH.2.1 ((Q.refl _).alloc _ _),AA hH.2.2.1 ((Q.refl _).alloc _ _),AA hH.2.2.2.1 ((Q.refl _).alloc _ _),AA hH.2.2.2.2 ((Q.refl _).alloc _ _)⟩,AA hHeld.2 ((Q.refl _).alloc _ _)⟩ (fun AO=>?_);clear hK K;replace hp:=hp.kept ((Q.refl _).alloc #[sT a1,sT a2,sT (r.key.extract n r.key.size),sT a3,sT ⟨#[UInt8.ofNat kd]⟩,sT a4,sT r.body] 9));try simp only[Act.put,nrm]);have hown:=hp.own;refine rd1 28 (fun K hK=>?_);refine JZ rfl (.tmp 24) (.tmp 51) 53 rfl w.heap.size 9 i0 eS 1 16 Tryz.underlying53 hi hz0 hz1 hz2 rfl (by decide) _ _ _ rfl hown (aD v.heap.size 0) 7 7 [sT a1,sT a2,sT (r.key.extract n r.key.size),sT a3,sT ⟨#[UInt8.ofNat kd]⟩,sT a4,sT r.body] rfl rfl (Xd _ _ _ _ _ _ _ _ _) (xJ) (by unfold maxLen;omega) (by omega) (by have:=hp.below.size;simp at this⊢;omega) ?_;intro v' w' hown' hgrow;obtain⟨ap3,cp3,hv⟩:=Ac hown';rw[hv]at hown'⊢;have hp2:=hp.more [a1,a2,r.key.extract n r.key.size,a3,⟨#[UInt8.ofNat kd]⟩,a4,r.body] hgrow hown';refine hK.out _ _ ⟨⟨⟨hp2.below⟩,cell_grown hgrow AO.1.2.1 (fun e=>zLg _ (hne _ e)),cell_grown hgrow AO.1.2.2.1 (fun e=>zLg _ (hne _ e)),cell_grown hgrow AO.1.2.2.2.1 (fun e=>zLg _ (hne _ e)),cell_grown hgrow AO.1.2.2.2.2 (fun e=>zLg _ (hne _ e))⟩,cell_grown hgrow AO.2 (fun e=>zLg _ (hnb _ e))⟩ (fun xq=>?_);clear hK K hown hown' hv);try simp only[Act.put,nrm]);refine q4 29 ?_;refine wpAnyH_done (by kernel_rfl) ?_ _;clear hgrow hp AO xq hHeld hH hnb;go_wp2_with fail);go_roundw);case rel=>exact⟨k+1,P++[a1,a2,r.key.extract n r.key.size,a3,⟨#[UInt8.ofNat kd]⟩,a4,r.body],ap3,cp3,by omega,by go_num,by simp,HTx.out,by have:=yg.out;simp;omega,hp2⟩);case measure=>simp[intOf];omega
  .obtain rfl:k=rs.length:=by omega
   (have hE:M.cat P=t:=by have:=HT.out;rw[htx]at this;exact Option.some.inj this);have JC:=L6 P ap cp wr (OI hp.own).2 (by rw[hE];omega) (by omega);rw[hE]at JC;have HJ:=hU JC;have HQ:=hU hp.below;clear JC hp hE htx hp0;go_wp2_with fail;apply(HJ.out ()).mono;rintro e w2⟨rfl,q2⟩;go_wp2;go_ret;exact⟨rfl,(Q.mk (HQ.out ())).trans q2⟩
theorem BG(g:Nat)(e:TypeId):∀(vs:List Value)(o:Nat)(w:World)(cur:Array Value),w.heap[g]?=some (.cells cur e (0,0))->o+vs.length<=cur.size ->
  ∃cur',(w.setCells g o vs).heap[g]?=some (.cells cur' e (0,0))/\cur'.size=cur.size/\cur'.toList=cur.toList.take o++vs++cur.toList.drop (o+vs.length)
 |[],o,w,cur,h,_=>⟨cur,h,rfl,by simp⟩
 |v::vs,o,w,cur,h,hl=>by
  simp only[zLQ]at hl;have h1:=heap_setCell_same w g o cur e v h;obtain⟨cur',h2,h3,h4⟩:=BG g e vs (o+1) (w.setCell (aD g o) v) _ h1 (by simp;omega);refine⟨cur',h2,h3.trans (by simp),?_⟩;rw[h4,Array.toList_setIfInBounds,List.drop_set_of_lt (by omega),show o+1+vs.length=o+(v::vs).length by simp;omega];have:(cur.toList.set o v).take (o+1)=cur.toList.take o++[v]:=by
   ((have hlen:(cur.toList.take o).length=o:=by simp;omega);have hlt:o<cur.toList.length:=by rw[Array.length_toList];omega);rw[List.set_eq_take_append_cons_drop,if_pos hlt,List.take_append,zLP (by omega),hlen,Nat.add_sub_cancel_left];simp
  rw[this];simp
theorem Au(w:World)(g o:Nat)(vs:List Value):w.grownBy (w.setCells g o vs) (some g):=by
 induction vs generalizing w o with
 |nil=>exact⟨rfl,rfl,rfl,zLK _,fun _ _ _=>rfl⟩
 |cons v vs ih =>
  have h1:w.grownBy (w.setCell (aD g o) v) (some g):=⟨rfl,rfl,rfl,by simp,fun k _ hk=>heap_setCell_other w (aD g o) k v (fun e=>hk (by simp at e;rw[e]))⟩;exact h1.trans (ih _ _)
theorem FX(w:World)(row:Option Nat):w.grownBy w.drew row:=⟨rfl,rfl,rfl,zLK _,fun _ _ _=>rfl⟩
theorem CY(w:World)(ob:Obj)(row:Option Nat):w.grownBy (w.alloc ob) row:=⟨rfl,rfl,rfl,by simp,fun k hk _=>heap_alloc_old w ob hk⟩
theorem IL{b:World}{j:Nat}(h:a.grownBy b none)(k:b.grownBy c (some j))(hj:a.heap.size<=j):a.grownBy c none:=
 ⟨k.os.trans h.os,k.tape.trans h.tape,k.output.trans h.output,zLV h.size k.size,fun i hi hn=>(k.block i (zLJ hi h.size) (fun e=>by simp at e;omega)).trans (h.block i hi hn)⟩
theorem QK(h:a.grownBy c none)(row:Option Nat):a.grownBy c row:=⟨h.os,h.tape,h.output,h.size,fun i hi _=>h.block i hi (by simp)⟩
end Go.Proofs.YtekdenkllipehaaGreatDoor
