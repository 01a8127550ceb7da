import Derived.Test.YtekdenkllipehaaGreatDoorP14
import Derived.Test.YtekdenkllipehaaGreatDoorP19
set_option maxRecDepth 99999
set_option maxHeartbeats 0
namespace Go.Proofs.YtekdenkllipehaaGreatDoor
section
open Go.RowKit
variable{B:Nat}{w w':World}{x y z:Value}
theorem wh:(Tryz.prog.info? 273).map (fun i=>(i.zero,i.size,i.bytes))=some (some (.int .u16 0),1,2):=by kernel_rfl
theorem ZT(n:Nat)(hn:n<=8192):∃M:Array Value,
  (∀W:World,(Instr.makeSlice 270 (iT (n:Int)) (iT (n:Int))).run Tryz.prog W=.ok (.slice (some (aD W.heap.size 0)) n n) (W.alloc (.cells M 273))) /\
  (∀j,j<n->M[j]?=some (.int .u16 0)):=by
 obtain⟨i0,hi,hz0,hz1,hz2⟩:=info_parts wh;refine⟨madeCells (Value.int .u16 0).cells (((n:Nat):Int).toNat*i0.size),fun W=>?_,fun j hj=>?_⟩
 .have h:=run_make (P:=Tryz.prog) W 270 273 i0 (.int .u16 0) Tryz.underlying270 hi hz0 .i64 .i64 (n:Int) (n:Int) (by omega) (by omega) (by rw[hz2];omega) (by omega);simpa using h
 .rw[hz1];have hm:=toList_madeCells_one (.int .u16 0) (((n:Nat):Int).toNat*1);rw[<-Array.getElem?_toList];show(madeCells #[Value.int .u16 0] _).toList[j]?=_
  rw[hm];simp[hj]
structure fH(w:World)(g n:Nat):Prop where
 cell:∀j,j<n->w.cell? (aD g j)=some (.int .u16 0)
 fr:∀j,w.frozen? (aD g j)=false
 top:g<w.heap.size
theorem fH.kept{g n:Nat}(h:fH w g n)(q:Q w w'):fH w' g n:=
 ⟨fun j hj=>AA (h.cell j hj) q,fun j=>(q.below.frozen (p:=(aD g j)) h.top).trans (h.fr j),zLJ h.top q.below.size⟩
theorem LQ(w:World)(M:Array Value)(n:Nat)(hM:∀j,j<n->M[j]?=some (.int .u16 0))(t:TypeId):fH (w.alloc (.cells M t)) w.heap.size n:=
 ⟨fun j hj=>by rw[World.cell?_alloc_mark,hM j hj],fun j=>by simp,by simp⟩
theorem Nh(w w2:World)(b:BA)(n m F N:Nat)(q:Q w w2)(hF:w.heap.size<=F)(hN:w.heap.size<=N)(hne:F≠N)(zF:fH w2 F m)(zN:fH w2 N b.size):
  JJ w (w2.alloc (.cells #[sT b,iT (n:Int),.slice (some (aD F 0)) m m,.slice (some (aD N 0)) b.size b.size] 272)) w2.heap.size F N b n m (fun _=>0) (fun _=>0):=by
 have q2:Q w2 (w2.alloc (.cells #[sT b,iT (n:Int),.slice (some (aD F 0)) m m,.slice (some (aD N 0)) b.size b.size] 272)):=(Q.refl w2).alloc _ _;have z1:=zF.kept q2;have z2:=zN.kept q2;exact⟨⟨by simp,by simp,by simp,by simp,z1.cell,z2.cell,fun _=>zLS _,fun _=>zLS _⟩,(q.trans q2).below,⟨hF,hN⟩,⟨hne,by have:=zF.top;omega,by have:=zN.top;omega⟩,⟨z1.top,z2.top⟩,z1.fr,z2.fr⟩
def Indexed(w:World)(X:Nat)(b:BA):Prop:=∃(F N n m:Nat)(f g:Nat->Nat),(n<=13/\m=2^n)/\Words w X F N b n m f g/\(4<=b.size->f (Eo n b)=1)
theorem Indexed.kept{w w':World}{X:Nat}{b:BA}(h:Indexed w X b)(q:Q w w'):Indexed w' X b:=by
 obtain⟨F,N,n,m,f,g,h0,h1,h2⟩:=h;exact⟨F,N,n,m,f,g,h0,h1.kept q,h2⟩
theorem jr(b:BA)(hb:b.size<=4096)(w:World):
  Calls Tryz.prog 207 #[sT b] w fun e w'=>e=.returned (pT (w.heap.size+2))/\Indexed w' (w.heap.size+2) b/\Q w w':=by
 have HL:Hid _:=Yv b.size hb;obtain⟨M0,hmk,hM⟩:=ZT b.size (by omega);go_in;go_wp2_with fail;apply(HL.out _).mono;rintro e w1⟨⟨n,rfl,hn⟩,rfl⟩;obtain⟨m,hm⟩:=ex (2^n);have hp:m<=8192:=by rw[hm];exact Nat.pow_le_pow_right (n:=2) (by decide) hn
 have hw:wrap64 (2^n)=(m:Int):=by
  have:((m:Nat):Int)=2^n:=by rw[hm];push_cast;rfl
  rw[<-this];unfold wrap64;omega
 obtain⟨M1,zB3,hM1⟩:=ZT m hp;have HM:=h_ hm;clear hm;go_wp2_with fail
 go_region
 .have hL0:=(Nh w1 ((w1.alloc (.cells M1 273)).alloc (.cells M0 273)) b n m w1.heap.size (w1.heap.size+1) (((Q.refl w1).alloc _ _).alloc _ _) (zLK _) (by omega) (by omega) ((LQ w1 M1 m hM1 _).kept ((Q.refl _).alloc _ _)) (by have:=LQ (w1.alloc (.cells M1 273)) M0 b.size hM 273;simpa using this)).kept (Q.refl _).drew;simp only[zMM]at hL0;clear hM hM1 hmk zB3 hw;go_wp2_with fail
  go_loopw [5] (fun t wr=>∃(p:Int)(f g:Nat->Nat),t=iT p/\-4<=p/\(4<=b.size->-1<=p)/\p+4<=(b.size:Int)/\JJ w1 wr (w1.heap.size+1+1) w1.heap.size (w1.heap.size+1) b n m f g/\Hid (∀k:Nat,(k:Int)=p+1->k+4<=b.size->f (Eo n (b.extract k b.size))=k+1)) (fun t _=>(intOf t+4).toNat)
  case atStart=>exact⟨(b.size:Int)-4,_,_,rfl,by omega,by omega,by omega,hL0,(fun k h1 h2=>by omega:∀k:Nat,(k:Int)=(b.size:Int)-4+1->k+4<=b.size->(0:Nat)=k+1)⟩
  case round =>
   obtain⟨p0,f,g,rfl,zU,hp1,hpb,hL,YR⟩:=hrel;by_cases hp0:0<=p0
   ·((obtain⟨p,rfl⟩:=Int.eq_ofNat_of_zero_le hp0;have hpl:p+4<=b.size:=by omega);have zb:(b.extract p b.size).size=b.size-p:=by simp);have hsl:Eo n (b.extract p b.size)<m:=by rw[HM.out];exact Oz n hn _
    have SC:=hU (S9 n hn (w1.heap.size+1+1) (b.extract p b.size) (by omega) wr hL.words.c1);have Uj:Hid (∀sl,sl=Eo n (b.extract p b.size)->∀k:Nat,(k:Int)=(p:Int)-1+1->k+4<=b.size->(fun j=>if j=sl then p+1 else f j) (Eo n (b.extract k b.size))=k+1):=fun sl hsl k hk _=>by
     (have:k=p:=by omega);subst this;simp[hsl]
    ((((((((generalize hsE:Eo n (b.extract p b.size)=sl at*;have XE:=Uj.out sl rfl;have HN2:Hid _:=XE;clear Uj XE hsE zb YR;go_wp2_with fail;apply(SC.out ()).mono;rintro e w2⟨rfl,q1⟩;have hL1:=hL.kept q1;clear hL q1 SC;have s1:=hL1.words.c3;have s1':=hL1.words.c2;have s2:=hL1.words.cf sl hsl;have uO:=hL1.words.bf sl;have n1:=hL1.words.cg p (by omega);have n2:=hL1.fn p;have hL2:=hL1.TA p (f sl) (by omega) uO;have qm:=(hL1.kept (Q.refl _).drew).TA p (f sl) (by omega) uO;have n3:=hL1.ff sl;have hpI:(p:Int)<(b.size:Int):=by omega);have hsI:(sl:Int)<(m:Int):=by omega);go_upto_region 7 with fail);go_region_held3 (fun w'=>w'.cell? (aD (w1.heap.size+1+1) 3)=some (.slice (some (aD (w1.heap.size+1) 0)) b.size b.size)/\w'.cell? (aD (w1.heap.size+1+1) 2)=some (.slice (some (aD w1.heap.size 0)) m m)/\w'.cell? (aD w1.heap.size sl)=some (.int .u16 (f sl:Int))) (first|exact⟨s1,s1',s2⟩|exact⟨hL2.words.c3,hL2.words.c2,hL2.words.cf sl hsl⟩|exact⟨qm.words.c3,qm.words.c2,qm.words.cf sl hsl⟩) (fail));have m0:=hL2.words.c2;have m1:=hL2.words.cf sl hsl;have hcv:IntKind.u16.wrap ((p:Int)+1)=(p:Int)+1:=by simp[IntKind.wrap,IntKind.bits,IntKind.signed];omega);have hL3:=(hL2.ZA sl (p+1) hsl (by omega)).kept (Q.refl _).drew;clear hL1 s1 s1' s2 n1 n2 qm;go_wp2_with fail);go_roundw);case rel=>exact⟨(p:Int)-1,_,_,by go_num,by omega,by omega,by omega,hL3,HN2⟩);case measure=>simp[intOf];omega
   .have HF:Hid (4<=b.size->f (Eo n b)=1):=fun h4=>by
     have:=YR.out 0 (by have:=hp1 h4;omega) (by omega);simpa using this
    clear YR;go_wp2;go_ret;exact⟨rfl,⟨w1.heap.size,(w1.heap.size+1),n,m,f,g,⟨hn,HM.out⟩,hL.words,HF.out⟩,⟨hL.below⟩⟩
 .have hL0:=(Nh w1 ((w1.alloc (.cells M0 273)).alloc (.cells M1 273)) b n m (w1.heap.size+1) w1.heap.size (((Q.refl w1).alloc _ _).alloc _ _) (by omega) (zLK _) (by omega) (by have:=LQ (w1.alloc (.cells M0 273)) M1 m hM1 273;simpa using this) ((LQ w1 M0 b.size hM _).kept ((Q.refl _).alloc _ _))).kept (Q.refl _).drew;simp only[zMM]at hL0;clear hM hM1 hmk zB3 hw;go_wp2_with fail
  go_loopw [5] (fun t wr=>∃(p:Int)(f g:Nat->Nat),t=iT p/\-4<=p/\(4<=b.size->-1<=p)/\p+4<=(b.size:Int)/\JJ w1 wr (w1.heap.size+1+1) (w1.heap.size+1) w1.heap.size b n m f g/\Hid (∀k:Nat,(k:Int)=p+1->k+4<=b.size->f (Eo n (b.extract k b.size))=k+1)) (fun t _=>(intOf t+4).toNat)
  case atStart=>exact⟨(b.size:Int)-4,_,_,rfl,by omega,by omega,by omega,hL0,(fun k h1 h2=>by omega:∀k:Nat,(k:Int)=(b.size:Int)-4+1->k+4<=b.size->(0:Nat)=k+1)⟩
  case round =>
   obtain⟨p0,f,g,rfl,zU,hp1,hpb,hL,YR⟩:=hrel;by_cases hp0:0<=p0
   ·((obtain⟨p,rfl⟩:=Int.eq_ofNat_of_zero_le hp0;have hpl:p+4<=b.size:=by omega);have zb:(b.extract p b.size).size=b.size-p:=by simp);have hsl:Eo n (b.extract p b.size)<m:=by rw[HM.out];exact Oz n hn _
    have SC:=hU (S9 n hn (w1.heap.size+1+1) (b.extract p b.size) (by omega) wr hL.words.c1);have Uj:Hid (∀sl,sl=Eo n (b.extract p b.size)->∀k:Nat,(k:Int)=(p:Int)-1+1->k+4<=b.size->(fun j=>if j=sl then p+1 else f j) (Eo n (b.extract k b.size))=k+1):=fun sl hsl k hk _=>by
     (have:k=p:=by omega);subst this;simp[hsl]
    ((((((((generalize hsE:Eo n (b.extract p b.size)=sl at*;have XE:=Uj.out sl rfl;have HN2:Hid _:=XE;clear Uj XE hsE zb YR;go_wp2_with fail;apply(SC.out ()).mono;rintro e w2⟨rfl,q1⟩;have hL1:=hL.kept q1;clear hL q1 SC;have s1:=hL1.words.c3;have s1':=hL1.words.c2;have s2:=hL1.words.cf sl hsl;have uO:=hL1.words.bf sl;have n1:=hL1.words.cg p (by omega);have n2:=hL1.fn p;have hL2:=hL1.TA p (f sl) (by omega) uO;have qm:=(hL1.kept (Q.refl _).drew).TA p (f sl) (by omega) uO;have n3:=hL1.ff sl;have hpI:(p:Int)<(b.size:Int):=by omega);have hsI:(sl:Int)<(m:Int):=by omega);go_upto_region 7 with fail);go_region_held3 (fun w'=>w'.cell? (aD (w1.heap.size+1+1) 3)=some (.slice (some (aD w1.heap.size 0)) b.size b.size)/\w'.cell? (aD (w1.heap.size+1+1) 2)=some (.slice (some (aD (w1.heap.size+1) 0)) m m)/\w'.cell? (aD (w1.heap.size+1) sl)=some (.int .u16 (f sl:Int))) (first|exact⟨s1,s1',s2⟩|exact⟨hL2.words.c3,hL2.words.c2,hL2.words.cf sl hsl⟩|exact⟨qm.words.c3,qm.words.c2,qm.words.cf sl hsl⟩) (fail));have m0:=hL2.words.c2;have m1:=hL2.words.cf sl hsl;have hcv:IntKind.u16.wrap ((p:Int)+1)=(p:Int)+1:=by simp[IntKind.wrap,IntKind.bits,IntKind.signed];omega);have hL3:=(hL2.ZA sl (p+1) hsl (by omega)).kept (Q.refl _).drew;clear hL1 s1 s1' s2 n1 n2 qm;go_wp2_with fail);go_roundw);case rel=>exact⟨(p:Int)-1,_,_,by go_num,by omega,by omega,by omega,hL3,HN2⟩);case measure=>simp[intOf];omega
   .have HF:Hid (4<=b.size->f (Eo n b)=1):=fun h4=>by
     have:=YR.out 0 (by have:=hp1 h4;omega) (by omega);simpa using this
    clear YR;go_wp2;go_ret;exact⟨rfl,⟨w1.heap.size+1,w1.heap.size,n,m,f,g,⟨hn,HM.out⟩,hL.words,HF.out⟩,⟨hL.below⟩⟩
structure Lg(b t:BA)(done at_ ahead place size:Nat):Prop where
 h1:ahead<=at_-done
 h2:ahead<=size
 h3:place+size<=b.size
 h4:at_-ahead+size<=t.size
 eq:(b.data.toList.drop place).take size=(t.data.toList.drop (at_-ahead)).take size
theorem Lg.start(b t:BA)(done at_:Nat)(h:at_<=t.size):Lg b t done at_ 0 0 0:=⟨by omega,by omega,by omega,by omega,by simp⟩
theorem Lg.of{b t:BA}{done at_ place back sb:Nat}(hp:place<=b.size)(hd:done<=at_)(hat:at_<=t.size)(k1:back<=(b.extract 0 place).size)(k2:back<=(t.extract done at_).size)(k3:(b.extract 0 place).data.toList.drop ((b.extract 0 place).size-back)=(t.extract done at_).data.toList.drop ((t.extract done at_).size-back))(m1:sb<=(b.extract place b.size).size)(m2:sb<=(t.extract at_ t.size).size)(m3:(b.extract place b.size).data.toList.take sb=(t.extract at_ t.size).data.toList.take sb):
  Lg b t done at_ back (place-back) (back+sb)/\back<=place:=by
 have z1:(b.extract 0 place).size=place:=by simp;omega
 have z2:(t.extract done at_).size=at_-done:=by simp;omega
 have z3:(b.extract place b.size).size=b.size-place:=by simp
 have z4:(t.extract at_ t.size).size=t.size-at_:=by simp
 rw[z1]at k1 k3;rw[z2]at k2 k3;rw[z3]at m1;rw[z4]at m2;refine⟨⟨by omega,by omega,by omega,by omega,?_⟩,k1⟩;simp only[ByteArray.data_extract,Array.toList_extract,List.extract_eq_take_drop,Nat.sub_zero,List.drop_zero]at k3 m3;have e1:(b.data.toList.drop (place-back)).take (back+sb)=(b.data.toList.drop (place-back)).take back++(b.data.toList.drop place).take sb:=by
  rw[List.take_add,List.drop_drop,show place-back+back=place by omega]
 have e2:(t.data.toList.drop (at_-back)).take (back+sb)=(t.data.toList.drop (at_-back)).take back++(t.data.toList.drop at_).take sb:=by
  rw[List.take_add,List.drop_drop,show at_-back+back=at_ by omega]
 rw[e1,e2];congr 1
 .rw[List.drop_take,List.drop_take,List.drop_drop,show place-(place-back)=back by omega,show at_-done-(at_-done-back)=back by omega,show done+(at_-done-back)=at_-back by omega]at k3;exact k3
 .have hb:b.data.toList.length=b.size:=by simp
  have ht:t.data.toList.length=t.size:=by simp
  rw[zLP (l:=b.data.toList.drop place) (by rw[List.length_drop];omega),zLP (l:=t.data.toList.drop at_) (by rw[List.length_drop];omega)]at m3;exact m3
def Whole(b t:BA)(done at_ ahead place size:Nat):Prop:=b=t->done=0->at_=0->ahead=0/\place=0/\size=b.size
structure Uc(w:World)(B:Nat)(x y z:Value):Prop where
 c0:w.cell? (aD B 0)=some x
 c1:w.cell? (aD B 1)=some y
 c2:w.cell? (aD B 2)=some z
 f0:w.frozen? (aD B 0)=false
 f1:w.frozen? (aD B 1)=false
 f2:w.frozen? (aD B 2)=false
theorem Uc.kept(h:Uc w B x y z)(q:Q w w'):Uc w' B x y z:=by
 have hl:B<w.heap.size:=Ei h.c0;exact⟨AA h.c0 q,AA h.c1 q,AA h.c2 q,(q.below.frozen (p:=(aD B 0)) hl).trans h.f0,(q.below.frozen (p:=(aD B 1)) hl).trans h.f1,(q.below.frozen (p:=(aD B 2)) hl).trans h.f2⟩
theorem Uc.set(h:Uc w B x y z)(a b c:Value):Uc (((w.setCell (aD B 0) a).setCell (aD B 1) b).setCell (aD B 2) c) B a b c:=by
 obtain⟨k0,k1,k2⟩:=XZ h.c0 h.c1 h.c2 a b c;exact⟨k0,k1,k2,by simp only[zMK];exact h.f0,by simp only[zMK];exact h.f1,by simp only[zMK];exact h.f2⟩
theorem Uc.other{C:Nat}(h:Uc w B x y z)(hne:B≠C)(a b c:Value):Uc (((w.setCell (aD C 0) a).setCell (aD C 1) b).setCell (aD C 2) c) B x y z:=by
 have oc:∀o,(((w.setCell (aD C 0) a).setCell (aD C 1) b).setCell (aD C 2) c).cell? (aD B o)=w.cell? (aD B o):=fun o=>by
  rw[zMH _ _ _ _ (by intro e;injection e;omega),zMH _ _ _ _ (by intro e;injection e;omega),zMH _ _ _ _ (by intro e;injection e;omega)]
 exact⟨(oc 0).trans h.c0,(oc 1).trans h.c1,(oc 2).trans h.c2,by simp only[zMK];exact h.f0,by simp only[zMK];exact h.f1,by simp only[zMK];exact h.f2⟩
theorem Uc.grown{row:Option Nat}(h:Uc w B x y z)(hg:w.grownBy w' row)(hne:∀k,row=some k->k≠B):Uc w' B x y z:=by
 have hb:w'.heap[B]?=w.heap[B]?:=hg.block B (Ei h.c0) (fun e=>hne B e.symm rfl);exact⟨(zMI (a:=(aD B 0)) hb).trans h.c0,(zMI (a:=(aD B 1)) hb).trans h.c1,(zMI (a:=(aD B 2)) hb).trans h.c2,(zML (a:=(aD B 0)) hb).trans h.f0,(zML (a:=(aD B 1)) hb).trans h.f1,(zML (a:=(aD B 2)) hb).trans h.f2⟩
theorem Sr(w:World)(x y z:Value)(t:TypeId):Uc (w.alloc (.cells #[x,y,z] t)) w.heap.size x y z:=by
 obtain⟨⟨a,b,c⟩,⟨d,e,f⟩⟩:=zM (Q.refl (w.alloc (.cells #[x,y,z] t)));exact⟨a,b,c,d,e,f⟩
end
section
variable{C:List M.St}{b t:BA}{done:Nat}
structure Found(b t:BA)(done:Nat)(C:List M.St):Prop where
 good:M.DF C
 le:done<=t.size
 reach:M.reach (M.flat C)<=b.size
 made:M.made (M.flat C) b.data.toList=t.data.toList.take done
theorem Found.tot{b t:BA}{done:Nat}{C:List M.St}(h:Found b t done C):M.tot C=done:=by
 have h1:=M.FW h.good;have h2:(M.made (M.flat C) b.data.toList).length=(M.flat C).length:=by simp[M.made]
 rw[h.made]at h2;have h3:=h.le;simp at h2;omega
theorem Found.start(b t:BA):Found b t 0 []:=⟨M.DF.nil,zLS _,by simp[M.flat,M.reach],by simp[M.flat,M.made]⟩
theorem Km(s:BA):M.cost (Dm s)<=s.size+2\/4096<s.size:=by
 by_cases h:4096<s.size
 .exact Or.inr h
 .left;unfold Dm;split
  .simp[M.cost]
  .rename_i h0;rw[M.UO];unfold M.St.cost;rw[if_neg h0];have:=M.I6 (n:=2*s.size) (by omega);simp only;omega
theorem Found.put{e:Nat}(h:Found b t done C)(he:done<=e)(hl:e<=t.size)(ht:t.size<=4096):Found b t e (C++Dm (t.extract done e)):=by
 have hz:(t.extract done e).size=e-done:=by simp;omega
 have hlt:t.data.toList.length=t.size:=by simp
 unfold Dm;by_cases h0:(t.extract done e).size=0
 .rw[if_pos h0,zLw];have:e=done:=by omega
  subst this;exact h
 .rw[if_neg h0];have hgood:(⟨t.extract done e,0,(t.extract done e).size⟩:M.St).Good:=Or.inr ⟨h0,rfl,rfl,by simp only;omega⟩;have hacc:(⟨t.extract done e,0,(t.extract done e).size⟩:M.St).acc=(t.extract done e).data.toList.map UInt8.toNat:=if_neg h0;refine⟨h.good.append (M.DF.one hgood),hl,?_,?_⟩
  .rw[M.Eg,M.I5,M.Jc,hacc,M.O9];have:=h.reach;omega
  .rw[M.Eg,M.I5,M.Ir,h.made,hacc,M.Rv];simp only[ByteArray.data_extract,Array.toList_extract,List.extract_eq_take_drop];rw[<-List.take_add,show done+(e-done)=e by omega]
theorem Found.take{place size:Nat}(h:Found b t done C)(hs:1<=size)(hp:place+size<=b.size)(hl:done+size<=t.size)(hb:b.size<=4096)(he:(b.data.toList.drop place).take size=(t.data.toList.drop done).take size):Found b t (done+size) (C++[⟨⟨#[]⟩,place,size⟩]):=by
 have hgood:(⟨⟨#[]⟩,place,size⟩:M.St).Good:=Or.inl ⟨rfl,hs,by simp only;omega,by simp only;omega⟩;have hacc:(⟨⟨#[]⟩,place,size⟩:M.St).acc=M.taken place size:=if_pos rfl;have hlb:b.data.toList.length=b.size:=by simp
 refine⟨h.good.append (M.DF.one hgood),hl,?_,?_⟩
 .rw[M.Eg,M.I5,M.Jc,hacc,M.Kj _ _ hs];have:=h.reach;omega
 .rw[M.Eg,M.I5,M.Ir,h.made,hacc,M.Ml _ _ _ (by omega),he,<-List.take_add]
def KL(b t:BA)(C:List M.St):Prop:=Found b t t.size C/\M.cost C<=t.size+2/\(b=t->M.cost C<=6)
structure Short(b t:BA)(done at_:Nat)(C:List M.St):Prop where
 cost:M.cost C<=done
 same:b=t->4<=b.size->(at_=0/\done=0/\C=[])\/(done=t.size/\M.cost C<=6)
theorem SN(place size:Nat):(⟨⟨#[]⟩,place,size⟩:M.St).cost=(M.enc 7 (2*size+1)).length+(M.enc 7 place).length:=if_pos rfl
theorem Ra(size:Nat)(h4:4<=size)(hs:size<=4096):(⟨⟨#[]⟩,0,size⟩:M.St).cost+2<=size/\(⟨⟨#[]⟩,0,size⟩:M.St).cost<=6:=by
 rw[SN,M.Yg (n:=0) (by omega)];by_cases h:2*size+1<128
 .rw[M.Yg h];omega
 .have:=M.I6 (n:=2*size+1) (by omega);omega
end
section
open Go.RowKit
variable{C:List M.St}{V at_ done n:Nat}{b t:BA}{e:TypeId}{o:Obj}{v:Value}{w w' wb:World}{xs:List Value}
theorem X9(b t:BA)(hb:b.size<=4096)(ht:t.size<=4096)(X done at_:Nat)(hd:done<=at_)(hat:at_+4<=t.size)(w:World)(hI:Indexed w X b):
  Calls Tryz.prog 208 #[pT X,sT t,iT (done:Int),iT (at_:Int)] w fun e w'=>∃ahead place size:Nat,e=.returned (.tuple #[iT (ahead:Int),.agg #[eS,iT (place:Int),iT (size:Int)]])/\(Lg b t done at_ ahead place size/\Whole b t done at_ ahead place size)/\Q w w':=by
 obtain⟨F,N,nb,m,f,g,⟨hnb,hm⟩,hw,hf1⟩:=hI;have zb:(t.extract at_ t.size).size=t.size-at_:=by simp
 have SC:Hid _:=fun(W:World)(h:W.cell? (aD X 1)=some (iT (nb:Int)))=>S9 nb hnb X (t.extract at_ t.size) (by omega) W h;have hsl:Eo nb (t.extract at_ t.size)<m:=by rw[hm];exact Oz nb hnb _
 have HF:Hid (b=t->done=0->at_=0->f (Eo nb (t.extract at_ t.size))=1):=fun e _ e2=>by
  subst e;subst e2;rw[show b.extract 0 b.size=b by simp];exact hf1 (by omega)
 clear hm hf1;generalize Eo nb (t.extract at_ t.size)=sl at*;obtain⟨W0,hW0⟩:=ex ((w.alloc (.cells #[eS,iT 0,iT 0] 255)).alloc (.cells #[eS,iT 0,iT 0] 255));have hQ0:Q w W0:=by rw[hW0];exact((Q.refl w).alloc _ _).alloc _ _
 have hV9:Uc W0 w.heap.size eS (iT 0) (iT 0):=by rw[hW0];exact(Sr w _ _ _ _).kept ((Q.refl _).alloc _ _)
 have zBO:Uc W0 (w.heap.size+1) eS (iT 0) (iT 0):=by
  have:=Sr (w.alloc (.cells #[eS,iT 0,iT 0] 255)) eS (iT 0) (iT 0) 255;rw[zMM]at this;rw[hW0];exact this
 have hw0:=hw.kept hQ0;have s0:=hw0.c2;have s1:=hw0.cf sl hsl;have s9:=hw0.c1;have zAo:(sl:Int)<(m:Int):=by omega
 have zBK:(at_:Int)<=(t.size:Int):=by omega
 have zBJ:at_<=t.size:=by omega
 have hdI:(done:Int)<=(at_:Int):=by omega
 rw[hW0]at s0 s1;have SC2:=hU (SC.out W0.drew (AA s9 (Q.refl _).drew));clear s9;rw[hW0]at SC2;go_in;go_upto_region 2 with fail
 go_region_held3 (fun w'=>w'.cell? (aD X 2)=some (.slice (some (aD F 0)) m m)/\w'.cell? (aD F sl)=some (.int .u16 (f sl:Int))) (first|exact⟨s0,s1⟩|exact Db)
  (first|(go_at_call 216;apply(SC2.out ()).mono;rintro e w1⟨rfl,q1⟩;have Db:w1.cell? (aD X 2)=some (.slice (some (aD F 0)) m m)/\w1.cell? (aD F sl)=some (.int .u16 (f sl:Int)):=⟨AA s0 (Aq q1),AA s1 (Aq q1)⟩))
 rw[<-hW0]at q1;have hQ1:Q w w1:=hQ0.trans (Aq q1);have hU9:=hV9.kept (Aq q1);have zEv:=zBO.kept (Aq q1);have hfl:=hw.bf sl;have HFW:Hid (IntKind.i64.wrap (f sl:Int)=(f sl:Int)):=(by rw[IntKind.wrap_i64];omega:IntKind.i64.wrap (f sl:Int)=(f sl:Int));clear s0 s1 Db SC SC2 hw0 hV9 zBO hQ0 q1 hW0;go_wp2_with fail;have HL0:=h_ (Lg.start b t done at_ zBJ);have HLo:Hid _:=fun(place back sb:Nat)(hp:place<=b.size)=>Lg.of (b:=b) (t:=t) (done:=done) (at_:=at_) (place:=place) (back:=back) (sb:=sb) hp hd zBJ;have SE:Hid _:=fun(p:Nat)(w':World)=>Xf (b.extract 0 p) (t.extract done at_) (by simp;omega) (by simp;omega) w';have SB:Hid _:=fun(p:Nat)(w':World)=>TI (b.extract p b.size) (t.extract at_ t.size) (by simp;omega) (by simp;omega) w'
 go_loopw [10,12,13] (fun ta tk tn wr=>∃ahead place size link n:Nat,ta=iT (ahead:Int)/\tk=iT (link:Int)/\tn=iT (n:Int)/\link<=b.size/\n<=16/\Q w wr/\Uc wr w.heap.size eS (iT 0) (iT 0)/\Uc wr (w.heap.size+1) eS (iT (place:Int)) (iT (size:Int))/\Hid (Lg b t done at_ ahead place size)/\Hid (b=t->done=0->at_=0->(n=0/\link=1/\size=0)\/(ahead=0/\place=0/\size=b.size))) (fun _ _ tn _=>16-(intOf tn).toNat)
 case atStart=>exact⟨0,0,0,f sl,0,rfl,congrArg (Value.int .i64) HFW.out,rfl,hfl,by omega,hQ1,hU9,zEv,HL0,(fun e1 e2 e3=>Or.inl ⟨rfl,HF.out e1 e2 e3,rfl⟩:b=t->done=0->at_=0->(0=0/\f sl=1/\0=0)\/(0=0/\0=0/\0=b.size))⟩
 case round =>
  obtain⟨ahead,Gg,Gc,link,n,rfl,rfl,rfl,hlk,hn16,hq,Uo,Q6,hlg,Gy⟩:=hrel;by_cases hgo:0<link/\n<16
  .obtain⟨hl0,hn⟩:=hgo;obtain⟨p,hp⟩:∃p,link=p+1:=⟨link-1,by omega⟩;have hpb:p<b.size:=by omega
   ((((have hlI:(link:Int)-1=(p:Int):=by omega);have HP:=h_ hp;clear hp;have hwr:=hw.kept hq;have s1:=hwr.c0;have hpI:(p:Int)<=(b.size:Int):=by omega);have SEp:=hU (SE.out p wr.drew);have zJ6:(0:Int)<(link:Int):=by omega);have hnI:(n:Int)<16:=by omega);go_upto_region 7 with fail
   go_region_held3 (fun w'=>w'.cell? (aD X 0)=some (sT b)) (first|exact s1|exact Db)
    (first|(go_at_call 217;apply(SEp.out ()).mono;rintro e w2⟨back,rfl,⟨k1,k2,k3⟩,q2⟩;have Db:w2.cell? (aD X 0)=some (sT b):=AA s1 (Aq q2)))
   (have K3:Hid _:=k3;have K1:Hid _:=k1;have K2:Hid _:=k2;have SBp:=hU (SB.out p w2.drew);have hbk:back<=4096:=by have h1:=k1;simp at h1;omega);clear k1 k2 k3 SEp;go_upto_region 8 with fail
   go_region_held3 (fun w'=>w'.cell? (aD X 0)=some (sT b)) (first|exact Db|exact hS5)
    (first|(go_at_call 150;apply(SBp.out ()).mono;rintro e w3⟨sb,rfl,⟨m1,m2,m3,m4⟩,q3⟩;have hS5:w3.cell? (aD X 0)=some (sT b):=AA Db (Aq q3);have hsb:sb<=4096:=(by have h1:=m1;simp at h1;omega);have hws:IntKind.i64.wrap ((back:Int)+(sb:Int))=(back:Int)+(sb:Int):=(by rw[IntKind.wrap_i64];omega)))
   (obtain⟨hnew,hbp⟩:=HLo.out p back sb (by omega) K1.out K2.out K3.out m1 m2 m3;have hqs:Q wr w3:=(Aq q2).trans (Aq q3);have xD:=Uo.kept hqs;have Zc:=Q6.kept hqs;have qJ:=hwr.kept hqs;have hq3:=hq.trans hqs;have u2:=Zc.c2;have gn:=qJ.c3;have gp:=qJ.cg p hpb;have hgp:=qJ.bg p;have zIo:(p:Int)<(b.size:Int):=by omega);have Uj:Hid _:=hnew;have HM4:Hid _:=m4;have hz0:=hlg.out.h3;have hz1:=hnew.h3;clear s1 Db hS5 q2 q3 Uo Q6 hwr hq m1 m2 m3 m4 hnew hqs;by_cases hgt:Gc<back+sb
   ·(have zEk:(Gc:Int)<(back:Int)+(sb:Int):=by omega);have TS:Hid _:=NY ((p:Int)-(back:Int)) ((back:Int)+(sb:Int));have zIn:(0:Int)<=(p:Int)-(back:Int):=by omega
    have HWn:Hid (b=t->done=0->at_=0->(n+1=0/\g p=1/\back+sb=0)\/(back=0/\p-back=0/\back+sb=b.size)):=fun e1 e2 e3=>Or.inr (by
     have h5:=Uj.out.h1;have h6:=Uj.out.h4;rcases Gy.out e1 e2 e3 with⟨_,YP,_⟩|⟨_,_,hsz⟩
     ·((have hp1:=HP.out;have hp0:p=0:=by omega);have hm:=HM4.out (by rw[hp0,e3,e1]);rw[hp0]at hm;have:(b.extract 0 b.size).size=b.size:=by simp);omega
     .have:t.size=b.size:=by rw[e1]
      omega)
    (((go_wp2_with fail;apply(TS.out _).mono;rintro e w4⟨rfl,q4⟩;have hy9:=xD.kept q4;have V5:=Zc.kept q4;have y0:=V5.c0;have y1:=V5.c1;have y2:=V5.c2;have y3:=V5.f0;have y4:=V5.f1;have y5:=V5.f2;have hset:=V5.set eS (iT ((p:Int)-(back:Int))) (iT ((back:Int)+(sb:Int)));have zAq:=hy9.other (C:=w.heap.size+1) (by omega) eS (iT ((p:Int)-(back:Int))) (iT ((back:Int)+(sb:Int)));have zS:=(hq3.trans q4).vW (B:=w.heap.size+1) (by omega) eS (iT ((p:Int)-(back:Int))) (iT ((back:Int)+(sb:Int)));have zAe:=hw.kept zS;have gn5:=zAe.c3;have gp5:=zAe.cg p hpb;clear xD Zc qJ hq3 u2 gn gp q4 hy9 V5;go_wp2_with fail);go_roundw);case rel=>exact⟨back,p-back,back+sb,g p,n+1,by go_num,by go_num,by go_num,hgp,by omega,zS,zAq,by rw[show((p-back:Nat):Int)=(p:Int)-(back:Int) by omega,show((back+sb:Nat):Int)=(back:Int)+(sb:Int) by omega];exact hset,Uj,HWn⟩);case measure=>simp[intOf];omega
   .have zEk:(back:Int)+(sb:Int)<=(Gc:Int):=by omega
    have HWn:Hid (b=t->done=0->at_=0->(n+1=0/\g p=1/\Gc=0)\/(ahead=0/\Gg=0/\Gc=b.size)):=fun e1 e2 e3=>Or.inr (by
     rcases Gy.out e1 e2 e3 with⟨_,YP,hs0⟩|h
     ·(((have hp1:=HP.out;have hp0:p=0:=by omega);have hm:=HM4.out (by rw[hp0,e3,e1]);rw[hp0]at hm;have:(b.extract 0 b.size).size=b.size:=by simp);have:t.size=b.size:=by rw[e1]);omega
     .exact h)
    (((go_wp2_with fail);go_roundw);case rel=>exact⟨ahead,Gg,Gc,g p,n+1,by go_num,by go_num,by go_num,hgp,by omega,hq3,xD,Zc,hlg,HWn⟩);case measure=>simp[intOf];omega
  .have HWh:Hid (Whole b t done at_ ahead Gg Gc):=fun e1 e2 e3=>by
    rcases Gy.out e1 e2 e3 with⟨h1,h2,_⟩|h
    .exact absurd ⟨by omega,by omega⟩ hgo
    .exact h
   by_cases hl0:link=0
   .subst hl0;clear Gy hgo;have z0:=Q6.c0;have z1:=Q6.c1;have z2:=Q6.c2;have y0:=Uo.c0;have y1:=Uo.c1;have y2:=Uo.c2;have y3:=Uo.f0;have y4:=Uo.f1;have y5:=Uo.f2;have hset:=Uo.set eS (iT (Gg:Int)) (iT (Gc:Int));have k0:=hset.c0;have k1:=hset.c1;have k2:=hset.c2;have zS:=hq.vW (B:=w.heap.size) (zLK _) eS (iT (Gg:Int)) (iT (Gc:Int));clear Uo Q6;go_wp2_with fail
    go_region
    all_goals
     go_wp2_with fail;refine bodyPost_ret (v:=.tuple #[iT (ahead:Int),.agg #[eS,iT (Gg:Int),iT (Gc:Int)]]) (by simp[results,Tryz.results208,go_sem,k0,k1,k2]) rfl ?_;exact⟨ahead,Gg,Gc,rfl,⟨hlg.out,HWh.out⟩,zS.trans (Q.refl _).drew⟩
   ·(((have hl1:0<link:=by omega);have hn1:n=16:=by omega);have zJ5:(0:Int)<(link:Int):=by omega);subst hn1;clear Gy hgo;have z0:=Q6.c0;have z1:=Q6.c1;have z2:=Q6.c2;have y0:=Uo.c0;have y1:=Uo.c1;have y2:=Uo.c2;have y3:=Uo.f0;have y4:=Uo.f1;have y5:=Uo.f2;have hset:=Uo.set eS (iT (Gg:Int)) (iT (Gc:Int));have k0:=hset.c0;have k1:=hset.c1;have k2:=hset.c2;have zS:=hq.vW (B:=w.heap.size) (zLK _) eS (iT (Gg:Int)) (iT (Gc:Int));clear Uo Q6;go_wp2_with fail
    go_region
    all_goals
     go_wp2_with fail;refine bodyPost_ret (v:=.tuple #[iT (ahead:Int),.agg #[eS,iT (Gg:Int),iT (Gc:Int)]]) (by simp[results,Tryz.results208,go_sem,k0,k1,k2]) rfl ?_;exact⟨ahead,Gg,Gc,rfl,⟨hlg.out,HWh.out⟩,zS.trans (Q.refl _).drew⟩
def MF(n d a:Nat):Nat:=2*(n-a)+(if d<a then 1 else 0)
theorem lN{ahead place size:Nat}(hb:b.size<=4096)(ht:t.size<=4096)(hda:done<=at_)(hat:at_+4<=t.size)(hF:Found b t done C)(hS:Short b t done at_ C)(hL:Lg b t done at_ ahead place size)(hW:Whole b t done at_ ahead place size)(hpay:(⟨⟨#[]⟩,place,size⟩:M.St).cost+2<=size):
  Found b t (at_-ahead+size) (C++Dm (t.extract done (at_-ahead))++[⟨⟨#[]⟩,place,size⟩])/\Short b t (at_-ahead+size) (at_-ahead+size) (C++Dm (t.extract done (at_-ahead))++[⟨⟨#[]⟩,place,size⟩]) /\
  MF t.size (at_-ahead+size) (at_-ahead+size)<MF t.size done at_:=by
 have h1:=hL.h1;have h2:=hL.h2;have h3:=hL.h3;have h4:=hL.h4;have hz:(t.extract done (at_-ahead)).size=at_-ahead-done:=by simp;omega
 have hP:=hF.put (e:=at_-ahead) (by omega) (by omega) ht;have hc:=hS.cost;refine⟨hP.take (by omega) h3 h4 hb hL.eq,⟨?_,?_⟩,?_⟩
 .rw[M.Gq,M.Gq,M.UO];rcases Km (t.extract done (at_-ahead))with h|h
  .rw[hz]at h;omega
  .omega
 .intro e h5;right;rcases hS.same e h5 with⟨ha,hd,hC⟩|⟨hd,_⟩
  .obtain⟨w1,w2,w3⟩:=hW e hd ha;subst ha hd hC w1 w2 w3;refine⟨by rw[e];omega,?_⟩;have hp:Dm (t.extract 0 (0-0))=[]:=by unfold Dm;rw[if_pos (by rw[hz])]
   rw[hp,zLb,zLb,M.UO];exact(Ra b.size h5 hb).2
  .omega
 .unfold MF;rw[if_neg (by omega)];split<;>omega
theorem lM{ahead place size:Nat}(hb:b.size<=4096)(hda:done<=at_)(hat:at_+4<=t.size)(hS:Short b t done at_ C)(hW:Whole b t done at_ ahead place size)(hpay:¬(⟨⟨#[]⟩,place,size⟩:M.St).cost+2<=size):Short b t done (at_+1) C:=by
 refine⟨hS.cost,fun e h5=>?_⟩;rcases hS.same e h5 with⟨ha,hd,hC⟩|⟨hd,h⟩
 .obtain⟨w1,w2,w3⟩:=hW e hd ha;subst w1 w2 w3;exact absurd (Ra b.size h5 hb).1 hpay
 .omega
theorem rT(ht:t.size<=4096)(hat:¬at_+4<=t.size)(hF:Found b t done C)(hS:Short b t done at_ C):KL b t (C++Dm (t.extract done t.size)):=by
 have hle:=hF.le;have hz:(t.extract done t.size).size=t.size-done:=by simp
 have hc:=hS.cost;refine⟨hF.put hle (zLK _) ht,?_,fun e=>?_⟩
 .rw[M.Gq];rcases Km (t.extract done t.size)with h|h
  .rw[hz]at h;omega
  .omega
 .by_cases h5:4<=b.size
  .rcases hS.same e h5 with⟨ha,_,_⟩|⟨hd,h6⟩
   .rw[e]at h5;omega
   ·(have hp:Dm (t.extract done t.size)=[]:=by unfold Dm;rw[if_pos (by omega)]);rw[hp,zLw];exact h6
  .rw[M.Gq];rw[e]at h5;rcases Km (t.extract done t.size)with h|h
   .rw[hz]at h;omega
   .omega
theorem DC{row:Option Nat}{p:Addr}(hg:wb.grownBy w' row)(h:wb.cell? p=some v)(hne:∀k,row=some k->k≠p.block):w'.cell? p=some v:=
 (zMI (hg.block p.block (Ei h) (fun e=>hne p.block e.symm rfl))).trans h
theorem Yu{row:Option Nat}(hg:wb.grownBy w' row)(h:wb.heap[V]?=some o)(hne:∀k,row=some k->k≠V):w'.heap[V]?=some o:=
 (hg.block V (zLM.1 h).1 (fun e=>hne V e.symm rfl)).trans h
theorem Sc(h:w.heap[V]?=some o)(q:Q w w'):w'.heap[V]?=some o:=
 (q.below.block V (zLM.1 h).1).trans h
theorem iN{base cap:Nat}{c:Array Value}{T:TypeId}{fr:Nat×Nat}{ao:Option Addr}(hh:w.heap[V]?=some (.cells c T fr))(hc:c.size=3)(ho:w.ownsRow base e 3 (.slice ao n cap) n xs)(hn:2<=n):∀k,(Value.slice ao n cap).ownBlock=some k->k≠V:=by
 intro k hk e;subst e;rcases ho.2 with⟨hv,h0⟩|⟨g,c',cur,hv,_,hg,hnc,_,hcs,_⟩
 .omega
 .rw[hv]at hk;simp only[Value.ownBlock,zLO]at hk;subst hk;rw[hh]at hg;simp only[zLO,Obj.cells.injEq]at hg;rw[<-hg.1,hc]at hcs;omega
theorem Ll{b1 b2:Nat}{size:Nat}(h:w.ownsRow b1 e size v n xs)(hb:b2<=b1):w.ownsRow b2 e size v n xs:=by
 refine⟨h.1,?_⟩;rcases h.2 with h2|⟨g,cap,cur,hv,hg,r⟩
 .exact Or.inl h2
 .exact Or.inr ⟨g,cap,cur,hv,by omega,r⟩
theorem rU(b t:BA)(hb:b.size<=4096)(ht:t.size<=4096)(w:World):
  Calls Tryz.prog 194 #[sT b,sT t] w fun e w'=>∃(C:List M.St)(ao:Option Addr)(cap:Nat),e=.returned (.slice ao C.length cap)/\(KL b t C/\Steps w' ao C/\C.length<=cap)/\Q w w':=by
 have IX:Hid _:=jr b hb;have LO:Hid _:=fun(X done at_:Nat)(hd:done<=at_)(hat:at_+4<=t.size)(w':World)(h:Indexed w' X b)=>X9 b t hb ht X done at_ hd hat w' h;have PS:Hid _:=fun(e1 e2:Nat)=>VW (t.extract e1 e2);have HF0:=h_ (Found.start b t);have zw:Hid (Short b t 0 0 []):=⟨by simp[M.cost],fun _ _=>Or.inl ⟨rfl,rfl,rfl⟩⟩;obtain⟨i1,hj,hy0,hy1,hy2⟩:=info_parts Za;go_in;go_wp2_with fail;apply(IX.out _).mono;rintro e w1⟨rfl,hI,q1⟩;go_wp2_with fail
 go_loopw [6,7,8] (fun tl td ta wr=>∃(C:List M.St)(ao:Option Addr)(cap done at_:Nat),tl=.slice ao C.length cap/\td=iT (done:Int)/\ta=iT (at_:Int)/\done<=at_/\at_<=t.size/\Grow w1 C ao cap wr/\(C=[]->ao=none/\cap=0)/\Hid (Found b t done C)/\Hid (Short b t done at_ C)) (fun _ td ta _=>MF t.size (intOf td).toNat (intOf ta).toNat)
 case atStart=>exact⟨[],none,0,0,0,rfl,rfl,rfl,zLK _,zLS _,Grow.start w1,fun _=>⟨rfl,rfl⟩,HF0,zw⟩
 case round =>
  obtain⟨C,ao,cap,done,at_,rfl,rfl,rfl,hda,hat,hgr,hnil,hF,hS⟩:=hrel;have hdI:(done:Int)<=(at_:Int):=by omega
  have hCt:=hF.out.tot;have hCl:=M.Cy hF.out.good;have nR:C.length<=4096:=by omega
  by_cases hgo:at_+4<=t.size
  .have LC:=hU (LO.out _ done at_ hda hgo wr (hI.kept hgr.q));go_wp2_with fail;apply(LC.out ()).mono;rintro e v1⟨ahead,place,size,rfl,⟨hL,hW⟩,p1⟩;have h1:=hL.h1;have h2:=hL.h2;have h3:=hL.h3;have h4:=hL.h4;have WC:Hid _:=fun(w':World)=>gN ⟨⟨#[]⟩,place,size⟩ rfl (by simp only;omega) (by simp only;omega) w';have hg1:=(hgr.kept p1).kept ((Q.refl v1).alloc #[eS,iT (place:Int),iT (size:Int)] 255);by_cases hpay:(⟨⟨#[]⟩,place,size⟩:M.St).cost+2<=size
   .obtain⟨n1,n2,n3⟩:=lN hb ht hda hgo hF.out hS.out hL hW hpay;have N1:Hid _:=n1;have N2:Hid _:=n2;have N3:Hid _:=n3;have E:Hid (decide ((⟨⟨#[]⟩,place,size⟩:M.St).cost+2<=size)=true):=(by simpa using hpay:decide ((⟨⟨#[]⟩,place,size⟩:M.St).cost+2<=size)=true);have WC2:Hid (∀w':World,Calls Tryz.prog 209 #[.agg #[eS,iT (place:Int),iT (size:Int)]] w' fun e w''=>e=.returned (.bool true)/\Q w' w''):=fun w'=>by
     have:=WC.out w';rw[E.out]at this;exact this
    have hz4:4<=size:=by
     have:=M.ER 7 (2*size+1);have:=M.ER 7 place;rw[SN]at hpay;omega
    (((have qO:size<=4096:=by omega);have hcs:=Yi t done (at_-ahead-done) (by omega);rw[show done+(at_-ahead-done)=at_-ahead by omega,show(done:Int)+((at_-ahead-done:Nat):Int)=(at_:Int)-(ahead:Int) by omega]at hcs;have PC:Hid _:=PS.out done (at_-ahead);have hzp:(t.extract done (at_-ahead)).size=at_-ahead-done:=by simp;omega);have hpl:(Dm (t.extract done (at_-ahead))).length<=1:=by unfold Dm;split<;>simp);generalize Dm (t.extract done (at_-ahead))=D at*;generalize t.extract done (at_-ahead)=piece at*;have hkv:∀k,(Value.slice ao C.length cap).ownBlock=some k->k<v1.heap.size:=fun k hk=>((hgr.kept p1).own.lt k hk).2;go_wp2_with fail;apply(WC2.out _).mono;rintro e v2⟨rfl,p2⟩;have hg2:=hg1.kept p2;have hV:=(Sr v1 eS (iT (place:Int)) (iT (size:Int)) 255).kept p2;go_wp2_with fail;apply(PC.out _).mono;rintro e v3⟨ad,cd,rfl,⟨hDs,hDn⟩,p3⟩;have hg3:=hg2.kept p3;have Uq:=hV.kept p3;have hown:=hg3.own;have hsz:=hg3.below.size;have hVh:v3.heap[v1.heap.size]?=some (.cells #[eS,iT (place:Int),iT (size:Int)] 255 (0,0)):=Sc (Sc (heap_alloc_new v1 _) p2) p3;have zJO:v1.heap.size<v3.heap.size:=Ei Uq.c0;by_cases hD:D=[]
    .obtain⟨rfl,rfl⟩:=hDn hD;subst hD;have RB:=Uq.c0;have hV1:=Uq.c1;have hV2:=Uq.c2;have hown2:=hg3.own;have hsz2:=hg3.below.size;go_wp2_with(at_builtin;first
      |refine wpList_append_own_none rfl (.tmp 31) (.tmp 38) 240 rfl w1.heap.size 255 i1 3 Tryz.underlying240 hj _ _ _ rfl hown rfl ?_
      |refine wpList_append_own _ rfl (.tmp 40) (.tmp 42) 240 rfl w1.heap.size 255 i1 (.agg #[eS,iT 0,iT 0]) 3 32 Tryz.underlying240 hj hy0 hy1 hy2 rfl (by decide) _ _ _ rfl (hown2.alloc _) (aD v3.heap.size 0) 1 1 (M.St.cells ⟨⟨#[]⟩,place,size⟩) rfl rfl ?c1 ?c2 ?c3 ?c4 ?c5 ?_)
     (((((((case c1=>exact MK _ (⟨⟨#[]⟩,place,size⟩:M.St) _);case c2=>exact cells_one _);case c3=>unfold maxLen;first|omega|(simp;done)|(simp;omega));case c4=>first|omega|(simp;done)|(simp;omega));case c5=>simp;omega);intro v'' w'' hown'' Eb _;obtain⟨ao6,cap6,hv6⟩:=Ac hown'';rw[hv6]at hown'';rw[hv6];have hg6:=(hg3.kept ((Q.refl _).alloc #[eS,iT (place:Int),iT (size:Int)] 255)).push (D:=[⟨⟨#[]⟩,place,size⟩]) Eb (by rw[DJ];exact hown'');have x2:w''.cell? (aD v1.heap.size 2)=some (iT (size:Int)):=DC Eb (AA hV2 ((Q.refl _).alloc _ _)) (fun k hk=>by have:=hkv k hk;show k≠v1.heap.size;omega);go_wp2_with fail);go_roundw);case rel=>exact⟨C++[⟨⟨#[]⟩,place,size⟩],ao6,cap6,at_-ahead+size,at_-ahead+size,by simp,by congr 1;omega,by congr 1;omega,zLK _,by omega,hg6,fun h=>by simp at h,by simpa using N1,by simpa using N2⟩
     case measure =>
      have:=N3.out;simp only[intOf];rw[show((at_:Int)-(ahead:Int)+(size:Int)).toNat=at_-ahead+size by omega,zLp,zLp];exact this
    .obtain⟨x,rfl⟩:∃x,D=[x]:=by
      cases D with
      |nil=>exact absurd rfl hD
      |cons x D=>cases D with
       |nil=>exact⟨x,rfl⟩
       |cons y D=>simp at hpl
     obtain⟨gd,od,rfl,hgd,hcd⟩:=hDs.at (k:=0) (by simp);have hcx:∀j u,x.cells[j]?=some u->v3.cell? (((aD gd od):Addr).add j)=some u:=fun j u hu=>by
      (have hx:((aD gd od):Addr).add j=(aD gd (od+j)):=by unfold Addr.add;split<;>simp_all);rw[hx];exact hcd.OC j u (by rw[DJ];exact hu)
     have HCX:Hid _:=hcx;by_cases hC:C=[]
     ·(((((((((((((((obtain⟨rfl,rfl⟩:=hnil hC;subst hC;have hnl:v3.ownsRow v3.heap.size 255 3 nS 0 []:=World.ownsRow_nil _ _ _ _;go_wp2_with(at_builtin;refine wpList_append_own _ rfl (.tmp 31) (.tmp 38) 240 rfl v3.heap.size 255 i1 (.agg #[eS,iT 0,iT 0]) 3 32 Tryz.underlying240 hj hy0 hy1 hy2 rfl (by decide) _ _ _ rfl hnl (aD gd od) 1 cd x.cells rfl rfl ?c1 ?c2 ?c3 ?c4 ?c5 ?_));case c1=>exact HCX.out);case c2=>exact cells_one _);case c3=>unfold maxLen;omega);case c4=>omega);case c5=>exact zLK _);intro v' u hown' hgrow _;obtain⟨sZ,cap4,hv⟩:=Ac hown';rw[hv]at hown';rw[hv];have hkr:∀k,(Value.slice sZ 1 cap4).ownBlock=some k->k≠v1.heap.size:=fun k hk=>by have:=(hown'.lt k hk).1;omega);have hg4:Grow w1 ([x]) sZ cap4 u:=⟨hg3.below.grown hgrow hg3.below.size (by simp[Value.ownBlock]),by rw[DJ];exact Ll hown' hg3.below.size⟩;have LK:Uc u v1.heap.size eS (iT (place:Int)) (iT (size:Int)):=Uq.grown hgrow (by simp[Value.ownBlock]);have RB:=LK.c0;have hV1:=LK.c1;have hV2:=LK.c2;have hown2:=hg4.own;have hsz2:=hg4.below.size;go_wp2_with(at_builtin;refine wpList_append_own _ rfl (.tmp 40) (.tmp 42) 240 rfl w1.heap.size 255 i1 (.agg #[eS,iT 0,iT 0]) 3 32 Tryz.underlying240 hj hy0 hy1 hy2 rfl (by decide) _ _ _ rfl (hown2.alloc _) (aD u.heap.size 0) 1 1 (M.St.cells ⟨⟨#[]⟩,place,size⟩) rfl rfl ?c1 ?c2 ?c3 ?c4 ?c5 ?_));case c1=>exact MK _ (⟨⟨#[]⟩,place,size⟩:M.St) _);case c2=>exact cells_one _);case c3=>unfold maxLen;first|omega|(simp;done)|(simp;omega));case c4=>first|omega|(simp;done)|(simp;omega));case c5=>simp;omega);intro v'' w'' hown'' Eb _;obtain⟨ao6,cap6,hv6⟩:=Ac hown'';rw[hv6]at hown'';rw[hv6];have hg6:=(hg4.kept ((Q.refl _).alloc #[eS,iT (place:Int),iT (size:Int)] 255)).push (D:=[⟨⟨#[]⟩,place,size⟩]) Eb (by rw[DJ];exact hown'');have x2:w''.cell? (aD v1.heap.size 2)=some (iT (size:Int)):=DC Eb (AA hV2 ((Q.refl _).alloc _ _)) hkr;go_wp2_with fail);go_roundw);case rel=>exact⟨[x]++[⟨⟨#[]⟩,place,size⟩],ao6,cap6,at_-ahead+size,at_-ahead+size,by simp,by congr 1;omega,by congr 1;omega,zLK _,by omega,hg6,fun h=>by simp at h,by simpa using N1,by simpa using N2⟩
      case measure =>
       have:=N3.out;simp only[intOf];rw[show((at_:Int)-(ahead:Int)+(size:Int)).toNat=at_-ahead+size by omega,zLp,zLp];exact this
     ·((((((((((((((((have YU:1<=C.length:=List.length_pos_iff.2 hC;go_wp2_with(at_builtin;refine wpList_append_own _ rfl (.tmp 31) (.tmp 38) 240 rfl w1.heap.size 255 i1 (.agg #[eS,iT 0,iT 0]) 3 32 Tryz.underlying240 hj hy0 hy1 hy2 rfl (by decide) _ _ _ rfl hown (aD gd od) 1 cd x.cells rfl rfl ?c1 ?c2 ?c3 ?c4 ?c5 ?_));case c1=>exact HCX.out);case c2=>exact cells_one _);case c3=>unfold maxLen;omega);case c4=>omega);case c5=>exact hsz);intro v' u hown' hgrow _;obtain⟨sZ,cap4,hv⟩:=Ac hown';rw[hv]at hown';rw[hv];have zB8:∀k,(Value.slice ao C.length cap).ownBlock=some k->k≠v1.heap.size:=fun k hk=>by have:=hkv k hk;omega);have hkr:∀k,(Value.slice sZ (C.length+1) cap4).ownBlock=some k->k≠v1.heap.size:=iN (Yu hgrow hVh zB8) rfl hown' (by omega);have hg4:Grow w1 (C++[x]) sZ cap4 u:=hg3.push (D:=[x]) hgrow (by rw[DJ];exact hown');have LK:Uc u v1.heap.size eS (iT (place:Int)) (iT (size:Int)):=Uq.grown hgrow zB8;have hlen:(C++[x]).length=C.length+1:=by simp);rw[<-hlen]at hkr;have RB:=LK.c0;have hV1:=LK.c1;have hV2:=LK.c2;have hown2:=hg4.own;rw[hlen]at hown2;have hsz2:=hg4.below.size;go_wp2_with(at_builtin;refine wpList_append_own _ rfl (.tmp 40) (.tmp 42) 240 rfl w1.heap.size 255 i1 (.agg #[eS,iT 0,iT 0]) 3 32 Tryz.underlying240 hj hy0 hy1 hy2 rfl (by decide) _ _ _ rfl (hown2.alloc _) (aD u.heap.size 0) 1 1 (M.St.cells ⟨⟨#[]⟩,place,size⟩) rfl rfl ?c1 ?c2 ?c3 ?c4 ?c5 ?_));case c1=>exact MK _ (⟨⟨#[]⟩,place,size⟩:M.St) _);case c2=>exact cells_one _);case c3=>unfold maxLen;first|omega|(simp;done)|(simp;omega));case c4=>first|omega|(simp;done)|(simp;omega));case c5=>simp;omega);intro v'' w'' hown'' Eb _;obtain⟨ao6,cap6,hv6⟩:=Ac hown'';rw[hv6]at hown'';rw[hv6];rw[<-hlen]at hown'' Eb;have hg6:=(hg4.kept ((Q.refl _).alloc #[eS,iT (place:Int),iT (size:Int)] 255)).push (D:=[⟨⟨#[]⟩,place,size⟩]) Eb (by rw[DJ];exact hown'');have x2:w''.cell? (aD v1.heap.size 2)=some (iT (size:Int)):=DC Eb (AA hV2 ((Q.refl _).alloc _ _)) hkr;go_wp2_with fail);go_roundw);case rel=>exact⟨(C++[x])++[⟨⟨#[]⟩,place,size⟩],ao6,cap6,at_-ahead+size,at_-ahead+size,by simp,by congr 1;omega,by congr 1;omega,zLK _,by omega,hg6,fun h=>by simp at h,by simpa using N1,by simpa using N2⟩
      case measure =>
       have:=N3.out;simp only[intOf];rw[show((at_:Int)-(ahead:Int)+(size:Int)).toNat=at_-ahead+size by omega,zLp,zLp];exact this
   .have E:Hid (decide ((⟨⟨#[]⟩,place,size⟩:M.St).cost+2<=size)=false):=(by simpa using hpay:decide ((⟨⟨#[]⟩,place,size⟩:M.St).cost+2<=size)=false);have WC2:Hid (∀w':World,Calls Tryz.prog 209 #[.agg #[eS,iT (place:Int),iT (size:Int)]] w' fun e w''=>e=.returned (.bool false)/\Q w' w''):=fun w'=>by
     have:=WC.out w';rw[E.out]at this;exact this
    ((have HS2:=h_ (lM hb hda hgo hS.out hW hpay);go_wp2_with fail;apply(WC2.out _).mono;rintro e v2⟨rfl,p2⟩;have hg2:=hg1.kept p2;go_wp2_with fail);go_roundw);case rel=>exact⟨C,ao,cap,done,at_+1,rfl,by go_num,by go_num,by omega,by omega,hg2,hnil,hF,HS2⟩
    case measure =>
     simp only[intOf];rw[show((at_:Int)+1).toNat=at_+1 by omega,zLp,zLp];unfold MF;split<;>split<;>omega
  .have HFS:=h_ (rT ht hgo hF.out hS.out);have PC:Hid _:=PS.out done t.size;have hpl:(Dm (t.extract done t.size)).length<=1:=by unfold Dm;split<;>simp
   ((have hdt:(done:Int)<=(t.size:Int):=by omega);have zJB:(t.size:Int)<(at_:Int)+4:=by omega);generalize Dm (t.extract done t.size)=D at*;go_wp2_with fail;apply(PC.out _).mono;rintro e v3⟨ad,cd,rfl,⟨hDs,hDn⟩,p3⟩;have hg3:=hgr.kept p3;have hown:=hg3.own;have hsz:=hg3.below.size;by_cases hD:D=[]
   .obtain⟨rfl,rfl⟩:=hDn hD;subst hD;rw[zLw]at HFS;have HR:=hU ((⟨PW hg3.own,hg3.cap,q1.trans hg3.q⟩:Steps v3 ao C/\C.length<=cap/\Q w v3));go_wp2_with(at_builtin;refine wpList_append_own_none rfl (.tmp 51) (.tmp 55) 240 rfl w1.heap.size 255 i1 3 Tryz.underlying240 hj _ _ _ rfl hown rfl ?_);go_ret;exact⟨C,ao,cap,rfl,⟨HFS.out,(HR.out ()).1,(HR.out ()).2.1⟩,(HR.out ()).2.2⟩
   .obtain⟨x,rfl⟩:∃x,D=[x]:=by
     cases D with
     |nil=>exact absurd rfl hD
     |cons x D=>cases D with
      |nil=>exact⟨x,rfl⟩
      |cons y D=>simp at hpl
    obtain⟨gd,od,rfl,hgd,hcd⟩:=hDs.at (k:=0) (by simp);have hcx:∀j u,x.cells[j]?=some u->v3.cell? (((aD gd od):Addr).add j)=some u:=fun j u hu=>by
     (have hx:((aD gd od):Addr).add j=(aD gd (od+j)):=by unfold Addr.add;split<;>simp_all);rw[hx];exact hcd.OC j u (by rw[DJ];exact hu)
    (((((((have HCX:Hid _:=hcx;go_wp2_with(at_builtin;refine wpList_append_own _ rfl (.tmp 51) (.tmp 55) 240 rfl w1.heap.size 255 i1 (.agg #[eS,iT 0,iT 0]) 3 32 Tryz.underlying240 hj hy0 hy1 hy2 rfl (by decide) _ _ _ rfl hown (aD gd od) 1 cd x.cells rfl rfl ?c1 ?c2 ?c3 ?c4 ?c5 ?_));case c1=>exact HCX.out);case c2=>exact cells_one _);case c3=>unfold maxLen;omega);case c4=>omega);case c5=>exact hsz);intro v' u hown' hgrow _;obtain⟨sZ,cap4,hv⟩:=Ac hown';rw[hv]at hown';rw[hv];have hg4:Grow w1 (C++[x]) sZ cap4 u:=hg3.push (D:=[x]) hgrow (by rw[DJ];exact hown');have HR:=hU ((⟨PW hg4.own,hg4.cap,q1.trans hg4.q⟩:Steps u sZ (C++[x])/\(C++[x]).length<=cap4/\Q w u));have hlen:(C++[x]).length=C.length+1:=by simp);have gH:Hid _:=hlen;go_wp2;go_ret;exact⟨C++[x],sZ,cap4,by rw[gH.out];rfl,⟨HFS.out,(HR.out ()).1,(HR.out ()).2.1⟩,(HR.out ()).2.2⟩
def Z0(b t C:BA):Prop:=∃acc:List Nat,C.size<=t.size+8/\(b=t->C.size<=8)/\M.parse C.data.toList=some (t.size,acc)/\M.reach acc<=b.size/\M.made acc b.data.toList=t.data.toList
theorem zBo{C:BA}{L:List M.St}(ht:t.size<=4096)(hF:KL b t L)(hW:Gr L C):Z0 b t C:=by
 obtain⟨h1,h2,h3⟩:=hF;have hto:=h1.tot;obtain⟨p1,p2⟩:=hW.parse h1.good (by omega);refine⟨M.flat L,by omega,fun e=>by have:=h3 e;omega,by rw[p1,hto],h1.reach,?_⟩;rw[h1.made];exact zLP (by simp)
theorem r9(b t:BA)(hb:b.size<=4096)(ht:t.size<=4096)(w:World):
  Calls Tryz.prog 173 #[sT b,sT t] w fun e w'=>∃C:BA,Z0 b t C/\e=.returned (.tuple #[sT C,iT 0])/\Q w w':=by
 have FC:Hid _:=rU b t hb ht;have t1:decide ((4096:Int)<(b.size:Int))=false:=by simp;omega
 have t2:decide ((4096:Int)<(t.size:Int))=false:=by simp;omega
 have HD:Hid _:=fun(C:BA)(L:List M.St)(hF:KL b t L)(hW:Gr L C)=>zBo ht hF hW;have HW:Hid _:=fun(L:List M.St)(ao:Option Addr)(cap:Nat)(w':World)(hF:KL b t L)(hs:Steps w' ao L)(hc:L.length<=cap)=>gM L ao cap w' hs (by rw[hF.1.tot];exact ht) hF.1.good hc;go_in;go_wp2_with fail;apply(FC.out _).mono;rintro e w1⟨L,ao,cap,rfl,⟨hF,hs,hc⟩,q1⟩;go_wp2_with fail;apply(HW.out L ao cap w1 hF hs hc).mono;rintro e w2⟨C,nN,rfl,q2⟩;go_wp2_with fail
 go_ret2
 exact⟨C,HD.out C L hF nN,rfl,q1.trans q2⟩
def CU:S.Ap:=fun c b=>(applied (M.parse c.data.toList) b.data.toList).map fun l=>⟨l.toArray⟩
theorem aL{C:BA}(h:Z0 b t C):CU C b=some t:=by
 obtain⟨acc,_,_,h1,h2,h3⟩:=h;unfold CU applied;rw[h1];have hl:b.data.toList.length=b.size:=by simp
 simp only[hl];rw[if_neg (by omega),h3,zM1]
theorem Ua(c b:BA)(s:BA)(h:CU c b=some s):NJ (applied (M.parse c.data.toList) b.data.toList)=.returned (.tuple #[sT s,iT 0]):=by
 unfold CU at h
 cases ha:applied (M.parse c.data.toList) b.data.toList with
 |none=>rw[ha]at h;cases h
 |some l =>
  rw[ha,zM1]at h;injection h with h;rw[<-h];rfl
theorem Ux(r:Rec)(newer s:BA)(hb:r.body.size<=140737488351232)(hn:newer.size<=140737488351232)(hk:r.kind=0\/r.kind=1\/r.kind=2)(h:S.valOf CU r newer=some s)(w:World):
  Calls Tryz.prog 138 #[r.val,sT newer] w fun e w'=>e=.returned (.tuple #[sT s,iT 0])/\Q w w':=by
 obtain⟨key,stamp,kind,body⟩:=r;unfold Rec.val;simp only at*;unfold S.valOf at h;simp only at h;rcases hk with rfl|rfl|rfl
 .rw[if_pos rfl]at h;split at h
  .injection h with h;subst h;go_in;go_wp2_with fail
   go_ret2
   exact⟨rfl,(Q.refl w).alloc _ _⟩
  .cases h
 .have HA:Hid _:=fun W=>mP body newer hb hn W;rw[if_neg (by decide),if_neg (by decide)]at h
  cases ha:CU body newer with
  |none=>rw[ha]at h;cases h
  |some t =>
   rw[ha]at h;simp only at h;split at h
   .injection h with h;subst h;rw[Ua _ _ _ ha]at HA;go_in;go_wp2_with fail;apply(HA.out _).mono;rintro e w1⟨rfl,q1⟩;go_wp2_with fail
    go_ret2
    exact⟨rfl,((Q.refl w).alloc _ _).trans q1⟩
   .cases h
 .rw[if_neg (by decide),if_pos rfl]at h;split at h
  .injection h with h;subst h;go_in;go_wp2_with fail
   go_ret2
   exact⟨rfl,(Q.refl w).alloc _ _⟩
  .cases h
def Kc(r:Rec)(s:BA):Rec:=if r.kind=1 then⟨r.key,r.stamp,0,s⟩else r
theorem gU(r:Rec)(s:BA)(hk:r.kind=0\/r.kind=1\/r.kind=2)(w:World):
  Calls Tryz.prog 141 #[r.val,sT s] w fun e w'=>e=.returned (Kc r s).val/\Q w w':=by
 obtain⟨key,stamp,kind,body⟩:=r;unfold Rec.val Kc;simp only at*;rcases hk with rfl|rfl|rfl
 .go_in;go_wp2_with fail;refine bodyPost_ret (v:=.agg #[sT key,iT stamp,iT 0,sT body]) (by simp[results,Tryz.results141,go_sem]) rfl ?_;exact⟨rfl,((Q.refl w).alloc _ _).alloc _ _⟩
 .go_in;go_wp2_with fail;refine bodyPost_ret (v:=.agg #[sT key,iT stamp,iT 0,sT s]) (by simp[results,Tryz.results141,go_sem]) rfl ?_;exact⟨rfl,((Q.refl w).alloc _ _).alloc _ _⟩
 .go_in;go_wp2_with fail;refine bodyPost_ret (v:=.agg #[sT key,iT stamp,iT 2,sT body]) (by simp[results,Tryz.results141,go_sem]) rfl ?_;exact⟨rfl,((Q.refl w).alloc _ _).alloc _ _⟩
def Qo(r:Rec)(newer:BA)(r':Rec):Prop:=r'=r\/(r.kind=0/\∃c:BA,r'=⟨r.key,r.stamp,1,c⟩/\Z0 newer r.body c/\c.size<r.body.size)
theorem Ym(r:Rec)(newer:BA)(hk:r.kind=0\/r.kind=1\/r.kind=2)(hn:newer.size<=4096)(hb:r.kind=0->r.body.size<=4096)(w:World):
  Calls Tryz.prog 140 #[r.val,sT newer] w fun e w'=>(∃r',e=.returned r'.val/\Qo r newer r')/\Q w w':=by
 obtain⟨key,stamp,kind,body⟩:=r;unfold Rec.val;simp only at*;rcases hk with rfl|rfl|rfl
 .have HD:Hid _:=fun W=>r9 newer body hn (hb rfl) W;have HB:=h_ (hb rfl);go_in;go_wp2_with fail;apply(HD.out _).mono;rintro e w1⟨c,kQ,rfl,q1⟩;have HDi:Hid _:=kQ;have hV:=(AZ w [sT key,iT stamp,iT 0,sT body] 119);have hV1:=(hV.kept ((Q.refl _).alloc #[eS,iT 0,iT 0,eS] 119)).kept q1;have hR:=(AZ (w.alloc (.cells #[sT key,iT stamp,iT 0,sT body] 119)) [eS,iT 0,iT 0,eS] 119).kept q1;rw[zMM]at hR;have q1':Q w w1:=(((Q.refl w).alloc _ _).alloc _ _).trans q1;have a0:=hV1.cell 0 rfl;have a1:=hV1.cell 1 rfl;have a2:=hV1.cell 2 rfl;have a3:=hV1.cell 3 rfl;have f2:=hV1.free 2 rfl;have f3:=hV1.free 3 rfl;have b0:=hR.cell 0 rfl;have b1:=hR.cell 1 rfl;have b2:=hR.cell 2 rfl;have b3:=hR.cell 3 rfl;have g0:=hR.free 0 rfl;have g1:=hR.free 1 rfl;have g2:=hR.free 2 rfl;have g3:=hR.free 3 rfl;by_cases hlt:c.size<body.size
  .have I4:(c.size:Int)<(body.size:Int):=by omega
   (have hd:decide ((c.size:Int)<(body.size:Int))=true:=by simpa using hlt);have nP:=(hV1.set 2 (iT 1)).set 3 (sT c);have hRo:=(hR.other (by omega:w.heap.size+1≠w.heap.size) 2 (iT 1)).other (by omega:w.heap.size+1≠w.heap.size) 3 (sT c);have hRs:=(((hRo.set 0 (sT key)).set 1 (iT stamp)).set 2 (iT 1)).set 3 (sT c);have c0:=nP.cell 0 rfl;have c1:=nP.cell 1 rfl;have c2:=nP.cell 2 rfl;have c3:=nP.cell 3 rfl;have m0:=hRs.cell 0 rfl;have m1:=hRs.cell 1 rfl;have m2:=hRs.cell 2 rfl;have m3:=hRs.cell 3 rfl;have hq:=(((((q1'.setCell (p:=(aD w.heap.size 2)) (zLK _) (iT 1)).setCell (p:=(aD w.heap.size 3)) (zLK _) (sT c)).setCell (p:=(aD (w.heap.size+1) 0)) (Nat.le_succ _) (sT key)).setCell (p:=(aD (w.heap.size+1) 1)) (Nat.le_succ _) (iT stamp)).setCell (p:=(aD (w.heap.size+1) 2)) (Nat.le_succ _) (iT 1)).setCell (p:=(aD (w.heap.size+1) 3)) (Nat.le_succ _) (sT c);go_wp2_with fail;refine bodyPost_ret (v:=.agg #[sT key,iT stamp,iT 1,sT c]) (by simp[results,Tryz.results140,go_sem,m0,m1,m2,m3]) rfl ?_;exact⟨⟨⟨key,stamp,1,c⟩,rfl,Or.inr ⟨rfl,c,rfl,HDi.out,hlt⟩⟩,hq⟩
  .have I4:¬(c.size:Int)<(body.size:Int):=by omega
   (have hd:decide ((c.size:Int)<(body.size:Int))=false:=by simpa using hlt);have hRs:=(((hR.set 0 (sT key)).set 1 (iT stamp)).set 2 (iT 0)).set 3 (sT body);have m0:=hRs.cell 0 rfl;have m1:=hRs.cell 1 rfl;have m2:=hRs.cell 2 rfl;have m3:=hRs.cell 3 rfl;have hq:=(((q1'.setCell (p:=(aD (w.heap.size+1) 0)) (Nat.le_succ _) (sT key)).setCell (p:=(aD (w.heap.size+1) 1)) (Nat.le_succ _) (iT stamp)).setCell (p:=(aD (w.heap.size+1) 2)) (Nat.le_succ _) (iT 0)).setCell (p:=(aD (w.heap.size+1) 3)) (Nat.le_succ _) (sT body);go_wp2_with fail;refine bodyPost_ret (v:=.agg #[sT key,iT stamp,iT 0,sT body]) (by simp[results,Tryz.results140,go_sem,m0,m1,m2,m3]) rfl ?_;exact⟨⟨⟨key,stamp,0,body⟩,rfl,Or.inl rfl⟩,hq⟩
 .go_in;go_wp2_with fail;refine bodyPost_ret (v:=.agg #[sT key,iT stamp,iT 1,sT body]) (by simp[results,Tryz.results140,go_sem]) rfl ?_;exact⟨⟨⟨key,stamp,1,body⟩,rfl,Or.inl rfl⟩,((Q.refl w).alloc _ _).alloc _ _⟩
 .go_in;go_wp2_with fail;refine bodyPost_ret (v:=.agg #[sT key,iT stamp,iT 2,sT body]) (by simp[results,Tryz.results140,go_sem]) rfl ?_;exact⟨⟨⟨key,stamp,2,body⟩,rfl,Or.inl rfl⟩,((Q.refl w).alloc _ _).alloc _ _⟩
theorem yR(v:Value)(w:World):Calls Tryz.prog 81 #[v] w fun e w'=>e=.returned v/\w'=w:=by
 go_in;go_wp2;go_ret;exact⟨rfl,rfl⟩
def Ip(wm:Int):List Rec->Nat
 |[]=>0
 |r::l=>if wm<r.stamp then Ip wm l+1 else if r.kind=2 then 0 else 1
theorem ZR(wm:Int):∀l:List Rec,Ip wm l<=l.length
 |[]=>zLK _
 |r::l=>by
  have:=ZR wm l;simp only[Ip,zLQ];split
  .omega
  .split<;>omega
theorem Rs{wm:Int}:∀{l:List Rec}{k:Nat},(∀(i:Nat)(r:Rec),i<k->l[i]?=some r->wm<r.stamp)->k<=l.length->Ip wm l=k+Ip wm (l.drop k)
 |l,0,_,_=>by simp
 |[],k+1,_,h=>by simp at h
 |r::l,k+1,h,hk=>by
  have h0:=h 0 r (by omega) rfl;rw[List.drop_succ_cons];simp only[Ip,h0,if_true];rw[Rs (l:=l) (k:=k) (fun i x hi hx=>h (i+1) x (by omega) (by simpa using hx)) (by simpa using hk)];omega
theorem bR(rs:List Rec)(hl:rs.length<=140737488351232)(wm:Int)(ao:Option Addr)(cap:Nat)(w:World)(h:Rcs w ao rs)(hc:rs.length<=cap):
  Calls Tryz.prog 83 #[.slice ao rs.length cap,iT wm] w fun e w'=>e=.returned (.slice ao (Ip wm rs) cap)/\Q w w':=by
 have HH:=h_ h;have HN:Hid (∀k:Nat,(∀(i:Nat)(r:Rec),i<k->rs[i]?=some r->wm<r.stamp)->k<=rs.length->Ip wm rs=k+Ip wm (rs.drop k)):=fun k h1 h2=>Rs h1 h2;go_in;go_wp2_with fail
 go_loopw [9] (fun t wr=>∃k:Nat,t=iT (k:Int)/\k<=rs.length/\Hid (∀(i:Nat)(r:Rec),i<k->rs[i]?=some r->wm<r.stamp)/\Q w wr) (fun t _=>rs.length-(intOf t).toNat)
 case atStart=>exact⟨0,rfl,zLS _,(fun i r hi _=>by omega:∀(i:Nat)(r:Rec),i<0->rs[i]?=some r->wm<r.stamp),Q.refl w⟩
 case round =>
  obtain⟨k,rfl,hk,hbef,hq⟩:=hrel;by_cases hlt:k<rs.length
  .obtain⟨b,off,rfl,hbw,hR⟩:=(HH.out.kept hq).at hlt;obtain⟨r,hr⟩:∃r,rs[k]?=some r:=⟨_,zLH hlt⟩;obtain⟨c0,c1,c2,c3⟩:=hR k r hr;have I4:(k:Int)<(rs.length:Int):=by omega
   by_cases hs:wm<r.stamp
   .have HB2:Hid (∀(i:Nat)(x:Rec),i<k+1->rs[i]?=some x->wm<x.stamp):=fun i x hi hx=>by
     by_cases e:i=k
     .subst e;rw[hr]at hx;injection hx with hx;rw[<-hx];exact hs
     .exact hbef.out i x (by omega) hx
    (((clear hR hr;go_wp2_with fail);go_roundw);case rel=>exact⟨k+1,by go_num,by omega,HB2,hq.alloc _ _⟩);case measure=>simp[intOf];omega
   .have hsI:¬wm<r.stamp:=hs;have hdr:rs.drop k=r::rs.drop (k+1):=by
     rw[List.drop_eq_getElem_cons hlt];congr 1;rw[zLH hlt]at hr;injection hr
    have HE:=HN.out k hbef.out hk;rw[hdr]at HE;simp only[Ip,hs,if_false]at HE;by_cases hg:r.kind=2
    ·((rw[if_pos hg,Nat.add_zero]at HE;have HE2:=h_ HE;have hgb:(r.kind==2)=true:=by simp[hg]);have hkc:(k:Int)<=(cap:Int):=by omega);clear HE hdr hR hr;go_wp2;go_ret;exact⟨by rw[HE2.out];rfl,hq.alloc _ _⟩
    ·((rw[if_neg hg]at HE;have HE2:=h_ HE;have hgb:(r.kind==2)=false:=by rw[zM9];exact hg);have hkc:(k:Int)+1<=(cap:Int):=by omega);clear HE hdr hR hr;go_wp2;go_ret;exact⟨by rw[HE2.out];rfl,hq.alloc _ _⟩
  .obtain rfl:k=rs.length:=by omega
   have HE:=HN.out rs.length hbef.out (zLK _);rw[List.drop_length]at HE;simp only[Ip,Nat.add_zero]at HE;have HE2:=h_ HE;clear HE;go_wp2;go_ret;exact⟨by rw[HE2.out];rfl,hq⟩
def Gb(o:Option S.Vs):Ending:=.returned (.tuple #[sT (S.told o).1,.bool (S.told o).2,iT 0])
theorem TL{ap:S.Ap}{n e s:BA}{R:List Rec}{V:List S.Vs}{r:Rec}(h:S.run ap n R=some (V,e))(hv:S.valOf ap r e=some s):S.run ap n (R++[r])=some (V++[S.EH r s],s):=by
 rw[S.GQ,h];simp only[S.TM hv]
theorem WR{V U:List S.Vs}{v:S.Vs}{t:Int}(hV:∀u∈V,t<u.stamp)(hv:v.stamp<=t):S.Ak (V++v::U) t=some v:=by
 rw[S.Fu,S.F6 hV];simp[S.Ak,hv]
theorem XV(rs:List Rec)(hl:rs.length<=140737488351232)(hk:∀r∈rs,r.fits=true)(key:BA)(t:Int)(V:List S.Vs)(e0:BA)(hT:S.run CU ⟨#[]⟩ (S.BZ key rs)=some (V,e0))(ao:Option Addr)(cap:Nat)(w:World)(h:Rcs w ao rs):
  Calls Tryz.prog 132 #[.slice ao rs.length cap,sT key,iT t] w fun e w'=>e=Gb (S.Ak V t)/\Q w w':=by
 have HH:=h_ h;have HT:=h_ hT;have HK:=h_ hk;clear h hT hk;go_in;go_wp2_with fail
 go_loopw [9,16] (fun tn ti wr=>∃(k:Nat)(newer:BA),tn=sT newer/\ti=iT (k:Int)/\k<=rs.length/\newer.size<=4096/\Hid (∃U,S.run CU ⟨#[]⟩ (S.BZ key (rs.take k))=some (U,newer)/\∀u∈U,t<u.stamp)/\Q w wr) (fun _ ti _=>rs.length-(intOf ti).toNat)
 case atStart=>exact⟨0,⟨#[]⟩,rfl,rfl,zLS _,zLS _,(⟨[],by simp[S.BZ,S.run],by simp⟩:∃U,S.run CU ⟨#[]⟩ (S.BZ key (rs.take 0))=some (U,⟨#[]⟩)/\∀u∈U,t<u.stamp),Q.refl w⟩
 case round =>
  obtain⟨k,newer,rfl,rfl,hk,hnz,hU,hq⟩:=hrel;by_cases hlt:k<rs.length
  .obtain⟨b,off,rfl,hbw,hR⟩:=(HH.out.kept hq).at hlt;obtain⟨r,hr⟩:∃r,rs[k]?=some r:=⟨_,zLH hlt⟩;obtain⟨c0,c1,c2,c3⟩:=hR k r hr;have I4:(k:Int)<(rs.length:Int):=by omega
   (have htk:rs.take (k+1)=rs.take k++[r]:=by rw[zLv,hr];rfl);by_cases hkey:r.key=key
   ·(have hkb:(r.key.toList==key.toList)=true:=by rw[hkey];simp);have hof:S.BZ key (rs.take (k+1))=S.BZ key (rs.take k)++[r]:=by rw[htk,S.Da,S.Vh (R:=[r]) (fun x hx=>by simp at hx;rw[hx,hkey])]
    obtain⟨U,fZ,xY⟩:=hU.out;have hsp:S.BZ key rs=S.BZ key (rs.take k)++r::S.BZ key (rs.drop (k+1)):=by
     have e1:rs=rs.take (k+1)++rs.drop (k+1):=(zLq _ _).symm;have e2:=congrArg (S.BZ key) e1;rw[S.Da,hof]at e2;rw[e2];simp
    have hrun:=HT.out;rw[hsp,S.GQ,fZ]at hrun;simp only[S.run]at hrun
    cases hval:S.valOf CU r newer with
    |none=>rw[hval]at hrun;cases hrun
    |some s =>
     rw[hval]at hrun;simp only at hrun
     cases hrest:S.run CU s (S.BZ key (rs.drop (k+1)))with
     |none=>rw[hrest]at hrun;cases hrun
     |some pr =>
      obtain⟨l2,f2⟩:=pr;rw[hrest]at hrun;simp only[zLO,Prod.mk.injEq]at hrun;have hVe:=hrun.1;have hfit:=HK.out r (zLR hr);simp only[Rec.fits,zMF]at hfit;have hkd:r.kind=0\/r.kind=1\/r.kind=2:=by omega
      have hss:s.size<=4096:=by
       have h1:=S.J4 hval;rcases hkd with h|h|h
       .unfold S.valOf at hval;rw[if_pos h]at hval;split at hval
        .injection hval with hval;rw[<-hval];assumption
        .cases hval
       .unfold S.EH S.Vs.size at h1;simp[h]at h1;omega
       .unfold S.valOf at hval;rw[if_neg (by omega),if_pos h]at hval;split at hval
        .injection hval with hval;rw[<-hval];exact hnz
        .cases hval
      have VA:Hid _:=fun W=>Ux r newer s (by omega) (by omega) hkd hval W;unfold Rec.val at VA;by_cases hst:t<r.stamp
      .have HU2:Hid (∃U,S.run CU ⟨#[]⟩ (S.BZ key (rs.take (k+1)))=some (U,s)/\∀u∈U,t<u.stamp):=⟨U++[S.EH r s],by rw[hof];exact TL fZ hval,fun u hu=>by
        rw[zMD]at hu;rcases hu with hu|hu
        .exact xY u hu
        .simp only[List.mem_singleton]at hu;subst hu;exact hst⟩
       (((clear hR hr htk hof hU hsp hval hrest hVe hkd hfit fZ xY hrun hkey;go_wp2_with fail;apply(VA.out _).mono;rintro e w1⟨rfl,q1⟩;have hV1:=(AZ wr [sT r.key,iT r.stamp,iT r.kind,sT r.body] 119).kept q1;have k1:=hV1.cell 1 rfl;have hq1:=(hq.alloc _ _).trans q1;clear hV1 q1 VA;go_wp2_with fail);go_roundw);case rel=>exact⟨k+1,s,rfl,by go_num,by omega,hss,HU2,hq1⟩);case measure=>simp[intOf];omega
      ·((have YN:r.stamp<=t:=by omega);have HF:Hid (S.Ak V t=some (S.EH r s)):=by rw[<-hVe];exact WR xY YN);by_cases hg:r.kind=2
       ·((have hgb:(r.kind==2)=true:=by simp[hg]);have HF2:Hid (Gb (S.Ak V t)=.returned (.tuple #[eS,.bool false,iT 0])):=by rw[HF.out];unfold Gb S.EH;rw[if_pos hg];exact rfl);clear hR hr htk hof hU hsp hval hrest hVe hkd hfit fZ xY hrun HF hkey hg;go_wp2_with fail;apply(VA.out _).mono;rintro e w1⟨rfl,q1⟩;have hV1:=(AZ wr [sT r.key,iT r.stamp,iT r.kind,sT r.body] 119).kept q1;have k1:=hV1.cell 1 rfl;have k2:=hV1.cell 2 rfl;have hq1:=(hq.alloc _ _).trans q1;clear hV1 q1 VA;go_wp2_with fail;refine bodyPost_ret (v:=.tuple #[eS,.bool false,iT 0]) (by simp[results,Tryz.results132,go_sem]) rfl ?_;exact⟨HF2.out.symm,hq1⟩
       ·((have hgb:(r.kind==2)=false:=by rw[zM9];exact hg);have HF2:Hid (Gb (S.Ak V t)=.returned (.tuple #[sT s,.bool true,iT 0])):=by rw[HF.out];unfold Gb S.EH;rw[if_neg hg];exact rfl);clear hR hr htk hof hU hsp hval hrest hVe hkd hfit fZ xY hrun HF hkey hg;go_wp2_with fail;apply(VA.out _).mono;rintro e w1⟨rfl,q1⟩;have hV1:=(AZ wr [sT r.key,iT r.stamp,iT r.kind,sT r.body] 119).kept q1;have k1:=hV1.cell 1 rfl;have k2:=hV1.cell 2 rfl;have hq1:=(hq.alloc _ _).trans q1;clear hV1 q1 VA;go_wp2_with fail;refine bodyPost_ret (v:=.tuple #[sT s,.bool true,iT 0]) (by simp[results,Tryz.results132,go_sem]) rfl ?_;exact⟨HF2.out.symm,hq1⟩
   .have hkb:(r.key.toList==key.toList)=false:=by
     rw[zM9];intro e;exact hkey (M.EY e)
    have HU2:Hid (∃U,S.run CU ⟨#[]⟩ (S.BZ key (rs.take (k+1)))=some (U,newer)/\∀u∈U,t<u.stamp):=by
     (have:S.BZ key (rs.take (k+1))=S.BZ key (rs.take k):=by rw[htk,S.Da,S.EJ (R:=[r]) (fun x hx=>by simp at hx;rw[hx];exact hkey),zLw]);rw[this];exact hU.out
    (((clear hR hr htk hU;go_wp2_with fail);go_roundw);case rel=>exact⟨k+1,newer,rfl,by go_num,by omega,hnz,HU2,hq.alloc _ _⟩);case measure=>simp[intOf];omega
  .obtain rfl:k=rs.length:=by omega
   have HF2:Hid (Gb (S.Ak V t)=.returned (.tuple #[eS,.bool false,iT 0])):=by
    obtain⟨U,fZ,xY⟩:=hU.out;rw[zM0,HT.out]at fZ;injection fZ with fZ;injection fZ with fZ _;rw[fZ,S.F6 xY];exact rfl
   clear hU;go_wp2_with fail;refine bodyPost_ret (v:=.tuple #[eS,.bool false,iT 0]) (by simp[results,Tryz.results132,go_sem]) rfl ?_;exact⟨HF2.out.symm,hq⟩
end
namespace S
open Go.RowKit
variable{R b o:List Rec}{bs:List (List Rec)}{i:Nat}{newer s:BA}{r:Rec}
theorem Mj{wm t:Int}(ht:wm<=t):∀V:List Vs,told (Ak (V.take (needs wm V)) t)=told (Ak V t)
 |[]=>rfl
 |v::l=>by
  have ih:=Mj ht l;unfold Ak at ih⊢;by_cases h1:wm<v.stamp
  .have e:needs wm (v::l)=needs wm l+1:=by simp[needs,h1]
   rw[e,List.take_succ_cons];by_cases h2:v.stamp<=t
   .rw[List.find?_cons_of_pos (by simpa using h2),List.find?_cons_of_pos (by simpa using h2)]
   .rw[List.find?_cons_of_neg (by simpa using h2),List.find?_cons_of_neg (by simpa using h2)];exact ih
  .have h2:v.stamp<=t:=by omega
   rw[List.find?_cons_of_pos (l:=l) (by simpa using h2)];by_cases h3:v.val=none
   ·(have e:needs wm (v::l)=0:=by simp[needs,h1,h3]);rw[e,List.take_zero];obtain⟨s,x⟩:=v;simp only at h3;subst h3;rfl
   ·(have e:needs wm (v::l)=1:=by simp[needs,h1,h3]);rw[e,List.take_succ_cons,List.find?_cons_of_pos (by simpa using h2)]
theorem Ph(wm:Int):∀V:List Vs,needs wm (V.take (needs wm V))=needs wm V
 |[]=>rfl
 |v::l=>by
  have ih:=Ph wm l;by_cases h1:wm<v.stamp
  .have e:needs wm (v::l)=needs wm l+1:=by simp[needs,h1]
   rw[e,List.take_succ_cons];simp only[needs,h1,if_true];rw[ih]
  .by_cases h3:v.val=none
   ·(have e:needs wm (v::l)=0:=by simp[needs,h1,h3]);rw[e,List.take_zero];rfl
   ·(have e:needs wm (v::l)=1:=by simp[needs,h1,h3]);rw[e,List.take_succ_cons,List.take_zero];simp[needs,h1,h3]
theorem Fz{wm:Int}:∀{V:List Vs}{n:Nat},needs wm V<=n->needs wm (V.take n)=needs wm V
 |[],n,_=>by simp
 |v::l,n,h=>by
  by_cases h1:wm<v.stamp
  .have e:needs wm (v::l)=needs wm l+1:=by simp[needs,h1]
   rw[e]at h⊢;obtain⟨m,rfl⟩:∃m,n=m+1:=⟨n-1,by omega⟩;rw[List.take_succ_cons];simp only[needs,h1,if_true];rw[Fz (by omega)]
  .by_cases h3:v.val=none
   ·(have e:needs wm (v::l)=0:=by simp[needs,h1,h3]);rw[e]
    cases n with
    |zero=>simp[needs]
    |succ n=>simp[needs,h1,h3]
   ·(have e:needs wm (v::l)=1:=by simp[needs,h1,h3]);rw[e]at h⊢;obtain⟨m,rfl⟩:∃m,n=m+1:=⟨n-1,by omega⟩;simp[needs,h1,h3]
theorem Mk{a b:Int}(hab:a<=b):∀{V:List Vs},V.Pairwise (fun x y=>y.stamp<x.stamp)->needs b V<=needs a V
 |[],_=>zLK _
 |v::l,h=>by
  have hp:=zM5.1 h;have ih:=Mk hab hp.2;simp only[needs];by_cases h1:b<v.stamp
  .have h2:a<v.stamp:=by omega
   rw[if_pos h1,if_pos h2];omega
  .rw[if_neg h1];by_cases h2:a<v.stamp
   .rw[if_pos h2];split<;>omega
   .rw[if_neg h2];exact zLK _
theorem Pj{ap:Ap}{wm:Int}:∀{R:List Rec}{n e:BA}{V:List Vs},run ap n R=some (V,e)->Ip wm R=needs wm V
 |[],n,e,V,h=>by
  simp only[run,zLO,Prod.mk.injEq]at h;rw[<-h.1];rfl
 |r::R,n,e,V,h=>by
  simp only[run]at h
  cases hv:valOf ap r n with
  |none=>rw[hv]at h;cases h
  |some s =>
   rw[hv]at h;simp only at h
   cases hr:run ap s R with
   |none=>rw[hr]at h;cases h
   |some p =>
    (obtain⟨l,f⟩:=p;rw[hr]at h;simp only[zLO,Prod.mk.injEq]at h;obtain⟨rfl,_⟩:=h;have ih:=Pj (wm:=wm) hr;have hvv:(EH r s).val=if r.kind=2 then none else some s:=rfl);simp only[Ip,needs];by_cases h1:wm<r.stamp
    .rw[if_pos h1,if_pos (show wm<(EH r s).stamp from h1),ih]
    .rw[if_neg h1,if_neg (show¬wm<(EH r s).stamp from h1),hvv];by_cases h2:r.kind=2
     .simp[h2]
     .simp[h2]
def G8(b:List Rec):List BA:=[⟨(M.enc 7 (Aj b).length).toArray⟩,⟨(M.enc 7 (BJ b).key.size).toArray⟩,(BJ b).key,⟨(M.enc 7 (BJ b).stamp.toNat).toArray⟩]
def IG(bs:List (List Rec)):List BA:=(bs.map G8).flatten
theorem cu(bs:List (List Rec))(b:List Rec):IG (bs++[b])=IG bs++G8 b:=by simp[IG]
theorem Ji:∀bs:List (List Rec),(IG bs).length=4*bs.length
 |[]=>rfl
 |b::bs=>by
  have:=Ji bs;simp only[IG,zLx,zLz,zLL,zLQ]at this⊢;rw[this];simp[G8];omega
theorem Fa(A B:List BA):M.cat (A++B)=M.cat A++M.cat B:=by simp[M.cat]
theorem Wl(b:List Rec):M.cat (G8 b)=Dv b:=by simp[M.cat,G8,Dv]
theorem Qi:∀bs:List (List Rec),M.cat (IG bs)=idxOf bs
 |[]=>rfl
 |b::bs=>by
  have h1:IG (b::bs)=G8 b++IG bs:=by simp[IG]
  have h2:idxOf (b::bs)=Dv b++idxOf bs:=by simp[idxOf]
  rw[h1,h2,Fa,Wl,Qi bs]
def dat(bs:List (List Rec)):Option (List UInt8):=if bs=[]then none else some (Aw bs)
theorem OY(bs:List (List Rec)):(dat bs).getD []=Aw bs:=by
 unfold dat;split
 .rename_i h;subst h;rfl
 .rfl
theorem sD(bs:List (List Rec))(b:List Rec):dat (bs++[b])=some ((dat bs).getD []++Aj b):=by
 rw[OY];unfold dat;rw[if_neg (by simp),G9,Wt]
def Full(T0:Two)(V:Con):Prop:=∃R:List Rec,R.Pairwise Bef/\(∀r∈R,∃v∈V r.key,v.stamp=r.stamp/\r.body.size<=v.size)/\T0.cap<len T0.a+18+costs R
theorem LZ{ap:Ap}{V:List Vs}(h:EF ap R V)(hr:r∈R):∃v∈V,v.stamp=r.stamp/\r.body.size<=v.size:=by
 obtain⟨e,he⟩:=h ⟨#[]⟩;obtain⟨i,hi⟩:=List.mem_iff_getElem?.1 hr;have hl:=h.length;have hil:i<V.length:=by rw[hl];exact(zLI.1 hi).1
 have hv:V[i]?=some V[i]:=zLH hil;refine⟨V[i],List.getElem_mem hil,?_,(O3 he i r _ hi hv).1⟩;have hs:=congrArg (fun l=>l[i]?) h.stamps;simp only[zLy,hv,hi,zM1,zLO]at hs;exact hs
theorem Wri.mem{ap:Ap}{C:Con}(h:Wri ap bs o C)(hr:r∈(bs++[o]).flatten):∃v∈C r.key,v.stamp=r.stamp/\r.body.size<=v.size:=
 LZ (h.holds r.key).tells (Cx.2 ⟨hr,rfl⟩)
theorem Wri.oks{ap:Ap}{C:Con}(h:Wri ap bs o C)(ho:o≠[]):∀b∈bs++[o],OkB b:=fun b hb=>(h.cut ho).fil.ok b hb
theorem Ws:4<=(Aj b).length:=by
 unfold Aj;rw[M.Ar];omega
theorem KG:∀bs:List (List Rec),4*bs.length<=(Aw bs).length
 |[]=>by simp
 |b::bs=>by
  have h1:=KG bs;have h2:=Ws (b:=b);have e1:Aw (b::bs)=Aj b++Aw bs:=by simp[Aw]
  rw[e1];simp only[zLQ,zLL];omega
theorem Ye(h:OkB b):(Dv b).length<=74:=by
 have hm:=EC h.some_;have hf:=h.fits _ hm;simp only[Rec.fits,zMF]at hf;have h1:=NI h;have h2:=L8 h.fits;have h3:=h.few;have e1:=IW 7 2 (Aj b).length (by have:(128:Nat)^(2+1)=2097152:=(by decide);omega);have e2:=IW 7 0 (BJ b).key.size (by omega);have e3:=IW 7 5 (BJ b).stamp.toNat (by have:(128:Nat)^(5+1)=4398046511104:=(by decide);omega);have e4:(BJ b).key.data.toList.length=(BJ b).key.size:=by simp
 unfold Dv;simp only[zLL];omega
theorem QA:∀{bs:List (List Rec)},(∀b∈bs,OkB b)->(idxOf bs).length<=74*bs.length
 |[],_=>by simp[idxOf]
 |b::bs,h=>by
  have h1:=Ye (h b (by simp));have h2:=QA (bs:=bs) (fun x hx=>h x (by simp[hx]));have e2:idxOf (b::bs)=Dv b++idxOf bs:=by simp[idxOf]
  rw[e2];simp only[zLQ,zLL];omega
theorem Wri.full{ap:Ap}{C V:Con}{T0:Two}(h:Wri ap bs o C)(ho:o≠[])(hC:∀k,∀v∈C k,v∈V k)(hT:T0.cap<len T0.a+(Aw bs).length+(Aj o).length):Full T0 V:=by
 refine⟨(bs++[o]).flatten,h.ord,fun r hr=>?_,?_⟩
 .obtain⟨v,h1,h2⟩:=h.mem hr;exact⟨v,hC _ v h1,h2⟩
 .have h1:=MQ (h.oks ho);rw[G9,Wt,zLL]at h1;omega
theorem Wri.yC{ap:Ap}{C V:Con}{T0:Two}{wm:Int}(h:Wri ap bs [] C)(hw:wm<=1099511627776)(hC:∀k,∀v∈C k,v∈V k)(hb:(Aw bs).length<=1048576)(hT:T0.cap<len T0.a+(Aw bs).length+(Eh (Af bs wm)).length):Full T0 V:=by
 have hf:=h.fil;have hfl:(bs++[([]:List Rec)]).flatten=bs.flatten:=by simp
 refine⟨bs.flatten,hf.ord,fun r hr=>?_,?_⟩
 .obtain⟨v,h1,h2⟩:=h.mem (r:=r) (by rw[hfl];exact hr);exact⟨v,hC _ v h1,h2⟩
 .have h1:=MQ hf.ok;have h2:=KG bs;have h3:=QA hf.ok;have h4:=Zm (bs:=bs) (wm:=wm) hw (by omega);omega
theorem Sm{r':Rec}(hf:r.fits=true)(hv:valOf CU r newer=some s)(h:Qo r newer r'):Wrote CU true newer r s r':=by
 rcases h with rfl|⟨h0,c,rfl,hd,hc⟩
 .exact⟨rfl,rfl,Iff.rfl,hf,fun _=>hv,fun e=>(by cases e),fun e=>(by cases e)⟩
 .have hs:r.body.size<=4096/\s=r.body:=by
   unfold valOf at hv;rw[if_pos h0]at hv;split at hv
   .injection hv with hv;exact⟨by assumption,hv.symm⟩
   .cases hv
  obtain⟨hs1,rfl⟩:=hs;refine⟨rfl,rfl,?_,?_,fun _=>?_,fun e=>(by cases e),fun e=>(by cases e)⟩
  .constructor
   .intro e;exact absurd e (by simp)
   .intro e;omega
  .simp only[Rec.fits,zMF]at hf⊢;omega
  .unfold valOf;simp only;rw[if_neg (by omega),if_neg (by omega),aL hd];simp only;rw[if_pos ⟨by omega,hs1⟩]
theorem XR(hf:r.fits=true)(hk:r.kind=0\/r.kind=1\/r.kind=2)(hv:valOf CU r newer=some s):Wrote CU false newer r s (Kc r s):=by
 have hz:=J4 hv;unfold Kc;rcases hk with h0|h1|h2
 .rw[if_neg (by omega)];refine⟨rfl,rfl,Iff.rfl,hf,fun e=>(by cases e),fun _ _ n=>?_,fun _ e=>by omega⟩;unfold valOf at hv⊢;rw[if_pos h0]at hv⊢;exact hv
 .rw[if_pos h1];have hz2:s.size<=4096:=by
   unfold Vs.size EH at hz;rw[if_neg (by omega)]at hz;exact hz.2
  refine⟨rfl,rfl,?_,?_,fun e=>(by cases e),fun _ _ n=>?_,fun _ e=>by omega⟩
  .constructor
   .intro e;exact absurd e (by simp)
   .intro e;omega
  .simp only[Rec.fits,zMF]at hf⊢;omega
  .unfold valOf;simp only;rw[if_pos trivial,if_pos hz2]
 .rw[if_neg (by omega)];refine⟨rfl,rfl,Iff.rfl,hf,fun e=>(by cases e),fun _ e=>absurd h2 e,fun _ _ n=>?_⟩;unfold valOf at hv⊢;rw[if_neg (by omega),if_pos h2]at hv⊢;split at hv
  .rw[if_pos (by assumption)]
  .cases hv
theorem Based.cut{ap:Ap}(k newer:BA):Based ap [] k false newer:=Based.none newer (fun _ h=>by simp at h)
theorem Ct{α:Type}{l:List α}{x:α}(h:l[i]?=some x):l.take (i+1)=l.take i++[x]:=by rw[zLv,h];rfl
theorem Con.wC(C:Con)(k:BA)(V U:List Vs):(C.put k V).put k U=C.put k U:=by
 funext x;unfold Con.put;split<;>rfl
theorem Con.ZH(C:Con)(k:BA):C.put k (C k)=C:=by
 funext x;unfold Con.put;split
 .rename_i h;rw[h]
 .rfl
theorem Con.tY(C:Con)(k:BA)(V:List Vs):(C.put k V) k=V:=by simp[Con.put]
theorem zAE{ap:Ap}{n e:BA}{V:List Vs}(h:run ap n R=some (V,e))(hr:R[i]?=some r){f:BA}(hf:run ap n (R.take i)=some (V.take i,f)):∃s,valOf ap r f=some s/\V[i]?=some (EH r s)/\run ap n (R.take (i+1))=some (V.take (i+1),s):=by
 obtain⟨g,hg⟩:=TJ (i+1) h;have hg':=hg;rw[Ct hr,GQ,hf]at hg;simp only at hg;simp only[run]at hg
 cases hv:valOf ap r f with
 |none=>rw[hv]at hg;simp at hg
 |some s =>
  rw[hv]at hg;simp only[zLO,Prod.mk.injEq]at hg;obtain⟨h1,h2⟩:=hg;subst h2;refine⟨s,rfl,?_,hg'⟩;have hl:(V.take i).length=i:=by
   have:=Me hf;have h3:=congrArg List.length this;simp only[zM2]at h3;rw[h3,zM6];have:=(zLI.1 hr).1;omega
  have h4:(V.take (i+1))[i]?=some (EH r s):=by
   rw[<-h1,zMB (by omega),hl];simp
  rw[List.getElem?_take]at h4;simpa using h4
end S
section
open Go.RowKit
variable{L:List LV}{ao:Option Addr}{w w' w0 wr:World}{x:LV}
theorem Cq.grown{row:Option Nat}{vo:Option Addr}{vs:List M.Ver}(h:Cq w vo vs)(hg:w.grownBy w' row)(hne:∀a,vo=some a->row≠some a.block):Cq w' vo vs:=by
 refine⟨h.1,fun i v hv=>?_⟩;obtain⟨b,off,e,hb,c0,c1,c2,c3⟩:=h.2 i v hv;have hn:∀k,row=some k->k≠b:=fun k hk e2=>hne _ e (by rw[hk,e2]);exact⟨b,off,e,zLJ hb hg.size,DC hg c0 hn,DC hg c1 hn,DC hg c2 hn,DC hg c3 hn⟩
def LV.Off(x:LV)(row:Option Nat):Prop:=∀a,x.fo=some a\/x.no=some a->row≠some a.block
theorem LV.At.grown{w w':World}{row:Option Nat}{x:LV}(h:x.At w)(hg:w.grownBy w' row)(ho:x.Off row):x.At w':=
 ⟨h.f.grown hg (fun a e=>ho a (Or.inl e)),h.n.grown hg (fun a e=>ho a (Or.inr e)),h.fz,h.nz⟩
theorem LV.At.lt(h:x.At w){a:Addr}(ha:x.fo=some a\/x.no=some a):a.block<w.heap.size:=by
 have key:∀(vo:Option Addr)(vs:List M.Ver),Cq w vo vs->(vs=[]->vo=none)->vo=some a->a.block<w.heap.size:=fun vo vs hv hz e=>by
  cases vs with
  |nil=>rw[hz rfl]at e;cases e
  |cons v vs =>
   obtain⟨b,off,e2,hb,_⟩:=hv.2 0 v rfl;rw[e]at e2;injection e2 with e2;rw[e2];exact hb
 rcases ha with ha|ha
 .exact key _ _ h.f (fun e=>(h.fz e).1) ha
 .exact key _ _ h.n (fun e=>(h.nz e).1) ha
structure GX(w0:World)(L:List LV)(ao:Option Addr)(cap:Nat)(wr:World):Prop where
 below:Below w0.heap.size w0 wr
 own:wr.ownsRow w0.heap.size 49 7 (.slice ao L.length cap) L.length (Bj L)
 all:∀x∈L,x.At wr
 off:∀x∈L,x.Off (Value.slice ao L.length cap).ownBlock
theorem GX.none(w:World):GX w [] none 0 w:=⟨Below.refl _ w,World.ownsRow_nil _ _ _ _,fun x hx=>(by cases hx),fun x hx=>(by cases hx)⟩
theorem GX.q{cap:Nat}(h:GX w0 L ao cap wr):Q w0 wr:=⟨h.below⟩
theorem GX.kept{w0 wr w':World}{L:List LV}{ao:Option Addr}{cap:Nat}(h:GX w0 L ao cap wr)(q:Q wr w'):GX w0 L ao cap w':=
 ⟨(h.q.trans q).below,Ai h.own (fun g hg=>q.below.block g (h.own.lt g hg).2),fun x hx=>(h.all x hx).kept q,h.off⟩
theorem GX.push{Dj:Option Addr}{cap cap':Nat}(h:GX w0 L ao cap wr)(hx:x.At wr)(hxo:x.Off (Value.slice ao L.length cap).ownBlock)(hg:wr.grownBy w' (Value.slice ao L.length cap).ownBlock)(ho:w'.ownsRow w0.heap.size 49 7 (.slice Dj (L.length+1) cap') (L.length+1) (Bj L++x.cells))(hb:(Value.slice Dj (L.length+1) cap').ownBlock=(Value.slice ao L.length cap).ownBlock\/(Value.slice Dj (L.length+1) cap').ownBlock=some wr.heap.size):GX w0 (L++[x]) Dj cap' w':=by
 have hm:∀y,y∈L++[x]->y.At wr/\y.Off (Value.slice ao L.length cap).ownBlock:=fun y hy=>by
  have:y∈L\/y=x:=by simpa using hy
  rcases this with e|e
  .exact⟨h.all y e,h.off y e⟩
  .rw[e];exact⟨hx,hxo⟩
 have hl:(L++[x]).length=L.length+1:=by simp
 refine⟨h.below.grown hg h.below.size (Dx h.own),by rw[Vq,hl];exact ho,fun y hy=>(hm y hy).1.grown hg (hm y hy).2,fun y hy a ha=>?_⟩;rw[hl];rcases hb with e|e
 .rw[e];exact(hm y hy).2 a ha
 .rw[e];intro e2;injection e2 with e2;have:=(hm y hy).1.lt ha;omega
end
end Go.Proofs.YtekdenkllipehaaGreatDoor
