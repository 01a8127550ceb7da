import Derived.Test.YtekdenkllipehaaGreatDoorP10
import Derived.Test.YtekdenkllipehaaGreatDoorP12
import Derived.Shelf.Slices.SearchI
set_option maxRecDepth 99999
set_option maxHeartbeats 0
namespace Go.Proofs.YtekdenkllipehaaGreatDoor
section
open Go.RowKit
variable{C a:Nat}{ao:Option Addr}{fl:Bool}{l:List Rec}{s:BA}{w w' wr:World}
structure Jw(w:World)(C:Nat)(s:BA)(a:Nat)(fl:Bool):Prop where
 c0:w.cell? (aD C 0)=some (sT s)
 c1:w.cell? (aD C 1)=some (iT (a:Int))
 c2:w.cell? (aD C 2)=some (.bool fl)
 f1:w.frozen? (aD C 1)=false
 f2:w.frozen? (aD C 2)=false
 top:C<w.heap.size
theorem Jw.kept(h:Jw w C s a fl)(q:Q w w'):Jw w' C s a fl:=
 ⟨AA h.c0 q,AA h.c1 q,AA h.c2 q,(q.below.frozen (p:=(aD C 1)) h.top).trans h.f1,(q.below.frozen (p:=(aD C 2)) h.top).trans h.f2,zLJ h.top q.below.size⟩
theorem Jw.moved(h:Jw w C s a fl)(a':Nat):Jw (w.setCell (aD C 1) (iT (a':Int))) C s a' fl:=by
 refine⟨?_,zMJ _ _ _ h.c1,?_,?_,?_,by simpa using h.top⟩
 .rw[zMH _ _ _ _ (by simp)];exact h.c0
 .rw[zMH _ _ _ _ (by simp)];exact h.c2
 .rw[zMK];exact h.f1
 .rw[zMK];exact h.f2
theorem Jw.marked(h:Jw w C s a fl)(fl':Bool):Jw (w.setCell (aD C 2) (.bool fl')) C s a fl':=by
 refine⟨?_,?_,zMJ _ _ _ h.c2,?_,?_,by simpa using h.top⟩
 .rw[zMH _ _ _ _ (by simp)];exact h.c0
 .rw[zMH _ _ _ _ (by simp)];exact h.c1
 .rw[zMK];exact h.f1
 .rw[zMK];exact h.f2
theorem Jw.grown{row:Option Nat}(h:Jw w C s a fl)(hg:w.grownBy w' row)(hne:row≠some C):Jw w' C s a fl:=by
 have hb:w'.heap[C]?=w.heap[C]?:=hg.block C h.top (fun e=>hne e.symm);exact⟨(zMI (a:=(aD C 0)) hb).trans h.c0,(zMI (a:=(aD C 1)) hb).trans h.c1,(zMI (a:=(aD C 2)) hb).trans h.c2,(zML (a:=(aD C 1)) hb).trans h.f1,(zML (a:=(aD C 2)) hb).trans h.f2,zLJ h.top hg.size⟩
theorem Dg{w1 w2:World}{row:Option Nat}(h:w.grownBy w1 row)(k:w1.grownBy w2 row):w.grownBy w2 row:=
 ⟨k.os.trans h.os,k.tape.trans h.tape,k.output.trans h.output,zLV h.size k.size,fun b hb hne=>(k.block b (zLJ hb h.size) hne).trans (h.block b hb hne)⟩
theorem iZ(s:BA)(w:World):
  Calls Tryz.prog 87 #[sT s] w fun e w'=>e=.returned (pT w.heap.size)/\Jw w' w.heap.size s 0 false/\Q w w':=by
 go_in;go_wp2;go_ret;exact⟨rfl,⟨by simp,by simp,by simp,by simp,by simp,by simp⟩,(Q.refl w).alloc _ _⟩
theorem ic(s:BA)(_hs:s.size<=140737488351232)(a C:Nat)(fl:Bool)(w:World)(hA:Jw w C s a fl):
  Calls Tryz.prog 112 #[pT C] w fun e w'=>e=.returned (.tuple #[])/\Jw w' C s s.size true/\w.grownBy w' (some C):=by
 have HA:Hid _:=(hA.moved s.size).marked true;obtain⟨c0,c1,c2,f1,f2,top⟩:=hA;go_in;go_wp2_with fail;go_end0;exact⟨rfl,HA.out,F5 (F5 (Ep (Q.refl _) _) _) _⟩
theorem bH(s:BA)(hs:s.size<=140737488351232)(a v nx C most:Nat)(fl:Bool)(hm:v<=most)(h:M.Cb s.data.toList a=some (v,nx))(w:World)(hA:Jw w C s a fl):
  Calls Tryz.prog 88 #[pT C,iT (most:Int)] w fun e w'=>e=.returned (iT (v:Int))/\Jw w' C s nx fl/\w.grownBy w' (some C):=by
 have HG:Hid _:=get_some s a v nx hs h;have HA:Hid _:=hA;obtain⟨c0,c1,c2,f1,f2,top⟩:=hA;clear h;have hd:decide ((most:Int)<(v:Int))=false:=by simp;omega
 go_in;go_wp2_with fail;go_quiet ((go_at_call 111;refine Calls.quiet_of_same (HG.out _)));go_wp2;go_ret;exact⟨rfl,(HA.out.kept ((Q.refl _).drewN _)).moved nx,F5 (Ep ((Q.refl _).drewN _) _) _⟩
theorem bJ(s:BA)(hs:s.size<=140737488351232)(a v nx C most:Nat)(fl:Bool)(hm:most<v)(h:M.Cb s.data.toList a=some (v,nx))(w:World)(hA:Jw w C s a fl):
  Calls Tryz.prog 88 #[pT C,iT (most:Int)] w fun e w'=>e=.returned (iT 0)/\Jw w' C s s.size true/\w.grownBy w' (some C):=by
 have HG:Hid _:=get_some s a v nx hs h;have HA:Hid _:=hA;have HFl:Hid _:=fun W(q:Q w W)=>ic s hs a C fl W (hA.kept q);obtain⟨c0,c1,c2,f1,f2,top⟩:=hA;clear h;have hd:(most:Int)<(v:Int):=by omega
 go_in;go_wp2_with fail;go_quiet ((go_at_call 111;refine Calls.quiet_of_same (HG.out _)));go_wp2_with fail;apply(HFl.out _ ((Q.refl _).drewN _)).mono;rintro e w1⟨rfl,hA1,g1⟩;go_wp2;go_ret;exact⟨rfl,hA1,Dg (Ep ((Q.refl _).drewN _) _) g1⟩
theorem bI(s:BA)(hs:s.size<=140737488351232)(a C most:Nat)(fl:Bool)(h:M.Cb s.data.toList a=none)(w:World)(hA:Jw w C s a fl):
  Calls Tryz.prog 88 #[pT C,iT (most:Int)] w fun e w'=>e=.returned (iT 0)/\Jw w' C s s.size true/\w.grownBy w' (some C):=by
 have HG:Hid _:=get_none s a hs h;have HA:Hid _:=hA;have HFl:Hid _:=fun W(q:Q w W)=>ic s hs a C fl W (hA.kept q);obtain⟨c0,c1,c2,f1,f2,top⟩:=hA;clear h;go_in;go_wp2_with fail;go_quiet ((go_at_call 111;refine Calls.quiet_of_same (HG.out _)));go_wp2_with fail;apply(HFl.out _ ((Q.refl _).drewN _)).mono;rintro e w1⟨rfl,hA1,g1⟩;go_wp2;go_ret;exact⟨rfl,hA1,Dg (Ep ((Q.refl _).drewN _) _) g1⟩
theorem rdNum(s:BA)(hs:s.size<=140737488351232)(a C most:Nat)(fl:Bool)(w:World)(hA:Jw w C s a fl):
  Calls Tryz.prog 88 #[pT C,iT (most:Int)] w fun e w'=>e=.returned (iT ((CG s.data.toList most a).1:Int))/\Jw w' C s (CG s.data.toList most a).2 (fl || JD s.data.toList most a)/\w.grownBy w' (some C):=by
 have hl:s.data.toList.length=s.size:=by simp
 unfold CG JD
 cases h:M.Cb s.data.toList a with
 |none =>
  simp only[Bool.or_true,hl];exact bI s hs a C most fl h w hA
 |some p =>
  obtain⟨v,nx⟩:=p;by_cases hm:most<v
  .simp only[hm,if_true,decide_true,Bool.or_true,hl];exact bJ s hs a v nx C most fl hm h w hA
  .simp only[hm,if_false,decide_false,Bool.or_false];exact bH s hs a v nx C most fl (by omega) h w hA
theorem bF(s:BA)(hs:s.size<=140737488351232)(a C n:Nat)(fl:Bool)(hn:n<72057594037927936)(ha:a<=s.size)(hl:s.size-a<n)(w:World)(hA:Jw w C s a fl):
  Calls Tryz.prog 114 #[pT C,iT (n:Int)] w fun e w'=>e=.returned eS/\Jw w' C s s.size true/\w.grownBy w' (some C):=by
 have HFl:Hid _:=fun W(q:Q w W)=>ic s hs a C fl W (hA.kept q);obtain⟨m,hm⟩:∃m:Nat,m=s.size-a:=⟨_,rfl⟩;have hw:IntKind.i64.wrap ((s.size:Int)-(a:Int))=(m:Int):=by rw[IntKind.wrap_i64];omega
 have hd:decide (m<n)=true:=by simp;omega
 obtain⟨c0,c1,c2,f1,f2,top⟩:=hA;go_in;go_wp2_with fail;go_quiet (fail);go_wp2_with fail;apply(HFl.out _ ((Q.refl _).drewN _)).mono;rintro e w1⟨rfl,hA1,g1⟩;go_wp2;go_ret;exact⟨rfl,hA1,Dg (Ep ((Q.refl _).drewN _) _) g1⟩
theorem bG(s:BA)(hs:s.size<=140737488351232)(a C n:Nat)(fl:Bool)(ha:a+n<=s.size)(w:World)(hA:Jw w C s a fl):
  Calls Tryz.prog 114 #[pT C,iT (n:Int)] w fun e w'=>e=.returned (sT (s.extract a (a+n)))/\Jw w' C s (a+n) fl/\w.grownBy w' (some C):=by
 have HA:Hid _:=hA;obtain⟨m,hm⟩:∃m:Nat,m=s.size-a:=⟨_,rfl⟩;obtain⟨z,hz⟩:∃z:Nat,z=a+n:=⟨_,rfl⟩;have hw:IntKind.i64.wrap ((s.size:Int)-(a:Int))=(m:Int):=by rw[IntKind.wrap_i64];omega
 have he:IntKind.i64.wrap ((a:Int)+(n:Int))=(z:Int):=by rw[IntKind.wrap_i64];omega
 have hd:decide (m<n)=false:=by simp;omega
 have b1:(a:Int)<=(z:Int):=by omega
 have b2:(z:Int)<=(s.size:Int):=by omega
 have hx:(a:Int)+(n:Int)=(z:Int):=by omega
 rw[<-hz];obtain⟨c0,c1,c2,f1,f2,top⟩:=hA;clear hz hm;go_in;go_wp2_with fail;go_quiet (fail);go_wp2_with fail;go_quiet (fail);go_wp2;go_ret;exact⟨rfl,(HA.out.kept ((Q.refl _).drewN _)).moved z,F5 (Ep ((Q.refl _).drewN _) _) _⟩
theorem zAH(s:BA)(hs:s.size<=140737488351232)(a C n:Nat)(fl:Bool)(hn:n<72057594037927936)(ha:a<=s.size)(w:World)(hA:Jw w C s a fl):
  Calls Tryz.prog 114 #[pT C,iT (n:Int)] w fun e w'=>e=.returned (sT ⟨(Ho s.data.toList n a).1.toArray⟩)/\Jw w' C s (Ho s.data.toList n a).2 (fl || Sb s.data.toList n a)/\w.grownBy w' (some C):=by
 have hl:s.data.toList.length=s.size:=by simp
 unfold Ho Sb;rw[hl];by_cases h:s.size-a<n
 .rw[if_pos h,decide_eq_true h,Bool.or_true];exact bF s hs a C n fl hn ha h w hA
 .rw[if_neg h,decide_eq_false h,Bool.or_false];have:=bG s hs a C n fl (by omega) w hA;have e:s.extract a (a+n)=⟨((s.data.toList.drop a).take n).toArray⟩:=by
   apply ByteArray.ext;apply Array.toList_inj.1;simp
  rw[e]at this;exact this
def XP(w:World)(C:Nat)(s:BA)(a:Nat):Prop:=∃fl,Jw w C s a fl
theorem XP.top{w:World}{C a:Nat}{s:BA}(h:XP w C s a):C<w.heap.size:=by obtain⟨_,h⟩:=h;exact h.top
theorem XP.kept{w w':World}{C a:Nat}{s:BA}(h:XP w C s a)(q:Q w w'):XP w' C s a:=by obtain⟨fl,h⟩:=h;exact⟨fl,h.kept q⟩
theorem XP.grown{w w':World}{C a:Nat}{s:BA}{row:Option Nat}(h:XP w C s a)(hg:w.grownBy w' row)(hne:row≠some C):XP w' C s a:=by obtain⟨fl,h⟩:=h;exact⟨fl,h.grown hg hne⟩
theorem Mf(s:BA)(hs:s.size<=140737488351232)(a C most:Nat)(w:World)(hA:XP w C s a):
  Calls Tryz.prog 88 #[pT C,iT (most:Int)] w fun e w'=>e=.returned (iT ((CG s.data.toList most a).1:Int))/\XP w' C s (CG s.data.toList most a).2/\w.grownBy w' (some C):=by
 obtain⟨fl,h⟩:=hA;apply(rdNum s hs a C most fl w h).mono;rintro e w'⟨h1,h2,h3⟩;exact⟨h1,⟨_,h2⟩,h3⟩
theorem iX(s:BA)(hs:s.size<=140737488351232)(a C n:Nat)(hn:n<72057594037927936)(ha:a<=s.size)(w:World)(hA:XP w C s a):
  Calls Tryz.prog 114 #[pT C,iT (n:Int)] w fun e w'=>e=.returned (sT ⟨(Ho s.data.toList n a).1.toArray⟩)/\XP w' C s (Ho s.data.toList n a).2/\w.grownBy w' (some C):=by
 obtain⟨fl,h⟩:=hA;apply(zAH s hs a C n fl hn ha w h).mono;rintro e w'⟨h1,h2,h3⟩;exact⟨h1,⟨_,h2⟩,h3⟩
theorem zAI(s:BA)(a C:Nat)(fl:Bool)(w:World)(hA:Jw w C s a fl):
  Calls Tryz.prog 113 #[pT C] w fun e w'=>e=.returned (.bool (decide (a<s.size)))/\Q w w':=by
 obtain⟨c0,c1,c2,f1,f2,top⟩:=hA;by_cases h:a<s.size
 .have hI:(a:Int)<(s.size:Int):=by omega
  have hd:decide (a<s.size)=true:=by simpa using h
  rw[hd];go_in;go_wp2_with fail;go_quiet (fail);go_wp2;go_ret;exact⟨by simp_all,(Q.refl _).drewN _⟩
 .have hI:¬(a:Int)<(s.size:Int):=by omega
  have hd:decide (a<s.size)=false:=by simpa using h
  rw[hd];go_in;go_wp2_with fail;go_quiet (fail);go_wp2;go_ret;exact⟨by simp_all,(Q.refl _).drewN _⟩
theorem oW(s:BA)(a C:Nat)(fl:Bool)(w:World)(hA:Jw w C s a fl):
  Calls Tryz.prog 115 #[pT C] w fun e w'=>e=.returned (.bool fl)/\w'=w:=by
 obtain⟨c0,c1,c2,f1,f2,top⟩:=hA;go_in;go_wp2;go_ret;exact⟨rfl,rfl⟩
theorem bC(s:BA)(hs:s.size<=140737488351232)(ah:BA)(hah:ah.size<=140737488351232)(a C:Nat)(ha:a<=s.size)(w:World)(hA:XP w C s a):
  Calls Tryz.prog 145 #[pT C,sT ah] w fun e w'=>e=.returned (Hy s.data.toList ah.data.toList a).1.val/\XP w' C s (Hy s.data.toList ah.data.toList a).2/\w.grownBy w' (some C):=by
 have hlen:s.data.toList.length=s.size:=by simp
 have hal:ah.data.toList.length=ah.size:=by simp
 have Ur:a<=s.data.toList.length:=by omega
 obtain⟨⟨k,a1⟩,h1⟩:=ex (CG s.data.toList ah.data.toList.length a);have l1:=Cw (T:=s.data.toList) (most:=ah.data.toList.length) Ur;rw[<-h1]at l1;obtain⟨⟨m,a2⟩,h2⟩:=ex (CG s.data.toList 64 a1);have l2:=Cw (T:=s.data.toList) (most:=64) l1.1;rw[<-h2]at l2;obtain⟨⟨t,a3⟩,h3⟩:=ex (Ho s.data.toList m a2);have l3:=Ob (T:=s.data.toList) (n:=m) l2.1;rw[<-h3]at l3;obtain⟨⟨st,a4⟩,h4⟩:=ex (CG s.data.toList 1099511627776 a3);have l4:=Cw (T:=s.data.toList) (most:=1099511627776) l3.1;rw[<-h4]at l4;obtain⟨⟨kd,a5⟩,h5⟩:=ex (CG s.data.toList 2 a4);have l5:=Cw (T:=s.data.toList) (most:=2) l4.1;rw[<-h5]at l5;obtain⟨⟨z,a6⟩,h6⟩:=ex (CG s.data.toList 4200 a5);have l6:=Cw (T:=s.data.toList) (most:=4200) l5.1;rw[<-h6]at l6;obtain⟨⟨bd,a7⟩,h7⟩:=ex (Ho s.data.toList z a6);have N1:Hid _:=Mf s hs a C ah.data.toList.length;have N2:Hid _:=Mf s hs a1 C 64;have X3:Hid _:=iX s hs a2 C m l2.2.2 (by rw[<-hlen];exact l2.1);have N4:Hid _:=Mf s hs a3 C 1099511627776;have N5:Hid _:=Mf s hs a4 C 2;have N6:Hid _:=Mf s hs a5 C 4200;have X7:Hid _:=iX s hs a6 C z l6.2.2 (by rw[<-hlen];exact l6.1);rw[<-h1,hal]at N1;rw[<-h2]at N2;rw[<-h3]at X3;rw[<-h4]at N4;rw[<-h5]at N5;rw[<-h6]at N6;rw[<-h7]at X7;have E:Hy s.data.toList ah.data.toList a=(⟨⟨(ah.data.toList.take k++t).toArray⟩,(st:Int),(kd:Int),⟨bd.toArray⟩⟩,a7):=by
  unfold Hy;simp only[<-h1];simp only[<-h2];simp only[<-h3];simp only[<-h4];simp only[<-h5];simp only[<-h6];simp only[<-h7]
 rw[E];have hk:k<=ah.size:=by rw[<-hal];exact l1.2.1
 have ht:t.length<=64:=by have:=l3.2;have:=l2.2.1;simp only at*;omega
 have hkey:ah.extract 0 k++⟨t.toArray⟩=(⟨(ah.data.toList.take k++t).toArray⟩:BA):=by
  apply ByteArray.ext;apply Array.toList_inj.1;simp
 simp only[Rec.val];rw[<-hkey];have hts:(⟨t.toArray⟩:BA).size=t.length:=rfl;have hadd:∀W,(Op.stringOp .add (ah.extract 0 k) ⟨t.toArray⟩).run Tryz.prog W=.ok (sT (ah.extract 0 k++⟨t.toArray⟩)) W:=fun W=>run_string_add_sum W _ _ (by rw[hts];simp;omega);generalize (⟨t.toArray⟩:BA)=tx at*;generalize (⟨bd.toArray⟩:BA)=bx at*;obtain⟨key,hke⟩:=ex (ah.extract 0 k++tx);rw[<-hke]at hadd⊢;have hC:=hA.top;have Tx:=hA.kept ((Q.refl w).alloc #[eS,iT 0,iT 0,eS] 119);have RB:=Yz w eS (iT 0) (iT 0) eS 119;have yA:(some C:Option Nat)≠some w.heap.size:=by simp;omega
 have hkI:(k:Int)<=(ah.size:Int):=by omega
 clear h1 h2 h3 h4 h5 h6 h7 l1 l2 l3 l4 l5 l6 E Ur hts hkey hke hA ht;go_in;go_wp2_with fail;apply(N1.out _ Tx).mono;rintro e w1⟨rfl,zFQ,g1⟩;have hV1:=RB.grown g1 yA;have hA1:=zFQ.kept (Q.refl _).drew;go_upto_region 2 with fail
 refine wp_region_held_drew (S:=fun _=>True) (by kernel_rfl) trivial (fun hHeld=>?_);refine q4 0 ?_;refine q4 1 ?_;refine q4 2 ?_;refine q4 3 ?_;refine q4 4 ?_;refine q4 8 ?_;refine q4 10 ?_;refine q4 12 ?_;refine q4 13 ?_;refine rd1 5 (fun K hK=>?_);go_simp;apply(N2.out _ hA1).mono;rintro e w2⟨rfl,hA2,g2⟩
 try go_wp2_with fail
 refine hK.out _ _ trivial (fun AO=>?_);clear hK K hHeld;have hHeld:=AO;clear AO
 try simp only[Act.put,nrm]
 refine rd1 6 (fun K hK=>?_);go_simp;apply(X3.out _ hA2).mono;rintro e w3⟨rfl,hA3,g3⟩
 try go_wp2_with fail
 refine hK.out _ _ trivial (fun AO=>?_);clear hK K hHeld;have hHeld:=AO;clear AO
 try simp only[Act.put,nrm]
 refine q4 7 ?_;refine rd1 9 (fun K hK=>?_);go_simp;apply(N4.out _ hA3).mono;rintro e w4⟨rfl,uj,g4⟩
 try go_wp2_with fail
 refine hK.out _ _ trivial (fun AO=>?_);clear hK K hHeld;have hHeld:=AO;clear AO
 try simp only[Act.put,nrm]
 refine rd1 11 (fun K hK=>?_);go_simp;apply(N5.out _ uj).mono;rintro e w5⟨rfl,hA5,g5⟩
 try go_wp2_with fail
 refine hK.out _ _ trivial (fun AO=>?_);clear hK K hHeld;have hHeld:=AO;clear AO
 try simp only[Act.put,nrm]
 refine rd1 14 (fun K hK=>?_);go_simp;apply(N6.out _ hA5).mono;rintro e w6⟨rfl,hA6,g6⟩
 try go_wp2_with fail
 refine hK.out _ _ trivial (fun AO=>?_);clear hK K hHeld;have hHeld:=AO;clear AO
 try simp only[Act.put,nrm]
 refine rd1 15 (fun K hK=>?_);go_simp;apply(X7.out _ hA6).mono;rintro e w7⟨rfl,hA7,g7⟩
 try go_wp2_with fail
 refine hK.out _ _ trivial (fun AO=>?_);clear hK K hHeld;have hHeld:=AO;clear AO
 try simp only[Act.put,nrm]
 refine q4 16 ?_;have hV:=(((((hV1.grown (R6 g2) yA).grown g3 yA).grown g4 yA).grown g5 yA).grown g6 yA).grown g7 yA;have r0:=hV.c0;have r1:=hV.c1;have r2:=hV.c2;have r3:=hV.c3;have r4:=hV.fr 0;have r5:=hV.fr 1;have r6:=hV.fr 2;have r7:=hV.fr 3;refine rd1 17 (fun K hK=>?_);go_simp;have nP:=hV.set (sT key) (iT (st:Int)) (iT (kd:Int)) (sT bx);have hgs:=ai w7 w.heap.size (sT key) (iT (st:Int)) (iT (kd:Int)) (sT bx);generalize ((((w7.setCell (aD w.heap.size 0) (sT key)).setCell (aD w.heap.size 1) (iT (st:Int))).setCell (aD w.heap.size 2) (iT (kd:Int))).setCell (aD w.heap.size 3) (sT bx))=wz at*;refine hK.out _ _ trivial (fun AO=>?_);clear hK K hHeld AO;refine wpAnyH_done (by kernel_rfl) ?_ _;have y0:=nP.c0;have y1:=nP.c1;have y2:=nP.c2;have y3:=nP.c3;go_wp2_with fail;refine bodyPost_ret (v:=.agg #[sT key,iT (st:Int),iT (kd:Int),sT bx]) (by simp[results,Tryz.results145,go_sem,y0,y1,y2,y3]) rfl ?_;refine⟨rfl,hA7.grown hgs (by simp;omega),?_⟩;have G:=Dg (Dg (Dg (Dg (Dg (Dg g1 (R6 g2)) g3) g4) g5) g6) g7;refine⟨hgs.os.trans G.os,hgs.tape.trans G.tape,hgs.output.trans G.output,?_,fun b hb hne=>?_⟩
 .have h1:=G.size;have h2:=hgs.size;simp at h1;omega
 .have h1:=G.size;simp at h1;exact(hgs.block b (by omega) (by simp;omega)).trans ((G.block b (by simp;omega) hne).trans (heap_alloc_old w _ hb))
structure Rdg(w:World)(C:Nat)(s:BA)(a:Nat)(l:List Rec)(ao:Option Addr)(cap:Nat)(wr:World):Prop where
 below:Below C w wr
 low:w.heap.size<=C
 rd:XP wr C s a
 own:wr.ownsRow (C+1) 119 4 (.slice ao l.length cap) l.length (AY l)
theorem Rdg.next{a':Nat}{cap:Nat}(h:Rdg w C s a l ao cap wr)(hg:wr.grownBy w' (some C))(hs:XP w' C s a'):Rdg w C s a' l ao cap w':=by
 refine⟨h.below.grown hg (Nat.le_of_lt h.rd.top) (fun k hk=>by simp at hk;omega),h.low,hs,h.own.kept hg ?_⟩;rcases hb:(Value.slice ao l.length cap).ownBlock with _|k
 .exact Or.inl rfl
 .right;have:=(h.own.lt k hb).1;simp;omega
theorem Rdg.kept{w wr w':World}{C a:Nat}{s:BA}{l:List Rec}{ao:Option Addr}{cap:Nat}(h:Rdg w C s a l ao cap wr)(q:Q wr w'):Rdg w C s a l ao cap w':=
 ⟨h.below.trans (q.below.mono (Nat.le_of_lt h.rd.top)),h.low,h.rd.kept q,own_below h.own q.below⟩
theorem Rdg.q{cap:Nat}(h:Rdg w C s a l ao cap wr):Q w wr:=⟨h.below.mono h.low⟩
theorem Rdg.push{r:Rec}{Dj:Option Addr}{cap cap':Nat}(h:Rdg w C s a l ao cap wr)(hg:wr.grownBy w' (Value.slice ao l.length cap).ownBlock)(ho:w'.ownsRow (C+1) 119 4 (.slice Dj (l.length+1) cap') (l.length+1) (AY l++r.cells)):Rdg w C s a (l++[r]) Dj cap' w':=by
 have hlow:∀k,(Value.slice ao l.length cap).ownBlock=some k->C<k:=fun k hk=>(h.own.lt k hk).1;refine⟨h.below.grown hg (Nat.le_of_lt h.rd.top) (fun k hk=>by have:=hlow k hk;omega),h.low,h.rd.grown hg (fun e=>by have:=hlow C e;omega),?_⟩;rw[CV,D7,zLL];exact ho
theorem Ub(l:List Rec)(k:Nat):(Dy l k).data.toList=Dh l k:=by
 unfold Dy Dh;by_cases h:k%8=0
 .rw[if_pos h,if_pos h]
 .rw[if_neg h,if_neg h]
  match k with
  |0=>simp at h
  |k+1 =>
   simp only[zM7,IE]
   cases l[k]? with
   |none=>rfl
   |some r=>rfl
theorem oU(s:BA)(hs:s.size<=140737488351232)(w:World):
  Calls Tryz.prog 116 #[sT s] w fun e w'=>(∃(ao:Option Addr)(cap:Nat),e=.returned (.slice ao (Dl s.data.toList).length cap)/\w'.ownsRow (w.heap.size+1) 119 4 (.slice ao (Dl s.data.toList).length cap) (Dl s.data.toList).length (AY (Dl s.data.toList)))/\Q w w':=by
 have hlen:s.data.toList.length=s.size:=by simp
 have l0:=Cw (T:=s.data.toList) (most:=64) (a:=0) (by omega);obtain⟨⟨n,a0⟩,h0⟩:=ex (CG s.data.toList 64 0);have N0:Hid _:=Mf s hs 0 w.heap.size 64;have E:Dl s.data.toList=(Kk s.data.toList a0 n).1:=by unfold Dl;rw[<-h0]
 rw[<-h0]at N0 l0;simp only at l0;rw[E];have HB:Hid (∀i,(Kk s.data.toList a0 i).2<=s.size/\∀(j:Nat)(r:Rec),(Kk s.data.toList a0 i).1[j]?=some r->r.key.size<=64*(j+1)):=fun i=>by
  have:=iY (T:=s.data.toList) (a0:=a0) (by omega) i;exact⟨by omega,fun j r hj=>(this.2 j r hj).1⟩
 have HL:Hid (∀i,(Kk s.data.toList a0 i).1.length=i):=Il _ _;have HN:Hid (∀i,Kk s.data.toList a0 (i+1)=((Kk s.data.toList a0 i).1++[(Hy s.data.toList (Dh (Kk s.data.toList a0 i).1 i) (Kk s.data.toList a0 i).2).1],(Hy s.data.toList (Dh (Kk s.data.toList a0 i).1 i) (Kk s.data.toList a0 i).2).2)):=fun i=>rfl;have HR:Hid _:=bC s hs;have HKA:Hid _:=Ni;obtain⟨i0,hi,hz0,hz1,hz2⟩:=info_parts dH;have hMk:=fun W=>run_make_own (P:=Tryz.prog) W (w.heap.size+1) 115 119 i0 (.agg #[eS,iT 0,iT 0,eS]) 4 Tryz.underlying115 hi hz0 hz1 .i64 .i64 n (by rw[hz2];omega) (by unfold maxLen;omega);have HM:Hid _:=hMk;have XD:=hU (iZ s w);go_in;go_wp2_with fail;apply(XD.out ()).mono;rintro e w0⟨rfl,Tx,q0⟩;go_wp2_with fail;apply(N0.out _ ⟨_,Tx⟩).mono;rintro e w1⟨rfl,hA1,g1⟩;have ht0:=Tx.top;have hs1:w.heap.size+1<=w1.heap.size:=by have:=g1.size;omega
 obtain⟨w2,hrun,hown,hgr⟩:=HM.out w1 (by omega);have zAs:=hA1.grown hgr (by simp);have hP0:Rdg w w.heap.size s (Kk s.data.toList a0 0).2 (Kk s.data.toList a0 0).1 (some (aD w1.heap.size 0)) n w2:=by
  refine⟨?_,zLK _,zAs,hown⟩;exact(q0.below.grown g1 (by omega) (by simp)).grown hgr (by omega) (by simp)
 go_wp2_with fail
 go_loopw [5,14] (fun p i wr=>∃(k:Nat)(ap:Option Addr)(cp:Nat),k<=n/\i=iT k/\p=.slice ap k cp/\Hid (Rdg w w.heap.size s (Kk s.data.toList a0 k).2 (Kk s.data.toList a0 k).1 ap cp wr)) (fun _ i _=>n-(intOf i).toNat)
 case atStart=>exact⟨0,_,_,zLS _,rfl,rfl,hP0⟩
 case round =>
  obtain⟨k,ap,cp,hk,rfl,rfl,HP⟩:=hrel;by_cases hlt:k<n
  .have hB:=HB.out k;have hL:=HL.out k;have hN:=HN.out k;have hP:=HP.out;generalize Kk s.data.toList a0 k=pr at*;obtain⟨l,a⟩:=pr;simp only at hB hL hN hP;have hown:=hP.own;have KA:=HKA.out l ap l.length cp l.length (zLK _) (Or.inl (zLK _)) (by omega) (fun _=>zLK _) wr (by
    by_cases hne:l=[]
    .exact Or.inl hne
    .obtain⟨g,rfl,hlt,hr⟩:=Lj hown hne;exact Or.inr ⟨g,0,rfl,hr⟩)
   have hkb:(Dy l l.length).size<=4096:=by
    unfold Dy;split
    .exact zLS _
    .cases hx:l[l.length-1]? with
     |none=>exact zLS _
     |some r =>
      (have:=hB.2 _ r hx;show r.key.size<=4096);omega
   ((((((((((have zn:=fun W=>HR.out (Dy l l.length) (by omega) a w.heap.size hB.1 W;rw[Ub]at zn;rw[hL]at KA zn hkb;generalize Dy l k=ah at*;obtain⟨⟨r,a'⟩,hrec⟩:=ex (Hy s.data.toList (Dh l k) a);rw[<-hrec]at zn hN;simp only[Rec.val]at zn;have zFx:=hU KA;have zFl:Hid _:=zn;have HN2:Hid _:=hN;go_wp2_with fail;apply(zFx.out ()).mono;rintro e w3⟨rfl,q3⟩;have hP3:=hP.kept q3;go_wp2_with fail;apply(zFl.out _ hP3.rd).mono;rintro e w4⟨rfl,rd4,g4⟩;have hP4:=hP3.next g4 rd4;have hP5:=hP4.kept ((Q.refl w4).alloc #[sT r.key,iT r.stamp,iT r.kind,sT r.body] 119);have hown5:=hP5.own;have hsz:w.heap.size+1<=w4.heap.size:=by have:=hP4.rd.top;omega);go_wp2_with(at_builtin;refine wpList_append_own _ rfl (.tmp 17) (.tmp 23) 115 rfl (w.heap.size+1) 119 i0 (.agg #[eS,iT 0,iT 0,eS]) 4 48 Tryz.underlying115 hi hz0 hz1 hz2 rfl (by decide) _ _ _ (congrArg (fun n=>Value.slice ap n cp) hL.symm) hown5 (aD w4.heap.size 0) 1 1 r.cells rfl rfl ?c1 ?c2 ?c3 ?c4 ?c5 ?_));case c1=>exact Fy _ _ _);case c2=>exact EI _);case c3=>unfold maxLen;omega);case c4=>omega);case c5=>simp;omega);intro v' w' hown' hgrow _;obtain⟨Er,Bn,hv⟩:=Ac hown';rw[hv]at hown';rw[hv];rw[<-hL]at hown' hgrow;have hp2:=hP5.push hgrow hown';go_wp2_with fail);go_roundw);case rel=>exact⟨k+1,Er,Bn,by omega,by go_num,rfl,by rw[HN2.out];exact hp2⟩);case measure=>simp[intOf];omega
  .obtain rfl:k=n:=by omega
   have hL:=HL.out k;have hP:=HP.out;have HF:Hid (w.heap.size=w.heap.size):=rfl;go_wp2;go_ret;exact⟨⟨ap,cp,rfl,by have:=hP.own;rw[hL]at this;exact this⟩,hP.q⟩
end
section
open Go.Shelf
def bn:Go.Shelf.Ren:=⟨fun|25=>127|31=>159|32=>160|37=>183|n=>n,fun|0=>0|3=>3|4=>4|22=>30|40=>149|n=>n,fun n=>n⟩
theorem zAW:Lays2.n25 Tryz.prog bn:={
 mixed:=by kernel_rfl
 f25:=Tryz.func127.trans (congrArg some (by kernel_rfl))
 f31:=Tryz.func159.trans (congrArg some (by kernel_rfl))
 f32:=Tryz.func160.trans (congrArg some (by kernel_rfl))
 f37:=Tryz.func183.trans (congrArg some (by kernel_rfl))
 t0:=Tryz.underlying0
 a0:=Tryz.isAgg0
 z0:=Tryz.sizeOf0
 v0:=Tryz.zeroValue0
 t3:=Tryz.underlying3
 a3:=Tryz.isAgg3
 z3:=Tryz.sizeOf3
 v3:=Tryz.zeroValue3
 t4:=Tryz.underlying4
 a4:=Tryz.isAgg4
 z4:=Tryz.sizeOf4
 v4:=Tryz.zeroValue4
 t22:=Tryz.underlying30
 a22:=Tryz.isAgg30
 z22:=Tryz.sizeOf30
 v22:=Tryz.zeroValue30
 t40:=Tryz.underlying149
 a40:=Tryz.isAgg149
 z40:=Tryz.sizeOf149
 v40:=Tryz.zeroValue149 }
end
end Go.Proofs.YtekdenkllipehaaGreatDoor
