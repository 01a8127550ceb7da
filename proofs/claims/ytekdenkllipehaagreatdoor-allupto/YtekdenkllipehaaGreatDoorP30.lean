import Derived.Test.YtekdenkllipehaaGreatDoorP17
import Derived.Test.YtekdenkllipehaaGreatDoorP28
import Derived.Lib.AppendStr
set_option maxRecDepth 99999
set_option maxHeartbeats 0
namespace Go.Proofs.YtekdenkllipehaaGreatDoor
open Go.RowKit
variable{D:M.Dsk}{bc d id k o p:Nat}{bo:Option Addr}{f:M.Fil}{ids ps:List Nat}{tg:Tags}{w w':World}
def Oe(w:World)(D:M.Dsk)(e:Ending)(w':World):Prop:=
 match D.read Bw with
 |(_,7)=>e=.returned (.tuple #[F3 (-1) ⟨#[]⟩ none 0 0,iT 0])
 |(T,0)=>J3 w (S.readFile T) e w'
 |(_,c)=>e=.returned (.tuple #[Mi,iT (c:Nat)])
theorem iU(D:M.Dsk)(nm:BA):(D.read nm).2=0\/(D.read nm).2=7\/(D.read nm).2=10:=by
 unfold M.Dsk.read;split
 .exact Or.inr (Or.inr rfl)
 .split
  .exact Or.inr (Or.inl rfl)
  .exact Or.inl rfl
theorem Rh(hD:D.BS)(nm:BA):(D.read nm).1.length<=1048576:=by
 unfold M.Dsk.read;split
 .simp
 .split
  .simp
  .rename_i i hi;obtain⟨f,hf,_,_⟩:=M.Cf hi;simp only[hf,zM1,zLT];exact hD.good.small (zLR hf)
theorem KF{T A t:List UInt8}{n:Int}(h:S.Gp T n=some (A,t)):A.length<=T.length/\t.length<=T.length:=by
 unfold S.Gp at h;split at h
 .cases h
 .split at h
  .injection h with h;injection h with h1 h2;subst h1 h2;exact⟨by simp,by simp;omega⟩
  .cases h
theorem Qt(w:World)(d:Nat)(x:BA)(hR:∀W,Q w W->Calls Tryz.prog 26 #[pT d,sT Bw] W fun e w'=>e=.returned (.tuple #[sT x,iT 7])/\Q W w'):
  Calls Tryz.prog 61 #[pT d] w fun e w'=>e=.returned (.tuple #[F3 (-1) ⟨#[]⟩ none 0 0,iT 0])/\Q w w':=by
 have HR:Hid _:=hR;clear hR;unfold Bw at HR;unfold F3;go_in;go_wp2_with fail;apply(HR.out _ ((Q.refl w).alloc _ _)).mono;rintro e w1⟨rfl,q1⟩;have hV:=(AZ w [iT 0,eS,nS] 112).kept q1;have b0:=hV.cell 0 rfl;have b1:=hV.cell 1 rfl;have b2:=hV.cell 2 rfl;have d0:=hV.free 0 rfl;have d1:=hV.free 1 rfl;have d2:=hV.free 2 rfl;have hset:=((hV.set 0 (iT (-1))).set 1 eS).set 2 nS;have k0:=hset.cell 0 rfl;have k1:=hset.cell 1 rfl;have k2:=hset.cell 2 rfl;have hq:Q w (((w1.setCell (aD w.heap.size 0) (iT (-1))).setCell (aD w.heap.size 1) eS).setCell (aD w.heap.size 2) nS):=(((((Q.refl w).alloc _ _).trans q1).setCell (zLK _) _).setCell (zLK _) _).setCell (zLK _) _;clear hset hV q1;go_wp2_with fail;refine bodyPost_ret (v:=.tuple #[.agg #[iT (-1),eS,nS],iT 0]) (by simp[results,Tryz.results61,go_sem,k0,k1,k2]) rfl ?_;exact⟨rfl,hq⟩
theorem Qu(w:World)(d:Nat)(x:BA)(hR:∀W,Q w W->Calls Tryz.prog 26 #[pT d,sT Bw] W fun e w'=>e=.returned (.tuple #[sT x,iT 10])/\Q W w'):
  Calls Tryz.prog 61 #[pT d] w fun e w'=>e=.returned (.tuple #[Mi,iT 10])/\Q w w':=by
 have HR:Hid _:=hR;clear hR;unfold Bw at HR;unfold Mi;go_in;go_wp2_with fail;apply(HR.out _ ((Q.refl w).alloc _ _)).mono;rintro e w1⟨rfl,q1⟩;have hV:=(AZ w [iT 0,eS,nS] 112).kept q1;have b0:=hV.cell 0 rfl;have b1:=hV.cell 1 rfl;have b2:=hV.cell 2 rfl;have d0:=hV.free 0 rfl;have d1:=hV.free 1 rfl;have d2:=hV.free 2 rfl;have hset:=((hV.set 0 (iT 0)).set 1 eS).set 2 nS;have k0:=hset.cell 0 rfl;have k1:=hset.cell 1 rfl;have k2:=hset.cell 2 rfl;have hq:Q w (((w1.setCell (aD w.heap.size 0) (iT 0)).setCell (aD w.heap.size 1) eS).setCell (aD w.heap.size 2) nS):=(((((Q.refl w).alloc _ _).trans q1).setCell (zLK _) _).setCell (zLK _) _).setCell (zLK _) _;clear hset hV q1;go_wp2_with fail;refine bodyPost_ret (v:=.tuple #[.agg #[iT 0,eS,nS],iT 10]) (by simp[results,Tryz.results61,go_sem,k0,k1,k2]) rfl ?_;exact⟨rfl,hq⟩
theorem Qs(w:World)(d:Nat)(x:BA)(hx:x.size<=1048576)(hT:Tab w)(hR:∀W,Q w W->Calls Tryz.prog 26 #[pT d,sT Bw] W fun e w'=>e=.returned (.tuple #[sT x,iT 0])/\Q W w'):
  Calls Tryz.prog 61 #[pT d] w fun e w'=>J3 w (S.readFile x.data.toList) e w'/\Q w w':=by
 have hl:x.data.toList.length=x.size:=by simp
 have HT:Hid (∀W,Q w W->Tab W):=fun W q=>CJ hT q;have HR:Hid _:=hR;have C1:Hid _:=fun W(q:Q w W)=>lX x hx 8 W (HT.out W q);clear hR;unfold Bw at HR;have HE:Hid (∀v e w',(S.readFile x.data.toList=none)->e=.returned (.tuple #[.agg #[iT 0,eS,nS],iT v])->v=3->J3 w (S.readFile x.data.toList) e w'):=fun v e w' h1 h2 h3=>by
  rw[h1,h2,h3];exact rfl
 cases hc:S.Gp x.data.toList 8 with
 |none =>
  have hE:S.readFile x.data.toList=none:=by unfold S.readFile;rw[hc]
  rw[hc]at C1;have hE2:=HE.out 3 _ w hE rfl rfl;rw[hE];unfold KU at C1;unfold J3 Mi;clear hE2 HE hE hc HT;go_in;go_wp2_with fail;apply(HR.out _ ((Q.refl w).alloc _ _)).mono;rintro e w0⟨rfl,q0⟩;have iq:=((Q.refl w).alloc _ _).trans q0;go_wp2_with fail;apply(C1.out _ iq).mono;rintro e w1⟨rfl,q1⟩;have hV:=((AZ w [iT 0,eS,nS] 112).kept q0).kept q1;have b0:=hV.cell 0 rfl;have b1:=hV.cell 1 rfl;have b2:=hV.cell 2 rfl;have d0:=hV.free 0 rfl;have d1:=hV.free 1 rfl;have d2:=hV.free 2 rfl;have hset:=((hV.set 0 (iT 0)).set 1 eS).set 2 nS;have k0:=hset.cell 0 rfl;have k1:=hset.cell 1 rfl;have k2:=hset.cell 2 rfl;have hq:Q w (((w1.setCell (aD w.heap.size 0) (iT 0)).setCell (aD w.heap.size 1) eS).setCell (aD w.heap.size 2) nS):=(((iq.trans q1).setCell (zLK _) _).setCell (zLK _) _).setCell (zLK _) _;clear hset hV q1 q0 iq C1 HR;go_wp2_with fail;refine bodyPost_ret (v:=.tuple #[.agg #[iT 0,eS,nS],iT 3]) (by simp[results,Tryz.results61,go_sem,k0,k1,k2]) rfl ?_;exact⟨rfl,hq⟩
 |some p =>
  obtain⟨A,foot⟩:=p;have hln:=KF hc;rw[hl]at hln;rw[hc]at C1;unfold KU at C1;obtain⟨Ab,hAb⟩:∃Ab:BA,Ab=⟨A.toArray⟩:=⟨_,rfl⟩;obtain⟨fo,hfo⟩:∃fo:BA,fo=⟨foot.toArray⟩:=⟨_,rfl⟩;have hAd:Ab.data.toList=A:=by rw[hAb]
  have hfd:fo.data.toList=foot:=by rw[hfo]
  have hAs:Ab.size<=1048576:=by rw[hAb];show A.length<=_;omega
  have hfs:fo.size<=1048576:=by rw[hfo];show foot.length<=_;omega
  simp only[<-hAb,<-hfo]at C1;have NU:Hid _:=fun(C:Nat)W=>rdNum fo (by omega) 0 C 72057594037927935 false W;have XD:Hid _:=fun W=>iZ fo W;have nle:=Cw (T:=foot) (most:=72057594037927935) (a:=0) (zLS _);have hE:S.readFile x.data.toList=match S.Gp A (((CG foot 72057594037927935 0).1:Int)-2097152)with|none=>none|some (blocks,idx)=>S.FU blocks idx:=by unfold S.readFile;rw[hc];rfl
  rw[hfd]at NU;obtain⟨⟨v,a1⟩,hv⟩:=ex (CG foot 72057594037927935 0);rw[<-hv]at NU nle hE;simp only at nle;have C2:Hid _:=fun W(q:Q w W)=>lX Ab hAs ((v:Int)-2097152) W (HT.out W q);rw[hAd]at C2;clear hv hc hAb hfo
  cases hc2:S.Gp A ((v:Int)-2097152)with
  |none =>
   rw[hc2]at hE C2;simp only at hE;rw[hE];unfold KU at C2;unfold J3 Mi;clear HE hE hc2 HT;go_in;go_wp2_with fail;apply(HR.out _ ((Q.refl w).alloc _ _)).mono;rintro e w0⟨rfl,q0⟩;have RB:=(AZ w [iT 0,eS,nS] 112).kept q0;have iq:=((Q.refl w).alloc _ _).trans q0;clear q0;go_wp2_with fail;apply(C1.out _ iq).mono;rintro e w1⟨rfl,q1⟩;have hV1:=RB.kept q1;have q1':=iq.trans q1;clear q1 iq RB C1 HR;go_wp2_with fail;apply(XD.out _).mono;rintro e w2⟨rfl,hA2,q2⟩;have hV2:=hV1.kept q2;have hs1:=hV1.1;go_wp2_with fail;apply(NU.out _ _ hA2).mono;rintro e w3⟨rfl,hA3,g3⟩;have Uq:=hV2.grown g3 (by simp;omega);have q3':Q w w3:=⟨(q1'.below.trans (q2.below.mono q1'.below.size)).grown g3 (zLV q1'.below.size q2.below.size) (fun k hk=>by injection hk;omega)⟩;clear hA2 hA3 g3 q2 hV2 hV1 NU XD q1';go_wp2_with fail;apply(C2.out _ q3').mono;rintro e w4⟨rfl,q4⟩;have hV:=Uq.kept q4;have Kl:=q3'.trans q4;clear Uq q4 q3' C2;have b0:=hV.cell 0 rfl;have b1:=hV.cell 1 rfl;have b2:=hV.cell 2 rfl;have d0:=hV.free 0 rfl;have d1:=hV.free 1 rfl;have d2:=hV.free 2 rfl;have hset:=((hV.set 0 (iT 0)).set 1 eS).set 2 nS;have k0:=hset.cell 0 rfl;have k1:=hset.cell 1 rfl;have k2:=hset.cell 2 rfl;have hq:Q w (((w4.setCell (aD w.heap.size 0) (iT 0)).setCell (aD w.heap.size 1) eS).setCell (aD w.heap.size 2) nS):=((Kl.setCell (zLK _) _).setCell (zLK _) _).setCell (zLK _) _;clear hset hV Kl;go_wp2_with fail;refine bodyPost_ret (v:=.tuple #[.agg #[iT 0,eS,nS],iT 3]) (by simp[results,Tryz.results61,go_sem,k0,k1,k2]) rfl ?_;exact⟨rfl,hq⟩
  |some p2 =>
   ((((obtain⟨bl,idx⟩:=p2;have zJ2:=KF hc2;rw[hc2]at hE C2;simp only at hE;rw[hE];unfold KU at C2;obtain⟨Bb,hBb⟩:∃Bb:BA,Bb=⟨bl.toArray⟩:=⟨_,rfl⟩;obtain⟨Ib,hIb⟩:∃Ib:BA,Ib=⟨idx.toArray⟩:=⟨_,rfl⟩;have hBd:Bb.data.toList=bl:=by rw[hBb]);have hId:Ib.data.toList=idx:=by rw[hIb]);have rE:Bb.size<=1048576:=by rw[hBb];show bl.length<=_;omega);have hIs:Ib.size<=1048576:=by rw[hIb];show idx.length<=_;omega);simp only[<-hBb,<-hIb]at C2;have RI:Hid _:=fun W=>TN Bb Ib rE hIs W;rw[hBd,hId]at RI;clear HE hE hc2 HT hBb hIb;go_in;go_wp2_with fail;apply(HR.out _ ((Q.refl w).alloc _ _)).mono;rintro e w0⟨rfl,q0⟩;have RB:=(AZ w [iT 0,eS,nS] 112).kept q0;have iq:=((Q.refl w).alloc _ _).trans q0;clear q0;go_wp2_with fail;apply(C1.out _ iq).mono;rintro e w1⟨rfl,q1⟩;have hV1:=RB.kept q1;have q1':=iq.trans q1;clear q1 iq RB C1 HR;go_wp2_with fail;apply(XD.out _).mono;rintro e w2⟨rfl,hA2,q2⟩;have hV2:=hV1.kept q2;have hs1:=hV1.1;go_wp2_with fail;apply(NU.out _ _ hA2).mono;rintro e w3⟨rfl,hA3,g3⟩;have Uq:=hV2.grown g3 (by simp;omega);have q3':Q w w3:=⟨(q1'.below.trans (q2.below.mono q1'.below.size)).grown g3 (zLV q1'.below.size q2.below.size) (fun k hk=>by injection hk;omega)⟩;clear hA2 hA3 g3 q2 hV2 hV1 NU XD q1';go_wp2_with fail;apply(C2.out _ q3').mono;rintro e w4⟨rfl,q4⟩;have hV:=Uq.kept q4;have Kl:=q3'.trans q4;clear Uq q4 q3' C2;go_wp2_with fail;apply(RI.out _).mono;rintro e w5⟨hL,q5⟩;have M8:=hV.kept q5;have HS4:=h_ hV.1;have nJ:=Kl.trans q5;clear hV Kl q5 RI;unfold J3 at hL
   cases hr:S.FU bl idx with
   |none =>
    rw[hr]at hL;simp only at hL;subst hL;have yY:Hid _:=hr;clear hr;unfold Mi;have b0:=M8.cell 0 rfl;have b1:=M8.cell 1 rfl;have b2:=M8.cell 2 rfl;have d0:=M8.free 0 rfl;have d1:=M8.free 1 rfl;have d2:=M8.free 2 rfl;have hset:=((M8.set 0 (iT 0)).set 1 eS).set 2 nS;have k0:=hset.cell 0 rfl;have k1:=hset.cell 1 rfl;have k2:=hset.cell 2 rfl;have hq:Q w (((w5.setCell (aD w.heap.size 0) (iT 0)).setCell (aD w.heap.size 1) eS).setCell (aD w.heap.size 2) nS):=((nJ.setCell (zLK _) _).setCell (zLK _) _).setCell (zLK _) _;clear hset M8 nJ;go_wp2_with fail;refine bodyPost_ret (v:=.tuple #[.agg #[iT 0,eS,nS],iT 3]) (by simp[results,Tryz.results61,go_sem,k0,k1,k2]) rfl ?_;exact⟨by rw[yY.out];exact rfl,hq⟩
   |some L =>
    rw[hr]at hL;obtain⟨ao,cap,rfl,xu,hEl⟩:=hL;have hq4:=HS4.out;have yY:Hid _:=hr;have HEl:Hid (∀a,ao=some a->w.heap.size<=a.block):=fun a ha=>by have:=hEl a ha;omega
    clear hr;unfold F3;have b0:=M8.cell 0 rfl;have b1:=M8.cell 1 rfl;have b2:=M8.cell 2 rfl;have d0:=M8.free 0 rfl;have d1:=M8.free 1 rfl;have d2:=M8.free 2 rfl;have hset:=((M8.set 0 (iT L.wm)).set 1 (sT ⟨L.blocks.toArray⟩)).set 2 (.slice ao L.IV.length cap);have k0:=hset.cell 0 rfl;have k1:=hset.cell 1 rfl;have k2:=hset.cell 2 rfl;have hq:Q w (((w5.setCell (aD w.heap.size 0) (iT L.wm)).setCell (aD w.heap.size 1) (sT ⟨L.blocks.toArray⟩)).setCell (aD w.heap.size 2) (.slice ao L.IV.length cap)):=((nJ.setCell (zLK _) _).setCell (zLK _) _).setCell (zLK _) _;have hEf:Dz (((w5.setCell (aD w.heap.size 0) (iT L.wm)).setCell (aD w.heap.size 1) (sT ⟨L.blocks.toArray⟩)).setCell (aD w.heap.size 2) (.slice ao L.IV.length cap)) ao L.IV:=by
     rcases xu with h|⟨g,rfl,hg,hc⟩
     .exact Or.inl h
     .have hne:w.heap.size<g:=zLJ hq4 (hEl _ rfl);have ox:∀j,(((w5.setCell (aD w.heap.size 0) (iT L.wm)).setCell (aD w.heap.size 1) (sT ⟨L.blocks.toArray⟩)).setCell (aD w.heap.size 2) (.slice (some (aD g 0)) L.IV.length cap)).cell? (aD g j)=w5.cell? (aD g j):=fun j=>by
       rw[zMH _ _ _ _ (by intro e;injection e;omega),zMH _ _ _ _ (by intro e;injection e;omega),zMH _ _ _ _ (by intro e;injection e;omega)]
      refine Or.inr ⟨g,rfl,by simpa using hg,fun i e hi=>?_⟩;rw[ox,ox,ox,ox];exact hc i e hi
    clear hset M8 nJ;go_wp2_with fail;refine bodyPost_ret (v:=.tuple #[.agg #[iT L.wm,sT ⟨L.blocks.toArray⟩,.slice ao L.IV.length cap],iT 0]) (by simp[results,Tryz.results61,go_sem,k0,k1,k2]) rfl ?_;exact⟨by rw[yY.out];exact⟨ao,cap,rfl,hEf,HEl.out⟩,hq⟩
theorem VD(tg:Tags)(o d:Nat)(D:M.Dsk)(ids ps:List Nat)(hD:D.BS)(w:World)(h:AJ w tg o d D ids ps)(hT:Tab w):
  Calls Tryz.prog 61 #[pT d] w fun e w'=>Oe w D e w'/\Q w w':=by
 have hR:=fun W(q:Q w W)=>MG tg o d D ids ps hD Bw W (h.kept q);have hs:=Rh hD Bw;have hc:=iU D Bw;unfold Oe;obtain⟨⟨x,c⟩,hx⟩:=ex (D.read Bw);rw[<-hx]at hR hs hc⊢;simp only at hR hs hc⊢;rcases hc with rfl|rfl|rfl
 .have:=Qs w d ⟨x.toArray⟩ hs hT hR;simpa using this
 .exact Qt w d ⟨x.toArray⟩ hR
 .exact Qu w d ⟨x.toArray⟩ hR
theorem Bg.trans{tg AR:Tags}{o d:Nat}{D':M.Dsk}{w w1 w2:World}(ht:∀k,k<w.heap.size->AR k=tg k)(ho:Only o tg w w1)(h:Bg AR o d D' w1 w2):Bg tg o d D' w w2:=by
 obtain⟨D5,Q5,ps2,h1,h2,h3⟩:=h;refine⟨D5,Q5,ps2,fun k hk=>(h1 k (zLJ hk ho.size)).trans (ht k hk),h2,?_⟩;exact⟨h3.os.trans ho.os,h3.tape.trans ho.tape,h3.output.trans ho.output,zLV ho.size h3.size,fun k hk hn=>(h3.block k (zLJ hk ho.size) (by rw[ht k hk];exact hn)).trans (ho.block k hk hn)⟩
def S.A8(c:Nat):Nat:=if c=7 then 0 else c
theorem P9(c:Nat)(w:World):Calls Tryz.prog 65 #[iT (c:Int)] w fun e w'=>e=.returned (iT (S.A8 c:Nat))/\w'=w:=by
 by_cases h7:c=7
 .subst h7;have:S.A8 7=0:=rfl;rw[this];go_in;go_wp2;go_ret;exact⟨rfl,rfl⟩
 .have:S.A8 c=c:=by simp[S.A8,h7]
  rw[this];have h7I:¬(c:Int)=7:=by omega
  have h7b:((c:Int)==7)=false:=by rw[zM9];exact h7I
  clear this;go_in;go_wp2;go_ret;exact⟨rfl,rfl⟩
theorem Y5(tg:Tags)(o d:Nat)(D:M.Dsk)(ids ps:List Nat)(hD:D.BS)(w:World)(h:AJ w tg o d D ids ps):
  Calls Tryz.prog 66 #[pT d] w fun e w'=>e=.returned (iT (S.A8 (D.remove A9).2:Nat))/\Bg tg o d (D.remove A9).1 w w':=by
 have HR:=hU (eH tg o d D ids ps hD A9 w h);obtain⟨⟨E,c⟩,hx⟩:=ex (D.remove A9);rw[<-hx]at HR⊢;simp only at HR⊢;unfold A9 at HR;have IT:Hid _:=fun(W:World)=>P9 c W;obtain⟨c2,hc2⟩:=ex (S.A8 c);rw[<-hc2]at IT⊢;clear hx hc2;go_in;go_wp2_with fail;apply(HR.out ()).mono;rintro e w1⟨rfl,hL⟩;go_wp2_with fail;apply(IT.out _).mono;rintro e w2⟨rfl,rfl⟩;go_wp2;go_ret;exact⟨rfl,hL⟩
def S.settle(D:M.Dsk):M.Dsk×Nat:=
 if S.A8 (D.sync Bw).2=0 then(((D.sync Bw).1.remove A9).1,S.A8 ((D.sync Bw).1.remove A9).2)
 else((D.sync Bw).1,S.A8 (D.sync Bw).2)
theorem af(tg:Tags)(o d:Nat)(D:M.Dsk)(ids ps:List Nat)(hD:D.BS)(w:World)(h:AJ w tg o d D ids ps):
  Calls Tryz.prog 36 #[pT d] w fun e w'=>e=.returned (iT ((S.settle D).2:Nat))/\Bg tg o d (S.settle D).1 w w':=by
 have HS:=hU (UI tg o d D ids ps hD Bw w h);have hE:=hD.sync Bw;unfold S.settle;obtain⟨⟨E,c⟩,hx⟩:=ex (D.sync Bw);rw[<-hx]at HS hE⊢;simp only at HS hE⊢;unfold Bw at HS;have IT:Hid _:=fun(W:World)=>P9 c W;obtain⟨c2,hc2⟩:=ex (S.A8 c);rw[<-hc2]at IT⊢;have HT:Hid _:=fun(AR:Tags)(Mx ZL:List Nat)(W:World)(hW:AJ W AR o d E Mx ZL)=>Y5 AR o d E Mx ZL hE W hW;clear hx hc2 hE h hD;by_cases h0:c2=0
 .subst h0;rw[if_pos rfl];obtain⟨⟨E2,c3⟩,hx⟩:=ex ((⟨(E.remove A9).1,S.A8 (E.remove A9).2⟩:M.Dsk×Nat));have hx1:(E.remove A9).1=E2:=(congrArg Prod.fst hx).symm;have hx2:S.A8 (E.remove A9).2=c3:=(congrArg Prod.snd hx).symm;rw[hx1,hx2]at HT⊢;clear hx hx1 hx2;go_in;go_wp2_with fail;apply(HS.out ()).mono;rintro e w1⟨rfl,AR,Mx,ZL,ht1,hL1,ho1⟩;have HH:Hid _:=And.intro ht1 (And.intro hL1 ho1);clear ht1 hL1 ho1 HS;go_wp2_with fail;apply(IT.out _).mono;rintro e w2⟨rfl,rfl⟩;go_wp2_with fail;apply(HT.out AR Mx ZL _ HH.out.2.1).mono;rintro e w3⟨rfl,hL3⟩;go_wp2;go_ret;exact⟨rfl,Bg.trans HH.out.1 HH.out.2.2 hL3⟩
 .rw[if_neg h0];have h0I:¬(c2:Int)=0:=by omega
  have h0b:((c2:Int)==0)=false:=by rw[zM9];exact h0I
  clear HT;go_in;go_wp2_with fail;apply(HS.out ()).mono;rintro e w1⟨rfl,hL1⟩;have HH:Hid _:=hL1;clear hL1 HS;go_wp2_with fail;apply(IT.out _).mono;rintro e w2⟨rfl,rfl⟩;go_wp2;go_ret;exact⟨rfl,HH.out⟩
theorem BF.named(h:BF w tg o p id f bo bc)(nm:BA):BF w tg o p id { f with name:=nm } bo bc:=⟨h.c0,h.c1,h.fr,h.own,h.tp,h.tb,h.top⟩
theorem jJ{l:List Nat}(h:l.Nodup){x:Nat}(hx:x∉l):(l.set k x).Nodup:=by
 rw[List.nodup_iff_pairwise_ne,zM3]at*;intro i j hi hj hij;simp only[List.length_set]at hi hj;rw[List.getElem_set,List.getElem_set];split
 .split
  .omega
  .intro e;exact hx (e▸List.getElem_mem hj)
 .split
  .intro e;exact hx (e▸List.getElem_mem hi)
  .exact h i j hi hj hij
theorem bA(hD:D.BS)(old nm:BA):D.rename old nm=if(D.chg (codeOf ((M.place D.files old).isSome&&M.Bh nm))).2=0 then(match D.files[(M.place D.files old).getD 0]? with|some f=>({ (D.chg (codeOf ((M.place D.files old).isSome&&M.Bh nm))).1 with files:=M.moved D.files ((M.place D.files old).getD 0) f nm },0)|none=>((D.chg (codeOf ((M.place D.files old).isSome&&M.Bh nm))).1,0))else D.chg (codeOf ((M.place D.files old).isSome&&M.Bh nm)):=by
 rw[M.NZ hD,Ky];have hf:=E8 D (codeOf ((M.place D.files old).isSome&&M.Bh nm));obtain⟨⟨E,c⟩,hE⟩:=xe (D.chg (codeOf ((M.place D.files old).isSome&&M.Bh nm)));rw[hE]at hf⊢;simp only at hf⊢;by_cases hc:c=0
 .subst hc;simp only[if_true];rw[hf]
  cases D.files[(M.place D.files old).getD 0]?<;>rfl
 .simp only[if_neg hc]
theorem AJ.ZK(h:AJ w tg o d D ids ps)(hF:BF w tg o p id f bo bc)(hid:id∉ids)(hpl:M.place D.files f.name=none)(hn:GK tg o d (Ah (Am D.files) (M.CQ D.files f.name) f.name) (Ah ps (M.CQ D.files f.name) p) w w'):
  ∃AU:Tags,(∀k,k<w.heap.size->AU k=tg k)/\AJ w' AU o d ⟨D.cap,M.put D.files f,D.dead,D.Ae⟩ (Ah ids (M.CQ D.files f.name) id) (Ah ps (M.CQ D.files f.name) p)/\Jy tg o d w w':=by
 obtain⟨AU,h1,h2,h3⟩:=hn;have hle:=M.J8 D.files f.name;have hput:M.put D.files f=Ah D.files (M.CQ D.files f.name) f:=(M.PI hpl).1;have hlI:=h.F9;have hlP:ps.length=D.files.length:=by have:=h.map.len;simpa using this
 rw[hput];refine⟨AU,h1,h.vY h3 h1 ?_ (P7 h.nodup hid) (by rw[CX (by omega),CX hle];omega) (fun j q i g e1 e2 e3=>?_),h3⟩
 .have:Am (Ah D.files (M.CQ D.files f.name) f)=Ah (Am D.files) (M.CQ D.files f.name) f.name:=(Jj (fun f:M.Fil=>f.name) _ _ _).symm;rw[this];exact h2
 .rcases F4 (by omega) e1 with⟨rfl,rfl⟩|⟨hj,e1⟩
  .rcases F4 (by omega) e2 with⟨_,rfl⟩|⟨hj,_⟩
   .rcases F4 hle e3 with⟨_,rfl⟩|⟨hj,_⟩
    .exact⟨bo,bc,hF⟩
    .exact absurd rfl hj
   .exact absurd rfl hj
  .rcases F4 (by omega) e2 with⟨e,_⟩|⟨_,e2⟩
   .exact absurd e hj
   .rcases F4 hle e3 with⟨e,_⟩|⟨_,e3⟩
    .exact absurd e hj
    .exact h.file _ q i g e1 e2 e3
theorem AJ.ou(h:AJ w tg o d D ids ps)(hF:BF w tg o p id f bo bc)(hid:id∉ids)(hpl:M.place D.files f.name=some k)(hn:GK tg o d (Am D.files) (ps.set k p) w w'):
  ∃AU:Tags,(∀k,k<w.heap.size->AU k=tg k)/\AJ w' AU o d ⟨D.cap,D.files.set k f,D.dead,D.Ae⟩ (ids.set k id) (ps.set k p)/\Jy tg o d w w':=by
 obtain⟨AU,h1,h2,h3⟩:=hn;obtain⟨x,hx,hxn,_⟩:=M.Cf hpl;have hxn:=M.EK.1 hxn;refine⟨AU,h1,h.vY h3 h1 ?_ (jJ h.nodup hid) (by simpa using h.F9) (fun j q i g e1 e2 e3=>?_),h3⟩
 .have:Am (D.files.set k f)=Am D.files:=M.VJ hx hxn.symm;rw[this];exact h2
 .by_cases hj:j=k
  .subst hj;have l1:j<ps.length:=by have:=(zLI.1 e1).1;simpa using this
   ((have l2:j<ids.length:=by have:=(zLI.1 e2).1;simpa using this);have l3:j<D.files.length:=by have:=(zLI.1 e3).1;simpa using this);rw[List.getElem?_set_self l1]at e1;rw[List.getElem?_set_self l2]at e2;rw[List.getElem?_set_self l3]at e3;obtain rfl:=Option.some.inj e1;obtain rfl:=Option.some.inj e2;obtain rfl:=Option.some.inj e3;exact⟨bo,bc,hF⟩
  .rw[List.getElem?_set_ne (Ne.symm hj)]at e1 e2 e3;exact h.file j q i g e1 e2 e3
theorem UK(tg:Tags)(o d:Nat)(D:M.Dsk)(ids ps:List Nat)(hD:D.BS)(old nm:BA)(hno:(D.chg (codeOf ((M.place D.files old).isSome&&M.Bh nm))).2≠0)(w:World)(h:AJ w tg o d D ids ps):
  Calls Tryz.prog 143 #[pT d,sT old,sT nm] w fun e w'=>e=.returned (iT ((D.chg (codeOf ((M.place D.files old).isSome&&M.Bh nm))).2:Nat))/\Bg tg o d (D.chg (codeOf ((M.place D.files old).isSome&&M.Bh nm))).1 w w':=by
 have HG:=hU (Lp tg o d D.files ps hD.sorted hD.good.few old w h.map);have HC:Hid _:=fun(W:World)(hW:AJ W tg o d D ids ps)=>FY tg o d D ids ps (codeOf ((M.place D.files old).isSome&&M.Bh nm)) hD.Ae W hW;have HN:Hid _:=fun(W:World)=>NA nm W;have HD:=h_ h;obtain⟨⟨E,c⟩,hE⟩:=xe (D.chg (codeOf ((M.place D.files old).isSome&&M.Bh nm)));rw[hE]at HC hno⊢;simp only at HC hno⊢;have hcb:((c:Int)==0)=false:=by rw[zM9];omega
 cases hp:M.place D.files old with
 |none =>
  rw[hp]at HG HC;simp only[zLo,Bool.false_and]at HC;go_in;go_wp2_with fail;apply(HG.out ()).mono;rintro e w1⟨rfl,q1⟩;have GY:=hU (HC.out w1 (HD.out.kept q1));simp only[Ny,zLo];go_wp2_with fail;apply(Ey false w1).mono;rintro e w2⟨rfl,hw2⟩;subst hw2;go_wp2_with fail;apply(GY.out ()).mono;rintro e w3⟨rfl,hL,hO⟩;have OB:=h_ (Bg.same hL ((Only.Be q1).trans hO));go_wp2;go_ret;exact⟨rfl,OB.out⟩
 |some i =>
  rw[hp]at HG HC;obtain⟨f,p,id,e1,e2,e3,e4,_⟩:=Gf HD.out hp;rw[e4]at HG;simp only[zLX,Bool.true_and]at HC;go_in;go_wp2_with fail;apply(HG.out ()).mono;rintro e w1⟨rfl,q1⟩;simp only[zLX];go_wp2_with fail;apply(HN.out w1).mono;rintro e w2⟨rfl,q2⟩;have GY:=hU (HC.out w2 (HD.out.kept (q1.trans q2)));go_wp2_with fail;apply(Ey (M.Bh nm) w2).mono;rintro e w3⟨rfl,hw2⟩;subst hw2;go_wp2_with fail;apply(GY.out ()).mono;rintro e w4⟨rfl,hL,hO⟩;have OB:=h_ (Bg.same hL ((Only.Be (q1.trans q2)).trans hO));go_wp2;go_ret;exact⟨rfl,OB.out⟩
theorem zAM(tg AR:Tags)(o d:Nat)(E:M.Dsk)(hE:E.BS)(Mx ZL:List Nat)(i p id:Nat)(f:M.Fil)(nm:BA)(bo:Option Addr)(bc:Nat)(w w5:World)(h5:AJ w5 AR o d ⟨E.cap,E.files.eraseIdx i,E.dead,E.Ae⟩ Mx ZL)(hF:BF w5 AR o p id f bo bc)(hid:id∉Mx)(ht:∀k,k<w.heap.size->AR k=tg k)(hO:Only o tg w w5)(W:World)(hq:Q w5 W):
  Calls Tryz.prog 44 #[.pointer (some (aD d 1)),sT nm,pT p] W fun e w'=>e=.returned (.tuple #[])/\Bg tg o d ⟨E.cap,M.moved E.files i f nm,E.dead,E.Ae⟩ w w':=by
 have hW:=h5.kept hq;have hFW:BF W AR o p id { f with name:=nm } bo bc:=(hF.keep hq.below.size (fun _ _=>rfl) (fun k hk _=>hq.below.block k hk)).named nm;have xh:Only o tg w W:=⟨(Only.Be (o:=o) (tg:=tg) hq).os.trans hO.os,(Only.Be (o:=o) (tg:=tg) hq).tape.trans hO.tape,(Only.Be (o:=o) (tg:=tg) hq).output.trans hO.output,zLV hO.size hq.below.size,fun k hk hn=>(hq.below.block k (zLJ hk hO.size)).trans (hO.block k hk hn)⟩;have hfin:∀{w':World}{D':M.Dsk},(∃(AU:Tags)(Al ps':List Nat),(∀k,k<W.heap.size->AU k=AR k)/\AJ w' AU o d D' Al ps'/\Jy AR o d W w')->Bg tg o d D' w w':=fun⟨AU,Al,ps',a1,a2,a3⟩=>
  ⟨AU,Al,ps',fun k hk=>(a1 k (zLJ hk xh.size)).trans (ht k hk),a2,⟨a3.os.trans xh.os,a3.tape.trans xh.tape,a3.output.trans xh.output,zLV xh.size a3.size,fun k hk hn=>(a3.only.block k (zLJ hk xh.size) (by rw[ht k hk];exact hn)).trans (xh.block k hk hn)⟩⟩
 have hs:=hE.sorted.erase i;have hl:(E.files.eraseIdx i).length<=64:=by have:=(List.eraseIdx_sublist E.files i).length_le;have:=hE.good.few;omega
 cases hp:M.place (E.files.eraseIdx i) nm with
 |some k =>
  apply(Vp AR o d (E.files.eraseIdx i) ZL hs hl nm p k hp W hW.map).mono;rintro e w'⟨rfl,hn⟩;obtain⟨AU,a1,a2,a3⟩:=hW.ou hFW hid hp hn;have:M.moved E.files i f nm=(E.files.eraseIdx i).set k { f with name:=nm }:=by unfold M.moved;rw[hp]
  rw[this];exact⟨rfl,hfin ⟨AU,_,_,a1,a2,a3⟩⟩
 |none =>
  apply(Ru AR o d (E.files.eraseIdx i) ZL hs hl nm p hp W hW.map).mono;rintro e w'⟨rfl,hn⟩;obtain⟨AU,a1,a2,a3⟩:=hW.ZK hFW hid hp hn;have:M.moved E.files i f nm=M.put (E.files.eraseIdx i) { f with name:=nm }:=by unfold M.moved;rw[hp]
  rw[this];exact⟨rfl,hfin ⟨AU,_,_,a1,a2,a3⟩⟩
theorem RL(tg:Tags)(o d:Nat)(D:M.Dsk)(ids ps:List Nat)(hD:D.BS)(old nm:BA)(i:Nat)(f:M.Fil)(E:M.Dsk)(hp:M.place D.files old=some i)(hf:D.files[i]?=some f)(hok:M.Bh nm=true)(hE:D.chg (codeOf true)=(E,0))(w:World)(h:AJ w tg o d D ids ps):
  Calls Tryz.prog 143 #[pT d,sT old,sT nm] w fun e w'=>e=.returned (iT 0)/\Bg tg o d ⟨E.cap,M.moved D.files i f nm,E.dead,E.Ae⟩ w w':=by
 have HG:=hU (Lp tg o d D.files ps hD.sorted hD.good.few old w h.map);have HC:Hid _:=fun(W:World)(hW:AJ W tg o d D ids ps)=>FY tg o d D ids ps (codeOf true) hD.Ae W hW;rw[hE]at HC;have hfe:E.files=D.files:=by have:=E8 D (codeOf true);rw[hE]at this;exact this
 have xw:E.BS:=by have:=hD.chg (codeOf true);rw[hE]at this;exact this
 have hfE:E.files[i]?=some f:=by rw[hfe];exact hf
 have HDr:Hid _:=fun(W:World)(hW:AJ W tg o d E ids ps)=>jO tg o d E.files ps xw.sorted xw.good.few old i (by rw[hfe];exact hp) W hW.map;have HN:Hid _:=fun(W:World)=>NA nm W;rw[hok]at HN;obtain⟨f',p,id,e1,e2,e3,e4,_⟩:=Gf h hp;rw[hp,e4]at HG;have HD:=h_ h;have hlim:nm.size<=281474976710656:=by
  unfold M.Bh at hok;simp at hok;omega
 have HId:=h_ (Yc h.nodup e3);have HP:=h_2 e2 e3;rw[<-hfe];have HX:=h_2 xw hfE;go_in;go_wp2_with fail;apply(HG.out ()).mono;rintro e w1⟨rfl,q1⟩;simp only[zLX];go_wp2_with fail;apply(HN.out w1).mono;rintro e w2⟨rfl,q2⟩;have GY:=hU (HC.out w2 (HD.out.kept (q1.trans q2)));go_wp2_with fail;apply(Ey true w2).mono;rintro e w3⟨rfl,hw2⟩;subst hw2;go_wp2_with fail;apply(GY.out ()).mono;rintro e w4⟨rfl,hL,hO⟩;have Sj:=hU (HDr.out w4 hL);have HL:Hid _:=hL;have HO:=h_ ((Only.Be (q1.trans q2)).trans hO);go_wp2_with fail;apply(Sj.out ()).mono;rintro e w5⟨rfl,hN⟩;obtain⟨AR,a1,a2,a3⟩:=HL.out.erased i hN;obtain⟨bo,bc,hF⟩:=HL.out.file i p id f HP.out.1 HP.out.2 HX.out.2;have hF5:BF w5 AR o p id f bo bc:=hF.keep a3.size a1 (fun k hk e=>a3.block k hk (by rcases e with e|e<;>exact DV e (by omega)) (by rcases e with e|e<;>exact DV e (by omega)) (by rcases e with e|e<;>exact DV e (by omega)));have sw:Hid _:=fun(W:World)(hq:Q w5 W)=>zAM tg AR o d E HX.out.1 (ids.eraseIdx i) (ps.eraseIdx i) i p id f nm bo bc w w5 a2 hF5 HId.out (fun k hk=>a1 k (zLJ hk HO.out.size)) (HO.out.trans a3.only) W hq;go_upto_region 5 with fail
 go_region_held3 (fun _=>True) (exact trivial)
  (first
   |(go_at_call 40;apply(Dr nm _ hlim).mono;rintro e w6⟨rfl,b6⟩;have XK:True:=trivial)
   |(go_at_call 44;apply(sw.out w6 (((Q.refl w5).drew).trans ⟨b6⟩)).mono;rintro e w7⟨rfl,xu⟩;have OB:Hid _:=xu))
 go_wp2;go_ret;exact⟨rfl,OB.out⟩
theorem eG(tg:Tags)(o d:Nat)(D:M.Dsk)(ids ps:List Nat)(hD:D.BS)(old nm:BA)(w:World)(h:AJ w tg o d D ids ps):
  Calls Tryz.prog 143 #[pT d,sT old,sT nm] w fun e w'=>e=.returned (iT ((D.rename old nm).2:Nat))/\Bg tg o d (D.rename old nm).1 w w':=by
 rw[bA hD];by_cases hc:(D.chg (codeOf ((M.place D.files old).isSome&&M.Bh nm))).2=0
 .rw[if_pos hc];have hz:=(Oa hc).1;have hb:((M.place D.files old).isSome&&M.Bh nm)=true:=by
   cases hx:((M.place D.files old).isSome&&M.Bh nm)
   .rw[hx]at hz;simp[codeOf]at hz
   .rfl
  simp only[Bool.and_eq_true]at hb
  cases hp:M.place D.files old with
  |none=>rw[hp]at hb;simp at hb
  |some i =>
   rw[hp]at hc;simp only[zLX,hb.2,Bool.true_and]at hc⊢;obtain⟨f,hf,_,_⟩:=M.Cf hp;obtain⟨⟨E,c⟩,hE⟩:=xe (D.chg (codeOf true));rw[hE]at hc⊢;simp only at hc;subst hc;simp only[zLT,hf];exact RL tg o d D ids ps hD old nm i f E hp hf hb.2 hE w h
 .rw[if_neg hc];exact UK tg o d D ids ps hD old nm hc w h
theorem I7(tg:Tags)(o d:Nat)(D:M.Dsk)(ids ps:List Nat)(hD:D.BS)(nm:BA)(n:Nat)(w:World)(h:AJ w tg o d D ids ps):
  Calls Tryz.prog 43 #[pT d,sT nm,.bool (M.place D.files nm).isSome,iT (n:Int)] w fun e w'=>e=.returned (iT (CZ D nm n:Nat))/\Q w w':=by
 have HN:Hid _:=fun(W:World)=>NA nm W;have HD:=h_ h;unfold CZ
 cases ho:M.Bh nm
 .rw[ho]at HN;rw[if_pos rfl];go_in;go_wp2_with fail;apply(HN.out w).mono;rintro e w1⟨rfl,qA⟩;go_wp2;go_ret;exact⟨rfl,qA⟩
 .rw[ho]at HN;simp only[Bool.true_eq_false,if_false];have hfit:=hD.good.fits;have hcap:=hD.good.cap;have Ef:=hD.good.few;obtain⟨room,hroom⟩:=xe (D.cap-M.total D.files);have hwr:IntKind.i64.wrap ((D.cap:Int)-(M.total D.files:Int))=(room:Int):=by rw[IntKind.wrap_i64];omega
  by_cases hov:D.cap<M.total D.files+n
  .rw[if_pos (Or.inl hov)];have d1:decide ((room:Int)<(n:Int))=true:=by rw[zMF];omega
   (((((((have hrn:room<n:=by omega);obtain⟨tot,htot⟩:=xe (M.total D.files);rw[htot]at hwr;have HS:Hid (∀W,Q w W->Calls Tryz.prog 56 #[pT d] W fun e w'=>e=.returned (iT (tot:Nat))/\Q W w'):=fun W q=>by rw[<-htot];exact UJ tg o d D ids ps hD W (h.kept q));have cc:=h.c0;go_in;go_wp2_with fail;apply(HN.out w).mono;rintro e w1⟨rfl,qA⟩;have c0:=AA cc qA;have HS:Hid (∀W,Q w1 W->Calls Tryz.prog 56 #[pT d] W fun e w'=>e=.returned (iT (tot:Nat))/\Q W w'):=fun W q=>HS.out W (qA.trans q);go_upto_region 3 with fail);refine wp_region_held_drew (S:=fun w'=>Q w1 w'/\w'.cell? (aD d 0)=some (iT (D.cap:Int))) (by kernel_rfl) ⟨(Q.refl w1).drew,c0⟩ (fun hHeld=>?_);refine q4 0 ?_;refine q4 1 ?_;refine q4 2 ?_;refine q4 3 ?_;refine q4 4 ?_;refine q4 5 ?_;refine rd1 6 (fun K hK=>?_);go_simp;apply((HS.out _ hHeld.1)).mono;rintro e v1⟨rfl,q1⟩);try go_wp2_with fail);refine hK.out _ _ ⟨hHeld.1.trans q1,AA hHeld.2 q1⟩ (fun AO=>?_);have hHeld:=AO);try simp only[Act.put,nrm]);refine q4 7 ?_;refine q4 8 ?_;refine q4 9 ?_;refine q5 10 ?_;refine q5 11 ?_;refine q5 12 ?_;refine q5 13 ?_;refine q5 14 ?_;refine q5 15 ?_;refine q5 16 ?_;refine q5 17 ?_;refine q5 18 ?_;refine q4 19 ?_;refine wpAnyH_done (by kernel_rfl) ?_ _;go_wp2;go_ret;exact⟨rfl,qA.trans hHeld.1⟩
  .have d1:decide ((room:Int)<(n:Int))=false:=by rw[decide_eq_false_iff_not];omega
   ((have hrn:¬room<n:=by omega);obtain⟨tot,htot⟩:=xe (M.total D.files);rw[htot]at hwr;have HS:Hid (∀W,Q w W->Calls Tryz.prog 56 #[pT d] W fun e w'=>e=.returned (iT (tot:Nat))/\Q W w'):=fun W q=>by rw[<-htot];exact UJ tg o d D ids ps hD W (h.kept q));have cc:=h.c0
   cases hp:M.place D.files nm with
   |some i =>
    (((((rw[if_neg (fun e=>by rcases e with e|e;exact hov e;simp at e)];simp only[zLX];go_in;go_wp2_with fail;apply(HN.out w).mono;rintro e w1⟨rfl,qA⟩;have c0:=AA cc qA;have HS:Hid (∀W,Q w1 W->Calls Tryz.prog 56 #[pT d] W fun e w'=>e=.returned (iT (tot:Nat))/\Q W w'):=fun W q=>HS.out W (qA.trans q);go_upto_region 3 with fail);refine wp_region_held_drew (S:=fun w'=>Q w1 w'/\w'.cell? (aD d 0)=some (iT (D.cap:Int))) (by kernel_rfl) ⟨(Q.refl w1).drew,c0⟩ (fun hHeld=>?_);refine q4 0 ?_;refine q4 1 ?_;refine q4 2 ?_;refine q4 3 ?_;refine q4 4 ?_;refine q4 5 ?_;refine rd1 6 (fun K hK=>?_);go_simp;apply((HS.out _ hHeld.1)).mono;rintro e v1⟨rfl,q1⟩);try go_wp2_with fail);refine hK.out _ _ ⟨hHeld.1.trans q1,AA hHeld.2 q1⟩ (fun AO=>?_);have hHeld:=AO);try simp only[Act.put,nrm]);refine q4 7 ?_;refine q4 8 ?_;refine q4 9 ?_;refine q4 10 ?_;refine q4 11 ?_;refine q4 12 ?_;refine q5 13 ?_;refine q5 14 ?_;refine q5 15 ?_;refine q5 16 ?_;refine q5 17 ?_;refine q4 18 ?_;refine q4 19 ?_;refine wpAnyH_done (by kernel_rfl) ?_ _;go_wp2;go_ret;exact⟨rfl,qA.trans hHeld.1⟩
   |none =>
    ((((((((((((have gH:Hid (∀W,Q w W->Calls Tryz.prog 39 #[.pointer (some (aD d 1))] W fun e w'=>e=.returned (iT (D.files.length:Nat))/\w'=W):=fun W q=>uD tg o d D.files ps W (h.kept q).map;have hfull:(if D.cap<M.total D.files+n\/((none:Option Nat)=none/\64<=D.files.length)then 9 else 0)=if 64<=D.files.length then 9 else 0:=by simp[hov]);rw[hfull];simp only[zLo];obtain⟨len,hlen⟩:=xe D.files.length;rw[hlen]at Ef gH⊢;have d2:((len:Int)==64)=decide (64<=len):=by rw[Bool.eq_iff_iff];simp;omega);have hif:(if 64<=len then 9 else 0)=if decide (64<=len)=true then 9 else 0:=by simp);rw[hif];obtain⟨fb,uO⟩:=xe (decide (64<=len));rw[uO]at d2⊢;go_in;go_wp2_with fail;apply(HN.out w).mono;rintro e w1⟨rfl,qA⟩;have c0:=AA cc qA;have HS:Hid (∀W,Q w1 W->Calls Tryz.prog 56 #[pT d] W fun e w'=>e=.returned (iT (tot:Nat))/\Q W w'):=fun W q=>HS.out W (qA.trans q);have gH:Hid (∀W,Q w1 W->Calls Tryz.prog 39 #[.pointer (some (aD d 1))] W fun e w'=>e=.returned (iT (len:Nat))/\w'=W):=fun W q=>gH.out W (qA.trans q);go_upto_region 3 with fail);refine wp_region_held_drew (S:=fun w'=>Q w1 w'/\w'.cell? (aD d 0)=some (iT (D.cap:Int))) (by kernel_rfl) ⟨(Q.refl w1).drew,c0⟩ (fun hHeld=>?_);refine q4 0 ?_;refine q4 1 ?_;refine q4 2 ?_;refine q4 3 ?_;refine q4 4 ?_;refine q4 5 ?_;refine rd1 6 (fun K hK=>?_);go_simp;apply((HS.out _ hHeld.1)).mono;rintro e v1⟨rfl,q1⟩);try go_wp2_with fail);refine hK.out _ _ ⟨hHeld.1.trans q1,AA hHeld.2 q1⟩ (fun AO=>?_);have hHeld:=AO);try simp only[Act.put,nrm]);refine q4 7 ?_;refine q4 8 ?_;refine q4 9 ?_;refine q4 10 ?_;refine q4 11 ?_;refine q4 12 ?_;refine q4 13 ?_;refine q4 14 ?_;refine q4 15 ?_;refine rd1 16 (fun K hK=>?_);go_simp;apply((gH.out _ hHeld.1)).mono;rintro e v2⟨rfl,q2⟩);try go_wp2_with fail);refine hK.out _ _ (by first|exact hHeld|(rw[q2];exact hHeld)) (fun AO=>?_);have hHeld:=AO);try simp only[Act.put,nrm]);refine q4 17 ?_;refine q4 18 ?_;refine q4 19 ?_;refine wpAnyH_done (by kernel_rfl) ?_ _
    cases fb
    .go_wp2;go_ret;exact⟨rfl,qA.trans hHeld.1⟩
    .go_wp2;go_ret;exact⟨rfl,qA.trans hHeld.1⟩
end Go.Proofs.YtekdenkllipehaaGreatDoor
namespace Go.Proofs.YtekdenkllipehaaGreatDoor
open Go.RowKit Go.Lib
theorem Qk{P:Program}(w:World)(t u ty e:TypeId)(i:TypeInfo)(ht:P.underlying t=some (.slice e))(hu:P.underlying u=some .string)(hi:P.info? e=some i)(hz:i.zero=some (.int .u8 0))(hsize:i.size=1)(hby:i.bytes=1)(v:Value)(n:Nat)(xs:List Value)(hown:w.ownsRow 0 e 1 v n xs)(s:BA)(h63:n+s.size<=maxLen)(hbytes:n+s.size<=140737488355328):
  ∃v' w',(Builtin.append_ #[t,u] ty #[v,sT s]).run P w=.ok v' w'/\w'.ownsRow 0 e 1 v' (n+s.size) (xs++strCells s)/\w.grownBy w' v.ownBlock/\(v'.ownBlock=v.ownBlock\/∃g,v'.ownBlock=some g/\w.heap.size<=g):=by
 obtain⟨v',w',hr,h2,h3,h4⟩:=run_append_own_string (P:=P) w 0 t u ty e i ht hu hi hz hsize hby v n xs hown s h63 hbytes (zLS _);refine⟨v',w',hr,h2,h3,?_⟩;have hsmall:n+s.size<=9223372036854775807:=by simp only[maxLen]at h63;omega
 have hxl:xs.length=n:=by simpa using hown.1
 rcases hown.2 with⟨rfl,rfl⟩|⟨g,cap,cur,rfl,hbg,hg,hnc,hcm,hcs,htake⟩
 .by_cases hm:s.size=0
  .rw[h4.2 ⟨rfl,hm⟩];exact Or.inl rfl
  .have hr2:=run_append_nil_string (P:=P) w t u ty e i (.int .u8 0) ht hu hi hz s (by omega) (by omega) (by rw[hby];omega);rw[hr2]at hr;injection hr with hv _;subst hv;exact Or.inr ⟨_,rfl,zLK _⟩
 .by_cases hroom:n+s.size<=cap
  .have hcs':cur.size=cap:=by simpa using hcs
   have hr2:=run_append_room_string (P:=P) w t u ty e i ht hu hi hsize g n cap cur hg s hroom (by omega);rw[hr2]at hr;injection hr with hv _;subst hv;exact Or.inl rfl
  .have holds:∀j u,xs[j]?=some u->w.cell? (((aD g 0):Addr).add j)=some u:=hown.cells (g:=g) rfl;have hr2:=run_append_grow_string (P:=P) w t u ty e i (.int .u8 0) ht hu hi hz (aD g 0) n cap xs (by rw[hsize];simpa using hxl) holds s (by omega) (by omega) (by rw[hby];exact growslice_fits (by omega) (by omega));rw[hr2]at hr;injection hr with hv _;subst hv;exact Or.inr ⟨_,rfl,zLK _⟩
theorem Sz(s:BA):strCells s=DU s.data.toList:=by simp[strCells,DU]
theorem BF.more{w w2:World}{tg:Tags}{o p id:Nat}{f:M.Fil}{bo ao:Option Addr}{bc cap:Nat}(h:BF w tg o p id f bo bc)(s:BA)(hg:w.grownBy w2 (Value.slice bo f.bytes.length bc).ownBlock)(ho:w2.ownsRow 0 5 1 (.slice ao (f.bytes.length+s.size) cap) (f.bytes.length+s.size) (DU f.bytes++strCells s))(hw:(Value.slice ao (f.bytes.length+s.size) cap).ownBlock=(Value.slice bo f.bytes.length bc).ownBlock\/∃g,(Value.slice ao (f.bytes.length+s.size) cap).ownBlock=some g/\w.heap.size<=g):
  BF (w2.setCell (aD p 0) (.slice ao (f.bytes.length+s.size) cap)) (tg.more w.heap.size o (4+2*id)) o p id { f with bytes:=f.bytes++s.data.toList } ao cap/\w2.cell? (aD p 0)=some (.slice bo f.bytes.length bc)/\w2.frozen? (aD p 0)=false:=by
 have zEY:∀g,(Value.slice bo f.bytes.length bc).ownBlock=some g->g≠p:=fun g hgb e=>by
  have h1:=h.tb g hgb;rw[e]at h1;exact DV h1 (by omega) h.tp
 have hpb:w2.heap[p]?=w.heap[p]?:=hg.block p h.top (fun e=>zEY p e.symm rfl);have hlen:(f.bytes++s.data.toList).length=f.bytes.length+s.size:=by rw[zLL,Array.length_toList];rfl
 have htb:∀g,(Value.slice ao (f.bytes.length+s.size) cap).ownBlock=some g->(tg.more w.heap.size o (4+2*id)) g=(o,4+2*id):=fun g hgb=>by
  rcases zLn g w.heap.size with hl|hl
  .rw[Tags.AQ hl];rcases hw with e|⟨g',e,h2⟩
   .exact h.tb g (e.symm.trans hgb)
   .rw[e]at hgb;injection hgb with hgb;omega
  .exact Tags.Ay hl
 have k0:=(zMI (a:=(aD p 0)) hpb).trans h.c0;have kf:=(zML (a:=(aD p 0)) hpb).trans (h.fr 0);refine⟨⟨by rw[hlen];exact zMJ _ _ _ k0,by rw[zMH _ _ _ _ (by simp)];exact(zMI (a:=(aD p 1)) hpb).trans h.c1,fun j=>by rw[zMK];exact(zML (a:=(aD p j)) hpb).trans (h.fr j),?_,(Tags.AQ h.top).trans h.tp,by rw[hlen];exact htb,?_⟩,k0,kf⟩
 .rw[hlen];have e:DU (f.bytes++s.data.toList)=DU f.bytes++strCells s:=by rw[Sz];simp[DU]
  rw[e];refine Ai ho (fun g hgb=>heap_setCell_other w2 (aD p 0) g _ (fun e=>?_));simp at e;have h1:=htb g hgb;rw[e,Tags.AQ h.top]at h1;exact DV h1 (by omega) h.tp
 .have:=hg.size;have:=h.top;simp;omega
theorem AJ.more{w w2:World}{tg:Tags}{o d:Nat}{D:M.Dsk}{ids ps:List Nat}(h:AJ w tg o d D ids ps){i p id:Nat}{f:M.Fil}{bo ao:Option Addr}{bc cap:Nat}(hp:ps[i]?=some p)(hid:ids[i]?=some id)(hf:D.files[i]?=some f)(hF:BF w tg o p id f bo bc)(s:BA)(hg:w.grownBy w2 (Value.slice bo f.bytes.length bc).ownBlock)(ho:w2.ownsRow 0 5 1 (.slice ao (f.bytes.length+s.size) cap) (f.bytes.length+s.size) (DU f.bytes++strCells s))(hw:(Value.slice ao (f.bytes.length+s.size) cap).ownBlock=(Value.slice bo f.bytes.length bc).ownBlock\/∃g,(Value.slice ao (f.bytes.length+s.size) cap).ownBlock=some g/\w.heap.size<=g):
  Bg tg o d ⟨D.cap,D.files.modify i (fun f=>{ f with bytes:=f.bytes++s.data.toList }),D.dead,D.Ae⟩ w (w2.setCell (aD p 0) (.slice ao (f.bytes.length+s.size) cap)):=by
 have hb:∀k,k<w.heap.size->tg k≠(o,3+2*id)->tg k≠(o,4+2*id)->(w2.setCell (aD p 0) (.slice ao (f.bytes.length+s.size) cap)).heap[k]?=w.heap[k]?:=fun k hk h1 h2=>by
  rw[heap_setCell_other w2 (aD p 0) k _ (fun e=>h1 (by simp at e;rw[e];exact hF.tp))];exact hg.block k hk (fun e=>h2 (hF.tb k e.symm))
 rw[M.EL _ hf];refine⟨tg.more w.heap.size o (4+2*id),ids,ps,fun k hk=>Tags.AQ hk,h.turn hp hid hf (by simpa using hg.size) (fun k hk=>Tags.AQ hk) hb _ rfl (hF.more s hg ho hw).1,⟨hg.os,hg.tape,hg.output,by simpa using hg.size,fun k hk hn=>hb k hk (fun e=>hn (by rw[e])) (fun e=>hn (by rw[e]))⟩⟩
theorem Bg.after{tg AR:Tags}{o d:Nat}{D':M.Dsk}{w w1 w':World}(h:Bg AR o d D' w1 w')(ho:Only o tg w w1)(ht:∀k,k<w.heap.size->AR k=tg k):Bg tg o d D' w w':=by
 obtain⟨AU,Al,ps',a1,a2,a3⟩:=h;exact⟨AU,Al,ps',fun k hk=>(a1 k (zLJ hk ho.size)).trans (ht k hk),a2,⟨a3.os.trans ho.os,a3.tape.trans ho.tape,a3.output.trans ho.output,zLV ho.size a3.size,fun k hk hn=>(a3.block k (zLJ hk ho.size) (by rw[ht k hk];exact hn)).trans (ho.block k hk hn)⟩⟩
theorem UL(tg:Tags)(o d:Nat)(D:M.Dsk)(ids ps:List Nat)(hD:D.BS)(nm s:BA)(hno:(D.chg (CZ D nm s.size)).2≠0)(w:World)(h:AJ w tg o d D ids ps):
  Calls Tryz.prog 27 #[pT d,sT nm,sT s] w fun e w'=>e=.returned (iT ((D.chg (CZ D nm s.size)).2:Nat))/\Bg tg o d (D.chg (CZ D nm s.size)).1 w w':=by
 have HG:=hU (Lp tg o d D.files ps hD.sorted hD.good.few nm w h.map);have HC:Hid _:=fun(W:World)(hW:AJ W tg o d D ids ps)=>FY tg o d D ids ps (CZ D nm s.size) hD.Ae W hW;have HA:Hid _:=fun(W:World)(hW:AJ W tg o d D ids ps)=>I7 tg o d D ids ps hD nm s.size W hW;have HD:=h_ h;obtain⟨⟨E,c⟩,hE⟩:=xe (D.chg (CZ D nm s.size));rw[hE]at HC hno⊢;simp only at HC hno⊢;have hcb:((c:Int)==0)=false:=by rw[zM9];omega
 obtain⟨ac,hac⟩:=xe (CZ D nm s.size);rw[hac]at HC HA;obtain⟨pv,hpv⟩:=xe (Ny ps (M.place D.files nm));rw[hpv]at HG;obtain⟨pb,hpb⟩:=xe ((M.place D.files nm).isSome);rw[hpb]at HG HA;go_in;go_wp2_with fail;apply(HG.out ()).mono;rintro e w1⟨rfl,q1⟩;have HA1:=hU (HA.out w1 (HD.out.kept q1));go_wp2_with fail;apply(HA1.out ()).mono;rintro e w2⟨rfl,q2⟩;have GY:=hU (HC.out w2 (HD.out.kept (q1.trans q2)));go_wp2_with fail;apply(GY.out ()).mono;rintro e w3⟨rfl,hL,hO⟩;have OB:=h_ (Bg.same hL ((Only.Be (q1.trans q2)).trans hO));go_wp2;go_ret;exact⟨rfl,OB.out⟩
theorem OA(tg:Tags)(o d:Nat)(D:M.Dsk)(ids ps:List Nat)(hD:D.BS)(nm s:BA)(i:Nat)(E:M.Dsk)(hp:M.place D.files nm=some i)(hE:D.chg (CZ D nm s.size)=(E,0))(hsz:s.size<=1048576)(w:World)(h:AJ w tg o d D ids ps):
  Calls Tryz.prog 27 #[pT d,sT nm,sT s] w fun e w'=>e=.returned (iT 0)/\Bg tg o d ⟨E.cap,E.files.modify i (fun f=>{ f with bytes:=f.bytes++s.data.toList }),E.dead,E.Ae⟩ w w':=by
 have HG:=hU (Lp tg o d D.files ps hD.sorted hD.good.few nm w h.map);have HC:Hid _:=fun(W:World)(hW:AJ W tg o d D ids ps)=>FY tg o d D ids ps (CZ D nm s.size) hD.Ae W hW;have HA:Hid _:=fun(W:World)(hW:AJ W tg o d D ids ps)=>I7 tg o d D ids ps hD nm s.size W hW;have HD:=h_ h;obtain⟨f,p,id,e1,e2,e3,e4,_⟩:=Gf h hp;have hfe:E.files=D.files:=by have:=E8 D (CZ D nm s.size);rw[hE]at this;exact this
 rw[hE]at HC;simp only at HC;obtain⟨ac,hac⟩:=xe (CZ D nm s.size);rw[hac]at HC HA;rw[hp,e4]at HG;rw[hp]at HA;have HP:Hid (ps[i]?=some p/\ids[i]?=some id/\E.files[i]?=some f):=⟨e2,e3,by rw[hfe];exact e1⟩;have hfl:f.bytes.length<=1048576:=hD.good.small (zLR e1);obtain⟨i0,hi,hz0,hz1,hz2⟩:=info_parts uG;go_in;go_wp2_with fail;apply(HG.out ()).mono;rintro e w1⟨rfl,q1⟩;have HA1:=hU (HA.out w1 (HD.out.kept q1));simp only[zLX];go_wp2_with fail;apply(HA1.out ()).mono;rintro e w2⟨rfl,q2⟩;have GY:=hU (HC.out w2 (HD.out.kept (q1.trans q2)));go_wp2_with fail;apply(GY.out ()).mono;rintro e w3⟨rfl,hL,hO⟩;obtain⟨bo,bc,hF⟩:=hL.file i p id f HP.out.1 HP.out.2.1 HP.out.2.2;have c0:=hF.c0;obtain⟨v',w4,hrun,r1,r2,r3⟩:=Qk (P:=Tryz.prog) w3 89 9 89 5 i0 Tryz.underlying89 Tryz.underlying9 hi hz0 hz1 hz2 _ _ _ hF.own s (by simp[maxLen];omega) (by omega);obtain⟨ao,cap,rfl⟩:=Ac r1;obtain⟨_,k0,kf⟩:=hF.more s r2 r1 r3;have OB:Hid _:=(hL.more HP.out.1 HP.out.2.1 HP.out.2.2 hF s r2 r1 r3).after ((Only.Be (q1.trans q2)).trans hO) (fun _ _=>rfl);generalize f.bytes.length+s.size=n2 at*;generalize f.bytes.length=n1 at*;go_wp2_with(at_builtin;refine Lib.wpList_append_run _ rfl _ _ _ _ rfl _ _ rfl rfl _ _ hrun ?_);go_ret;exact⟨rfl,OB.out⟩
theorem jX(w:World)(tg:Tags)(o id:Nat)(nm:BA)(t:TypeId):
  BF (w.alloc (.cells #[nS,iT 0] t)) (tg.more w.heap.size o (3+2*id)) o w.heap.size id ⟨nm,[],0⟩ none 0:=by
 refine⟨by simp,by simp,fun j=>by simp,World.ownsRow_nil _ _ _ _,Tags.Ay (zLK _),fun g hg=>by simp[Value.ownBlock]at hg,by simp⟩
theorem bN{fs:List M.Fil}{nm:BA}(hp:M.place fs nm=none)(s:List UInt8):(M.put fs ⟨nm,[],0⟩).modify (M.CQ fs nm) (fun f=>{ f with bytes:=f.bytes++s })=M.put fs ⟨nm,s,0⟩/\(M.put fs ⟨nm,[],0⟩)[M.CQ fs nm]?=some ⟨nm,[],0⟩:=by
 have h1:M.put fs ⟨nm,[],0⟩=Ah fs (M.CQ fs nm) ⟨nm,[],0⟩:=(M.PI (f:=⟨nm,[],0⟩) hp).1;have h2:M.put fs ⟨nm,s,0⟩=Ah fs (M.CQ fs nm) ⟨nm,s,0⟩:=(M.PI (f:=⟨nm,s,0⟩) hp).1;have hle:=M.J8 fs nm;rw[h1,h2];refine⟨?_,EM hle _⟩;rw[M.EL _ (EM hle _),jm hle];rfl
theorem RN(tg:Tags)(o d:Nat)(D:M.Dsk)(ids ps:List Nat)(hD:D.BS)(nm s:BA)(E:M.Dsk)(hp:M.place D.files nm=none)(hE:D.chg (CZ D nm s.size)=(E,0))(hsz:s.size<=1048576)(hok:M.Bh nm=true)(w:World)(h:AJ w tg o d D ids ps):
  Calls Tryz.prog 27 #[pT d,sT nm,sT s] w fun e w'=>e=.returned (iT 0)/\Bg tg o d ⟨E.cap,M.put E.files ⟨nm,s.data.toList,0⟩,E.dead,E.Ae⟩ w w':=by
 have HG:=hU (Lp tg o d D.files ps hD.sorted hD.good.few nm w h.map);have HC:Hid _:=fun(W:World)(hW:AJ W tg o d D ids ps)=>FY tg o d D ids ps (CZ D nm s.size) hD.Ae W hW;have HA:Hid _:=fun(W:World)(hW:AJ W tg o d D ids ps)=>I7 tg o d D ids ps hD nm s.size W hW;have HD:=h_ h;have hfe:E.files=D.files:=by have:=E8 D (CZ D nm s.size);rw[hE]at this;exact this
 have xw:E.BS:=by have:=hD.chg (CZ D nm s.size);rw[hE]at this;exact this
 have hpE:M.place E.files nm=none:=by rw[hfe];exact hp
 rw[hE]at HC;simp only at HC;obtain⟨ac,hac⟩:=xe (CZ D nm s.size);rw[hac]at HC HA;rw[hp]at HG HA;have hlim:nm.size<=281474976710656:=by
  unfold M.Bh at hok;simp at hok;omega
 obtain⟨i0,hi,hz0,hz1,hz2⟩:=info_parts uG;obtain⟨id,zBB⟩:=rG ids;have HX:=h_3 xw hpE zBB;clear h hE hac hp hfe xw hpE hok zBB;go_in;go_wp2_with fail;apply(HG.out ()).mono;rintro e w1⟨rfl,q1⟩;have HA1:=hU (HA.out w1 (HD.out.kept q1));simp only[Ny,zLo];clear HG HA;go_wp2_with fail;apply(HA1.out ()).mono;rintro e w2⟨rfl,q2⟩;have GY:=hU (HC.out w2 (HD.out.kept (q1.trans q2)));clear HA1 HC;go_wp2_with fail;apply(GY.out ()).mono;rintro e w3⟨rfl,hL,hO⟩;have HL:=h_ hL;have HO:=h_ ((Only.Be (q1.trans q2)).trans hO);have sw:Hid (∀W,Q (w3.alloc (.cells #[nS,iT 0] 91)) W->Calls Tryz.prog 44 #[.pointer (some (aD d 1)),sT nm,pT w3.heap.size] W fun e w'=>e=.returned (.tuple #[]) /\
   ∃AU Al ps',(∀k,k<w.heap.size->AU k=tg k)/\AJ w' AU o d ⟨E.cap,M.put E.files ⟨nm,[],0⟩,E.dead,E.Ae⟩ Al ps'/\Only o tg w w'/\Al[M.CQ E.files nm]?=some id/\ps'[M.CQ E.files nm]?=some w3.heap.size):=fun W hq=>by
  have hN:AJ (w3.alloc (.cells #[nS,iT 0] 91)) (tg.more w3.heap.size o (3+2*id)) o d E ids ps:=HL.out.keep (by simp) (fun k hk=>Tags.AQ hk) (fun k hk _=>((Below.refl _ w3).alloc (zLK _) _).block k hk);have hW:=hN.kept hq;have hFN:=jX w3 tg o id nm 91;have hFW:=hFN.keep hq.below.size (AU:=tg.more w3.heap.size o (3+2*id)) (fun _ _=>rfl) (fun k hk _=>hq.below.block k hk);apply(Ru (tg.more w3.heap.size o (3+2*id)) o d E.files ps HX.out.1.sorted HX.out.1.good.few nm w3.heap.size HX.out.2.1 W hW.map).mono;rintro e w'⟨rfl,hn⟩;obtain⟨AU,a1,a2,a3⟩:=hW.ZK hFW HX.out.2.2 HX.out.2.1 hn;have hle:=M.J8 E.files nm;have xK:w3.heap.size<=W.heap.size:=by have:=hq.below.size;simp at this;omega
  have hs1:w.heap.size<=W.heap.size:=zLV HO.out.size xK;have hblk:∀k,k<w3.heap.size->W.heap[k]?=w3.heap[k]?:=fun k hk=>(hq.below.block k (by simp;omega)).trans (((Below.refl _ w3).alloc (zLK _) _).block k hk);refine⟨rfl,AU,_,_,fun k hk=>(a1 k (zLJ hk hs1)).trans (Tags.AQ (zLJ hk HO.out.size)),a2,⟨a3.os.trans (hq.below.os.trans HO.out.os),a3.tape.trans (hq.below.tape.trans HO.out.tape),a3.output.trans (hq.below.output.trans HO.out.output),zLV hs1 a3.size,fun k hk hn=>?_⟩,EM (show M.CQ E.files nm<=ids.length by rw[HL.out.F9];exact hle) _,EM (show M.CQ E.files nm<=ps.length by have:=HL.out.map.len;simp at this;omega) _⟩;rw[a3.only.block k (zLJ hk hs1) (by rw[Tags.AQ (zLJ hk HO.out.size)];exact hn),hblk k (zLJ hk HO.out.size)];exact HO.out.block k hk hn
 have HPM:Hid _:=bN HX.out.2.1 s.data.toList;clear GY hL hO HL HO HX HD;go_upto_region 7 with fail
 go_region_held3 (fun _=>True) (exact trivial)
  (first
   |(go_at_call 40;apply(Dr nm _ hlim).mono;rintro e w6⟨rfl,b6⟩;have XK:True:=trivial)
   |(go_at_call 44;apply(sw.out w6 (((Q.refl _).drew).trans ⟨b6⟩)).mono;rintro e w7⟨rfl,xu⟩;have OB:Hid _:=xu;clear xu))
 obtain⟨tg7,xB,ps7,y1,y2,y3,y4,y5⟩:=OB.out;obtain⟨bo,bc,hF⟩:=y2.file _ _ _ _ y5 y4 HPM.out.2;have c0:=hF.c0;obtain⟨v',w8,hrun,r1,r2,r3⟩:=Qk (P:=Tryz.prog) w7 89 9 89 5 i0 Tryz.underlying89 Tryz.underlying9 hi hz0 hz1 hz2 _ _ _ hF.own s (by show 0+s.size<=maxLen;simp[maxLen];omega) (by show 0+s.size<=140737488355328;omega);obtain⟨ao,cap,rfl⟩:=Ac r1;obtain⟨_,k0,kf⟩:=hF.more s r2 r1 r3;have zCQ:Hid (Bg tg o d ⟨E.cap,M.put E.files ⟨nm,s.data.toList,0⟩,E.dead,E.Ae⟩ w (w8.setCell (aD w3.heap.size 0) (.slice ao (0+s.size) cap))):=by
  have:=(y2.more y5 y4 HPM.out.2 hF s r2 r1 r3).after y3 y1;simp only[HPM.out.1]at this;exact this
 simp only[zLW,zLk]at c0 hrun k0 zCQ;clear OB y1 y2 y3 y4 y5 hF r1 r2 r3 HPM sw;go_wp2_with(at_builtin;refine Lib.wpList_append_run _ rfl _ _ _ _ rfl _ _ rfl rfl _ _ hrun ?_);go_ret;exact⟨rfl,zCQ.out⟩
theorem NE(tg:Tags)(o d:Nat)(D:M.Dsk)(ids ps:List Nat)(hD:D.BS)(nm s:BA)(w:World)(h:AJ w tg o d D ids ps):
  Calls Tryz.prog 27 #[pT d,sT nm,sT s] w fun e w'=>e=.returned (iT ((D.append nm s.data.toList).2:Nat))/\Bg tg o d (D.append nm s.data.toList).1 w w':=by
 have hsl:s.data.toList.length=s.size:=by rw[Array.length_toList];rfl
 rw[fE,hsl];by_cases hc:(D.chg (CZ D nm s.size)).2=0
 .obtain⟨⟨E,c⟩,hE⟩:=xe (D.chg (CZ D nm s.size));have hz:=(Oa hc).1;rw[hE]at hc⊢;simp only at hc;subst hc;have hfe:E.files=D.files:=by have:=E8 D (CZ D nm s.size);rw[hE]at this;exact this
  have hok:M.Bh nm=true:=by
   cases hx:M.Bh nm
   .unfold CZ at hz;rw[if_pos hx]at hz;simp at hz
   .rfl
  have hroom:M.total D.files+s.size<=D.cap:=by
   unfold CZ at hz;rw[hok]at hz;simp only[Bool.true_eq_false,if_false]at hz;split at hz
   .simp at hz
   .rename_i hn;rcases zLn D.cap (M.total D.files+s.size)with e|e
    .exact absurd (Or.inl e) hn
    .exact e
  have hsz:s.size<=1048576:=by have:=hD.good.cap;omega
  simp only[hfe]
  cases hp:M.place D.files nm with
  |some i =>
   have:=OA tg o d D ids ps hD nm s i E hp hE hsz w h;rw[hfe]at this;exact this
  |none =>
   have:=RN tg o d D ids ps hD nm s E hp hE hsz hok w h;rw[hfe]at this;exact this
 .have:=UL tg o d D ids ps hD nm s hc w h;obtain⟨⟨E,c⟩,hE⟩:=xe (D.chg (CZ D nm s.size));rw[hE]at this hc ⊢
  cases c with
  |zero=>exact absurd rfl hc
  |succ c=>exact this
end Go.Proofs.YtekdenkllipehaaGreatDoor
namespace Go.Proofs.YtekdenkllipehaaGreatDoor
open Go.RowKit Go.Shelf
attribute [local go_sem] Oper.semAt_some
theorem NF{A B:World}{row:Option Nat}(hg:A.grownBy B row)(hr:∀r,row=some r->∃o:Obj,A.heap[r]?=some o/\o.isCells=false){k:Nat}{c:Array Value}{t:TypeId}{f:Nat×Nat}(hk:A.heap[k]?=some (.cells c t f)):B.heap[k]?=A.heap[k]?:=
 hg.block k (zLM.1 hk).1 (fun e=>by
  obtain⟨o,ho,hc⟩:=hr k e.symm;rw[hk]at ho
  cases ho
  cases hc)
structure I9(w:World)(B Bs d:Nat)(names:List BA)(ao:Option Addr)(cap:Nat)(W:World):Prop where
 box:W.heap[B]?=some (.cells #[.slice ao names.length cap] 53 (0,0))
 ptr:W.heap[Bs]?=some (.cells #[.pointer (some (aD d 1))] 87 (0,0))
 row:W.ownsRow w.heap.size 9 1 (.slice ao names.length cap) names.length (AX names)
 below:Below w.heap.size w W
theorem I9.kept{w:World}{B Bs d:Nat}{names:List BA}{ao:Option Addr}{cap:Nat}{W W':World}(h:I9 w B Bs d names ao cap W){row:Option Nat}(hg:W.grownBy W' row)(hr:∀r,row=some r->w.heap.size<=r/\∃o:Obj,W.heap[r]?=some o/\o.isCells=false):I9 w B Bs d names ao cap W':=by
 have hr2:∀r,row=some r->∃o:Obj,W.heap[r]?=some o/\o.isCells=false:=fun r e=>(hr r e).2;refine⟨(NF hg hr2 h.box).trans h.box,(NF hg hr2 h.ptr).trans h.ptr,Ai h.row (fun g hgb=>?_),h.below.grown hg h.below.size (fun k e=>(hr k e).1)⟩;obtain⟨c,hc⟩:=Im h.row g hgb;exact NF hg hr2 hc
theorem I9.push{w:World}{B Bs d:Nat}{names:List BA}{ao:Option Addr}{cap:Nat}{W w6 w7:World}(h:I9 w B Bs d names ao cap W)(nm:BA)(hB:w.heap.size<=B)(hb:Below W.heap.size W w6){Dj:Option Addr}{cap':Nat}(hg:(w6.alloc (.cells #[sT nm] 9)).grownBy w7 (Value.slice ao names.length cap).ownBlock)(ho:w7.ownsRow w.heap.size 9 1 (.slice Dj (names.length+1) cap') (names.length+1) (AX names++[sT nm])):
  w7.cell? (aD B 0)=some (.slice ao names.length cap)/\w7.frozen? (aD B 0)=false/\I9 w B Bs d (names++[nm]) Dj cap' (w7.setCell (aD B 0) (.slice Dj (names.length+1) cap')) /\
   (∀k,k<W.heap.size->k≠B->(Value.slice ao names.length cap).ownBlock≠some k->(w7.setCell (aD B 0) (.slice Dj (names.length+1) cap')).heap[k]?=W.heap[k]?)/\W.heap.size<=w7.heap.size:=by
 have hBW:B<W.heap.size:=(zLM.1 h.box).1;have xK:=hb.size;have h7:∀k,k<W.heap.size->(Value.slice ao names.length cap).ownBlock≠some k->w7.heap[k]?=W.heap[k]?:=fun k hk hn=>by
  rw[hg.block k (by simp;omega) (fun e=>hn e.symm),((Below.refl _ w6).alloc (zLK _) _).block k (by omega)];exact hb.block k hk
 have zW:(Value.slice ao names.length cap).ownBlock≠some B:=fun e=>by
  obtain⟨c,hc⟩:=Im h.row B e;rw[h.box]at hc;injection hc with hc;injection hc with _ ht;exact absurd ht (by decide)
 have hnS:(Value.slice ao names.length cap).ownBlock≠some Bs:=fun e=>by
  obtain⟨c,hc⟩:=Im h.row Bs e;rw[h.ptr]at hc;injection hc with hc;injection hc with _ ht;exact absurd ht (by decide)
 have rE:Bs≠B:=fun e=>by
  have h1:=h.ptr;rw[e,h.box]at h1;injection h1 with h1;injection h1 with _ ht;exact absurd ht (by decide)
 have uh:w7.heap[B]?=some (.cells #[.slice ao names.length cap] 53 (0,0)):=(h7 B hBW zW).trans h.box;have hs7:W.heap.size<=w7.heap.size:=by have:=hg.size;simp at this;omega
 have hlen:(names++[nm]).length=names.length+1:=by simp
 refine⟨by simp[World.cell?,uh],frozen_of_row w7 B 0 _ _ uh,⟨?_,?_,?_,?_⟩,fun k hk h1 h2=>?_,hs7⟩
 .rw[hlen];exact MP _ uh
 .rw[heap_setCell_other w7 (aD B 0) Bs _ rE];exact(h7 Bs (zLM.1 h.ptr).1 hnS).trans h.ptr
 .rw[hlen];have e:AX (names++[nm])=AX names++[sT nm]:=by simp[AX]
  rw[e];refine Ai ho (fun g hgb=>heap_setCell_other w7 (aD B 0) g _ (fun e=>?_));simp at e;obtain⟨c,hc⟩:=Im ho g hgb;rw[e,uh]at hc;injection hc with hc;injection hc with _ ht;exact absurd ht (by decide)
 .have h1:=((h.below.trans (hb.mono h.below.size)).alloc (by have:=h.below.size;omega) (.cells #[sT nm] 9)).grown hg (by have:=h.below.size;simp;omega) (Dx h.row);exact h1.setCell (p:=(aD B 0)) hB _
 .rw[heap_setCell_other w7 (aD B 0) k _ h1];exact h7 k hk h2
theorem I9.frame{w:World}{B Bs d:Nat}{names:List BA}{ao:Option Addr}{cap:Nat}{W W':World}(h:I9 w B Bs d names ao cap W)(hB:w.heap.size<=B)(hk:∀k,k<W.heap.size->k≠B->(Value.slice ao names.length cap).ownBlock≠some k->W'.heap[k]?=W.heap[k]?)(hs:W.heap.size<=W'.heap.size)(tg:Tags)(o:Nat){top:Nat}(ht:B<top):
  KeepsFrom top W W'/\Cm (Vo tg o Bs w.heap.size) W W':=by
 refine⟨⟨hs,fun k ob h1 h2 h3=>?_⟩,⟨hs,fun k hkk=>?_⟩⟩
 .rw[hk k (zLM.1 h2).1 (by omega) (fun e=>?_)]
  .exact h2
  .obtain⟨c,hc⟩:=Im h.row k e;rw[h2]at hc;injection hc with hc;subst hc
   cases h3
 .rcases hkk with rfl|⟨hlt,_⟩
  .refine hk k (zLM.1 h.ptr).1 (fun e=>?_) (fun e=>?_)
   .have h1:=h.ptr;rw[e,h.box]at h1;injection h1 with h1;injection h1 with _ ht;exact absurd ht (by decide)
   .obtain⟨c,hc⟩:=Im h.row k e;rw[h.ptr]at hc;injection hc with hc;injection hc with _ ht;exact absurd ht (by decide)
  .exact hk k (zLJ hlt h.below.size) (by omega) (fun e=>by have:=Dx h.row k e;omega)
theorem GL{F:Fence}{n:Nat}{P:Program}{ops:Array Oper}{o:Oper}{a:Act}{w:World}{K:Act->World->Prop}{Q:Exit->Act->World->Prop}{E:Prop}(hg:o.guard=none)(s x:Operand)(t:TypeId)(hop:o.op=Op.call { callee:=Callee.builtin Builtin.append,args:=#[s,x],argTypes:=#[t,t]})(v u:Value)(hs:a.eval s=v)(hx:a.eval x=u){v':Value}{w':World}(hrun:(Builtin.append_ #[t,t] o.type #[v,u]).run P w=.ok v' w')(hK:K (a.put o.dst v') w'):
  if Region.wanted o (yielded ops a.tmps)=true then Oper.wpIn F n P o a w K Q else E:=by
 have hw:Region.wanted o (yielded ops a.tmps)=true:=by simp[Region.wanted,hg]
 rw[if_pos hw];unfold Oper.wpIn;refine⟨?_,?_⟩
 .simp[Oper.about,hop,resolve,Target.leads,Sem.run_pure]
 .rw[Oper.semAt_plain F _ _ (by rw[hop];intro c hc';cases hc')];simp[execOp,hop,resolve,invoke,builtin,hs,hx,hrun,Result.andThen];exact hK
def Iq(fs:List M.Fil)(l:List (Fin fs.length)):List BA:=l.map fun x=>fs[x.1].name
theorem X5(fs:List M.Fil):Iq fs (List.finRange fs.length)=Am fs:=by
 unfold Iq Am;apply List.ext_getElem (by simp);intro i h1 h2;simp
theorem MH(tg:Tags)(o d:Nat)(D:M.Dsk)(ids ps:List Nat)(hD:D.BS)(w:World)(h:AJ w tg o d D ids ps):
  Calls Tryz.prog 25 #[pT d] w fun e w'=>∃ao cap,e=.returned (.slice ao D.names.length cap)/\K5 w D.names ao cap w':=by
 have hl:=hD.good.few;have c3:=h.c3;unfold M.Dsk.names
 cases hd:D.dead
 .rw[hd]at c3;simp only[zM8,if_false];obtain⟨PN,hPN⟩:∃PN,(D.files.map fun f=>f.name)=PN:=⟨_,rfl⟩;rw[hPN];obtain⟨i0,hi,hz0,hz1,hz2⟩:=info_parts qH;have hmk:∀W:World,(Instr.makeSlice 53 (iT 0) (iT (D.files.length:Int))).run Tryz.prog W=.ok (.slice (some (aD W.heap.size 0)) 0 D.files.length) (W.alloc (.cells (madeCells #[eS] D.files.length) 9)):=fun W=>by
   have h:=run_make (P:=Tryz.prog) W 53 9 i0 eS Tryz.underlying53 hi hz0 .i64 .i64 0 (D.files.length:Int) (by omega) (by omega) (by rw[hz2];omega) (by omega);simp only[zLp,hz1,Nat.mul_one]at h;exact h
  refine(callsIn_wide (n:=6)).1 ?_;refine callsIn_of_wp_marks Tryz.func25 rfl trivial ?_ rfl;simp only[Tryz.ntmps25,zLm,zLQ,zLW,Nat.reduceAdd,Nat.reduceSub,zLj,zLi,zLs,zLl,zLb,zLd]
  gi_wp2_with (first
   |(refine⟨trivial,?_⟩;gi_at_call 39;apply(callsIn_wide.2 (uD tg o d D.files ps w h.map)).mono;rintro e w'⟨rfl,hw'⟩;have hw2:=hw'.symm;subst hw2)
   |(refine⟨trivial,?_⟩;gi_at_call 22;apply(all_in _ _ _).mono;rintro e w'⟨rfl,rfl⟩))
  obtain⟨wl,hwl⟩:=ex (((w.alloc (.cells (madeCells #[eS] D.files.length) 9)).alloc (.cells #[.slice (some (aD w.heap.size 0)) 0 D.files.length] 53)).alloc (.cells #[.pointer (some (aD d 1))] 87));have hsl:wl.heap.size=w.heap.size+1+1+1:=by rw[hwl];simp
  have hQ:Q w wl:=by rw[hwl];exact(((Q.refl w).alloc _ _).alloc _ _).alloc _ _
  have hb0:wl.heap[w.heap.size]?=some (.cells (madeCells #[eS] D.files.length) 9 (0,0)):=by
   have h1:(w.alloc (.cells (madeCells #[eS] D.files.length) 9)).heap[w.heap.size]?=_:=heap_alloc_new w _;have h2:=((Below.refl _ (w.alloc (.cells (madeCells #[eS] D.files.length) 9))).alloc (zLK _) (.cells #[.slice (some (aD w.heap.size 0)) 0 D.files.length] 53)).alloc (by simp) (.cells #[.pointer (some (aD d 1))] 87);rw[hwl,h2.block w.heap.size (by simp)];exact h1
  have hb1:wl.heap[w.heap.size+1]?=some (.cells #[.slice (some (aD w.heap.size 0)) 0 D.files.length] 53 (0,0)):=by
   have h1:=heap_alloc_new (w.alloc (.cells (madeCells #[eS] D.files.length) 9)) (.cells #[.slice (some (aD w.heap.size 0)) 0 D.files.length] 53);rw[zMM]at h1;have h2:=(Below.refl _ ((w.alloc (.cells (madeCells #[eS] D.files.length) 9)).alloc (.cells #[.slice (some (aD w.heap.size 0)) 0 D.files.length] 53))).alloc (zLK _) (.cells #[.pointer (some (aD d 1))] 87);rw[hwl,h2.block (w.heap.size+1) (by simp)];exact h1
  have hb2:wl.heap[w.heap.size+1+1]?=some (.cells #[.pointer (some (aD d 1))] 87 (0,0)):=by
   have h1:=heap_alloc_new ((w.alloc (.cells (madeCells #[eS] D.files.length) 9)).alloc (.cells #[.slice (some (aD w.heap.size 0)) 0 D.files.length] 53)) (.cells #[.pointer (some (aD d 1))] 87);rw[zMM,zMM]at h1;rw[hwl];exact h1
  rw[<-hwl];refine wpIn_rangeFunc_ownG rfl (by decide) (gf:=38) (lb:=#[pT (w.heap.size+1+1)]) (by simp[Act.eval]) trivial (enters_of Tryz.func38 (by kernel_rfl) rfl)
   (all_stops tg o d D.files ps hl 5 (by decide) (w.heap.size+1+1) w wl h.map hQ (by simp[World.cell?,hb2]) (by omega)) (fun h k=>Cm.trans h k) (Cm.put (fun k hk=>hk.elim (fun e=>by omega) (fun e=>by have:=e.1;omega))) (Below.refl _ _) (fun _=>rfl)
   (fun pre W=>∃ao cap,I9 w (w.heap.size+1) (w.heap.size+1+1) d (Iq D.files pre) ao cap W)
   (fun _ _ _=>False) ?hI (fun _ _ _ _ _ hs _ _=>hs) ?h0
   (fun x=>{ tmps:=#[pT d,undef,nS,pT (w.heap.size+1),sT D.files[x.1].name,pT d,pT d,.pointer (some (aD d 3)),.bool false,pT d,pT d,.pointer (some (aD d 1)),iT (D.files.length:Nat),.slice (some (aD w.heap.size 0)) 0 D.files.length,pT d,pT d,.pointer (some (aD d 1)),.func (.func 38) #[] #[pT (w.heap.size+1+1)],sT D.files[x.1].name,.pointer (some ⟨ps[x.1]?.getD 0,0,none⟩),undef,undef,undef,undef,undef,undef],defers:=[]}) ?assign ?body ?done ?stop
  case hI =>
   rintro pre A B row⟨ao,cap,hs⟩hg hr;exact⟨ao,cap,hs.kept hg (fun r e=>⟨by have:=(hr r e).1;omega,(hr r e).2⟩)⟩
  case h0 =>
   refine⟨some (aD w.heap.size 0),D.files.length,hb1,hb2,⟨rfl,Or.inr ⟨w.heap.size,D.files.length,_,rfl,zLK _,hb0,zLS _,by simp[maxLen];omega,?_,rfl⟩⟩,hQ.below⟩;rw[size_madeCells];simp
  case assign =>
   intro l x W K hK;simp only[mapEntry];gi_wp2;exact hK
  case body =>
   (((((((rintro l pre x W⟨ao,cap,hN⟩hlen;have hnl:(Iq D.files pre).length<64:=by simp[Iq];omega);have hnm:=hD.good.name _ (List.getElem_mem x.2);have hlim:D.files[x.1].name.size<=281474976710656:=by unfold M.Bh at hnm;simp at hnm;omega);have hNP:Iq D.files (pre++[x])=Iq D.files pre++[D.files[x.1].name]:=by simp[Iq]);obtain⟨nm,zB0⟩:=xe (D.files[x.1].name);obtain⟨P,hP⟩:=xe (Iq D.files pre);rw[hP]at hN hnl hNP;rw[zB0]at hNP hlim⊢;have HNP:Hid _:=hNP;have HN:Hid _:=hN;have k1:W.cell? (aD (w.heap.size+1) 0)=some (.slice ao P.length cap):=by simp[World.cell?,hN.box]);have hBW:w.heap.size+1<W.heap.size:=(zLM.1 hN.box).1;have hmx:Tryz.prog.follows .mixedOrders=true:=by kernel_rfl);gi_wp2;refine wpIn_region_any (by assumption) ?_);try(change wpAnyIn _ _ _ _ _ _ _ _ _ (World.drew _)));refine wpAnyIn_ready (rs:=[0,1]) (by kernel_rfl) (by simp) ?_;refine AllReadyIn.cons rfl (fun K hK=>?_) ?_
   .go_simp;refine hK _ _ ?_;refine wpAnyIn_ready (rs:=[1]) (by kernel_rfl) (by simp) ?_;refine AllReadyIn.cons rfl (fun K hK=>?_) ?_
    .go_simp;refine hK _ _ ?_;refine wpAnyIn_ready (rs:=[2]) (by kernel_rfl) (by simp) ?_;refine AllReadyIn.cons rfl (fun K hK=>?_) ?_
     .go_simp
      gi_wp2_with (refine⟨trivial,?_⟩;gi_at_call 40;apply(CallsIn.inRound l (callsIn_wide.2 (Dr nm _ hlim))).mono;rintro e w6⟨rfl,b6⟩;have b7:Below W.heap.size W w6:=((Below.refl _ W).drew).trans b6;have k6:=(b7.cell (p:=(aD (w.heap.size+1) 0)) hBW).trans k1;have ku:w.heap.size+1<w6.heap.size:=zLJ hBW b7.size;obtain⟨v',w7,hrun,r1,r2,_⟩:=run_append_own (P:=Tryz.prog) (w6.alloc (.cells #[sT nm] 9)) w.heap.size 53 53 9 i0 eS 1 16 Tryz.underlying53 hi hz0 hz1 hz2 rfl (by decide) (.slice ao P.length cap) P.length (AX P) ((own_below HN.out.row b7).alloc _) (aD w6.heap.size 0) 1 1 [sT nm] rfl (one_cell w6 (sT nm) 9) (by intro u hu;simp at hu;subst hu;rfl) (by simp[maxLen];omega) (by omega) (by simp;omega);obtain⟨Dj,cap',rfl⟩:=Ac r1;obtain⟨m1,m2,m3,m4,m5⟩:=HN.out.push nm (by omega) b7 r2 r1;have HM:Hid _:=And.intro m3 (And.intro m4 m5))
      (try(refine hK _ _ ?_));refine wpAnyIn_ready (rs:=[3]) (by kernel_rfl) (by simp) ?_;refine AllReadyIn.cons rfl (fun K hK=>?_) ?_
      .go_simp;refine hK _ _ ?_;refine wpAnyIn_ready (rs:=[4]) (by kernel_rfl) (by simp) ?_;refine AllReadyIn.cons rfl (fun K hK=>?_) ?_
       ·((refine GL rfl (.tmp 20) (.tmp 23) 53 rfl (.slice ao P.length cap) (.slice (some (aD w6.heap.size 0)) 1 1) (by simp[Act.eval]) (by simp[Act.eval]) hrun ?_;refine hK _ _ ?_);try simp only[Act.put,nrm]);refine wpAnyIn_ready (rs:=[5]) (by kernel_rfl) (by simp) ?_;refine AllReadyIn.cons rfl (fun K hK=>?_) ?_
        .go_simp;refine hK _ _ ?_;refine wpAnyIn_done (by kernel_rfl) ?_ _;gi_wp2;exact⟨(HN.out.frame (by omega) HM.out.2.1 (by have:=HM.out.2.2;simp;omega) tg o (by omega)).1,(HN.out.frame (by omega) HM.out.2.1 (by have:=HM.out.2.2;simp;omega) tg o (by omega)).2,Dj,cap',by rw[HNP.out];exact HM.out.1⟩
        exact AllReadyIn.nil
       exact AllReadyIn.nil
      exact AllReadyIn.nil
     exact AllReadyIn.nil
    exact AllReadyIn.nil
   refine AllReadyIn.cons rfl (fun K hK=>?_) ?_
   .go_simp;refine hK _ _ ?_;refine wpAnyIn_ready (rs:=[0,2]) (by kernel_rfl) (by simp) ?_;refine AllReadyIn.cons rfl (fun K hK=>?_) ?_
    .go_simp;refine hK _ _ ?_;refine wpAnyIn_ready (rs:=[2]) (by kernel_rfl) (by simp) ?_;refine AllReadyIn.cons rfl (fun K hK=>?_) ?_
     .go_simp
      gi_wp2_with (refine⟨trivial,?_⟩;gi_at_call 40;apply(CallsIn.inRound l (callsIn_wide.2 (Dr nm _ hlim))).mono;rintro e w6⟨rfl,b6⟩;have b7:Below W.heap.size W w6:=((Below.refl _ W).drew).trans b6;have k6:=(b7.cell (p:=(aD (w.heap.size+1) 0)) hBW).trans k1;have ku:w.heap.size+1<w6.heap.size:=zLJ hBW b7.size;obtain⟨v',w7,hrun,r1,r2,_⟩:=run_append_own (P:=Tryz.prog) (w6.alloc (.cells #[sT nm] 9)) w.heap.size 53 53 9 i0 eS 1 16 Tryz.underlying53 hi hz0 hz1 hz2 rfl (by decide) (.slice ao P.length cap) P.length (AX P) ((own_below HN.out.row b7).alloc _) (aD w6.heap.size 0) 1 1 [sT nm] rfl (one_cell w6 (sT nm) 9) (by intro u hu;simp at hu;subst hu;rfl) (by simp[maxLen];omega) (by omega) (by simp;omega);obtain⟨Dj,cap',rfl⟩:=Ac r1;obtain⟨m1,m2,m3,m4,m5⟩:=HN.out.push nm (by omega) b7 r2 r1;have HM:Hid _:=And.intro m3 (And.intro m4 m5))
      (try(refine hK _ _ ?_));refine wpAnyIn_ready (rs:=[3]) (by kernel_rfl) (by simp) ?_;refine AllReadyIn.cons rfl (fun K hK=>?_) ?_
      .go_simp;refine hK _ _ ?_;refine wpAnyIn_ready (rs:=[4]) (by kernel_rfl) (by simp) ?_;refine AllReadyIn.cons rfl (fun K hK=>?_) ?_
       ·((refine GL rfl (.tmp 20) (.tmp 23) 53 rfl (.slice ao P.length cap) (.slice (some (aD w6.heap.size 0)) 1 1) (by simp[Act.eval]) (by simp[Act.eval]) hrun ?_;refine hK _ _ ?_);try simp only[Act.put,nrm]);refine wpAnyIn_ready (rs:=[5]) (by kernel_rfl) (by simp) ?_;refine AllReadyIn.cons rfl (fun K hK=>?_) ?_
        .go_simp;refine hK _ _ ?_;refine wpAnyIn_done (by kernel_rfl) ?_ _;gi_wp2;exact⟨(HN.out.frame (by omega) HM.out.2.1 (by have:=HM.out.2.2;simp;omega) tg o (by omega)).1,(HN.out.frame (by omega) HM.out.2.1 (by have:=HM.out.2.2;simp;omega) tg o (by omega)).2,Dj,cap',by rw[HNP.out];exact HM.out.1⟩
        exact AllReadyIn.nil
       exact AllReadyIn.nil
      exact AllReadyIn.nil
     exact AllReadyIn.nil
    refine AllReadyIn.cons rfl (fun K hK=>?_) ?_
    .go_simp
     gi_wp2_with (refine⟨trivial,?_⟩;gi_at_call 40;apply(CallsIn.inRound l (callsIn_wide.2 (Dr nm _ hlim))).mono;rintro e w6⟨rfl,b6⟩;have b7:Below W.heap.size W w6:=((Below.refl _ W).drew).trans b6;have k6:=(b7.cell (p:=(aD (w.heap.size+1) 0)) hBW).trans k1;have ku:w.heap.size+1<w6.heap.size:=zLJ hBW b7.size;obtain⟨v',w7,hrun,r1,r2,_⟩:=run_append_own (P:=Tryz.prog) (w6.alloc (.cells #[sT nm] 9)) w.heap.size 53 53 9 i0 eS 1 16 Tryz.underlying53 hi hz0 hz1 hz2 rfl (by decide) (.slice ao P.length cap) P.length (AX P) ((own_below HN.out.row b7).alloc _) (aD w6.heap.size 0) 1 1 [sT nm] rfl (one_cell w6 (sT nm) 9) (by intro u hu;simp at hu;subst hu;rfl) (by simp[maxLen];omega) (by omega) (by simp;omega);obtain⟨Dj,cap',rfl⟩:=Ac r1;obtain⟨m1,m2,m3,m4,m5⟩:=HN.out.push nm (by omega) b7 r2 r1;have HM:Hid _:=And.intro m3 (And.intro m4 m5))
     (try(refine hK _ _ ?_));refine wpAnyIn_ready (rs:=[0,3]) (by kernel_rfl) (by simp) ?_;refine AllReadyIn.cons rfl (fun K hK=>?_) ?_
     .go_simp;refine hK _ _ ?_;refine wpAnyIn_ready (rs:=[3]) (by kernel_rfl) (by simp) ?_;refine AllReadyIn.cons rfl (fun K hK=>?_) ?_
      .go_simp;refine hK _ _ ?_;refine wpAnyIn_ready (rs:=[4]) (by kernel_rfl) (by simp) ?_;refine AllReadyIn.cons rfl (fun K hK=>?_) ?_
       ·((refine GL rfl (.tmp 20) (.tmp 23) 53 rfl (.slice ao P.length cap) (.slice (some (aD w6.heap.size 0)) 1 1) (by simp[Act.eval]) (by simp[Act.eval]) hrun ?_;refine hK _ _ ?_);try simp only[Act.put,nrm]);refine wpAnyIn_ready (rs:=[5]) (by kernel_rfl) (by simp) ?_;refine AllReadyIn.cons rfl (fun K hK=>?_) ?_
        .go_simp;refine hK _ _ ?_;refine wpAnyIn_done (by kernel_rfl) ?_ _;gi_wp2;exact⟨(HN.out.frame (by omega) HM.out.2.1 (by have:=HM.out.2.2;simp;omega) tg o (by omega)).1,(HN.out.frame (by omega) HM.out.2.1 (by have:=HM.out.2.2;simp;omega) tg o (by omega)).2,Dj,cap',by rw[HNP.out];exact HM.out.1⟩
        exact AllReadyIn.nil
       exact AllReadyIn.nil
      exact AllReadyIn.nil
     refine AllReadyIn.cons rfl (fun K hK=>?_) ?_
     .go_simp;refine hK _ _ ?_;refine wpAnyIn_ready (rs:=[0]) (by kernel_rfl) (by simp) ?_;refine AllReadyIn.cons rfl (fun K hK=>?_) ?_
      .go_simp;refine hK _ _ ?_;refine wpAnyIn_ready (rs:=[4]) (by kernel_rfl) (by simp) ?_;refine AllReadyIn.cons rfl (fun K hK=>?_) ?_
       ·((refine GL rfl (.tmp 20) (.tmp 23) 53 rfl (.slice ao P.length cap) (.slice (some (aD w6.heap.size 0)) 1 1) (by simp[Act.eval]) (by simp[Act.eval]) hrun ?_;refine hK _ _ ?_);try simp only[Act.put,nrm]);refine wpAnyIn_ready (rs:=[5]) (by kernel_rfl) (by simp) ?_;refine AllReadyIn.cons rfl (fun K hK=>?_) ?_
        .go_simp;refine hK _ _ ?_;refine wpAnyIn_done (by kernel_rfl) ?_ _;gi_wp2;exact⟨(HN.out.frame (by omega) HM.out.2.1 (by have:=HM.out.2.2;simp;omega) tg o (by omega)).1,(HN.out.frame (by omega) HM.out.2.1 (by have:=HM.out.2.2;simp;omega) tg o (by omega)).2,Dj,cap',by rw[HNP.out];exact HM.out.1⟩
        exact AllReadyIn.nil
       exact AllReadyIn.nil
      exact AllReadyIn.nil
     exact AllReadyIn.nil
    exact AllReadyIn.nil
   exact AllReadyIn.nil
  case done =>
   (rintro E ys W hE rfl⟨ao,cap,hN⟩hK;rw[X5]at hN;have k1:W.cell? (aD (w.heap.size+1) 0)=some (.slice ao (Am D.files).length cap):=by simp[World.cell?,hN.box]);have HN:Hid _:=hN;have hP:Am D.files=PN:=hPN;rw[hP]at k1 HN;gi_wp2;refine⟨by simp,.inl ⟨_,_,rfl,run_takeDeferred hK,?_⟩⟩;exact⟨_,results_tmp rfl _ _ _,ao,cap,rfl,⟨HN.out.below.trans (belowK_b (w:=w) (zLK _) W E _ _ (by omega) hK rfl rfl),ownsRow_putObj HN.out.row _ hK rfl⟩⟩
  case stop =>
   rintro D c pre W _ _ h _;exact h.elim
 .rw[hd]at c3;simp only[if_true];have hS:=K5.start w;have HS:Hid _:=hS;go_in;go_wp2;go_ret;exact⟨none,0,rfl,HS.out⟩
end Go.Proofs.YtekdenkllipehaaGreatDoor
namespace Go.Proofs.YtekdenkllipehaaGreatDoor
open Go.RowKit
def Lc(keep:Int)(loose:Nat):Nat:=if 0<keep then keep.toNat%(loose+1)else 0
def DY(keep:Int)(f:M.Fil):M.Fil:=⟨f.name,f.bytes.take (f.synced+Lc keep (f.bytes.length-f.synced)),f.synced+Lc keep (f.bytes.length-f.synced)⟩
theorem VH(keep:Int)(loose:Nat):Lc keep loose<=loose:=by
 unfold Lc;split
 .have:=Nat.mod_lt keep.toNat (show 0<loose+1 by omega);omega
 .omega
theorem aW(keep:Int)(loose:Nat):(max keep 0).tmod ((loose:Int)+1)=(Lc keep loose:Nat):=by
 unfold Lc;split
 .rename_i h;obtain⟨k,rfl⟩:=Int.eq_ofNat_of_zero_le (show 0<=keep by omega);rw[Int.max_eq_left (by omega)];simp only[zLp];rfl
 .rw[Int.max_eq_right (by omega)];simp
theorem BF.cut{w:World}{tg:Tags}{o p id:Nat}{f:M.Fil}{bo:Option Addr}{bc:Nat}(h:BF w tg o p id f bo bc)(n:Nat)(hn:n<=f.bytes.length):
  BF ((w.setCell (aD p 1) (iT (n:Int))).setCell (aD p 0) (.slice bo n bc)) tg o p id ⟨f.name,f.bytes.take n,n⟩ bo bc:=by
 have hlen:(f.bytes.take n).length=n:=by simp;omega
 have htb:∀g,(Value.slice bo n bc).ownBlock=some g->tg g=(o,4+2*id):=fun g hg=>h.tb g (by cases bo with|none=>simp[Value.ownBlock]at hg|some a=>exact hg);refine⟨by rw[hlen];exact zMJ _ _ _ (by rw[zMH _ _ _ _ (by simp)];exact h.c0),by rw[zMH _ _ _ _ (by simp)];exact zMJ _ _ _ h.c1,fun j=>by rw[zMK,zMK];exact h.fr j,?_,h.tp,by rw[hlen];exact htb,by simpa using h.top⟩;rw[hlen];have hrow:w.ownsRow 0 5 1 (.slice bo n bc) n (DU (f.bytes.take n)):=by
  refine⟨by simp[DU];omega,?_⟩;rcases h.own.2 with⟨hv,h0⟩|⟨g,c,cur,hv,hg,hh,h1,h2,h3,h4⟩
  .injection hv with e1 e2 e3;subst e1 e3;have:n=0:=by omega
   subst this;exact Or.inl ⟨rfl,rfl⟩
  .injection hv with e1 e2 e3;subst e1 e3;refine Or.inr ⟨g,bc,cur,rfl,hg,hh,by omega,h2,h3,?_⟩;rw[Nat.mul_one]at h4⊢;have:cur.toList.take n=(cur.toList.take f.bytes.length).take n:=by rw[List.take_take,Nat.min_eq_left hn]
   rw[this,h4];simp[DU,List.map_take]
 refine Ai hrow (fun g hg=>?_);have hne:g≠p:=fun e=>by have h1:=htb g hg;rw[e]at h1;exact DV h1 (by omega) h.tp
 rw[heap_setCell_other _ (aD p 0) g _ hne,heap_setCell_other _ (aD p 1) g _ hne]
theorem BF.uP{w w':World}{tg:Tags}{o p id:Nat}{f:M.Fil}{bo:Option Addr}{bc:Nat}(h:BF w tg o p id f bo bc)(e:w'.heap=w.heap):BF w' tg o p id f bo bc:=
 h.keep (by rw[e];exact zLK _) (fun _ _=>rfl) (fun k _ _=>by rw[e])
theorem dV{w a b:World}{row:Option Nat}(h:w.grownBy a row)(e:b.heap=a.heap)(e1:b.os=a.os)(e2:b.tape=a.tape)(e3:b.output=a.output):w.grownBy b row:=
 ⟨e1.trans h.os,e2.trans h.tape,e3.trans h.output,by rw[e];exact h.size,fun k hk hn=>by rw[e];exact h.block k hk hn⟩
theorem lS(tg:Tags)(o p id:Nat)(f:M.Fil)(bo:Option Addr)(bc:Nat)(keep:Int)(hs:f.synced<=f.bytes.length)(hl:f.bytes.length<=1048576)(w:World)(h:BF w tg o p id f bo bc):
  Calls Tryz.prog 23 #[pT p,iT keep] w fun e w'=>e=.returned (.tuple #[])/\BF w' tg o p id (DY keep f) bo bc/\w.grownBy w' (some p):=by
 obtain⟨loose,hlo⟩:=xe (f.bytes.length-f.synced);obtain⟨st,hst⟩:=xe (Lc keep loose);have hle:=VH keep loose;have hti:=aW keep loose;rw[hst]at hle hti;have HF:Hid _:=h.cut (f.synced+st) (by omega);have HG:Hid (w.grownBy ((w.setCell (aD p 1) (iT ((f.synced+st:Nat):Int))).setCell (aD p 0) (.slice bo (f.synced+st) bc)) (some p)):=⟨rfl,rfl,rfl,by simp,fun k _ hn=>by
  have hne:k≠p:=fun e=>hn (by rw[e]);rw[heap_setCell_other _ (aD p 0) k _ hne,heap_setCell_other _ (aD p 1) k _ hne]⟩
 have c0:=h.c0;have c1:=h.c1;have f0:=h.fr 0;have f1:=h.fr 1;have hcr:DY keep f=⟨f.name,f.bytes.take (f.synced+st),f.synced+st⟩:=by unfold DY;rw[hlo,hst]
 rw[hcr];have hcap:f.synced+st<=bc:=by
  rcases h.own.2 with⟨hv,h0⟩|⟨g,c,cur,hv,_,_,hc,_⟩
  .omega
  .injection hv with _ _ e3;omega
 clear h hcr;generalize f.bytes.length=len at*;generalize f.synced=sy at*;have w1:IntKind.i64.wrap ((len:Int)-(sy:Int))=(loose:Int):=by rw[IntKind.wrap_i64];omega
 have w2:IntKind.i64.wrap ((loose:Int)+1)=(loose:Int)+1:=by rw[IntKind.wrap_i64];omega
 have w3:IntKind.i64.wrap ((sy:Int)+(st:Int))=((sy+st:Nat):Int):=by rw[IntKind.wrap_i64];omega
 clear hlo hst hle hs hl;go_in;go_wp2_with fail;go_quiet (fail);go_wp2_with fail
 go_region
 go_wp2_with fail
 go_region
 all_goals(go_wp2_with fail)
 all_goals go_end0
 all_goals exact⟨rfl,HF.out.uP rfl,dV HG.out rfl rfl rfl rfl⟩
end Go.Proofs.YtekdenkllipehaaGreatDoor
namespace Go.Proofs.YtekdenkllipehaaGreatDoor
open Go.RowKit Go.Shelf
attribute [local go_sem] Oper.semAt_some
def FZ(ks:List Int)(pre:List Nat)(fs:List M.Fil):List M.Fil:=pre.zipIdx.foldl (fun l x=>l.modify x.1 (DY (ks.getD x.2 0))) fs
theorem Nr(ks:List Int)(pre:List Nat)(x:Nat)(fs:List M.Fil):FZ ks (pre++[x]) fs=(FZ ks pre fs).modify x (DY (ks.getD pre.length 0)):=by
 simp[FZ,List.zipIdx_append]
theorem Qb(ks:List Int)(fs:List M.Fil):∀n k,(FZ ks (List.range n) fs)[k]?=if k<n then(fs[k]?).map (DY (ks.getD k 0))else fs[k]?
 |0,k=>by simp[FZ]
 |n+1,k=>by
  rw[List.range_succ,Nr,List.getElem?_modify,Qb ks fs n k,List.length_range];by_cases h1:k<n
  .have h2:¬n=k:=by omega
   rw[if_pos h1,if_pos (show k<n+1 by omega)]
   cases fs[k]? with
   |none=>rfl
   |some g=>simp[h2]
  .by_cases h2:k=n
   .subst h2;rw[if_neg h1,if_pos (show k<k+1 by omega)]
    cases fs[k]? with
    |none=>rfl
    |some g=>simp
   ·(have h3:¬n=k:=by omega);rw[if_neg h1,if_neg (show¬k<n+1 by omega)]
    cases fs[k]? with
    |none=>rfl
    |some g=>simp[h3]
theorem UD(n:Nat):((List.finRange n).map fun x=>x.1)=List.range n:=by
 apply List.ext_getElem (by simp);intro i h1 h2;simp
theorem eP(ks:List Int)(i:Nat)(f:M.Fil):M.Cj ks i f=DY (ks.getD i 0) f:=by
 have hst:∀l,M.stay ks i l=Lc (ks.getD i 0) l:=fun l=>by
  unfold M.stay Lc;rw[List.getD_eq_getElem?_getD]
  cases ks[i]? with
  |none=>simp
  |some k=>rfl
 unfold M.Cj DY;rw[hst]
theorem Yj(ks:List Int)(fs:List M.Fil):FZ ks (List.range fs.length) fs=fs.mapIdx (M.Cj ks):=by
 apply List.ext_getElem?;intro k;rw[Qb,List.getElem?_mapIdx];by_cases h:k<fs.length
 .rw[if_pos h,zLH h];simp[eP]
 .rw[if_neg h,zMC (Nat.le_of_not_lt h)];rfl
theorem WX(ks:List Int){fs:List M.Fil}(hs:∀f∈fs,f.synced<=f.bytes.length/\f.bytes.length<=1048576)(pre:List Nat):(FZ ks pre fs).length=fs.length/\∀f∈FZ ks pre fs,f.synced<=f.bytes.length/\f.bytes.length<=1048576:=by
 unfold FZ;generalize pre.zipIdx=l
 induction l generalizing fs with
 |nil=>exact⟨rfl,hs⟩
 |cons x l ih =>
  have h1:=ih (fs:=fs.modify x.1 (DY (ks.getD x.2 0))) (fun f hf=>by
   obtain⟨i,hi⟩:=List.getElem?_of_mem hf;rw[List.getElem?_modify]at hi
   cases hx:fs[i]? with
   |none=>rw[hx]at hi;simp at hi
   |some g =>
    rw[hx]at hi;have hg:=hs g (zLR hx);have hst:=VH (ks.getD x.2 0) (g.bytes.length-g.synced);simp only[Option.map_eq_map,zM1,zLO]at hi;split at hi
    .subst hi;simp only[DY,zM6];omega
    .subst hi;exact hg)
  simp only[List.foldl_cons];exact⟨h1.1.trans (by simp),h1.2⟩
structure JA(w:World)(tg:Tags)(o d:Nat)(D:M.Dsk)(ids ps:List Nat)(ks:List Int)(kv:Value)(pre:List Nat)(W:World):Prop where
 disk:AJ W (tg.more w.heap.size (o+1) 0) o d ⟨D.cap,FZ ks pre D.files,D.dead,D.Ae⟩ ids ps
 bk:W.heap[w.heap.size]?=some (.cells #[kv] 30 (0,0))
 bi:W.heap[w.heap.size+1]?=some (.cells #[iT (pre.length:Nat)] 3 (0,0))
 only:Only o tg w W
 bs:w.heap.size+1+1<W.heap.size
theorem Only.grown{o:Nat}{tg:Tags}{w W W':World}(h:Only o tg w W){row:Option Nat}(hg:W.grownBy W' row)(hr:∀r,row=some r->w.heap.size<=r):Only o tg w W':=
 ⟨hg.os.trans h.os,hg.tape.trans h.tape,hg.output.trans h.output,zLV h.size hg.size,fun k hk hn=>(hg.block k (zLJ hk h.size) (fun e=>by have:=hr k e.symm;omega)).trans (h.block k hk hn)⟩
theorem JA.kept{w:World}{tg:Tags}{o d:Nat}{D:M.Dsk}{ids ps:List Nat}{ks:List Int}{kv:Value}{pre:List Nat}{W W':World}(h:JA w tg o d D ids ps ks kv pre W){row:Option Nat}(hg:W.grownBy W' row)(hr:∀r,row=some r->w.heap.size+1<r):JA w tg o d D ids ps ks kv pre W':=by
 refine⟨h.disk.keep hg.size (fun _ _=>rfl) (fun k hk e=>hg.block k hk (fun er=>?_)),(hg.block _ (zLM.1 h.bk).1 (fun e=>by have:=hr _ e.symm;omega)).trans h.bk,(hg.block _ (zLM.1 h.bi).1 (fun e=>by have:=hr _ e.symm;omega)).trans h.bi,h.only.grown hg (fun r e=>by have:=hr r e;omega),zLJ h.bs hg.size⟩;have:=hr k er.symm;rw[Tags.Ay (by omega)]at e;simp at e
theorem JA.next{w:World}{tg:Tags}{o d:Nat}{D:M.Dsk}{ids ps:List Nat}{ks:List Int}{kv:Value}{pre:List Nat}{W w4:World}(h:JA w tg o d D ids ps ks kv pre W){x p id:Nat}{f:M.Fil}{bo:Option Addr}{bc:Nat}(hp:ps[x]?=some p)(hid:ids[x]?=some id)(hf:(FZ ks pre D.files)[x]?=some f)(hpw:p<w.heap.size)(htp:tg p=(o,3+2*id))(hF:BF w4 (tg.more w.heap.size (o+1) 0) o p id (DY (ks.getD pre.length 0) f) bo bc)(hg:W.grownBy w4 (some p)):
  JA w tg o d D ids ps ks kv (pre++[x]) (w4.setCell (aD (w.heap.size+1) 0) (iT ((pre.length+1:Nat):Int)))/\KeepsFrom (w.heap.size+1+1+1) W (w4.setCell (aD (w.heap.size+1) 0) (iT ((pre.length+1:Nat):Int))) /\
   Cm (Vo tg o (w.heap.size+1+1) w.heap.size) W (w4.setCell (aD (w.heap.size+1) 0) (iT ((pre.length+1:Nat):Int)))/\w4.cell? (aD (w.heap.size+1) 0)=some (iT (pre.length:Nat))/\w4.frozen? (aD (w.heap.size+1) 0)=false:=by
 have hblk:∀k,k<W.heap.size->k≠p->w4.heap[k]?=W.heap[k]?:=fun k hk hn=>hg.block k hk (fun e=>hn (by injection e));have xV:w4.heap[w.heap.size+1]?=some (.cells #[iT (pre.length:Nat)] 3 (0,0)):=(hblk _ (zLM.1 h.bi).1 (by omega)).trans h.bi;have zEs:w4.heap[w.heap.size]?=some (.cells #[kv] 30 (0,0)):=(hblk _ (zLM.1 h.bk).1 (by omega)).trans h.bk;have zER:(tg.more w.heap.size (o+1) 0) p=(o,3+2*id):=(Tags.AQ hpw).trans htp;have hne:∀k,k≠w.heap.size+1->(w4.setCell (aD (w.heap.size+1) 0) (iT ((pre.length+1:Nat):Int))).heap[k]?=w4.heap[k]?:=fun k hk=>heap_setCell_other w4 (aD (w.heap.size+1) 0) k _ hk;have hs:W.heap.size<=(w4.setCell (aD (w.heap.size+1) 0) (iT ((pre.length+1:Nat):Int))).heap.size:=by simpa using hg.size
 refine⟨⟨?_,?_,?_,?_,zLJ h.bs hs⟩,⟨hs,fun k ob h1 h2 h3=>?_⟩,⟨hs,fun k hk=>?_⟩,by simp[World.cell?,xV],frozen_of_row w4 _ 0 _ _ xV⟩
 .have t1:=h.disk.turn (w':=w4) (AU:=tg.more w.heap.size (o+1) 0) hp hid hf hg.size (fun _ _=>rfl) (fun k hk h1 _=>hblk k hk (fun e=>h1 (by rw[e];exact zER))) (DY (ks.getD pre.length 0) f) rfl hF;rw[Nr,M.EL _ hf];refine t1.keep (by simp) (fun _ _=>rfl) (fun k _ e=>hne k (fun er=>?_));subst er;rw[Tags.Ay (by omega)]at e;simp at e
 .rw[hne _ (by omega)];exact zEs
 .rw[zLL];exact MP _ xV
 .exact⟨hg.os.trans h.only.os,hg.tape.trans h.only.tape,hg.output.trans h.only.output,zLV h.only.size hs,fun k hk hn=>by
   rw[hne k (by omega),hblk k (zLJ hk h.only.size) (fun e=>hn (by rw[e,htp]))];exact h.only.block k hk hn⟩
 .rw[hne k (by omega),hblk k (zLM.1 h2).1 (by omega)];exact h2
 .rcases hk with rfl|⟨hlt,ht⟩
  .rw[hne _ (by omega)];exact hblk _ h.bs (by omega)
  .rw[hne k (by omega)];exact hblk k (zLJ hlt h.only.size) (fun e=>by
    rw[e,htp]at ht;rcases ht with e|e|e<;>· injection e with _ e1;omega)
def Yw(w:World)(tg:Tags)(o:Nat)(ks:List Int)(ko:Option Addr):Prop:=∀j x,ks[j]?=some x->∃b off,ko=some (aD b off)/\w.cell? (aD b (off+j))=some (iT x)/\b<w.heap.size/\(tg b).1≠o
theorem lV(tg:Tags)(o d:Nat)(D:M.Dsk)(ids ps:List Nat)(hD:D.BS)(ks:List Int)(ko:Option Addr)(kc:Nat)(w:World)(hk:Yw w tg o ks ko)(h:AJ w tg o d D ids ps):
  Calls Tryz.prog 14 #[pT d,.slice ko ks.length kc] w fun e w'=>e=.returned (.tuple #[])/\Bg tg o d (D.RQ ks) w w':=by
 have hl:=hD.good.few;have HK:=h_ hk;obtain⟨wl,hwl⟩:=ex (((w.alloc (.cells #[.slice ko ks.length kc] 30)).alloc (.cells #[iT 0] 3)).alloc (.cells #[.pointer (some (aD d 1))] 87));have hsl:wl.heap.size=w.heap.size+1+1+1:=by rw[hwl];simp
 have hQ:Q w wl:=by rw[hwl];exact(((Q.refl w).alloc _ _).alloc _ _).alloc _ _
 have hb0:wl.heap[w.heap.size]?=some (.cells #[.slice ko ks.length kc] 30 (0,0)):=by
  have h1:=heap_alloc_new w (.cells #[.slice ko ks.length kc] 30);have h2:=((Below.refl _ (w.alloc (.cells #[.slice ko ks.length kc] 30))).alloc (zLK _) (.cells #[iT 0] 3)).alloc (by simp) (.cells #[.pointer (some (aD d 1))] 87);rw[hwl,h2.block w.heap.size (by simp)];exact h1
 have hb1:wl.heap[w.heap.size+1]?=some (.cells #[iT 0] 3 (0,0)):=by
  have h1:=heap_alloc_new (w.alloc (.cells #[.slice ko ks.length kc] 30)) (.cells #[iT 0] 3);rw[zMM]at h1;have h2:=(Below.refl _ ((w.alloc (.cells #[.slice ko ks.length kc] 30)).alloc (.cells #[iT 0] 3))).alloc (zLK _) (.cells #[.pointer (some (aD d 1))] 87);rw[hwl,h2.block (w.heap.size+1) (by simp)];exact h1
 have hb2:wl.heap[w.heap.size+1+1]?=some (.cells #[.pointer (some (aD d 1))] 87 (0,0)):=by
  have h1:=heap_alloc_new ((w.alloc (.cells #[.slice ko ks.length kc] 30)).alloc (.cells #[iT 0] 3)) (.cells #[.pointer (some (aD d 1))] 87);rw[zMM,zMM]at h1;rw[hwl];exact h1
 have hgood:∀f∈D.files,f.synced<=f.bytes.length/\f.bytes.length<=1048576:=fun f hf=>⟨hD.good.synced f hf,hD.good.small hf⟩;refine(callsIn_wide (n:=6)).1 ?_;refine callsIn_of_wp_marks Tryz.func14 rfl trivial ?_ rfl;simp only[Tryz.ntmps14,zLm,zLQ,zLW,Nat.reduceAdd,Nat.reduceSub,zLj,zLi,zLs,zLl,zLb,zLd]
 gi_wp2_with (refine⟨trivial,?_⟩;gi_at_call 22;apply(all_in _ _ _).mono;rintro e w'⟨rfl,rfl⟩)
 rw[<-hwl];clear hwl;refine wpIn_rangeFunc_ownG rfl (by decide) (gf:=38) (lb:=#[pT (w.heap.size+1+1)]) (by simp[Act.eval]) trivial (enters_of Tryz.func38 (by kernel_rfl) rfl)
  (all_stops tg o d D.files ps hl 5 (by decide) (w.heap.size+1+1) w wl h.map hQ (by simp[World.cell?,hb2]) (by omega)) (fun h k=>Cm.trans h k) (Cm.put (fun k hk=>hk.elim (fun e=>by omega) (fun e=>by have:=e.1;omega))) (Below.refl _ _) (fun _=>rfl)
  (fun pre W=>JA w tg o d D ids ps ks (.slice ko ks.length kc) (pre.map fun x=>x.1) W)
  (fun _ _ _=>False) ?hI (fun _ _ _ _ _ hs _ _=>hs) ?h0
  (fun x=>{ tmps:=#[pT d,.slice ko ks.length kc,undef,pT w.heap.size,pT (w.heap.size+1),undef,.pointer (some ⟨ps[x.1]?.getD 0,0,none⟩),undef,pT d,pT d,.pointer (some (aD d 1)),.func (.func 38) #[] #[pT (w.heap.size+1+1)],sT D.files[x.1].name,.pointer (some ⟨ps[x.1]?.getD 0,0,none⟩),undef,undef,undef,undef,undef,undef,undef,undef,undef,undef,undef,undef,undef,undef,undef,undef,undef,undef,undef],defers:=[]}) ?assign ?body ?done ?stop
 case hI =>
  intro pre A B row hs hg hr;exact hs.kept hg (fun r e=>by have:=(hr r e).1;omega)
 case h0=>exact⟨h.keep hQ.below.size (fun k hk=>Tags.AQ hk) (fun k hk _=>hQ.below.block k hk),hb0,hb1,Only.Be hQ,by omega⟩
 case assign =>
  intro l x W K hK;simp only[mapEntry];gi_wp2;exact hK
 case body =>
  rintro l pre x W hC hlen;have hx:x.1<ps.length:=by have:=h.map.len;simp at this;have:=x.2;omega
  have hxi:x.1<ids.length:=by rw[h.F9];exact x.2
  obtain⟨_,_,hFw⟩:=h.file x.1 _ _ _ (zLH hx) (zLH hxi) (zLH x.2);have hlp:(pre.map fun x=>x.1).length=pre.length:=by simp
  obtain⟨pr,hpr⟩:∃pr,(pre.map fun x=>x.1)=pr:=⟨_,rfl⟩;have zAw:((pre++[x]).map fun x=>x.1)=pr++[x.1]:=by rw[<-hpr];simp
  rw[hpr]at hC hlp;obtain⟨hgl,hgm⟩:=WX ks hgood pr;have hxc:x.1<(FZ ks pr D.files).length:=by rw[hgl];exact x.2
  obtain⟨f,hf⟩:∃f,(FZ ks pr D.files)[x.1]?=some f:=⟨_,zLH hxc⟩;have hfg:=hgm f (zLR hf);obtain⟨bo,bc,hF⟩:=hC.disk.file x.1 _ _ _ (zLH hx) (zLH hxi) hf;have hpe:ps[x.1]?.getD 0=ps[x.1]:=by simp[List.getElem?_eq_getElem hx]
  rw[hpe];have hpx:=zLH hx;have hix:=zLH hxi;have hpw:=hFw.top;have htp:=hFw.tp;generalize ps[x.1]=p at*;generalize ids[x.1]=id at*;have yo:Hid _:=fun(W':World)(e:W'.heap=W.heap)=>lS (tg.more w.heap.size (o+1) 0) o p id f bo bc (ks.getD pr.length 0) hfg.1 hfg.2 W' (hF.uP e);have vH:Hid _:=fun(w4:World)(a:BF w4 (tg.more w.heap.size (o+1) 0) o p id (DY (ks.getD pr.length 0) f) bo bc)(b:W.grownBy w4 (some p))=>hC.next hpx hix hf hpw htp a b;have k0:W.cell? (aD w.heap.size 0)=some (.slice ko ks.length kc):=by simp[World.cell?,hC.bk]
  have k1:W.cell? (aD (w.heap.size+1) 0)=some (iT (pr.length:Nat)):=by simp[World.cell?,hC.bi]
  have zIm:pr.length<64:=by omega
  have hwr:IntKind.i64.wrap ((pr.length:Int)+1)=(pr.length:Int)+1:=by rw[IntKind.wrap_i64];omega
  have hcast:((pr.length+1:Nat):Int)=(pr.length:Int)+1:=by omega
  have HC:Hid _:=hC;have HPR:Hid _:=zAw;have HDW:Hid (w.heap.size+1<W.heap.size):=by have:=hC.bs;show _<_;omega
  clear hQ h hFw hC hF hgm hfg hb0 hb1 hb2 hpx hix hf hpw htp hpr zAw hgood hgl hxc hx hxi hpe hlp hlen;by_cases hik:pr.length<ks.length
  .obtain⟨b,off,hko,hcell,hbw,hbo⟩:=HK.out pr.length _ (zLH hik);subst hko;have hcW:W.cell? (aD b (off+pr.length))=some (iT ks[pr.length]):=(zMI (a:=(aD b (off+pr.length))) (HC.out.only.block b hbw hbo)).trans hcell;have hgd:ks.getD pr.length 0=ks[pr.length]:=by simp[List.getD,List.getElem?_eq_getElem hik]
   ((rw[hgd]at yo vH;generalize ks[pr.length]=kx at*;have i1:(pr.length:Int)<(ks.length:Int):=by omega);have i2:decide ((pr.length:Int)<(ks.length:Int))=true:=by rw[zMF];omega);clear hcell hgd HC
   gi_wp2_with (refine⟨trivial,?_⟩;gi_at_call 23;apply(CallsIn.inRound l (callsIn_wide.2 (yo.out _ rfl))).mono;rintro e w4⟨rfl,a4,g4⟩;obtain⟨z1,z2,z3,z4,z5⟩:=vH.out w4 a4 g4;have HZ:Hid _:=And.intro z1 (And.intro z2 z3);clear z1 z2 z3 a4 g4)
   rw[hcast]at HZ;exact⟨by rw[hsl];exact HZ.out.2.1,HZ.out.2.2,by show JA _ _ _ _ _ _ _ _ _ ((pre++[x]).map fun x=>x.1) _;rw[HPR.out];exact HZ.out.1⟩
  .have hgd:ks.getD pr.length 0=0:=by simp[List.getD,List.getElem?_eq_none (Nat.le_of_not_lt hik)]
   (rw[hgd]at yo vH;have i2:decide ((pr.length:Int)<(ks.length:Int))=false:=by rw[decide_eq_false_iff_not];omega);clear hgd HC
   gi_wp2_with (refine⟨trivial,?_⟩;gi_at_call 23;apply(CallsIn.inRound l (callsIn_wide.2 (yo.out _ rfl))).mono;rintro e w4⟨rfl,a4,g4⟩;obtain⟨z1,z2,z3,z4,z5⟩:=vH.out w4 a4 g4;have HZ:Hid _:=And.intro z1 (And.intro z2 z3);clear z1 z2 z3 a4 g4)
   rw[hcast]at HZ;exact⟨by rw[hsl];exact HZ.out.2.1,HZ.out.2.2,by show JA _ _ _ _ _ _ _ _ _ ((pre++[x]).map fun x=>x.1) _;rw[HPR.out];exact HZ.out.1⟩
 case done =>
  rintro E ys W hE rfl hC hK;rw[UD]at hC;have hd4:=hC.disk.map.top;have c3:=hC.disk.c3;have c4:=hC.disk.c4;have f3:=hC.disk.map.fr 3;have f4:=hC.disk.map.fr 4;have hdw:d<w.heap.size:=h.map.top;have HC:Hid _:=hC;clear hC hQ h hb0 hb1 hb2;gi_wp2;have hEd:E≠d:=by omega
  have hK2:((W.setCell (aD d 3) (.bool false)).setCell (aD d 4) (iT 0)).heap[E]?=some (.deferred (some [])):=by
   rw[heap_setCell_other _ (aD d 4) E _ hEd,heap_setCell_other _ (aD d 3) E _ hEd];exact hK
  have hfin:Bg tg o d (D.RQ ks) w (((W.setCell (aD d 3) (.bool false)).setCell (aD d 4) (iT 0)).putObj E (.deferred none)):=by
   have hd0:=(HC.out.disk.lW false).T9 0;rw[Yj]at hd0;refine⟨tg.more w.heap.size (o+1) 0,ids,ps,fun k hk=>Tags.AQ hk,hd0.keep (by simp) (fun _ _=>rfl) (fun k _ e=>World.putObj_heap_other (fun er=>?_)),?_⟩
   .subst er;rw[Tags.Ay (by omega)]at e;simp at e
   .have htd:tg d=(o,0):=by
     have:=HC.out.disk.map.td
     rwa [Tags.AQ hdw]at this
    have ho:=Fj (Fj HC.out.only (fun k _ e=>by rw[e,htd]) 3 (.bool false)) (fun k _ e=>by rw[e,htd]) 4 (iT 0);exact ho.grown (grownBy_putObj' _ E (.deferred none)) (fun r e=>by cases e;omega)
  refine⟨by simp,.inl ⟨_,_,rfl,run_takeDeferred hK2,?_⟩⟩;exact⟨_,results_none rfl _ _ _,rfl,hfin⟩
 case stop =>
  rintro D c pre W _ _ h _;exact h.elim
end Go.Proofs.YtekdenkllipehaaGreatDoor
namespace Go.Proofs.YtekdenkllipehaaGreatDoor
open Go.RowKit
variable{D:M.Dsk}{d od:Nat}{ids ps:List Nat}{tg:Tags}{w:World}
theorem jR{s:Nat}(c0:w.cell? (aD s 0)=some (pT d))(hD:AJ w tg od d D ids ps)(hF:D.BS)(hd:D.dead=true)(hT:Tab w):
  Calls Tryz.prog 35 #[pT s] w fun e w'=>e=.returned (iT 10)/\Q w w':=by
 have SR:Hid (Calls Tryz.prog 61 #[pT d] w fun e w'=>e=.returned (.tuple #[Mi,iT 10])/\Q w w'):=(VD tg od d D ids ps hF w hD hT).mono (by
  rintro e w'⟨hR,q⟩;refine⟨?_,q⟩;unfold Oe M.Dsk.read at hR;rw[if_pos hd]at hR;exact hR)
 clear hD hF hd hT;unfold Mi at SR;go_in;go_wp2_with fail;refine SR.out.mono ?_;rintro e w1⟨rfl,q1⟩;clear SR;go_wp2;go_ret;exact⟨rfl,(by first|exact q1|exact q1.alloc _ _)⟩
theorem jE(hD:AJ w tg od d D ids ps)(hF:D.BS)(hd:D.dead=true)(hT:Tab w):
  Calls Tryz.prog 20 #[pT d] w fun e w'=>e=.returned (.tuple #[.pointer none,iT 10])/\Q w w':=by
 have qa:Q w (w.alloc (.cells #[pT d,.bool false,iT 0,iT 0,nS,nS,nS,nS] 84)):=(Q.refl w).alloc _ _;have hv:=AZ w [pT d,.bool false,iT 0,iT 0,nS,nS,nS,nS] 84;have LO:=hU (jR (hv.cell 0 rfl) (hD.kept qa) hF hd (CJ hT qa));clear hv hD hF hd hT;go_in;go_wp2_with fail;apply(LO.out ()).mono;rintro e w1⟨rfl,q1⟩;clear LO;go_wp2_with fail;refine bodyPost_ret (v:=.tuple #[.pointer none,iT 10]) (by simp[results,Tryz.results20,go_sem]) rfl ?_;exact⟨rfl,qa.trans q1⟩
end Go.Proofs.YtekdenkllipehaaGreatDoor
