import Derived.Test.YtekdenkllipehaaGreatDoorP29
import Derived.Test.YtekdenkllipehaaGreatDoorP34
set_option maxRecDepth 99999
set_option maxHeartbeats 0
namespace Go.Proofs.YtekdenkllipehaaGreatDoor
open Go.RowKit
section
variable{B d od ow:Nat}{C V:S.Con}{T T0:S.Two}{U:List S.Vs}{bs:List (List Rec)}{nw:List (BA×Int)}{ol:List Rec}{tg:Tags}{w:World}
def zCa(w:World)(tg:Tags)(ow od B d:Nat)(T0:S.Two)(C:S.Con)(nw:List (BA×Int))(key:BA)(R:List Rec)(U:List S.Vs)(tn tb ti:Value)(wr:World):Prop:=
 ∃(k:Nat)(newer:BA)(based:Bool),tn=sT newer/\tb=.bool based/\ti=iT (k:Int)/\k<=R.length/\∃AR T1 GI LF,Kept (Wo ow od) tg w AR wr/\Ig wr AR ow od B d T0 T1 GI LF C nw key R U k newer based
def Z7(w:World)(tg:Tags)(ow od B d:Nat)(T0:S.Two)(C V:S.Con)(nw:List (BA×Int))(key:BA)(R:List Rec)(U:List S.Vs)(e:Ending)(w':World):Prop:=
 ∃(c:Nat)(AU:Tags),e=.returned (iT (c:Int))/\Kept (Wo ow od) tg w AU w'/\((c=0/\∃T' bs' fP,Wrt w' AU ow od B d T0 T' bs' fP (C.put key U) (match R.head? with|none=>nw|some r=>nw++[(key,r.stamp)])/\∀x∈(bs'++[fP]).flatten,S.Bc x.key key\/x.key=key)\/(c≠0/\Fb w' AU od d T0 V c))
theorem Ig.all{key:BA}{R:List Rec}{newer:BA}{based:Bool}(h:Ig w tg ow od B d T0 T bs ol C nw key R U R.length newer based)(hl:U.length=R.length):Wrt w tg ow od B d T0 T bs ol (C.put key U) nw:=by
 have:=h.Qr;rw[<-hl,zM0]at this;exact this
theorem oC{key:BA}(hV:∀k v,v∈(C.put key U) k->v∈V k)(n:Nat):∀k v,v∈(C.put key (U.take n)) k->v∈V k:=fun k v hv=>hV k v (by
 unfold S.Con.put at hv⊢;split at hv
 .rename_i e;rw[if_pos e];exact List.mem_of_mem_take hv
 .rename_i e;rw[if_neg e];exact hv)
theorem KC{α:Type}(l:List α)(x:α):Ah l l.length x=l++[x]:=by simp[Ah]
theorem Z8{EG:List BA}(h:DZ w tg ow B d ol EG nw)(hnu:S.DL (nw.map (·.1)))(key:BA)(hnl:∀y∈nw.map (·.1),S.Bc y key)(hnf:nw.length<=1048575)(st:Int):
  Calls Tryz.prog 64 #[.pointer (some (aD B 4)),sT key,iT st] w fun e w'=>e=.returned (.tuple #[])/\∃AU,(∀k,k<w.heap.size->AU k=tg k)/\DZ w' AU ow B d ol EG (nw++[(key,st)])/\Only ow tg w w':=by
 have hp:S.QJ (nw.map (·.1)) key=false:=by
  cases hh:S.QJ (nw.map (·.1)) key with
  |false=>rfl
  |true=>exact absurd (hnl _ (S.Cn.1 hh)) (S.CW key)
 refine(zAY tg ow B 4 1 (nw.map (·.1)) (BO (nw.map (·.2))) hnu (by simp;omega) key st hp hnl (P6 _) w h.nw ⟨by rw[h.tb];simp,by rw[h.tb];simp⟩ ⟨h.fr 4,h.fr 5⟩).mono ?_;rintro e w'⟨rfl,hN⟩;refine⟨rfl,h.Mc ?_⟩;have e1:Ah (nw.map (·.1)) (S.Et (nw.map (·.1)) key) key=(nw++[(key,st)]).map (·.1):=by
  rw[S.Ls hnl,KC];simp
 have e2:Ah (BO (nw.map (·.2))) (S.Et (nw.map (·.1)) key) (iT st)=BO ((nw++[(key,st)]).map (·.2)):=by
  have hle:(nw.map (·.1)).length=(BO (nw.map (·.2))).length:=by simp[BO]
  rw[S.Ls hnl,hle,KC];simp[BO]
 rw[e1,e2]at hN;exact hN
theorem nX(h:Wrt w tg ow od B d T0 T bs ol C nw)(key:BA)(R:List Rec)(U:List S.Vs)(hl:R.length<=140737488351232)(hall:∀x∈R,x.key=key)(hfit:∀x∈R,x.fits=true)(Zf:R.Pairwise fun a b=>b.stamp<a.stamp)(hT:S.EF CU R U)(hC:C key=[])(hup:∀x∈(bs++[ol]).flatten,S.Bc x.key key)(hV:∀k v,v∈(C.put key U) k->v∈V k)(hnu:S.DL (nw.map (·.1)))(hnl:∀y∈nw.map (·.1),S.Bc y key)(hnf:nw.length<=1048575)(ao:Option Addr)(cap:Nat)(hrow:Rcs w ao R)(htag:∀a,ao=some a->R≠[]->¬Wo ow od (tg a.block).1):
  Calls Tryz.prog 107 #[pT B,.slice ao R.length cap] w fun e w'=>Z7 w tg ow od B d T0 C V nw key R U e w':=by
 obtain⟨fe,hfe⟩:=hT ⟨#[]⟩;have HR:=h_ hrow;have HT:=h_ htag;have HU:=h_ hfe;have HUl:=h_ hT.length;have H1:=h_ hall;have H2:=h_ hfit;have H3:=h_ Zf;have H4:=h_ hV;have H5:=h_3 hnu hnl hnf;have H0:Hid (Ig w tg ow od B d T0 T bs ol C nw key R U 0 ⟨#[]⟩ false):=by
  refine⟨?_,?_,by simp[S.run],zLS _,fun x hx j r _ hr=>Or.inl (by rw[hall r (zLR hr)];exact hup x hx),fun x hx=>Or.inl (hup x hx)⟩
  .have e:C.put key (U.take 0)=C:=by rw[List.take_zero,<-hC];exact S.Con.ZH C key
   rw[e];exact h
  .exact S.Based.none _ (fun r hr=>S.Ev (hup r (by simp;exact Or.inr hr)))
 clear h hrow htag hfe hT hall hfit Zf hV hnu hnl hnf hC hup;go_in;go_wp2_with fail
 go_loopw [5,6,14] (fun tn tb ti wr=>zCa w tg ow od B d T0 C nw key R U tn tb ti wr) (fun _ _ ti _=>R.length-(intOf ti).toNat)
 case atStart=>exact⟨0,⟨#[]⟩,false,rfl,rfl,rfl,zLS _,tg,T,bs,ol,Kept.refl _ _ _,H0.out⟩
 case round =>
  obtain⟨k,newer,based,rfl,rfl,rfl,hk,AR,T1,GI,LF,hK,hA⟩:=hrel;have hRr:=HR.out.jl hK HT.out;by_cases hlt:k<R.length
  .obtain⟨b,off,hao,hbw,nQ⟩:=hRr.at hlt;obtain⟨r,hr⟩:∃r,R[k]?=some r:=⟨_,zLH hlt⟩;obtain⟨c0,c1,c2,c3⟩:=nQ k r hr;obtain⟨s,hv,fV,hrun⟩:=S.zAE HU.out hr hA.run;have hft:=H2.out r (zLR hr);have xR:=hft;simp only[Rec.fits,zMF]at xR;have hkd:r.kind=0\/r.kind=1\/r.kind=2:=by omega
   (((((obtain⟨hs4,hb4⟩:=gV hA.small hkd hv;have I4:(k:Int)<(R.length:Int):=by omega);have VA:Hid _:=fun W=>Ux r newer s (by omega) (by have:=hA.small;omega) hkd hv W;have WH:Hid _:=fun W=>gU r s hkd W;have CH:Hid _:=fun W=>Ym r newer hkd hA.small (fun _=>hb4) W;have HWW:=h_ (S.XR hft hkd hv);have HWC:Hid (∀r',Qo r newer r'->S.Wrote CU true newer r s r'):=fun r' hc=>S.Sm hft hv hc;unfold Rec.val at VA WH CH;obtain⟨X,hX⟩:=ex (ow+od+1);obtain⟨NV,V8⟩:=ex (AR.more wr.heap.size X 0);have jy:∀i,i<wr.heap.size->NV i=AR i:=fun i hi=>by rw[V8];exact Tags.AQ hi);have htL:NV wr.heap.size=(X,0):=by rw[V8];exact Tags.Ay (zLK _));have hXo:¬Wo ow od X:=fun e=>by rcases e with e|e<;>omega);clear V8;have qa:Q wr (wr.alloc (.cells #[sT r.key,iT r.stamp,iT r.kind,sT r.body] 119)):=(Q.refl wr).alloc _ _;have hA1:=hA.keep qa jy;have hKa:Kept (Wo ow od) tg w NV (wr.alloc (.cells #[sT r.key,iT r.stamp,iT r.kind,sT r.body] 119)):=hK.trans (Kept.Be qa jy);have IF:=hU (dA hA1.Qr.fM);have nL:=AZ wr [sT r.key,iT r.stamp,iT r.kind,sT r.body] 119;obtain⟨wa,Bp⟩:=ex (wr.alloc (.cells #[sT r.key,iT r.stamp,iT r.kind,sT r.body] 119));rw[<-Bp]at hA1 hKa IF nL;have hLa:wr.heap.size<wa.heap.size:=by rw[Bp];simp);have nV:=h_ hA1;have tJ:=h_ hKa;have HVN:=h_ nL;have HM:=h_4 hr hrun fV hs4;have HFT:=h_ hft;subst hao;by_cases hfull:LF.length=64\/8192<=Bt LF
   ·(rw[decide_eq_true hfull]at IF;clear hA hA1 hKa nL hK nQ hr hv fV hrun hft xR hkd hs4 hb4 qa hRr hfull;go_wp2_with fail;rw[<-Bp];apply(IF.out ()).mono;rintro e w1⟨rfl,q1⟩;have EB:=hU (SH ((nV.out.keep q1 (fun _ _=>rfl)).Qr) (oC H4.out k));clear IF;go_wp2_with fail;apply(EB.out ()).mono;rintro e w2⟨c,D5,rfl,hK2,hcase⟩;have Tw:Hid (Kept (Wo ow od) tg w D5 w2):=(tJ.out.trans (Kept.Be q1 (fun _ _=>rfl))).trans hK2;have zBV:wr.heap.size<w1.heap.size:=zLJ hLa q1.below.size;have Hg:Ca w2 wr.heap.size [sT r.key,iT r.stamp,iT r.kind,sT r.body]:=(HVN.out.kept q1).of_block (hK2.block _ zBV (by rw[htL];exact hXo)) hK2.size;have j3:Hid ((D5 wr.heap.size).1≠ow):=by rw[hK2.tags _ zBV,htL];exact fun e=>hXo (Or.inl e));clear EB q1 hK2 Bp;by_cases hc0:c=0
    .subst hc0;obtain⟨T2,hW2⟩:∃T2,Wrt w2 D5 ow od B d T0 T2 (ended GI LF) [] (C.put key (U.take k)) nw:=by
      rcases hcase with⟨_,h⟩|⟨h,_⟩
      .exact h
      .exact absurd rfl h
     (((have HS:=h_ (nV.out.cut hW2);have yj:Hid (([]:List Rec).length<64):=Nat.zero_lt_succ _;have m0:=Hg.cell 0 rfl;have m1:=Hg.cell 1 rfl;have m2:=Hg.cell 2 rfl;have m3:=Hg.cell 3 rfl;have vF:=h_ Hg;clear Hg hcase hW2 nV;go_wp2_with fail;apply(VA.out _).mono;rintro e wv⟨rfl,qv⟩;have n0:=AA m0 qv;have n1:=AA m1 qv;have n2:=AA m2 qv;have n3:=AA m3 qv;clear m0 m1 m2 m3 VA;go_wp2_with fail;apply(WH.out _).mono;rintro e wx⟨rfl,qx⟩;obtain⟨r2,hr2⟩:=ex (Kc r s);have nN:Hid (S.Wrote CU false newer r s r2):=by rw[hr2];exact HWW.out);rw[<-hr2];clear hr2 WH CH HWC HWW;have hA2:=HS.out.keep (qv.trans qx) (fun _ _=>rfl);have hK2:=Tw.out.trans (Kept.Be (qv.trans qx) (fun _ _=>rfl));have hV2:=(vF.out.kept qv).kept qx;have PU:=hU (Sn hA2.Qr.fM r2 (Nat.le_of_lt yj.out) (TT hA2.Qr.m) (Xn nN.out.fits));have HA2:Hid _:=And.intro hA2 (And.intro hK2 hV2);clear hA2 hK2 hV2 n0 n1 n2 n3 qv qx HS Tw vF;go_wp2_with fail;apply(PU.out ()).mono;rintro e wp⟨rfl,tgp,htp,uT,hop⟩;obtain⟨hA2,hK2,hV2⟩:=HA2.out;obtain⟨hr,hrun,fV,hs4⟩:=HM.out;have uU:=hV2.of_block (hop.block _ hV2.1 j3.out) hop.size;have HN:Hid (∃AR T1 GI LF,Kept (Wo ow od) tg w AR wp/\Ig wp AR ow od B d T0 T1 GI LF C nw key R U (k+1) s (false || decide (r.kind≠2))):=⟨tgp,_,_,_,hK2.trans (Kept.DI hop htp (Or.inl rfl)),hA2.next hr H1.out H3.out hrun fV hs4 nN.out yj.out uT htp hop⟩;have p2:=uU.cell 2 rfl;clear PU hA2 hK2 hV2 hr hrun fV hs4 uU uT hop htp HA2;go_upto_region 17 with fail);go_quiet (fail);go_wp2_with fail);go_roundw
     case rel =>
      obtain⟨gq,T1',mD,jF,g1,g2⟩:=HN.out;have qd:Q wp (wp.drewN nq):=(Q.refl _).drewN nq;exact⟨k+1,s,(false || decide (r.kind≠2)),rfl,by simp only[Bool.false_or];congr 1;by_cases hg:r.kind=2<;>simp[hg],by go_num,by omega,gq,T1',mD,jF,g1.trans (Kept.Be qd (fun _ _=>rfl)),g2.keep qd (fun _ _=>rfl)⟩
     case measure=>simp[intOf];omega
    ·(have hcI:¬(c:Int)=0:=by omega);have hcb:((c:Int) != 0)=true:=by simp[hc0]
     have HST:Hid (Fb w2 D5 od d T0 V c):=by
      rcases hcase with⟨h,_⟩|⟨_,h⟩
      .exact absurd h hc0
      .exact h
     have yt:=h_ hc0;clear hcase hc0 Hg;go_wp2;go_ret;exact⟨c,D5,rfl,Tw.out,Or.inr ⟨yt.out,HST.out⟩⟩
   ·(rw[decide_eq_false hfull]at IF;have yj:Hid (LF.length<64):=by have:=hA.Qr.m.few;have:¬LF.length=64:=fun e=>hfull (Or.inl e);show LF.length<64;omega);clear hA hA1 hKa nL hK nQ hr hv fV hrun hft xR hkd hs4 hb4 qa hRr hfull
    cases hbb:based with
    |false =>
     ((((subst hbb;go_wp2_with fail;rw[<-Bp];apply(IF.out ()).mono;rintro e w2⟨rfl,q1⟩;have HS:Hid (Ig w2 NV ow od B d T0 T1 GI LF C nw key R U k newer false):=nV.out.keep q1 (fun _ _=>rfl);have Tw:Hid (Kept (Wo ow od) tg w NV w2):=tJ.out.trans (Kept.Be q1 (fun _ _=>rfl));have Hg:=HVN.out.kept q1;have j3:Hid ((NV wr.heap.size).1≠ow):=by rw[htL];exact fun e=>hXo (Or.inl e));have m0:=Hg.cell 0 rfl;have m1:=Hg.cell 1 rfl;have m2:=Hg.cell 2 rfl;have m3:=Hg.cell 3 rfl;have vF:=h_ Hg;clear Hg nV IF q1 Bp;go_wp2_with fail;apply(VA.out _).mono;rintro e wv⟨rfl,qv⟩;have n0:=AA m0 qv;have n1:=AA m1 qv;have n2:=AA m2 qv;have n3:=AA m3 qv;clear m0 m1 m2 m3 VA;go_wp2_with fail;apply(WH.out _).mono;rintro e wx⟨rfl,qx⟩;obtain⟨r2,hr2⟩:=ex (Kc r s);have nN:Hid (S.Wrote CU false newer r s r2):=by rw[hr2];exact HWW.out);rw[<-hr2];clear hr2 WH CH HWC HWW;have hA2:=HS.out.keep (qv.trans qx) (fun _ _=>rfl);have hK2:=Tw.out.trans (Kept.Be (qv.trans qx) (fun _ _=>rfl));have hV2:=(vF.out.kept qv).kept qx;have PU:=hU (Sn hA2.Qr.fM r2 (Nat.le_of_lt yj.out) (TT hA2.Qr.m) (Xn nN.out.fits));have HA2:Hid _:=And.intro hA2 (And.intro hK2 hV2);clear hA2 hK2 hV2 n0 n1 n2 n3 qv qx HS Tw vF;go_wp2_with fail;apply(PU.out ()).mono;rintro e wp⟨rfl,tgp,htp,uT,hop⟩;obtain⟨hA2,hK2,hV2⟩:=HA2.out;obtain⟨hr,hrun,fV,hs4⟩:=HM.out;have uU:=hV2.of_block (hop.block _ hV2.1 j3.out) hop.size;have HN:Hid (∃AR T1 GI LF,Kept (Wo ow od) tg w AR wp/\Ig wp AR ow od B d T0 T1 GI LF C nw key R U (k+1) s (false || decide (r.kind≠2))):=⟨tgp,_,_,_,hK2.trans (Kept.DI hop htp (Or.inl rfl)),hA2.next hr H1.out H3.out hrun fV hs4 nN.out yj.out uT htp hop⟩;have p2:=uU.cell 2 rfl;clear PU hA2 hK2 hV2 hr hrun fV hs4 uU uT hop htp HA2;go_upto_region 17 with fail);go_quiet (fail);go_wp2_with fail);go_roundw
     case rel =>
      obtain⟨gq,T1',mD,jF,g1,g2⟩:=HN.out;have qd:Q wp (wp.drewN nq):=(Q.refl _).drewN nq;exact⟨k+1,s,(false || decide (r.kind≠2)),rfl,by simp only[Bool.false_or];congr 1;by_cases hg:r.kind=2<;>simp[hg],by go_num,by omega,gq,T1',mD,jF,g1.trans (Kept.Be qd (fun _ _=>rfl)),g2.keep qd (fun _ _=>rfl)⟩
     case measure=>simp[intOf];omega
    |true =>
     (((subst hbb;go_wp2_with fail;rw[<-Bp];apply(IF.out ()).mono;rintro e w2⟨rfl,q1⟩;have HS:Hid (Ig w2 NV ow od B d T0 T1 GI LF C nw key R U k newer true):=nV.out.keep q1 (fun _ _=>rfl);have Tw:Hid (Kept (Wo ow od) tg w NV w2):=tJ.out.trans (Kept.Be q1 (fun _ _=>rfl));have Hg:=HVN.out.kept q1;have j3:Hid ((NV wr.heap.size).1≠ow):=by rw[htL];exact fun e=>hXo (Or.inl e));have m0:=Hg.cell 0 rfl;have m1:=Hg.cell 1 rfl;have m2:=Hg.cell 2 rfl;have m3:=Hg.cell 3 rfl;have vF:=h_ Hg;clear Hg nV IF q1 Bp;go_wp2_with fail;apply(VA.out _).mono;rintro e wv⟨rfl,qv⟩;have n0:=AA m0 qv;have n1:=AA m1 qv;have n2:=AA m2 qv;have n3:=AA m3 qv;clear m0 m1 m2 m3 VA;go_wp2_with fail;apply(CH.out _).mono;rintro e wx⟨⟨r2,rfl,hch⟩,qx⟩;have nN:=h_ (HWC.out r2 hch);clear hch WH CH HWC HWW;have hA2:=HS.out.keep (qv.trans qx) (fun _ _=>rfl);have hK2:=Tw.out.trans (Kept.Be (qv.trans qx) (fun _ _=>rfl));have hV2:=(vF.out.kept qv).kept qx;have PU:=hU (Sn hA2.Qr.fM r2 (Nat.le_of_lt yj.out) (TT hA2.Qr.m) (Xn nN.out.fits));have HA2:Hid _:=And.intro hA2 (And.intro hK2 hV2);clear hA2 hK2 hV2 n0 n1 n2 n3 qv qx HS Tw vF;go_wp2_with fail;apply(PU.out ()).mono;rintro e wp⟨rfl,tgp,htp,uT,hop⟩;obtain⟨hA2,hK2,hV2⟩:=HA2.out;obtain⟨hr,hrun,fV,hs4⟩:=HM.out;have uU:=hV2.of_block (hop.block _ hV2.1 j3.out) hop.size;have HN:Hid (∃AR T1 GI LF,Kept (Wo ow od) tg w AR wp/\Ig wp AR ow od B d T0 T1 GI LF C nw key R U (k+1) s (true || decide (r.kind≠2))):=⟨tgp,_,_,_,hK2.trans (Kept.DI hop htp (Or.inl rfl)),hA2.next hr H1.out H3.out hrun fV hs4 nN.out yj.out uT htp hop⟩;have p2:=uU.cell 2 rfl;clear PU hA2 hK2 hV2 hr hrun fV hs4 uU uT hop htp HA2;go_upto_region 17 with fail);go_quiet (fail);go_wp2_with fail);go_roundw
     case rel =>
      obtain⟨gq,T1',mD,jF,g1,g2⟩:=HN.out;have qd:Q wp (wp.drewN nq):=(Q.refl _).drewN nq;exact⟨k+1,s,(true || decide (r.kind≠2)),rfl,by simp,by go_num,by omega,gq,T1',mD,jF,g1.trans (Kept.Be qd (fun _ _=>rfl)),g2.keep qd (fun _ _=>rfl)⟩
     case measure=>simp[intOf];omega
  .obtain rfl:k=R.length:=by omega
   have HW:Hid _:=hA.all HUl.out;have HKE:=h_ hA.keys;have HKK:=h_ hK;have HRR:=h_ hRr;clear hA hK hRr
   cases R with
   |nil =>
    go_wp2;go_ret;exact⟨0,AR,rfl,HKK.out,Or.inl ⟨rfl,T1,GI,LF,HW.out,HKE.out⟩⟩
   |cons r R' =>
    obtain⟨b,off,hao,hbw,nQ⟩:=HRR.out.at (k:=0) (by simp);obtain⟨c0,c1,_,_⟩:=nQ 0 r rfl;have hkey:r.key=key:=H1.out r (List.mem_cons_self ..);rw[hkey]at c0;have hks:key.size<=64:=by have:=H2.out r (List.mem_cons_self ..);rw[<-hkey];simp only[Rec.fits,zMF]at this;omega
    simp only[Nat.zero_mul,Nat.add_zero]at c0 c1;obtain⟨st,hst⟩:=xe r.stamp;rw[hst]at c1;have htb:¬Wo ow od (AR b).1:=by
     have h1:=HT.out _ hao (by simp);have h2:=HR.out;rcases h2 with h2|⟨b2,o2,h3,h4,_⟩
     .cases h2
     .rw[hao]at h3;injection h3 with h3;injection h3 with h3 h5;subst h3;rw[HKK.out.tags _ h4];exact h1
    (have CL:Hid _:=fun(W:World)=>Dr key W (by omega);have PN:Hid (∀W,Q wr W->Calls Tryz.prog 64 #[.pointer (some (aD B 4)),sT key,iT st] W fun e w'=>e=.returned (.tuple #[])/\∃AU,(∀k,k<W.heap.size->AU k=AR k)/\DZ w' AU ow B d LF (S.IG GI) (nw++[(key,st)])/\Only ow AR W w'):=fun W q=>Z8 (HW.out.fM.kept q) H5.out.1 key H5.out.2.1 H5.out.2.2 st;have HTB:=h_ htb;have HST:=h_ hst;subst hao;have zGp:(0:Int)<((r::R').length:Int):=by simp);clear nQ hkey hst htb HR HT HRR;go_upto_region 20 with fail
    go_region_held3 (fun w'=>w'.cell? (aD b off)=some (sT key)/\w'.cell? (aD b (off+1))=some (iT st))
     (first|exact⟨c0,c1⟩|exact Db|exact hS5)
     (first|(go_at_call 40;apply(CL.out _).mono;rintro e w4⟨rfl,q4⟩;have Kl:Q wr w4:=(Q.refl wr).drew.trans ⟨q4⟩;have Db:w4.cell? (aD b off)=some (sT key)/\w4.cell? (aD b (off+1))=some (iT st):=⟨AA c0 Kl,AA c1 Kl⟩)|(go_at_call 64;apply(PN.out _ Kl).mono;rintro e w5⟨rfl,JX,uI,LJ,fT⟩;have hS5:w5.cell? (aD b off)=some (sT key)/\w5.cell? (aD b (off+1))=some (iT st):=⟨(zMI (a:=(aD b off)) (fT.block b (Ei Db.1) (fun e=>HTB.out (Or.inl e)))).trans Db.1,(zMI (a:=(aD b (off+1))) (fT.block b (Ei Db.1) (fun e=>HTB.out (Or.inl e)))).trans Db.2⟩))
    all_goals
     have HE:Hid (Z7 w tg ow od B d T0 C V nw key (r::R') U (.returned (iT 0)) w5):=by
      have nO:=HW.out.kept Kl;have hG:=ES nO.tab;obtain⟨ids,ps,hd⟩:=nO.disk;refine⟨0,JX,rfl,(HKK.out.trans (Kept.Be Kl (fun _ _=>rfl))).trans (Kept.DI fT uI (Or.inl rfl)),Or.inl ⟨rfl,T1,GI,LF,?_,HKE.out⟩⟩;simp only[List.head?_cons];rw[HST.out];exact⟨LJ,⟨ids,ps,hd.only nO.ne uI fT⟩,nO.fine,nO.ne,Cu nO.tab (fT.block _ hG nO.FP.1),by rw[uI _ hG];exact nO.FP,nO.m,nO.mF⟩
     clear PN CL uI LJ fT hS5 Db q4 Kl c0 c1;go_wp2;go_ret;exact HE.out
def Zz(w:World)(tg:Tags)(ow od B d:Nat)(T0:S.Two)(C V:S.Con)(nw:List (BA×Int))(wm:Int)(e:Ending)(w':World):Prop:=
 ∃(c:Nat)(AU:Tags),e=.returned (iT (c:Int))/\Kept (Wo ow od) tg w AU w'/\((c=0/\∃(T':S.Two)(bs':List (List Rec))(ids ps:List Nat),AJ w' AU od d T'.dsk ids ps/\T'.dsk.BS/\T'.cap=T0.cap/\T'.a=some (S.Aa bs' wm,(S.Aa bs' wm).length)/\T'.b=none/\T'.dead=false/\(T0.Ae=0->T'.Ae=0)/\S.Fil CU bs' C/\DZ w' AU ow B d [] (S.IG bs') nw)\/(c≠0/\Fb w' AU od d T0 V c))
theorem nW(h:Wrt w tg ow od B d T0 T bs ol C nw)(hV:∀k v,v∈C k->v∈V k)(wm:Int)(hw1:-1<=wm)(hw2:wm<=1099511627776):
  Calls Tryz.prog 109 #[pT B,iT wm] w fun e w'=>Zz w tg ow od B d T0 C V nw wm e w':=by
 have EB:=hU (SH h hV);have HV:=h_ hV;clear h hV;go_in;go_wp2_with fail;apply(EB.out ()).mono;rintro e w1⟨c,AR,rfl,hK1,hcase⟩;have tJ:=h_ hK1;clear EB hK1;by_cases hc0:c=0
 .subst hc0;obtain⟨T1,hW⟩:∃T1,Wrt w1 AR ow od B d T0 T1 (ended bs ol) [] C nw:=by
   rcases hcase with⟨_,h⟩|⟨h,_⟩
   .exact h
   .exact absurd rfl h
  obtain⟨GI,hbs⟩:=ex (ended bs ol);rw[<-hbs]at hW;clear hbs hcase;have hne:=hW.ne;have hfil:=hW.m.fil;obtain⟨bo,KM,b1,b2,b3⟩:=hW.fM.c3;have c0:=hW.fM.c0;have htot:=hW.total;have zB5:=S.KG GI;have hidx:=S.QA hfil.ok;have hlen:=S.Ji GI;have EN:Hid _:=fun(W:World)(q:Q w1 W)=>eD wm hw1 hw2 (S.IG GI) bo KM W ((OI b2).2.kept q.below) (CJ hW.tab q) (by rw[S.Qi];omega) (by omega);rw[S.Qi]at EN;obtain⟨Mx,ZL,hd1⟩:=hW.disk;obtain⟨tx,htx⟩:∃tx:BA,tx=⟨(S.Eh (M.enc 7 (wm+1).toNat++S.idxOf GI)).toArray⟩:=⟨_,rfl⟩;rw[<-htx]at EN;have htd:tx.data.toList=S.Eh (S.Af GI wm):=by rw[htx];rfl
  have DA:Hid _:=fun(W:World)(q:Q w1 W)=>NE AR od d T1.dsk Mx ZL hW.fine A9 tx W (hd1.kept q);have gB:=hW.fine.append A9 (S.Eh (S.Af GI wm));rw[htd,S.Two.NK]at DA;rw[S.Two.NK]at gB;simp only at DA gB;have kT:=hW.mF.append (S.Eh (S.Af GI wm));rw[S.OY]at kT;obtain⟨⟨T2,c2⟩,qi⟩:=ex (T1.append (S.Eh (S.Af GI wm)));rw[<-qi]at DA gB kT;simp only at DA gB kT;have HW:=h_ hW;have Ut:=h_ gB;have HFL:=h_ hfil;have HBL:Hid (c2=0/\S.Bld T0 T2 (some (S.Aa GI wm))\/c2≠0/\((c2=9/\(∃x,S.Bld T0 T2 x)/\S.Full T0 V)\/(c2=10/\S.Yy T0 T2))):=by
   rcases kT with⟨g1,g2,_⟩|⟨g1,g2,g3⟩|⟨g1,g2⟩
   .exact Or.inl ⟨g1,g2⟩
   .refine Or.inr ⟨by omega,Or.inl ⟨g1,⟨S.dat GI,by rw[g2];exact hW.mF⟩,hW.m.yC hw2 HV.out (by omega) g3⟩⟩
   .exact Or.inr ⟨by omega,Or.inr ⟨g1,g2⟩⟩
  have mr:=h_ b3;clear kT gB hW hfil htot zB5 hidx hlen qi htd htx hd1 b2 b3;obtain⟨n,hn⟩:=ex ((S.IG GI).length);rw[<-hn]at b1 EN;clear hn mr;go_upto_region 3 with fail
  go_region_held3 (fun W=>W.cell? (aD B 0)=some (pT d)/\W.cell? (aD B 3)=some (.slice bo n KM))
   (first|exact⟨c0,b1⟩|exact Db|exact hS5)
   (first|(go_at_call 142;apply(EN.out _ ((Q.refl w1).drew)).mono;rintro e w4⟨rfl,q4⟩;have Kl:Q w1 w4:=(Q.refl w1).drew.trans q4;have Db:w4.cell? (aD B 0)=some (pT d)/\w4.cell? (aD B 3)=some (.slice bo n KM):=⟨AA c0 Kl,AA b1 Kl⟩)|(go_at_call 27;apply(DA.out _ Kl).mono;rintro e w5⟨rfl,JX,dK,zL,uI,hL5,fT⟩;have hB5:w5.heap[B]?=w4.heap[B]?:=(fT.block B (Ei Db.1) (by rw[HW.out.fM.tb];exact hne));have hS5:w5.cell? (aD B 0)=some (pT d)/\w5.cell? (aD B 3)=some (.slice bo n KM):=⟨(zMI (a:=(aD B 0)) hB5).trans Db.1,(zMI (a:=(aD B 3)) hB5).trans Db.2⟩))
  have LJ:=(HW.out.fM.kept Kl).keep fT.size uI (fun k hk e=>fT.block k hk (by rw[e];exact hne));have HA5:Hid (Kept (Wo ow od) tg w JX w5/\DZ w5 JX ow B d [] (S.IG GI) nw/\AJ w5 JX od d T2.dsk dK zL):=⟨(tJ.out.trans (Kept.Be Kl (fun _ _=>rfl))).trans (Kept.DI fT uI (Or.inr rfl)),LJ,hL5⟩;have x0:=hS5.1;clear hS5 Db hB5 LJ fT uI hL5 q4 Kl c0 b1 EN DA;by_cases hc2:c2=0
  .subst hc2;have hb2:S.Bld T0 T2 (some (S.Aa GI wm)):=by
    rcases HBL.out with⟨_,h⟩|⟨h,_⟩
    .exact h
    .exact absurd rfl h
   have hlast:=hb2.last;have DS:=hU (UI JX od d T2.dsk dK zL Ut.out A9 w5 HA5.out.2.2);have zk:=Ut.out.sync A9;rw[S.Two.iB]at DS zk;simp only at DS zk;obtain⟨⟨T3,c3⟩,hT3⟩:=ex T2.JY;rw[<-hT3]at DS zk hlast;simp only at DS zk hlast;have HF3:Hid T3.dsk.BS:=zk;have HLA:=h_ hlast;clear hlast hb2 zk hT3 HBL;go_wp2_with fail;apply(DS.out ()).mono;rintro e w6⟨rfl,JW,Tm,o5,qN,hL6,YO⟩;obtain⟨XO,LJ,hL5⟩:=HA5.out;have Tv:=LJ.keep YO.size qN (fun k hk e=>YO.block k hk (by rw[e];exact hne));have HA6:=h_3 (XO.trans (Kept.DI YO qN (Or.inr rfl))) Tv hL6;have y0:=Tv.c0;clear DS XO LJ hL5 Tv YO qN hL6 x0;by_cases hc3:c3=0
   .subst hc3;have hla:=HLA.out;have DR:=hU (eG JW od d T3.dsk Tm o5 HF3.out A9 Bw w6 HA6.out.2.2);have gD:=HF3.out.rename A9 Bw;rw[S.Two.pM]at DR gD;simp only at DR gD;obtain⟨⟨T4,c4⟩,kV⟩:=ex T3.move;rw[<-kV]at DR gD hla;simp only at DR gD hla;have HF4:Hid T4.dsk.BS:=gD;have HLB:Hid ((c4=10/\S.Yy T0 T4)\/(c4=0/\T4.cap=T0.cap/\T4.a=some (S.Aa GI wm,(S.Aa GI wm).length)/\T4.b=none/\T4.dead=false/\(T0.Ae=0->T4.Ae=0))):=by
     rcases hla with⟨h,_⟩|⟨_,h⟩
     .omega
     .exact h
    clear hla gD kV HLA;go_wp2_with fail;apply(DR.out ()).mono;rintro e w7⟨rfl,tg7,xB,ps7,ht7,hL7,XJ⟩;obtain⟨MZ,Tv,hL6⟩:=HA6.out;have hW7:=Tv.keep XJ.size ht7 (fun k hk e=>XJ.block k hk (by rw[e];exact hne));have HE7:Hid (Zz w tg ow od B d T0 C V nw wm (.returned (iT (c4:Int))) w7):=by
     refine⟨c4,tg7,rfl,MZ.trans (Kept.DI XJ ht7 (Or.inr rfl)),?_⟩;rcases HLB.out with⟨h1,h2⟩|⟨h1,h2,h3,h4,h5,h6⟩
     .exact Or.inr ⟨by omega,T4,xB,ps7,hL7,HF4.out,Or.inr ⟨h1,h2⟩⟩
     .exact Or.inl ⟨h1,T4,GI,xB,ps7,hL7,HF4.out,h2,h3,h4,h5,h6,HFL.out,hW7⟩
    clear DR MZ Tv hL6 hW7 XJ ht7 hL7 y0;go_wp2;go_ret;exact HE7.out
   ·(have hcI:¬(c3:Int)=0:=by omega);have hcb:((c3:Int)==0)=false:=by simp[hc3]
    have HE6:Hid (Zz w tg ow od B d T0 C V nw wm (.returned (iT (c3:Int))) w6):=by
     refine⟨c3,JW,rfl,HA6.out.1,Or.inr ⟨hc3,T3,Tm,o5,HA6.out.2.2,HF3.out,?_⟩⟩;rcases HLA.out with h|⟨h,_⟩
     .exact Or.inr h
     .exact absurd h hc3
    clear hc3 HLA;go_wp2;go_ret;exact HE6.out
  .have hcI:¬(c2:Int)=0:=by omega
   have hcb:((c2:Int)==0)=false:=by simp[hc2]
   have HE5:Hid (Zz w tg ow od B d T0 C V nw wm (.returned (iT (c2:Int))) w5):=by
    refine⟨c2,JX,rfl,HA5.out.1,Or.inr ⟨hc2,T2,dK,zL,HA5.out.2.2,Ut.out,?_⟩⟩;rcases HBL.out with⟨h,_⟩|⟨_,h⟩
    .exact absurd h hc2
    .exact h
   clear hc2 HBL;go_wp2;go_ret;exact HE5.out
 .have hcI:¬(c:Int)=0:=by omega
  have hcb:((c:Int)==0)=false:=by simp[hc0]
  have HST:Hid (Fb w1 AR od d T0 V c):=by
   rcases hcase with⟨h,_⟩|⟨_,h⟩
   .exact absurd h hc0
   .exact h
  have yt:=h_ hc0;clear hcase hc0;go_wp2;go_ret;exact⟨c,AR,rfl,tJ.out,Or.inr ⟨yt.out,HST.out⟩⟩
end
namespace S
variable{bs:List (List Rec)}{i:Nat}{k:BA}{nw:List (BA×Int)}{o:List Rec}
def Eu(X:Sto)(C:Con)(kv:List Vs->Nat)(i:Nat):Con:=fun k=>if inK (X.keys.take i) k=true then(X.con C k).take (kv (X.con C k))else[]
theorem Vx(X:Sto)(C:Con)(kv:List Vs->Nat):Eu X C kv 0=fun _=>[]:=by
 funext k;simp[Eu,inK]
theorem jg{X:Sto}{C:Con}{kv:List Vs->Nat}(hX:X.keys.Pairwise Bc)(hk:X.keys[i]?=some k):Eu X C kv i k=[]:=by
 have hn:k∉X.keys.take i:=fun hm=>by
  obtain⟨hi,he⟩:=zLI.1 hk;obtain⟨j,hj,hje⟩:=List.mem_iff_getElem.1 hm;rw[zM6]at hj;rw[List.getElem_take]at hje;have:=zM3.1 hX j i (by omega) hi (by omega);rw[hje,he]at this;exact CW k this
 unfold Eu;rw[Ry hn];simp
theorem Py{X:Sto}{C:Con}{kv:List Vs->Nat}(hk:X.keys[i]?=some k):Eu X C kv (i+1)=(Eu X C kv i).put k ((X.con C k).take (kv (X.con C k))):=by
 funext x;have e:X.keys.take (i+1)=X.keys.take i++[k]:=Ct hk;unfold Eu Con.put;rw[e];by_cases hx:x=k
 .subst hx;rw[if_pos (Ew.2 (by simp)),if_pos rfl]
 .rw[if_neg hx];have hiff:inK (X.keys.take i++[k]) x=inK (X.keys.take i) x:=by
   cases h:inK (X.keys.take i) x with
   |true=>exact Ew.2 (List.mem_append_left _ (Ew.1 h))
   |false=>exact Ry (fun hm=>by
     rcases zMD.1 hm with hm|hm
     .rw[Ew.2 hm]at h;cases h
     .exact hx (by simpa using hm))
  rw[hiff]
theorem Lx{X:Sto}{C:Con}(h:X.Good bs C)(kv:List Vs->Nat)(k:BA):Eu X C kv X.keys.length k=(X.con C k).take (kv (X.con C k)):=by
 unfold Eu;rw[zM0];by_cases hk:k∈X.keys
 .rw[if_pos (Ew.2 hk)]
 .rw[Ry hk];have:X.con C k=[]:=Classical.byContradiction fun e=>hk ((h.J9.2.1 k).2 e);simp[this]
theorem p8{X:Sto}{C:Con}{kv:List Vs->Nat}(i:Nat):∀k v,v∈Eu X C kv i k->v∈Eu X C kv X.keys.length k:=fun k v hv=>by
 unfold Eu at hv⊢;rw[zM0];split at hv
 .rename_i hi;rw[if_pos (Ew.2 (List.mem_of_mem_take (Ew.1 hi)))];exact hv
 .simp at hv
theorem p9{X:Sto}{C:Con}{kv:List Vs->Nat}(h:Eu X C kv i k≠[]):k∈X.keys.take i:=by
 unfold Eu at h;split at h
 .rename_i hi;exact Ew.1 hi
 .exact absurd rfl h
structure Uf(nw:List (BA×Int))(D:Con):Prop where
 up:DL (nw.map (·.1))
 is_:∀k,BX nw k=(D k).head?.map (·.stamp)
theorem Uf.none:Uf [] (fun _=>[]):=⟨List.Pairwise.nil,fun _=>rfl⟩
theorem Uf.key{D:Con}(h:Uf nw D)(y:BA):y∈nw.map (·.1)↔D y≠[]:=by
 have h1:=h.is_ y;constructor
 .intro hm e;rw[e]at h1;have:=Dt h1;rw[Cn.2 hm]at this
  cases this
 .intro hd
  cases hc:D y with
  |nil=>exact absurd hc hd
  |cons v l =>
   rw[hc]at h1;exact Cn.1 (Cs h.up h1).1
theorem Vt{α:Type}(A B:List (BA×α))(k:BA):BX (A++B) k=match BX A k with|some x=>some x|Option.none=>BX B k:=by
 unfold BX;rw[List.find?_append]
 cases A.find? (fun x=>decide (x.1=k))<;>rfl
theorem Uf.step{D:Con}(h:Uf nw D)(hk:D k=[])(hl:∀y∈nw.map (·.1),Bc y k){R:List Rec}{U:List Vs}(hs:U.map (·.stamp)=R.map (·.stamp)):Uf (match R.head? with|Option.none=>nw|some r=>nw++[(k,r.stamp)]) (D.put k U):=by
 cases R with
 |nil =>
  have hU:U=[]:=by simpa using hs
  subst hU;have e:D.put k []=D:=by rw[<-hk];exact Con.ZH D k
  rw[e];exact h
 |cons r R' =>
  cases U with
  |nil=>simp at hs
  |cons u U' =>
   simp only[zLx,List.cons.injEq]at hs;simp only[List.head?_cons];refine⟨?_,fun x=>?_⟩
   ·(unfold DL;rw[List.map_append,zLh];refine⟨h.up,by simp,fun a ha b hb=>?_⟩;have:b=k:=by simpa using hb);rw[this];exact hl a ha
   .rw[Vt];unfold Con.put;by_cases hx:x=k
    .subst hx;rw[if_pos rfl,h.is_ x,hk];simp[BX,hs.1]
    .rw[if_neg hx,h.is_ x];have hkx:¬k=x:=fun e=>hx e.symm
     cases D x with
     |nil=>simp[BX,hkx]
     |cons v l=>simp
theorem ER(f n:Nat):1<=(M.enc f n).length:=by
 cases f with
 |zero=>simp[M.enc]
 |succ f =>
  simp only[M.enc];split<;>simp
theorem Ou{rs:List Rec}:∀{k:Nat}{t:List UInt8},BM rs k=some t->5*k<=t.length
 |0,_,_=>zLS _
 |k+1,t,h=>by
  simp only[BM]at h
  cases ht:BM rs k with
  |none=>rw[ht]at h;simp at h
  |some t0 =>
   cases hr:rs[k]? with
   |none=>rw[ht,hr]at h;simp at h
   |some r =>
    rw[ht,hr]at h;simp only at h;split at h
    .simp at h
    .simp only[zLO]at h;subst h;have h1:=Ou ht;have e1:=ER 7 (Av rs k r);have e2:=ER 7 (r.key.size-Av rs k r);have e3:=ER 7 r.stamp.toNat;have e4:=ER 7 r.body.size;simp only[entry,zLL,List.length_singleton];omega
theorem KH:∀{bs:List (List Rec)},(∀b∈bs,OkB b)->5*bs.flatten.length<=(Aw bs).length
 |[],_=>by simp
 |b::bs,h=>by
  have h1:=KH (bs:=bs) (fun x hx=>h x (by simp[hx]));have e1:Aw (b::bs)=Aj b++Aw bs:=by simp[Aw]
  have hb:=h b (by simp);obtain⟨t,ht⟩:=hb.text;have h2:5*b.length<=(Aj b).length:=by
   unfold Aj;rw[M.Ar,ht];unfold Ad at ht;rw[if_neg (by have:=hb.few;omega)]at ht;have:=Ou ht;simp only[zLT];omega
  rw[e1,zLz];simp only[zLL];omega
theorem La{α:Type}:∀l:List α,(l.map fun _=>1).sum=l.length
 |[]=>rfl
 |_::l=>by simp[La l];omega
theorem ZX{ks:List BA}(hs:ks.Pairwise Bc){F:List Rec}(h:∀k∈ks,∃r∈F,r.key=k):ks.length<=F.length:=by
 have:=Ov (fun _:BA=>1) (fun _:Rec=>1) (fun k r=>r.key=k) ks F (hs.imp fun{a b}hab y h1 h2=>Ev hab (h1.symm.trans h2)) (fun k hk=>by
  obtain⟨r,hr,he⟩:=h k hk;exact⟨r,hr,he,zLK _⟩)
 rw[La,La]at this;exact this
theorem Wri.recs{ap:Ap}{C:Con}(h:Wri ap bs o C)(hb:(Aw bs).length<=1048576):(bs++[o]).flatten.length<=209779:=by
 have h1:∀b∈bs,OkB b:=fun b hb=>by
  refine⟨(h.blk b hb).1,(h.blk b hb).2,fun r hr=>h.fits r ?_,?_⟩
  .rw[List.flatten_append];exact List.mem_append_left _ (List.mem_flatten.2 ⟨b,hb,hr⟩)
  .have:=h.ord;rw[List.flatten_append,zLh]at this;exact(List.pairwise_flatten.1 this.1).1 b hb
 have h2:=KH h1;have h3:=h.few;rw[List.flatten_append];simp only[zLL,zLz,List.flatten_nil,zLw];omega
theorem Uf.few{ap:Ap}{C:Con}(h:Uf nw C)(hW:Wri ap bs o C)(hb:(Aw bs).length<=1048576):nw.length<=209779:=by
 have h1:=hW.recs hb;have h2:(nw.map (·.1)).length<=(bs++[o]).flatten.length:=ZX h.up (fun k hk=>by
  have hne:=(h.key k).1 hk;refine Classical.byContradiction fun hno=>hne ?_;have ht:=(hW.holds k).tells;rw[EJ (fun r hr e=>hno ⟨r,hr,e⟩)]at ht;exact EF.inj ht (EF.nil ap))
 rw[zM2]at h2;omega
def Sto.laid(X:Sto)(nw:List (BA×Int)):Sto:={ X with newest:=nw,pend:=[],fl:=X.wm }
theorem Sto.Good.laid{X:Sto}{bs bs':List (List Rec)}{C D:Con}{nw:List (BA×Int)}(h:X.Good bs C)(hF:Fil CU bs' D)(hn:Uf nw D)(hl:nw.length<=1048000):(X.laid nw).Good bs' D:=by
 refine⟨⟨hn.up,List.Pairwise.nil,hl,zLS _,fun kr hkr=>(by cases hkr)⟩,hF,hn.is_,fun kr hkr=>(by cases hkr),fun kr hkr=>(by cases hkr),?_,Int.le_refl _,h.top⟩;have:=h.rP;have:=h.lG;show -1<=X.wm
 omega
theorem Sto.OZ(X:Sto)(nw:List (BA×Int))(D:Con):(X.laid nw).con D=D:=by
 funext k;rfl
theorem Sto.Good.dO{X:Sto}{C:Con}(h:X.Good bs C)(k:BA):(X.JG bs.flatten k).Pairwise fun a b=>b.stamp<a.stamp:=by
 have h1:=h.falling k;have h2:=(h.tells k).stamps;have h3:((X.con C k).map (·.stamp)).Pairwise fun a b=>b<a:=by rw[List.pairwise_map];exact h1
 rw[h2,List.pairwise_map]at h3;exact h3
end S
section
theorem AJ.retag{w:World}{tg AU:Tags}{o d:Nat}{D:M.Dsk}{ids ps:List Nat}(h:AJ w tg o d D ids ps)(ht:∀k,k<w.heap.size->(tg k).1=o->AU k=tg k):AJ w AU o d D ids ps:=by
 obtain⟨a1,k1,r1,r2,r3⟩:=h.map.keys;obtain⟨a2,k2,s1,s2,s3⟩:=h.map.vals;refine⟨⟨h.map.fr,(ht d h.map.top (by rw[h.map.td])).trans h.map.td,h.map.top,⟨a1,k1,r1,r2,fun g hg=>(ht g (r2.lt g hg).2 (by rw[r3 g hg])).trans (r3 g hg)⟩,⟨a2,k2,s1,s2,fun g hg=>(ht g (s2.lt g hg).2 (by rw[s3 g hg])).trans (s3 g hg)⟩,h.map.len⟩,h.c0,h.c3,h.c4,h.nodup,h.F9,fun i p id f h1 h2 h3=>?_⟩;obtain⟨bo,bc,hF⟩:=h.file i p id f h1 h2 h3;exact⟨bo,bc,hF.c0,hF.c1,hF.fr,hF.own,(ht p hF.top (by rw[hF.tp])).trans hF.tp,fun g hg=>(ht g (hF.own.lt g hg).2 (by rw[hF.tb g hg])).trans (hF.tb g hg),hF.top⟩
theorem Ag.retag{w:World}{tg AU:Tags}{o s d:Nat}{X:S.Sto}{ids ps:List Nat}(h:Ag w tg o s d X ids ps)(ht:∀k,k<w.heap.size->(tg k).1=o->AU k=tg k):Ag w AU o s d X ids ps:=by
 refine⟨h.top,(ht s h.top (by rw[h.ts])).trans h.ts,h.fr,h.c0,h.c1,h.c2,h.c3,h.nw.keep (zLK _) (fun k hk e=>ht k hk (by rcases e with e|e<;>rw[e])) rfl rfl (fun _ _ _=>rfl),h.pd.keep (zLK _) (fun k hk e=>ht k hk (by rcases e with e|e<;>rw[e])) rfl rfl (fun _ _ _=>rfl),h.nodup,h.F9,fun i p id kr h1 h2 h3=>?_⟩;obtain⟨g1,g2,g3⟩:=h.inner i p id kr h1 h2 h3;exact⟨g1.keep (zLK _) (fun k hk e=>ht k hk (by rcases e with e|e<;>rw[e])) rfl (fun _ _ _=>rfl),(ht p g1.top (by rw[g2])).trans g2,g3⟩
attribute [local go_sem] Oper.semAt_some
theorem Nk(n s:Nat)(w:World):
  CallsIn Fence.wide n Tryz.prog 106 #[pT s] w fun e w'=>e=.returned (.func (.func 133) #[] #[pT w.heap.size])/\w'=w.alloc (.cells #[pT s] 35):=by
 refine callsIn_of_wp Tryz.func106 rfl trivial ?_ rfl;simp only[Tryz.ntmps106,zLm,zLQ,zLW,Nat.reduceAdd,Nat.reduceSub,zLj,zLi,zLs,zLl,zLb,zLd];gi_wp2;go_ret;exact⟨rfl,rfl⟩
end
section
variable{Al ids ps ps':List Nat}{B c d i j m o od ow s:Nat}{C V:S.Con}{Cr tg:Tags}{P:Nat->Prop}{T' T0:S.Two}{X:S.Sto}{bad:Prop}{bs:List (List Rec)}{k:BA}{kv:List S.Vs->Nat}{nw:List (BA×Int)}{w w':World}
def Low(m:Nat)(tg:Tags)(w:World):Prop:=∀k,k<w.heap.size->(tg k).1<m
structure Rdy(w:World)(tg:Tags)(o od m s d:Nat)(T0:S.Two)(X:S.Sto)(bs:List (List Rec))(C:S.Con)(bad:Prop)(Nw:Int)(ids ps Al ps':List Nat):Prop where
 XH:Ag w tg o s d X ids ps
 disk:AJ w tg od d T0.dsk Al ps'
 fine:T0.dsk.BS
 on:MS bad T0.dsk bs Nw
 good:X.Good bs C
 tab:Tab w
 FP:(tg 0).1≠o/\(tg 0).1≠od
 ne:o≠od
 nob:T0.b=none
 alive:T0.dead=false
 low:Low m tg w
 om:o<m
 odm:od<m
 few:bs.flatten.length<=1048576
theorem Rdy.kJ{Nw:Int}(h:Rdy w tg o od m s d T0 X bs C bad Nw ids ps Al ps')(k:BA):(X.JG bs.flatten k).length<=140737488351232:=by
 have h1:(S.BZ k bs.flatten).length<=bs.flatten.length:=List.length_filter_le ..;have h2:=h.few;unfold S.Sto.JG;rw[zLL,List.length_reverse]
 cases hl:S.BX X.pend k with
 |none=>simp;omega
 |some rs =>
  have:=(h.good.ok.each _ ((S.Bl h.good.ok.Dn).1 hl)).2.2;simp only[zLT];simp only at this;omega
def MU(T0:S.Two)(X:S.Sto)(V:S.Con)(bad:Prop)(c:Nat)(X':S.Sto)(T':S.Two):Prop:=
 (c=10/\X'={ X with dead:=true }/\S.Yy T0 T')\/(c=9/\X'=X/\S.Bld T0 T' none/\S.Full T0 V)\/(bad/\c=3/\X'=X/\S.Bld T0 T' none)
def Uh(T0:S.Two)(X:S.Sto)(V:S.Con)(X':S.Sto)(T':S.Two):Prop:=
 ∃bs' nw,X'=X.laid nw/\S.Fil CU bs' V/\S.Uf nw V/\nw.length<=209779/\T'.cap=T0.cap/\T'.a=some (S.Aa bs' X.wm,(S.Aa bs' X.wm).length)/\T'.b=none/\T'.dead=false/\(T0.Ae=0->T'.Ae=0)
def He(w:World)(tg:Tags)(o od m s d:Nat)(T0:S.Two)(X:S.Sto)(V:S.Con)(bad:Prop)(e:Ending)(w':World):Prop:=
 ∃(c:Nat)(AU:Tags)(X':S.Sto)(T':S.Two)(ids ps Al ps':List Nat),e=.returned (iT (c:Int))/\Kept (fun x=>x=o\/x=od) tg w AU w'/\Low m AU w'/\Ag w' AU o s d X' ids ps/\AJ w' AU od d T'.dsk Al ps'/\T'.dsk.BS/\((c=0/\Uh T0 X V X' T')\/MU T0 X V bad c X' T')
def yS(w:World)(tg:Tags)(od d:Nat)(T0:S.Two)(V:S.Con)(bad:Prop)(c:Nat):Prop:=
 ∃T ids ps,AJ w tg od d T.dsk ids ps/\T.dsk.BS/\((c=9/\(∃x,S.Bld T0 T x)/\S.Full T0 V)\/(c=10/\S.Yy T0 T)\/(bad/\c=3/\∃x,S.Bld T0 T x))
theorem Fb.zAB(h:Fb w tg od d T0 V c)(bad:Prop):yS w tg od d T0 V bad c:=by
 obtain⟨T,ids,ps,h1,h2,h3⟩:=h;exact⟨T,ids,ps,h1,h2,h3.elim Or.inl (fun h=>Or.inr (Or.inl h))⟩
theorem Ty(hS:Ag w tg o s d X ids ps)(h3:yS w tg od d T0 V bad c)(hne:o≠od):
  Calls Tryz.prog 108 #[pT s,iT (c:Int)] w fun e w'=>∃(c1:Nat)(AU:Tags)(X':S.Sto)(T':S.Two)(Al ps':List Nat),e=.returned (iT (c1:Int))/\Kept (fun x=>x=o\/x=od) tg w AU w'/\Ag w' AU o s d X' ids ps/\AJ w' AU od d T'.dsk Al ps'/\T'.dsk.BS/\MU T0 X V bad c1 X' T':=by
 obtain⟨T,zIf,psT,hd,hF,hc⟩:=h3;apply(dX ⟨hS,hd,hF,hne⟩ (c:Int)).mono;rintro e w'⟨e1,he1,rfl,AU,dJ,zK,hB,hK⟩;rw[S.Two.Zn]at he1 hB;simp only at he1 hB;have h7:S.A8 7=0:=rfl;have h10:S.A8 10=10:=rfl;have h00:S.A8 0=0:=rfl;have kR:T.drop.2=10->S.Yy T0 T.drop.1->∃(c1:Nat)(X':S.Sto)(T':S.Two),e1=(c1:Int)/\Ag w' AU o s d X' ids ps/\AJ w' AU od d T'.dsk dJ zK/\T'.dsk.BS/\MU T0 X V bad c1 X' T':=fun g1 g2=>by
  rw[g1,h10,if_pos rfl]at he1;subst he1;refine⟨10,{ X with dead:=true },T.drop.1,rfl,?_,hB.disk,hB.fine,Or.inl ⟨rfl,rfl,g2⟩⟩;have:=hB.XH;simpa using this
 have hlive:(T.drop.2=0\/T.drop.2=7)->S.Bld T0 T.drop.1 none->c≠10->((c=9/\S.Full T0 V)\/(bad/\c=3))->∃(c1:Nat)(X':S.Sto)(T':S.Two),e1=(c1:Int)/\Ag w' AU o s d X' ids ps/\AJ w' AU od d T'.dsk dJ zK/\T'.dsk.BS/\MU T0 X V bad c1 X' T':=fun g1 g2 g3 g4=>by
  have hz:S.A8 T.drop.2=0:=by rcases g1 with g|g<;>rw[g]<;>assumption
  rw[hz,if_neg (by omega)]at he1;subst he1;refine⟨c,X,T.drop.1,rfl,?_,hB.disk,hB.fine,?_⟩
  .have:=hB.XH;rw[if_neg (by omega)]at this;exact this
  .rcases g4 with⟨g4,g5⟩|⟨g4,g5⟩
   .exact Or.inr (Or.inl ⟨g4,rfl,g2,g5⟩)
   .exact Or.inr (Or.inr ⟨g4,g5,rfl,g2⟩)
 have fin:∃(c1:Nat)(X':S.Sto)(T':S.Two),e1=(c1:Int)/\Ag w' AU o s d X' ids ps/\AJ w' AU od d T'.dsk dJ zK/\T'.dsk.BS/\MU T0 X V bad c1 X' T':=by
  rcases hc with⟨g1,⟨x,g2⟩,g3⟩|⟨g1,g2⟩|⟨g0,g1,x,g2⟩
  .rcases g2.gone with⟨k1,k2⟩|⟨k1,k2⟩
   .exact kR k1 k2
   .exact hlive k1 k2 (by omega) (Or.inl ⟨g1,g3⟩)
  .have:=g2.drop;refine kR (by rw[this]) (by rw[this];exact g2)
  .rcases g2.gone with⟨k1,k2⟩|⟨k1,k2⟩
   .exact kR k1 k2
   .exact hlive k1 k2 (by omega) (Or.inr ⟨g0,g1⟩)
 obtain⟨c1,X',T',rfl,f1,f2,f3,f4⟩:=fin;exact⟨c1,AU,X',T',dJ,zK,rfl,hK,f1,f2,f3,f4⟩
def endTags(n:Nat)(tg Cr:Tags)(o od ow j:Nat):Tags:=fun k=>if k<n then tg k else if(Cr k).1=ow then(o,(Cr k).2)else if(Cr k).1=o\/(Cr k).1=od then Cr k else(j,0)
theorem Kv{n:Nat}{k:Nat}(h:k<n):endTags n tg Cr o od ow j k=tg k:=by simp[endTags,h]
theorem QY(hl:Low m tg w)(ho:o<m)(hod:od<m)(hj:j<m):Low m (endTags w.heap.size tg Cr o od ow j) w':=fun k _=>by
 unfold endTags;split
 .rename_i h;exact hl k h
 split
 .exact ho
 split
 .rename_i h;rcases h with h|h<;>rw[h]<;>assumption
 .exact hj
theorem Jo{k:Nat}(ht:∀k,k<w.heap.size->Cr k=tg k)(h1:ow≠o)(h2:ow≠od)(h:(Cr k).1=o\/(Cr k).1=od):endTags w.heap.size tg Cr o od ow j k=Cr k:=by
 unfold endTags;split
 .rename_i hk;exact(ht k hk).symm
 .have hne:¬(Cr k).1=ow:=fun e=>by
   rcases h with h|h
   .exact h1 (e.symm.trans h)
   .exact h2 (e.symm.trans h)
  rw[if_neg hne]
theorem Rw{X':S.Sto}(hl:Low m tg w)(ho:o<m)(hod:od<m)(hG:0<w.heap.size)(h1:ow≠o)(h2:ow≠od)(hK:Kept P tg w Cr w')(hP:∀k,k<w.heap.size->P (tg k).1->(tg k).1=o\/(tg k).1=od)(hS:Ag w' Cr o s d X' ids ps)(hD:AJ w' Cr od d T'.dsk Al ps')(hF:T'.dsk.BS)(hB:MU T0 X V bad c X' T'):He w tg o od m s d T0 X V bad (.returned (iT (c:Int))) w':=
 ⟨c,endTags w.heap.size tg Cr o od ow (tg 0).1,X',T',ids,ps,Al,ps',rfl,⟨hK.os,hK.tape,hK.output,hK.size,fun _ hk=>Kv hk,fun k hk hn=>hK.block k hk (fun h=>hn (hP k hk h))⟩,QY hl ho hod (hl _ hG),hS.retag (fun _ _ e=>Jo hK.tags h1 h2 (Or.inl e)),hD.retag (fun _ _ e=>Jo hK.tags h1 h2 (Or.inr e)),hF,Or.inr hB⟩
theorem YD{W:World}{EG:List BA}{bs':List (List Rec)}{Z:Nat->Prop}(hl:Low m tg w)(ho:o<m)(hod:od<m)(hG:0<w.heap.size)(h1:ow≠o)(h2:ow≠od)(h3:o≠od)(hK:Kept P tg w Cr W)(hP:∀k,k<w.heap.size->P (tg k).1->(tg k).1=o\/(tg k).1=od)(hS:Ag W Cr o s d X ids ps)(hsw:s<w.heap.size)(hW:DZ W Cr ow B d [] EG nw)(hrn:∀k,k<w.heap.size->(tg k).1≠ow)(hD:AJ W Cr od d T'.dsk Al ps')(hF:T'.dsk.BS)(hZ:∀k,Z k->w.heap.size<=k/\(Cr k).1≠od/\(Cr k).1≠ow)(hs:W.heap.size<=w'.heap.size)(hos:w'.os=W.os)(jy:w'.tape=W.tape)(hou:w'.output=W.output)(hb:∀k,k<W.heap.size->k≠s->¬Z k->w'.heap[k]?=W.heap[k]?)(hf:∀j,w'.frozen? (aD s j)=false)(yL:∀j,j<3->w'.cell? (aD s j)=W.cell? (aD s j))(c3:w'.cell? (aD s 3)=some (iT X.wm))(c4:w'.cell? (aD s 4)=W.cell? (aD B 4))(c5:w'.cell? (aD s 5)=W.cell? (aD B 5))(c6:w'.cell? (aD s 6)=some nS)(c7:w'.cell? (aD s 7)=some nS)(hfil:S.Fil CU bs' V)(hnw:S.Uf nw V)(hnl:nw.length<=209779)(hcap:T'.cap=T0.cap)(ha:T'.a=some (S.Aa bs' X.wm,(S.Aa bs' X.wm).length))(hbb:T'.b=none)(hde:T'.dead=false)(hfu:T0.Ae=0->T'.Ae=0):He w tg o od m s d T0 X V bad (.returned (iT 0)) w':=by
 obtain⟨a1,k1,r1,r2,r3⟩:=hW.nw.keys;obtain⟨a2,k2,s1,s2,s3⟩:=hW.nw.vals;have hrow:∀g u,g<W.heap.size->Cr g=(ow,u+1)->g≠s/\¬Z g/\endTags w.heap.size tg Cr o od ow (tg 0).1 g=(o,u+1):=fun g u hg e=>by
  have hgs:g≠s:=fun e2=>by rw[e2,hS.ts]at e;injection e with e;omega
  have hgR:¬Z g:=fun e2=>(hZ g e2).2.2 (by rw[e]);refine⟨hgs,hgR,?_⟩;unfold endTags;rw[if_neg (fun hk=>hrn g hk (by rw[<-hK.tags g hk,e])),if_pos (by rw[e]),e]
 have hsz:=hK.size;refine⟨0,endTags w.heap.size tg Cr o od ow (tg 0).1,X.laid nw,T',[],[],Al,ps',rfl,⟨hos.trans hK.os,jy.trans hK.tape,hou.trans hK.output,zLV hK.size hs,fun k hk=>Kv hk,fun k hk hn=>?_⟩,QY hl ho hod (hl _ hG),?_,?_,hF,Or.inl ⟨rfl,bs',nw,rfl,hfil,hnw,hnl,hcap,ha,hbb,hde,hfu⟩⟩
 .rw[hb k (by omega) (fun e=>hn (Or.inl (by rw[e,<-hK.tags s hsw,hS.ts]))) (fun e=>by have:=(hZ k e).1;omega)];exact hK.block k hk (fun h=>hn (hP k hk h))
 .refine⟨zLJ hS.top hs,?_,hf,(yL 0 (by omega)).trans hS.c0,(yL 1 (by omega)).trans hS.c1,(yL 2 (by omega)).trans hS.c2,c3,⟨zLJ hS.top hs,⟨a1,k1,c4.trans r1,Ai r2 (fun g hg=>?_),fun g hg=>?_⟩,⟨a2,k2,c5.trans s1,Ai s2 (fun g hg=>?_),fun g hg=>?_⟩,hW.nw.len⟩,Ka.empty (zLJ hS.top hs) c6 c7,List.nodup_nil,rfl,fun i p id kr h1=>by simp at h1⟩
  .rw[Kv hsw,<-hK.tags s hsw];exact hS.ts
  .have:=hrow g 0 (r2.lt g hg).2 (r3 g hg);exact hb g (r2.lt g hg).2 this.1 this.2.1
  .exact(hrow g 0 (r2.lt g hg).2 (r3 g hg)).2.2
  .have:=hrow g 1 (s2.lt g hg).2 (s3 g hg);exact hb g (s2.lt g hg).2 this.1 this.2.1
  .exact(hrow g 1 (s2.lt g hg).2 (s3 g hg)).2.2
 .refine(hD.keep (AU:=Cr) hs (fun _ _=>rfl) (fun k hk e=>hb k hk (fun e2=>by rw[e2,hS.ts]at e;exact h3 e) (fun e2=>(hZ k e2).2.1 e))).retag (fun k hk e=>Jo hK.tags h1 h2 (Or.inr e))
def yX(wS:World)(EQ:Tags)(P:Nat->Prop)(ow od B d:Nat)(T0:S.Two)(X:S.Sto)(C:S.Con)(kv:List S.Vs->Nat)(tg:Tags)(i:Nat)(W:World):Prop:=
 Kept P EQ wS tg W/\∃T GI LF nw,Wrt W tg ow od B d T0 T GI LF (S.Eu X C kv i) nw/\S.Uf nw (S.Eu X C kv i)
theorem yX.keep{wS:World}{EQ:Tags}{P Pk:Nat->Prop}{ow od B d:Nat}{T0:S.Two}{X:S.Sto}{C:S.Con}{kv:List S.Vs->Nat}{tg AR:Tags}{i:Nat}{W W1:World}(h:yX wS EQ P ow od B d T0 X C kv tg i W)(k:Kept Pk tg W AR W1)(hk:∀x,Pk x->P x)(h1:¬Pk ow)(h2:¬Pk od)(hG:0<wS.heap.size)(h3:¬Pk (EQ 0).1):yX wS EQ P ow od B d T0 X C kv AR i W1:=by
 obtain⟨hK,T,GI,LF,nw,hW,hN⟩:=h;exact⟨hK.trans (k.wider hk),T,GI,LF,nw,hW.keep k h1 h2 (by rw[hK.tags _ hG];exact h3),hN⟩
theorem Mw(hX:X.keys.Pairwise S.Bc){y:BA}(hk:X.keys[i]?=some k)(h:S.Eu X C kv i y≠[]):S.Bc y k:=by
 have hm:=S.p9 h;obtain⟨hi,he⟩:=zLI.1 hk;obtain⟨j,hj,hje⟩:=List.mem_iff_getElem.1 hm;rw[zM6]at hj;rw[List.getElem_take]at hje;have:=zM3.1 hX j i (by omega) hi (by omega);rw[hje,he]at this;exact this
theorem wP{T:S.Two}{GI:List (List Rec)}{LF:List Rec}(hX:X.Good bs C)(hk:X.keys[i]?=some k)(hW:Wrt w tg ow od B d T0 T GI LF (S.Eu X C kv i) nw)(hN:S.Uf nw (S.Eu X C kv i))(hm:m=kv (X.con C k))(hml:m<=(X.JG bs.flatten k).length)(hlen:(X.JG bs.flatten k).length<=140737488351232)(vo:Option Addr)(vc:Nat)(hrow:Rcs w vo (X.JG bs.flatten k))(htag:∀a,vo=some a->X.JG bs.flatten k≠[]->¬Wo ow od (tg a.block).1):
  Calls Tryz.prog 107 #[pT B,.slice vo m vc] w fun e w'=>Z7 w tg ow od B d T0 (S.Eu X C kv i) (S.Eu X C kv X.keys.length) nw k ((X.JG bs.flatten k).take m) ((X.con C k).take m) e w':=by
 have hl:((X.JG bs.flatten k).take m).length=m:=by rw[zM6];omega
 have hmem:∀x∈(X.JG bs.flatten k).take m,x.key=k/\x.fits=true:=fun x hx=>hX.qY (List.mem_of_mem_take hx);have hks:=hX.J9.1;have:=nX (V:=S.Eu X C kv X.keys.length) hW k ((X.JG bs.flatten k).take m) ((X.con C k).take m) (by omega) (fun x hx=>(hmem x hx).1) (fun x hx=>(hmem x hx).2) ((hX.dO k).sublist (List.take_sublist ..)) ((hX.tells k).take m) (S.jg hks hk) (fun x hx=>Mw hks hk (fun e=>by obtain⟨v,hv,_⟩:=hW.m.mem hx;rw[e]at hv;simp at hv)) (by rw[hm,<-S.Py hk];exact S.p8 (i+1)) hN.up (fun y hy=>Mw hks hk ((hN.key y).1 hy)) (by have:=hN.few hW.m (by have:=hW.total;omega);omega) vo vc ?_ ?_
 .rw[hl]at this;exact this
 .rcases hrow with h|⟨b,off,h1,h2,h3⟩
  .exact Or.inl (by rw[h,List.take_nil])
  .exact Or.inr ⟨b,off,h1,h2,fun j r hr=>h3 j r (by rw[List.getElem?_take]at hr;split at hr<;>simp_all)⟩
 .intro a ha hne;exact htag a ha (fun e=>hne (by rw[e,List.take_nil]))
theorem jf{wS:World}{EQ:Tags}{e:Ending}(hX:X.Good bs C)(hk:X.keys[i]?=some k)(hK:Kept P EQ wS tg w)(hP:∀x,Wo ow od x->P x)(hN:S.Uf nw (S.Eu X C kv i))(hm:m=kv (X.con C k))(h:Z7 w tg ow od B d T0 (S.Eu X C kv i) (S.Eu X C kv X.keys.length) nw k ((X.JG bs.flatten k).take m) ((X.con C k).take m) e w'):
  ∃(c:Nat)(AU:Tags),e=.returned (iT (c:Int))/\Kept (Wo ow od) tg w AU w'/\((c=0/\yX wS EQ P ow od B d T0 X C kv AU (i+1) w')\/(c≠0/\Fb w' AU od d T0 (S.Eu X C kv X.keys.length) c)):=by
 obtain⟨c,AU,rfl,hK2,hc⟩:=h;refine⟨c,AU,rfl,hK2,?_⟩;rcases hc with⟨h0,T',bs',fP,hW',_⟩|hst
 .refine Or.inl ⟨h0,hK.trans (hK2.wider hP),T',bs',fP,(match ((X.JG bs.flatten k).take m).head? with|none=>nw|some r=>nw++[(k,r.stamp)]),?_,?_⟩
  .rw[S.Py hk,<-hm];exact hW'
  .rw[S.Py hk,<-hm];exact hN.step (S.jg hX.J9.1 hk) (fun y hy=>Mw hX.J9.1 hk ((hN.key y).1 hy)) ((hX.tells k).take m).stamps
 .exact Or.inr hst
end
section
open Go.Shelf
attribute [local go_sem] Oper.semAt_some
def zo(wS:World)(EQ:Tags)(P:Nat->Prop)(o od s d R:Nat)(T0:S.Two)(X:S.Sto)(V:S.Con)(bad:Prop)(ids ps:List Nat)(tg:Tags)(W:World):Prop:=
 ∃(c:Nat)(X':S.Sto)(T':S.Two)(Al ps':List Nat),W.cell? (aD R 0)=some (iT (c:Int))/\Kept P EQ wS tg W/\Ag W tg o s d X' ids ps/\AJ W tg od d T'.dsk Al ps'/\T'.dsk.BS/\MU T0 X V bad c X' T'
theorem zo.keep{wS:World}{EQ:Tags}{P Pk:Nat->Prop}{o od s d R:Nat}{T0:S.Two}{X:S.Sto}{V:S.Con}{bad:Prop}{ids ps:List Nat}{tg AR:Tags}{W W1:World}(h:zo wS EQ P o od s d R T0 X V bad ids ps tg W)(k:Kept Pk tg W AR W1)(hk:∀x,Pk x->P x)(h1:¬Pk o)(h2:¬Pk od)(hR:R<wS.heap.size)(h3:¬Pk (EQ R).1):zo wS EQ P o od s d R T0 X V bad ids ps AR W1:=by
 obtain⟨c,X',T',Al,ps',hc,hK,hS,hD,hF,hB⟩:=h;refine⟨c,X',T',Al,ps',?_,hK.trans (k.wider hk),hS.keep k.size k.tags (fun i hi e=>k.block i hi (by rw[e];exact h1)),hD.keep k.size k.tags (fun i hi e=>k.block i hi (by rw[e];exact h2)),hF,hB⟩;exact(zMI (a:=(aD R 0)) (k.block R (zLJ hR hK.size) (by rw[hK.tags R hR];exact h3))).trans hc
theorem Kept.set{w:World}{tg:Tags}{R r:Nat}(h:(tg R).1=r)(v:Value):Kept (·=r) tg w tg (w.setCell (aD R 0) v):=
 ⟨rfl,rfl,rfl,by simp,fun _ _=>rfl,fun k _ hn=>heap_setCell_other _ (aD R 0) k _ (by intro e;subst e;exact hn h)⟩
theorem Vd{w:World}{base:Nat}{a:Addr}{cap:Nat}{L:List Rec}(h:w.ownsRow base 119 4 (.slice (some a) L.length cap) L.length (AY L)):(Value.slice (some a) L.length cap).ownBlock=some a.block:=by
 rcases h.2 with h2|⟨g,cap',cur,hv,_⟩
 .injection h2.1 with h3
  cases h3
 .injection hv with hv;injection hv with hv;subst hv;rfl
theorem Px{w:World}{tg:Tags}{o od m s d:Nat}{T0:S.Two}{X:S.Sto}{bs:List (List Rec)}{C:S.Con}{bad:Prop}{Nw:Int}{ids ps Al ps':List Nat}(h:Rdy w tg o od m s d T0 X bs C bad Nw ids ps Al ps'){kf:Nat}{kc:Array Value}(heg:∀(args:Array Value)(W:World),(callFunc kf args).run Tryz.prog W=.ok (.enter kf args) W){kv:List S.Vs->Nat}{kn:BA->Nat}(hkv:∀k,kn k=kv (X.con C k))(hkn:∀k,kn k<=(X.JG bs.flatten k).length)(hkp:∀(W:World)(AR:Tags),Ag W AR o s d X ids ps->(∀b,b<w.heap.size->¬((tg b).1=o\/(tg b).1=od)->W.heap[b]?=w.heap[b]?)->∀(k:BA)(vo:Option Addr)(vc:Nat),Rcs W vo (X.JG bs.flatten k)->(X.JG bs.flatten k).length<=140737488351232->(X.JG bs.flatten k).length<=vc->Calls Tryz.prog kf (#[.slice vo (X.JG bs.flatten k).length vc]++kc) W fun e w'=>e=.returned (.slice vo (kn k) vc)/\Q W w'):
  Calls Tryz.prog 80 #[pT s,(.func (.func kf) #[] kc)] w fun e w'=>He w tg o od m s d T0 X (S.Eu X C kv X.keys.length) bad e w':=by
 refine(callsIn_wide (n:=40)).1 ?_;refine callsIn_of_wp_marks Tryz.func80 rfl trivial ?_ rfl;simp only[Tryz.ntmps80,zLm,zLQ,zLW,Nat.reduceAdd,Nat.reduceSub,zLj,zLi,zLs,zLl,zLb,zLd];have hmx:Tryz.prog.follows .mixedOrders=true:=by kernel_rfl
 have c0:=h.XH.c0;have HR:=h_ h;have HKV:=h_2 hkv hkn;have HKP:Hid _:=hkp;have HEG:=h_ heg;clear hkv hkn hkp heg;have q3:Q w (((w.alloc (.cells #[pT s] 35)).alloc (.cells #[(.func (.func kf) #[] kc)] 163)).alloc (.cells #[iT 0] 41)):=(((Q.refl w).alloc _ _).alloc _ _).alloc _ _;have k0:=AA c0 q3;clear h;gi_wp2;refine⟨trivial,(Nk _ _ _).mono ?_⟩;rintro e w3⟨rfl,rfl⟩;gi_wp2;clear k0 q3;obtain⟨wl,hwl⟩:=ex (((((w.alloc (.cells #[pT s] 35)).alloc (.cells #[(.func (.func kf) #[] kc)] 163)).alloc (.cells #[iT 0] 41)).alloc (.cells #[pT d,nS,iT 0,nS,nS,nS] 165)).alloc (.cells #[pT s] 35));have PE:Q w wl:=by rw[hwl];exact(((((Q.refl w).alloc _ _).alloc _ _).alloc _ _).alloc _ _).alloc _ _
 have zAl:wl.heap.size=w.heap.size+5:=by rw[hwl];simp
 have hv0:Ca wl w.heap.size [pT s]:=by
  rw[hwl];exact(AZ w [pT s] 35).kept (((((Q.refl _).alloc _ _).alloc _ _).alloc _ _).alloc _ _)
 have hv1:Ca wl (w.heap.size+1) [(.func (.func kf) #[] kc)]:=by
  have:=(AZ (w.alloc (.cells #[pT s] 35)) [(.func (.func kf) #[] kc)] 163).kept ((((Q.refl _).alloc #[iT 0] 41).alloc #[pT d,nS,iT 0,nS,nS,nS] 165).alloc #[pT s] 35);rw[zMM]at this;rw[hwl];exact this
 have hv2:Ca wl (w.heap.size+2) [iT 0]:=by
  have:=(AZ ((w.alloc (.cells #[pT s] 35)).alloc (.cells #[(.func (.func kf) #[] kc)] 163)) [iT 0] 41).kept (((Q.refl _).alloc #[pT d,nS,iT 0,nS,nS,nS] 165).alloc #[pT s] 35);rw[zMM,zMM]at this;rw[hwl];exact this
 have hv3:Ca wl (w.heap.size+3) [pT d,nS,iT 0,nS,nS,nS]:=by
  have:=(AZ (((w.alloc (.cells #[pT s] 35)).alloc (.cells #[(.func (.func kf) #[] kc)] 163)).alloc (.cells #[iT 0] 41)) [pT d,nS,iT 0,nS,nS,nS] 165).kept ((Q.refl _).alloc #[pT s] 35);rw[zMM,zMM,zMM]at this;rw[hwl];exact this
 have zEQ:∀j,wl.frozen? (aD (w.heap.size+3) j)=false:=fun j=>by
  obtain⟨wz,hwz⟩:=ex ((((w.alloc (.cells #[pT s] 35)).alloc (.cells #[(.func (.func kf) #[] kc)] 163)).alloc (.cells #[iT 0] 41)));have hz:wz.heap.size=w.heap.size+3:=by rw[hwz];simp
  have h1:(wz.alloc (.cells #[pT d,nS,iT 0,nS,nS,nS] 165)).frozen? (aD wz.heap.size j)=false:=by simp
  rw[hwl,<-hwz,<-hz];exact(zML (a:=(aD wz.heap.size j)) (((Q.refl _).alloc #[pT s] 35).below.block _ (by simp))).trans h1
 have hv4:Ca wl (w.heap.size+4) [pT s]:=by
  have:=AZ ((((w.alloc (.cells #[pT s] 35)).alloc (.cells #[(.func (.func kf) #[] kc)] 163)).alloc (.cells #[iT 0] 41)).alloc (.cells #[pT d,nS,iT 0,nS,nS,nS] 165)) [pT s] 35;rw[zMM,zMM,zMM,zMM]at this;rw[hwl];exact this
 obtain⟨EQ,QC⟩:∃EQ:Tags,EQ=fun k=>if k<w.heap.size then tg k else if k=w.heap.size+2 then(m+6,0)else if k=w.heap.size+3 then(m,0)else(m+5,0):=⟨_,rfl⟩
 have Rb:∀k,k<w.heap.size->EQ k=tg k:=fun k hk=>by rw[QC];simp[hk]
 have zA:EQ (w.heap.size+2)=(m+6,0):=by rw[QC];show(if _ then _ else _)=_;rw[if_neg (by omega),if_pos rfl]
 have tT:EQ (w.heap.size+3)=(m,0):=by rw[QC];show(if _ then _ else _)=_;rw[if_neg (by omega),if_neg (by omega),if_pos rfl]
 have nu:∀k,w.heap.size<=k->k≠w.heap.size+2->k≠w.heap.size+3->EQ k=(m+5,0):=fun k h1 h2 h3=>by rw[QC];simp[Nat.not_lt.2 h1,h2,h3]
 have hG:=ES HR.out.tab;have fq:=HR.out.low _ hG;have zV:=HR.out.om;have dN:=HR.out.odm;have hne:=HR.out.ne;have ze:Ag wl EQ o s d X ids ps:=HR.out.XH.keep PE.below.size Rb (fun k hk _=>PE.below.block k hk);have hDl:AJ wl EQ od d T0.dsk Al ps':=HR.out.disk.keep PE.below.size Rb (fun k hk _=>PE.below.block k hk);have Ur:Tab wl:=CJ HR.out.tab PE;have uH:EQ 0=tg 0:=Rb _ hG;have hW0:Wrt wl EQ m od (w.heap.size+3) d T0 T0 [] [] (S.Eu X C kv 0) []:=by
  rw[S.Vx];refine⟨⟨hv3.1,tT,fun j=>?_,hv3.cell 0 rfl,⟨none,0,hv3.cell 1 rfl,World.ownsRow_nil _ _ _ _,fun g hg=>by simp[Value.ownBlock]at hg⟩,hv3.cell 2 rfl,⟨none,0,hv3.cell 3 rfl,World.ownsRow_nil _ _ _ _,fun g hg=>by simp[Value.ownBlock]at hg⟩,Ka.empty hv3.1 (hv3.cell 4 rfl) (hv3.cell 5 rfl)⟩,⟨Al,ps',hDl⟩,HR.out.fine,by omega,Ur,by rw[uH];exact⟨by omega,HR.out.FP.2⟩,S.Wri.start CU,⟨rfl,rfl,?_,HR.out.alive,fun e=>e⟩⟩
  .exact zEQ j
  .rw[HR.out.nob];rfl
 have hI0:yX wl EQ (fun x=>x=m\/x=od\/(m+1<=x/\x<=m+4)) m od (w.heap.size+3) d T0 X C kv EQ 0 wl:=⟨Kept.refl _ _ _,T0,[],[],[],hW0,by rw[S.Vx];exact S.Uf.none⟩;rw[<-hwl];clear hwl QC;refine Xk rfl (by omega) (gf:=133) (lb:=#[pT (w.heap.size+1+1+1+1)]) (by simp[Act.eval]) trivial (enters_of Tryz.func133 rfl rfl) X.keys.length (m+4) (fun x=>x=m+1\/x=m+2\/x=m+3) (Wo m od) (fun x=>x=m\/x=od\/x=o\/x=m+6) Qm (mo bad (m+1) X bs.flatten) EQ (by omega) (fun e=>by rcases e with e|e<;>omega) (by omega) (fun x e=>by rcases e with e|e<;>simp[e]) ?seq ?ps ?hG
  (fun AR i W=>yX wl EQ (fun x=>x=m\/x=od\/(m+1<=x/\x<=m+4)) m od (w.heap.size+3) d T0 X C kv AR i W) (fun c AR _ W=>c=.ret/\zo wl EQ (fun x=>x=m\/x=od\/(m+1<=x/\x<=m+4)\/x=o\/x=m+6) o od s d (w.heap.size+2) T0 X (S.Eu X C kv X.keys.length) bad ids ps AR W) ?hI ?hIx hI0
  (fun _ vs=>{ tmps:=#[pT s,(.func (.func kf) #[] kc),pT w.heap.size,pT (w.heap.size+1),pT (w.heap.size+1+1),pT (w.heap.size+1+1+1),vs.getD 0 undef,vs.getD 1 undef,undef,pT s,pT s,pT s,pT d,.agg #[pT d,nS,iT 0,nS,nS,nS],pT s,.func (.func 133) #[] #[pT (w.heap.size+1+1+1+1)],vs.getD 0 undef,vs.getD 1 undef,undef,undef,undef,undef,undef,undef,undef,undef,undef,undef,undef,undef,undef,undef,undef,undef,undef,undef,undef,undef,undef,undef,undef,undef,undef,undef,undef,undef,undef,undef,undef,undef,undef,undef,undef,undef,undef],defers:=[]}) ?assign ?body ?done ?stop
 case seq =>
  intro W1 AR hb1 hs1 ht1;have wb:∀k,k<wl.heap.size->W1.heap[k]?=wl.heap[k]?:=fun k hk=>hb1.block k hk;have hsz1:wl.heap.size<=W1.heap.size:=by omega
  have t1G:AR 0=tg 0:=(ht1 _ (by omega)).trans uH;have t14:AR (w.heap.size+4)=(m+5,0):=(ht1 _ (by omega)).trans (nu _ (by omega) (by omega) (by omega));exact Rz 39 (by omega) (so:=m+1) (sc:=m+2) (lo:=m+3) (Bs:=w.heap.size+4) (fun x=>x=m+1\/x=m+2\/x=m+3) (fun x=>Wo m od x\/x=m+4) (fun x=>(x=m\/x=od\/x=o\/x=m+6)\/x=m+4) (fun x e=>by rcases e with(e|e)|e<;>simp[e]) (ze.keep hsz1 ht1 (fun k hk _=>wb k hk)) HR.out.good (hDl.keep hsz1 ht1 (fun k hk _=>wb k hk)) HR.out.fine HR.out.on (Cu Ur (wb _ (by omega))) ((zMI (a:=(aD (w.heap.size+4) 0)) (wb (w.heap.size+4) (by omega))).trans (hv4.cell 0 rfl)) ⟨by omega,by rw[t14];intro e;rcases e with((e|e)|e)|e|e<;>simp at e<;>omega⟩ (by rw[t1G];have:=HR.out.FP;intro e;rcases e with((e|e)|e)|e|e<;>first|omega|exact this.2 e) (Or.inl rfl) (Or.inr (Or.inl rfl)) (Or.inr (Or.inr rfl)) (by omega) (by omega) (by omega) (fun x e1 e2=>by rcases e1 with e1|e1|e1<;>rcases e2 with(e2|e2|e2|e2)|e2<;>omega) (fun e=>by rcases e with((e|e)|e)|e|e<;>omega)
 case ps =>
  rintro AR i vs W (⟨k,vo,vc,_,rfl,_,_⟩|⟨_,rfl⟩)<;>rfl
 case hG =>
  rintro AR i vs A' D5 B' (⟨k,vo,vc,hk,rfl,hown,hgt⟩|⟨hb,rfl⟩) hkp
  .refine Or.inl ⟨k,vo,vc,hk,rfl,Ai hown (fun g hg=>hkp.block g (hown.lt g hg).2 (by rw[hgt g hg];omega)),fun g hg=>by rw[hkp.tags g (hown.lt g hg).2];exact hgt g hg⟩
  .exact Or.inr ⟨hb,rfl⟩
 case hI =>
  rintro AR i A' D5 B' hh hkp;refine hh.keep hkp (fun x e=>by rcases e with(e|e|e)|e<;>subst e<;>omega) (fun e=>by rcases e with(e|e|e)|e<;>omega) (fun e=>by rcases e with(e|e|e)|e<;>omega) (by omega) (by rw[uH];intro e;rcases e with(e|e|e)|e<;>omega)
 case hIx =>
  rintro c AR i A' D5 B'⟨hc,hh⟩hkp;exact⟨hc,hh.keep hkp (fun x e=>by rcases e with(e|e|e)|e<;>subst e<;>omega) (fun e=>by rcases e with(e|e|e)|e<;>omega) (fun e=>by rcases e with(e|e|e)|e<;>omega) (by omega) (by rw[zA];intro e;rcases e with(e|e|e)|e<;>simp at e)⟩
 case assign =>
  rintro l i AR vs W K (⟨k,vo,vc,_,rfl,_,_⟩|⟨_,rfl⟩) hK
  .simp only[zLa,zLe,zLY,zLZ,zLT]at hK;gi_wp2;exact hK
  .simp only[zLa,zLe,zLY,zLZ,zLT]at hK;gi_wp2;exact hK
 case body =>
  rintro l i AR vs W hl2 hI qw;obtain⟨hK,T,GI,LF,nw,hW,hN⟩:=hI;have hszW:=hK.size;have wW:∀k,k<wl.heap.size->¬((EQ k).1=m\/(EQ k).1=od\/(m+1<=(EQ k).1/\(EQ k).1<=m+4))->W.heap[k]?=wl.heap[k]?:=fun k h1 h2=>hK.block k h1 h2;have hSW:Ag W AR o s d X ids ps:=ze.keep hszW hK.tags (fun k hk e=>wW k hk (by rw[e];omega));have z0:W.cell? (aD w.heap.size 0)=some (pT s):=(zMI (a:=(aD w.heap.size 0)) (wW w.heap.size (by omega) (by rw[nu w.heap.size (by omega) (by omega) (by omega)];simp;omega))).trans (hv0.cell 0 rfl);have z1:W.cell? (aD (w.heap.size+1) 0)=some (.func (.func kf) #[] kc):=(zMI (a:=(aD (w.heap.size+1) 0)) (wW (w.heap.size+1) (by omega) (by rw[nu (w.heap.size+1) (by omega) (by omega) (by omega)];simp;omega))).trans (hv1.cell 0 rfl);have hb2:W.heap[w.heap.size+2]?=wl.heap[w.heap.size+2]?:=wW _ (by omega) (by rw[zA];simp;omega);have t0:AR w.heap.size=(m+5,0):=(hK.tags _ (by omega)).trans (nu _ (by omega) (by omega) (by omega));have t2:AR (w.heap.size+2)=(m+6,0):=(hK.tags _ (by omega)).trans zA;have Jk:Ca W (w.heap.size+2) [iT 0]:=hv2.of_block hb2 hszW;rcases qw with⟨k,vo,vc,hki,rfl,hown,hgt⟩|⟨hbad,rfl⟩
  .have hrc:=F8 hown;have Ze:=(HR.out.good.tells k).length;have Ef:=HR.out.good.fil;have hLen:=HR.out.kJ k;have QE:∀a,vo=some a->X.JG bs.flatten k≠[]->¬Wo m od (AR a.block).1:=fun a ha _=>by
    subst ha;have:=hgt a.block (Vd hown);rw[this];rintro(e|e)<;>omega
   have KP:Hid _:=fun(_:Unit)=>HKP.out W AR hSW (fun b hb hn=>(wW b (by have:=PE.below.size;omega) (by rw[Rb b hb];have:=HR.out.low b hb;omega)).trans (PE.below.block b hb)) k vo vc hrc hLen (Vb hown);have AD:Hid _:=fun(W':World)(q:Q W W')=>wP (B:=w.heap.size+1+1+1) HR.out.good hki (hW.kept q) hN (HKV.out.1 k) (HKV.out.2 k) hLen vo vc (hrc.kept q) QE;have HH:=h_4 hK hN hSW Jk;have HKI:=h_ hki;clear hK hN hW hSW hown hgt hrc Ef QE hki wW hb2 Jk;simp only[zLa,zLe,zLY,zLZ,zLT];gi_wp2;refine⟨trivial,?_⟩;rw[HEG.out];refine⟨fun _=>by omega,(CallsIn.inRound l (callsIn_wide.2 (KP.out ()))).mono ?_⟩;rintro e wk⟨rfl,qk⟩;have AD2:=hU (AD.out wk qk);have y0:=AA z0 qk;clear AD z1;gi_wp2;refine⟨trivial,(CallsIn.inRound l (callsIn_wide.2 (AD2.out ()))).mono ?_⟩;rintro e w5 hA;obtain⟨hK,hN,hSW,Jk⟩:=HH.out;obtain⟨c,JX,rfl,XO,hc⟩:=jf HR.out.good HKI.out (hK.trans (Kept.Be qk (fun _ _=>rfl))) (fun x e=>by rcases e with e|e<;>simp[e]) hN (HKV.out.1 k) hA;have hKb:Kept (Wo m od) AR W JX w5:=(Kept.Be qk (fun _ _=>rfl)).trans XO;have hS5:Ag w5 JX o s d X ids ps:=hSW.keep hKb.size hKb.tags (fun j hj e=>hKb.block j hj (by rw[e];rintro(e|e)<;>omega));have hv5:Ca w5 (w.heap.size+2) [iT 0]:=Jk.of_block (hKb.block _ Jk.1 (by rw[t2];rintro(e|e)<;>simp at e<;>omega)) hKb.size;have u0:w5.cell? (aD w.heap.size 0)=some (pT s):=(zMI (a:=(aD w.heap.size 0)) (hKb.block w.heap.size (Ei z0) (by rw[t0];rintro(e|e)<;>simp at e<;>omega))).trans z0;have t25:JX (w.heap.size+2)=(m+6,0):=(hKb.tags _ Jk.1).trans t2;have XM:=hK.trans (hKb.wider (R:=fun x=>x=m\/x=od\/(m+1<=x/\x<=m+4)) (fun x e=>by rcases e with e|e<;>simp[e]));have Qq:=h_5 hKb hS5 hv5 t25 XM;clear AD2 HH hA hK hN hSW Jk XO hKb hS5 hv5 y0 qk z0 t25 XM;by_cases hc0:c=0
   .subst hc0;have HI5:Hid (yX wl EQ (fun x=>x=m\/x=od\/(m+1<=x/\x<=m+4)) m od (w.heap.size+3) d T0 X C kv JX (i+1) w5):=by
     rcases hc with⟨_,h⟩|⟨h,_⟩
     .exact h
     .exact absurd rfl h
    clear hc;gi_wp2;exact⟨JX,Qq.out.1,rfl,HI5.out⟩
   ·(have hcI:¬(c:Int)=0:=by omega);have hcb:((c:Int) != 0)=true:=by simp[hc0]
    have hst:Fb w5 JX od d T0 (S.Eu X C kv X.keys.length) c:=by
     rcases hc with⟨h,_⟩|⟨_,h⟩
     .exact absurd h hc0
     .exact h
    have GU:=hU (Ty Qq.out.2.1 (hst.zAB bad) hne);clear hc hc0 hst;gi_wp2;refine⟨trivial,(CallsIn.inRound l (callsIn_wide.2 (GU.out ()))).mono ?_⟩;rintro e w6⟨c1,JW,X6,T6,Tm,o5,rfl,MZ,XK,hD6,uY,ku⟩;obtain⟨hKb,hS5,hv5,t25,XM⟩:=Qq.out;have hv6:Ca w6 (w.heap.size+2) [iT 0]:=hv5.of_block (MZ.block _ hv5.1 (by rw[t25];rintro(e|e)<;>simp at e<;>omega)) MZ.size;have t26:JW (w.heap.size+2)=(m+6,0):=(MZ.tags _ hv5.1).trans t25;have u2:w6.cell? (aD (w.heap.size+1+1) 0)=some (iT 0):=hv6.cell 0 rfl;have u3:w6.frozen? (aD (w.heap.size+1+1) 0)=false:=hv6.free 0 rfl;have hset:=Kept.set (w:=w6) (tg:=JW) (R:=w.heap.size+2) (r:=m+6) (by rw[t26]) (iT (c1:Int));have HX6:Hid (Kept (fun x=>x=m\/x=od\/x=o\/x=m+6) AR W JW (w6.setCell (aD (w.heap.size+1+1) 0) (iT (c1:Int)))/\zo wl EQ (fun x=>x=m\/x=od\/(m+1<=x/\x<=m+4)\/x=o\/x=m+6) o od s d (w.heap.size+2) T0 X (S.Eu X C kv X.keys.length) bad ids ps JW (w6.setCell (aD (w.heap.size+1+1) 0) (iT (c1:Int)))):=by
     refine⟨((hKb.wider (fun x e=>by rcases e with e|e<;>simp[e])).trans (MZ.wider (fun x e=>by rcases e with e|e<;>simp[e]))).trans (hset.wider (fun x e=>by simp[e])),c1,X6,T6,Tm,o5,zMJ _ _ _ u2,((XM.wider (fun x e=>by rcases e with e|e|e<;>simp[e])).trans (MZ.wider (fun x e=>by rcases e with e|e<;>simp[e]))).trans (hset.wider (fun x e=>by simp[e])),XK.keep hset.size hset.tags (fun j hj e=>hset.block j hj (by rw[e];omega)),hD6.keep hset.size hset.tags (fun j hj e=>hset.block j hj (by rw[e];omega)),uY,ku⟩
    clear GU hKb hS5 hv5 t25 XM MZ XK hD6 uY ku hv6 t26 hset;gi_wp2;exact⟨JW,HX6.out.1,rfl,HX6.out.2⟩
  .have hGU:yS W AR od d T0 (S.Eu X C kv X.keys.length) bad 3:=by
    obtain⟨zEN,psX,hdX⟩:=hW.disk;exact⟨T,zEN,psX,hdX,hW.fine,Or.inr (Or.inr ⟨hbad,rfl,_,hW.mF⟩)⟩
   have GU:=hU (Ty hSW hGU hne);have Qq:Hid (Kept (Wo m od) AR W AR W/\Ag W AR o s d X ids ps/\Ca W (w.heap.size+2) [iT 0]/\AR (w.heap.size+2)=(m+6,0)/\Kept (fun x=>x=m\/x=od\/(m+1<=x/\x<=m+4)) EQ wl AR W):=⟨Kept.refl _ _ _,hSW,Jk,t2,hK⟩;have u0:=z0;clear hGU hW hN hK hSW Jk wW hb2 z0 z1;simp only[zLa,zLe,zLY,zLZ,zLT];gi_wp2;refine⟨trivial,(CallsIn.inRound l (callsIn_wide.2 (GU.out ()))).mono ?_⟩;rintro e w6⟨c1,JW,X6,T6,Tm,o5,rfl,MZ,XK,hD6,uY,ku⟩;obtain⟨hKb,hS5,hv5,t25,XM⟩:=Qq.out;have hv6:Ca w6 (w.heap.size+2) [iT 0]:=hv5.of_block (MZ.block _ hv5.1 (by rw[t25];rintro(e|e)<;>simp at e<;>omega)) MZ.size;have t26:JW (w.heap.size+2)=(m+6,0):=(MZ.tags _ hv5.1).trans t25;have u2:w6.cell? (aD (w.heap.size+1+1) 0)=some (iT 0):=hv6.cell 0 rfl;have u3:w6.frozen? (aD (w.heap.size+1+1) 0)=false:=hv6.free 0 rfl;have hset:=Kept.set (w:=w6) (tg:=JW) (R:=w.heap.size+2) (r:=m+6) (by rw[t26]) (iT (c1:Int));have HX6:Hid (Kept (fun x=>x=m\/x=od\/x=o\/x=m+6) AR W JW (w6.setCell (aD (w.heap.size+1+1) 0) (iT (c1:Int)))/\zo wl EQ (fun x=>x=m\/x=od\/(m+1<=x/\x<=m+4)\/x=o\/x=m+6) o od s d (w.heap.size+2) T0 X (S.Eu X C kv X.keys.length) bad ids ps JW (w6.setCell (aD (w.heap.size+1+1) 0) (iT (c1:Int)))):=by
    refine⟨((hKb.wider (fun x e=>by rcases e with e|e<;>simp[e])).trans (MZ.wider (fun x e=>by rcases e with e|e<;>simp[e]))).trans (hset.wider (fun x e=>by simp[e])),c1,X6,T6,Tm,o5,zMJ _ _ _ u2,((XM.wider (fun x e=>by rcases e with e|e|e<;>simp[e])).trans (MZ.wider (fun x e=>by rcases e with e|e<;>simp[e]))).trans (hset.wider (fun x e=>by simp[e])),XK.keep hset.size hset.tags (fun j hj e=>hset.block j hj (by rw[e];omega)),hD6.keep hset.size hset.tags (fun j hj e=>hset.block j hj (by rw[e];omega)),uY,ku⟩
   clear GU hKb hS5 hv5 t25 XM MZ XK hD6 uY ku hv6 t26 hset;gi_wp2;exact⟨JW,HX6.out.1,rfl,HX6.out.2⟩
 case done =>
  rintro D2 AR W hD2 hI JN OW;obtain⟨hK,T,GI,LF,nw,hW,hN⟩:=hI;have hszW:=hK.size;have wW:∀k,k<wl.heap.size->¬((EQ k).1=m\/(EQ k).1=od\/(m+1<=(EQ k).1/\(EQ k).1<=m+4))->W.heap[k]?=wl.heap[k]?:=fun k h1 h2=>hK.block k h1 h2;have hSW:Ag W AR o s d X ids ps:=ze.keep hszW hK.tags (fun k hk e=>wW k hk (by rw[e];omega));have z0:W.cell? (aD w.heap.size 0)=some (pT s):=(zMI (a:=(aD w.heap.size 0)) (wW w.heap.size (by omega) (by rw[nu w.heap.size (by omega) (by omega) (by omega)];simp;omega))).trans (hv0.cell 0 rfl);have hb2:W.heap[w.heap.size+2]?=wl.heap[w.heap.size+2]?:=wW _ (by omega) (by rw[zA];simp;omega);have t0:AR w.heap.size=(m+5,0):=(hK.tags _ (by omega)).trans (nu _ (by omega) (by omega) (by omega));have t2:AR (w.heap.size+2)=(m+6,0):=(hK.tags _ (by omega)).trans zA;have Jk:Ca W (w.heap.size+2) [iT 0]:=hv2.of_block hb2 hszW;have z2:=hSW.c2;have Ef:=hN.few hW.m (by have:=hW.total;omega);have EN:Hid _:=fun(_:Unit)=>nW (V:=S.Eu X C kv X.keys.length) hW (fun _ _ h=>h) X.wm (by have:=HR.out.good.rP;have:=HR.out.good.lG;omega) HR.out.good.top;have HH:=h_5 hK hSW Jk hN Ef;clear hK hW hN hSW hb2 Jk wW Ef;gi_wp2;refine⟨trivial,(callsIn_wide.2 (EN.out ())).mono ?_⟩;rintro e w5⟨c,JX,rfl,hKb,hc⟩;obtain⟨hK,hSW,Jk,hN,Ef⟩:=HH.out;have hS5:Ag w5 JX o s d X ids ps:=hSW.keep hKb.size hKb.tags (fun j hj e=>hKb.block j hj (by rw[e];rintro(e|e)<;>omega));have hv5:Ca w5 (w.heap.size+2) [iT 0]:=Jk.of_block (hKb.block _ Jk.1 (by rw[t2];rintro(e|e)<;>simp at e<;>omega)) hKb.size;have u0:w5.cell? (aD w.heap.size 0)=some (pT s):=(zMI (a:=(aD w.heap.size 0)) (hKb.block w.heap.size (Ei z0) (by rw[t0];rintro(e|e)<;>simp at e<;>omega))).trans z0;have t25:JX (w.heap.size+2)=(m+6,0):=(hKb.tags _ Jk.1).trans t2;have hDl:D2<W.heap.size:=(zLM.1 OW).1;have gy:JX D2=(m+4,0):=(hKb.tags _ hDl).trans JN;have hD5:w5.heap[D2]?=some (.deferred (some [])):=(hKb.block D2 hDl (by rw[JN];rintro(e|e)<;>simp at e<;>omega)).trans OW;have XM:Kept (fun x=>x=m\/x=od\/(m+1<=x/\x<=m+4)) tg w JX w5:=(Kept.Be PE Rb).trans (hK.trans (hKb.wider (fun x e=>by rcases e with e|e<;>simp[e])));have Qq:Hid (Ag w5 JX o s d X ids ps/\Ca w5 (w.heap.size+2) [iT 0]/\JX (w.heap.size+2)=(m+6,0)/\Kept (fun x=>x=m\/x=od\/(m+1<=x/\x<=m+4)) tg w JX w5/\S.Uf nw (S.Eu X C kv X.keys.length)/\nw.length<=209779/\JX D2=(m+4,0)/\w5.heap[D2]?=some (.deferred (some []))):=⟨hS5,hv5,t25,XM,hN,Ef,gy,hD5⟩;clear EN HH hK hSW Jk hN Ef hKb OW hDl JN z0 z2 t0 t2 XM gy hD5;by_cases hc0:c=0
  .subst hc0;obtain⟨T5,bs5,dK,zL,g1,g2,g3,g4,g5,g6,g7,g8,g9⟩:∃(T':S.Two)(bs':List (List Rec))(ids ps:List Nat),AJ w5 JX od d T'.dsk ids ps/\T'.dsk.BS/\T'.cap=T0.cap/\T'.a=some (S.Aa bs' X.wm,(S.Aa bs' X.wm).length)/\T'.b=none/\T'.dead=false/\(T0.Ae=0->T'.Ae=0)/\S.Fil CU bs' (S.Eu X C kv X.keys.length)/\DZ w5 JX m (w.heap.size+3) d [] (S.IG bs') nw:=by
    rcases hc with⟨_,h⟩|⟨h,_⟩
    .exact h
    .exact absurd rfl h
   ((obtain⟨a4,k4,e4,_,_⟩:=g9.nw.keys;obtain⟨a5,k5,e5,_,_⟩:=g9.nw.vals;have fr:=hS5.fr;obtain⟨n4,m4,s4,_,_⟩:=hS5.nw.keys;obtain⟨n5,m5,s5,_,_⟩:=hS5.nw.vals;obtain⟨n6,m6,s6,_,_⟩:=hS5.pd.keys;obtain⟨n7,m7,s7,_,_⟩:=hS5.pd.vals;have s2:=hS5.c2;have s3:=hS5.c3;simp only[zM2]at e4 e5 s4 s5 s6 s7;have f3:=fr 3;have f4:=fr 4;have f5:=fr 5;have f6:=fr 6;have f7:=fr 7;have y2:w5.cell? (aD (w.heap.size+1+1) 0)=some (iT 0):=hv5.cell 0 rfl;have y3:w5.frozen? (aD (w.heap.size+1+1) 0)=false:=hv5.free 0 rfl;have HG5:Hid _:=And.intro g1 (And.intro g2 (And.intro g3 (And.intro g4 (And.intro g5 (And.intro g6 (And.intro g7 (And.intro g8 g9)))))));have hsl:s<w.heap.size:=HR.out.XH.top;have hsR:s≠w.heap.size+2:=by omega);have hs0:s≠w.heap.size:=by omega);have HFR:=h_ fr;clear hc g1 g2 g3 g4 g5 g6 g7 g8 g9 hS5 hv5 fr t25;gi_wp2;have E4:=h_ e4;have E5:=h_ e5;clear e4 e5;obtain⟨w6,V7⟩:=ex ((((w5.setCell (aD s 4) (.slice a4 nw.length k4)).setCell (aD s 5) (.slice a5 nw.length k5)).setCell (aD s 6) nS).setCell (aD s 7) nS);have hns:∀i j,i≠j->((aD s i):Addr)≠(aD s j):=fun i j hij e=>by injection e with _ e2;exact hij e2
   have zX:∀j,j≠4->j≠5->j≠6->j≠7->w6.cell? (aD s j)=w5.cell? (aD s j):=fun j h1 h2 h3 h4=>by
    rw[V7,zMH _ _ _ _ (hns _ _ (by omega)),zMH _ _ _ _ (hns _ _ (by omega)),zMH _ _ _ _ (hns _ _ (by omega)),zMH _ _ _ _ (hns _ _ (by omega))]
   have h6:∀k,k≠s->w6.heap[k]?=w5.heap[k]?:=fun k hk=>by
    rw[V7,heap_setCell_other _ (aD s 7) k _ (by simpa using hk),heap_setCell_other _ (aD s 6) k _ (by simpa using hk),heap_setCell_other _ (aD s 5) k _ (by simpa using hk),heap_setCell_other _ (aD s 4) k _ (by simpa using hk)]
   have kL:∀j,w6.frozen? (aD s j)=false:=fun j=>by
    rw[V7,zMK,zMK,zMK,zMK];exact HFR.out j
   have c67:w6.cell? (aD s 7)=some nS:=by
    rw[V7];exact zMJ _ _ _ (by rw[zMH _ _ _ _ (hns _ _ (by omega)),zMH _ _ _ _ (hns _ _ (by omega)),zMH _ _ _ _ (hns _ _ (by omega))];exact s7)
   have c66:w6.cell? (aD s 6)=some nS:=by
    rw[V7,zMH _ _ _ _ (hns _ _ (by omega))];exact zMJ _ _ _ (by rw[zMH _ _ _ _ (hns _ _ (by omega)),zMH _ _ _ _ (hns _ _ (by omega))];exact s6)
   have c65:w6.cell? (aD s 5)=some (.slice a5 nw.length k5):=by
    rw[V7,zMH _ _ _ _ (hns _ _ (by omega)),zMH _ _ _ _ (hns _ _ (by omega))];exact zMJ _ _ _ (by rw[zMH _ _ _ _ (hns _ _ (by omega))];exact s5)
   have c64:w6.cell? (aD s 4)=some (.slice a4 nw.length k4):=by
    rw[V7,zMH _ _ _ _ (hns _ _ (by omega)),zMH _ _ _ _ (hns _ _ (by omega)),zMH _ _ _ _ (hns _ _ (by omega))];exact zMJ _ _ _ s4
   ((have x0:w6.cell? (aD w.heap.size 0)=some (pT s):=(zMI (a:=(aD w.heap.size 0)) (h6 w.heap.size (fun e=>hs0 e.symm))).trans u0;have x2:w6.cell? (aD s 2)=some (iT X.wm):=(zX 2 (by omega) (by omega) (by omega) (by omega)).trans s2;have x3:w6.cell? (aD s 3)=some (iT X.fl):=(zX 3 (by omega) (by omega) (by omega) (by omega)).trans s3;have g3:=kL 3;have hb6:w6.heap[w.heap.size+2]?=w5.heap[w.heap.size+2]?:=h6 _ (fun e=>hsR e.symm);have yy2:w6.cell? (aD (w.heap.size+1+1) 0)=some (iT 0):=(zMI (a:=(aD (w.heap.size+1+1) 0)) hb6).trans y2;have yy3:w6.frozen? (aD (w.heap.size+1+1) 0)=false:=(zML (a:=(aD (w.heap.size+1+1) 0)) hb6).trans y3;have xI:w6.heap.size=w5.heap.size:=by rw[V7];simp);have zAy:w6.os=w5.os/\w6.tape=w5.tape/\w6.output=w5.output:=by rw[V7];exact⟨rfl,rfl,rfl⟩);have H6:Hid _:=And.intro zX (And.intro h6 (And.intro kL (And.intro c64 (And.intro c65 (And.intro c66 (And.intro c67 (And.intro xI zAy)))))));rw[<-V7];clear V7 zX h6 kL c64 c65 c66 c67 xI zAy hb6 s2 s3 s4 s5 s6 s7 f3 f4 f5 f6 f7 u0 y2 y3;refine wpIn_mono ?_ NoPanic.imp
   gi_region_o
   all_goals
    (((refine NoPanic.normal ?_;gi_wp2;obtain⟨zX,h6,kL,c64,c65,c66,c67,xI,YO,zES,zEc⟩:=H6.out;obtain⟨hS5,hv5,t25,XM,hN,Ef,gy,hD5⟩:=Qq.out;obtain⟨g1,g2,g3,g4,g5,g6,g7,g8,g9⟩:=HG5.out;have hDs:D2≠s:=fun e=>by have h1:=hS5.ts;rw[<-e,gy]at h1;injection h1 with h1;omega);have x9:D2≠w.heap.size+2:=fun e=>by rw[e,t25]at gy;injection gy with e1;omega);have hDl:D2<w5.heap.size:=(zLM.1 hD5).1;obtain⟨w8,hw8⟩:=ex (((w6.setCell (aD s 3) (iT X.wm)).setCell (aD (w.heap.size+1+1) 0) (iT 0)).drew);have qd:Q ((w6.setCell (aD s 3) (iT X.wm)).setCell (aD (w.heap.size+1+1) 0) (iT 0)) w8:=by rw[hw8];exact(Q.refl _).drew);have zEU:w5.heap.size<=w8.heap.size:=by have:=qd.below.size;simp at this;omega
    have h8:∀k,k<w5.heap.size->k≠s->k≠w.heap.size+2->w8.heap[k]?=w5.heap[k]?:=fun k hk h1 h2=>by
     rw[qd.below.block k (by simp;omega),heap_setCell_other _ (aD (w.heap.size+1+1) 0) k _ (by simpa using h2),heap_setCell_other _ (aD s 3) k _ (by simpa using h1)];exact h6 k h1
    have zIk:s<w5.heap.size:=hS5.top;have h8s:w8.heap[s]?=(w6.setCell (aD s 3) (iT X.wm)).heap[s]?:=by
     rw[qd.below.block s (by simp;omega),heap_setCell_other _ (aD (w.heap.size+1+1) 0) s _ (by simpa using hsR)]
    have c8:∀j,w8.cell? (aD s j)=(w6.setCell (aD s 3) (iT X.wm)).cell? (aD s j):=fun j=>zMI (a:=(aD s j)) h8s;have f8:∀j,w8.frozen? (aD s j)=false:=fun j=>by
     rw[zML (a:=(aD s j)) h8s,zMK];exact kL j
    (have c8o:∀j,j≠3->w8.cell? (aD s j)=w6.cell? (aD s j):=fun j hj=>by rw[c8 j,zMH _ _ _ _ (hns _ _ (by omega))]);have c83:w8.cell? (aD s 3)=some (iT X.wm):=by rw[c8 3];exact zMJ _ _ _ x3
    have c8R:w8.cell? (aD (w.heap.size+1+1) 0)=some (iT 0):=AA (zMJ _ _ _ (by rw[zMH _ _ _ _ (by intro e;injection e with e1;omega)];exact yy2)) qd;have zl:w8.heap[D2]?=some (.deferred (some [])):=(h8 D2 hDl hDs x9).trans hD5;have hcell:(w8.putObj D2 (.deferred none)).cell? (aD (w.heap.size+1+1) 0)=some (iT 0):=(zMI (a:=(aD (w.heap.size+1+1) 0)) (World.putObj_heap_other (fun e=>x9 e.symm))).trans c8R;have hps:(w8.putObj D2 (.deferred none)).heap[s]?=w8.heap[s]?:=World.putObj_heap_other (fun e=>hDs e.symm);have pc:∀j,(w8.putObj D2 (.deferred none)).cell? (aD s j)=w8.cell? (aD s j):=fun j=>zMI (a:=(aD s j)) hps;have hpg:=grownBy_putObj' w8 D2 (.deferred none);have HE:Hid (He w tg o od m s d T0 X (S.Eu X C kv X.keys.length) bad (.returned (iT 0)) (w8.putObj D2 (.deferred none))):=by
     refine YD (ow:=m) (B:=w.heap.size+3) (W:=w5) (P:=fun x=>x=m\/x=od\/(m+1<=x/\x<=m+4)) (Z:=fun k=>k=w.heap.size+2\/k=D2) HR.out.low zV dN hG (by omega) (by omega) hne XM (fun k hk e=>by have:=HR.out.low k hk;rcases e with e|e|e<;>first|omega|exact Or.inr e) hS5 hsl g9 (fun k hk e=>by have:=HR.out.low k hk;omega) g1 g2 ?_ (zLV zEU hpg.size) ?_ ?_ ?_ ?_ ?_ ?_ ?_ ?_ ?_ ?_ ?_ g8 hN Ef g3 g4 g5 g6 g7
     .rintro k (e|e)
      .subst e;rw[t25];exact⟨by omega,by simp;omega,by simp⟩
      .subst e;rw[gy];exact⟨by omega,by simp;omega,by simp⟩
     .exact hpg.os.trans (qd.below.os.trans YO)
     .exact hpg.tape.trans (qd.below.tape.trans zES)
     .exact hpg.output.trans (qd.below.output.trans zEc)
     .intro k hk h1 h2;rw[World.putObj_heap_other (fun e=>h2 (Or.inr e))];exact h8 k hk h1 (fun e=>h2 (Or.inl e))
     .intro j;rw[zML (a:=(aD s j)) hps];exact f8 j
     .intro j hj;rw[pc j,c8o j (by omega)];exact zX j (by omega) (by omega) (by omega) (by omega)
     .rw[pc 3];exact c83
     .rw[pc 4,c8o 4 (by omega),c64];exact E4.out.symm
     .rw[pc 5,c8o 5 (by omega),c65];exact E5.out.symm
     .rw[pc 6,c8o 6 (by omega)];exact c66
     .rw[pc 7,c8o 7 (by omega)];exact c67
    refine⟨by simp,.inl ⟨_,_,rfl,run_takeDeferred (by rw[<-hw8];exact zl),?_⟩⟩;rw[<-hw8];exact⟨_,by simp[results,Tryz.results80,go_sem,hcell],HE.out⟩
  .have hcI:¬(c:Int)=0:=by omega
   have hcb:((c:Int) != 0)=true:=by simp[hc0]
   have hst:Fb w5 JX od d T0 (S.Eu X C kv X.keys.length) c:=by
    rcases hc with⟨h,_⟩|⟨_,h⟩
    .exact absurd h hc0
    .exact h
   have GU:=hU (Ty hS5 (hst.zAB bad) hne);clear hc hc0 hst hS5 hv5 t25;gi_wp2;refine⟨trivial,(callsIn_wide.2 (GU.out ())).mono ?_⟩;rintro e w6⟨c1,JW,X6,T6,Tm,o5,rfl,MZ,XK,hD6,uY,ku⟩;obtain⟨hS5,hv5,t25,XM,hN,Ef,gy,hD5⟩:=Qq.out;have hDl:D2<w5.heap.size:=(zLM.1 hD5).1;have hv6:Ca w6 (w.heap.size+2) [iT 0]:=hv5.of_block (MZ.block _ hv5.1 (by rw[t25];rintro(e|e)<;>simp at e<;>omega)) MZ.size;have t26:JW (w.heap.size+2)=(m+6,0):=(MZ.tags _ hv5.1).trans t25;have tD6:JW D2=(m+4,0):=(MZ.tags _ hDl).trans gy;have zBc:w6.heap[D2]?=some (.deferred (some [])):=(MZ.block D2 hDl (by rw[gy];rintro(e|e)<;>simp at e<;>omega)).trans hD5;have u2:w6.cell? (aD (w.heap.size+1+1) 0)=some (iT 0):=hv6.cell 0 rfl;have u3:w6.frozen? (aD (w.heap.size+1+1) 0)=false:=hv6.free 0 rfl;have hset:=Kept.set (w:=w6) (tg:=JW) (R:=w.heap.size+2) (r:=m+6) (by rw[t26]) (iT (c1:Int));have hput:=Kept.put (P:=(·=m+4)) (tg:=JW) (A:=w6.setCell (aD (w.heap.size+1+1) 0) (iT (c1:Int))) (l:=D2) (by rw[tD6]) (.deferred none);have x9:D2≠w.heap.size+2:=fun e=>by rw[e,t26]at tD6;injection tD6 with e1;omega
   have zFK:(w6.setCell (aD (w.heap.size+1+1) 0) (iT (c1:Int))).heap[D2]?=some (.deferred (some [])):=(heap_setCell_other _ (aD (w.heap.size+1+1) 0) D2 _ (by simpa using x9)).trans zBc;have hcell:((w6.setCell (aD (w.heap.size+1+1) 0) (iT (c1:Int))).putObj D2 (.deferred none)).cell? (aD (w.heap.size+1+1) 0)=some (iT (c1:Int)):=(zMI (a:=(aD (w.heap.size+1+1) 0)) (World.putObj_heap_other (fun e=>x9 e.symm))).trans (zMJ _ _ _ u2);have HE:Hid (He w tg o od m s d T0 X (S.Eu X C kv X.keys.length) bad (.returned (iT (c1:Int))) ((w6.setCell (aD (w.heap.size+1+1) 0) (iT (c1:Int))).putObj D2 (.deferred none))):=
    Rw (ow:=m) (P:=fun x=>x=m\/x=od\/(m+1<=x/\x<=m+4)\/x=o\/x=m+6) HR.out.low zV dN hG (by omega) (by omega) ((((XM.wider (fun x e=>by rcases e with e|e|e<;>simp[e])).trans (MZ.wider (fun x e=>by rcases e with e|e<;>simp[e]))).trans (hset.wider (fun x e=>by simp[e]))).trans (hput.wider (fun x e=>by simp[e]))) (fun k hk e=>by have:=HR.out.low k hk;rcases e with e|e|e|e|e<;>first|omega|exact Or.inl e|exact Or.inr e)
     ((XK.keep hset.size hset.tags (fun j hj e=>hset.block j hj (by rw[e];omega))).keep hput.size hput.tags (fun j hj e=>hput.block j hj (by rw[e];omega))) ((hD6.keep hset.size hset.tags (fun j hj e=>hset.block j hj (by rw[e];omega))).keep hput.size hput.tags (fun j hj e=>hput.block j hj (by rw[e];omega))) uY ku
   clear GU MZ XK hD6 uY ku hv6 t26 hset hput hS5 hv5 t25 XM tD6 gy hD5 zBc;gi_wp2;refine⟨by simp,.inl ⟨_,_,rfl,run_takeDeferred zFK,?_⟩⟩;exact⟨_,by simp[results,Tryz.results80,go_sem,hcell],HE.out⟩
 case stop =>
  rintro D2 c AR i W hD2⟨rfl,hx⟩JN OW;gi_wp2;refine⟨by simp,.inl ⟨_,_,rfl,run_takeDeferred OW,?_⟩⟩;obtain⟨c,X',T',Tm,o5,hcell0,hK,hS,hD,hF,hB⟩:=hx;have hput:=Kept.put (P:=(·=m+4)) (tg:=AR) (A:=W) (l:=D2) (by rw[JN]) (.deferred none);have t2:AR (w.heap.size+2)=(m+6,0):=(hK.tags _ (by omega)).trans zA;have x9:w.heap.size+2≠D2:=fun e=>by rw[<-e,t2]at JN;injection JN with e1;omega
  have hcell:(W.putObj D2 (.deferred none)).cell? (aD (w.heap.size+1+1) 0)=some (iT (c:Int)):=(zMI (a:=(aD (w.heap.size+1+1) 0)) (World.putObj_heap_other x9)).trans hcell0;exact⟨_,by simp[results,Tryz.results80,go_sem,hcell],Rw (ow:=m) (P:=fun x=>x=m\/x=od\/(m+1<=x/\x<=m+4)\/x=o\/x=m+6) HR.out.low zV dN hG (by omega) (by omega) ((Kept.Be PE Rb).trans (hK.trans (hput.wider (fun x e=>by simp[e])))) (fun k hk e=>by have:=HR.out.low k hk;rcases e with e|e|e|e|e<;>first|omega|exact Or.inl e|exact Or.inr e) (hS.keep hput.size hput.tags (fun j hj e=>hput.block j hj (by rw[e];omega))) (hD.keep hput.size hput.tags (fun j hj e=>hput.block j hj (by rw[e];omega))) hF hB⟩
end
section
variable{Al ids ps ps':List Nat}{C:S.Con}{Nw:Int}{T0:S.Two}{X:S.Sto}{bad:Prop}{bs:List (List Rec)}{d m o od s:Nat}{tg:Tags}{w:World}
theorem YE(h:Rdy w tg o od m s d T0 X bs C bad Nw ids ps Al ps'):
  Calls Tryz.prog 80 #[pT s,(.func (.func 81) #[] #[])] w fun e w'=>He w tg o od m s d T0 X (S.Eu X C List.length X.keys.length) bad e w':=
 Px h (enters_of Tryz.func81 rfl rfl) (kn:=fun k=>(X.JG bs.flatten k).length) (fun k=>(h.good.tells k).length.symm) (fun _=>zLK _) (fun W _ _ _ k vo vc _ _ _=>(yR _ W).mono (by
  rintro e w'⟨rfl,rfl⟩;exact⟨rfl,Q.refl _⟩))
theorem Vw(h:Rdy w tg o od m s d T0 X bs C bad Nw ids ps Al ps')(Bk:Nat)(kg:w.cell? (aD Bk 0)=some (pT s))(hBt:¬((tg Bk).1=o\/(tg Bk).1=od)):
  Calls Tryz.prog 80 #[pT s,(.func (.func 82) #[] #[pT Bk])] w fun e w'=>He w tg o od m s d T0 X (S.Eu X C (S.needs X.wm) X.keys.length) bad e w':=
 Px h (enters_of Tryz.func82 rfl rfl) (kn:=fun k=>Ip X.wm (X.JG bs.flatten k)) (fun k=>by
  obtain⟨fe,hfe⟩:=h.good.tells k ⟨#[]⟩;exact S.Pj hfe) (fun _=>ZR _ _) (fun W _ hSW hW k vo vc hrc hLen hle=>Qe hSW ((zMI (a:=(aD Bk 0)) (hW Bk (Ei kg) hBt)).trans kg) (X.JG bs.flatten k) hLen vo vc hrc hle)
end
section
open Go.Shelf
attribute [local go_sem] Oper.semAt_some
def Drops(X:S.Sto)(C:S.Con):Prop:=∃k,S.needs X.wm (X.con C k)<(X.con C k).length
def nD(X:S.Sto)(C:S.Con)(bad:Prop)(w:World)(e:Ending)(w':World):Prop:=
 ∃(b:Bool)(c:Nat),e=.returned (.tuple #[.bool b,iT (c:Int)])/\Q w w'/\((c=0/\(b=true↔Drops X C))\/(bad/\c=3/\b=false))
def yw(wS:World)(EQ:Tags)(P:Nat->Prop)(A B:Nat)(X:S.Sto)(C:S.Con)(bad:Prop)(tg:Tags)(W:World):Prop:=
 ∃(b:Bool)(c:Nat),W.cell? (aD A 0)=some (.bool b)/\W.cell? (aD B 0)=some (iT (c:Int))/\Kept P EQ wS tg W/\((c=0/\b=true/\Drops X C)\/(bad/\c=3/\b=false))
theorem Kept.set2{w:World}{tg:Tags}{A B r:Nat}(h:(tg A).1=r)(h2:(tg B).1=r)(v u:Value):Kept (·=r) tg w tg ((w.setCell (aD A 0) v).setCell (aD B 0) u):=(Kept.set h v).trans (Kept.set h2 u)
theorem Kept.new{P:Nat->Prop}{tg AR:Tags}{w W:World}(h:Kept P tg w AR W)(hP:∀k,k<w.heap.size->¬P (tg k).1):Q w W:=⟨⟨h.os,h.tape,h.output,h.size,fun k hk=>h.block k hk (hP k hk)⟩⟩
theorem eF{w:World}{tg:Tags}{o od m s d:Nat}{T0:S.Two}{X:S.Sto}{bs:List (List Rec)}{C:S.Con}{bad:Prop}{Nw:Int}{ids ps Al ps':List Nat}(h:Rdy w tg o od m s d T0 X bs C bad Nw ids ps Al ps')(Bk:Nat)(kg:w.cell? (aD Bk 0)=some (pT s)):
  Calls Tryz.prog 84 #[pT s,(.func (.func 82) #[] #[pT Bk])] w fun e w'=>nD X C bad w e w':=by
 refine(callsIn_wide (n:=40)).1 ?_;refine callsIn_of_wp_marks Tryz.func84 rfl trivial ?_ rfl;simp only[Tryz.ntmps84,zLm,zLQ,zLW,Nat.reduceAdd,Nat.reduceSub,zLj,zLi,zLs,zLl,zLb,zLd];have hmx:Tryz.prog.follows .mixedOrders=true:=by kernel_rfl
 have HR:=h_ h;have HBK:=h_ kg;clear h kg;gi_wp2;refine⟨trivial,(Nk _ _ _).mono ?_⟩;rintro e w3⟨rfl,rfl⟩;gi_wp2;obtain⟨wl,hwl⟩:=ex ((((w.alloc (.cells #[(.func (.func 82) #[] #[pT Bk])] 163)).alloc (.cells #[.bool false] 4)).alloc (.cells #[iT 0] 41)).alloc (.cells #[pT s] 35));have PE:Q w wl:=by rw[hwl];exact((((Q.refl w).alloc _ _).alloc _ _).alloc _ _).alloc _ _
 have zAl:wl.heap.size=w.heap.size+4:=by rw[hwl];simp
 have hv0:Ca wl w.heap.size [(.func (.func 82) #[] #[pT Bk])]:=by
  rw[hwl];exact(AZ w [(.func (.func 82) #[] #[pT Bk])] 163).kept ((((Q.refl _).alloc _ _).alloc _ _).alloc _ _)
 have hv1:Ca wl (w.heap.size+1) [.bool false]:=by
  have:=(AZ (w.alloc (.cells #[(.func (.func 82) #[] #[pT Bk])] 163)) [.bool false] 4).kept (((Q.refl _).alloc #[iT 0] 41).alloc #[pT s] 35);rw[zMM]at this;rw[hwl];exact this
 have hv2:Ca wl (w.heap.size+2) [iT 0]:=by
  have:=(AZ ((w.alloc (.cells #[(.func (.func 82) #[] #[pT Bk])] 163)).alloc (.cells #[.bool false] 4)) [iT 0] 41).kept ((Q.refl _).alloc #[pT s] 35);rw[zMM,zMM]at this;rw[hwl];exact this
 have hv3:Ca wl (w.heap.size+3) [pT s]:=by
  have:=AZ (((w.alloc (.cells #[(.func (.func 82) #[] #[pT Bk])] 163)).alloc (.cells #[.bool false] 4)).alloc (.cells #[iT 0] 41)) [pT s] 35;rw[zMM,zMM,zMM]at this;rw[hwl];exact this
 obtain⟨EQ,QC⟩:∃EQ:Tags,EQ=fun k=>if k<w.heap.size then tg k else if k=w.heap.size+1\/k=w.heap.size+2 then(m+6,0)else(m+5,0):=⟨_,rfl⟩
 have Rb:∀k,k<w.heap.size->EQ k=tg k:=fun k hk=>by rw[QC];simp[hk]
 have zC:EQ (w.heap.size+1)=(m+6,0):=by rw[QC];show(if _ then _ else _)=_;rw[if_neg (by omega),if_pos (Or.inl rfl)]
 have tT:EQ (w.heap.size+2)=(m+6,0):=by rw[QC];show(if _ then _ else _)=_;rw[if_neg (by omega),if_pos (Or.inr rfl)]
 have nu:∀k,w.heap.size<=k->k≠w.heap.size+1->k≠w.heap.size+2->EQ k=(m+5,0):=fun k h1 h2 h3=>by rw[QC];show(if _ then _ else _)=_;rw[if_neg (by omega),if_neg (by omega)]
 have hG:=ES HR.out.tab;have fq:=HR.out.low _ hG;have zV:=HR.out.om;have dN:=HR.out.odm;have hne:=HR.out.ne;have ze:Ag wl EQ o s d X ids ps:=HR.out.XH.keep PE.below.size Rb (fun k hk _=>PE.below.block k hk);have hDl:AJ wl EQ od d T0.dsk Al ps':=HR.out.disk.keep PE.below.size Rb (fun k hk _=>PE.below.block k hk);have Ur:Tab wl:=CJ HR.out.tab PE;have uH:EQ 0=tg 0:=Rb _ hG;have hBl:wl.cell? (aD Bk 0)=some (pT s):=AA HBK.out PE;have tBk:(EQ Bk).1<m:=by rw[Rb Bk (Ei HBK.out)];exact HR.out.low Bk (Ei HBK.out)
 rw[<-hwl];clear hwl QC;refine Xk rfl (by omega) (gf:=133) (lb:=#[pT (w.heap.size+1+1+1)]) (by simp[Act.eval]) trivial (enters_of Tryz.func133 rfl rfl) X.keys.length (m+4) (fun x=>x=m+1\/x=m+2\/x=m+3) (fun _=>False) (fun x=>x=m+6) Qm (mo bad (m+1) X bs.flatten) EQ (by omega) (fun e=>e) (by omega) (fun x e=>e.elim) ?seq ?ps ?hG
  (fun AR i W=>Kept (fun x=>m+1<=x/\x<=m+4) EQ wl AR W/\∀(j:Nat)(k:BA),j<i->X.keys[j]?=some k->¬S.needs X.wm (X.con C k)<(X.con C k).length) (fun c AR _ W=>c=.ret/\yw wl EQ (fun x=>(m+1<=x/\x<=m+4)\/x=m+6) (w.heap.size+1) (w.heap.size+2) X C bad AR W) ?hI ?hIx ⟨Kept.refl _ _ _,fun j k hj _=>by omega⟩
  (fun _ vs=>{ tmps:=#[pT s,(.func (.func 82) #[] #[pT Bk]),undef,pT w.heap.size,pT (w.heap.size+1),pT (w.heap.size+1+1),vs.getD 0 undef,vs.getD 1 undef,pT s,.func (.func 133) #[] #[pT (w.heap.size+1+1+1)],vs.getD 0 undef,vs.getD 1 undef,undef,undef,undef,undef,undef,undef,undef,undef,undef,undef],defers:=[]}) ?assign ?body ?done ?stop
 case seq =>
  intro W1 AR hb1 hs1 ht1;have wb:∀k,k<wl.heap.size->W1.heap[k]?=wl.heap[k]?:=fun k hk=>hb1.block k hk;have hsz1:wl.heap.size<=W1.heap.size:=by omega
  have t1G:AR 0=tg 0:=(ht1 _ (by omega)).trans uH;have t14:AR (w.heap.size+3)=(m+5,0):=(ht1 _ (by omega)).trans (nu _ (by omega) (by omega) (by omega));exact Rz 39 (by omega) (so:=m+1) (sc:=m+2) (lo:=m+3) (Bs:=w.heap.size+3) (fun x=>x=m+1\/x=m+2\/x=m+3) (fun x=>False\/x=m+4) (fun x=>x=m+6\/x=m+4) (fun x e=>by rcases e with e|e<;>simp_all) (ze.keep hsz1 ht1 (fun k hk _=>wb k hk)) HR.out.good (hDl.keep hsz1 ht1 (fun k hk _=>wb k hk)) HR.out.fine HR.out.on (Cu Ur (wb _ (by omega))) ((zMI (a:=(aD (w.heap.size+3) 0)) (wb (w.heap.size+3) (by omega))).trans (hv3.cell 0 rfl)) ⟨by omega,by rw[t14];intro e;rcases e with(e|e)|e|e<;>simp at e⟩ (by rw[t1G];intro e;rcases e with(e|e)|e|e<;>omega) (Or.inl rfl) (Or.inr (Or.inl rfl)) (Or.inr (Or.inr rfl)) (by omega) (by omega) (by omega) (fun x e1 e2=>by rcases e1 with e1|e1|e1<;>rcases e2 with e2|e2<;>omega) (fun e=>by rcases e with(e|e)|e|e<;>omega)
 case ps =>
  rintro AR i vs W (⟨k,vo,vc,_,rfl,_,_⟩|⟨_,rfl⟩)<;>rfl
 case hG =>
  rintro AR i vs A' D5 B' (⟨k,vo,vc,hk,rfl,hown,hgt⟩|⟨hb,rfl⟩) hkp
  .refine Or.inl ⟨k,vo,vc,hk,rfl,Ai hown (fun g hg=>hkp.block g (hown.lt g hg).2 (by rw[hgt g hg];omega)),fun g hg=>by rw[hkp.tags g (hown.lt g hg).2];exact hgt g hg⟩
  .exact Or.inr ⟨hb,rfl⟩
 case hI =>
  rintro AR i A' D5 B'⟨hh,hn⟩hkp;exact⟨hh.trans (hkp.wider (fun x e=>by rcases e with(e|e|e)|e<;>subst e<;>omega)),hn⟩
 case hIx =>
  rintro c AR i A' D5 B'⟨hc,b,c',h1,h2,hh,hn⟩hkp;have hb:∀k,k<wl.heap.size->(EQ k).1=m+6->B'.heap[k]?=A'.heap[k]?:=fun k hk e=>hkp.block k (zLJ hk hh.size) (by rw[hh.tags k hk,e];omega);exact⟨hc,b,c',(zMI (a:=(aD (w.heap.size+1) 0)) (hb (w.heap.size+1) (by omega) (by rw[zC]))).trans h1,(zMI (a:=(aD (w.heap.size+2) 0)) (hb (w.heap.size+2) (by omega) (by rw[tT]))).trans h2,hh.trans (hkp.wider (fun x e=>by rcases e with(e|e|e)|e<;>subst e<;>omega)),hn⟩
 case assign =>
  rintro l i AR vs W K (⟨k,vo,vc,_,rfl,_,_⟩|⟨_,rfl⟩) hK
  .simp only[zLa,zLe,zLY,zLZ,zLT]at hK;gi_wp2;exact hK
  .simp only[zLa,zLe,zLY,zLZ,zLT]at hK;gi_wp2;exact hK
 case body =>
  rintro l i AR vs W hl2⟨hK,hn⟩qw;have hszW:=hK.size;have wW:∀k,k<wl.heap.size->¬(m+1<=(EQ k).1/\(EQ k).1<=m+4)->W.heap[k]?=wl.heap[k]?:=fun k h1 h2=>hK.block k h1 h2;have hSW:Ag W AR o s d X ids ps:=ze.keep hszW hK.tags (fun k hk e=>wW k hk (by rw[e];omega));have z0:W.cell? (aD w.heap.size 0)=some (.func (.func 82) #[] #[pT Bk]):=(zMI (a:=(aD w.heap.size 0)) (wW w.heap.size (by omega) (by rw[nu w.heap.size (by omega) (by omega) (by omega)];simp))).trans (hv0.cell 0 rfl);have qM:Ca W (w.heap.size+1) [.bool false]:=hv1.of_block (wW _ (by omega) (by rw[zC];simp)) hszW;have hvB:Ca W (w.heap.size+2) [iT 0]:=hv2.of_block (wW _ (by omega) (by rw[tT];simp)) hszW;have tA:AR (w.heap.size+1)=(m+6,0):=(hK.tags _ (by omega)).trans zC;have tB:AR (w.heap.size+2)=(m+6,0):=(hK.tags _ (by omega)).trans tT;rcases qw with⟨k,vo,vc,hki,rfl,hown,hgt⟩|⟨hbad,rfl⟩
  .have hrc:=F8 hown;have hLen:=HR.out.kJ k;have hBW:W.cell? (aD Bk 0)=some (pT s):=(zMI (a:=(aD Bk 0)) (wW Bk (Ei hBl) (by omega))).trans hBl;have KP:=hU (Qe hSW hBW (X.JG bs.flatten k) hLen vo vc hrc (Vb hown));obtain⟨fe,hfe⟩:=HR.out.good.tells k ⟨#[]⟩;have uK:Ip X.wm (X.JG bs.flatten k)=S.needs X.wm (X.con C k):=S.Pj hfe;have Ze:=(HR.out.good.tells k).length;have HH:=h_3 hK hn hki;rw[<-Ze];rw[uK,<-Ze]at KP;have HVA:=h_2 qM hvB;obtain⟨nn,hnn⟩:=ex (S.needs X.wm (X.con C k));obtain⟨ln,hln⟩:=ex ((X.con C k).length);rw[<-hnn,<-hln]at KP;rw[<-hln];have HNL:=h_2 hnn hln;clear hK hn hSW hown hgt hrc hki wW hfe uK hBW Ze qM hvB hnn hln;simp only[zLa,zLe,zLY,zLZ,zLT];gi_wp2;refine⟨trivial,(CallsIn.inRound l (callsIn_wide.2 (KP.out ()))).mono ?_⟩;rintro e wk⟨rfl,qk⟩;have a0:=(HVA.out.1.kept qk).cell 0 rfl;have a1:=(HVA.out.1.kept qk).free 0 rfl;have b0:=(HVA.out.2.kept qk).cell 0 rfl;have b1:=(HVA.out.2.kept qk).free 0 rfl;by_cases hlt:nn<ln
   .have I4:(nn:Int)<(ln:Int):=by omega
    have HX:Hid (Kept (fun x=>x=m+6) AR W AR ((wk.setCell (aD (w.heap.size+1) 0) (.bool true)).setCell (aD (w.heap.size+1+1) 0) (iT 0))/\yw wl EQ (fun x=>(m+1<=x/\x<=m+4)\/x=m+6) (w.heap.size+1) (w.heap.size+2) X C bad AR ((wk.setCell (aD (w.heap.size+1) 0) (.bool true)).setCell (aD (w.heap.size+1+1) 0) (iT 0))):=by
     have hset:=Kept.set2 (w:=wk) (tg:=AR) (A:=w.heap.size+1) (B:=w.heap.size+2) (r:=m+6) (by rw[tA]) (by rw[tB]) (.bool true) (iT 0);refine⟨(Kept.Be qk (fun _ _=>rfl)).trans hset,true,0,?_,?_,(HH.out.1.wider (fun x e=>Or.inl e)).trans (((Kept.Be qk (fun _ _=>rfl)).trans hset).wider (fun x e=>Or.inr e)),Or.inl ⟨rfl,rfl,k,by rw[<-HNL.out.1,<-HNL.out.2];exact hlt⟩⟩
     .exact(zMH _ _ _ _ (by intro e;injection e with e;omega)).trans (zMJ _ _ _ a0)
     .exact zMJ _ _ _ ((zMH _ _ _ _ (by intro e;injection e with e;omega)).trans b0)
    (have b0':(wk.setCell (aD (w.heap.size+1) 0) (.bool true)).cell? (aD (w.heap.size+1+1) 0)=some (iT 0):=(zMH _ _ _ _ (by intro e;injection e with e;omega)).trans b0;have b1':(wk.setCell (aD (w.heap.size+1) 0) (.bool true)).frozen? (aD (w.heap.size+1+1) 0)=false:=by rw[zMK];exact b1);clear b0 b1;gi_wp2;exact⟨AR,HX.out.1,rfl,HX.out.2⟩
   ·(have I4:¬(nn:Int)<(ln:Int):=by omega);clear a0 a1 b0 b1;gi_wp2;refine⟨AR,Kept.Be qk (fun _ _=>rfl),rfl,HH.out.1.trans (Kept.Be qk (fun _ _=>rfl)),fun j k' hj hk'=>?_⟩;by_cases hji:j=i
    .subst hji;rw[HH.out.2.2]at hk';injection hk' with hk';rw[<-hk',<-HNL.out.1,<-HNL.out.2];exact hlt
    .exact HH.out.2.1 j k' (by omega) hk'
  .have a0:=qM.cell 0 rfl;have a1:=qM.free 0 rfl;have b0:(W.setCell (aD (w.heap.size+1) 0) (.bool false)).cell? (aD (w.heap.size+1+1) 0)=some (iT 0):=(zMH _ _ _ _ (by intro e;injection e with e;omega)).trans (hvB.cell 0 rfl);have b1:(W.setCell (aD (w.heap.size+1) 0) (.bool false)).frozen? (aD (w.heap.size+1+1) 0)=false:=by rw[zMK];exact hvB.free 0 rfl
   have hset:=Kept.set2 (w:=W) (tg:=AR) (A:=w.heap.size+1) (B:=w.heap.size+2) (r:=m+6) (by rw[tA]) (by rw[tB]) (.bool false) (iT 3);have HX:Hid (Kept (fun x=>x=m+6) AR W AR ((W.setCell (aD (w.heap.size+1) 0) (.bool false)).setCell (aD (w.heap.size+1+1) 0) (iT 3))/\yw wl EQ (fun x=>(m+1<=x/\x<=m+4)\/x=m+6) (w.heap.size+1) (w.heap.size+2) X C bad AR ((W.setCell (aD (w.heap.size+1) 0) (.bool false)).setCell (aD (w.heap.size+1+1) 0) (iT 3))):=by
    refine⟨hset,false,3,?_,zMJ _ _ _ b0,(hK.wider (fun x e=>Or.inl e)).trans (hset.wider (fun x e=>Or.inr e)),Or.inr ⟨hbad,rfl,rfl⟩⟩;exact(zMH _ _ _ _ (by intro e;injection e with e;omega)).trans (zMJ _ _ _ a0)
   clear hset hK hn hSW qM hvB wW z0;simp only[zLa,zLe,zLY,zLZ,zLT];gi_wp2;exact⟨AR,HX.out.1,rfl,HX.out.2⟩
 case done =>
  rintro D2 AR W hD2⟨hK,hn⟩JN OW;have hszW:=hK.size;have qM:Ca W (w.heap.size+1) [.bool false]:=hv1.of_block (hK.block _ (by omega) (by rw[zC];simp)) hszW;have hvB:Ca W (w.heap.size+2) [iT 0]:=hv2.of_block (hK.block _ (by omega) (by rw[tT];simp)) hszW;have tA:AR (w.heap.size+1)=(m+6,0):=(hK.tags _ (by omega)).trans zC;have tB:AR (w.heap.size+2)=(m+6,0):=(hK.tags _ (by omega)).trans tT;have a0:=qM.cell 0 rfl;have a1:=qM.free 0 rfl;have b0:(W.setCell (aD (w.heap.size+1) 0) (.bool false)).cell? (aD (w.heap.size+1+1) 0)=some (iT 0):=(zMH _ _ _ _ (by intro e;injection e with e;omega)).trans (hvB.cell 0 rfl);have b1:(W.setCell (aD (w.heap.size+1) 0) (.bool false)).frozen? (aD (w.heap.size+1+1) 0)=false:=by rw[zMK];exact hvB.free 0 rfl
  obtain⟨w8,hw8⟩:=ex ((W.setCell (aD (w.heap.size+1) 0) (.bool false)).setCell (aD (w.heap.size+1+1) 0) (iT 0));have hset:Kept (·=m+6) AR W AR w8:=by rw[hw8];exact Kept.set2 (A:=w.heap.size+1) (B:=w.heap.size+2) (by rw[tA]) (by rw[tB]) (.bool false) (iT 0)
  have hput:=Kept.put (P:=(·=m+4)) (tg:=AR) (A:=w8) (l:=D2) (by rw[JN]) (.deferred none);have rC:D2≠w.heap.size+1:=fun e=>by rw[e,tA]at JN;injection JN with e1;omega
  have hDB:D2≠w.heap.size+2:=fun e=>by rw[e,tB]at JN;injection JN with e1;omega
  have zl:w8.heap[D2]?=some (.deferred (some [])):=(hset.block D2 (zLM.1 OW).1 (by rw[JN];simp)).trans OW;have cA:(w8.putObj D2 (.deferred none)).cell? (aD (w.heap.size+1) 0)=some (.bool false):=(zMI (a:=(aD (w.heap.size+1) 0)) (World.putObj_heap_other (fun e=>rC e.symm))).trans (by rw[hw8];exact(zMH _ _ _ _ (by intro e;injection e with e;omega)).trans (zMJ _ _ _ a0));have cB:(w8.putObj D2 (.deferred none)).cell? (aD (w.heap.size+1+1) 0)=some (iT 0):=(zMI (a:=(aD (w.heap.size+1+1) 0)) (World.putObj_heap_other (fun e=>hDB e.symm))).trans (by rw[hw8];exact zMJ _ _ _ b0);have HE:Hid (nD X C bad w (.returned (.tuple #[.bool false,iT 0])) (w8.putObj D2 (.deferred none))):=by
   refine⟨false,0,rfl,((Kept.Be PE Rb).trans ((hK.wider (R:=fun x=>m+1<=x) (fun x e=>e.1)).trans ((hset.wider (fun x e=>by show m+1<=x;omega)).trans (hput.wider (fun x e=>by show m+1<=x;omega))))).new (fun k hk e=>by have:=HR.out.low k hk;omega),Or.inl ⟨rfl,?_⟩⟩;constructor
   .intro e;cases e
   .rintro⟨k,hk⟩;have hkm:k∈X.keys:=(HR.out.good.J9.2.1 k).2 (fun e=>by rw[e]at hk;simp[S.needs]at hk);obtain⟨j,hj⟩:=List.mem_iff_getElem?.1 hkm;exact absurd hk (hn j k (zLI.1 hj).1 hj)
  clear hset hput hK hn qM hvB;gi_wp2;refine⟨by simp,.inl ⟨_,_,rfl,run_takeDeferred (by rw[<-hw8];exact zl),?_⟩⟩;rw[<-hw8];exact⟨_,by simp[results,Tryz.results84,go_sem,cA,cB],HE.out⟩
 case stop =>
  rintro D2 c AR i W hD2⟨rfl,b,c,h1,h2,hK,hx⟩JN OW;gi_wp2;refine⟨by simp,.inl ⟨_,_,rfl,run_takeDeferred OW,?_⟩⟩;have hput:=Kept.put (P:=(·=m+4)) (tg:=AR) (A:=W) (l:=D2) (by rw[JN]) (.deferred none);have tA:AR (w.heap.size+1)=(m+6,0):=(hK.tags _ (by omega)).trans zC;have tB:AR (w.heap.size+2)=(m+6,0):=(hK.tags _ (by omega)).trans tT;have rC:w.heap.size+1≠D2:=fun e=>by rw[<-e,tA]at JN;injection JN with e1;omega
  have hDB:w.heap.size+2≠D2:=fun e=>by rw[<-e,tB]at JN;injection JN with e1;omega
  have cA:(W.putObj D2 (.deferred none)).cell? (aD (w.heap.size+1) 0)=some (.bool b):=(zMI (a:=(aD (w.heap.size+1) 0)) (World.putObj_heap_other rC)).trans h1;have cB:(W.putObj D2 (.deferred none)).cell? (aD (w.heap.size+1+1) 0)=some (iT (c:Int)):=(zMI (a:=(aD (w.heap.size+1+1) 0)) (World.putObj_heap_other hDB)).trans h2;refine⟨_,by simp[results,Tryz.results84,go_sem,cA,cB],b,c,rfl,((Kept.Be PE Rb).trans ((hK.wider (R:=fun x=>m+1<=x) (fun x e=>by rcases e with e|e<;>omega)).trans (hput.wider (fun x e=>by show m+1<=x;omega)))).new (fun k hk e=>by have:=HR.out.low k hk;omega),?_⟩;rcases hx with⟨h3,h4,h5⟩|h3
  .exact Or.inl ⟨h3,fun _=>h5,fun _=>h4⟩
  .exact Or.inr h3
end
section
variable{AU Cr tg:Tags}{Al ids ps ps':List Nat}{C:S.Con}{D:M.Dsk}{F b:List Rec}{Nw wm:Int}{T0:S.Two}{X:S.Sto}{bad:Prop}{bs:List (List Rec)}{d i j k m n o od s:Nat}{r:Rec}{w w':World}
def S.Sto.asking(X:S.Sto)(k:BA)(t:Int):Int:=if X.dead=true then 10 else if¬(1<=k.size/\k.size<=64)then 11 else if t<X.wm\/t<0 then 12 else 0
def jL(c:Int):Ending:=.returned (.tuple #[eS,.bool false,iT c])
theorem S.Sto.Good.gm(h:X.Good bs C)(k:BA)(t:Int):(S.told (S.Ak (X.con C k) t)).1.size<=4096:=by
 obtain⟨e,he⟩:=h.tells k ⟨#[]⟩
 cases hf:S.Ak (X.con C k) t with
 |none=>exact zLS _
 |some v =>
  unfold S.Ak at hf;obtain⟨i,hi⟩:=List.mem_iff_getElem?.1 (List.mem_of_find?_eq_some hf);have hl:=(h.tells k).length;have hil:i<(X.JG bs.flatten k).length:=by rw[<-hl];exact(zLI.1 hi).1
  have hs:=(S.O3 he i _ v (zLH hil) hi).2;unfold S.Vs.size at hs;obtain⟨st,val⟩:=v
  cases val with
  |none=>exact zLS _
  |some s=>exact hs
theorem Tc(e0:Int)(he:e0≠10):Calls Tryz.prog 77 #[pT s,iT e0] w fun e w'=>e=.returned (.tuple #[])/\w'=w:=by
 have heb:(e0==10)=false:=by rw[zM9];exact he
 go_in;go_wp2_with fail;go_end0;exact⟨rfl,rfl⟩
theorem lC(h:Ag w tg o s d X ids ps)(hX:X.Good bs C)(hd:X.dead=false->AJ w AU od d D Al ps'/\D.BS/\MS bad D bs wm)(hT:Tab w)(k:BA)(t:Int):
  Calls Tryz.prog 49 #[pT s,sT k,iT t] w fun e w'=>(if X.asking k t=0 then(e=zA5 (S.told (S.Ak (X.con C k) t))\/(bad/\e=Wv))else e=jL (X.asking k t))/\Q w w':=by
 have c1:=h.c1;have c2:=h.c2;have IK:Hid _:=fun(W:World)=>Vz k W;unfold S.Sto.asking;by_cases hdd:X.dead=true
 .rw[if_pos hdd];rw[hdd]at c1;simp only[Int.reduceEq,if_false];unfold jL;go_in;go_wp2_with fail
  go_ret3
  exact⟨rfl,Q.refl w⟩
 .have hdf:X.dead=false:=by simpa using hdd
  rw[if_neg hdd];rw[hdf]at c1;obtain⟨hd1,hd2,hd3⟩:=hd hdf;by_cases hk:1<=k.size/\k.size<=64
  .rw[if_neg (by simpa using hk)];have hk2:decide (1<=k.size/\k.size<=64)=true:=decide_eq_true hk;rw[hk2]at IK;by_cases h1:t<X.wm
   .rw[if_pos (Or.inl h1)];simp only[Int.reduceEq,if_false];have h1d:decide (t<X.wm)=true:=decide_eq_true h1;unfold jL;have HA:Hid _:=And.intro c1 c2;go_in;go_wp2_with fail;apply(IK.out _).mono;rintro e w1⟨rfl,q1⟩;have k2:=AA c2 q1;go_wp2_with fail
    go_ret3
    exact⟨rfl,q1⟩
   .by_cases h0:t<0
    .rw[if_pos (Or.inr h0)];simp only[Int.reduceEq,if_false];have h1d:decide (t<X.wm)=false:=decide_eq_false h1;unfold jL;go_in;go_wp2_with fail;apply(IK.out _).mono;rintro e w1⟨rfl,q1⟩;have k2:=AA c2 q1;go_wp2_with fail
     go_ret3
     exact⟨rfl,q1⟩
    .rw[if_neg (by omega)];simp only[if_true];have SV:Hid _:=fun(W:World)(q:Q w W)=>aR (h.kept q) hX.ok (hd1.kept q) hd2 hd3 hX.fil (CJ hT q) (fun k hk=>hX.empty k hk) k t;have hlim:(S.told (S.Ak (X.con C k) t)).1.size<=281474976710656:=zLV (hX.gm k t) (by decide);rw[hX.vAt k t]at SV;obtain⟨tv,htv⟩:=xe (S.told (S.Ak (X.con C k) t));rw[htv]at SV hlim⊢;have CL:Hid _:=fun(W:World)=>Dr tv.1 W hlim;have CE:Hid _:=fun(W:World)=>Dr ⟨#[]⟩ W (by simp[ByteArray.size]);have MN:Hid _:=fun(W:World)(e0:Int)(he:e0≠10)=>Tc (w:=W) (s:=s) e0 he;unfold zA5 at*;go_in;go_wp2_with fail;apply(IK.out _).mono;rintro e w1⟨rfl,q1⟩;have k2:=AA c2 q1;have SV2:=hU (SV.out w1 q1);go_wp2_with fail;apply(SV2.out ()).mono;rintro e w2⟨hA,q2⟩;have q3:=q1.trans q2;rcases hA with rfl|⟨hbad,rfl⟩
     .go_wp2_with fail;apply(MN.out _ 0 (by decide)).mono;rintro e w3⟨rfl,rfl⟩;go_wp2_with fail;apply(CL.out _).mono;rintro e w4⟨rfl,b4⟩;go_wp2_with fail
      go_ret3
      exact⟨Or.inl rfl,q3.trans ⟨b4⟩⟩
     .unfold Wv;go_wp2_with fail;apply(MN.out _ 3 (by decide)).mono;rintro e w3⟨rfl,rfl⟩;go_wp2_with fail;apply(CE.out _).mono;rintro e w4⟨rfl,b4⟩;go_wp2_with fail
      go_ret3
      exact⟨Or.inr ⟨hbad,rfl⟩,q3.trans ⟨b4⟩⟩
  .rw[if_pos hk];simp only[Int.reduceEq,if_false];have hk2:decide (1<=k.size/\k.size<=64)=false:=decide_eq_false hk;rw[hk2]at IK;unfold jL;go_in;go_wp2_with fail;apply(IK.out _).mono;rintro e w1⟨rfl,q1⟩;go_wp2_with fail
   go_ret3
   exact⟨rfl,q1⟩
def junk(tg:Tags)(w:World):Tags:=tg.more w.heap.size (tg 0).1 0
theorem Rdy.q{w w':World}{tg:Tags}{o od m s d:Nat}{T0:S.Two}{X:S.Sto}{bs:List (List Rec)}{C:S.Con}{bad:Prop}{Nw:Int}{ids ps Al ps':List Nat}(h:Rdy w tg o od m s d T0 X bs C bad Nw ids ps Al ps')(q:Q w w'):Rdy w' (junk tg w) o od m s d T0 X bs C bad Nw ids ps Al ps':=by
 have hG:=ES h.tab;have ht:∀k,k<w.heap.size->junk tg w k=tg k:=fun k hk=>Tags.AQ hk;refine⟨h.XH.keep q.below.size ht (fun k hk _=>q.below.block k hk),h.disk.keep q.below.size ht (fun k hk _=>q.below.block k hk),h.fine,h.on,h.good,CJ h.tab q,by rw[ht _ hG];exact h.FP,h.ne,h.nob,h.alive,fun k _=>?_,h.om,h.odm,h.few⟩;by_cases hk2:k<w.heap.size
 .rw[ht k hk2];exact h.low k hk2
 .unfold junk;rw[Tags.Ay (by omega)];exact h.low _ hG
theorem He.after{w1:World}{V:S.Con}{e:Ending}(h:He w1 (junk tg w) o od m s d T0 X V bad e w')(q:Q w w1):He w tg o od m s d T0 X V bad e w':=by
 obtain⟨c,AU,X',T',ids,ps,Al,ps',he,hK,hl,r⟩:=h;exact⟨c,AU,X',T',ids,ps,Al,ps',he,(Kept.Be q (fun k hk=>Tags.AQ hk)).trans hK,hl,r⟩
theorem rJ(h:Rdy w tg o od m s d T0 X bs C bad Nw ids ps Al ps')(hd:X.dead=false)(hp:X.BI=true):
  Calls Tryz.prog 53 #[pT s] w fun e w'=>He w tg o od m s d T0 X (S.Eu X C List.length X.keys.length) bad e w':=by
 have c1:=h.XH.c1;rw[hd]at c1;have IP:=hU (GN h.XH);rw[hp]at IP;have LD:Hid _:=fun(W:World)(q:Q w W)=>YE (h.q q);clear h;go_in;go_wp2_with fail;apply(IP.out ()).mono;rintro e w1⟨rfl,q1⟩;have LD2:=hU (LD.out w1 q1);clear LD;go_wp2_with fail;apply(LD2.out ()).mono;rintro e w2 hL;have HL:=hL.after q1;obtain⟨c,rest⟩:=HL;obtain⟨AU,X',T',Q5,ps2,xC,ps3,rfl,hr⟩:=rest;have HE:Hid (He w tg o od m s d T0 X (S.Eu X C List.length X.keys.length) bad (.returned (iT (c:Int))) w2):=⟨c,AU,X',T',Q5,ps2,xC,ps3,rfl,hr⟩;clear LD2 hL hr;go_wp2;go_ret;exact HE.out
def yx(w:World)(tg:Tags)(o od m s d:Nat)(T0:S.Two)(X:S.Sto)(C:S.Con)(bad:Prop)(e:Ending)(w':World):Prop:=
 (¬Drops X C/\e=.returned (iT 0)/\Q w w')\/(bad/\e=.returned (iT 3)/\Q w w')\/(Drops X C/\He w tg o od m s d T0 X (S.Eu X C (S.needs X.wm) X.keys.length) bad e w')
theorem SS(h:Rdy w tg o od m s d T0 X bs C bad Nw ids ps Al ps')(hd:X.dead=false)(hp:X.BI=false):
  Calls Tryz.prog 55 #[pT s] w fun e w'=>yx w tg o od m s d T0 X C bad e w':=by
 have c1:=h.XH.c1;rw[hd]at c1;have q0:Q w (w.alloc (.cells #[pT s] 35)):=(Q.refl w).alloc _ _;have k1:=AA c1 q0;have IP:=hU (GN (h.XH.kept q0));rw[hp]at IP;have HR:=h_ h;have hv:=AZ w [pT s] 35;have HV:=h_ hv;clear h hv;go_in;go_wp2_with fail;apply(IP.out ()).mono;rintro e w1⟨rfl,q1⟩;have zI:=q0.trans q1;have b0:=(HV.out.kept q1).cell 0 rfl;have DR:=hU (eF (HR.out.q zI) w.heap.size b0);clear IP k1;go_wp2_with fail;apply(DR.out ()).mono;rintro e w2⟨b,c,rfl,q2,hc⟩;have qw2:=zI.trans q2;have b2:=AA b0 q2;clear DR b0;rcases hc with⟨rfl,hb⟩|⟨hbad,rfl,rfl⟩
 .cases b with
  |false =>
   ((have hnd:¬Drops X C:=fun e=>by have:=hb.2 e;cases this);have ME:Hid _:=fun(W:World)=>Tc (w:=W) (s:=s) 0 (by decide);have HN:=h_ hnd;clear hb hnd;go_wp2_with fail;apply(ME.out _).mono;rintro e w3⟨rfl,hw3⟩;have q3:Q w2 w3:=by rw[hw3];exact Q.refl _);clear ME hw3;go_wp2;go_ret;exact Or.inl ⟨HN.out,rfl,qw2.trans q3⟩
  |true =>
   have hyd:Drops X C:=hb.1 rfl;have HY:=h_ hyd;have hG:=ES HR.out.tab;have LD:Hid _:=fun(_:Unit)=>Vw (HR.out.q qw2) w.heap.size b2 (by unfold junk;rw[Tags.Ay (zLK _)];exact fun e=>e.elim HR.out.FP.1 HR.out.FP.2);clear hb hyd hG;go_wp2_with fail;apply(LD.out ()).mono;rintro e w3 hL;obtain⟨c,AU,X',T',Q5,ps2,xC,ps3,rfl,hr⟩:=hL.after qw2;have HE:Hid (He w tg o od m s d T0 X (S.Eu X C (S.needs X.wm) X.keys.length) bad (.returned (iT (c:Int))) w3):=⟨c,AU,X',T',Q5,ps2,xC,ps3,rfl,hr⟩;clear LD hL hr;go_wp2;go_ret;exact Or.inr (Or.inr ⟨HY.out,HE.out⟩)
 .have ME:Hid _:=fun(W:World)=>Tc (w:=W) (s:=s) 3 (by decide);have HB:Hid bad:=hbad;clear hbad;go_wp2_with fail;apply(ME.out _).mono;rintro e w3⟨rfl,hw3⟩;have q3:Q w2 w3:=by rw[hw3];exact Q.refl _
  clear ME hw3;go_wp2;go_ret;exact Or.inr (Or.inl ⟨HB.out,rfl,qw2.trans q3⟩)
theorem aX(h:Ag w tg o s d X ids ps)(hnu:S.DL (X.newest.map (·.1)))(key:BA)(hnl:∀y∈X.newest.map (·.1),S.Bc y key)(hnf:X.newest.length<=1048575)(st:Int):
  Calls Tryz.prog 64 #[.pointer (some (aD s 4)),sT key,iT st] w fun e w'=>e=.returned (.tuple #[])/\∃AU,(∀k,k<w.heap.size->AU k=tg k)/\Ag w' AU o s d { X with newest:=X.newest++[(key,st)]} ids ps/\Only o tg w w':=by
 have hp:S.QJ (X.newest.map (·.1)) key=false:=by
  cases hh:S.QJ (X.newest.map (·.1)) key with
  |false=>rfl
  |true=>exact absurd (hnl _ (S.Cn.1 hh)) (S.CW key)
 refine(zAY tg o s 4 1 (X.newest.map (·.1)) (BO (X.newest.map (·.2))) hnu (by simp;omega) key st hp hnl (P6 _) w h.nw ⟨by rw[h.ts];simp,by rw[h.ts];simp⟩ ⟨h.fr 4,h.fr 5⟩).mono ?_;rintro e w'⟨rfl,hN⟩;refine⟨rfl,h.Mc ?_⟩;have e1:Ah (X.newest.map (·.1)) (S.Et (X.newest.map (·.1)) key) key=(X.newest++[(key,st)]).map (·.1):=by
  rw[S.Ls hnl,KC];simp
 have e2:Ah (BO (X.newest.map (·.2))) (S.Et (X.newest.map (·.1)) key) (iT st)=BO ((X.newest++[(key,st)]).map (·.2)):=by
  have hle:(X.newest.map (·.1)).length=(BO (X.newest.map (·.2))).length:=by simp[BO]
  rw[S.Ls hnl,hle,KC];simp[BO]
 rw[e1,e2]at hN;exact hN
def ET(wm:Int)(F:List Rec)(n:Nat):S.Sto:=⟨false,wm,wm,S.news (F.take n),[]⟩
theorem ZW(hF:F.Pairwise S.Bef)(hl:F.length<=1048000)(hn:n<=F.length):(ET wm F n).Ok:=by
 obtain⟨h1,h2,_⟩:=S.OM hF n hn;refine⟨h1,List.Pairwise.nil,?_,zLS _,fun kr hkr=>(by cases hkr)⟩;have h3:=S.ZX (F:=F.take n) h1 (fun k hk=>(h2 k).1 hk);rw[zM2,zM6]at h3;show(S.news (F.take n)).length<=1048000
 omega
theorem Dz.jl{P:Nat->Prop}{ao:Option Addr}{l:List S.Ent}(h:Dz w ao l)(k:Kept P tg w AU w')(hP:∀g,ao=some (aD g 0)->¬P (tg g).1):Dz w' ao l:=by
 rcases h with h|⟨g,rfl,hg,hc⟩
 .exact Or.inl h
 .have hB:=k.block g hg (hP g rfl);have hx:∀j,w'.cell? (aD g j)=w.cell? (aD g j):=fun j=>zMI (a:=(aD g j)) hB;refine Or.inr ⟨g,rfl,zLJ hg k.size,fun i e he=>?_⟩;obtain⟨h0,h1,h2,h3⟩:=hc i e he;exact⟨(hx _).trans h0,(hx _).trans h1,(hx _).trans h2,(hx _).trans h3⟩
def zC8(D5:Tags)(w2:World)(o s d:Nat)(wm:Int)(F:List Rec)(at_:Nat->Nat)(n:Nat)(ti:Value)(wr:World):Prop:=
 ∃(i:Nat)(AR:Tags),ti=iT (i:Int)/\i<=n/\Kept (·=o) D5 w2 AR wr/\Ag wr AR o s d (ET wm F (at_ i)) [] []
theorem WO(h:bs[i]?=some b)(j:Nat)(hj:j<=b.length):bs.flatten.take ((bs.take i).flatten.length+j)=(bs.take i).flatten++b.take j:=by
 have hi:i<bs.length:=(zLI.1 h).1;have hb:bs[i]=b:=(zLI.1 h).2;have e:bs=bs.take i++b::bs.drop (i+1):=by rw[<-hb,List.getElem_cons_drop,zLq]
 have e2:bs.flatten=(bs.take i).flatten++(b++(bs.drop (i+1)).flatten):=by
  have:=congrArg List.flatten e;rw[List.flatten_append,zLz]at this;exact this
 rw[e2,List.take_append,zLP (by omega),Nat.add_sub_cancel_left,zLU hj]
theorem yD(h:bs[i]?=some b)(hj:b[j]?=some r):bs.flatten[(bs.take i).flatten.length+j]?=some r:=by
 have hi:i<bs.length:=(zLI.1 h).1;have hb:bs[i]=b:=(zLI.1 h).2;have e:bs=bs.take i++b::bs.drop (i+1):=by rw[<-hb,List.getElem_cons_drop,zLq]
 have e2:bs.flatten=(bs.take i).flatten++(b++(bs.drop (i+1)).flatten):=by
  have:=congrArg List.flatten e;rw[List.flatten_append,zLz]at this;exact this
 rw[e2,zMB (by omega),Nat.add_sub_cancel_left,zMA (zLI.1 hj).1];exact hj
theorem rO(h:bs[i]?=some b):(bs.take (i+1)).flatten.length=(bs.take i).flatten.length+b.length:=by
 rw[S.Ct h,List.flatten_append];simp
theorem wQ(hF:F.Pairwise S.Bef)(hr:F[n]?=some r):(S.BX (S.news (F.take n)) r.key).isSome=true/\S.news (F.take (n+1))=S.news (F.take n)\/(S.BX (S.news (F.take n)) r.key).isSome=false/\S.news (F.take (n+1))=S.news (F.take n)++[(r.key,r.stamp)]/\∀y∈(S.news (F.take n)).map (·.1),S.Bc y r.key:=by
 have hn:n<F.length:=(zLI.1 hr).1;obtain⟨h1,h2,h3⟩:=S.OM hF n (by omega);have e:=S.Ct hr;rw[e,S.Vl];unfold S.OO
 cases hl:S.BX (S.news (F.take n)) r.key with
 |some x =>
  left;rw[if_pos (S.Cs h1 hl).1];exact⟨rfl,rfl⟩
 |none =>
  right;rw[if_neg (by rw[S.Dt hl];simp)];refine⟨rfl,rfl,fun y hy=>?_⟩;obtain⟨x,hx,hxk⟩:=(h2 y).1 hy;have hb:S.Bef x r:=by
   have hp:(F.take (n+1)).Pairwise S.Bef:=hF.sublist (List.take_sublist ..);rw[e,zLh]at hp;exact hp.2.2 x hx r (by simp)
  rcases hb with hb|hb
  .rw[<-hxk];exact hb
  .have:=S.Dt hl;rw[S.Cn.2 ((h2 r.key).2 ⟨x,hx,hb.1⟩)]at this
   cases this
def mh(tg:Tags)(o s d:Nat)(bs:List (List Rec))(wm:Int)(bad:Prop)(w:World)(e:Ending)(w':World):Prop:=
 ∃AU,Kept (·=o) tg w AU w'/\((e=.returned (iT 0)/\Ag w' AU o s d (ET wm bs.flatten bs.flatten.length) [] [])\/(bad/\e=.returned (iT 3)))
theorem pW(h:Ag w tg o s d ⟨false,0,0,[],[]⟩ [] [])(hD:AJ w tg od d T0.dsk Al ps')(hF:T0.dsk.BS)(hO:MS bad T0.dsk bs wm)(hfil:S.Fil CU bs C)(hT:Tab w)(hG:(tg 0).1≠o)(Ef:bs.flatten.length<=1048000):
  Calls Tryz.prog 35 #[pT s] w fun e w'=>mh tg o s d bs wm bad w e w':=by
 have SR:=hU (Md tg od d T0.dsk Al ps' hF hO w hD hT);have c0:=h.c0;have HS:=h_ h;have Ut:=h_4 hfil hT hG Ef;clear h hD hF hO hfil hT hG Ef;go_in;go_wp2_with fail;apply(SR.out ()).mono;rintro e w1⟨hR,q1⟩;clear SR;rcases hR with⟨bl,ao,cap,hL,hb,rfl,hE,qb⟩|⟨hbad,rfl⟩
 .have hS1:=HS.out.kept q1;have s2:=hS1.c2;have s3:=hS1.c3;have f2:=hS1.fr 2;have f3:=hS1.fr 3;have hV:=AZ w1 [iT wm,sT bl,.slice ao bs.length cap] 112;have HL:Hid (JK bad bl bs/\bl.size<=1048576/\Dz w1 ao (S.CR 0 bs)/\(∀a,ao=some a->w.heap.size<=a.block)/\Q w w1/\Ca (w1.alloc (.cells #[iT wm,sT bl,.slice ao bs.length cap] 112)) w1.heap.size [iT wm,sT bl,.slice ao bs.length cap]):=⟨hL,hb,hE,qb,q1,hV⟩;have hsl:s<w1.heap.size:=hS1.top;clear hL hb hE qb q1 hS1 hV;unfold F3;go_upto_region 4 with fail
  go_region
  obtain⟨w2,hw2⟩:=ex ((((w1.setCell (aD s 2) (iT wm)).setCell (aD s 3) (iT wm)).alloc (.cells #[iT wm,sT bl,.slice ao bs.length cap] 112)).drew);obtain⟨J,hJ⟩:=ex ((tg 0).1);have hJo:J≠o:=by rw[hJ];exact Ut.out.2.2.1
  obtain⟨D5,dM⟩:=ex (tg.more w.heap.size J 0);have t2o:∀k,k<w.heap.size->D5 k=tg k:=fun k hk=>by rw[dM];exact Tags.AQ hk
  have t2n:∀k,w.heap.size<=k->D5 k=(J,0):=fun k hk=>by rw[dM];exact Tags.Ay hk
  have hns:∀i j,i≠j->((aD s i):Addr)≠(aD s j):=fun i j hij e=>by injection e with _ e2;exact hij e2
  have HW2:Hid (Kept (·=o) tg w D5 w2/\Ag w2 D5 o s d (ET wm bs.flatten 0) [] []/\Ca w2 w1.heap.size [iT wm,sT bl,.slice ao bs.length cap]/\Dz w2 ao (S.CR 0 bs)/\Tab w2):=by
   obtain⟨hL,hb,hE,qb,q1,hV⟩:=HL.out;have hS1:=HS.out.keep q1.below.size t2o (fun k hk _=>q1.below.block k hk);have qd:Q ((w1.setCell (aD s 2) (iT wm)).setCell (aD s 3) (iT wm)) w2:=by rw[hw2];exact((Q.refl _).alloc _ _).drew
   have hbl:∀k,k<w1.heap.size->k≠s->w2.heap[k]?=w1.heap[k]?:=fun k hk hn=>by
    rw[qd.below.block k (by simp;omega),heap_setCell_other _ (aD s 3) k _ (by simpa using hn),heap_setCell_other _ (aD s 2) k _ (by simpa using hn)]
   (((have hs2:w2.heap[s]?=((w1.setCell (aD s 2) (iT wm)).setCell (aD s 3) (iT wm)).heap[s]?:=qd.below.block s (by simp;omega);have cs:∀j,w2.cell? (aD s j)=((w1.setCell (aD s 2) (iT wm)).setCell (aD s 3) (iT wm)).cell? (aD s j):=fun j=>zMI (a:=(aD s j)) hs2;have cso:∀j,j≠2->j≠3->w2.cell? (aD s j)=w1.cell? (aD s j):=fun j h1 h2=>by rw[cs j,zMH _ _ _ _ (hns _ _ (by omega)),zMH _ _ _ _ (hns _ _ (by omega))]);have hsz:w1.heap.size<=w2.heap.size:=by have:=qd.below.size;simp at this;exact this);have hSt:=hS1.Wj (w':=w2) (Y:=ET wm bs.flatten 0) rfl rfl hsz hbl (fun j hj=>cso j (by omega) (by omega)) (fun j=>by rw[zML (a:=(aD s j)) hs2,zMK,zMK]) ((cso 0 (by omega) (by omega)).trans hS1.c0) ((cso 1 (by omega) (by omega)).trans hS1.c1) (by rw[cs 2,zMH _ _ _ _ (hns _ _ (by omega))];exact zMJ _ _ _ s2) (by rw[cs 3];exact zMJ _ _ _ ((zMH _ _ _ _ (hns _ _ (by omega))).trans s3));have kY:Kept (·=o) D5 w1 D5 w2:=⟨qd.below.os,qd.below.tape,qd.below.output,hsz,fun _ _=>rfl,fun k hk hn=>hbl k hk (fun e=>hn (by rw[e,hS1.ts]))⟩;have fq:=ES Ut.out.2.1;refine⟨(Kept.Be q1 t2o).trans kY,hSt,?_,hE.jl kY (fun g hg=>by rw[t2n g (qb _ hg)];exact hJo),Cu (CJ Ut.out.2.1 q1) (hbl _ (by have:=q1.below.size;omega) (fun e=>Ut.out.2.2.1 (by rw[e,HS.out.ts])))⟩;have hz:((w1.setCell (aD s 2) (iT wm)).setCell (aD s 3) (iT wm)).heap.size=w1.heap.size:=by simp);have hv:=(AZ ((w1.setCell (aD s 2) (iT wm)).setCell (aD s 3) (iT wm)) [iT wm,sT bl,.slice ao bs.length cap] 112).kept ((Q.refl _).drew);rw[hz]at hv;rw[hw2];exact hv
  have hWL:w.heap.size<=w1.heap.size:=HL.out.2.2.2.2.1.below.size;have l2:=HW2.out.2.2.1.cell 2 rfl;have HTT:=h_ t2n;rw[<-hw2];clear hw2 s2 s3 f2 f3 hns dM t2o t2n hJ;go_wp2_with fail;clear l2
  go_loopw [36] (fun ti wr=>zC8 D5 w2 o s d wm bs.flatten (fun i=>(bs.take i).flatten.length) bs.length ti wr) (fun ti _=>bs.length-(intOf ti).toNat)
  case atStart=>exact⟨0,D5,rfl,zLS _,Kept.refl _ _ _,by simpa using HW2.out.2.1⟩
  case round =>
   obtain⟨i,AR,rfl,hi,hK,hSt⟩:=hrel;obtain⟨hK0,_,hV2,hE2,qi⟩:=HW2.out;obtain⟨hL,hb,_,qb,q1,_⟩:=HL.out;have hVr:Ca wr w1.heap.size [iT wm,sT bl,.slice ao bs.length cap]:=hV2.of_block (hK.block _ hV2.1 (by rw[HTT.out _ hWL];exact hJo)) hK.size;have hEr:=hE2.jl hK (fun g hg=>by rw[HTT.out g (qb _ hg)];exact hJo);have fq:=ES Ut.out.2.1;have hG2:0<w2.heap.size:=zLJ fq hK0.size;have uH:D5 0=tg 0:=hK0.tags _ fq;have hTr:Tab wr:=Cu qi (hK.block _ hG2 (by rw[uH];exact Ut.out.2.2.1));by_cases hlt:i<bs.length
   ·(obtain⟨b,hbi⟩:∃b,bs[i]?=some b:=⟨_,zLH hlt⟩;have I4:(i:Int)<(bs.length:Int):=by omega);have zJI:=hL.few hb;have zJJ:b.length<=64:=(Ut.out.1.ok b (zLR hbi)).few;have BK:=hU (Kq hL hb Ut.out.1.ok wm ao cap i b hbi (hL.few hb) wr hEr hTr);unfold F3 at BK;have v0:=hVr.cell 0 rfl;have v1:=hVr.cell 1 rfl;have v2:=hVr.cell 2 rfl;have HST:=h_2 hK hSt;have HBI:=h_ hbi;clear hK hSt hK0 hV2 hE2 qi hL hb qb q1 hVr hEr hTr hbi fq hG2 uH;go_wp2_with fail;apply(BK.out ()).mono;rintro e w3⟨hB,q3⟩;clear BK v0 v1 v2;rcases hB with⟨bo,bc,base,rfl,hbase,hown⟩|⟨hbad,rfl⟩
    ·(obtain⟨aM,xG⟩:=ex (AR.more wr.heap.size J 0);have tRo:∀k,k<wr.heap.size->aM k=AR k:=fun k hk=>by rw[xG];exact Tags.AQ hk);have tRn:∀k,wr.heap.size<=k->aM k=(J,0):=fun k hk=>by rw[xG];exact Tags.Ay hk
     have HRc:Hid (Rcs w3 bo b/\∀a,bo=some a->b≠[]->wr.heap.size<=a.block):=⟨F8 hown,fun a ha _=>by
      subst ha;exact zLV hbase (hown.lt _ (Vd hown)).1⟩
     have nU:Hid (Kept (·=o) D5 w2 aM w3/\Ag w3 aM o s d (ET wm bs.flatten ((bs.take i).flatten.length+0)) [] []):=⟨HST.out.1.trans (Kept.Be q3 tRo),HST.out.2.keep q3.below.size tRo (fun k hk _=>q3.below.block k hk)⟩;have HTR:=h_ tRn;have hw3:wr.heap.size<=w3.heap.size:=q3.below.size;clear xG tRo tRn hown hbase q3;go_wp2_with fail
     go_loopw [50] (fun tj wq=>zC8 aM w3 o s d wm bs.flatten (fun j=>(bs.take i).flatten.length+j) b.length tj wq) (fun tj _=>b.length-(intOf tj).toNat)
     case atStart=>exact⟨0,aM,rfl,zLS _,Kept.refl _ _ _,nU.out.2⟩
     case round =>
      obtain⟨j,tgq,rfl,hj,zh,hSq⟩:=hrel;have hRr:Rcs wr bo b:=HRc.out.1.jl zh (fun a ha hne=>by rw[HTR.out _ (HRc.out.2 a ha hne)];exact hJo);by_cases hlj:j<b.length
      .obtain⟨g,off,hbo,hgw,nQ⟩:=hRr.at hlj;obtain⟨r,hr⟩:∃r,b[j]?=some r:=⟨_,zLH hlj⟩;obtain⟨c0',c1',c2',c3'⟩:=nQ j r hr;have hFr:=yD HBI.out hr;have zJ1:(j:Int)<(b.length:Int):=by omega
       have hnF:(bs.take i).flatten.length+j<bs.flatten.length:=(zLI.1 hFr).1;have hok:=ZW (wm:=wm) Ut.out.1.ord Ut.out.2.2.2 (Nat.le_of_lt hnF);have hks:r.key.size<=64:=by
        have hm:b∈bs:=zLR HBI.out;have:=(Ut.out.1.ok b hm).fits r (zLR hr);simp only[Rec.fits,zMF]at this;omega
       ((obtain⟨NV,V8⟩:=ex (tgq.more wr.heap.size J 0);have tao:∀k,k<wr.heap.size->NV k=tgq k:=fun k hk=>by rw[V8];exact Tags.AQ hk);have tan:∀k,wr.heap.size<=k->NV k=(J,0):=fun k hk=>by rw[V8];exact Tags.Ay hk);have qa:Q wr (wr.alloc (.cells #[sT r.key,iT r.stamp,iT r.kind,sT r.body] 119)):=(Q.refl wr).alloc _ _;have zf:Ag (wr.alloc (.cells #[sT r.key,iT r.stamp,iT r.kind,sT r.body] 119)) NV o s d (ET wm bs.flatten ((bs.take i).flatten.length+j)) [] []:=hSq.keep qa.below.size tao (fun k hk _=>qa.below.block k hk);have hKa:Kept (·=o) aM w3 NV (wr.alloc (.cells #[sT r.key,iT r.stamp,iT r.kind,sT r.body] 119)):=zh.trans (Kept.Be qa tao);have nL:=AZ wr [sT r.key,iT r.stamp,iT r.kind,sT r.body] 119;obtain⟨wa,Bp⟩:=ex (wr.alloc (.cells #[sT r.key,iT r.stamp,iT r.kind,sT r.body] 119));rw[<-Bp]at zf hKa nL;have n0:=nL.cell 0 rfl;have n1:=nL.cell 1 rfl;have GE:Hid _:=fun(W:World)(q:Q wa W)=>Jd (zf.kept q) hok r.key;have HSA:=h_2 zf hKa;have HOK:=h_ hok;have HTA:=h_ tan;subst hbo;have hnw:(ET wm bs.flatten ((bs.take i).flatten.length+j)).newest=S.news (bs.flatten.take ((bs.take i).flatten.length+j)):=rfl;rw[hnw]at GE;obtain⟨gv,hgv⟩:=ex ((S.BX (S.news (bs.flatten.take ((bs.take i).flatten.length+j))) r.key).getD 0);rw[<-hgv]at GE;rcases wQ Ut.out.1.ord hFr with⟨hso,hnews⟩|⟨hno,hnews,hless⟩
       .rw[hso]at GE;have vH:Hid (ET wm bs.flatten ((bs.take i).flatten.length+(j+1))=ET wm bs.flatten ((bs.take i).flatten.length+j)):=by
         (show ET _ _ _=ET _ _ _);unfold ET;rw[<-Nat.add_assoc,hnews]
        (clear zf hKa nL hSq zh hRr nQ hr hFr hok tao tan V8 qa hnw hgv hso hnews hnF hks;go_upto_region 14 with fail);rw[<-Bp];clear Bp
        go_region_held3 (fun w'=>w'.cell? (aD wr.heap.size 0)=some (sT r.key))
         (first|exact n0|exact Db)
         (first|(go_at_call 63;apply(GE.out _ ((Q.refl wa).drew)).mono;rintro e w4⟨rfl,q4⟩;have Kl:Q wa w4:=(Q.refl wa).drew.trans q4;have Db:w4.cell? (aD wr.heap.size 0)=some (sT r.key):=AA n0 Kl))
        all_goals
         (((have HRE:Hid (Kept (·=o) aM w3 NV w4/\Ag w4 NV o s d (ET wm bs.flatten ((bs.take i).flatten.length+(j+1))) [] []):=⟨HSA.out.2.trans (Kept.Be Kl (fun _ _=>rfl)),by rw[vH.out];exact HSA.out.1.kept Kl⟩;clear q4 Kl Db GE;go_wp2_with fail);go_roundw);case rel=>exact⟨j+1,NV,by go_num,by omega,HRE.out.1,HRE.out.2⟩);case measure=>simp[intOf];omega
       .rw[hno]at GE;have vH:Hid (ET wm bs.flatten ((bs.take i).flatten.length+(j+1))={ ET wm bs.flatten ((bs.take i).flatten.length+j)with newest:=(ET wm bs.flatten ((bs.take i).flatten.length+j)).newest++[(r.key,r.stamp)]}):=by
         (show ET _ _ _=_);unfold ET;rw[<-Nat.add_assoc,hnews]
        (have PN:Hid _:=fun(W:World)(q:Q wa W)=>aX (zf.kept q) hok.Qx r.key hless (by have:=hok.Pg;omega) r.stamp;have CL:Hid _:=fun(W:World)=>Dr r.key W (by omega);clear zf hKa nL hSq zh hRr nQ hr hFr hok tao tan V8 qa hnw hgv hno hnews hless hnF hks;go_upto_region 14 with fail);rw[<-Bp];clear Bp
        go_region_held3 (fun w'=>w'.cell? (aD wr.heap.size 0)=some (sT r.key))
         (first|exact n0|exact Db)
         (first|(go_at_call 63;apply(GE.out _ ((Q.refl wa).drew)).mono;rintro e w4⟨rfl,q4⟩;have Kl:Q wa w4:=(Q.refl wa).drew.trans q4;have Db:w4.cell? (aD wr.heap.size 0)=some (sT r.key):=AA n0 Kl))
        all_goals
         have m0:=AA n0 Kl;have m1:=AA n1 Kl;clear q4 Db GE n0 n1;go_upto_region 16 with fail
         go_region_held3 (fun w'=>w'.cell? (aD wr.heap.size 0)=some (sT r.key)/\w'.cell? (aD wr.heap.size 1)=some (iT r.stamp))
          (first|exact⟨m0,m1⟩|exact hS5|exact XK)
          (first|(go_at_call 40;apply(CL.out _).mono;rintro e w5⟨rfl,q5⟩;have nJ:Q w4 w5:=(Q.refl w4).drew.trans ⟨q5⟩;have hS5:w5.cell? (aD wr.heap.size 0)=some (sT r.key)/\w5.cell? (aD wr.heap.size 1)=some (iT r.stamp):=⟨AA m0 nJ,AA m1 nJ⟩)|(go_at_call 64;apply(PN.out _ (Kl.trans nJ)).mono;rintro e w6⟨rfl,JW,qN,zBR,YO⟩;have hb6:w6.heap[wr.heap.size]?=w5.heap[wr.heap.size]?:=YO.block _ (Ei hS5.1) (by rw[HTA.out _ (zLK _)];exact hJo);have XK:w6.cell? (aD wr.heap.size 0)=some (sT r.key)/\w6.cell? (aD wr.heap.size 1)=some (iT r.stamp):=⟨(zMI (a:=(aD wr.heap.size 0)) hb6).trans hS5.1,(zMI (a:=(aD wr.heap.size 1)) hb6).trans hS5.2⟩))
         all_goals
          (((have HRE:Hid (Kept (·=o) aM w3 JW w6/\Ag w6 JW o s d (ET wm bs.flatten ((bs.take i).flatten.length+(j+1))) [] []):=⟨(HSA.out.2.trans (Kept.Be (Kl.trans nJ) (fun _ _=>rfl))).trans (Kept.DI YO qN rfl),by rw[vH.out];exact zBR⟩;clear Kl nJ q5 hS5 XK zBR YO qN hb6 m0 m1 PN CL;go_wp2_with fail);go_roundw);case rel=>exact⟨j+1,JW,by go_num,by omega,HRE.out.1,HRE.out.2⟩);case measure=>simp[intOf];omega
      ·((((obtain rfl:j=b.length:=by omega);have HRO:Hid (Kept (·=o) D5 w2 tgq wr/\Ag wr tgq o s d (ET wm bs.flatten (bs.take (i+1)).flatten.length) [] []):=⟨nU.out.1.trans zh,by rw[rO HBI.out];exact hSq⟩;clear hRr zh hSq;go_wp2_with fail);go_roundw);case rel=>exact⟨i+1,tgq,by go_num,hlt,HRO.out.1,HRO.out.2⟩);case measure=>simp[intOf];omega
    .have HB:Hid bad:=hbad;have HKE:Hid (Kept (·=o) tg w AR w3):=(HW2.out.1.trans HST.out.1).trans (Kept.Be q3 (fun _ _=>rfl));clear hbad;go_wp2;go_ret;exact⟨AR,HKE.out,Or.inr ⟨HB.out,rfl⟩⟩
   ·(obtain rfl:i=bs.length:=by omega);have HEN:Hid (mh tg o s d bs wm bad w (.returned (iT 0)) wr):=⟨AR,hK0.trans hK,Or.inl ⟨rfl,by simpa using hSt⟩⟩;clear hK hSt hVr hEr hTr;go_wp2;go_ret;exact HEN.out
 .have HB:Hid bad:=hbad;have HQ:=h_ q1;clear hbad q1;unfold Mi;go_wp2;go_ret;exact⟨tg,Kept.Be (HQ.out.alloc _ _) (fun _ _=>rfl),Or.inr ⟨HB.out,rfl⟩⟩
def Hl(n:Nat)(tg Cr:Tags)(o od j:Nat):Tags:=fun k=>if k<n then tg k else if(Cr k).1=o\/(Cr k).1=od then Cr k else(j,0)
theorem Ya(h:k<n):Hl n tg Cr o od j k=tg k:=by simp[Hl,h]
theorem Yb(hl:Low m tg w)(ho:o<m)(hod:od<m)(hj:j<m):Low m (Hl w.heap.size tg Cr o od j) w':=fun k _=>by
 unfold Hl;split
 .rename_i h;exact hl k h
 split
 .rename_i h;rcases h with h|h<;>rw[h]<;>assumption
 .exact hj
theorem G7(ht:∀k,k<w.heap.size->Cr k=tg k)(h:(Cr k).1=o\/(Cr k).1=od):Hl w.heap.size tg Cr o od j k=Cr k:=by
 unfold Hl;by_cases hk:k<w.heap.size
 .rw[if_pos hk];exact(ht k hk).symm
 .rw[if_neg hk,if_pos h]
theorem Xe(h:D.BS):(S.settle D).1.BS:=by
 unfold S.settle;split
 .exact(h.sync Bw).remove A9
 .exact h.sync Bw
def yV(tg:Tags)(o od m d:Nat)(T0:S.Two)(bs:List (List Rec))(wm:Int)(bad:Prop)(w:World)(e:Ending)(w':World):Prop:=
 ∃(AU:Tags)(Al ps':List Nat),Kept (·=od) tg w AU w'/\Low m AU w' /\
  ((bad/\e=.returned (.tuple #[.pointer none,iT 3])/\AJ w' AU od d T0.dsk Al ps')
  \/ ((S.settle T0.dsk).2≠0/\e=.returned (.tuple #[.pointer none,iT ((S.settle T0.dsk).2:Nat)])/\AJ w' AU od d (S.settle T0.dsk).1 Al ps')
  \/ ((S.settle T0.dsk).2=0/\∃s,w.heap.size<=s/\e=.returned (.tuple #[pT s,iT 0])/\Ag w' AU o s d (ET wm bs.flatten bs.flatten.length) [] []/\AJ w' AU od d (S.settle T0.dsk).1 Al ps'))
theorem pE(hD:AJ w tg od d T0.dsk Al ps')(hF:T0.dsk.BS)(hO:MS bad T0.dsk bs wm)(hfil:S.Fil CU bs C)(hT:Tab w)(Ef:bs.flatten.length<=1048000)(hlow:Low m tg w)(ho:∀k,k<w.heap.size->(tg k).1≠o)(zV:o<m)(dN:od<m):
  Calls Tryz.prog 20 #[pT d] w fun e w'=>yV tg o od m d T0 bs wm bad w e w':=by
 have hG:=ES hT;have hGo:=ho _ hG;have hne:o≠od:=fun e=>ho d hD.map.top (by rw[hD.map.td,e]);obtain⟨J,hJ⟩:=ex ((tg 0).1);obtain⟨Oo,QD⟩:∃Oo:Tags,Oo=fun k=>if k<w.heap.size then tg k else if k=w.heap.size then(o,0)else(J,0):=⟨_,rfl⟩
 have tA0:∀k,k<w.heap.size->Oo k=tg k:=fun k hk=>by rw[QD];simp[hk]
 have tAs:Oo w.heap.size=(o,0):=by rw[QD];show(if _ then _ else _)=_;rw[if_neg (by omega),if_pos rfl]
 have qa:Q w (w.alloc (.cells #[pT d,.bool false,iT 0,iT 0,nS,nS,nS,nS] 84)):=(Q.refl w).alloc _ _;have hv:=AZ w [pT d,.bool false,iT 0,iT 0,nS,nS,nS,nS] 84;have hfr:∀j,(w.alloc (.cells #[pT d,.bool false,iT 0,iT 0,nS,nS,nS,nS] 84)).frozen? (aD w.heap.size j)=false:=fun j=>by simp
 have hS:Ag (w.alloc (.cells #[pT d,.bool false,iT 0,iT 0,nS,nS,nS,nS] 84)) Oo o w.heap.size d ⟨false,0,0,[],[]⟩ [] []:=
  ⟨hv.1,tAs,hfr,hv.cell 0 rfl,hv.cell 1 rfl,hv.cell 2 rfl,hv.cell 3 rfl,Ka.empty hv.1 (hv.cell 4 rfl) (hv.cell 5 rfl),Ka.empty hv.1 (hv.cell 6 rfl) (hv.cell 7 rfl),List.nodup_nil,rfl,fun i p id kr h1=>by simp at h1⟩
 have hDa:AJ (w.alloc (.cells #[pT d,.bool false,iT 0,iT 0,nS,nS,nS,nS] 84)) Oo od d T0.dsk Al ps':=hD.keep qa.below.size tA0 (fun k hk _=>qa.below.block k hk);have LO:Hid _:=fun(_:Unit)=>pW hS hDa hF hO hfil (CJ hT qa) (by rw[tA0 _ hG];exact hGo) Ef;have HK:Hid (Kept (fun x=>x=o\/x=od) tg w Oo (w.alloc (.cells #[pT d,.bool false,iT 0,iT 0,nS,nS,nS,nS] 84))):=Kept.Be qa tA0;have HDA:Hid _:=hDa;have HF:Hid T0.dsk.BS:=hF;have yh:Hid (Low m tg w/\(∀k,k<w.heap.size->(tg k).1≠o)/\J<m):=⟨hlow,ho,by rw[hJ];exact hlow _ hG⟩;have fin:∀(w':World)(Cr:Tags),Kept (fun x=>x=o\/x=od) tg w Cr w'->Kept (·=od) tg w (Hl w.heap.size tg Cr o od J) w'/\Low m (Hl w.heap.size tg Cr o od J) w':=fun w' Cr k=>⟨⟨k.os,k.tape,k.output,k.size,fun i hi=>Ya hi,fun i hi hn=>k.block i hi (fun e=>e.elim (yh.out.2.1 i hi) hn)⟩,Yb yh.out.1 zV dN yh.out.2.2⟩;have HFN:Hid (∀(w':World)(Cr:Tags),Kept (fun x=>x=o\/x=od) tg w Cr w'->Kept (·=od) tg w (Hl w.heap.size tg Cr o od J) w'/\Low m (Hl w.heap.size tg Cr o od J) w'):=fin;go_in;go_wp2_with fail;apply(LO.out ()).mono;rintro e w1⟨AR,hK1,hc⟩;have hKw:=HK.out.trans (hK1.wider (fun x e=>Or.inl e));have hD1:AJ w1 AR od d T0.dsk Al ps':=HDA.out.keep hK1.size hK1.tags (fun k hk e=>hK1.block k hk (by rw[e];exact fun e=>hne e.symm));rcases hc with⟨rfl,hS1⟩|⟨hbad,rfl⟩
 .have SE:=hU (af AR od d T0.dsk Al ps' HF.out w1 hD1);obtain⟨⟨D2,c2⟩,hse⟩:=ex (S.settle T0.dsk);have HSE:Hid (S.settle T0.dsk=(D2,c2)):=hse.symm;rw[<-hse]at SE;simp only at SE;have H1:Hid (Ag w1 AR o w.heap.size d (ET wm bs.flatten bs.flatten.length) [] []/\Kept (fun x=>x=o\/x=od) tg w AR w1):=⟨hS1,hKw⟩;go_wp2_with fail;apply(SE.out ()).mono;rintro e w2⟨rfl,D5,Q5,ps2,ht2,hL2,ho2⟩;have hK2:=H1.out.2.trans (Kept.DI ho2 ht2 (Or.inr rfl));have hS2:Ag w2 D5 o w.heap.size d (ET wm bs.flatten bs.flatten.length) [] []:=H1.out.1.keep ho2.size ht2 (fun k hk e=>ho2.block k hk (by rw[e];exact hne));have HE2:Hid (Kept (fun x=>x=o\/x=od) tg w D5 w2/\Ag w2 D5 o w.heap.size d (ET wm bs.flatten bs.flatten.length) [] []/\AJ w2 D5 od d D2 Q5 ps2):=⟨hK2,hS2,hL2⟩;by_cases hc0:c2=0
  .subst hc0;go_wp2_with fail;refine bodyPost_ret (v:=.tuple #[pT w.heap.size,iT 0]) (by simp[results,Tryz.results20,go_sem]) rfl ?_;obtain⟨hK2,hS2,hL2⟩:=HE2.out;obtain⟨f1,f2⟩:=HFN.out w2 D5 hK2;refine⟨_,Q5,ps2,f1,f2,Or.inr (Or.inr ⟨by rw[HSE.out],w.heap.size,zLK _,rfl,hS2.retag (fun k _ e=>G7 hK2.tags (Or.inl e)),?_⟩)⟩;rw[HSE.out];exact hL2.retag (fun k _ e=>G7 hK2.tags (Or.inr e))
  .have hcI:¬(c2:Int)=0:=by omega
   (have hcb:((c2:Int) != 0)=true:=by simp[hc0]);have yt:Hid (c2≠0):=hc0;go_wp2_with fail;refine bodyPost_ret (v:=.tuple #[.pointer none,iT (c2:Int)]) (by simp[results,Tryz.results20,go_sem]) rfl ?_;obtain⟨hK2,hS2,hL2⟩:=HE2.out;obtain⟨f1,f2⟩:=HFN.out w2 D5 hK2;refine⟨_,Q5,ps2,f1,f2,Or.inr (Or.inl ⟨by rw[HSE.out];exact yt.out,by rw[HSE.out],?_⟩)⟩;rw[HSE.out];exact hL2.retag (fun k _ e=>G7 hK2.tags (Or.inr e))
 .have HB:Hid bad:=hbad;have HE1:Hid (Kept (fun x=>x=o\/x=od) tg w AR w1/\AJ w1 AR od d T0.dsk Al ps'):=⟨hKw,hD1⟩;go_wp2_with fail;refine bodyPost_ret (v:=.tuple #[.pointer none,iT 3]) (by simp[results,Tryz.results20,go_sem]) rfl ?_;obtain⟨hK2,hL2⟩:=HE1.out;obtain⟨f1,f2⟩:=HFN.out w1 AR hK2;exact⟨_,Al,ps',f1,f2,Or.inl ⟨HB.out,rfl,hL2.retag (fun k _ e=>G7 hK2.tags (Or.inr e))⟩⟩
end
namespace S
variable{bs:List (List Rec)}{clock water:Int}{k:BA}
structure FD where
 key:BA
 stamp:Int
 value:BA
 there:Bool
def FD.vs(f:FD):Vs:=⟨f.stamp,if f.there=true then some f.value else none⟩
def fv(L:List FD)(k:BA):List Vs:=((L.filter fun f=>decide (f.key=k)).map FD.vs).reverse
theorem Tz(L:List FD)(f:FD)(k:BA):fv (L++[f]) k=if f.key=k then f.vs::fv L k else fv L k:=by
 unfold fv;rw[List.filter_append];by_cases h:f.key=k
 .rw[if_pos h];simp[h]
 .rw[if_neg h];simp[h]
theorem Zk{L:List FD}{v:Vs}(h:v∈fv L k):∃f∈L,f.key=k/\f.vs=v:=by
 unfold fv at h;rw[List.mem_reverse,List.mem_map]at h;obtain⟨f,hf,rfl⟩:=h;rw[List.mem_filter]at hf;exact⟨f,hf.1,by simpa using hf.2,rfl⟩
theorem lD(L:List FD)(k:BA):(fv L k).length<=L.length:=by
 unfold fv;rw[List.length_reverse,zM2];exact List.length_filter_le ..
def FD.cost(f:FD):Nat:=26+2*f.key.size+f.value.size
def Kw(L:List FD):Nat:=(L.map FD.cost).sum
theorem eU(L:List FD)(f:FD):Kw (L++[f])=Kw L+f.cost:=by simp[Kw]
theorem Ns:∀L:List FD,26*L.length<=Kw L
 |[]=>by simp
 |f::L=>by
  have:=Ns L;simp only[Kw,zLx,List.sum_cons,zLQ,FD.cost]at this⊢;omega
structure K8(L:List FD)(clock:Int):Prop where
 up:L.Pairwise fun a b=>a.stamp<b.stamp
 top:∀f∈L,0<=f.stamp/\f.stamp<=clock
 key:∀f∈L,1<=f.key.size/\f.key.size<=64
 val:∀f∈L,f.value.size<=4096
 gone:∀f∈L,f.there=false->f.value=⟨#[]⟩
theorem K8.snoc{L:List FD}(h:K8 L clock){f:FD}(h1:∀g∈L,g.stamp<f.stamp)(h0:0<=f.stamp)(h2:1<=f.key.size/\f.key.size<=64)(h3:f.value.size<=4096)(h4:f.there=false->f.value=⟨#[]⟩):K8 (L++[f]) f.stamp:=by
 have hm:∀x,x∈L++[f]->x∈L\/x=f:=fun x hx=>by simpa using hx
 refine⟨?_,fun x hx=>?_,fun x hx=>?_,fun x hx=>?_,fun x hx=>?_⟩
 .rw[zLh];refine⟨h.up,by simp,fun a ha b hb=>?_⟩;have:b=f:=by simpa using hb
  rw[this];exact h1 a ha
 .rcases hm x hx with hx|rfl
  .have:=h.top x hx;have:=h1 x hx;omega
  .omega
 .rcases hm x hx with hx|rfl
  .exact h.key x hx
  .exact h2
 .rcases hm x hx with hx|rfl
  .exact h.val x hx
  .exact h3
 .rcases hm x hx with hx|rfl
  .exact h.gone x hx
  .exact h4
theorem K8.falling{L:List FD}(h:K8 L clock)(k:BA):(fv L k).Pairwise fun a b=>b.stamp<a.stamp:=by
 unfold fv;rw[List.pairwise_reverse,List.pairwise_map];exact h.up.sublist List.filter_sublist
def Keeps(X:Sto)(C:Con)(L:List FD):Prop:=∀k,∃n,X.con C k=(fv L k).take n/\needs X.wm (fv L k)<=n
theorem Keeps.told{X:Sto}{C:Con}{L:List FD}(h:Keeps X C L){t:Int}(ht:X.wm<=t)(k:BA):told (Ak (X.con C k) t)=told (Ak (fv L k) t):=by
 obtain⟨n,h1,h2⟩:=h k;rw[h1,<-Mj ht ((fv L k).take n),Fz h2,List.take_take,Nat.min_eq_left h2];exact Mj ht _
theorem Keeps.mem{X:Sto}{C:Con}{L:List FD}(h:Keeps X C L){v:Vs}(hv:v∈X.con C k):v∈fv L k:=by
 obtain⟨n,h1,_⟩:=h k;rw[h1]at hv;exact List.mem_of_mem_take hv
theorem Keeps.raise{X:Sto}{C:Con}{L:List FD}(h:Keeps X C L)(hf:K8 L clock){t:Int}(ht:X.wm<=t):Keeps { X with wm:=t } C L:=fun k=>by
 obtain⟨n,h1,h2⟩:=h k;exact⟨n,h1,zLV (Mk ht (hf.falling k)) h2⟩
theorem Keeps.put{X:Sto}{C:Con}{L:List FD}{r:Rec}{f:FD}(h:Keeps X C L)(hc:(X.put r).con C=(X.con C).put r.key (Pb r::X.con C r.key))(hk:f.key=r.key)(hv:f.vs=Pb r)(hs:X.wm<f.stamp):Keeps (X.put r) C (L++[f]):=fun k=>by
 have hw:(X.put r).wm=X.wm:=rfl;obtain⟨n,h1,h2⟩:=h k;rw[Tz,hc,hw];unfold Con.put;by_cases e:k=r.key
 .subst e;rw[if_pos rfl,if_pos hk];refine⟨n+1,by rw[List.take_succ_cons,h1,hv],?_⟩;simp only[needs];rw[if_pos (show X.wm<f.vs.stamp from hs)];omega
 .rw[if_neg e,if_neg (fun e2=>e (e2.symm.trans hk))];exact⟨n,h1,h2⟩
theorem Keeps.flush{X:Sto}{C:Con}{L:List FD}(h:Keeps X C L)(hg:X.Good bs C)(nw:List (BA×Int)):Keeps (X.laid nw) (Eu X C List.length X.keys.length) L:=fun k=>by
 obtain⟨n,h1,h2⟩:=h k;refine⟨n,?_,h2⟩;rw[Sto.OZ,Lx hg,zM0];exact h1
theorem Keeps.compact{X:Sto}{C:Con}{L:List FD}(h:Keeps X C L)(hg:X.Good bs C)(nw:List (BA×Int)):Keeps (X.laid nw) (Eu X C (needs X.wm) X.keys.length) L:=fun k=>by
 obtain⟨n,h1,h2⟩:=h k;refine⟨needs X.wm (fv L k),?_,zLK _⟩;rw[Sto.OZ,Lx hg,h1,Fz h2,List.take_take,Nat.min_eq_left h2]
theorem UN{R:List Rec}{L:List FD}(hR:R.Pairwise Bef)(h:∀r∈R,∃v∈fv L r.key,v.stamp=r.stamp/\r.body.size<=v.size):costs R<=Kw L:=by
 refine Ov UQ FD.cost (fun r f=>f.key=r.key/\f.stamp=r.stamp) R L (hR.imp fun{a b}hab f h1 h2=>?_) (fun r hr=>?_)
 .rcases hab with hab|hab
  .exact Ev hab (h1.1.symm.trans h2.1)
  .have:=h1.2.symm.trans h2.2;omega
 .obtain⟨v,hv,h1,h2⟩:=h r hr;obtain⟨f,hf,hk,rfl⟩:=Zk hv;refine⟨f,hf,⟨hk,h1⟩,?_⟩;have:f.vs.size<=f.value.size:=by
   unfold Vs.size FD.vs
   cases f.there<;>simp
  unfold UQ FD.cost;rw[hk];omega
theorem lQ{C:Con}{L:List FD}{wm:Int}(hF:Fil CU bs C)(hC:∀k v,v∈C k->v∈fv L k)(hw:wm<=1099511627776)(hr:36+2*Kw L<=1048576):(Aa bs wm).length<=18+Kw L:=by
 have h1:=UN (L:=L) hF.ord (fun r hr=>by
  obtain⟨v,hv,h4⟩:=LZ (hF.holds r.key).tells (Cx.2 ⟨hr,rfl⟩);exact⟨v,hC _ v hv,h4⟩)
 have:=Kt (wm:=wm) hF.ok hw (by omega);omega
def zJz(T:Two)(bs:List (List Rec))(fl:Int):Prop:=(T.a=none/\bs=[]/\fl=-1)\/T.a=some (Aa bs fl,(Aa bs fl).length)
structure JP(L:List FD)(clock water:Int)(T:Two)(X:Sto)(bs:List (List Rec))(C:Con):Prop where
 facts:K8 L clock
 wm:X.wm=water
 wc:water<=clock
 top:clock<=1099511627776
 dead:X.dead=false
 good:X.Good bs C
 keeps:Keeps X C L
 cap:T.cap=1048576
 a:zJz T bs X.fl
 b:T.b=none
 alive:T.dead=false
 Ae:T.Ae=0
 room:36+2*Kw L<=1048576
theorem JP.zHX{L:List FD}{T:Two}{X:Sto}{C:Con}(h:JP L clock water T X bs C):∀k v,v∈C k->v∈fv L k:=fun k v hv=>h.keeps.mem (by unfold Sto.con;exact zMD.2 (Or.inr hv))
theorem JP.zEF{L:List FD}{T:Two}{X:Sto}{C:Con}(h:JP L clock water T X bs C):len T.a<=18+Kw L:=by
 rcases h.a with⟨e,_,_⟩|e
 .rw[e];simp[len]
 .rw[e];have h1:=h.good.top;have h2:=h.good.lG;have:=lQ (wm:=X.fl) h.good.fil h.zHX (by omega) h.room;simp[len];omega
theorem JP.few{L:List FD}{T:Two}{X:Sto}{C:Con}(h:JP L clock water T X bs C):L.length<=20164/\bs.flatten.length<=104858:=by
 have h1:=Ns L;have h2:=h.room;refine⟨by omega,?_⟩;have h3:=KH h.good.fil.ok;have h4:=h.zEF;rcases h.a with⟨_,e,_⟩|e
 .subst e;simp
 .rw[e]at h4;simp only[len,zM1,zLT]at h4;unfold Aa at h4;rw[zLL]at h4;omega
theorem JP.on{L:List FD}{T:Two}{X:Sto}{C:Con}(h:JP L clock water T X bs C):MS False T.dsk bs X.fl:=by
 refine⟨h.alive,?_⟩;rw[Two.ZC,if_neg (by rw[h.alive];simp)];rcases h.a with⟨e,e2,e3⟩|e
 .rw[e];exact Or.inl ⟨rfl,e2,e3⟩
 .rw[e];have h1:=h.good.top;have h2:=h.good.lG;have h3:=h.good.rP;have h4:=lQ (wm:=X.fl) h.good.fil h.zHX (by omega) h.room;have h5:=h.room;exact Or.inr ⟨rfl,KY.whole False h.good.fil.ok h3 (by omega) (by omega)⟩
theorem Keeps.pend{X:Sto}{bs:List (List Rec)}{C:Con}{L:List FD}(h:Keeps X C L)(hg:X.Good bs C)(hl:L.length<1048000):X.pend.length<1048000/\∀kr∈X.pend,kr.2.length<1048000:=by
 have hk:∀kr∈X.pend,∀r∈kr.2,Pb r∈fv L kr.1:=fun kr hkr r hr=>h.mem (by
  unfold Sto.con Gw;rw[(Bl hg.ok.Dn).2 hkr];exact zMD.2 (Or.inl (List.mem_map.2 ⟨r,List.mem_reverse.2 hr,rfl⟩)))
 constructor
 .have h1:=Ov (fun _:BA=>1) (fun _:FD=>1) (fun k f=>f.key=k) (X.pend.map (·.1)) L (hg.ok.Dn.imp fun{a b}hab y h1 h2=>Ev hab (h1.symm.trans h2)) (fun k hk2=>by
   obtain⟨kr,hkr,rfl⟩:=List.mem_map.1 hk2;obtain⟨r,hr⟩:=List.exists_mem_of_ne_nil _ (hg.ok.each kr hkr).2.1;obtain⟨f,hf,za,_⟩:=Zk (hk kr hkr r hr);exact⟨f,hf,za,zLK _⟩)
  rw[La,La,zM2]at h1;omega
 .intro kr hkr;obtain⟨n,h1,_⟩:=h kr.1;have h2:(X.con C kr.1).length<=L.length:=by
   rw[h1,zM6];have:=lD L kr.1;omega
  have h3:kr.2.length<=(X.con C kr.1).length:=by
   unfold Sto.con Gw;rw[(Bl hg.ok.Dn).2 hkr];simp
  omega
theorem JP.pend{L:List FD}{clock water:Int}{T:Two}{X:Sto}{bs:List (List Rec)}{C:Con}(h:JP L clock water T X bs C):X.pend.length<1048000/\∀kr∈X.pend,kr.2.length<1048000:=h.keeps.pend h.good (by have:=h.few.1;omega)
def FD.rc(f:FD):Rec:=⟨f.key,f.stamp,if f.there=true then 0 else 2,f.value⟩
theorem JP.adding{L:List FD}{clock water:Int}{T:Two}{X:Sto}{bs:List (List Rec)}{C:Con}(h:JP L clock water T X bs C){f:FD}(h1:∀g∈L,g.stamp<f.stamp)(hw1:water<f.stamp)(h0:0<=f.stamp)(ht:f.stamp<=1099511627776)(h2:1<=f.key.size/\f.key.size<=64)(h3:f.value.size<=4096)(h4:f.there=false->f.value=⟨#[]⟩):X.adding f.rc=0/\yU f.key f.rc/\Pb f.rc=f.vs/\∀kr∈X.pend,kr.1=f.key->∀x∈kr.2,x.stamp<f.stamp:=by
 have hlat:X.latest f.key<f.stamp:=by
  rw[h.good.latest f.key];have:=h.wm;have:=h.wc
  cases hc:(X.con C f.key).head? with
  |none=>simp only;omega
  |some v =>
   have hv:v∈fv L f.key:=h.keeps.mem (List.mem_of_mem_head? (by rw[hc];rfl));obtain⟨g,hg,_,rfl⟩:=Zk hv;have:=h1 g hg;simp only[Int.max_def];have e:g.vs.stamp=g.stamp:=rfl;split<;>omega
 have ha:X.adding f.rc=0:=by
  unfold Sto.adding;rw[h.dead,if_neg (by simp),if_neg (by show¬¬(1<=f.key.size/\f.key.size<=64);simp;exact h2),if_neg (by show¬4096<f.value.size;omega),if_neg (by show¬(1099511627776<f.stamp\/f.stamp<=X.latest f.key);omega)]
 have hb:f.there=false->f.value.size=0:=fun e=>by rw[h4 e];rfl
 refine⟨ha,⟨rfl,?_,?_,h3⟩,?_,Ko h.good.ok (r:=f.rc) (h.good.Mg ha)⟩
 .unfold Rec.fits FD.rc;apply decide_eq_true;refine⟨h2.1,h2.2,by simp only;omega,h0,ht,?_,?_⟩
  .simp only;split<;>omega
  .simp only;split<;>omega
 .unfold FD.rc
  cases hf:f.there with
  |true=>exact Or.inl rfl
  |false=>exact Or.inr ⟨rfl,hb hf⟩
 .unfold Pb FD.vs FD.rc
  cases f.there<;>simp
theorem JP.raise{L:List FD}{clock water:Int}{T:Two}{X:Sto}{bs:List (List Rec)}{C:Con}(h:JP L clock water T X bs C){t:Int}(h1:water<=t)(h2:t<=clock):X.raising t=0/\JP L clock t T { X with wm:=t } bs C:=by
 have hw:=h.wm;have ht:=h.top;have ha:X.raising t=0:=by
  unfold Sto.raising;rw[h.dead,if_neg (by simp),if_neg (by omega)]
 exact⟨ha,h.facts,rfl,h2,h.top,h.dead,h.good.raise ha,h.keeps.raise h.facts (by omega),h.cap,h.a,h.b,h.alive,h.Ae,h.room⟩
theorem JP.laid{L:List FD}{clock water:Int}{T T':Two}{X X':Sto}{bs:List (List Rec)}{C V:Con}(h:JP L clock water T X bs C)(hg:Uh T X V X' T')(hk:∀nw,Keeps (X.laid nw) V L):∃bs',JP L clock water T' X' bs' V/\X'.BI=false:=by
 obtain⟨bs',nw,rfl,h1,h2,h3,h4,h5,h6,h7,h8⟩:=hg;refine⟨bs',⟨h.facts,h.wm,h.wc,h.top,h.dead,h.good.laid h1 h2 (by omega),hk nw,h4.trans h.cap,Or.inr h5,h6,h7,h8 h.Ae,h.room⟩,?_⟩;unfold Sto.BI Sto.laid;simp
end S
section
variable{k:BA}{v:M.Ver}
namespace S
def Gz(v:M.Ver):FD:=⟨v.key,v.stamp,v.value,!v.gone⟩
def facts(vs:List M.Ver):List FD:=vs.map Gz
theorem IU(vs:List M.Ver)(v:M.Ver):facts (vs++[v])=facts vs++[Gz v]:=by simp[facts]
theorem lT{vs:List M.Ver}{f:FD}(h:f∈facts vs):∃v∈vs,Gz v=f:=by simpa[facts]using h
structure Ea(vs:List M.Ver):Prop where
 fall:∀k,(fv (facts vs) k).Pairwise fun a b=>b.stamp<a.stamp
 top:∀v∈vs,0<=v.stamp/\v.stamp<=1099511627776
 key:∀v∈vs,1<=v.key.size/\v.key.size<=64
 val:∀v∈vs,v.value.size<=4096
 gone:∀v∈vs,v.gone=true->v.value=⟨#[]⟩
theorem OV:v.Vy k=true↔v.key=k:=by
 unfold M.Ver.Vy;rw[beq_iff_eq];exact⟨M.EY,fun e=>by rw[e]⟩
theorem Ea.zDH{A B:List M.Ver}(h:Ea (A++B)):Ea A:=by
 refine⟨fun k=>?_,fun v hv=>h.top v (by simp[hv]),fun v hv=>h.key v (by simp[hv]),fun v hv=>h.val v (by simp[hv]),fun v hv=>h.gone v (by simp[hv])⟩;have:=h.fall k;unfold facts fv at this⊢;rw[List.map_append,List.filter_append,List.map_append,List.reverse_append,zLh]at this;exact this.2.1
theorem Ea.none:Ea []:=⟨fun k=>(by simp[facts,fv]),fun _ h=>(by cases h),fun _ h=>(by cases h),fun _ h=>(by cases h),fun _ h=>(by cases h)⟩
theorem Ea.snoc{vs:List M.Ver}(h:Ea vs)(h1:∀x∈fv (facts vs) v.key,x.stamp<v.stamp)(h2:0<=v.stamp/\v.stamp<=1099511627776)(h3:1<=v.key.size/\v.key.size<=64)(h4:v.value.size<=4096)(h5:v.gone=true->v.value=⟨#[]⟩):Ea (vs++[v]):=by
 have hm:∀x,x∈vs++[v]->x∈vs\/x=v:=fun x hx=>by simpa using hx
 refine⟨fun k=>?_,fun x hx=>?_,fun x hx=>?_,fun x hx=>?_,fun x hx=>?_⟩
 .rw[IU,Tz];by_cases e:(Gz v).key=k
  .rw[if_pos e];refine List.Pairwise.cons (fun x hx=>?_) (h.fall k);subst e;exact h1 x hx
  .rw[if_neg e];exact h.fall k
 .rcases hm x hx with hx|rfl
  .exact h.top x hx
  .exact h2
 .rcases hm x hx with hx|rfl
  .exact h.key x hx
  .exact h3
 .rcases hm x hx with hx|rfl
  .exact h.val x hx
  .exact h4
 .rcases hm x hx with hx|rfl
  .exact h.gone x hx
  .exact h5
def Um(k:BA)(t:Int)(ws:List M.Ver)(b:M.Ver):Prop:=
 match Ak (fv (facts ws) k) t with
 |none=>b=M.Nz
 |some x=>b.key=k/\(Gz b).vs=x/\b∈ws
theorem Np(x:Vs)(l:List Vs)(t:Int):Ak (x::l) t=if x.stamp<=t then some x else Ak l t:=by
 unfold Ak;rw[List.find?_cons];by_cases h:x.stamp<=t
 .rw[if_pos h];simp[h]
 .rw[if_neg h];simp[h]
theorem Qj{t:Int}{ws:List M.Ver}{b:M.Ver}(h:Um k t ws b)(ho:Ea (ws++[v])):Um k t (ws++[v]) (M.EZ k t b v):=by
 unfold Um at h⊢;have hf:=ho.fall k;have htop:=ho.top v (by simp);rw[IU,Tz]at hf⊢;unfold M.EZ;by_cases hk:v.key=k
 .rw[if_pos (show(Gz v).key=k from hk)]at hf⊢;rw[Np];by_cases ht:v.stamp<=t
  .rw[if_pos (show(Gz v).vs.stamp<=t from ht)];have hlt:b.stamp<v.stamp:=by
    cases hx:Ak (fv (facts ws) k) t with
    |none =>
     (rw[hx]at h;simp only at h;rw[h];show(-1:Int)<_);omega
    |some x =>
     rw[hx]at h;simp only at h;have hm:x∈fv (facts ws) k:=by
      unfold Ak at hx;exact List.mem_of_find?_eq_some hx
     have:=(zM5.1 hf).1 x hm;rw[<-h.2.1]at this;exact this
   rw[if_pos (by rw[OV.2 hk];simp[ht,hlt])];exact⟨hk,rfl,by simp⟩
  .rw[if_neg (show¬(Gz v).vs.stamp<=t from ht),if_neg (by simp[ht])]
   cases hx:Ak (fv (facts ws) k) t with
   |none=>rw[hx]at h;exact h
   |some x=>rw[hx]at h;exact⟨h.1,h.2.1,by simp[h.2.2]⟩
 .rw[if_neg (show¬(Gz v).key=k from hk)];have hi:v.Vy k=false:=by
   cases hv:v.Vy k with
   |false=>rfl
   |true=>exact absurd (OV.1 hv) hk
  rw[if_neg (by rw[hi];simp)]
  cases hx:Ak (fv (facts ws) k) t with
  |none=>rw[hx]at h;exact h
  |some x=>rw[hx]at h;exact⟨h.1,h.2.1,by simp[h.2.2]⟩
theorem u6{k:BA}{t:Int}:∀{us ws:List M.Ver}{b:M.Ver},Um k t ws b->Ea (ws++us)->Um k t (ws++us) (us.foldl (M.EZ k t) b)
 |[],ws,b,h,_=>by simpa using h
 |v::us,ws,b,h,ho=>by
  have e:ws++v::us=(ws++[v])++us:=by simp
  rw[e]at ho⊢;exact u6 (Qj h ho.zDH) ho
theorem uz{vs:List M.Ver}(h:Ea vs)(wa:Int)(k:BA)(t:Int):Um k t vs ((⟨vs,wa⟩:M.Sta).at k t):=by
 have:=u6 (k:=k) (t:=t) (us:=vs) (ws:=[]) (b:=M.Nz) (by unfold Um;rfl) (by simpa using h);rw[zLb]at this;exact this
theorem vN{vs:List M.Ver}(h:Ea vs)(wa:Int)(k:BA)(t:Int):told (Ak (fv (facts vs) k) t)=if((⟨vs,wa⟩:M.Sta).at k t).stamp<0\/((⟨vs,wa⟩:M.Sta).at k t).gone=true then(⟨#[]⟩,false)else(((⟨vs,wa⟩:M.Sta).at k t).value,true):=by
 have hi:=uz h wa k t;unfold Um at hi
 cases hx:Ak (fv (facts vs) k) t with
 |none =>
  rw[hx]at hi;simp only at hi;rw[hi,if_pos (Or.inl (by decide))];rfl
 |some x =>
  rw[hx]at hi;simp only at hi;obtain⟨_,h2,h3⟩:=hi;have h0:=(h.top _ h3).1;rw[<-h2];generalize (⟨vs,wa⟩:M.Sta).at k t=b at h0;obtain⟨bk,bt,bv,bg⟩:=b;simp only at h0;have hn:¬bt<0:=by omega
  unfold Gz FD.vs
  cases bg<;>simp[told,hn]
theorem ji{vs:List M.Ver}(h:Ea vs)(wa:Int)(k:BA):(⟨vs,wa⟩:M.Sta).last k=match (fv (facts vs) k).head? with|some x=>x.stamp|none=>-1:=by
 have key:∀(us ws:List M.Ver)(n:Int),n=(match (fv (facts ws) k).head? with|some x=>x.stamp|none=>-1)->Ea (ws++us)->us.foldl (M.DT k) n=match (fv (facts (ws++us)) k).head? with|some x=>x.stamp|none=>-1:=by
  intro us
  induction us with
  |nil=>intro ws n hn _;simpa using hn
  |cons v us ih =>
   (intro ws n hn ho;have e:ws++v::us=(ws++[v])++us:=by simp);rw[e]at ho⊢;refine ih (ws++[v]) _ ?_ ho;have hf:=ho.zDH.fall k;have htop:=ho.zDH.top v (by simp);rw[IU,Tz]at hf⊢;unfold M.DT;by_cases hk:v.key=k
   .rw[if_pos (show(Gz v).key=k from hk)]at hf⊢;have hlt:n<v.stamp:=by
     rw[hn]
     cases hx:(fv (facts ws) k).head? with
     |none=>simp only;omega
     |some x =>
      have:=(zM5.1 hf).1 x (List.mem_of_mem_head? (by rw[hx];rfl));exact this
    rw[if_pos (by rw[OV.2 hk];simp[hlt])];rfl
   .rw[if_neg (show¬(Gz v).key=k from hk)];have hi:v.Vy k=false:=by
     cases hv:v.Vy k with
     |false=>rfl
     |true=>exact absurd (OV.1 hv) hk
    rw[if_neg (by rw[hi];simp)];exact hn
 have:=key vs [] (-1) (by simp[facts,fv]) (by simpa using h);rw[zLb]at this;exact this
end S
end
end Go.Proofs.YtekdenkllipehaaGreatDoor
