import Derived.Test.YtekdenkllipehaaGreatDoorP16
set_option maxRecDepth 99999
set_option maxHeartbeats 0
namespace Go.Proofs.YtekdenkllipehaaGreatDoor
open Go.RowKit
def Strs(w:World)(ao:Option Addr)(P:List BA):Prop:=P=[]\/∃g o,ao=some (aD g o)/\g<w.heap.size/\∀(k:Nat)(s:BA),P[k]?=some s->w.cell? (aD g (o+k))=some (sT s)
theorem Strs.kept{w w':World}{ao:Option Addr}{P:List BA}(h:Strs w ao P)(q:Below w.heap.size w w'):Strs w' ao P:=by
 rcases h with h|⟨g,o,rfl,hg,hs⟩
 .exact Or.inl h
 .exact Or.inr ⟨g,o,rfl,by have:=q.size;omega,fun k s hk=>(q.cell (p:=(aD g (o+k))) hg).trans (hs k s hk)⟩
theorem Strs.at{w:World}{ao:Option Addr}{P:List BA}(h:Strs w ao P){k:Nat}(hk:k<P.length):∃g o,ao=some (aD g o)/\g<w.heap.size/\w.cell? (aD g (o+k))=some (sT P[k]):=by
 rcases h with h|⟨g,o,rfl,hg,hs⟩
 .subst h;simp at hk
 .exact⟨g,o,rfl,hg,hs k _ (zLH hk)⟩
theorem Yn(P:List BA)(k:Nat):(M.cat (P.take k)).length<=(M.cat P).length:=by
 have:M.cat P=M.cat (P.take k)++M.cat (P.drop k):=by rw[<-M.Fa,zLq]
 rw[this,zLL];omega
theorem dW(n:Nat)(hn:n<=281474976710656)(w:World):
  Calls Tryz.prog 178 #[pT w.heap.size,iT n] (w.alloc (.cells #[.pointer none,nS] 230)) fun e w'=>e=.returned (.tuple #[])/\(Lib.BuilderAt 230 5 w.heap.size w.heap.size (pT w.heap.size) [] w'/\Below w.heap.size (w.alloc (.cells #[.pointer none,nS] 230)) w'):=
 Any.Builder_Grow_fresh wV rf w.heap.size w.heap.size n (w.alloc (.cells #[.pointer none,nS] 230)) (zLK _) (heap_alloc_new w _) (by simp) hn
theorem Uu(B b:Nat)(l:List UInt8)(s:BA)(w:World)(h:Lib.BuilderAt 230 5 B b (pT b) (Lib.byteCells l) w)(hlen:l.length+s.size<=140737488355328)(hBw:B<=w.heap.size):
  Calls Tryz.prog 179 #[pT b,sT s] w fun e w'=>e=.returned (.tuple #[iT s.size,.nilIface])/\(Lib.BuilderAt 230 5 B b (pT b) (Lib.byteCells (l++s.data.toList)) w'/\Below B w w'):=by
 have c:=Any.Builder_WriteString wU rZ B b (Lib.byteCells l) s w (Or.inr h) (by rw[Lib.byteCells_length];exact hlen) hBw;rw[Lib.strCells_eq,<-Lib.byteCells_append]at c;exact c
theorem RU(B b:Nat)(l:List UInt8)(w:World)(h:Lib.BuilderAt 230 5 B b (pT b) (Lib.byteCells l) w)(hBw:B<=w.heap.size):
  Calls Tryz.prog 180 #[pT b] w fun e w'=>e=.returned (sT ⟨l.toArray⟩)/\Below B w w':=
 Any.Builder_String_any wT rY B b l w (Or.inr h) hBw
theorem L6(P:List BA)(ao:Option Addr)(cap:Nat)(w:World)(h:Strs w ao P)(hl:(M.cat P).length<=140737488355328)(hn:P.length<=140737488355328):
  Calls Tryz.prog 151 #[.slice ao P.length cap] w fun e w'=>e=.returned (sT ⟨(M.cat P).toArray⟩)/\Q w w':=by
 have HT:Hid (∀k s,P[k]?=some s->M.cat (P.take (k+1))=M.cat (P.take k)++s.data.toList):=fun k s hk=>M.sM hk;have HE:Hid (M.cat (P.take P.length)=M.cat P):=by rw[zM0];exact rfl
 have HL:=h_ (Yn P);have HH:=h_ h;go_in;go_wp2_with fail
 go_loop [3,11] (fun n i=>∃k:Nat,k<=P.length/\i=iT k/\n=iT ((M.cat (P.take k)).length:Nat)) (fun _ i=>P.length-(intOf i).toNat)
 case atStart=>exact⟨0,zLS _,rfl,by simp[M.cat]⟩
 case round =>
  obtain⟨k,hk,rfl,rfl⟩:=hrel;have hlk:=HL.out k;by_cases hlt:k<P.length
  .obtain⟨g,o,rfl,hg,hc⟩:=HH.out.at hlt;have YP:=HL.out (k+1);have HS:Hid _:=HT.out k _ (zLH hlt);have hlk2:(M.cat (P.take (k+1))).length=(M.cat (P.take k)).length+P[k].size:=by rw[HS.out,zLL];simp
   (((go_wp2_with fail);go_round);case rel=>exact⟨k+1,by omega,by go_num,by rw[hlk2];go_num⟩);case measure=>simp[intOf];omega
  .obtain rfl:k=P.length:=by omega
   (have hgr:=dW (M.cat P).length (by omega) w;rw[HE.out];have HG:=hU hgr;have hc0:M.cat (P.take 0)=[]:=by simp[M.cat]);have yt:=h_ hc0;generalize hN:(M.cat P).length=N at*;go_wp2_with fail;apply(HG.out ()).mono;rintro e w1⟨rfl,hb1,hw1⟩;have hB1:Below w.heap.size w w1:=((Below.refl _ w).alloc (zLK _) _).trans hw1;go_wp2_with fail
   go_loopw [24] (fun i wr=>∃k:Nat,k<=P.length/\i=iT k/\Lib.BuilderAt 230 5 w.heap.size w.heap.size (pT w.heap.size) (Lib.byteCells (M.cat (P.take k))) wr/\Below w.heap.size w wr) (fun i _=>P.length-(intOf i).toNat)
   case atStart=>exact⟨0,zLS _,rfl,by rw[yt.out];exact hb1,hB1⟩
   case round =>
    obtain⟨k,hk,rfl,hbk,kg⟩:=hrel;by_cases hlt:k<P.length
    ·((((obtain⟨g,o,rfl,hg,hc⟩:=(HH.out.kept kg).at hlt;have HS:Hid _:=HT.out k _ (zLH hlt);have YP:=HL.out (k+1);rw[HS.out,zLL]at YP;have hsz:P[k].data.toList.length=P[k].size:=by simp);have HW:=hU (Uu _ _ _ P[k] wr hbk (by omega) kg.size);generalize P[k]=s at*;go_wp2_with fail;apply(HW.out ()).mono;rintro e w2⟨rfl,hb2,hw2⟩;go_wp2_with fail);go_roundw);case rel=>exact⟨k+1,by omega,by go_num,by rw[HS.out];exact hb2,kg.trans hw2⟩);case measure=>simp[intOf];omega
    ·(obtain rfl:k=P.length:=by omega);rw[HE.out]at hbk;have HW:=hU (RU _ _ _ wr hbk kg.size);go_wp2_with fail;apply(HW.out ()).mono;rintro e w2⟨rfl,hw2⟩;go_wp2;go_ret;exact⟨rfl,⟨kg.trans hw2⟩⟩
end Go.Proofs.YtekdenkllipehaaGreatDoor
namespace Go.Proofs.YtekdenkllipehaaGreatDoor
open Go.RowKit
theorem KD:(Tryz.prog.info? 9).map (fun i=>(i.zero,i.size,i.bytes))=some (some eS,1,16):=by kernel_rfl
theorem OI{w:World}{base n cap:Nat}{ao:Option Addr}{P:List BA}(h:w.ownsRow base 9 1 (.slice ao n cap) n (AX P)):n=P.length/\Strs w ao P:=by
 have hn:n=P.length:=by have:=h.1;simp[AX]at this;omega
 refine⟨hn,?_⟩;by_cases hP:P=[]
 .exact Or.inl hP
 .obtain⟨g,rfl,_,hlt,hc⟩:=Cv h (by simpa[AX]using hP);exact Or.inr ⟨g,0,rfl,hlt,fun k s hk=>by rw[zLk];exact hc k _ (by simp[AX,hk])⟩
theorem TY(s:BA):∀u∈[Value.string s],u.oneCell'=true:=by
 intro u hu;simp at hu;subst hu;rfl
structure Parts(w:World)(P:List BA)(ao:Option Addr)(cap:Nat)(wr:World):Prop where
 below:Below w.heap.size w wr
 own:wr.ownsRow w.heap.size 9 1 (.slice ao P.length cap) P.length (AX P)
theorem Parts.kept{w wr wr':World}{P:List BA}{ao:Option Addr}{cap:Nat}(h:Parts w P ao cap wr)(q:Q wr wr'):Parts w P ao cap wr':=
 ⟨h.below.trans (q.below.mono h.below.size),own_below h.own q.below⟩
theorem Xd(w:World)(a b c d e f g:Value)(t:TypeId):∀j u,[a,b,c,d,e,f,g][j]?=some u->(w.alloc (.cells #[a,b,c,d,e,f,g] t)).cell? (((aD w.heap.size 0):Addr).add j)=some u:=by
 intro j u hj
 match j,hj with
 |0,hj=>simp at hj;subst hj;simp[Addr.add]
 |1,hj=>simp at hj;subst hj;simp[Addr.add]
 |2,hj=>simp at hj;subst hj;simp[Addr.add]
 |3,hj=>simp at hj;subst hj;simp[Addr.add]
 |4,hj=>simp at hj;subst hj;simp[Addr.add]
 |5,hj=>simp at hj;subst hj;simp[Addr.add]
 |6,hj=>simp at hj;subst hj;simp[Addr.add]
 |j+7,hj=>simp at hj
theorem Parts.more{w wr w':World}{P:List BA}{ao Dj:Option Addr}{cap cap':Nat}(h:Parts w P ao cap wr)(N:List BA)(hg:wr.grownBy w' (Value.slice ao P.length cap).ownBlock)(ho:w'.ownsRow w.heap.size 9 1 (.slice Dj (P.length+N.length) cap') (P.length+N.length) (AX P++AX N)):
  Parts w (P++N) Dj cap' w':=by
 refine⟨h.below.grown hg h.below.size (Dx h.own),?_⟩;have:AX (P++N)=AX P++AX N:=by simp[AX]
 rw[this,zLL];exact ho
end Go.Proofs.YtekdenkllipehaaGreatDoor
namespace Go.Proofs.YtekdenkllipehaaGreatDoor
open Go.RowKit
variable{E L:List M.St}{a ec sc:Nat}{ao eo so:Option Addr}{s:M.St}{w w' wr:World}
theorem ZU(L:List M.St)(ao:Option Addr)(cap:Nat)(w:World)(h:Steps w ao L)(hl:M.tot L<=4096)(hg:M.DF L):
  Calls Tryz.prog 204 #[.slice ao L.length cap] w fun e w'=>e=.returned (iT (M.tot L:Nat))/\Q w w':=by
 have hn:=M.Cy hg;have HT:Hid (∀(k:Nat)(s:M.St),L[k]?=some s->M.tot (L.take (k+1))=M.tot (L.take k)+s.size):=fun k s hk=>M.nk hk;have HL:=h_ (M.Ke L);have HE:Hid (M.tot (L.take L.length)=M.tot L):=by rw[zM0];exact rfl
 have HH:=h_ h;clear h hg;go_in;go_wp2_with fail
 go_loopw [3,8] (fun n i wr=>∃k:Nat,k<=L.length/\i=iT k/\n=iT (M.tot (L.take k):Nat)/\Q w wr) (fun _ i _=>L.length-(intOf i).toNat)
 case atStart=>exact⟨0,zLS _,rfl,by simp[M.tot],Q.refl w⟩
 case round =>
  obtain⟨k,hk,rfl,rfl,hq⟩:=hrel;have hlk:=HL.out k;by_cases hlt:k<L.length
  .obtain⟨g,o,rfl,hg,hc⟩:=(HH.out.kept hq).at hlt;obtain⟨c0,c1,c2⟩:=hc k _ (zLH hlt);have YP:=HL.out (k+1);have hS:=HT.out k _ (zLH hlt);generalize L[k]=s at*;have HS:Hid _:=hS;have hlk2:M.tot (L.take k)+s.size<=4096:=by omega
   (((clear hS YP hc;go_wp2_with fail);go_roundw);case rel=>exact⟨k+1,by omega,by go_num,by rw[HS.out];go_num,hq.alloc _ _⟩);case measure=>simp[intOf];omega
  .obtain rfl:k=L.length:=by omega
   have E:Hid _:=HE.out;go_wp2;go_ret;exact⟨congrArg (fun n:Nat=>Ending.returned (iT (n:Int))) E.out,hq⟩
theorem Rj(L:List M.St)(ao:Option Addr)(cap:Nat)(w:World)(h:Steps w ao L)(hl:L.length<=4096)(hg:M.DF L):
  Calls Tryz.prog 191 #[.slice ao L.length cap] w fun e w'=>e=.returned (iT (M.reach (M.flat L):Nat))/\Q w w':=by
 have HT:Hid (∀(k:Nat)(s:M.St),L[k]?=some s->M.reach (M.flat (L.take (k+1)))=max (M.reach (M.flat (L.take k))) (if s.put.size=0 then s.place+s.size else 0)):=fun k s hk=>M.TQ hg hk;have HP:Hid (∀(k:Nat)(s:M.St),L[k]?=some s->s.size<=4096/\s.place+s.size<=72057594037927935):=fun k s hk=>(hg.get hk).pos.2;have HB:Hid (∀k,M.reach (M.flat (L.take k))<=72057594037927935):=fun k=>by
  refine M.OE fun x hx=>?_;simp only[M.flat,List.mem_flatMap]at hx;obtain⟨s,hs,hx⟩:=hx;have hgs:=hg s (List.mem_of_mem_take hs);have h1:=M.VT hx;rw[M.PD hgs]at h1;have:=hgs.pos;split at h1<;>omega
 have HE:Hid (M.reach (M.flat (L.take L.length))=M.reach (M.flat L)):=by rw[zM0];exact rfl
 have HH:=h_ h;clear h hg;go_in;go_wp2_with fail
 go_loopw [3,8] (fun n i wr=>∃k:Nat,k<=L.length/\i=iT k/\n=iT (M.reach (M.flat (L.take k)):Nat)/\Q w wr) (fun _ i _=>L.length-(intOf i).toNat)
 case atStart=>exact⟨0,zLS _,rfl,by simp[M.reach,M.flat],Q.refl w⟩
 case round =>
  obtain⟨k,hk,rfl,rfl,hq⟩:=hrel;have hlk:=HB.out k;by_cases hlt:k<L.length
  .obtain⟨g,o,rfl,hg,hc⟩:=(HH.out.kept hq).at hlt;obtain⟨c0,c1,c2⟩:=hc k _ (zLH hlt);have hS:=HT.out k _ (zLH hlt);have hp:=HP.out k _ (zLH hlt);generalize L[k]=s at*;generalize M.reach (M.flat (L.take k))=m at*;have HS:Hid _:=hS;clear hS hc;by_cases hz:s.put.size=0
   ·(((have PC:Hid _:=Xm s hz;simp only[M.St.val]at PC;rw[if_pos hz]at HS;go_wp2_with fail;apply(PC.out _).mono;rintro e w1⟨rfl,q1⟩;have d1:w1.cell? (aD wr.heap.size 1)=some (iT s.place):=(q1.below.cell (p:=(aD wr.heap.size 1)) (by simp)).trans (by simp);have d2:w1.cell? (aD wr.heap.size 2)=some (iT s.size):=(q1.below.cell (p:=(aD wr.heap.size 2)) (by simp)).trans (by simp);go_wp2_with fail);go_roundw);case rel=>exact⟨k+1,by omega,by go_num,by rw[HS.out];go_num,(hq.alloc _ _).trans q1⟩);case measure=>simp[intOf];omega
   ·(((have PC:Hid _:=TR s hz;simp only[M.St.val]at PC;rw[if_neg hz]at HS;go_wp2_with fail;apply(PC.out _).mono;rintro e w1⟨rfl,q1⟩;go_wp2_with fail);go_roundw);case rel=>exact⟨k+1,by omega,by go_num,by rw[HS.out];go_num,(hq.alloc _ _).trans q1⟩);case measure=>simp[intOf];omega
  .obtain rfl:k=L.length:=by omega
   have E:Hid _:=HE.out;go_wp2;go_ret;exact⟨congrArg (fun n:Nat=>Ending.returned (iT (n:Int))) E.out,hq⟩
theorem Parts.push{P:List BA}{Dj:Option Addr}{cap cap':Nat}(h:Parts w P ao cap wr)(s:BA)(o:Obj)(hg:(wr.alloc o).grownBy w' (Value.slice ao P.length cap).ownBlock)(ho:w'.ownsRow w.heap.size 9 1 (.slice Dj (P.length+1) cap') (P.length+1) (AX P++[sT s])):
  Parts w (P++[s]) Dj cap' w':=by
 have hs:=h.below.size;refine⟨(h.below.alloc hs _).grown hg (by simp;omega) (Dx h.own),?_⟩;have:AX (P++[s])=AX P++[sT s]:=by simp[AX]
 rw[this,zLL];exact ho
theorem gu{k:Nat}(b:BA)(h:L[k]?=some s):(L.take (k+1)).map (M.St.text · b)=(L.take k).map (M.St.text · b)++[s.text b]:=by
 rw[M.take_succ h];simp
theorem sK(L:List M.St)(b:BA)(h:∀s∈L,s.put.size=0->s.place+s.size<=b.size):M.cat (L.map (M.St.text · b))=M.made (M.flat L) b.data.toList:=by
 induction L with
 |nil=>rfl
 |cons s L ih =>
  rw[M.MB,M.Ir,M.pU s b (h s (by simp)),<-ih fun t ht=>h t (by simp[ht])];rfl
theorem oV(hg:M.DF L)(hs:s∈L)(h0:s.put.size=0):s.place+s.size<=M.reach (M.flat L):=by
 have h1:=M.PD (hg s hs);rw[if_pos h0]at h1;rw[<-h1];refine M.OE fun x hx=>M.VT ?_;simp only[M.flat,List.mem_flatMap];exact⟨s,hs,hx⟩
theorem ny(b:BA)(L:List M.St)(ao:Option Addr)(cap:Nat)(w:World)(h:Steps w ao L)(hb:b.size<=140737488351232)(ht:M.tot L<=4096)(hg:M.DF L)(hr:M.reach (M.flat L)<=b.size):
  Calls Tryz.prog 192 #[sT b,.slice ao L.length cap] w fun e w'=>e=.returned (sT ⟨(M.made (M.flat L) b.data.toList).toArray⟩)/\Q w w':=by
 have hn:=M.Cy hg;have hrs:∀s∈L,s.put.size=0->s.place+s.size<=b.size:=fun s hs h0=>zLV (oV hg hs h0) hr;have xU:=sK L b hrs;have hcl:(M.cat (L.map (M.St.text · b))).length<=4096:=by rw[xU];simp[M.made];rw[M.FW hg];exact ht
 have HC:=hU xU;have HR:Hid (∀(k:Nat)(s:M.St),L[k]?=some s->s.put.size=0->s.place+s.size<=b.size):=fun k s hk=>hrs s (zLR hk);have HT:Hid (∀(k:Nat)(s:M.St),L[k]?=some s->(L.take (k+1)).map (M.St.text · b)=(L.take k).map (M.St.text · b)++[s.text b]):=fun k s hk=>gu b hk;have HN:Hid (∀k,k<=L.length->((L.take k).map (M.St.text · b)).length=k):=fun k hk=>by simp;omega
 have HE:Hid ((L.take L.length).map (M.St.text · b)=L.map (M.St.text · b)):=by rw[zM0];exact rfl
 have HH:=h_ h;have hZ0:(L.take 0).map (M.St.text · b)=[]:=by simp
 obtain⟨i0,hi,hz0,hz1,hz2⟩:=info_parts KD;obtain⟨w0,hrun,hown,hgr⟩:=run_make_own (P:=Tryz.prog) w w.heap.size 53 9 i0 eS 1 Tryz.underlying53 hi hz0 hz1 .i64 .i64 L.length (by rw[hz2];omega) (by unfold maxLen;omega) (zLK _);have hp0:Parts w ((L.take 0).map (M.St.text · b)) (some (aD w.heap.size 0)) L.length w0:=by
  rw[hZ0];exact⟨(Below.refl _ w).grown hgr (zLK _) (by simp),hown⟩
 go_in;go_wp2_with fail
 go_loopw [5,13] (fun p i wr=>∃(k:Nat)(ap:Option Addr)(cp:Nat),k<=L.length/\i=iT k/\p=.slice ap k cp/\Parts w ((L.take k).map (M.St.text · b)) ap cp wr) (fun _ i _=>L.length-(intOf i).toNat)
 case atStart=>exact⟨0,_,_,zLS _,rfl,rfl,hp0⟩
 case round =>
  obtain⟨k,ap,cp,hk,rfl,rfl,hp⟩:=hrel;have hkl:=HN.out k hk;by_cases hlt:k<L.length
  .obtain⟨g,o,rfl,hg,hc⟩:=(HH.out.kept ⟨hp.below⟩).at hlt;obtain⟨c0,c1,c2⟩:=hc k _ (zLH hlt);have hS:=HT.out k _ (zLH hlt);have hR:=HR.out k _ (zLH hlt);generalize L[k]=s at*;have HS:Hid _:=hS;generalize (L.take k).map (M.St.text · b)=PP at*;subst hkl;by_cases hz:s.put.size=0
   ·((((((((((have PC:Hid _:=Xm s hz;simp only[M.St.val]at PC;have hR2:=hR hz;have htx:s.text b=b.extract s.place (s.place+s.size):=by simp[M.St.text,hz]);rw[htx]at HS;have e1:=Yi b s.place s.size hR2;go_wp2_with fail;apply(PC.out _).mono;rintro e w1⟨rfl,q1⟩;have d1:w1.cell? (aD wr.heap.size 1)=some (iT s.place):=(q1.below.cell (p:=(aD wr.heap.size 1)) (by simp)).trans (by simp);have d2:w1.cell? (aD wr.heap.size 2)=some (iT s.size):=(q1.below.cell (p:=(aD wr.heap.size 2)) (by simp)).trans (by simp);have hp1:=(hp.kept ((Q.refl wr).alloc _ _)).kept q1;have hown:=hp1.own;have hsz:=hp1.below.size;go_wp2_with(at_builtin;refine wpList_append_own _ rfl (.tmp 24) (.tmp 34) 53 rfl w.heap.size 9 i0 eS 1 16 Tryz.underlying53 hi hz0 hz1 hz2 rfl (by decide) _ _ _ rfl (hown.alloc _) (aD w1.heap.size 0) 1 1 [sT (b.extract s.place (s.place+s.size))] rfl rfl ?c1 ?c2 ?c3 ?c4 ?c5 ?_));case c1=>exact one_cell _ _ _);case c2=>exact TY _);case c3=>unfold maxLen;omega);case c4=>omega);case c5=>simp;omega);intro v' w' hown' hgrow _;obtain⟨Er,Bn,hv⟩:=Ac hown';rw[hv]at hown';rw[hv];have hp2:=hp1.push _ _ hgrow hown';go_wp2_with fail);go_roundw);case rel=>exact⟨PP.length+1,Er,Bn,by omega,by go_num,by go_num,by rw[HS.out];exact hp2⟩);case measure=>simp[intOf];omega
   ·((((((((((have PC:Hid _:=TR s hz;simp only[M.St.val]at PC;have htx:s.text b=s.put:=by simp[M.St.text,hz]);rw[htx]at HS;go_wp2_with fail;apply(PC.out _).mono;rintro e w1⟨rfl,q1⟩;have d0:w1.cell? (aD wr.heap.size 0)=some (sT s.put):=(q1.below.cell (p:=(aD wr.heap.size 0)) (by simp)).trans (by simp);have hp1:=(hp.kept ((Q.refl wr).alloc _ _)).kept q1;have hown:=hp1.own;have hsz:=hp1.below.size;go_wp2_with(at_builtin;refine wpList_append_own _ rfl (.tmp 19) (.tmp 22) 53 rfl w.heap.size 9 i0 eS 1 16 Tryz.underlying53 hi hz0 hz1 hz2 rfl (by decide) _ _ _ rfl (hown.alloc _) (aD w1.heap.size 0) 1 1 [sT s.put] rfl rfl ?c1 ?c2 ?c3 ?c4 ?c5 ?_));case c1=>exact one_cell _ _ _);case c2=>exact TY _);case c3=>unfold maxLen;omega);case c4=>omega);case c5=>simp;omega);intro v' w' hown' hgrow _;obtain⟨Er,Bn,hv⟩:=Ac hown';rw[hv]at hown';rw[hv];have hp2:=hp1.push _ _ hgrow hown';go_wp2_with fail);go_roundw);case rel=>exact⟨PP.length+1,Er,Bn,by omega,by go_num,by go_num,by rw[HS.out];exact hp2⟩);case measure=>simp[intOf];omega
  .obtain rfl:k=L.length:=by omega
   rw[HE.out]at hp;have JC:=L6 _ ap cp wr (OI hp.own).2 (by omega) (by simp;omega);rw[zM2]at JC;have HJ:=hU JC;have HQ:=hU hp.below;go_wp2_with fail;apply(HJ.out ()).mono;rintro e w1⟨rfl,q1⟩;go_wp2;go_ret;exact⟨by rw[<-HC.out ()];rfl,(Q.mk (HQ.out ())).trans q1⟩
def M.stepOf(s:BA)(a:Nat):Option (M.St×Nat):=
 match M.Cb s.data.toList a with
 |none=>none
 |some (u,nx) =>
  if u/2=0 then none
  else if u%2=0 then(if s.size-nx<u/2 then none else some (⟨s.extract nx (nx+u/2),0,u/2⟩,nx+u/2))
  else
   match M.Cb s.data.toList nx with
   |none=>none
   |some (p,n2)=>if 72057594037927935-u/2<p then none else some (⟨⟨#[]⟩,p,u/2⟩,n2)
def Oy(r:Option (M.St×Nat)):Ending:=
 match r with
 |none=>.returned (.tuple #[.agg #[eS,iT 0,iT 0],iT 0,.bool false])
 |some (s,a)=>.returned (.tuple #[.agg #[sT s.put,iT (s.place:Int),iT (s.size:Int)],iT (a:Int),.bool true])
theorem VR(s:BA)(hs:s.size<=140737488351232)(a:Nat)(w:World):
  Calls Tryz.prog 201 #[sT s,iT a] w fun e w'=>e=Oy (M.stepOf s a)/\Q w w':=by
 have hl:s.data.toList.length=s.size:=by simp
 cases hg:M.Cb s.data.toList a with
 |none =>
  have E:M.stepOf s a=none:=by unfold M.stepOf;rw[hg]
  rw[E];have G:Hid _:=get_none s a hs hg;go_in;go_wp2_with fail;apply(G.out _).mono;rintro e w1⟨rfl,rfl⟩;go_wp2_with fail;refine bodyPost_ret (v:=.tuple #[.agg #[eS,iT 0,iT 0],iT 0,.bool false]) (by simp[results,Tryz.results201,go_sem]) rfl ?_;exact⟨rfl,(Q.refl w).alloc _ _⟩
 |some p =>
  obtain⟨u,nx⟩:=p;have hb:=M.Bu hg;have G:Hid _:=get_some s a u nx hs hg;have hu2:((u/2:Nat):Int)=(u:Int)/2:=by omega
  by_cases h0:u/2=0
  .have E:M.stepOf s a=none:=by unfold M.stepOf;rw[hg];simp only;rw[if_pos h0]
   (rw[E];have t0:((u:Int)/2)=0:=by omega);go_in;go_wp2_with fail;apply(G.out _).mono;rintro e w1⟨rfl,rfl⟩;go_wp2_with fail;refine bodyPost_ret (v:=.tuple #[.agg #[eS,iT 0,iT 0],iT 0,.bool false]) (by simp[results,Tryz.results201,go_sem]) rfl ?_;exact⟨rfl,(Q.refl w).alloc _ _⟩
  .by_cases hev:u%2=0
   ·((have t1:((u:Int)%2==0)=true:=by simp;omega);have t0:((u:Int)/2==0)=false:=by simp;omega);by_cases hlong:s.size-nx<u/2
    ·((have E:M.stepOf s a=none:=by unfold M.stepOf;rw[hg];simp only;rw[if_neg h0,if_pos hev,if_pos hlong]);rw[E];have t2:decide ((s.size:Int)-(nx:Int)<(u:Int)/2)=true:=by simp;omega);go_in;go_wp2_with fail;apply(G.out _).mono;rintro e w1⟨rfl,rfl⟩;go_wp2_with fail;refine bodyPost_ret (v:=.tuple #[.agg #[eS,iT 0,iT 0],iT 0,.bool false]) (by simp[results,Tryz.results201,go_sem]) rfl ?_;exact⟨rfl,(Q.refl w).alloc _ _⟩
    ·(((have E:M.stepOf s a=some (⟨s.extract nx (nx+u/2),0,u/2⟩,nx+u/2):=by unfold M.stepOf;rw[hg];simp only;rw[if_neg h0,if_pos hev,if_neg hlong]);rw[E];have t2:decide ((s.size:Int)-(nx:Int)<(u:Int)/2)=false:=by simp;omega);have hcs:=Yi s nx (u/2) (by omega);rw[hu2]at hcs;have hsz:(s.extract nx (nx+u/2)).size=u/2:=by simp;omega);have PS:=PO (s.extract nx (nx+u/2));rw[hsz,hu2]at PS;have PH:Hid _:=PS;generalize s.extract nx (nx+u/2)=piece at*;go_in;go_wp2_with fail;apply(G.out _).mono;rintro e w1⟨rfl,rfl⟩;go_wp2_with fail;apply(PH.out _).mono;rintro e w2⟨rfl,q2⟩;obtain⟨⟨x0,x1,x2⟩,⟨y0,y1,y2⟩⟩:=zM q2;go_wp2_with fail;obtain⟨z0,z1,z2⟩:=XZ x0 x1 x2 (sT piece) (iT 0) (iT ((u:Int)/2));refine bodyPost_ret (v:=.tuple #[.agg #[sT piece,iT 0,iT ((u:Int)/2)],iT ((nx:Int)+(u:Int)/2),.bool true]) (by simp[results,Tryz.results201,go_sem,z0,z1,z2]) rfl ?_;exact⟨by simp only[Oy,Int.natCast_add,hu2,Int.natCast_zero],(((Q.refl w).alloc _ _).trans q2).vW (zLK _) _ _ _⟩
   ·(have t1:((u:Int)%2==0)=false:=by simp;omega);have t0:((u:Int)/2==0)=false:=by simp;omega
    cases hg2:M.Cb s.data.toList nx with
    |none =>
     (have E:M.stepOf s a=none:=by unfold M.stepOf;rw[hg];simp only;rw[if_neg h0,if_neg hev,hg2]);rw[E];have G2:Hid _:=get_none s nx hs hg2;go_in;go_wp2_with fail;apply(G.out _).mono;rintro e w1⟨rfl,rfl⟩;go_wp2_with fail;apply(G2.out _).mono;rintro e w1⟨rfl,rfl⟩;go_wp2_with fail;refine bodyPost_ret (v:=.tuple #[.agg #[eS,iT 0,iT 0],iT 0,.bool false]) (by simp[results,Tryz.results201,go_sem]) rfl ?_;exact⟨rfl,(Q.refl w).alloc _ _⟩
    |some p =>
     obtain⟨p,n2⟩:=p;have hb2:=M.Bu hg2;have G2:Hid _:=get_some s nx p n2 hs hg2;by_cases kN:72057594037927935-u/2<p
     ·((have E:M.stepOf s a=none:=by unfold M.stepOf;rw[hg];simp only;rw[if_neg h0,if_neg hev,hg2];simp only;rw[if_pos kN]);rw[E];have t2:decide (72057594037927935-(u:Int)/2<(p:Int))=true:=by simp;omega);go_in;go_wp2_with fail;apply(G.out _).mono;rintro e w1⟨rfl,rfl⟩;go_wp2_with fail;apply(G2.out _).mono;rintro e w1⟨rfl,rfl⟩;go_wp2_with fail;refine bodyPost_ret (v:=.tuple #[.agg #[eS,iT 0,iT 0],iT 0,.bool false]) (by simp[results,Tryz.results201,go_sem]) rfl ?_;exact⟨rfl,(Q.refl w).alloc _ _⟩
     ·((have E:M.stepOf s a=some (⟨⟨#[]⟩,p,u/2⟩,n2):=by unfold M.stepOf;rw[hg];simp only;rw[if_neg h0,if_neg hev,hg2];simp only;rw[if_neg kN]);rw[E];have t2:decide (72057594037927935-(u:Int)/2<(p:Int))=false:=by simp;omega);have TS:=NY (p:Int) ((u/2:Nat):Int);rw[hu2]at TS;have TH:Hid _:=TS;go_in;go_wp2_with fail;apply(G.out _).mono;rintro e w1⟨rfl,rfl⟩;go_wp2_with fail;apply(G2.out _).mono;rintro e w1⟨rfl,rfl⟩;go_wp2_with fail;apply(TH.out _).mono;rintro e w2⟨rfl,q2⟩;obtain⟨⟨x0,x1,x2⟩,⟨y0,y1,y2⟩⟩:=zM q2;go_wp2_with fail;obtain⟨z0,z1,z2⟩:=XZ x0 x1 x2 eS (iT (p:Int)) (iT ((u:Int)/2));refine bodyPost_ret (v:=.tuple #[.agg #[eS,iT (p:Int),iT ((u:Int)/2)],iT (n2:Int),.bool true]) (by simp[results,Tryz.results201,go_sem,z0,z1,z2]) rfl ?_;exact⟨by simp only[Oy,hu2],(((Q.refl w).alloc _ _).trans q2).vW (zLK _) _ _ _⟩
def Gn(L:List M.St):List Value:=(List.range L.length).map fun k=>Value.int .i64 (M.tot (L.take (k+1)):Nat)
theorem RJ(L:List M.St):(Gn L).length=L.length:=by simp[Gn]
theorem Yf(L:List M.St)(k:Nat)(hk:k<L.length):(Gn L)[k]?=some (iT (M.tot (L.take (k+1)):Nat)):=by simp[Gn,hk]
theorem WV(L:List M.St)(s:M.St):Gn (L++[s])=Gn L++[iT ((M.tot L+s.size:Nat):Int)]:=by
 unfold Gn;rw[zLL,List.length_singleton,List.range_succ,List.map_append];congr 1
 .apply List.map_congr_left;intro k hk;have:k<L.length:=by simpa using hk
  rw[zLU (by omega)]
 .simp only[zLx,List.map_nil];rw[zLP (by simp),M.Hr,M.Kg]
def Ends(w:World)(ao:Option Addr)(L:List M.St):Prop:=L=[]\/∃g,ao=some (aD g 0)/\g<w.heap.size/\∀k,k<L.length->w.cell? (aD g k)=some (iT (M.tot (L.take (k+1)):Nat))
theorem Ends.kept(h:Ends w ao L)(q:Q w w'):Ends w' ao L:=by
 rcases h with h|⟨g,rfl,hg,hs⟩
 .exact Or.inl h
 .exact Or.inr ⟨g,rfl,by have:=q.below.size;omega,fun k hk=>(q.below.cell (p:=(aD g k)) hg).trans (hs k hk)⟩
theorem OL{base:Nat}{cap:Nat}(h:w.ownsRow base 3 1 (.slice ao L.length cap) L.length (Gn L)):Ends w ao L:=by
 by_cases hL:L=[]
 .exact Or.inl hL
 .obtain⟨g,rfl,_,hlt,hc⟩:=Cv h (by
   intro e;have h1:=RJ L;rw[e,zLW]at h1;exact hL (zLN h1.symm))
  exact Or.inr ⟨g,rfl,hlt,fun k hk=>hc k _ (Yf L k hk)⟩
theorem Mv(L:List M.St)(so eo:Option Addr)(n sc ec:Nat)(w:World)(h:Ends w eo L)(hl:L.length<=4096):
  Calls Tryz.prog 202 #[.agg #[.slice so n sc,.slice eo L.length ec]] w fun e w'=>e=.returned (iT (M.tot L:Nat))/\Q w w':=by
 by_cases h0:L.length=0
 .obtain rfl:=zLN h0;clear h;simp only[zLW,M.tot];go_in;go_wp2;go_ret;exact⟨rfl,(Q.refl w).alloc _ _⟩
 .have hne:L≠[]:=fun e=>h0 (by rw[e];rfl);rcases h with h|⟨g,rfl,hg,hs⟩
  .exact absurd h hne
  .have hc:=hs (L.length-1) (by omega);rw[show L.length-1+1=L.length by omega,zM0]at hc;have t0:((L.length:Int)==0)=false:=by simp;omega
   (((have t1:((L.length:Int)-1).toNat=L.length-1:=by omega);have t2:(0:Int)<=(L.length:Int)-1:=by omega);have t3:(L.length:Int)-1<(L.length:Int):=by omega);have hc2:=(((Below.refl _ w).alloc (o:=.cells #[.slice so n sc,.slice (some (aD g 0)) L.length ec] 242) (zLK _)).cell (p:=⟨g,L.length-1,none⟩) hg).trans hc;clear hs hc hne;go_in;go_wp2;go_ret;exact⟨rfl,(Q.refl w).alloc _ _⟩
theorem Ve{b1 b2:Nat}{e1 e2:TypeId}{s1 s2:Nat}{v1 v2:Value}{n1 n2:Nat}{x1 x2:List Value}(h1:w.ownsRow b1 e1 s1 v1 n1 x1)(h2:w.ownsRow b2 e2 s2 v2 n2 x2)(hne:e1≠e2):v1.ownBlock=none\/v1.ownBlock≠v2.ownBlock:=by
 rcases h1.2 with⟨rfl,_⟩|⟨g,c,cur,rfl,_,hg,_⟩
 .exact Or.inl rfl
 .rcases h2.2 with⟨rfl,_⟩|⟨g',c',cur',rfl,_,hg',_⟩
  .exact Or.inr (by simp[Value.ownBlock])
  .refine Or.inr ?_;simp only[Value.ownBlock,ne_eq,zLO];rintro rfl;rw[hg]at hg';simp only[zLO,Obj.cells.injEq]at hg';exact hne hg'.2.1
structure Rd(w:World)(L E:List M.St)(so eo:Option Addr)(sc ec:Nat)(wr:World):Prop where
 below:Below w.heap.size w wr
 r0:wr.cell? (aD w.heap.size 0)=some nS
 r1:wr.cell? (aD w.heap.size 1)=some nS
 f0:wr.frozen? (aD w.heap.size 0)=false
 f1:wr.frozen? (aD w.heap.size 1)=false
 c0:wr.cell? (aD (w.heap.size+1) 0)=some (.slice so L.length sc)
 c1:wr.cell? (aD (w.heap.size+1) 1)=some (.slice eo E.length ec)
 g0:wr.frozen? (aD (w.heap.size+1) 0)=false
 g1:wr.frozen? (aD (w.heap.size+1) 1)=false
 Vf:wr.ownsRow (w.heap.size+2) 255 3 (.slice so L.length sc) L.length (cellsOf L)
 PX:wr.ownsRow (w.heap.size+2) 3 1 (.slice eo E.length ec) E.length (Gn E)
 top:w.heap.size+2<=wr.heap.size
theorem Rd.kept{wr':World}(h:Rd w L E so eo sc ec wr)(q:Q wr wr'):Rd w L E so eo sc ec wr':=by
 have ht:=h.top;have cl:∀(b o:Nat),b<wr.heap.size->wr'.cell? (aD b o)=wr.cell? (aD b o):=fun b o hlt=>q.below.cell (p:=(aD b o)) hlt;have fr:∀(b o:Nat),b<wr.heap.size->wr'.frozen? (aD b o)=wr.frozen? (aD b o):=fun b o hlt=>q.below.frozen (p:=(aD b o)) hlt;exact⟨h.below.trans (q.below.mono (by omega)),(cl _ _ (by omega)).trans h.r0,(cl _ _ (by omega)).trans h.r1,(fr _ _ (by omega)).trans h.f0,(fr _ _ (by omega)).trans h.f1,
  (cl _ _ (by omega)).trans h.c0,(cl _ _ (by omega)).trans h.c1,(fr _ _ (by omega)).trans h.g0,(fr _ _ (by omega)).trans h.g1,own_below h.Vf q.below,own_below h.PX q.below,by have:=q.below.size;omega⟩
theorem Rd.start(w:World):Rd w [] [] none none 0 0 ((w.alloc (.cells #[nS,nS] 242)).alloc (.cells #[nS,nS] 242)):=by
 have hsz:(w.alloc (.cells #[nS,nS] 242)).heap.size=w.heap.size+1:=by simp
 obtain⟨⟨x0,x1⟩,⟨y0,y1⟩⟩:=new2 ((Q.refl (w.alloc (.cells #[nS,nS] 242))).alloc #[nS,nS] 242);obtain⟨⟨z0,z1⟩,⟨v0,v1⟩⟩:=new2 (Q.refl ((w.alloc (.cells #[nS,nS] 242)).alloc (.cells #[nS,nS] 242)));rw[hsz]at z0 z1 v0 v1;exact⟨((Below.refl _ w).alloc (zLK _) _).alloc (by simp) _,x0,x1,y0,y1,z0,z1,v0,v1,World.ownsRow_nil _ _ _ _,World.ownsRow_nil _ _ _ _,by simp⟩
theorem Rd.stored(h:Rd w L E so eo sc ec wr)(a b:Value):
  ((wr.setCell (aD w.heap.size 0) a).setCell (aD w.heap.size 1) b).cell? (aD w.heap.size 0)=some a /\
  ((wr.setCell (aD w.heap.size 0) a).setCell (aD w.heap.size 1) b).cell? (aD w.heap.size 1)=some b /\
  Q w ((wr.setCell (aD w.heap.size 0) a).setCell (aD w.heap.size 1) b) /\
  Steps ((wr.setCell (aD w.heap.size 0) a).setCell (aD w.heap.size 1) b) so L /\
  Ends ((wr.setCell (aD w.heap.size 0) a).setCell (aD w.heap.size 1) b) eo E:=by
 obtain⟨k0,k1⟩:=vS h.r0 h.r1 a b;exact⟨k0,k1,(Q.mk h.below).set2 (zLK _) a b,
  PW (ownsRow_setCell_below (ownsRow_setCell_below h.Vf (a:=(aD w.heap.size 0)) (by show w.heap.size<_;omega) a) (a:=(aD w.heap.size 1)) (by show w.heap.size<_;omega) b),
  OL (ownsRow_setCell_below (ownsRow_setCell_below h.PX (a:=(aD w.heap.size 0)) (by show w.heap.size<_;omega) a) (a:=(aD w.heap.size 1)) (by show w.heap.size<_;omega) b)⟩
theorem Rd.zE3{um:Option Addr}{uo:Nat}(h:Rd w L E so eo sc ec wr)(s:M.St)(x:Int)(hx:x=((M.tot E+s.size:Nat):Int))(hg:wr.grownBy w' (Value.slice eo E.length ec).ownBlock)(ho:w'.ownsRow (w.heap.size+2) 3 1 (.slice um (E.length+1) uo) (E.length+1) (Gn E++[iT x])):
  w'.cell? (aD (w.heap.size+1) 1)=some (.slice eo E.length ec)/\w'.frozen? (aD (w.heap.size+1) 1)=false /\
  Rd w L (E++[s]) so um sc uo (w'.setCell (aD (w.heap.size+1) 1) (.slice um (E.length+1) uo)):=by
 subst hx;have ht:=h.top;have hb:Below (w.heap.size+2) wr w':=(Below.refl _ wr).grown hg ht (Dx h.PX);have cl:∀(b o:Nat),b<w.heap.size+2->w'.cell? (aD b o)=wr.cell? (aD b o):=fun b o hl=>hb.cell (p:=(aD b o)) hl;have fr:∀(b o:Nat),b<w.heap.size+2->w'.frozen? (aD b o)=wr.frozen? (aD b o):=fun b o hl=>hb.frozen (p:=(aD b o)) hl;have k1:=(cl _ 1 (by omega)).trans h.c1;have oc:∀(b o:Nat),b<w.heap.size+2->(b≠w.heap.size+1\/o≠1)->(w'.setCell (aD (w.heap.size+1) 1) (.slice um (E.length+1) uo)).cell? (aD b o)=wr.cell? (aD b o):=fun b o hl hn=>by
  rw[zMH _ _ _ _ (by intro e;injection e;omega)];exact cl b o hl
 have of:∀(b o:Nat),b<w.heap.size+2->(w'.setCell (aD (w.heap.size+1) 1) (.slice um (E.length+1) uo)).frozen? (aD b o)=wr.frozen? (aD b o):=fun b o hl=>by
  rw[zMK];exact fr b o hl
 refine⟨k1,(fr _ 1 (by omega)).trans h.g1,⟨(h.below.trans (hb.mono (by omega))).setCell (by show w.heap.size<=w.heap.size+1;omega) _,(oc _ _ (by omega) (by omega)).trans h.r0,(oc _ _ (by omega) (by omega)).trans h.r1,(of _ _ (by omega)).trans h.f0,(of _ _ (by omega)).trans h.f1,(oc _ _ (by omega) (by omega)).trans h.c0,?_,(of _ _ (by omega)).trans h.g0,(of _ _ (by omega)).trans h.g1,?_,?_,?_⟩⟩
 .rw[zMJ _ _ _ k1];simp
 .exact ownsRow_setCell_below (h.Vf.kept hg (Ve h.Vf h.PX (by decide))) (a:=(aD (w.heap.size+1) 1)) (by show w.heap.size+1<_;omega) _
 .have:=ownsRow_setCell_below ho (a:=(aD (w.heap.size+1) 1)) (by show w.heap.size+1<w.heap.size+2;omega) (.slice um (E.length+1) uo);rw[WV,zLL];exact this
 .have:=hb.size;simp;omega
theorem Rd.zE2{zG:Option Addr}{zH:Nat}(h:Rd w L E so eo sc ec wr)(s:M.St)(hg:wr.grownBy w' (Value.slice so L.length sc).ownBlock)(ho:w'.ownsRow (w.heap.size+2) 255 3 (.slice zG (L.length+1) zH) (L.length+1) (cellsOf L++s.cells)):
  w'.cell? (aD (w.heap.size+1) 0)=some (.slice so L.length sc)/\w'.frozen? (aD (w.heap.size+1) 0)=false /\
  Rd w (L++[s]) E zG eo zH ec (w'.setCell (aD (w.heap.size+1) 0) (.slice zG (L.length+1) zH)):=by
 have ht:=h.top;have hb:Below (w.heap.size+2) wr w':=(Below.refl _ wr).grown hg ht (Dx h.Vf);have cl:∀(b o:Nat),b<w.heap.size+2->w'.cell? (aD b o)=wr.cell? (aD b o):=fun b o hl=>hb.cell (p:=(aD b o)) hl;have fr:∀(b o:Nat),b<w.heap.size+2->w'.frozen? (aD b o)=wr.frozen? (aD b o):=fun b o hl=>hb.frozen (p:=(aD b o)) hl;have k1:=(cl _ 0 (by omega)).trans h.c0;have oc:∀(b o:Nat),b<w.heap.size+2->(b≠w.heap.size+1\/o≠0)->(w'.setCell (aD (w.heap.size+1) 0) (.slice zG (L.length+1) zH)).cell? (aD b o)=wr.cell? (aD b o):=fun b o hl hn=>by
  rw[zMH _ _ _ _ (by intro e;injection e;omega)];exact cl b o hl
 have of:∀(b o:Nat),b<w.heap.size+2->(w'.setCell (aD (w.heap.size+1) 0) (.slice zG (L.length+1) zH)).frozen? (aD b o)=wr.frozen? (aD b o):=fun b o hl=>by
  rw[zMK];exact fr b o hl
 refine⟨k1,(fr _ 0 (by omega)).trans h.g0,⟨(h.below.trans (hb.mono (by omega))).setCell (by show w.heap.size<=w.heap.size+1;omega) _,(oc _ _ (by omega) (by omega)).trans h.r0,(oc _ _ (by omega) (by omega)).trans h.r1,(of _ _ (by omega)).trans h.f0,(of _ _ (by omega)).trans h.f1,?_,(oc _ _ (by omega) (by omega)).trans h.c1,(of _ _ (by omega)).trans h.g0,(of _ _ (by omega)).trans h.g1,?_,?_,?_⟩⟩
 .rw[zMJ _ _ _ k1];simp
 .have:=ownsRow_setCell_below ho (a:=(aD (w.heap.size+1) 0)) (by show w.heap.size+1<w.heap.size+2;omega) (.slice zG (L.length+1) zH);rw[KX,DJ,zLL];exact this
 .exact ownsRow_setCell_below (h.PX.kept hg (Ve h.PX h.Vf (by decide))) (a:=(aD (w.heap.size+1) 0)) (by show w.heap.size+1<_;omega) _
 .have:=hb.size;simp;omega
theorem iF{s:BA}{size:Nat}{acc:List Nat}(h:M.stepOf s a=none):M.GH s.data.toList size a acc=none:=by
 unfold M.stepOf at h;unfold M.GH
 cases hg:M.Cb s.data.toList a with
 |none=>rfl
 |some p =>
  obtain⟨u,nx⟩:=p;have hb:=M.Bu hg;have hl:s.data.toList.length=s.size:=by simp
  rw[hg]at h;simp only at h⊢;by_cases h0:u/2<1\/size-acc.length<u/2
  .rw[if_pos h0]
  .rw[if_neg (by omega)]at h;rw[if_neg h0];by_cases hev:u%2=0
   .rw[if_pos hev]at h;rw[if_neg (by omega)];split at h
    .rw[if_neg (by omega)]
    .simp at h
   .rw[if_neg hev]at h;rw[if_pos (by omega)]
    cases hg2:M.Cb s.data.toList nx with
    |none=>rfl
    |some q =>
     obtain⟨p,n2⟩:=q;rw[hg2]at h;simp only at h⊢;split at h
     .rw[if_pos (by assumption)]
     .simp at h
theorem iD{s:BA}{a' size:Nat}{acc:List Nat}{st:M.St}(h:M.stepOf s a=some (st,a'))(hs:size<=4096):
  (size-acc.length<st.size->M.GH s.data.toList size a acc=none) /\
  (¬size-acc.length<st.size->M.GH s.data.toList size a acc=some (acc++st.acc,a')/\st.Good)/\a<a'/\a'<=s.size/\st.size<72057594037927936/\st.place<72057594037927936:=by
 unfold M.stepOf at h;unfold M.GH
 cases hg:M.Cb s.data.toList a with
 |none=>rw[hg]at h;simp at h
 |some p =>
  obtain⟨u,nx⟩:=p;have hb:=M.Bu hg;have hl:s.data.toList.length=s.size:=by simp
  rw[hg]at h;simp only at h⊢;by_cases h0:u/2=0
  .rw[if_pos h0]at h;simp at h
  .rw[if_neg h0]at h;by_cases hev:u%2=0
   .rw[if_pos hev]at h;split at h
    .simp at h
    ·(rename_i hlong;simp only[zLO,Prod.mk.injEq]at h;obtain⟨rfl,rfl⟩:=h;have hsz:(s.extract nx (nx+u/2)).size=u/2:=by simp;omega);refine⟨fun hx=>by rw[if_pos (by simp only at hx;omega)],fun hx=>?_,by omega,by omega,by simp only;omega,by simp only;omega⟩;simp only at hx;refine⟨?_,Or.inr ⟨by simp only;omega,by simp only;omega,rfl,by simp only;omega⟩⟩;rw[if_neg (by omega),if_neg (by omega),if_pos (by omega)];simp only[zLO,Prod.mk.injEq,and_true];unfold M.St.acc M.zAL;rw[if_neg (by simp only;omega)];simp[ByteArray.data_extract]
   .rw[if_neg hev]at h
    cases hg2:M.Cb s.data.toList nx with
    |none=>rw[hg2]at h;simp at h
    |some q =>
     obtain⟨p,n2⟩:=q;have hb2:=M.Bu hg2;rw[hg2]at h;simp only at h;split at h
     .simp at h
     .simp only[zLO,Prod.mk.injEq]at h;obtain⟨rfl,rfl⟩:=h;refine⟨fun hx=>by rw[if_pos (by simp only at hx;omega)],fun hx=>?_,by omega,by omega,by simp only;omega,by simp only;omega⟩;simp only at hx;refine⟨?_,Or.inl ⟨rfl,by simp only;omega,by simp only;omega,by simp only;omega⟩⟩;rw[if_neg (by omega),if_pos (by omega)];simp only;rw[if_neg (by omega)];simp only[zLO,Prod.mk.injEq,and_true];unfold M.St.acc;rw[if_pos (by rfl)]
def leads(s t:M.St):Bool:=if s.put.size=0/\t.put.size=0 then decide (s.place+s.size=t.place)else decide (s.put.size≠0/\t.put.size≠0)
theorem je(s t:M.St):leads s t=true↔M.XA s t:=by
 unfold leads M.XA;split<;>simp
theorem YB(s t:M.St)(hs:s.place+s.size<=72057594037927935)(w:World):
  Calls Tryz.prog 205 #[.agg #[sT s.put,iT (s.place:Int),iT (s.size:Int)],.agg #[sT t.put,iT (t.place:Int),iT (t.size:Int)]] w fun e w'=>e=.returned (.bool (leads s t))/\Q w w':=by
 obtain⟨W0,hW0⟩:=ex ((w.alloc (.cells #[sT s.put,iT (s.place:Int),iT (s.size:Int)] 255)).alloc (.cells #[sT t.put,iT (t.place:Int),iT (t.size:Int)] 255));have hQ:Q w W0:=by rw[hW0];exact((Q.refl w).alloc _ _).alloc _ _
 obtain⟨⟨X0,X1,X2⟩,-⟩:=zM (w:=w) (w2:=W0) (by rw[hW0];exact(Q.refl _).alloc _ _);obtain⟨⟨Y0,Y1,Y2⟩,-⟩:=zM (w2:=W0) (by rw[hW0];exact Q.refl _);rw[zMM]at Y0 Y1 Y2;rw[hW0]at hQ X0 X1 X2 Y0 Y1 Y2;clear hW0 W0;have T0:(s.place:Int)+(s.size:Int)<=72057594037927935:=by omega
 cases h1:N9 s.put<;>cases h2:N9 t.put
 .have h1':=h1;have h2':=h2;rw[OU]at h1' h2';have E:Hid (leads s t=decide (s.place+s.size=t.place)):=by unfold leads;rw[if_pos ⟨h1',h2'⟩];exact rfl
  have tt:((s.place:Int)+(s.size:Int)==(t.place:Int))=decide (s.place+s.size=t.place):=by
   rw[Bool.eq_iff_iff];simp;omega
  clear h1' h2';go_in;go_wp2_with(go_at_call 203;apply(OG _ _ _ _).mono;rintro e w1⟨rfl,q1⟩;replace hQ:=hQ.trans q1;replace X0:=AA X0 q1;replace X1:=AA X1 q1;replace X2:=AA X2 q1;replace Y0:=AA Y0 q1;replace Y1:=AA Y1 q1;replace Y2:=AA Y2 q1;clear q1);go_ret;exact⟨by rw[E.out];rfl,hQ⟩
 all_goals
  have h1':=h1;have h2':=h2;simp only[OU,P5]at h1' h2';have E:Hid (leads s t=(N9 s.put&&N9 t.put)):=by unfold leads N9;rw[if_neg (by omega)];exact Bool.decide_and _ _
  clear h1' h2';go_in;go_wp2_with(go_at_call 203;apply(OG _ _ _ _).mono;rintro e w1⟨rfl,q1⟩;replace hQ:=hQ.trans q1;replace X0:=AA X0 q1;replace X1:=AA X1 q1;replace X2:=AA X2 q1;replace Y0:=AA Y0 q1;replace Y1:=AA Y1 q1;replace Y2:=AA Y2 q1;clear q1);go_ret;refine⟨?_,hQ⟩;rw[E.out,h1,h2];rfl
theorem oH(w:World)(a b:BA)(t:TypeId):Strs (w.alloc (.cells #[sT a,sT b] t)) (some (aD w.heap.size 0)) [a,b]:=by
 refine Or.inr ⟨w.heap.size,0,rfl,by simp,fun k s hk=>?_⟩
 match k,hk with
 |0,hk=>simp at hk;subst hk;simp
 |1,hk=>simp at hk;subst hk;simp
 |k+2,hk=>simp at hk
theorem Ti(a b:BA)(cap:Nat)(w:World)(t:TypeId)(ha:a.size<=70000000000000)(hb:b.size<=70000000000000):
  Calls Tryz.prog 151 #[.slice (some (aD w.heap.size 0)) 2 cap] (w.alloc (.cells #[sT a,sT b] t)) fun e w'=>e=.returned (sT ⟨(a.data.toList++b.data.toList).toArray⟩)/\Q (w.alloc (.cells #[sT a,sT b] t)) w':=by
 have h:=L6 [a,b] (some (aD w.heap.size 0)) cap _ (oH w a b t) (by simp[M.cat];omega) (by simp);have e:M.cat [a,b]=a.data.toList++b.data.toList:=by simp[M.cat]
 rw[e]at h;exact h
theorem Zh(s:M.St)(L:List M.St)(ao:Option Addr)(cap:Nat)(w:World)(h:Steps w ao (s::L))(hl:M.tot (s::L)<=4096)(hg:M.DF (s::L)):
  Calls Tryz.prog 206 #[.slice ao (s::L).length cap] w fun e w'=>e=.returned (sT ⟨(M.EX (s::L)).toArray⟩)/\Q w w':=by
 obtain⟨g,o,rfl,hgl,hc⟩:=h.at (k:=0) (by simp);obtain⟨c0,c1,c2⟩:=hc 0 s rfl;rw[show o+0*3=o by omega]at c0 c1 c2;have hpos:=(hg s (by simp)).pos;have MC:=hU (ZU (s::L) (some (aD g o)) cap w h hl hg);have hN:(s::L).length≠0:=by simp
 have hN2:(0:Int)<((s::L).length:Int):=by simp
 have hN3:=M.Cy hg;have E:Hid (M.EX (s::L)=if s.put.size=0 then M.enc 7 (2*M.tot (s::L)+1)++M.enc 7 s.place else M.enc 7 (2*M.tot (s::L))):=rfl;generalize M.EX (s::L)=H at*;generalize M.tot (s::L)=T at*;generalize (s::L).length=N at*;have w1:IntKind.i64.wrap (2*(T:Int))=2*(T:Int):=by rw[IntKind.wrap_i64];omega
 have w2:IntKind.i64.wrap (2*(T:Int)+1)=2*(T:Int)+1:=by rw[IntKind.wrap_i64];omega
 by_cases h0:s.put.size=0
 .have F:Hid (H=M.enc 7 (2*T+1)++M.enc 7 s.place):=by rw[E.out,if_pos h0];exact rfl
  have hi:N9 s.put=false:=OU.2 h0;have e1:=M.I6 (n:=2*T+1) (by omega);have e2:=M.UH s.place;go_in;go_wp2_with fail;apply(MC.out ()).mono;rintro e v1⟨rfl,q1⟩;have d0:=AA c0 q1;have d1:=AA c1 q1;have d2:=AA c2 q1;go_wp2_with fail;apply(OG _ _ _ _).mono;rintro e v2⟨rfl,q2⟩;have f1:=AA d1 q2;have hQ:Q v2 v2.drew:=(Q.refl _).drew;have hF:v2.drew.cell? (aD g (o+1))=some (iT (s.place:Int)):=f1;have hQ0:=q1.trans q2;have hn1:(2*(T:Int)+1).toNat=2*T+1:=by omega
  go_wp2_with fail
  go_region_with (first
   |(go_at_call 149;refine(GR _ ?_ _).mono ?_;omega;rintro e v3⟨rfl,q3⟩;replace hQ:=hQ.trans q3;replace hF:=AA hF q3)
   |(go_at_call 151;refine(Ti _ _ _ _ _ ?_ ?_).mono ?_;simp[ByteArray.size];omega;simp[ByteArray.size];omega;rintro e v4⟨rfl,q4⟩))
  all_goals
   go_wp2;go_ret;refine⟨?_,hQ0.trans ((hQ.alloc _ _).trans q4)⟩;rw[F.out];rfl
 .have F:Hid (H=M.enc 7 (2*T)):=by rw[E.out,if_neg h0];exact rfl
  have hi:N9 s.put=true:=P5.2 h0;have N1:Hid _:=J6 (2*T) (by omega);rw[show((2*T:Nat):Int)=2*(T:Int) by omega]at N1;go_in;go_wp2_with fail;apply(MC.out ()).mono;rintro e v1⟨rfl,q1⟩;have d0:=AA c0 q1;have d1:=AA c1 q1;have d2:=AA c2 q1;go_wp2_with fail;apply(OG _ _ _ _).mono;rintro e v2⟨rfl,q2⟩;go_wp2_with fail;apply(N1.out _).mono;rintro e v3⟨rfl,q3⟩;go_wp2;go_ret;exact⟨by rw[F.out];rfl,(q1.trans q2).trans q3⟩
end Go.Proofs.YtekdenkllipehaaGreatDoor
