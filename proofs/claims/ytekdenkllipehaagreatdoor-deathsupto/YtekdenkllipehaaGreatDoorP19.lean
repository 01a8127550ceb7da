import Derived.Test.YtekdenkllipehaaGreatDoorP18
import Derived.Deep.DeepCutAuto
import Derived.Deep.MidRow
set_option maxRecDepth 99999
set_option maxHeartbeats 0
namespace Go.Proofs.YtekdenkllipehaaGreatDoor
open Go.RowKit
variable{C L R:List M.St}{F N X m n o:Nat}{P:List BA}{a:List UInt8}{ao:Option Addr}{b:BA}{f g:Nat->Nat}{p:Addr}{v:Value}{w w' w0 wr:World}
def zC2(w:World)(e:Ending)(w':World):Prop:=
 ∃(so eo:Option Addr)(n m sc ec:Nat),e=.returned (.tuple #[.agg #[.slice so n sc,.slice eo m ec],.bool false])/\Q w w'
def zC1(acc:List Nat)(w:World)(e:Ending)(w':World):Prop:=
 ∃(L:List M.St)(so eo:Option Addr)(sc ec:Nat),e=.returned (.tuple #[.agg #[.slice so L.length sc,.slice eo L.length ec],.bool true])/\(M.DF L/\M.flat L=acc)/\Steps w' so L/\Ends w' eo L/\Q w w'
def yT(size:Nat)(r:Option (List Nat))(w:World)(e:Ending)(w':World):Prop:=
 match r with
 |none=>zC2 w e w'
 |some acc=>if acc.length=size then zC1 acc w e w' else zC2 w e w'
theorem Za:(Tryz.prog.info? 255).map (fun i=>(i.zero,i.size,i.bytes))=some (some (.agg #[eS,iT 0,iT 0]),3,32):=by kernel_rfl
theorem qI:(Tryz.prog.info? 3).map (fun i=>(i.zero,i.size,i.bytes))=some (some (iT 0),1,8):=by kernel_rfl
theorem MK(w:World)(s:M.St)(t:TypeId):∀j u,s.cells[j]?=some u->(w.alloc (.cells #[sT s.put,iT (s.place:Int),iT (s.size:Int)] t)).cell? (((aD w.heap.size 0):Addr).add j)=some u:=by
 intro j u hj
 match j,hj with
 |0,hj=>simp[M.St.cells]at hj;subst hj;simp[Addr.add]
 |1,hj=>simp[M.St.cells]at hj;subst hj;simp[Addr.add]
 |2,hj=>simp[M.St.cells]at hj;subst hj;simp[Addr.add]
 |j+3,hj=>simp[M.St.cells]at hj
theorem cells_one(s:M.St):∀u∈s.cells,u.oneCell'=true:=by
 intro u hu;simp[M.St.cells]at hu;rcases hu with rfl|rfl|rfl<;>rfl
theorem K4{wb:World}{row:Option Nat}(hg:wb.grownBy w' row)(h:wb.cell? p=some v)(hne:∀k,row=some k->k<p.block):w'.cell? p=some v:=by
 have hlt:p.block<wb.heap.size:=by
  rcases zLn p.block wb.heap.size with hl|hl
  .exact hl
  .unfold World.cell? at h;rw[zM4 hl]at h;simp at h
 exact(zMI (hg.block p.block hlt (fun e=>by have:=hne p.block e.symm;omega))).trans h
theorem VQ(s:BA)(hs:s.size<=140737488351232)(size a0:Nat)(h0:M.Cb s.data.toList 0=some (size,a0))(hsz:¬4096<size)(w:World):
  Calls Tryz.prog 190 #[sT s] w fun e w'=>yT size (M.Ec s.data.toList size (s.data.toList.length+1) a0 []) w e w':=by
 have hb0:=M.Bu h0;have G:Hid _:=get_some s 0 size a0 hs h0;rw[show((0:Nat):Int)=0 from rfl]at G;have hl:s.data.toList.length=s.size:=by simp
 have hA:=M.Zw s.data.toList size a0 (by omega);have RS:Hid _:=VR s hs;have HSn:Hid (∀a acc,M.stepOf s a=none->M.GH s.data.toList size a acc=none):=fun a acc h=>iF h;have HSs:Hid _:=fun(a a':Nat)(acc:List Nat)(st:M.St)(h:M.stepOf s a=some (st,a'))=>iD (acc:=acc) h (show size<=4096 by omega);generalize M.Ec s.data.toList size (s.data.toList.length+1) a0 []=r at*;generalize s.data.toList=l at*;have HL:=h_ hl;have t1:decide ((4096:Int)<(size:Int))=false:=by simp;omega
 have hR:=Rd.start w;obtain⟨i0,hi,hz0,hz1,hz2⟩:=info_parts qI;obtain⟨i1,hj,hy0,hy1,hy2⟩:=info_parts Za;go_in;go_wp2_with fail;apply(G.out _).mono;rintro e w1⟨rfl,rfl⟩;go_wp2_with fail
 go_loopw [5] (fun t wr=>∃(a:Nat)(L:List M.St)(so eo:Option Addr)(sc ec:Nat),M.At l size r a (M.flat L)/\M.DF L/\M.tot L<=size/\t=iT a/\Rd w L L so eo sc ec wr) (fun t _=>s.size-(intOf t).toNat)
 case atStart=>exact⟨a0,[],none,none,0,0,hA,M.DF.nil,zLS _,rfl,hR⟩
 case round =>
  obtain⟨a,L,so,eo,sc,ec,hat,hgd,htl,rfl,hr⟩:=hrel;have hal:a<=s.size:=by have:=M.zFa hat;rw[HL.out]at this;exact this
  have hLl:=M.Cy hgd;have hfl:=M.FW hgd;by_cases hlt:a<s.size
  .cases hst:M.stepOf s a with
   |none =>
    have E:Hid (r=none):=M.mM hat (by rw[HL.out];exact hlt) (HSn.out a _ hst);have RC:=RS.out a;rw[hst]at RC;simp only[Oy]at RC;have RH:Hid _:=RC;go_wp2_with fail;apply(RH.out _).mono;rintro e w2⟨rfl,q2⟩;have hr2:=(hr.kept q2).kept ((Q.refl w2).alloc #[eS,iT 0,iT 0] 255);go_wp2_with fail;go_quiet (fail);have hr3:=hr2.kept ((Q.refl _).drewN nq);have hx0:=hr3.r0;have hx1:=hr3.r1;have hx2:=hr3.f0;have hx3:=hr3.f1;obtain⟨k0,k1,kq,_,_⟩:=hr3.stored nS nS;go_wp2_with fail;refine bodyPost_ret (v:=.tuple #[.agg #[nS,nS],.bool false]) (by simp[results,Tryz.results190,go_sem,k0,k1]) rfl ?_;rw[E.out];exact⟨none,none,0,0,0,0,rfl,kq⟩
   |some p =>
    obtain⟨st,a'⟩:=p;obtain⟨hbad,hgood,ha1,ha2,hp1,hp2⟩:=HSs.out a a' (M.flat L) st hst;rw[hfl]at hbad hgood;have RC:=RS.out a;rw[hst]at RC;simp only[Oy]at RC;have RH:Hid _:=RC;go_wp2_with fail;apply(RH.out _).mono;rintro e w2⟨rfl,q2⟩;have hr2:=(hr.kept q2).kept ((Q.refl w2).alloc #[sT st.put,iT (st.place:Int),iT (st.size:Int)] 255);obtain⟨⟨x0,x1,x2⟩,⟨y0,y1,y2⟩⟩:=zM (Q.refl (w2.alloc (.cells #[sT st.put,iT (st.place:Int),iT (st.size:Int)] 255)));have hc0:=hr2.c0;have hc1:=hr2.c1;have LC:=Mv L so eo L.length sc ec _ (OL ((hr2.kept (Q.refl _).drew).PX)) (by omega);have LH:=hU LC;have hEk:=(hr.kept q2).PX.lt;have hSk:=(hr.kept q2).Vf.lt;have zGj:=(hr.kept q2).top;by_cases hlong:size-M.tot L<st.size
    ·(((have E:=h_ (M.mM hat (by rw[HL.out];exact hlt) (hbad hlong));have hwr:IntKind.i64.wrap ((size:Int)-(M.tot L:Int))=(size:Int)-(M.tot L:Int):=by rw[IntKind.wrap_i64];omega);have t2:decide ((size:Int)-(M.tot L:Int)<(st.size:Int))=true:=by simp;omega);go_upto_region 7 with fail);go_cut [45] (fun x wx=>x=.bool true/\Q (w2.alloc (.cells #[sT st.put,iT (st.place:Int),iT (st.size:Int)] 255)) wx)
     case first =>
      go_region_held3 (fun w'=>w'.cell? (aD w2.heap.size 2)=some (iT (st.size:Int))/\w'.cell? (aD (w.heap.size+1) 0)=some (.slice so L.length sc)/\w'.cell? (aD (w.heap.size+1) 1)=some (.slice eo L.length ec)) (first|exact⟨x2,hc0,hc1⟩|exact Db)
       (first|(go_at_call 202;apply(LH.out ()).mono;rintro e w4⟨rfl,q4⟩;have Db:w4.cell? (aD w2.heap.size 2)=some (iT (st.size:Int))/\w4.cell? (aD (w.heap.size+1) 0)=some (.slice so L.length sc)/\w4.cell? (aD (w.heap.size+1) 1)=some (.slice eo L.length ec):=⟨AA x2 (Aq q4),AA hc0 (Aq q4),AA hc1 (Aq q4)⟩))
      all_goals
       ((go_wp2_with fail);go_meet);case rel=>exact⟨rfl,Aq q4⟩
     case rest =>
      obtain⟨rfl,q5⟩:=hcut;have hr3:=hr2.kept q5;have hx0:=hr3.r0;have hx1:=hr3.r1;have hx2:=hr3.f0;have hx3:=hr3.f1;obtain⟨k0,k1,kq,_,_⟩:=hr3.stored nS nS;go_wp2_with fail;refine bodyPost_ret (v:=.tuple #[.agg #[nS,nS],.bool false]) (by simp[results,Tryz.results190,go_sem,k0,k1]) rfl ?_;rw[E.out];exact⟨none,none,0,0,0,0,rfl,kq⟩
    .obtain⟨hstep,hgs⟩:=hgood hlong;have HA:Hid (M.At l size r a' (M.flat (L++[st]))):=by
      rw[M.Eg,M.I5];exact M.Qj hat (by rw[HL.out];exact hlt) hstep
     ((((have HG2:=h_ (hgd.append (M.DF.one hgs));have HT2:Hid (M.tot (L++[st])<=size):=by rw[M.Hr,M.Kg];exact(by omega:M.tot L+st.size<=size));have hwr:IntKind.i64.wrap ((size:Int)-(M.tot L:Int))=(size:Int)-(M.tot L:Int):=by rw[IntKind.wrap_i64];omega);have t2:decide ((size:Int)-(M.tot L:Int)<(st.size:Int))=false:=by simp;omega);go_upto_region 7 with fail);go_cut [45] (fun x wx=>x=.bool false/\Q (w2.alloc (.cells #[sT st.put,iT (st.place:Int),iT (st.size:Int)] 255)) wx)
     case first =>
      go_region_held3 (fun w'=>w'.cell? (aD w2.heap.size 2)=some (iT (st.size:Int))/\w'.cell? (aD (w.heap.size+1) 0)=some (.slice so L.length sc)/\w'.cell? (aD (w.heap.size+1) 1)=some (.slice eo L.length ec)) (first|exact⟨x2,hc0,hc1⟩|exact Db)
       (first|(go_at_call 202;apply(LH.out ()).mono;rintro e w4⟨rfl,q4⟩;have Db:w4.cell? (aD w2.heap.size 2)=some (iT (st.size:Int))/\w4.cell? (aD (w.heap.size+1) 0)=some (.slice so L.length sc)/\w4.cell? (aD (w.heap.size+1) 1)=some (.slice eo L.length ec):=⟨AA x2 (Aq q4),AA hc0 (Aq q4),AA hc1 (Aq q4)⟩))
      all_goals
       ((go_wp2_with fail);go_meet);case rel=>exact⟨rfl,Aq q4⟩
     case rest =>
      ((obtain⟨rfl,q5⟩:=hcut;have hr3:=hr2.kept q5;have n0:=AA x0 q5;have n1:=AA x1 q5;have n2:=AA x2 q5;have LC2:=Mv L so eo L.length sc ec _ (OL ((hr3.kept (Q.refl _).drew).PX)) (by omega);have LH2:=hU LC2;have hc1:=hr3.c1;have hc0:=hr3.c0;have hw2:IntKind.i64.wrap ((M.tot L:Int)+(st.size:Int))=(M.tot L:Int)+(st.size:Int):=by rw[IntKind.wrap_i64];omega);go_upto_region 9 with fail);go_cut [4] (fun x wx=>x=iT size/\∃(um:Option Addr)(uo:Nat),Rd w L (L++[st]) so um sc uo wx/\wx.cell? (aD w2.heap.size 0)=some (sT st.put)/\wx.cell? (aD w2.heap.size 1)=some (iT (st.place:Int))/\wx.cell? (aD w2.heap.size 2)=some (iT (st.size:Int)))
      case first =>
       go_region_law (first
        |(refine JZ rfl (.tmp 48) (.tmp 54) 30 rfl (w.heap.size+2) 3 i0 (iT 0) 1 8 Tryz.underlying30 hi hz0 hz1 hz2 rfl (by decide) (.slice eo L.length ec) L.length (Gn L) (by simp[Act.eval]) (by exact hr4.PX.alloc _) (aD w6.heap.size 0) 1 1 [iT ((M.tot L:Int)+(st.size:Int))] (by simp[Act.eval]) rfl (one_cell _ _ _) (wH _) (by unfold maxLen;omega) (by omega) (by simp;omega) ?_;intro v' w' hown' hgrow;obtain⟨eo3,ec3,hv⟩:=Ac hown';rw[hv]at hown';rw[hv];obtain⟨kc,kf,hrn⟩:=(hr4.kept ((Q.refl _).alloc _ _)).zE3 st _ (by omega) hgrow hown';have m0:=K4 hgrow (AA p0 ((Q.refl _).alloc _ _)) (fun k hk=>(hEk k hk).2);have m1:=K4 hgrow (AA p1 ((Q.refl _).alloc _ _)) (fun k hk=>(hEk k hk).2);have m2:=K4 hgrow (AA p2 ((Q.refl _).alloc _ _)) (fun k hk=>(hEk k hk).2))
        |(go_simp;go_at_call 202;apply(LH2.out ()).mono;rintro e w6⟨rfl,q6⟩;have hr4:=hr3.kept (Aq q6);have j5:=hr4.top;have b0:=hr4.c0;have b1:=hr4.c1;have b2:=AA b1 ((Q.refl w6).alloc #[iT ((M.tot L:Int)+(st.size:Int))] 3);have p0:=AA n0 (Aq q6);have p1:=AA n1 (Aq q6);have p2:=AA n2 (Aq q6);go_wp2_with fail))
       all_goals
        (go_wp2_with fail);go_meet
        case rel =>
         refine⟨rfl,eo3,ec3,hrn,?_,?_,?_⟩
         .rw[zMH _ _ _ _ (by intro e;injection e;omega)];exact m0
         .rw[zMH _ _ _ _ (by intro e;injection e;omega)];exact m1
         .rw[zMH _ _ _ _ (by intro e;injection e;omega)];exact m2
      case rest =>
       ((((((((((obtain⟨rfl,eo4,ec4,hr5,o0,o1,o2⟩:=hcut;have e0:=hr5.c0;have hown:=hr5.Vf;have zGi:=hr5.top;have hEl:(L++[st]).length=L.length+1:=by simp);go_wp2_with(at_builtin;refine wpList_append_own _ rfl (.tmp 58) (.tmp 60) 240 rfl (w.heap.size+2) 255 i1 (.agg #[eS,iT 0,iT 0]) 3 32 Tryz.underlying240 hj hy0 hy1 hy2 rfl (by decide) _ _ _ rfl (hown.alloc _) (aD wc.heap.size 0) 1 1 st.cells rfl rfl ?c1 ?c2 ?c3 ?c4 ?c5 ?_));case c1=>exact MK _ _ _);case c2=>exact cells_one _);case c3=>unfold maxLen;omega);case c4=>omega);case c5=>simp;omega);intro v' w' hown' hgrow _;obtain⟨so3,sc3,hv⟩:=Ac hown';rw[hv]at hown';rw[hv];obtain⟨kc,kf,hrn⟩:=(hr5.kept ((Q.refl _).alloc _ _)).zE2 st hgrow hown';go_wp2_with fail);go_roundw);case rel=>exact⟨a',L++[st],so3,eo4,sc3,ec4,HA.out,HG2.out,HT2.out,by go_num,hrn⟩);case measure=>simp[intOf];omega
  .have E:=h_ (M.at_end hat (by rw[HL.out];exact hlt));have LC:=Mv L so eo L.length sc ec _ (OL ((hr.kept (Q.refl _).drew).PX)) (by omega);have LH:=hU LC;have hc0:=hr.c0;have hc1:=hr.c1;by_cases heq:M.tot L=size
   ·(have t2:((M.tot L:Int)==(size:Int))=true:=by simp;omega);go_upto_region 12 with fail
    go_region_held3 (fun w'=>w'.cell? (aD (w.heap.size+1) 0)=some (.slice so L.length sc)/\w'.cell? (aD (w.heap.size+1) 1)=some (.slice eo L.length ec)) (first|exact⟨hc0,hc1⟩|exact⟨b0,b1⟩|exact⟨(zMH _ _ _ _ (by simp)).trans ((zMH _ _ _ _ (by simp)).trans b0),(zMH _ _ _ _ (by simp)).trans ((zMH _ _ _ _ (by simp)).trans b1)⟩)
     (first|(go_at_call 202;apply(LH.out ()).mono;rintro e w4⟨rfl,q4⟩;have hr4:=hr.kept (Aq q4);have b0:=hr4.c0;have b1:=hr4.c1;have z0:=hr4.r0;have z1:=hr4.r1;have z2:=hr4.f0;have z3:=hr4.f1))
    all_goals
     (obtain⟨k0,k1,kq,ks,ke⟩:=hr4.stored (.slice so L.length sc) (.slice eo L.length ec);go_wp2_with fail;refine bodyPost_ret (v:=.tuple #[.agg #[.slice so L.length sc,.slice eo L.length ec],.bool true]) (by simp[results,Tryz.results190,go_sem,k0,k1]) rfl ?_;rw[E.out];show(if(M.flat L).length=size then _ else _));rw[if_pos (by omega)];exact⟨L,so,eo,sc,ec,rfl,⟨hgd,rfl⟩,ks,ke,kq⟩
   ·(have t2:((M.tot L:Int)==(size:Int))=false:=by simp;omega);go_upto_region 12 with fail
    go_region_held3 (fun w'=>w'.cell? (aD (w.heap.size+1) 0)=some (.slice so L.length sc)/\w'.cell? (aD (w.heap.size+1) 1)=some (.slice eo L.length ec)) (first|exact⟨hc0,hc1⟩|exact⟨b0,b1⟩|exact⟨(zMH _ _ _ _ (by simp)).trans ((zMH _ _ _ _ (by simp)).trans b0),(zMH _ _ _ _ (by simp)).trans ((zMH _ _ _ _ (by simp)).trans b1)⟩)
     (first|(go_at_call 202;apply(LH.out ()).mono;rintro e w4⟨rfl,q4⟩;have hr4:=hr.kept (Aq q4);have b0:=hr4.c0;have b1:=hr4.c1;have z0:=hr4.r0;have z1:=hr4.r1;have z2:=hr4.f0;have z3:=hr4.f1))
    all_goals
     (obtain⟨k0,k1,kq,ks,ke⟩:=hr4.stored (.slice so L.length sc) (.slice eo L.length ec);go_wp2_with fail;refine bodyPost_ret (v:=.tuple #[.agg #[.slice so L.length sc,.slice eo L.length ec],.bool false]) (by simp[results,Tryz.results190,go_sem,k0,k1]) rfl ?_;rw[E.out];show(if(M.flat L).length=size then _ else _));rw[if_neg (by omega)];exact⟨so,eo,L.length,L.length,sc,ec,rfl,kq⟩
structure Grow(w0:World)(C:List M.St)(ao:Option Addr)(cap:Nat)(wr:World):Prop where
 below:Below w0.heap.size w0 wr
 own:wr.ownsRow w0.heap.size 255 3 (.slice ao C.length cap) C.length (cellsOf C)
theorem Grow.start(w0:World):Grow w0 [] none 0 w0:=⟨Below.refl _ _,World.ownsRow_nil _ _ _ _⟩
theorem Grow.kept{wr':World}{cap:Nat}(h:Grow w0 C ao cap wr)(q:Q wr wr'):Grow w0 C ao cap wr':=
 ⟨h.below.trans (q.below.mono h.below.size),own_below h.own q.below⟩
theorem Grow.q{cap:Nat}(h:Grow w0 C ao cap wr):Q w0 wr:=⟨h.below⟩
theorem Grow.cap{w0 wr:World}{C:List M.St}{ao:Option Addr}{cap:Nat}(h:Grow w0 C ao cap wr):C.length<=cap:=by
 rcases h.own.2 with⟨hv,h0⟩|⟨g,c,cur,hv,_,_,hc,_⟩
 .omega
 .injection hv with _ _ e;omega
theorem Grow.push{D:List M.St}{Dj:Option Addr}{cap cap':Nat}(h:Grow w0 C ao cap wr)(hg:wr.grownBy w' (Value.slice ao C.length cap).ownBlock)(ho:w'.ownsRow w0.heap.size 255 3 (.slice Dj (C.length+D.length) cap') (C.length+D.length) (cellsOf C++cellsOf D)):
  Grow w0 (C++D) Dj cap' w':=by
 refine⟨h.below.grown hg h.below.size (Dx h.own),?_⟩;rw[KX,zLL];exact ho
theorem aS{g:Nat}(h:Ud w g o R)(hg:g<w.heap.size)(n:Nat):Steps w (some (aD g o)) (R.take n):=Or.inr ⟨g,o,rfl,hg,h.take n⟩
structure Wrote(L:List M.St)(k:Nat)(P:List BA):Prop where
 le:k<=L.length
 text:∃T,M.Wr T (M.flat (L.take k))/\T.length<=M.cost (L.take k)/\M.cat P=M.enc 7 (M.tot L)++T
 few:P.length<=2*k+1
theorem XT(L:List M.St):Wrote L 0 [⟨(M.enc 7 (M.tot L)).toArray⟩]:=
 ⟨zLS _,⟨[],by rw[List.take_zero];exact M.Wr.nil,by simp,by simp[M.cat]⟩,by simp⟩
theorem Wrote.chain{k:Nat}(h:Wrote L k P)(hg:M.DF L)(ht:M.tot L<=4096)(n:Nat)(hn:1<=n)(hk:k+n<=L.length)(hc:M.Chain ((L.drop k).take n))(P':List BA)(hP:M.cat P'=M.cat P++(M.EX ((L.drop k).take n)++M.puts ((L.drop k).take n)))(hl:P'.length=P.length+1+n):Wrote L (k+n) P':=by
 obtain⟨T,h1,h2,h3⟩:=h.text;have Ef:=h.few;have hsplit:L.take (k+n)=L.take k++(L.drop k).take n:=List.take_add;have hne:(L.drop k).take n≠[]:=by
  intro e;have:=congrArg List.length e;simp at this;omega
 obtain⟨s,R,hR⟩:=List.exists_cons_of_ne_nil hne;have hgc:M.DF ((L.drop k).take n):=(hg.drop k).take n;have htc:M.tot ((L.drop k).take n)<=4096:=by
  have e1:=M.U4 L k;have e2:=M.Ke (L.drop k) n;omega
 rw[hR]at hc hgc htc hP hsplit;obtain⟨hw,hlen⟩:=M.sI h1 s R hc hgc htc;refine⟨hk,⟨T++(M.EX (s::R)++M.puts (s::R)),?_,?_,?_⟩,by omega⟩
 .rw[hsplit,M.Eg];exact hw
 .rw[hsplit,M.Gq,zLL];omega
 .rw[hP,h3,zLc]
def Gr(L:List M.St)(C:BA):Prop:=∃T,M.Wr T (M.flat L)/\T.length<=M.cost L/\C.data.toList=M.enc 7 (M.tot L)++T
theorem gK(h:Wrote L L.length P):Gr L ⟨(M.cat P).toArray⟩:=by
 obtain⟨T,h1,h2,h3⟩:=h.text;rw[zM0]at h1 h2;exact⟨T,h1,h2,by simpa using h3⟩
theorem Gr.parse{L:List M.St}{C:BA}(h:Gr L C)(hg:M.DF L)(ht:M.tot L<=4096):M.parse C.data.toList=some (M.tot L,M.flat L)/\C.size<=2+M.cost L:=by
 obtain⟨T,h1,h2,h3⟩:=h;have hl:=M.FW hg;refine⟨?_,?_⟩
 .rw[h3,<-hl];exact M.o6 h1 (by omega)
 .have e:=M.I6 (n:=M.tot L) (by omega);have:C.size=C.data.toList.length:=by simp
  rw[this,h3,zLL];omega
theorem lZ:∀{L:List M.St},M.DF L->M.cost L<=10*L.length+M.tot L
 |[],_=>by simp[M.cost]
 |s::L,hg=>by
  have ih:=lZ (L:=L) fun t ht=>hg t (by simp[ht]);have hp:=(hg s (by simp)).pos;have e1:=M.I6 (n:=2*s.size+1) (by omega);have e2:=M.I6 (n:=2*s.size) (by omega);have e3:=M.UH s.place;have hs:s.put.size<=s.size:=by rcases hg s (by simp)with e|e<;>omega
  simp only[M.cost,M.tot,zLQ];unfold M.St.cost;split<;>omega
def sliceLen:Value->Nat
 |.slice _ n _=>n
 |_=>0
theorem Xt{w2:World}(q:Q w w2)(x:BA):Parts w [x] (some (aD w2.heap.size 0)) 1 (w2.alloc (.cells #[sT x] 9)):=
 ⟨(q.alloc _ _).below,⟨rfl,Or.inr ⟨w2.heap.size,1,#[sT x],rfl,q.below.size,heap_alloc_new w2 _,zLK _,by unfold maxLen;omega,rfl,rfl⟩⟩⟩
theorem sG(g o N n sc:Nat)(h:n<=sc)(W:World):
  (Instr.slice 240 (.slice (some (aD g o)) N sc) none (some (iT (n:Int))) none).run Tryz.prog W=.ok (.slice (some (aD g o)) n sc) W:=by
 rw[run_slice_h W 240 (some (aD g o)) N sc Tryz.underlying240 .i64 (n:Int) (by omega) (by omega)];have hs:(Go.sizeOf (Tryz.prog.elem 240)).run Tryz.prog W=.ok 3 W:=Tryz.sizeOf255 W;rw[hs];simp[Result.andThen,sliced,Addr.add]
theorem sF{g:Nat}(h:Ud w g o R)(hg:g<w.heap.size)(n sc:Nat)(hn:n<=R.length)(hc:R.length<=sc):
  ∃so,(∀W:World,(Instr.slice 240 (.slice (some (aD g o)) R.length sc) (some (iT (n:Int))) none none).run Tryz.prog W=.ok (.slice so (R.length-n) (sc-n)) W)/\Steps w so (R.drop n):=by
 have hs:∀W,(Go.sizeOf (Tryz.prog.elem 240)).run Tryz.prog W=.ok 3 W:=fun W=>Tryz.sizeOf255 W;by_cases e:sc=n
 .refine⟨some (aD g o),fun W=>?_,Or.inl ?_⟩
  .rw[run_slice_l W 240 (some (aD g o)) R.length sc Tryz.underlying240 .i64 (n:Int) (by omega) (by omega),hs];simp[Result.andThen,sliced,e]
  .apply zLN;simp;omega
 .refine⟨some (aD g (o+n*3)),fun W=>?_,Or.inr ⟨g,o+n*3,rfl,hg,h.drop n⟩⟩;rw[run_slice_l W 240 (some (aD g o)) R.length sc Tryz.underlying240 .i64 (n:Int) (by omega) (by omega),hs];simp[Result.andThen,sliced,e,Addr.add]
theorem Qw{j:Nat}{s:M.St}(h:R[j]?=some s):(R.take (j+1)).map M.St.put=(R.take j).map M.St.put++[s.put]:=by
 rw[M.take_succ h];simp
theorem sN(R:List M.St):M.cat (R.map M.St.put)=M.puts R:=by
 induction R with
 |nil=>rfl
 |cons s R ih=>show s.put.data.toList++M.cat (R.map M.St.put)=_;rw[ih];rfl
theorem gM(L:List M.St)(ao:Option Addr)(cap:Nat)(w:World)(h:Steps w ao L)(ht:M.tot L<=4096)(hg:M.DF L)(hcap:L.length<=cap):
  Calls Tryz.prog 193 #[.slice ao L.length cap] w fun e w'=>∃C:BA,Gr L C/\e=.returned (sT C)/\Q w w':=by
 have hn:=M.Cy hg;have MC:=hU (ZU L ao cap w h ht hg);have NC:Hid _:=J6 (M.tot L) (by omega);have HW:=h_ (XT L);have HWc:Hid (∀(k n:Nat)(P P':List BA),Wrote L k P->1<=n->k+n<=L.length->M.Chain ((L.drop k).take n)->M.cat P'=M.cat P++(M.EX ((L.drop k).take n)++M.puts ((L.drop k).take n))->P'.length=P.length+1+n->Wrote L (k+n) P'):=
  fun k n P P' h1 h2 h3 h4 h5 h6=>h1.chain hg ht n h2 h3 h4 P' h5 h6
 have HGd:Hid (∀k,M.DF (L.drop k)):=fun k=>hg.drop k;have HTd:Hid (∀k,M.tot (L.drop k)<=4096):=fun k=>by have:=M.U4 L k;omega
 have HJ:Hid (∀P:List BA,Wrote L L.length P->(M.cat P).length<=140737488355328/\Gr L ⟨(M.cat P).toArray⟩):=fun P hP=>by
  have e:=gK hP;refine⟨?_,e⟩;obtain⟨T,h1,h2,h3⟩:=e;have h3':M.cat P=M.enc 7 (M.tot L)++T:=by simpa using h3
  have c1:=lZ hg;have c2:=M.UH (M.tot L);rw[h3',zLL];omega
 have HH:Hid (Steps w ao (L.drop 0)):=by rw[List.drop_zero];exact h
 obtain⟨i0,hi,hz0,hz1,hz2⟩:=info_parts KD;generalize M.tot L=T at*;clear h hg;go_in;go_wp2_with fail;apply(MC.out ()).mono;rintro e w1⟨rfl,q1⟩;go_wp2_with fail;apply(NC.out _).mono;rintro e w2⟨rfl,q2⟩;have hp0:=Xt (q1.trans q2) ⟨(M.enc 7 T).toArray⟩;go_wp2_with fail
 go_loopw [0,3] (fun t p wr=>∃(k:Nat)(so:Option Addr)(sc:Nat)(P:List BA)(ap:Option Addr)(cp:Nat),t=.slice so (L.length-k) sc/\L.length-k<=sc/\Steps w so (L.drop k)/\p=.slice ap P.length cp/\Parts w P ap cp wr/\Wrote L k P) (fun t _ _=>sliceLen t)
 case atStart=>exact⟨0,ao,cap,_,_,_,rfl,by omega,HH.out,rfl,hp0,HW.out⟩
 case round =>
  obtain⟨k,so,sc,P,ap,cp,rfl,hsc,hst,rfl,hp,hw⟩:=hrel;have hwk:=hw.le;by_cases hlt:k<L.length
  .obtain⟨R,hR⟩:=ex (L.drop k);have hRl:L.length-k=R.length:=by rw[hR];simp
   ((have hGR:=HGd.out k;have hTR:=HTd.out k;have HWk:Hid _:=fun(n:Nat)(P':List BA)=>HWc.out k n P P' hw;have XD:Hid (∀n,(L.drop k).drop n=L.drop (k+n)):=fun n=>by rw[List.drop_drop]);rw[<-hR]at hst hGR hTR HWk XD;rw[hRl]at hsc;have HRk:Hid (L.length=k+R.length):=(by omega:L.length=k+R.length);have zJU:k+R.length<=L.length:=by omega);obtain⟨g,o,rfl,hgl,hat⟩:=hst.at (k:=0) (by omega);have hPl:=hw.few;rw[hRl];have XL:1<=R.length:=by omega
   have hR0:0<R.length:=XL;have GY:Hid (M.Chain (R.take 1)):=by
    cases R with
    |nil=>simp at XL
    |cons a R=>exact trivial
   clear hst hw hR hRl hp0 HW MC NC q1 q2;obtain⟨wo,rfl⟩:∃wo:World,wo=wr:=⟨_,rfl⟩;go_wp2_with fail
   go_loopw [4] (fun t wi=>∃n m:Nat,n=m+1/\n<=R.length/\M.Chain (R.take n)/\t=iT ((m:Int)+1)/\Q wo wi) (fun t _=>R.length-(intOf t).toNat)
   case atStart=>exact⟨1,0,rfl,XL,GY.out,rfl,Q.refl _⟩
   case round =>
    ((((obtain⟨n,m,hnm,hnR,hch,rfl,hqi⟩:=hrel;have hn1:1<=n:=by omega);have hmR:m<R.length:=by omega);have HNM:=h_ hnm;clear hnm;have hp1:=hp.kept hqi;have hgw:g<wr.heap.size:=by have:=hp1.below.size;omega);obtain⟨b,hb⟩:∃b:Bool,b=(if hx:n<R.length then leads (R[n-1]) (R[n])else false):=⟨_,rfl⟩;have HCh:=h_ hch;clear hch;go_upto_region 4 with fail);go_cut [29] (fun x wx=>x=.bool b/\Q wr wx)
    case first =>
     by_cases hx:n<R.length
     ·(((((((rw[dif_pos hx]at hb;have hnm:=HNM.out;subst hnm;simp only[zM7]at hb;have hg1:R[m]?=some R[m]:=zLH (by omega);have hg2:R[m+1]?=some R[m+1]:=zLH hx;have xX:=hat.kept hgl hp1.below;obtain⟨c0,c1,c2⟩:=xX m _ hg1;obtain⟨d0,d1,d2⟩:=xX (m+1) _ hg2;have hpos:=(hGR.get hg1).pos;have LT:=YB R[m] R[m+1] (by omega);rw[<-hb]at LT;have LH:Hid _:=LT;generalize R[m]=s1 at*;generalize R[m+1]=s2 at*;have hwn:IntKind.i64.wrap (m:Int)=(m:Int):=by rw[IntKind.wrap_i64];omega);have hd:decide ((m:Int)+1<(R.length:Int))=true:=by simp;omega);have hx1:(m:Int)<(R.length:Int):=by omega);have hx2:(m:Int)+1<(R.length:Int):=by omega);have hx3:(0:Int)<=(m:Int)+1:=by omega);have hx4:((m:Int)+1).toNat=m+1:=by omega);clear LT hb hg1 hg2 xX HCh hp1 hp hat hGR hpos hqi hn1 hnR hmR hx);go_region_held3 (fun w'=>Q wr w'/\w'.cell? (aD g (o+m*3))=some (sT s1.put)/\w'.cell? (aD g (o+m*3+1))=some (iT (s1.place:Int))/\w'.cell? (aD g (o+m*3+2))=some (iT (s1.size:Int))/\w'.cell? ⟨g,o+(m+1)*3,none⟩=some (sT s2.put)/\w'.cell? ⟨g,o+(m+1)*3+1,none⟩=some (iT (s2.place:Int))/\w'.cell? ⟨g,o+(m+1)*3+2,none⟩=some (iT (s2.size:Int))) (first|exact⟨(Q.refl _).drew,c0,c1,c2,d0,d1,d2⟩|exact Db) (first|(go_at_call 205;apply(LH.out _).mono;rintro e w4⟨rfl,q4⟩;have Db:Q wr w4/\w4.cell? (aD g (o+m*3))=some (sT s1.put)/\w4.cell? (aD g (o+m*3+1))=some (iT (s1.place:Int))/\w4.cell? (aD g (o+m*3+2))=some (iT (s1.size:Int))/\w4.cell? ⟨g,o+(m+1)*3,none⟩=some (sT s2.put)/\w4.cell? ⟨g,o+(m+1)*3+1,none⟩=some (iT (s2.place:Int))/\w4.cell? ⟨g,o+(m+1)*3+2,none⟩=some (iT (s2.size:Int)):=⟨Aq q4,AA c0 (Aq q4),AA c1 (Aq q4),AA c2 (Aq q4),AA d0 (Aq q4),AA d1 (Aq q4),AA d2 (Aq q4)⟩))
      all_goals
       ((go_wp2_with fail);go_meet);case rel=>exact⟨rfl,Aq q4⟩
     ·(((rw[dif_neg hx]at hb;have hd:decide ((m:Int)+1<(R.length:Int))=false:=by have:=HNM.out;simp;omega);subst hb;go_quiet (fail);go_wp2_with fail);go_meet);case rel=>exact⟨rfl,(Q.refl _).drewN _⟩
    case rest =>
     obtain⟨rfl,qc⟩:=hcut
     cases b with
     |true =>
      have hx:n<R.length:=by
       by_cases hx:n<R.length
       .exact hx
       .rw[dif_neg hx]at hb;simp at hb
      rw[dif_pos hx]at hb;have Sj:Hid (M.Chain (R.take (n+1))):=by
       (have e:n-1+2=n+1:=by omega);have:=M.eY (L:=R) (k:=n-1) (s:=R[n-1]) (t:=R[n]) (by rw[show n-1+1=n by omega];exact HCh.out) (zLH (by omega)) (by rw[show n-1+1=n by omega];exact zLH hx) ((je _ _).1 hb.symm);rw[e]at this;exact this
      (((clear hb;go_wp2_with fail);go_roundw);case rel=>exact⟨n+1,n,rfl,by omega,Sj.out,by rw[HNM.out];go_num,hqi.trans qc⟩);case measure=>have:=HNM.out;simp[intOf];omega
     |false =>
      (((((((((((((((have hpc:=hp1.kept qc;have hQc:Q w wc:=⟨hpc.below⟩;have Ur:(R.take n).length=n:=by simp;omega);have hne:R.take n≠[]:=fun e=>by rw[e]at Ur;simp at Ur;omega);obtain⟨s0,R0,hsR⟩:=List.exists_cons_of_ne_nil hne;have HC:=Zh s0 R0 (some (aD g o)) sc wc (by rw[<-hsR];exact(aS hat hgl n).kept hQc) (by rw[<-hsR];have:=M.Ke R n;omega) (by rw[<-hsR];exact hGR.take n);rw[<-hsR,Ur]at HC;have K6:=hU HC;have hs1:=sG g o R.length n sc (by omega);have hni:(n:Int)=(m:Int)+1:=by have:=HNM.out;omega);obtain⟨so2,hs2,YN⟩:=sF hat hgl n sc hnR hsc;rw[hni]at hs1 hs2;clear hni;have HS2:Hid _:=hs2;have zFj:=hU YN;have HHd:Hid (M.EX (R.take n)=M.EX (R.take n)):=rfl;have HWn:Hid _:=fun(P':List BA)=>HWk.out n P' hn1 (by omega) HCh.out;obtain⟨Hd,hHd⟩:∃Hd:BA,Hd=⟨(M.EX (R.take n)).toArray⟩:=⟨_,rfl⟩;rw[<-hHd]at K6;have zFz:Hid (Hd.data.toList=M.EX (R.take n)):=by rw[hHd];exact(List.toList_toArray:(M.EX (R.take n)).toArray.toList=_));clear HC hb hs2 YN hHd HHd hne hsR hp hp1;go_wp2_with fail;apply(K6.out ()).mono;rintro e w3⟨rfl,q3⟩;have hp3:=hpc.kept q3;have hown:=hp3.own;have hsz:=hp3.below.size;go_wp2_with(at_builtin;refine wpList_append_own _ rfl (.tmp 32) (.tmp 37) 53 rfl w.heap.size 9 i0 eS 1 16 Tryz.underlying53 hi hz0 hz1 hz2 rfl (by decide) _ _ _ rfl (hown.alloc _) (aD w3.heap.size 0) 1 1 [sT Hd] rfl rfl ?c1 ?c2 ?c3 ?c4 ?c5 ?_));case c1=>exact one_cell _ _ _);case c2=>exact TY _);case c3=>unfold maxLen;omega);case c4=>omega);case c5=>simp;omega);intro v' w' hown' hgrow _;obtain⟨ap3,cp3,hv⟩:=Ac hown';rw[hv]at hown';rw[hv];have zU:=hp3.push _ _ hgrow hown';clear hown' hgrow hown hv hpc hQc hqi qc q3;have hL0:(P++[Hd]++(R.take 0).map M.St.put).length=P.length+1:=by simp);have hp5:Parts w (P++[Hd]++(R.take 0).map M.St.put) ap3 cp3 w':=by simpa using zU);have yg:Hid (∀j,j<=R.length->(P++[Hd]++(R.take j).map M.St.put).length=P.length+1+j):=fun j hj=>by simp;omega);have HPs:Hid (∀(j:Nat)(s:M.St),R[j]?=some s->P++[Hd]++(R.take (j+1)).map M.St.put=P++[Hd]++(R.take j).map M.St.put++[s.put]):=fun j s hj=>by rw[Qw hj];exact(zLc _ _ _).symm);have zG6:Hid (M.cat (P++[Hd]++(R.take n).map M.St.put)=M.cat P++(M.EX (R.take n)++M.puts (R.take n))):=by rw[M.Fa,M.Fa,M.Yo,sN,zFz.out,zLc];exact rfl);clear zU hp3;go_wp2_with fail
      go_loopw [3,43] (fun p i wi=>∃(j:Nat)(aj:Option Addr)(cj:Nat),j<=n/\i=iT j/\p=.slice aj (P.length+1+j) cj/\Parts w (P++[Hd]++(R.take j).map M.St.put) aj cj wi) (fun _ i _=>n-(intOf i).toNat)
      case atStart=>exact⟨0,ap3,cp3,zLS _,rfl,rfl,hp5⟩
      case round =>
       obtain⟨j,aj,cj,hj,rfl,rfl,zT⟩:=hrel;have hjl:=yg.out j (by omega);by_cases hjn:j<n
       ·(have hgj:R[j]?=some R[j]:=zLH (by omega);obtain⟨c0,c1,c2⟩:=hat.kept hgl zT.below j _ hgj;have HSj:Hid _:=HPs.out j _ hgj;generalize R[j]=sj at*;have zJC:g<wr.heap.size:=by have:=zT.below.size;omega);have hown:=zT.own;have hsz:=zT.below.size;rw[hjl]at hown;generalize P++[Hd]++(R.take j).map M.St.put=PP at*;clear hgj hs1;have hp6:=zT.kept ((Q.refl wr).alloc #[sT sj.put,iT (sj.place:Int),iT (sj.size:Int)] 255);have hown6:=hp6.own;rw[hjl]at hown6;go_wp2_with(at_builtin;refine wpList_append_own _ rfl (.tmp 47) (.tmp 50) 53 rfl w.heap.size 9 i0 eS 1 16 Tryz.underlying53 hi hz0 hz1 hz2 rfl (by decide) _ _ _ rfl (hown6.alloc _) (aD (wr.heap.size+1) 0) 1 1 [sT sj.put] rfl rfl ?c1 ?c2 ?c3 ?c4 ?c5 ?_)
        case c1 =>
         intro i u hu;have:=one_cell (wr.alloc (.cells #[sT sj.put,iT (sj.place:Int),iT (sj.size:Int)] 255)) (sT sj.put) 9 i u hu;rw[zMM]at this;exact this
        (((((((case c2=>exact TY _);case c3=>unfold maxLen;omega);case c4=>omega);case c5=>simp;omega);intro v' w' hown' hgrow _;obtain⟨ap7,cp7,hv⟩:=Ac hown';rw[hv]at hown';rw[hv];rw[<-hjl]at hown' hgrow;have hp7:=hp6.push _ _ hgrow hown';clear hown' hgrow hown hown6 hv;go_wp2_with fail);go_roundw);case rel=>exact⟨j+1,ap7,cp7,by omega,by go_num,by simp;omega,by rw[HSj.out];exact hp7⟩);case measure=>simp[intOf];omega
       ·((((obtain rfl:j=n:=by omega);have hs2:=HS2.out;have zq:=hU (HWn.out _ zG6.out hjl);clear hs1;go_wp2_with fail);go_roundw);case rel=>exact⟨k+j,so2,sc-j,P++[Hd]++(R.take j).map M.St.put,aj,cj,by rw[show L.length-(k+j)=R.length-j by have:=HRk.out;omega],by have:=HRk.out;omega,by rw[<-XD.out];exact zFj.out (),by rw[hjl],zT,zq.out ()⟩);case measure=>simp[sliceLen];omega
  .obtain rfl:k=L.length:=by omega
   obtain⟨hjl,hsaid⟩:=HJ.out P hw;have JC:=L6 P ap cp wr (OI hp.own).2 hjl (by have:=hw.few;omega);have HJC:=hU JC;have HQ:=hU hp.below;have HSd:=hU hsaid;clear JC hp hw hp0 hsaid hst;rw[show L.length-L.length=0 by omega];go_wp2_with fail;apply(HJC.out ()).mono;rintro e w3⟨rfl,q3⟩;go_wp2;go_ret;exact⟨_,HSd.out (),rfl,(Q.mk (HQ.out ())).trans q3⟩
def gT(y0 y1 y2 y3:Nat):Int:=bits BinOp.or .u32 (bits BinOp.or .u32 (bits BinOp.or .u32 (y0:Int) ((y1:Int)*256)) ((y2:Int)*65536)) ((y3:Int)*16777216)
def Eo(n:Nat)(s:BA):Nat:=(gT ((s.data.toList.getD 0 0).toNat) ((s.data.toList.getD 1 0).toNat) ((s.data.toList.getD 2 0).toNat) ((s.data.toList.getD 3 0).toNat)*2654435761%4294967296/2^(32-n)).toNat
theorem Oz(n:Nat)(hn:n<=13)(s:BA):Eo n s<2^n:=by
 unfold Eo;generalize gT _ _ _ _=X;have h1:(X*2654435761%4294967296)<4294967296:=by omega
 have h0:0<=(X*2654435761%4294967296):=by omega
 generalize X*2654435761%4294967296=Y at*;have hp:(2:Nat)^n*2^(32-n)=4294967296:=by rw[<-Nat.pow_add,show n+(32-n)=32 by omega]
 obtain⟨y,rfl⟩:=Int.eq_ofNat_of_zero_le h0;have e:((y:Int)/2^(32-n))=((y/2^(32-n):Nat):Int):=by push_cast;rfl
 rw[e,zLp];exact Nat.div_lt_of_lt_mul (by rw[Nat.mul_comm,hp];omega)
theorem getD_at(s:BA)(i:Nat)(h:i<s.size):s.data.toList.getD i 0=s[i]:=by
 rw[List.getD_eq_getElem?_getD,zLH (by simpa using h)];rfl
theorem S9(n:Nat)(hn:n<=13)(X:Nat)(s:BA)(h4:4<=s.size)(w:World)(hX:w.cell? (aD X 1)=some (iT (n:Int))):Calls Tryz.prog 216 #[pT X,sT s] w fun e w'=>e=.returned (iT (Eo n s:Int))/\Q w w':=by
 have i0:∀W,(Instr.index 9 (sT s) (iT 0)).run Tryz.prog W=.ok (.int .u8 ((s[0]).toNat:Int)) W:=EU s 0 (by omega);have i1:∀W,(Instr.index 9 (sT s) (iT 1)).run Tryz.prog W=.ok (.int .u8 ((s[1]).toNat:Int)) W:=EU s 1 (by omega);have i2:∀W,(Instr.index 9 (sT s) (iT 2)).run Tryz.prog W=.ok (.int .u8 ((s[2]).toNat:Int)) W:=EU s 2 (by omega);have i3:∀W,(Instr.index 9 (sT s) (iT 3)).run Tryz.prog W=.ok (.int .u8 ((s[3]).toNat:Int)) W:=EU s 3 (by omega);have l0:=(s[0]).toNat_lt;have l1:=(s[1]).toNat_lt;have l2:=(s[2]).toNat_lt;have l3:=(s[3]).toNat_lt;unfold Eo;rw[getD_at s 0 (by omega),getD_at s 1 (by omega),getD_at s 2 (by omega),getD_at s 3 (by omega)];generalize (s[0]).toNat=y0 at*;generalize (s[1]).toNat=y1 at*;generalize (s[2]).toNat=y2 at*;generalize (s[3]).toNat=y3 at*;have e:∀X:Int,wrap64 (X*2654435761%4294967296/2^(32-n))=(((X*2654435761%4294967296/2^(32-n)).toNat:Nat):Int):=fun X=>by
  have h1:(X*2654435761%4294967296)<4294967296:=by omega
  have h0:0<=(X*2654435761%4294967296):=by omega
  generalize X*2654435761%4294967296=Y at*;obtain⟨y,rfl⟩:=Int.eq_ofNat_of_zero_le h0;have e:((y:Int)/2^(32-n))=((y/2^(32-n):Nat):Int):=by push_cast;rfl
  rw[e,zLp];have hle:=Nat.div_le_self y (2^(32-n));generalize y/2^(32-n)=z at*;unfold wrap64;omega
 have E:Hid _:=e;clear e;unfold gT;go_in;go_wp2_with fail;go_quiet (fail);go_wp2;go_ret;exact⟨congrArg Ending.returned (congrArg (Value.int IntKind.i64) (E.out _)),(Q.refl w).drewN _⟩
theorem VB{b:List UInt8}(h:a.take n=b.take n)(he:a[n]?=b[n]?):a.take (n+1)=b.take (n+1):=by
 rw[zLv,zLv,h,he]
theorem TI(a b:BA)(ha:a.size<=140737488351232)(hb:b.size<=140737488351232)(w:World):
  Calls Tryz.prog 150 #[sT a,sT b] w fun e w'=>∃n:Nat,e=.returned (iT (n:Int))/\(n<=a.size/\n<=b.size/\a.data.toList.take n=b.data.toList.take n/\(a=b->n=a.size))/\Q w w':=by
 have IA:Hid _:=EU a;have IB:Hid _:=EU b;go_in;go_wp2_with fail
 go_loopw [5] (fun t wr=>∃n:Nat,t=iT (n:Int)/\n<=a.size/\n<=b.size/\Hid (a.data.toList.take n=b.data.toList.take n)/\Q w wr) (fun t _=>a.size-(intOf t).toNat)
 case atStart=>exact⟨0,rfl,zLS _,zLS _,(by simp:a.data.toList.take 0=b.data.toList.take 0),Q.refl w⟩
 case round =>
  obtain⟨n,rfl,hna,hnb,htk,hq⟩:=hrel;by_cases hlt:n<a.size/\n<b.size
  .obtain⟨h1,h2⟩:=hlt;have xa:=IA.out n h1;have xb:=IB.out n h2;have hd:decide ((n:Int)<min (a.size:Int) (b.size:Int))=true:=by simp;omega
   (((have hd2:(n:Int)<min (a.size:Int) (b.size:Int):=by omega);have la:a.data.toList[n]?=some a[n]:=by rw[zLH (by simpa using h1)];rfl);have lb:b.data.toList[n]?=some b[n]:=by rw[zLH (by simpa using h2)];rfl);by_cases heq:a[n]=b[n]
   ·((((have HT:=h_ (VB htk.out (by rw[la,lb,heq]));have he:(((a[n]).toNat:Int)==((b[n]).toNat:Int))=true:=by rw[heq];simp);generalize (a[n]).toNat=x at*;generalize (b[n]).toNat=y at*;clear la lb heq;go_wp2_with fail;go_quiet (fail);go_wp2_with fail);go_roundw);case rel=>exact⟨n+1,by go_num,by omega,by omega,HT,hq.drewN _⟩);case measure=>simp[intOf];omega
   .have he:(((a[n]).toNat:Int)==((b[n]).toNat:Int))=false:=by
     rw[zM9];intro e;exact heq (UInt8.toNat_inj.1 (by omega))
    (have HN:Hid (a=b->n=a.size):=fun e=>by subst e;exact absurd rfl heq);generalize (a[n]).toNat=x at*;generalize (b[n]).toNat=y at*;clear la lb heq;go_wp2_with fail;go_quiet (fail);go_wp2;go_ret;exact⟨n,rfl,⟨hna,hnb,htk.out,HN.out⟩,hq.drewN _⟩
  .have hd:decide ((n:Int)<min (a.size:Int) (b.size:Int))=false:=by simp;omega
   (have HN:Hid (a=b->n=a.size):=fun e=>by subst e;omega);go_wp2_with fail;go_quiet (fail);go_wp2;go_ret;exact⟨n,rfl,⟨hna,hnb,htk.out,HN.out⟩,hq.drewN _⟩
theorem WW{b:List UInt8}(ha:n<a.length)(hb:n<b.length)(h:a.drop (a.length-n)=b.drop (b.length-n))(he:a[a.length-1-n]?=b[b.length-1-n]?):a.drop (a.length-(n+1))=b.drop (b.length-(n+1)):=by
 have e1:a.length-(n+1)=a.length-1-n:=by omega
 have e2:b.length-(n+1)=b.length-1-n:=by omega
 have d1:a.drop (a.length-1-n)=a[a.length-1-n]'(by omega)::a.drop (a.length-n):=by rw[List.drop_eq_getElem_cons (by omega)];congr 2;omega
 have d2:b.drop (b.length-1-n)=b[b.length-1-n]'(by omega)::b.drop (b.length-n):=by rw[List.drop_eq_getElem_cons (by omega)];congr 2;omega
 rw[zLH (by omega),zLH (by omega),zLO]at he;rw[e1,e2,d1,d2,h,he]
theorem Xf(a b:BA)(ha:a.size<=140737488351232)(hb:b.size<=140737488351232)(w:World):
  Calls Tryz.prog 217 #[sT a,sT b] w fun e w'=>∃n:Nat,e=.returned (iT (n:Int))/\(n<=a.size/\n<=b.size/\a.data.toList.drop (a.size-n)=b.data.toList.drop (b.size-n))/\Q w w':=by
 have IA:Hid _:=EU a;have IB:Hid _:=EU b;have lla:a.data.toList.length=a.size:=by simp
 have llb:b.data.toList.length=b.size:=by simp
 have HA:Hid _:=lla;have HB:Hid _:=llb;have H0:Hid (a.data.toList.drop (a.size-0)=b.data.toList.drop (b.size-0)):=by
  rw[zLf (by omega),zLf (by omega)];exact rfl
 clear lla llb;go_in;go_wp2_with fail
 go_loopw [5] (fun t wr=>∃n:Nat,t=iT (n:Int)/\n<=a.size/\n<=b.size/\Hid (a.data.toList.drop (a.size-n)=b.data.toList.drop (b.size-n))/\Q w wr) (fun t _=>a.size-(intOf t).toNat)
 case atStart=>exact⟨0,rfl,zLS _,zLS _,H0,Q.refl w⟩
 case round =>
  obtain⟨n,rfl,hna,hnb,htk,hq⟩:=hrel;by_cases hlt:n<a.size/\n<b.size
  .obtain⟨h1,h2⟩:=hlt;obtain⟨i,hi⟩:=ex (a.size-1-n);obtain⟨j,hj⟩:=ex (b.size-1-n);have hil:i<a.size:=by omega
   (((((((((have hjl:j<b.size:=by omega);have xa:=IA.out i hil;have xb:=IB.out j hjl;have u1:IntKind.i64.wrap ((a.size:Int)-1)=(a.size:Int)-1:=by rw[IntKind.wrap_i64];omega);have u2:IntKind.i64.wrap ((b.size:Int)-1)=(b.size:Int)-1:=by rw[IntKind.wrap_i64];omega);have u3:IntKind.i64.wrap ((a.size:Int)-1-(n:Int))=(i:Int):=by rw[IntKind.wrap_i64];omega);have u4:IntKind.i64.wrap ((b.size:Int)-1-(n:Int))=(j:Int):=by rw[IntKind.wrap_i64];omega);have hd:decide ((n:Int)<min (a.size:Int) (b.size:Int))=true:=by simp;omega);have hd2:(n:Int)<min (a.size:Int) (b.size:Int):=by omega);have la:a.data.toList[i]?=some a[i]:=by rw[zLH (by simpa using hil)];rfl);have lb:b.data.toList[j]?=some b[j]:=by rw[zLH (by simpa using hjl)];rfl);by_cases heq:a[i]=b[j]
   .have HT:Hid (a.data.toList.drop (a.size-(n+1))=b.data.toList.drop (b.size-(n+1))):=by
     have:=WW (a:=a.data.toList) (b:=b.data.toList) (n:=n) (by rw[HA.out];exact h1) (by rw[HB.out];exact h2) (by rw[HA.out,HB.out];exact htk.out) (by rw[HA.out,HB.out,<-hi,<-hj,la,lb,heq]);rw[HA.out,HB.out]at this;exact this
    ((((have he:(((a[i]).toNat:Int)==((b[j]).toNat:Int))=true:=by rw[heq];simp);generalize (a[i]).toNat=x at*;generalize (b[j]).toNat=y at*;clear la lb heq hi hj;go_wp2_with fail;go_quiet (fail);go_wp2_with fail);go_roundw);case rel=>exact⟨n+1,by go_num,by omega,by omega,HT,hq.drewN _⟩);case measure=>simp[intOf];omega
   .have he:(((a[i]).toNat:Int)==((b[j]).toNat:Int))=false:=by
     rw[zM9];intro e;exact heq (UInt8.toNat_inj.1 (by omega))
    generalize (a[i]).toNat=x at*;generalize (b[j]).toNat=y at*;clear la lb heq hi hj;go_wp2_with fail;go_quiet (fail);go_wp2;go_ret;exact⟨n,rfl,⟨hna,hnb,htk.out⟩,hq.drewN _⟩
  .have hd:decide ((n:Int)<min (a.size:Int) (b.size:Int))=false:=by simp;omega
   go_wp2_with fail;go_quiet (fail);go_wp2;go_ret;exact⟨n,rfl,⟨hna,hnb,htk.out⟩,hq.drewN _⟩
def Dm(s:BA):List M.St:=if s.size=0 then[]else[⟨s,0,s.size⟩]
theorem Ow(w:World)(s:M.St)(t:TypeId):Steps (w.alloc (.cells #[sT s.put,iT (s.place:Int),iT (s.size:Int)] t)) (some (aD w.heap.size 0)) [s]:=
 Or.inr ⟨w.heap.size,0,rfl,by simp,Ud.of_cells fun j u hu=>by
  rw[DJ]at hu;have:=MK w s t j u hu;have hx:((aD w.heap.size 0):Addr).add j=(aD w.heap.size (0+j)):=by unfold Addr.add;split<;>simp_all
  rw[hx]at this;exact this⟩
theorem VW(s:BA)(w:World):
  Calls Tryz.prog 210 #[sT s] w fun e w'=>∃(ao:Option Addr)(cap:Nat),e=.returned (.slice ao (Dm s).length cap)/\(Steps w' ao (Dm s)/\(Dm s=[]->ao=none/\cap=0))/\Q w w':=by
 have PS:Hid _:=PO s;by_cases h0:s.size=0
 .have E:Dm s=[]:=by unfold Dm;rw[if_pos h0]
  have hne:(s.toList==[])=true:=by
   rw[ByteArray.toList_eq,beq_iff_eq];exact zLN (by simpa using h0)
  rw[E];clear E;go_in;go_wp2;go_ret;exact⟨none,0,rfl,⟨Or.inl rfl,fun _=>⟨rfl,rfl⟩⟩,Q.refl w⟩
 .have E:Dm s=[⟨s,0,s.size⟩]:=by unfold Dm;rw[if_neg h0]
  have hne:(s.toList==[])=false:=by
   rw[ByteArray.toList_eq,zM9];intro e;exact h0 (by simpa using congrArg List.length e)
  rw[E];clear E;go_in;go_wp2_with fail;apply(PS.out _).mono;rintro e w1⟨rfl,q1⟩;go_wp2;go_ret;exact⟨some (aD w1.heap.size 0),1,rfl,⟨Ow w1 ⟨s,0,s.size⟩ _,fun h=>by simp at h⟩,q1.alloc _ _⟩
structure Words(w:World)(X F N:Nat)(b:BA)(n m:Nat)(f g:Nat->Nat):Prop where
 c0:w.cell? (aD X 0)=some (sT b)
 c1:w.cell? (aD X 1)=some (iT (n:Int))
 c2:w.cell? (aD X 2)=some (.slice (some (aD F 0)) m m)
 c3:w.cell? (aD X 3)=some (.slice (some (aD N 0)) b.size b.size)
 cf:∀i,i<m->w.cell? (aD F i)=some (.int .u16 (f i:Int))
 cg:∀j,j<b.size->w.cell? (aD N j)=some (.int .u16 (g j:Int))
 bf:∀i,f i<=b.size
 bg:∀j,g j<=b.size
theorem Words.kept(h:Words w X F N b n m f g)(q:Q w w'):Words w' X F N b n m f g:=
 ⟨AA h.c0 q,AA h.c1 q,AA h.c2 q,AA h.c3 q,fun i hi=>AA (h.cf i hi) q,fun j hj=>AA (h.cg j hj) q,h.bf,h.bg⟩
structure JJ(w0 w:World)(X F N:Nat)(b:BA)(n m:Nat)(f g:Nat->Nat):Prop where
 words:Words w X F N b n m f g
 below:Below w0.heap.size w0 w
 low:w0.heap.size<=F/\w0.heap.size<=N
 ne:F≠N/\F≠X/\N≠X
 top:F<w.heap.size/\N<w.heap.size
 ff:∀j,w.frozen? (aD F j)=false
 fn:∀j,w.frozen? (aD N j)=false
theorem Ei(h:w.cell? p=some v):p.block<w.heap.size:=by
 rcases zLn p.block w.heap.size with hl|hl
 .exact hl
 .unfold World.cell? at h;rw[zM4 hl]at h;simp at h
theorem JJ.kept{w0 w w':World}{X F N n m:Nat}{b:BA}{f g:Nat->Nat}(h:JJ w0 w X F N b n m f g)(q:Q w w'):JJ w0 w' X F N b n m f g:=
 ⟨h.words.kept q,h.below.trans (q.below.mono h.below.size),h.low,h.ne,⟨zLJ h.top.1 q.below.size,zLJ h.top.2 q.below.size⟩,fun j=>(q.below.frozen (p:=(aD F j)) h.top.1).trans (h.ff j),fun j=>(q.below.frozen (p:=(aD N j)) h.top.2).trans (h.fn j)⟩
theorem JJ.TA(h:JJ w0 w X F N b n m f g)(p v:Nat)(hp:p<b.size)(hv:v<=b.size):JJ w0 (w.setCell (aD N p) (.int .u16 (v:Int))) X F N b n m f (fun j=>if j=p then v else g j):=by
 have hne:=h.ne;have ox:∀Y j,Y≠N->(w.setCell (aD N p) (.int .u16 (v:Int))).cell? (aD Y j)=w.cell? (aD Y j):=fun Y j hY=>zMH _ _ _ _ (by intro e;injection e;omega);refine⟨⟨(ox X 0 (Ne.symm hne.2.2)).trans h.words.c0,(ox X 1 (Ne.symm hne.2.2)).trans h.words.c1,(ox X 2 (Ne.symm hne.2.2)).trans h.words.c2,(ox X 3 (Ne.symm hne.2.2)).trans h.words.c3,fun i hi=>(ox F i hne.1).trans (h.words.cf i hi),fun j hj=>?_,h.words.bf,fun j=>?_⟩,h.below.setCell h.low.2 _,h.low,hne,by simpa using h.top,fun j=>by rw[zMK];exact h.ff j,fun j=>by rw[zMK];exact h.fn j⟩
 .by_cases e:j=p
  .subst e;rw[zMJ _ _ _ (h.words.cg j hj)];simp
  .rw[zMH _ _ _ _ (by intro e2;injection e2;omega),h.words.cg j hj];simp[e]
 .show(if j=p then v else g j)<=b.size;split
  .exact hv
  .exact h.words.bg j
theorem JJ.ZA(h:JJ w0 w X F N b n m f g)(i v:Nat)(hi:i<m)(hv:v<=b.size):JJ w0 (w.setCell (aD F i) (.int .u16 (v:Int))) X F N b n m (fun j=>if j=i then v else f j) g:=by
 have hne:=h.ne;have ox:∀Y j,Y≠F->(w.setCell (aD F i) (.int .u16 (v:Int))).cell? (aD Y j)=w.cell? (aD Y j):=fun Y j hY=>zMH _ _ _ _ (by intro e;injection e;omega);refine⟨⟨(ox X 0 (Ne.symm hne.2.1)).trans h.words.c0,(ox X 1 (Ne.symm hne.2.1)).trans h.words.c1,(ox X 2 (Ne.symm hne.2.1)).trans h.words.c2,(ox X 3 (Ne.symm hne.2.1)).trans h.words.c3,fun j hj=>?_,fun j hj=>(ox N j (Ne.symm hne.1)).trans (h.words.cg j hj),fun j=>?_,h.words.bg⟩,h.below.setCell h.low.1 _,h.low,hne,by simpa using h.top,fun j=>by rw[zMK];exact h.ff j,fun j=>by rw[zMK];exact h.fn j⟩
 .by_cases e:j=i
  .subst e;rw[zMJ _ _ _ (h.words.cf j hj)];simp
  .rw[zMH _ _ _ _ (by intro e2;injection e2;omega),h.words.cf j hj];simp[e]
 .show(if j=i then v else f j)<=b.size;split
  .exact hv
  .exact h.words.bf j
theorem gN(t:M.St)(hp:t.put=⟨#[]⟩)(hs:t.size<=4096)(hpl:t.place+t.size<=72057594037927935)(w:World):
  Calls Tryz.prog 209 #[.agg #[eS,iT (t.place:Int),iT (t.size:Int)]] w fun e w'=>e=.returned (.bool (decide (t.cost+2<=t.size)))/\Q w w':=by
 have hz:t.put.size=0:=by rw[hp];rfl
 by_cases h0:t.size=0
 .have E:decide (t.cost+2<=t.size)=false:=by simp;omega
  rw[E];have hd:decide ((0:Int)<(t.size:Int))=false:=by simp;omega
  have hd2:(t.size:Int)=0:=by omega
  rw[hd2];go_in;go_wp2_with fail;go_quiet (fail);go_wp2;go_ret;exact⟨rfl,((Q.refl w).alloc _ _).drewN _⟩
 .have hg:M.DF [t]:=M.DF.one (Or.inl ⟨hz,by omega,hs,hpl⟩);have hto:M.tot [t]<=4096:=by rw[M.Kg];exact hs
  have hh:(M.EX [t]).length=t.cost:=by
   have e:M.EX [t]=M.enc 7 (2*M.tot [t]+1)++M.enc 7 t.place:=if_pos hz;rw[e,M.Kg,zLL];unfold M.St.cost;rw[if_pos hz]
  have hsb:=Ow (w.alloc (.cells #[eS,iT (t.place:Int),iT (t.size:Int)] 255)).drew t 255;rw[hp,show(w.alloc (.cells #[eS,iT (t.place:Int),iT (t.size:Int)] 255)).drew.heap.size=w.heap.size+1 by simp]at hsb;have HC:Hid (∀_:Unit,Calls Tryz.prog 206 #[.slice (some (aD (w.heap.size+1) 0)) 1 1] ((w.alloc (.cells #[eS,iT (t.place:Int),iT (t.size:Int)] 255)).drew.alloc (.cells #[eS,iT (t.place:Int),iT (t.size:Int)] 255)) fun e w'=>e=.returned (sT ⟨(M.EX [t]).toArray⟩)/\Q ((w.alloc (.cells #[eS,iT (t.place:Int),iT (t.size:Int)] 255)).drew.alloc (.cells #[eS,iT (t.place:Int),iT (t.size:Int)] 255)) w'):=fun _=>Zh t [] (some (aD (w.heap.size+1) 0)) 1 _ hsb hto hg;have hcl:=M.UH t.place;have hc2:=M.I6 (n:=2*t.size+1) (by omega);have hcb:t.cost<=10:=by unfold M.St.cost;rw[if_pos hz];omega
  have hhs:(⟨(M.EX [t]).toArray⟩:BA).size=t.cost:=by rw[<-hh];rfl
  have hw1:IntKind.i64.wrap ((t.cost:Int)+2)=(t.cost:Int)+2:=by rw[IntKind.wrap_i64];omega
  have hle:decide ((t.cost:Int)+2<=(t.size:Int))=decide (t.cost+2<=t.size):=by rw[decide_eq_decide];omega
  have HLe:Hid _:=hle;have hd:decide ((0:Int)<(t.size:Int))=true:=by simp;omega
  have hd2:(0:Int)<(t.size:Int):=by omega
  have hd3:0<t.size:=by omega
  generalize (⟨(M.EX [t]).toArray⟩:BA)=Hd at*;generalize t.cost=cc at*;have x2:(w.alloc (.cells #[eS,iT (t.place:Int),iT (t.size:Int)] 255)).cell? (aD w.heap.size 2)=some (iT (t.size:Int)):=by simp
  have x1:(w.alloc (.cells #[eS,iT (t.place:Int),iT (t.size:Int)] 255)).cell? (aD w.heap.size 1)=some (iT (t.place:Int)):=by simp
  have x0:(w.alloc (.cells #[eS,iT (t.place:Int),iT (t.size:Int)] 255)).cell? (aD w.heap.size 0)=some eS:=by simp
  go_in;go_upto_region 1 with fail
  go_region_held3 (fun w'=>w'.cell? (aD w.heap.size 0)=some eS/\w'.cell? (aD w.heap.size 1)=some (iT (t.place:Int))/\w'.cell? (aD w.heap.size 2)=some (iT (t.size:Int)))
   (first|exact⟨x0,x1,x2⟩|exact hS5|(exact⟨AA x0 ((Q.refl _).drew.alloc _ _),AA x1 ((Q.refl _).drew.alloc _ _),AA x2 ((Q.refl _).drew.alloc _ _)⟩))
   (first|(go_at_call 206;apply(HC.out ()).mono;rintro e w5⟨rfl,q5⟩;have hS5:w5.cell? (aD w.heap.size 0)=some eS/\w5.cell? (aD w.heap.size 1)=some (iT (t.place:Int))/\w5.cell? (aD w.heap.size 2)=some (iT (t.size:Int)):=⟨AA x0 (((Q.refl _).drew.alloc _ _).trans q5),AA x1 (((Q.refl _).drew.alloc _ _).trans q5),AA x2 (((Q.refl _).drew.alloc _ _).trans q5)⟩))
  go_wp2;go_ret;exact⟨by rw[<-HLe.out];rfl,(((Q.refl w).alloc _ _).trans ((Q.refl _).drew.alloc _ _)).trans q5⟩
theorem iP(s:BA)(hs:s.size<=140737488351232)(h0:M.Cb s.data.toList 0=none)(w:World):
  Calls Tryz.prog 190 #[sT s] w (zC2 w):=by
 have G:Hid _:=get_none s 0 hs h0;rw[show((0:Nat):Int)=0 from rfl]at G;go_in;go_wp2_with fail;apply(G.out _).mono;rintro e w1⟨rfl,rfl⟩;go_wp2_with fail;refine bodyPost_ret (v:=.tuple #[.agg #[nS,nS],.bool false]) (by simp[results,Tryz.results190,go_sem]) rfl ?_;exact⟨none,none,0,0,0,0,rfl,(Q.refl w).alloc _ _⟩
theorem iQ(s:BA)(hs:s.size<=140737488351232)(size a0:Nat)(h0:M.Cb s.data.toList 0=some (size,a0))(hsz:4096<size)(w:World):
  Calls Tryz.prog 190 #[sT s] w (zC2 w):=by
 have hb0:=M.Bu h0;have G:Hid _:=get_some s 0 size a0 hs h0;rw[show((0:Nat):Int)=0 from rfl]at G;have t1:decide ((4096:Int)<(size:Int))=true:=by simp;omega
 go_in;go_wp2_with fail;apply(G.out _).mono;rintro e w1⟨rfl,rfl⟩;go_wp2_with fail;refine bodyPost_ret (v:=.tuple #[.agg #[nS,nS],.bool false]) (by simp[results,Tryz.results190,go_sem]) rfl ?_;exact⟨none,none,0,0,0,0,rfl,(Q.refl w).alloc _ _⟩
theorem vZ(s:BA)(hs:s.size<=140737488351232)(hp:M.parse s.data.toList=none)(w:World):Calls Tryz.prog 190 #[sT s] w (zC2 w):=by
 unfold M.parse at hp
 cases hg:M.Cb s.data.toList 0 with
 |none=>exact iP s hs hg w
 |some p =>
  obtain⟨size,a⟩:=p;rw[hg]at hp;simp only at hp;by_cases hl:4096<size
  .exact iQ s hs size a hg hl w
  .rw[if_neg hl]at hp;have h:=VQ s hs size a hg hl w
   cases hr:M.Ec s.data.toList size (s.data.toList.length+1) a []with
   |none=>rw[hr]at h;exact h
   |some acc =>
    rw[hr]at h hp;simp only at hp;split at hp
    .simp at hp
    .rename_i hne;simp only[yT,if_neg hne]at h;exact h
theorem oQ(s:BA)(hs:s.size<=140737488351232)(size:Nat)(acc:List Nat)(hp:M.parse s.data.toList=some (size,acc))(w:World):Calls Tryz.prog 190 #[sT s] w (zC1 acc w):=by
 unfold M.parse at hp
 cases hg:M.Cb s.data.toList 0 with
 |none=>rw[hg]at hp;simp at hp
 |some p =>
  obtain⟨sz,a⟩:=p;rw[hg]at hp;simp only at hp;by_cases hl:4096<sz
  .rw[if_pos hl]at hp;simp at hp
  .rw[if_neg hl]at hp;have h:=VQ s hs sz a hg hl w
   cases hr:M.Ec s.data.toList sz (s.data.toList.length+1) a []with
   |none=>rw[hr]at hp;simp at hp
   |some ac =>
    rw[hr]at h hp;simp only at hp;split at hp
    .rename_i he;simp only[zLO,Prod.mk.injEq]at hp;obtain⟨rfl,rfl⟩:=hp;simp only[yT,if_pos he]at h;exact h
    .simp at hp
theorem sW(c b:BA)(hc:c.size<=140737488351232)(hp:M.parse c.data.toList=none)(w:World):
  Calls Tryz.prog 172 #[sT c,sT b] w fun e w'=>e=.returned (.tuple #[eS,iT 5])/\Q w w':=by
 have R:Hid _:=vZ c hc hp;go_in;go_wp2_with fail;apply(R.out _).mono;rintro e w1⟨so,eo,n,m,sc,ec,rfl,q1⟩;go_wp2_with fail
 go_ret2
 exact⟨rfl,q1.alloc _ _⟩
theorem mO(c b:BA)(hc:c.size<=140737488351232)(hb:b.size<=140737488351232)(size:Nat)(acc:List Nat)(hp:M.parse c.data.toList=some (size,acc))(w:World):
  Calls Tryz.prog 172 #[sT c,sT b] w fun e w'=>e=NJ (if b.size<M.reach acc then none else some (M.made acc b.data.toList))/\Q w w':=by
 have R:Hid _:=oQ c hc size acc hp;obtain⟨hlen,hsz,hfit⟩:=M.Xu hp;have hrf:=M.iV hfit;by_cases kN:b.size<M.reach acc
 .rw[if_pos kN];go_in;go_wp2_with fail;apply(R.out _).mono;rintro e w1⟨L,so,eo,sc,ec,rfl,⟨hg,rfl⟩,hst,hen,q1⟩;have hft:=M.FW hg;have hll:=M.Cy hg;have RH:=hU (Rj L so sc _ (hst.kept ((Q.refl w1).alloc #[.slice so L.length sc,.slice eo L.length ec] 242)) (by omega) hg);go_wp2_with fail;apply(RH.out ()).mono;rintro e w2⟨rfl,q2⟩;go_wp2_with fail
  go_ret2
  exact⟨rfl,(q1.alloc _ _).trans q2⟩
 .rw[if_neg kN];go_in;go_wp2_with fail;apply(R.out _).mono;rintro e w1⟨L,so,eo,sc,ec,rfl,⟨hg,rfl⟩,hst,hen,q1⟩;have hft:=M.FW hg;have hll:=M.Cy hg;have RH:=hU (Rj L so sc _ (hst.kept ((Q.refl w1).alloc #[.slice so L.length sc,.slice eo L.length ec] 242)) (by omega) hg);have TX:Hid (∀w',Q (w1.alloc (.cells #[.slice so L.length sc,.slice eo L.length ec] 242)) w'->Calls Tryz.prog 192 #[sT b,.slice so L.length sc] w' fun e w''=>e=.returned (sT ⟨(M.made (M.flat L) b.data.toList).toArray⟩)/\Q w' w''):=
   fun w' q=>ny b L so sc w' ((hst.kept ((Q.refl w1).alloc _ _)).kept q) hb (by omega) hg (by omega)
  go_wp2_with fail;apply(RH.out ()).mono;rintro e w2⟨rfl,q2⟩;obtain⟨⟨x0,x1⟩,_⟩:=new2 q2;go_wp2_with fail;apply(TX.out _ q2).mono;rintro e w3⟨rfl,q3⟩;go_wp2_with fail
  go_ret2
  exact⟨rfl,((q1.alloc _ _).trans q2).trans q3⟩
theorem mP(c b:BA)(hc:c.size<=140737488351232)(hb:b.size<=140737488351232)(w:World):
  Calls Tryz.prog 172 #[sT c,sT b] w fun e w'=>e=NJ (applied (M.parse c.data.toList) b.data.toList)/\Q w w':=by
 cases hp:M.parse c.data.toList with
 |none=>exact sW c b hc hp w
 |some p =>
  obtain⟨size,acc⟩:=p;have hbl:b.data.toList.length=b.size:=by simp
  simp only[applied,hbl];exact mO c b hc hb size acc hp w
end Go.Proofs.YtekdenkllipehaaGreatDoor
