import Derived.Test.YtekdenkllipehaaGreatDoorP12
import Derived.RangeFuncNested
import Derived.RangeFuncBound
import Derived.RangeFuncCalls
import Derived.RangeFuncLeaves
import Derived.RangeFuncWrites
import Derived.RangeFuncBox
import Derived.Maps.AppendAt
import Derived.Shelf.Abstract
import Derived.Shelf.RegionOpen
import Derived.OwnWalkIn
import Derived.TacticsInMore
import Derived.LoopNIn
import Derived.LoopIn
set_option maxRecDepth 99999
set_option maxHeartbeats 0
namespace Go.Proofs.YtekdenkllipehaaGreatDoor
open Go.RowKit
open Go.Shelf
attribute [local go_sem] Oper.semAt_some
structure Cm(S:Nat->Prop)(w w':World):Prop where
 size:w.heap.size<=w'.heap.size
 block:∀k,S k->w'.heap[k]?=w.heap[k]?
theorem Cm.trans{S:Nat->Prop}{a b c:World}(h:Cm S a b)(k:Cm S b c):Cm S a c:=⟨zLV h.size k.size,fun i hi=>(k.block i hi).trans (h.block i hi)⟩
theorem Cm.refl(S:Nat->Prop)(w:World):Cm S w w:=⟨zLK _,fun _ _=>rfl⟩
theorem Cm.put{S:Nat->Prop}{w:World}(hS:∀k,S k->k<w.heap.size)(W:World)(l:Nat)(o o':Obj)(hl:w.heap.size<=l)(_:W.heap[l]?=some o)(_:o.isCells=false)(_:o.isWalk=false):Cm S W (W.putObj l o'):=
 ⟨by simp,fun k hk=>World.putObj_heap_other (by have:=hS k hk;omega)⟩
theorem Cm.cell{S:Nat->Prop}{w w':World}(h:Cm S w w'){p:Addr}(hp:S p.block):w'.cell? p=w.cell? p:=zMI (h.block _ hp)
def rR(N k:Nat):List (Fin N):=(List.finRange N).take k
theorem lK{N k:Nat}(h:k<N):rR N (k+1)=rR N k++[⟨k,h⟩]:=by
 unfold rR;rw[zLv];congr 1;simp[h]
theorem YZ{N k:Nat}(h:k<=N):(rR N k).length=k:=by simp[rR,h]
theorem rQ(N:Nat):rR N N=List.finRange N:=by unfold rR;exact zLP (by simp)
theorem si{N:Nat}(h0N:N=0)(n l Bs d:Nat)(J:List (Fin N)->World->Prop)(W:World)(hB:W.cell? (aD Bs 0)=some (.pointer (some (aD d 1)))){a1:Option Addr}{k1:Nat}(c1:W.cell? (aD d 1)=some (.slice a1 0 k1))(h0:J [] W):
  CallsIn Fence.wide n Tryz.prog 38 #[.func (.yield l) #[] #[],pT Bs] W fun e W'=>(∃v,e=.returned v)/\J [] W':=by
 subst h0N;refine callsIn_of_wp Tryz.func38 rfl trivial ?_ rfl;simp only[Tryz.ntmps38,zLm,zLQ,zLW,Nat.reduceAdd,Nat.reduceSub,zLj,zLi,zLs,zLl,zLb,zLd];gi_wp2
 gi_loopw [10] (fun i wr=>i=iT 0/\J [] wr) (fun _ _=>0)
 case atStart=>exact⟨rfl,h0⟩
 case round =>
  obtain⟨rfl,hJs⟩:=hrel;gi_wp2;go_end0;exact⟨⟨_,rfl⟩,hJs⟩
theorem all1(S:Nat->Prop)(n:Nat)(hn:1<=n)(l Bs d N g cap gv Ia:Nat)(nm:Nat->BA)(pt:Nat->Nat)(hN:N<=64)(ql:S Bs)(hSd:S d)(hSg:S g)(hSv:S gv)(J Jx:List (Fin N)->World->Prop)(hY:∀pre x W,J pre W->pre.length<N->YieldAt Fence.wide (n-1) Tryz.prog l #[sT (nm x.1),pT (pt x.1)] W fun e W' =>
   (e=.returned (.bool true)/\J (pre++[x]) W'/\Cm S W W')\/(e=.returned (.bool false)/\Jx (pre++[x]) W'))(W:World)(hB:W.cell? (aD Bs 0)=some (.pointer (some (aD d 1))))(c1:W.cell? (aD d 1)=some (.slice (some (aD g 0)) N cap))(c2:W.cell? (aD d 2)=some (.slice (some (aD gv 0)) N Ia))(c3:∀j,j<N->W.cell? (aD g j)=some (sT (nm j)))(c4:∀j,j<N->W.cell? (aD gv j)=some (pT (pt j)))(h0:J [] W):
  CallsIn Fence.wide n Tryz.prog 38 #[.func (.yield l) #[] #[],pT Bs] W fun e W'=>(∃v,e=.returned v) /\
   ((∃ys,ys=rR N N/\J ys W')\/(∃pre,True/\Jx pre W')):=by
 refine callsIn_of_wp Tryz.func38 rfl trivial ?_ rfl;simp only[Tryz.ntmps38,zLm,zLQ,zLW,Nat.reduceAdd,Nat.reduceSub,zLj,zLi,zLs,zLl,zLb,zLd];gi_wp2
 gi_loopw [10] (fun i wr=>∃k:Nat,k<=N/\i=iT k/\J (rR N k) wr/\Cm S W wr)
  (fun i _=>N-(intOf i).toNat)
 case atStart=>exact⟨0,zLS _,rfl,h0,Cm.refl _ _⟩
 case round =>
  obtain⟨k,hk,rfl,hJs,hnx⟩:=hrel;by_cases hlt:k<N
  .obtain⟨fn,tmps,assign,body,hy,hR⟩:=hY _ ⟨k,hlt⟩ wr hJs (by rw[YZ hk];exact hlt);dsimp only at hy;have x1:=(hnx.cell (p:=(aD Bs 0)) ql).trans hB;have x2:=(hnx.cell (p:=(aD d 2)) hSd).trans c2;have x3:=(hnx.cell (p:=(aD g k)) hSg).trans (c3 k hlt);have x4:=(hnx.cell (p:=(aD gv k)) hSv).trans (c4 k hlt);gi_wp2;refine hR.mono ?_;rintro e W3 (⟨rfl,hJ3,hk3⟩|⟨rfl,hJx3⟩)
   ·(((gi_wp2);go_roundw);case rel=>exact⟨k+1,by omega,by simp,by rw[lK hlt];exact hJ3,hnx.trans hk3⟩);case measure=>simp[intOf];omega
   .gi_wp2;refine bodyPost_ret (results_none rfl _ _ _) rfl ?_;exact⟨⟨_,rfl⟩,.inr ⟨_,trivial,hJx3⟩⟩
  .obtain rfl:k=N:=by omega
   gi_wp2;go_end0;exact⟨⟨_,rfl⟩,.inl ⟨_,rfl,hJs⟩⟩
def Vo(tg:Tags)(o Bs top:Nat)(k:Nat):Prop:=k=Bs\/(k<top/\(tg k=(o,0)\/tg k=(o,1)\/tg k=(o,2)))
def mapEntry(fs:List M.Fil)(ps:List Nat)(x:Fin fs.length):Array Value:=#[sT fs[x.1].name,.pointer (some ⟨ps[x.1]?.getD 0,0,none⟩)]
theorem all_stops(tg:Tags)(o d:Nat)(fs:List M.Fil)(ps:List Nat)(hl:fs.length<=64)(n:Nat)(hn:1<=n)(Bs:Nat)(w0 w:World)(h:MapAt w0 tg o d (Am fs) ps)(hq:Q w0 w)(hB:w.cell? (aD Bs 0)=some (.pointer (some (aD d 1))))(rE:Bs<w.heap.size):
  SeqStopsK Fence.wide n Tryz.prog 38 #[pT Bs] (mapEntry fs ps) (Cm (Vo tg o Bs w0.heap.size)) (fun xs=>xs=List.finRange fs.length) (fun _=>True) fs.length w:=fun l J Jx W hW' _ _ hY h0=>by
 have hW:Below w0.heap.size w0 W:=hq.below.trans (hW'.mono hq.below.size);have hB':=(hW'.cell (p:=(aD Bs 0)) rE).trans hB;have hM:MapAt W tg o d (Am fs) ps:=h.keep hW.size (fun _ _=>rfl) (fun k hk _=>hW.block k hk);by_cases hz:fs.length=0
 .obtain⟨a1,k1,r1,_,_⟩:=hM.keys;rw[Ao,hz]at r1;apply(si hz n l Bs d J W hB' r1 h0).mono;rintro e W'⟨he,hj⟩;refine⟨he,.inl ⟨[],?_,hj⟩⟩;have:fs=[]:=zLN hz;subst this;rfl
 .obtain⟨g,cap,gv,Ia,p,e1,e2,e6,e7,e8,e9,_,e3,e4⟩:=hM.at (i:=0) (by simp;omega);rw[Ao]at e1 e2;have hgw:g<w0.heap.size/\gv<w0.heap.size:=by
   obtain⟨a1,k1,r1,r2,_⟩:=h.keys;obtain⟨a2,k2,s1,s2,_⟩:=h.vals;have hd:=h.top;have q1:=(hW.cell (p:=(aD d 1)) hd).symm.trans e1;have q2:=(hW.cell (p:=(aD d 2)) hd).symm.trans e2;rw[r1]at q1;rw[s1]at q2;injection q1 with q1;injection q2 with q2;injection q1 with q1;injection q2 with q2;exact⟨(r2.lt g (by rw[q1];rfl)).2,(s2.lt gv (by rw[q2];rfl)).2⟩
  refine(all1 (Vo tg o Bs w0.heap.size) n hn l Bs d fs.length g cap gv Ia (fun j=>fs[j]?.elim ⟨#[]⟩ fun f=>f.name) (fun j=>ps[j]?.getD 0) hl (Or.inl rfl) (Or.inr ⟨h.top,Or.inl h.td⟩) (Or.inr ⟨hgw.1,Or.inr (Or.inl e6)⟩) (Or.inr ⟨hgw.2,Or.inr (Or.inr e7)⟩) J Jx (fun pre x W1 hj hlen=>by have:=hY pre x W1 hj hlen;simpa[mapEntry]using this) W hB' e1 e2 (fun j hj=>?_) (fun j hj=>?_) h0).mono ?_
  .exact e3 j _ (by simp[Am,List.getElem?_eq_getElem hj])
  .have hj':j<ps.length:=by have:=hM.len;simp at this;omega
   exact e4 j _ (by simp[List.getElem?_eq_getElem hj'])
  .rintro e W'⟨he,⟨ys,rfl,hj⟩|⟨pre,_,hj⟩⟩
   .exact⟨he,.inl ⟨_,rQ _,hj⟩⟩
   .exact⟨he,.inr ⟨_,trivial,hj⟩⟩
theorem all_in(n d:Nat)(w:World):
  CallsIn Fence.wide n Tryz.prog 22 #[.pointer (some (aD d 1))] w fun e w'=>e=.returned (.func (.func 38) #[] #[pT w.heap.size])/\w'=w.alloc (.cells #[.pointer (some (aD d 1))] 87):=by
 refine callsIn_of_wp Tryz.func22 rfl trivial ?_ rfl;simp only[Tryz.ntmps22,zLm,zLQ,zLW,Nat.reduceAdd,Nat.reduceSub,zLj,zLi,zLs,zLl,zLb,zLd];gi_wp2;go_ret;exact⟨rfl,rfl⟩
end Go.Proofs.YtekdenkllipehaaGreatDoor
