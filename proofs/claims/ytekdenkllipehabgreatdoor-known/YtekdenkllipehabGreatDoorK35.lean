import Derived.Test.YtekdenkllipehabGreatDoorK15
import Derived.RangeFuncNested
import Derived.RangeFuncBound
import Derived.RangeFuncCalls
import Derived.RangeFuncLeaves
import Derived.RangeFuncWrites
import Derived.RangeFuncBox
import Derived.Maps.AppendAt
import Derived.Shelf.Abstract
import Derived.Shelf.RegionOpen
import Derived.OwnWalkIn
import Derived.TacticsInMore
import Derived.LoopNIn
import Derived.LoopIn
set_option maxRecDepth 100000
set_option maxHeartbeats 8000000
namespace Go.Proofs.YtekdenkllipehabGreatDoor
open Go.RowKit Go.Shelf
attribute [local go_sem] Oper.semAt_some
structure KeepSet (S:Nat→Prop) (w w':World):Prop where
 size:w.heap.size≤w'.heap.size
 block:∀ k,S k→w'.heap[k]?=w.heap[k]?
theorem KeepSet.trans {S:Nat→Prop} {a b c:World} (h:KeepSet S a b) (k:KeepSet S b c):KeepSet S a c:=⟨Nat.le_trans h.size k.size,fun i hi=>(k.block i hi).trans (h.block i hi)⟩
theorem KeepSet.refl (S:Nat→Prop) (w:World):KeepSet S w w:=⟨Nat.le_refl _,fun _ _=>rfl⟩
theorem KeepSet.put {S:Nat→Prop} {w:World} (hS:∀ k,S k→k<w.heap.size) (W:World) (l:Nat) (o o':Obj) (hl:w.heap.size≤l) (_:W.heap[l]?=some o) (_:o.isCells=false) (_:o.isWalk=false):KeepSet S W (W.putObj l o'):=
 ⟨by simp,fun k hk=>World.putObj_heap_other (by have:=hS k hk;omega)⟩
theorem KeepSet.cell {S:Nat→Prop} {w w':World} (h:KeepSet S w w') {p:Addr} (hp:S p.block):w'.cell? p=w.cell? p:=World.cell?_of_block (h.block _ hp)
def fins (N k:Nat):List (Fin N):=(List.finRange N).take k
theorem fins_succ {N k:Nat} (h:k<N):fins N (k+1)=fins N k++[⟨k,h⟩]:=by
 unfold fins
 rw [List.take_add_one]
 congr 1
 simp [h]
theorem fins_length {N k:Nat} (h:k≤N):(fins N k).length=k:=by simp [fins,h]
theorem fins_all (N:Nat):fins N N=List.finRange N:=by unfold fins;exact List.take_of_length_le (by simp)
theorem all1_nil {N:Nat} (h0N:N=0) (n l Bs d:Nat) (J:List (Fin N)→World→Prop) (W:World) (hB:W.cell? ⟨Bs,0,none⟩=some (.pointer (some ⟨d,1,none⟩))) {a1:Option Addr} {k1:Nat} (c1:W.cell? ⟨d,1,none⟩=some (.slice a1 0 k1)) (h0:J [] W) :
  CallsIn Fence.wide n Tryz.prog 61 #[.func (.yield l) #[] #[],.pointer (some ⟨Bs,0,none⟩)] W fun e W'=>(∃ v,e=.returned v)∧J [] W':=by
 subst h0N
 refine callsIn_of_wp Tryz.func61 rfl trivial ?_ rfl
 simp only [Tryz.ntmps61,List.size_toArray,List.length_cons,List.length_nil,Nat.reduceAdd,Nat.reduceSub,Array.replicate_succ,Array.replicate_zero,List.push_toArray,List.append_toArray,List.nil_append,List.cons_append]
 gi_wp2
 gi_loopw [10] (fun i wr=>i=.int .i64 0∧J [] wr) (fun _ _=>0)
 case atStart=>exact ⟨rfl,h0⟩
 case round =>
  obtain ⟨rfl,hJs⟩:=hrel
  gi_wp2
  go_end0
  exact ⟨⟨_,rfl⟩,hJs⟩
theorem all1 (S:Nat→Prop) (n:Nat) (hn:1≤n) (l Bs d N g cap gv capv:Nat) (nm:Nat→ByteArray) (pt:Nat→Nat) (hN:N≤64) (hSB:S Bs) (hSd:S d) (hSg:S g) (hSv:S gv) (J Jx:List (Fin N)→World→Prop)
  (hY:∀ pre x W,J pre W→pre.length<N→YieldAt Fence.wide (n-1) Tryz.prog l #[.string (nm x.1),.pointer (some ⟨pt x.1,0,none⟩)] W fun e W' =>
   (e=.returned (.bool true)∧J (pre++[x]) W'∧KeepSet S W W')∨(e=.returned (.bool false)∧Jx (pre++[x]) W'))
  (W:World) (hB:W.cell? ⟨Bs,0,none⟩=some (.pointer (some ⟨d,1,none⟩))) (c1:W.cell? ⟨d,1,none⟩=some (.slice (some ⟨g,0,none⟩) N cap)) (c2:W.cell? ⟨d,2,none⟩=some (.slice (some ⟨gv,0,none⟩) N capv))
  (c3:∀ j,j<N→W.cell? ⟨g,j,none⟩=some (.string (nm j))) (c4:∀ j,j<N→W.cell? ⟨gv,j,none⟩=some (.pointer (some ⟨pt j,0,none⟩))) (h0:J [] W) :
  CallsIn Fence.wide n Tryz.prog 61 #[.func (.yield l) #[] #[],.pointer (some ⟨Bs,0,none⟩)] W fun e W'=>(∃ v,e=.returned v) ∧
   ((∃ ys,ys=fins N N∧J ys W')∨(∃ pre,True∧Jx pre W')):=by
 refine callsIn_of_wp Tryz.func61 rfl trivial ?_ rfl
 simp only [Tryz.ntmps61,List.size_toArray,List.length_cons,List.length_nil,Nat.reduceAdd,Nat.reduceSub,Array.replicate_succ,Array.replicate_zero,List.push_toArray,List.append_toArray,List.nil_append,List.cons_append]
 gi_wp2
 gi_loopw [10] (fun i wr=>∃ k:Nat,k≤N∧i=.int .i64 k∧J (fins N k) wr∧KeepSet S W wr)
  (fun i _=>N-(intOf i).toNat)
 case atStart=>exact ⟨0,Nat.zero_le _,rfl,h0,KeepSet.refl _ _⟩
 case round =>
  obtain ⟨k,hk,rfl,hJs,hnx⟩:=hrel
  by_cases hlt:k<N
  ·obtain ⟨fn,tmps,assign,body,hy,hR⟩:=hY _ ⟨k,hlt⟩ wr hJs (by rw [fins_length hk];exact hlt)
   dsimp only at hy
   have x1:=(hnx.cell (p:=⟨Bs,0,none⟩) hSB).trans hB
   have x2:=(hnx.cell (p:=⟨d,2,none⟩) hSd).trans c2
   have x3:=(hnx.cell (p:=⟨g,k,none⟩) hSg).trans (c3 k hlt)
   have x4:=(hnx.cell (p:=⟨gv,k,none⟩) hSv).trans (c4 k hlt)
   gi_wp2
   refine hR.mono ?_
   rintro e W3 (⟨rfl,hJ3,hk3⟩|⟨rfl,hJx3⟩)
   ·gi_wp2
    go_roundw
    case rel=>exact ⟨k+1,by omega,by simp,by rw [fins_succ hlt];exact hJ3,hnx.trans hk3⟩
    case measure=>simp [intOf];omega
   ·gi_wp2
    refine bodyPost_ret (results_none rfl _ _ _) rfl ?_
    exact ⟨⟨_,rfl⟩,.inr ⟨_,trivial,hJx3⟩⟩
  ·obtain rfl:k=N:=by omega
   gi_wp2
   go_end0
   exact ⟨⟨_,rfl⟩,.inl ⟨_,rfl,hJs⟩⟩
def mapSet (tg:Tags) (o Bs top:Nat) (k:Nat):Prop:=k=Bs∨(k<top∧(tg k=(o,0)∨tg k=(o,1)∨tg k=(o,2)))
def mapEntry (fs:List M.Fil) (ps:List Nat) (x:Fin fs.length):Array Value:=#[.string fs[x.1].name,.pointer (some ⟨ps[x.1]?.getD 0,0,none⟩)]
theorem all_stops (tg:Tags) (o d:Nat) (fs:List M.Fil) (ps:List Nat) (hl:fs.length≤64) (n:Nat) (hn:1≤n) (Bs:Nat) (w0 w:World) (h:MapAt w0 tg o d (namesOf fs) ps) (hq:Q w0 w) (hB:w.cell? ⟨Bs,0,none⟩=some (.pointer (some ⟨d,1,none⟩))) (hBs:Bs<w.heap.size) :
  SeqStopsK Fence.wide n Tryz.prog 61 #[.pointer (some ⟨Bs,0,none⟩)] (mapEntry fs ps) (KeepSet (mapSet tg o Bs w0.heap.size)) (fun xs=>xs=List.finRange fs.length) (fun _=>True) fs.length w:=fun l J Jx W hW' _ _ hY h0=>by
 have hW:Below w0.heap.size w0 W:=hq.below.trans (hW'.mono hq.below.size)
 have hB':=(hW'.cell (p:=⟨Bs,0,none⟩) hBs).trans hB
 have hM:MapAt W tg o d (namesOf fs) ps:=h.keep hW.size (fun _ _=>rfl) (fun k hk _=>hW.block k hk)
 by_cases hz:fs.length=0
 ·obtain ⟨a1,k1,r1,_,_⟩:=hM.keys
  rw [namesOf_length,hz] at r1
  refine (all1_nil hz n l Bs d J W hB' r1 h0).mono ?_
  rintro e W' ⟨he,hj⟩
  refine ⟨he,.inl ⟨[],?_,hj⟩⟩
  have:fs=[]:=List.eq_nil_of_length_eq_zero hz
  subst this
  rfl
 ·obtain ⟨g,cap,gv,capv,p,e1,e2,e6,e7,e8,e9,_,e3,e4⟩:=hM.at (i:=0) (by simp;omega)
  rw [namesOf_length] at e1 e2
  have hgw:g<w0.heap.size∧gv<w0.heap.size:=by
   obtain ⟨a1,k1,r1,r2,_⟩:=h.keys
   obtain ⟨a2,k2,s1,s2,_⟩:=h.vals
   have hd:=h.top
   have q1:=(hW.cell (p:=⟨d,1,none⟩) hd).symm.trans e1
   have q2:=(hW.cell (p:=⟨d,2,none⟩) hd).symm.trans e2
   rw [r1] at q1
   rw [s1] at q2
   injection q1 with q1
   injection q2 with q2
   injection q1 with q1
   injection q2 with q2
   exact ⟨(r2.lt g (by rw [q1];rfl)).2,(s2.lt gv (by rw [q2];rfl)).2⟩
  refine (all1 (mapSet tg o Bs w0.heap.size) n hn l Bs d fs.length g cap gv capv (fun j=>fs[j]?.elim ⟨#[]⟩ fun f=>f.name) (fun j=>ps[j]?.getD 0) hl (Or.inl rfl) (Or.inr ⟨h.top,Or.inl h.td⟩) (Or.inr ⟨hgw.1,Or.inr (Or.inl e6)⟩) (Or.inr ⟨hgw.2,Or.inr (Or.inr e7)⟩) J Jx (fun pre x W1 hj hlen=>by have:=hY pre x W1 hj hlen;simpa [mapEntry] using this) W hB' e1 e2 (fun j hj=>?_) (fun j hj=>?_) h0).mono ?_
  ·exact e3 j _ (by simp [namesOf,List.getElem?_eq_getElem hj])
  ·have hj':j<ps.length:=by have:=hM.len;simp at this;omega
   exact e4 j _ (by simp [List.getElem?_eq_getElem hj'])
  ·rintro e W' ⟨he,⟨ys,rfl,hj⟩|⟨pre,_,hj⟩⟩
   ·exact ⟨he,.inl ⟨_,fins_all _,hj⟩⟩
   ·exact ⟨he,.inr ⟨_,trivial,hj⟩⟩
theorem all_in (n d:Nat) (w:World) :
  CallsIn Fence.wide n Tryz.prog 38 #[.pointer (some ⟨d,1,none⟩)] w fun e w'=>e=.returned (.func (.func 61) #[] #[.pointer (some ⟨w.heap.size,0,none⟩)])∧w'=w.alloc (.cells #[.pointer (some ⟨d,1,none⟩)] 120):=by
 refine callsIn_of_wp Tryz.func38 rfl trivial ?_ rfl
 simp only [Tryz.ntmps38,List.size_toArray,List.length_cons,List.length_nil,Nat.reduceAdd,Nat.reduceSub,Array.replicate_succ,Array.replicate_zero,List.push_toArray,List.append_toArray,List.nil_append,List.cons_append]
 gi_wp2
 go_ret
 exact ⟨rfl,rfl⟩
end Go.Proofs.YtekdenkllipehabGreatDoor
