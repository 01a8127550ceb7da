import Derived.Test.YtekdenkllipehaaGreatDoorP17
import Derived.Test.YtekdenkllipehaaGreatDoorP25
set_option maxRecDepth 99999
set_option maxHeartbeats 0
namespace Go.Proofs.YtekdenkllipehaaGreatDoor
section
open Go.RowKit
variable{AU tg:Tags}{d i o p s u:Nat}{ids ps:List Nat}{k:BA}{rs:List Rec}{w w':World}
def S.Up(rs:List Rec):Prop:=rs.Pairwise fun a b=>a.stamp<b.stamp
def BP(rs:List Rec):List Int:=rs.map (·.stamp)
@[simp] theorem iI(rs:List Rec):(BP rs).length=rs.length:=by simp[BP]
structure Si(w:World)(tg:Tags)(o p u:Nat)(rs:List Rec):Prop where
 top:p<w.heap.size
 keys:∃ao cap,w.cell? (aD p 0)=some (.slice ao rs.length cap)/\w.ownsRow 0 3 1 (.slice ao rs.length cap) rs.length (BO (BP rs))/\∀g,(Value.slice ao rs.length cap).ownBlock=some g->tg g=(o,u)
 vals:∃ao cap,w.cell? (aD p 1)=some (.slice ao rs.length cap)/\w.ownsRow 0 119 4 (.slice ao rs.length cap) rs.length (AY rs)/\∀g,(Value.slice ao rs.length cap).ownBlock=some g->tg g=(o,u+1)
theorem Si.keep(h:Si w tg o p u rs)(hs:w.heap.size<=w'.heap.size)(ht:∀k,k<w.heap.size->tg k=(o,u)\/tg k=(o,u+1)->AU k=tg k)(hp:w'.heap[p]?=w.heap[p]?)(hb:∀k,k<w.heap.size->tg k=(o,u)\/tg k=(o,u+1)->w'.heap[k]?=w.heap[k]?):Si w' AU o p u rs:=by
 obtain⟨a1,k1,r1,r2,r3⟩:=h.keys;obtain⟨a2,k2,s1,s2,s3⟩:=h.vals;exact⟨zLJ h.top hs,
  ⟨a1,k1,(zMI (a:=(aD p 0)) hp).trans r1,Ai r2 (fun g hg=>hb g (r2.lt g hg).2 (Or.inl (r3 g hg))),fun g hg=>(ht g (r2.lt g hg).2 (Or.inl (r3 g hg))).trans (r3 g hg)⟩,
  ⟨a2,k2,(zMI (a:=(aD p 1)) hp).trans s1,Ai s2 (fun g hg=>hb g (s2.lt g hg).2 (Or.inr (s3 g hg))),fun g hg=>(ht g (s2.lt g hg).2 (Or.inr (s3 g hg))).trans (s3 g hg)⟩⟩
theorem Si.kept(h:Si w tg o p u rs)(q:Q w w'):Si w' tg o p u rs:=
 h.keep q.below.size (fun _ _ _=>rfl) (q.below.block p h.top) (fun k hk _=>q.below.block k hk)
theorem Si.empty(hd:p<w.heap.size)(h0:w.cell? (aD p 0)=some nS)(h1:w.cell? (aD p 1)=some nS):Si w tg o p u []:=
 ⟨hd,⟨none,0,h0,World.ownsRow_nil _ _ _ _,fun g hg=>by simp[Value.ownBlock]at hg⟩,⟨none,0,h1,World.ownsRow_nil _ _ _ _,fun g hg=>by simp[Value.ownBlock]at hg⟩⟩
def Un(rs:List Rec)(x:Int):Nat:=(BP rs).countP (·<x)
def nM(rs:List Rec)(x:Int):Bool:=(BP rs).contains x
theorem Wp(x:Int)(w:World):
  Calls Tryz.prog 127 #[nS,iT x] w fun e w'=>e=.returned (.tuple #[iT 0,.bool false])/\Q w w':=by
 go_in;go_wp2_with fail
 go_loopw [7,8] (fun a b wr=>a=iT 0/\b=iT 0/\wr=w) (fun _ _ _=>0)
 case atStart=>exact⟨rfl,rfl,rfl⟩
 case round =>
  obtain⟨rfl,rfl,rfl⟩:=hrel;go_wp2_with fail
  go_ret2
  exact⟨rfl,Q.refl _⟩
theorem bsearchI(rs:List Rec)(hs:S.Up rs)(hl:rs.length<=140737488351232)(x:Int)(ao:Option Addr)(cap:Nat)(w:World)(hr:w.ownsRow 0 3 1 (.slice ao rs.length cap) rs.length (BO (BP rs))):
  Calls Tryz.prog 127 #[.slice ao rs.length cap,iT x] w fun e w'=>e=.returned (.tuple #[iT (Un rs x:Nat),.bool (nM rs x)])/\Q w w':=by
 rcases hr.2 with⟨hv,h0⟩|⟨g,c,cur,hv,_,hh,_⟩
 .have hf:rs=[]:=zLN h0;subst hf;injection hv with e1 e2 e3;subst e1 e3;exact Wp x w
 .injection hv with e1 e2 e3;subst e1 e3;have hC:=Any.slices_BinarySearch_int zAW g 0 rs.length cap (BP rs) x w (by simp) (by omega) (fun j hj=>by
   rw[zLk,hr.cellAt j (by simp at hj;omega)];simp at hj;simp[BO,BP,hj]) (by
   rw[zLP (by simp)];unfold BP;rw[List.pairwise_map];exact hs.imp (fun h=>by omega))
  rw[zLP (by simp)]at hC;refine Calls.mono hC ?_;rintro e w'⟨rfl,q,rfl⟩;exact⟨rfl,Q.drewN (Q.refl w) q⟩
def JE(rs:List Rec)(x:Int):Option Rec:=(rs.filter fun r=>decide (r.stamp<=x)).getLast?
theorem Y3:∀{rs:List Rec}(_:S.Up rs)(x:Int),rs.filter (fun r=>decide (r.stamp<=x))=rs.take (Un rs (x+1))
 |[],_,x=>by simp
 |r::rs,h,x=>by
  have h':=zM5.1 h;unfold Un BP;rw[zLx,List.countP_cons,List.filter_cons];by_cases hr:r.stamp<=x
  .have hlt:r.stamp<x+1:=by omega
   simp only[hr,decide_true,if_true,hlt];rw[Y3 h'.2 x];rfl
  .have hlt:¬r.stamp<x+1:=by omega
   have hz:(List.map (fun x=>x.stamp) rs).countP (fun y=>decide (y<x+1))=0:=by
    rw[List.countP_eq_zero];intro y hy;rw[List.mem_map]at hy;obtain⟨z,hz,rfl⟩:=hy;have:=h'.1 z hz;simp;omega
   simp only[hr,decide_false,zM8,if_false,hlt,hz];rw[List.filter_eq_nil_iff.2]
   .rfl
   .intro z hz;have:=h'.1 z hz;simp;omega
theorem jP(rs:List Rec)(x:Int):Un rs x<=rs.length:=by
 have:=List.countP_le_length (p:=fun y=>decide (y<x)) (l:=BP rs);simpa[Un]using this
theorem Vr(h:S.Up rs)(x:Int):Un rs (x+1)=Un rs x+(if nM rs x=true then 1 else 0):=by
 induction rs with
 |nil=>simp[Un,nM,BP]
 |cons r rs ih =>
  have h':=zM5.1 h;have ih':=ih h'.2;unfold Un nM BP at ih'⊢;simp only[zLx,List.countP_cons,List.contains_cons];by_cases hx:x=r.stamp
  .have hz:(rs.map (fun x=>x.stamp)).contains x=false:=by
    rw[Bool.eq_false_iff];intro hc;rw[List.contains_iff_mem,List.mem_map]at hc;obtain⟨z,hz,he⟩:=hc;have:=h'.1 z hz;omega
   rw[hz]at ih';simp only[zM8,if_false,Nat.add_zero]at ih';rw[ih'];simp[hx];omega
  .have hb:(x==r.stamp)=false:=by rw[zM9];exact hx
   rw[hb,Bool.false_or,ih'];by_cases hlt:r.stamp<x
   ·(have h2:r.stamp<x+1:=by omega);simp only[hlt,h2,decide_true,if_true];omega
   ·(have h2:¬r.stamp<x+1:=by omega);simp only[hlt,h2,decide_false,zM8,if_false,Nat.add_zero]
theorem jk(h:S.Up rs)(x:Int):JE rs x=if nM rs x=true then rs[Un rs x]? else if Un rs x=0 then none else rs[Un rs x-1]?:=by
 unfold JE;rw[Y3 h x,Vr h x];have hle:=jP rs (x+1);rw[Vr h x]at hle
 cases hh:nM rs x with
 |true =>
  rw[hh]at hle;simp only[if_true]at hle⊢;rw[List.getLast?_eq_getElem?,zM6,Nat.min_eq_left hle,zM7,List.getElem?_take_of_lt (by omega)]
 |false =>
  rw[hh]at hle;simp only[zM8,if_false,Nat.add_zero]at hle⊢;by_cases h0:Un rs x=0
  .rw[if_pos h0,h0];simp
  .rw[if_neg h0,List.getLast?_eq_getElem?,zM6,Nat.min_eq_left hle,List.getElem?_take_of_lt (by omega)]
theorem Si.at{w:World}{tg:Tags}{o p u:Nat}{rs:List Rec}(h:Si w tg o p u rs){i:Nat}{r:Rec}(hr:rs[i]?=some r):
  ∃g cap,w.cell? (aD p 1)=some (.slice (some (aD g 0)) rs.length cap)/\g<w.heap.size/\w.cell? (aD g (i*4))=some (sT r.key)/\w.cell? (aD g (i*4+1))=some (iT r.stamp)/\w.cell? (aD g (i*4+2))=some (iT r.kind)/\w.cell? (aD g (i*4+3))=some (sT r.body):=by
 obtain⟨ao,cap,s1,s2,s3⟩:=h.vals;have hne:rs≠[]:=fun e=>by rw[e]at hr;simp at hr
 obtain⟨g,rfl,hg,hR⟩:=Lj s2 hne;have:=hR i r hr;simp only[zLk]at this;exact⟨g,cap,s1,hg,this⟩
def JS:Rec:=⟨⟨#[]⟩,0,0,⟨#[]⟩⟩
theorem vv(tg:Tags)(o p u:Nat)(rs:List Rec)(hs:S.Up rs)(hl:rs.length<=1048576)(x:Int)(w:World)(h:Si w tg o p u rs):
  Calls Tryz.prog 129 #[pT p,iT x] w fun e w'=>e=.returned (.tuple #[((JE rs x).getD JS).val,.bool (JE rs x).isSome])/\Q w w':=by
 have HM:=h_ h;obtain⟨a1,k1,r1,r2,r3⟩:=h.keys;have HB:Hid _:=fun W(q:Q w W)=>by
  exact bsearchI rs hs (by omega) x a1 k1 W (own_below r2 q.below)
 have hle:=jP rs x;have E:=jk hs x;obtain⟨i,hi⟩:=xe (Un rs x);rw[hi]at HB hle E;have r1a:=AA r1 ((Q.refl w).alloc #[eS,iT 0,iT 0,eS] 119)
 cases hh:nM rs x with
 |true =>
  rw[hh]at HB E;simp only[if_true]at E;have hlt:i<rs.length:=by
   (have h1:x∈BP rs:=by unfold nM at hh;simpa using hh);rcases zLn i rs.length with h2|h2
   .exact h2
   .exfalso;have h3:(BP rs).countP (·<x)=(BP rs).length:=by
     (have:Un rs x=rs.length:=by omega);unfold Un at this;simpa using this
    rw[List.countP_eq_length]at h3;have:=h3 x h1;simp at this
  obtain⟨r,hr⟩:∃r,rs[i]?=some r:=⟨_,zLH hlt⟩;rw[hr]at E;rw[E];simp only[zLT,zLX,Rec.val];obtain⟨g,cap,v1,vg,v2,v3,v4,v5⟩:=HM.out.at hr;have I4:(i:Int)<(rs.length:Int):=by omega
  go_in;go_wp2_with fail;apply(HB.out _ ((Q.refl w).alloc _ _)).mono;rintro e w1⟨rfl,q1⟩;have hV:=(AZ w [eS,iT 0,iT 0,eS] 119).kept q1;have q1':=((Q.refl w).alloc _ _).trans q1;have k1:=AA v1 q1';have k2:=AA v2 q1';have k3:=AA v3 q1';have k4:=AA v4 q1';have k5:=AA v5 q1';have b0:=hV.cell 0 rfl;have b1:=hV.cell 1 rfl;have b2:=hV.cell 2 rfl;have b3:=hV.cell 3 rfl;have d0:=hV.free 0 rfl;have d1:=hV.free 1 rfl;have d2:=hV.free 2 rfl;have d3:=hV.free 3 rfl;have hset:=(((hV.set 0 (sT r.key)).set 1 (iT r.stamp)).set 2 (iT r.kind)).set 3 (sT r.body);have m0:=hset.cell 0 rfl;have m1:=hset.cell 1 rfl;have m2:=hset.cell 2 rfl;have m3:=hset.cell 3 rfl;have hq:=(((q1'.setCell (p:=(aD w.heap.size 0)) (zLK _) (sT r.key)).setCell (p:=(aD w.heap.size 1)) (zLK _) (iT r.stamp)).setCell (p:=(aD w.heap.size 2)) (zLK _) (iT r.kind)).setCell (p:=(aD w.heap.size 3)) (zLK _) (sT r.body);go_wp2_with fail;refine bodyPost_ret (v:=.tuple #[.agg #[sT r.key,iT r.stamp,iT r.kind,sT r.body],.bool true]) (by simp[results,Tryz.results129,go_sem,m0,m1,m2,m3]) rfl ?_;exact⟨rfl,hq⟩
 |false =>
  rw[hh]at HB E;simp only[zM8,if_false]at E;by_cases h0:i=0
  .rw[if_pos h0]at E;rw[E];simp only[Option.getD_none,zLo,Rec.val,JS];subst h0;go_in;go_wp2_with fail;apply(HB.out _ ((Q.refl w).alloc _ _)).mono;rintro e w1⟨rfl,q1⟩;have hV:=((AZ w [eS,iT 0,iT 0,eS] 119).kept q1).kept ((Q.refl _).alloc #[eS,iT 0,iT 0,eS] 119);have q1':=(((Q.refl w).alloc _ _).trans q1).alloc #[eS,iT 0,iT 0,eS] 119;have b0:=hV.cell 0 rfl;have b1:=hV.cell 1 rfl;have b2:=hV.cell 2 rfl;have b3:=hV.cell 3 rfl;have d0:=hV.free 0 rfl;have d1:=hV.free 1 rfl;have d2:=hV.free 2 rfl;have d3:=hV.free 3 rfl;have hset:=(((hV.set 0 eS).set 1 (iT 0)).set 2 (iT 0)).set 3 eS;have m0:=hset.cell 0 rfl;have m1:=hset.cell 1 rfl;have m2:=hset.cell 2 rfl;have m3:=hset.cell 3 rfl;have hq:=(((q1'.setCell (p:=(aD w.heap.size 0)) (zLK _) eS).setCell (p:=(aD w.heap.size 1)) (zLK _) (iT 0)).setCell (p:=(aD w.heap.size 2)) (zLK _) (iT 0)).setCell (p:=(aD w.heap.size 3)) (zLK _) eS;go_wp2_with fail;refine bodyPost_ret (v:=.tuple #[.agg #[eS,iT 0,iT 0,eS],.bool false]) (by simp[results,Tryz.results129,go_sem,m0,m1,m2,m3]) rfl ?_;exact⟨rfl,hq⟩
  .rw[if_neg h0]at E;obtain⟨j,rfl⟩:∃j,i=j+1:=⟨i-1,by omega⟩;rw[zM7]at E;obtain⟨r,hr⟩:∃r,rs[j]?=some r:=⟨_,zLH (by omega)⟩;rw[hr]at E;rw[E];simp only[zLT,zLX,Rec.val];obtain⟨g,cap,v1,vg,v2,v3,v4,v5⟩:=HM.out.at hr;have hj:((j+1:Nat):Int)-1=(j:Int):=by omega
   (((have I4:(j:Int)<(rs.length:Int):=by omega);have hne:(((j+1:Nat):Int)==0)=false:=by rw[zM9];omega);have zIq:¬((j+1:Nat):Int)=0:=by omega);go_in;go_wp2_with fail;apply(HB.out _ ((Q.refl w).alloc _ _)).mono;rintro e w1⟨rfl,q1⟩;have hV:=(AZ w [eS,iT 0,iT 0,eS] 119).kept q1;have q1':=((Q.refl w).alloc _ _).trans q1;have k1:=AA v1 q1';have k2:=AA v2 q1';have k3:=AA v3 q1';have k4:=AA v4 q1';have k5:=AA v5 q1';have b0:=hV.cell 0 rfl;have b1:=hV.cell 1 rfl;have b2:=hV.cell 2 rfl;have b3:=hV.cell 3 rfl;have d0:=hV.free 0 rfl;have d1:=hV.free 1 rfl;have d2:=hV.free 2 rfl;have d3:=hV.free 3 rfl;have hset:=(((hV.set 0 (sT r.key)).set 1 (iT r.stamp)).set 2 (iT r.kind)).set 3 (sT r.body);have m0:=hset.cell 0 rfl;have m1:=hset.cell 1 rfl;have m2:=hset.cell 2 rfl;have m3:=hset.cell 3 rfl;have hq:=(((q1'.setCell (p:=(aD w.heap.size 0)) (zLK _) (sT r.key)).setCell (p:=(aD w.heap.size 1)) (zLK _) (iT r.stamp)).setCell (p:=(aD w.heap.size 2)) (zLK _) (iT r.kind)).setCell (p:=(aD w.heap.size 3)) (zLK _) (sT r.body);go_wp2_with fail;refine bodyPost_ret (v:=.tuple #[.agg #[sT r.key,iT r.stamp,iT r.kind,sT r.body],.bool true]) (by simp[results,Tryz.results129,go_sem,m0,m1,m2,m3]) rfl ?_;exact⟨rfl,hq⟩
def GD(tg:Tags)(o p u:Nat)(rs:List Rec)(w w':World):Prop:=
 ∃AU:Tags,(∀k,k<w.heap.size->AU k=tg k)/\Si w' AU o p u rs/\zC9 tg o p 0 u w w'
theorem O4{wa wb:World}(hq:Jv tg o p 0 u w wa)(hr:Jv (tg.more w.heap.size o u) o p 1 (u+1) wa wb)(hd:tg p≠(o,u)/\tg p≠(o,u+1))(htop:p<w.heap.size){v1 v2:Value}(k1:wa.cell? (aD p 0)=some v1)(k2:wa.ownsRow 0 3 1 v1 rs.length (BO (BP rs)))(k3:∀g,v1.ownBlock=some g->(tg.more w.heap.size o u) g=(o,u))(l1:wb.cell? (aD p 1)=some v2)(l2:wb.ownsRow 0 119 4 v2 rs.length (AY rs))(l3:∀g,v2.ownBlock=some g->((tg.more w.heap.size o u).more wa.heap.size o (u+1)) g=(o,u+1)):
  GD tg o p u rs w wb:=by
 have hold:∀k,k<w.heap.size->((tg.more w.heap.size o u).more wa.heap.size o (u+1)) k=tg k:=fun k hk=>by rw[Tags.AQ (zLJ hk hq.size),Tags.AQ hk]
 obtain⟨a1,c1,rfl⟩:=Ac k2;obtain⟨a2,c2,rfl⟩:=Ac l2;refine⟨_,hold,⟨zLJ htop (zLV hq.size hr.size),⟨a1,c1,(hr.cell 0 (by omega)).trans k1,Ai k2 (fun g hg=>hr.block g (k2.lt g hg).2 (fun e=>?_) (fun e=>?_)),fun g hg=>?_⟩,⟨a2,c2,l1,l2,l3⟩⟩,⟨hr.os.trans hq.os,hr.tape.trans hq.tape,hr.output.trans hq.output,zLV hq.size hr.size,fun k hk h0 h1 h2=>?_,fun j h1 h2=>(hr.cell j h2).trans (hq.cell j h1),fun j=>(hr.fr j).trans (hq.fr j)⟩⟩
 .have:=k3 g hg;rw[e,Tags.AQ htop]at this;exact hd.1 this
 .have:=k3 g hg;rw[this]at e;injection e;omega
 .rw[Tags.AQ (k2.lt g hg).2];exact k3 g hg
 .rw[hr.block k (zLJ hk hq.size) h0 (by rw[Tags.AQ hk];exact h2)];exact hq.block k hk h0 h1
theorem GD.after{w1:World}(h:GD tg o p u rs w1 w')(q:Q w w1)(hd:p<w.heap.size):GD tg o p u rs w w':=by
 obtain⟨AU,h1,h2,h3⟩:=h;have hs:=q.below.size;have hdb:=q.below.block p hd;exact⟨AU,fun k hk=>h1 k (zLJ hk hs),h2,⟨h3.os.trans q.below.os,h3.tape.trans q.below.tape,h3.output.trans q.below.output,zLV hs h3.size,fun k hk a b c=>(h3.block k (zLJ hk hs) a b c).trans (q.below.block k hk),fun j h1 h2=>(h3.cell j h1 h2).trans (zMI (a:=(aD p j)) hdb),fun j=>(h3.fr j).trans (zML (a:=(aD p j)) hdb)⟩⟩
theorem ZV{x:Int}(h:∀r∈rs,r.stamp<x):Un rs x=rs.length/\nM rs x=false:=by
 constructor
 .unfold Un;have:(BP rs).countP (fun y=>decide (y<x))=(BP rs).length:=by
   rw[List.countP_eq_length];intro y hy;unfold BP at hy;rw[List.mem_map]at hy;obtain⟨z,hz,rfl⟩:=hy;simpa using h z hz
  simpa using this
 .unfold nM;rw[Bool.eq_false_iff];intro hc;rw[List.contains_iff_mem]at hc;unfold BP at hc;rw[List.mem_map]at hc;obtain⟨z,hz,he⟩:=hc;have:=h z hz;omega
theorem P6(l:List Int):∀x∈BO l,x.oneCell'=true:=fun x hx=>by
 simp only[BO,List.mem_map]at hx;obtain⟨_,_,rfl⟩:=hx;rfl
theorem zGP(tg:Tags)(o p u:Nat)(rs:List Rec)(r:Rec)(hs:S.Up rs)(hl:rs.length<=1048575)(hr:∀x∈rs,x.stamp<r.stamp)(w:World)(h:Si w tg o p u rs)(hd:tg p≠(o,u)/\tg p≠(o,u+1))(hfr:w.frozen? (aD p 0)=false/\w.frozen? (aD p 1)=false):
  Calls Tryz.prog 102 #[pT p,iT r.stamp,r.val] w fun e w'=>e=.returned (.tuple #[])/\GD tg o p u (rs++[r]) w w':=by
 have HM:=h_ h;have htop:=h.top;obtain⟨a1,k1,r1,r2,r3⟩:=h.keys;obtain⟨b2,c2,y1,y2,y3⟩:=h.vals;have r1a:=AA r1 ((Q.refl w).alloc #[sT r.key,iT r.stamp,iT r.kind,sT r.body] 119);have HB:=hU (bsearchI rs hs (by omega) r.stamp a1 k1 (w.alloc (.cells #[sT r.key,iT r.stamp,iT r.kind,sT r.body] 119)) (r2.alloc _));rw[(ZV hr).1,(ZV hr).2]at HB;have gJ:=h_ hfr;have XQ:=h_ hd;unfold Rec.val;have HNb:Hid ((Value.slice a1 rs.length k1).ownBlock≠some w.heap.size):=fun e=>by have:=(r2.lt _ e).2;omega
 have HK:Hid _:=And.intro r2 r3;have HY:Hid _:=And.intro y1 (And.intro y2 y3);go_in;go_wp2_with fail;apply(HB.out ()).mono;rintro e w1⟨rfl,q1'⟩;have q1:Q w w1:=((Q.refl w).alloc _ _).trans q1';have hBx:=(AZ w [sT r.key,iT r.stamp,iT r.kind,sT r.body] 119).kept q1';have HBx:=h_ hBx;have hm1:=HM.out.kept q1;have s1:=AA r1 q1;have s2:=own_below HK.out.1 q1.below;have hf1:w1.frozen? (aD p 0)=false:=(q1.below.frozen (p:=(aD p 0)) htop).trans gJ.out.1;have nA:=h_ ((q1.below.frozen (p:=(aD p 1)) htop).trans gJ.out.2);have HI:=hU (Rx (.slice a1 rs.length k1) rs.length (BO (BP rs)) w1.heap.size (iT r.stamp) (w1.alloc (.cells #[iT r.stamp] 3)) (by omega) (s2.alloc _) rfl (Ck w1 (iT r.stamp) 3));have Ie:=h_ hm1;have Qp:=h_ q1;go_wp2_with fail;apply(HI.out ()).mono;rintro e w2⟨v1,rfl,t2,t3,t4⟩;have hgr:=(CY w1 (.cells #[iT r.stamp] 3) (Value.slice a1 rs.length k1).ownBlock).trans t3;have T1:=Gd (w:=w1) (tg:=tg) (o:=o) (d:=p) (c:=0) (u:=u) XQ.out.1 Ie.out.top s1 HK.out.2 hgr t2 (t4.imp id (fun⟨g,h1,h2⟩=>⟨g,h1,by simp at h2;omega⟩));obtain⟨x1,x2,rfl⟩:=Ac t2;have hc1:w2.cell? (aD p 0)=_:=(T1.2.2.2.2.1 0).trans s1;have zBF:=(T1.2.2.2.2.2 0).trans hf1;have kP:=(T1.2.2.2.2.2 1).trans nA.out;obtain⟨Wa,hWa⟩:=ex (w2.setCell (aD p 0) (.slice x1 (rs.length+1) x2));have y1:=AA HY.out.1 Qp.out;have y2:=own_below HY.out.2.1 Qp.out.below;have y3:=HY.out.2.2;have hV1:Wa.cell? (aD p 1)=some (.slice b2 rs.length c2):=by rw[hWa];exact(T1.1.cell 1 (by omega)).trans y1
 have hV2:Wa.ownsRow 0 119 4 (.slice b2 rs.length c2) rs.length (AY rs):=by rw[hWa];exact Ai y2 (fun g hg=>T1.1.block g (y2.lt g hg).2 (fun e=>XQ.out.2 (by rw[<-e];exact y3 g hg)) (fun e=>by have:=y3 g hg;rw[this]at e;injection e;omega))
 have hBa:Ca Wa w.heap.size [sT r.key,iT r.stamp,iT r.kind,sT r.body]:=by rw[hWa];exact(HBx.out.grown hgr HNb.out).other (by omega) 0 _
 have hlt2:∀g,(Value.slice b2 rs.length c2).ownBlock=some g->(tg.more w1.heap.size o u) g=(o,u+1):=fun g hg=>by rw[Tags.AQ (y2.lt g hg).2];exact y3 g hg
 have hwz:Wa.heap.size=w2.heap.size:=by rw[hWa];simp
 have HI2:Hid _:=fun(_:Unit)=>dD (.slice b2 rs.length c2) rs.length (AY rs) w2.heap.size r (Wa.drew.alloc (.cells #[sT r.key,iT r.stamp,iT r.kind,sT r.body] 119)) (by omega) ((own_below hV2 ((Q.refl Wa).drew).below).alloc _) (by rw[<-hwz];exact Fy Wa.drew r 119);have m0:=hBa.cell 0 rfl;have m1:=hBa.cell 1 rfl;have m2:=hBa.cell 2 rfl;have m3:=hBa.cell 3 rfl;have HBa:=h_ hBa;have HNy:Hid ((Value.slice b2 rs.length c2).ownBlock≠some w.heap.size):=fun e=>by have:=(HY.out.2.1.lt _ e).2;omega
 have HT1:Hid _:=T1;have HV:Hid _:=And.intro hV1 hV2;have HL2:Hid _:=hlt2;have vE:=h_ hWa;have hfa:Wa.frozen? (aD p 1)=false:=by rw[hWa,zMK];exact kP
 have zy:=h_ hfa;rw[hWa]at hV1 m0 m1 m2 m3 hfa HI2;have hS0:(w2.setCell (aD p 0) (.slice x1 (rs.length+1) x2)).drew.cell? (aD w.heap.size 0)=some (sT r.key)/\(w2.setCell (aD p 0) (.slice x1 (rs.length+1) x2)).drew.cell? (aD w.heap.size 1)=some (iT r.stamp)/\(w2.setCell (aD p 0) (.slice x1 (rs.length+1) x2)).drew.cell? (aD w.heap.size 2)=some (iT r.kind)/\(w2.setCell (aD p 0) (.slice x1 (rs.length+1) x2)).drew.cell? (aD w.heap.size 3)=some (sT r.body):=⟨AA m0 (Q.refl _).drew,AA m1 (Q.refl _).drew,AA m2 (Q.refl _).drew,AA m3 (Q.refl _).drew⟩;have zJQ:=AA hV1 (Q.refl _).drew;go_upto_region 5 with fail
 refine wp_region_held_drew (S:=fun w'=>w'.cell? (aD w.heap.size 0)=some (sT r.key)/\w'.cell? (aD w.heap.size 1)=some (iT r.stamp)/\w'.cell? (aD w.heap.size 2)=some (iT r.kind)/\w'.cell? (aD w.heap.size 3)=some (sT r.body)) (by kernel_rfl) hS0 (fun hHeld=>?_);refine q4 0 ?_;refine q4 1 ?_;refine q4 2 ?_;refine q4 3 ?_;refine q4 5 ?_;refine q4 6 ?_;refine wpAnyH_ready (rs:=[4,7]) (by kernel_rfl) (by simp) ?_;refine AllReadyH.cons rfl (fun K hK=>?_) ?_
 .go_simp;refine hK.out _ _ hHeld (fun AO=>?_);have hHeld:=AO
  try simp only[Act.put,nrm]
  refine rd1 7 (fun K hK=>?_);go_simp;refine hK.out _ _ ⟨AA hHeld.1 ((Q.refl _).alloc _ _),AA hHeld.2.1 ((Q.refl _).alloc _ _),AA hHeld.2.2.1 ((Q.refl _).alloc _ _),AA hHeld.2.2.2 ((Q.refl _).alloc _ _)⟩ (fun AO=>?_);have hHeld:=AO
  try simp only[Act.put,nrm]
  refine rd1 8 (fun K hK=>?_);go_simp;apply(HI2.out ()).mono;rintro e w3⟨v2,rfl,t2,t3,t4⟩;have Tt:=ED ((CY (w2.setCell (aD p 0) (.slice x1 (rs.length+1) x2)).drew (.cells #[sT r.key,iT r.stamp,iT r.kind,sT r.body] 119) (Value.slice b2 rs.length c2).ownBlock).trans t3);rw[<-vE.out]at Tt;have T2:=Gd (w:=Wa) (tg:=tg.more w1.heap.size o u) (o:=o) (d:=p) (c:=1) (u:=u+1) (by rw[Tags.AQ Ie.out.top];exact XQ.out.2) (by rw[vE.out];exact zLJ Ie.out.top HT1.out.1.size) HV.out.1 HL2.out Tt t2 (t4.imp id (fun⟨g,h1,h2⟩=>⟨g,h1,by rw[vE.out];simp at h2⊢;omega⟩));obtain⟨x3,x4,rfl⟩:=Ac t2;have hc3:=(T2.2.2.2.2.1 1).trans HV.out.1;have hf3:=(T2.2.2.2.2.2 1).trans zy.out;have hBw:=(HBa.out.grown Tt HNy.out);have HF:Hid (GD tg o p u (rs++[r]) w (w3.setCell (aD p 1) (.slice x3 (rs.length+1) x4))):=by
   (((obtain⟨z1,z2,z3,z4,_⟩:=HT1.out;obtain⟨u1,u2,u3,u4,_⟩:=T2;have e1:Ah (BO (BP rs)) rs.length (iT r.stamp)=BO (BP (rs++[r])):=by unfold Ah;rw[zLP (by simp[BO]),zLf (by simp[BO])];simp[BO,BP]);have e2:AY rs++r.cells=AY (rs++[r]):=by rw[CV,D7]);have e3:(rs++[r]).length=rs.length+1:=by simp);rw[e1]at z3;rw[e2]at u3;rw[vE.out]at u1 u4;exact GD.after (O4 z1 u1 XQ.out Ie.out.top z2 (by rw[e3];exact z3) z4 u2 (by rw[e3];exact u3) u4) Qp.out HM.out.top
  try go_wp2_with fail
  refine hK.out _ _ ⟨hBw.cell 0 rfl,hBw.cell 1 rfl,hBw.cell 2 rfl,hBw.cell 3 rfl⟩ (fun AO=>?_);have hHeld:=AO
  try simp only[Act.put,nrm]
  refine q4 9 ?_;refine q4 10 ?_;have rF:=hBw.other (by omega:w.heap.size≠p) 1 (.slice x3 (rs.length+1) x4);refine rd1 11 (fun K hK=>?_);go_simp;refine hK.out _ _ ⟨rF.cell 0 rfl,rF.cell 1 rfl,rF.cell 2 rfl,rF.cell 3 rfl⟩ (fun AO=>?_);refine wpAnyH_done (by kernel_rfl) ?_ _;go_wp2_with fail;go_end0;exact⟨rfl,HF.out⟩
 refine AllReadyH.cons rfl (fun K hK=>?_) AllReadyH.nil;go_simp;refine hK.out _ _ ⟨AA hHeld.1 ((Q.refl _).alloc _ _),AA hHeld.2.1 ((Q.refl _).alloc _ _),AA hHeld.2.2.1 ((Q.refl _).alloc _ _),AA hHeld.2.2.2 ((Q.refl _).alloc _ _)⟩ (fun AO=>?_);have hHeld:=AO
 try simp only[Act.put,nrm]
 have zJP:=AA hV1 ((Q.refl _).alloc #[sT r.key,iT r.stamp,iT r.kind,sT r.body] 119);refine rd1 4 (fun K hK=>?_);go_simp;refine hK.out _ _ hHeld (fun AO=>?_);have hHeld:=AO
 try simp only[Act.put,nrm]
 refine rd1 8 (fun K hK=>?_);go_simp;apply(HI2.out ()).mono;rintro e w3⟨v2,rfl,t2,t3,t4⟩;have Tt:=ED ((CY (w2.setCell (aD p 0) (.slice x1 (rs.length+1) x2)).drew (.cells #[sT r.key,iT r.stamp,iT r.kind,sT r.body] 119) (Value.slice b2 rs.length c2).ownBlock).trans t3);rw[<-vE.out]at Tt;have T2:=Gd (w:=Wa) (tg:=tg.more w1.heap.size o u) (o:=o) (d:=p) (c:=1) (u:=u+1) (by rw[Tags.AQ Ie.out.top];exact XQ.out.2) (by rw[vE.out];exact zLJ Ie.out.top HT1.out.1.size) HV.out.1 HL2.out Tt t2 (t4.imp id (fun⟨g,h1,h2⟩=>⟨g,h1,by rw[vE.out];simp at h2⊢;omega⟩));obtain⟨x3,x4,rfl⟩:=Ac t2;have hc3:=(T2.2.2.2.2.1 1).trans HV.out.1;have hf3:=(T2.2.2.2.2.2 1).trans zy.out;have hBw:=(HBa.out.grown Tt HNy.out);have HF:Hid (GD tg o p u (rs++[r]) w (w3.setCell (aD p 1) (.slice x3 (rs.length+1) x4))):=by
  obtain⟨z1,z2,z3,z4,_⟩:=HT1.out;obtain⟨u1,u2,u3,u4,_⟩:=T2;have e1:Ah (BO (BP rs)) rs.length (iT r.stamp)=BO (BP (rs++[r])):=by unfold Ah;rw[zLP (by simp[BO]),zLf (by simp[BO])];simp[BO,BP]
  have e2:AY rs++r.cells=AY (rs++[r]):=by rw[CV,D7]
  have e3:(rs++[r]).length=rs.length+1:=by simp
  rw[e1]at z3;rw[e2]at u3;rw[vE.out]at u1 u4;exact GD.after (O4 z1 u1 XQ.out Ie.out.top z2 (by rw[e3];exact z3) z4 u2 (by rw[e3];exact u3) u4) Qp.out HM.out.top
 try go_wp2_with fail
 refine hK.out _ _ ⟨hBw.cell 0 rfl,hBw.cell 1 rfl,hBw.cell 2 rfl,hBw.cell 3 rfl⟩ (fun AO=>?_);have hHeld:=AO
 try simp only[Act.put,nrm]
 refine q4 9 ?_;refine q4 10 ?_;have rF:=hBw.other (by omega:w.heap.size≠p) 1 (.slice x3 (rs.length+1) x4);refine rd1 11 (fun K hK=>?_);go_simp;refine hK.out _ _ ⟨rF.cell 0 rfl,rF.cell 1 rfl,rF.cell 2 rfl,rF.cell 3 rfl⟩ (fun AO=>?_);refine wpAnyH_done (by kernel_rfl) ?_ _;go_wp2_with fail;go_end0;exact⟨rfl,HF.out⟩
structure S.Sto where
 dead:Bool
 wm:Int
 fl:Int
 newest:List (BA×Int)
 pend:List (BA×List Rec)
structure Ag(w:World)(tg:Tags)(o s d:Nat)(X:S.Sto)(ids ps:List Nat):Prop where
 top:s<w.heap.size
 ts:tg s=(o,0)
 fr:∀j,w.frozen? (aD s j)=false
 c0:w.cell? (aD s 0)=some (pT d)
 c1:w.cell? (aD s 1)=some (.bool X.dead)
 c2:w.cell? (aD s 2)=some (iT X.wm)
 c3:w.cell? (aD s 3)=some (iT X.fl)
 nw:Ka w tg o s 4 1 3 (X.newest.map (·.1)) (BO (X.newest.map (·.2)))
 pd:Ka w tg o s 6 3 154 (X.pend.map (·.1)) (CF ps)
 nodup:ids.Nodup
 F9:ids.length=X.pend.length
 inner:∀(i p id:Nat)(kr:BA×List Rec),ps[i]?=some p->ids[i]?=some id->X.pend[i]?=some kr->Si w tg o p (6+3*id) kr.2/\tg p=(o,5+3*id)/\∀j,w.frozen? (aD p j)=false
theorem Ag.keep{w w':World}{tg AU:Tags}{o s d:Nat}{X:S.Sto}{ids ps:List Nat}(h:Ag w tg o s d X ids ps)(hs:w.heap.size<=w'.heap.size)(ht:∀k,k<w.heap.size->AU k=tg k)(hb:∀k,k<w.heap.size->(tg k).1=o->w'.heap[k]?=w.heap[k]?):Ag w' AU o s d X ids ps:=by
 have hd:w'.heap[s]?=w.heap[s]?:=hb s h.top (by rw[h.ts]);have hc:∀j,w'.cell? (aD s j)=w.cell? (aD s j):=fun j=>zMI (a:=(aD s j)) hd;refine⟨zLJ h.top hs,(ht s h.top).trans h.ts,fun j=>(zML (a:=(aD s j)) hd).trans (h.fr j),(hc 0).trans h.c0,(hc 1).trans h.c1,(hc 2).trans h.c2,(hc 3).trans h.c3,
  h.nw.keep hs (fun k hk _=>ht k hk) (hc 4) (hc 5) (fun k hk e=>hb k hk (by rcases e with e|e<;>rw[e])),
  h.pd.keep hs (fun k hk _=>ht k hk) (hc 6) (hc 7) (fun k hk e=>hb k hk (by rcases e with e|e<;>rw[e])),h.nodup,h.F9,fun i p id kr h1 h2 h3=>?_⟩
 obtain⟨g1,g2,g3⟩:=h.inner i p id kr h1 h2 h3;have hp:w'.heap[p]?=w.heap[p]?:=hb p g1.top (by rw[g2]);exact⟨g1.keep hs (fun k hk _=>ht k hk) hp (fun k hk e=>hb k hk (by rcases e with e|e<;>rw[e])),(ht p g1.top).trans g2,fun j=>(zML (a:=(aD p j)) hp).trans (g3 j)⟩
theorem Ag.kept{X:S.Sto}(h:Ag w tg o s d X ids ps)(q:Q w w'):Ag w' tg o s d X ids ps:=
 h.keep q.below.size (fun _ _=>rfl) (fun k hk _=>q.below.block k hk)
theorem Ag.Wj{X Y:S.Sto}(h:Ag w tg o s d X ids ps)(hn:Y.newest=X.newest)(hp:Y.pend=X.pend)(hs:w.heap.size<=w'.heap.size)(hb:∀k,k<w.heap.size->k≠s->w'.heap[k]?=w.heap[k]?)(hc:∀j,4<=j->w'.cell? (aD s j)=w.cell? (aD s j))(hf:∀j,w'.frozen? (aD s j)=w.frozen? (aD s j))(c0:w'.cell? (aD s 0)=some (pT d))(c1:w'.cell? (aD s 1)=some (.bool Y.dead))(c2:w'.cell? (aD s 2)=some (iT Y.wm))(c3:w'.cell? (aD s 3)=some (iT Y.fl)):Ag w' tg o s d Y ids ps:=by
 have hne:∀k u,tg k=(o,u+1)->k≠s:=fun k u e e2=>by rw[e2,h.ts]at e;simp at e
 refine⟨zLJ h.top hs,h.ts,fun j=>(hf j).trans (h.fr j),c0,c1,c2,c3,?_,?_,h.nodup,by rw[hp];exact h.F9,?_⟩
 .rw[hn];exact h.nw.keep hs (fun k _ _=>rfl) (hc 4 (by omega)) (hc 5 (by omega)) (fun k hk e=>hb k hk (by rcases e with e|e<;>exact hne k _ e))
 .rw[hp];exact h.pd.keep hs (fun k _ _=>rfl) (hc 6 (by omega)) (hc 7 (by omega)) (fun k hk e=>hb k hk (by rcases e with e|e<;>exact hne k _ e))
 .rw[hp];intro i p id kr h1 h2 h3;obtain⟨g1,g2,g3⟩:=h.inner i p id kr h1 h2 h3;have e5:5+3*id=(4+3*id)+1:=by omega
  have e6:6+3*id=(5+3*id)+1:=by omega
  have hp':w'.heap[p]?=w.heap[p]?:=hb p g1.top (hne p _ (e5▸g2));exact⟨g1.keep hs (fun k _ _=>rfl) hp' (fun k hk e=>hb k hk (by rcases e with e|e;exact hne k _ (e6▸e);exact hne k _ e)),g2,fun j=>(zML (a:=(aD p j)) hp').trans (g3 j)⟩
theorem Ag.set{X Y:S.Sto}(h:Ag w tg o s d X ids ps)(hn:Y.newest=X.newest)(hp:Y.pend=X.pend)(j:Nat)(v:Value)(hj:j<4)(c0:(w.setCell (aD s j) v).cell? (aD s 0)=some (pT d))(c1:(w.setCell (aD s j) v).cell? (aD s 1)=some (.bool Y.dead))(c2:(w.setCell (aD s j) v).cell? (aD s 2)=some (iT Y.wm))(c3:(w.setCell (aD s j) v).cell? (aD s 3)=some (iT Y.fl)):Ag (w.setCell (aD s j) v) tg o s d Y ids ps:=
 h.Wj hn hp (by simp) (fun k _ hne=>heap_setCell_other w (aD s j) k v (fun e=>hne (by simpa using e)))
  (fun i hi=>zMH _ _ _ _ (by intro e;injection e with _ e2;omega)) (fun i=>zMK _ _ _ _) c0 c1 c2 c3
namespace S
def BX{α:Type}(l:List (BA×α))(k:BA):Option α:=(l.find? fun x=>decide (x.1=k)).map (·.2)
theorem Dt{α:Type}{l:List (BA×α)}(h:BX l k=none):QJ (l.map (·.1)) k=false:=by
 cases hh:QJ (l.map (·.1)) k with
 |false=>rfl
 |true =>
  rw[Cn,List.mem_map]at hh;obtain⟨x,hx,he⟩:=hh;unfold BX at h;rw[Option.map_eq_none_iff,List.find?_eq_none]at h;exact absurd he (by simpa using h x hx)
theorem Cs{α:Type}{l:List (BA×α)}{a:α}(hr:DL (l.map (·.1)))(h:BX l k=some a):QJ (l.map (·.1)) k=true/\l[Et (l.map (·.1)) k]?=some (k,a):=by
 unfold BX at h;rw[Option.map_eq_some_iff]at h;obtain⟨x,hx,rfl⟩:=h;have hm:=List.mem_of_find?_eq_some hx;have he:=List.find?_some hx;simp only[zMF]at he;obtain⟨i,hi⟩:=List.mem_iff_getElem?.1 hm;have hi2:(l.map (·.1))[i]?=some k:=by rw[zLy,hi];simp[he]
 refine⟨Cn.2 (zLR hi2),?_⟩;rw[J7 hr hi2,hi,<-he]
structure Sto.Ok(X:Sto):Prop where
 Qx:DL (X.newest.map (·.1))
 Dn:DL (X.pend.map (·.1))
 Pg:X.newest.length<=1048000
 Ro:X.pend.length<=1048000
 each:∀kr∈X.pend,Up kr.2/\kr.2≠[]/\kr.2.length<=1048000
def Sto.FM(X:Sto)(k:BA)(t:Int):Option Rec:=(BX X.pend k).bind fun rs=>JE rs t
end S
theorem Vz(k:BA)(w:World):Calls Tryz.prog 75 #[sT k] w fun e w'=>e=.returned (.bool (decide (1<=k.size/\k.size<=64)))/\Q w w':=by
 by_cases h1:1<=k.size
 .by_cases h2:k.size<=64
  .have g1:(1:Int)<=(k.size:Int):=by omega
   ((have g2:(k.size:Int)<=64:=by omega);have hd:decide (1<=k.size/\k.size<=64)=true:=by simp[h1,h2]);rw[hd];go_in;go_wp2;go_ret;exact⟨rfl,Q.refl w⟩
  .have g1:(1:Int)<=(k.size:Int):=by omega
   ((have g2:¬(k.size:Int)<=64:=by omega);have hd:decide (1<=k.size/\k.size<=64)=false:=by simp[h1,h2]);rw[hd];go_in;go_wp2;go_ret;exact⟨rfl,Q.refl w⟩
 .have g1:¬(1:Int)<=(k.size:Int):=by omega
  have hd:decide (1<=k.size/\k.size<=64)=false:=by simp[h1]
  rw[hd];go_in;go_wp2;go_ret;exact⟨rfl,Q.refl w⟩
theorem Jd{X:S.Sto}(h:Ag w tg o s d X ids ps)(hX:X.Ok)(k:BA):
  Calls Tryz.prog 63 #[.pointer (some (aD s 4)),sT k] w fun e w'=>e=.returned (.tuple #[iT ((S.BX X.newest k).getD 0),.bool (S.BX X.newest k).isSome])/\Q w w':=by
 refine(zEL tg o s 4 1 (X.newest.map (·.1)) (BO (X.newest.map (·.2))) hX.Qx (by simp;have:=hX.Pg;omega) k (fun i v hv=>?_) w h.nw).mono ?_
 .simp only[BO,zLy,Option.map_eq_some_iff]at hv;obtain⟨n,_,rfl⟩:=hv;exact⟨n,rfl⟩
 .rintro e w'⟨rfl,q⟩;refine⟨?_,q⟩
  cases hl:S.BX X.newest k with
  |none=>rw[S.Dt hl];simp
  |some n =>
   obtain⟨h1,h2⟩:=S.Cs hX.Qx hl;rw[h1];simp[BO,List.getElem?_map,h2]
def zC6(X:S.Sto)(ids ps:List Nat)(k:BA)(e:Ending):Prop:=
 (S.BX X.pend k=none/\e=.returned (.tuple #[.pointer none,.bool false]))
 \/ ∃(i p id:Nat)(rs:List Rec),ps[i]?=some p/\ids[i]?=some id/\X.pend[i]?=some (k,rs)/\S.BX X.pend k=some rs/\e=.returned (.tuple #[pT p,.bool true])
theorem PV{X:S.Sto}(h:Ag w tg o s d X ids ps)(hX:X.Ok)(k:BA):
  Calls Tryz.prog 100 #[.pointer (some (aD s 6)),sT k] w fun e w'=>zC6 X ids ps k e/\Q w w':=by
 refine(zEK tg o s 6 3 (X.pend.map (·.1)) (CF ps) hX.Dn (by simp;have:=hX.Ro;omega) k (fun i v hv=>?_) w h.pd).mono ?_
 .simp only[CF,zLy,Option.map_eq_some_iff]at hv;obtain⟨n,_,rfl⟩:=hv;exact⟨_,rfl⟩
 .rintro e w'⟨rfl,q⟩;refine⟨?_,q⟩
  cases hl:S.BX X.pend k with
  |none=>exact Or.inl ⟨hl,by rw[S.Dt hl];simp⟩
  |some rs =>
   (obtain⟨h1,h2⟩:=S.Cs hX.Dn hl;have hi:=(zLI.1 h2).1;have hlen:ps.length=X.pend.length:=by have:=h.pd.len;simpa[CF]using this);obtain⟨p,hp⟩:∃p,ps[S.Et (X.pend.map (·.1)) k]?=some p:=⟨_,zLH (by rw[hlen];exact hi)⟩;obtain⟨id,hid⟩:∃id,ids[S.Et (X.pend.map (·.1)) k]?=some id:=⟨_,zLH (by rw[h.F9];exact hi)⟩;refine Or.inr ⟨_,p,id,rs,hp,hid,h2,hl,?_⟩;rw[h1];simp[CF,List.getElem?_map,hp]
theorem Lh{X:S.Sto}(h:Ag w tg o s d X ids ps)(hX:X.Ok)(k:BA)(t:Int):
  Calls Tryz.prog 103 #[pT s,sT k,iT t] w fun e w'=>e=.returned (.tuple #[((X.FM k t).getD JS).val,.bool (X.FM k t).isSome])/\Q w w':=by
 have HA:=h_ h;have PG:Hid _:=fun(W:World)(q:Q w W)=>PV (h.kept q) hX k;go_in;go_wp2_with fail;apply(PG.out _ ((Q.refl w).alloc _ _)).mono;rintro e w1⟨hP,q1⟩;have hV:=(AZ w [eS,iT 0,iT 0,eS] 119).kept q1;have q1':=((Q.refl w).alloc _ _).trans q1;rcases hP with⟨hn,rfl⟩|⟨i,p,id,rs,hp,hid,hkr,hl,rfl⟩
 .have hpa:X.FM k t=none:=by simp[S.Sto.FM,hn]
  have HE:=h_ hpa;have b0:=hV.cell 0 rfl;have b1:=hV.cell 1 rfl;have b2:=hV.cell 2 rfl;have b3:=hV.cell 3 rfl;have d0:=hV.free 0 rfl;have d1:=hV.free 1 rfl;have d2:=hV.free 2 rfl;have d3:=hV.free 3 rfl;have hset:=(((hV.set 0 eS).set 1 (iT 0)).set 2 (iT 0)).set 3 eS;have m0:=hset.cell 0 rfl;have m1:=hset.cell 1 rfl;have m2:=hset.cell 2 rfl;have m3:=hset.cell 3 rfl;have hq:=(((q1'.setCell (p:=(aD w.heap.size 0)) (zLK _) eS).setCell (p:=(aD w.heap.size 1)) (zLK _) (iT 0)).setCell (p:=(aD w.heap.size 2)) (zLK _) (iT 0)).setCell (p:=(aD w.heap.size 3)) (zLK _) eS;go_wp2_with fail;refine bodyPost_ret (v:=.tuple #[.agg #[eS,iT 0,iT 0,eS],.bool false]) (by simp[results,Tryz.results103,go_sem,m0,m1,m2,m3]) rfl ?_;exact⟨by rw[HE.out];rfl,hq⟩
 .have hpa:X.FM k t=JE rs t:=by simp[S.Sto.FM,hl]
  obtain⟨g1,g2,g3⟩:=(HA.out.kept q1').inner i p id _ hp hid hkr;obtain⟨k1,k2,k3⟩:=hX.each _ (zLR hkr);have RA:Hid _:=fun(_:Unit)=>vv tg o p (6+3*id) rs k1 (by have:=k3;simp only at this;omega) t w1 g1;rw[<-hpa]at RA;obtain⟨ob,fQ⟩:=xe ((X.FM k t).isSome);obtain⟨r,hr⟩:=xe ((X.FM k t).getD JS);have HE:=h_2 fQ hr;rw[fQ,hr]at RA;unfold Rec.val at RA;go_wp2_with fail;apply(RA.out ()).mono;rintro e w2⟨rfl,q2⟩;replace hV:=hV.kept q2;replace q1':=q1'.trans q2;have b0:=hV.cell 0 rfl;have b1:=hV.cell 1 rfl;have b2:=hV.cell 2 rfl;have b3:=hV.cell 3 rfl;have d0:=hV.free 0 rfl;have d1:=hV.free 1 rfl;have d2:=hV.free 2 rfl;have d3:=hV.free 3 rfl;have hset:=(((hV.set 0 (sT r.key)).set 1 (iT r.stamp)).set 2 (iT r.kind)).set 3 (sT r.body);have m0:=hset.cell 0 rfl;have m1:=hset.cell 1 rfl;have m2:=hset.cell 2 rfl;have m3:=hset.cell 3 rfl;have hq:=(((q1'.setCell (p:=(aD w.heap.size 0)) (zLK _) (sT r.key)).setCell (p:=(aD w.heap.size 1)) (zLK _) (iT r.stamp)).setCell (p:=(aD w.heap.size 2)) (zLK _) (iT r.kind)).setCell (p:=(aD w.heap.size 3)) (zLK _) (sT r.body);go_wp2_with fail;refine bodyPost_ret (v:=.tuple #[.agg #[sT r.key,iT r.stamp,iT r.kind,sT r.body],.bool ob]) (by simp[results,Tryz.results103,go_sem,m0,m1,m2,m3]) rfl ?_;exact⟨by rw[HE.out.1,HE.out.2];rfl,hq⟩
namespace S
def Sto.latest(X:Sto)(k:BA):Int:=
 let a:=match BX X.newest k with|some n=>max X.wm n|none=>X.wm
 match X.FM k 1099511627776 with|some r=>max a r.stamp|none=>a
def Sto.BI(X:Sto):Bool:=decide (X.pend≠[]\/X.wm≠X.fl)
end S
theorem cO{X:S.Sto}(h:Ag w tg o s d X ids ps)(hX:X.Ok)(k:BA):
  Calls Tryz.prog 125 #[pT s,sT k] w fun e w'=>e=.returned (iT (X.latest k))/\Q w w':=by
 have NG:Hid _:=fun(W:World)(q:Q w W)=>Jd (h.kept q) hX k;have PA:Hid _:=fun(W:World)(q:Q w W)=>Lh (h.kept q) hX k 1099511627776;have c2:=h.c2;obtain⟨L,hL⟩:=xe (X.latest k);rw[hL];have HL2:=h_ hL
 cases hn:S.BX X.newest k with
 |none =>
  cases hp:X.FM k 1099511627776 with
  |none =>
   ((rw[hn]at NG;rw[hp]at PA;obtain⟨m,hm⟩:=xe X.wm;have JM:Hid (m=L):=by have:=HL2.out;simp only[S.Sto.latest,hn,hp,hm]at this;exact this);simp only[Option.getD_none,zLo,JS,Rec.val]at NG PA;generalize X.wm=wm at*;subst hm;go_in;go_wp2_with fail;apply(NG.out _ (Q.refl w)).mono;rintro e w1⟨rfl,q1⟩;go_wp2_with fail;apply(PA.out _ q1).mono;rintro e w2⟨rfl,q2⟩;have XI:=q1.trans q2;have hmx:=JM.out;go_wp2;go_ret);first|exact⟨rfl,XI.alloc _ _⟩|exact⟨by rw[JM.out],XI.alloc _ _⟩
  |some r =>
   ((rw[hn]at NG;rw[hp]at PA;obtain⟨m,hm⟩:=xe X.wm;have JM:Hid (max m r.stamp=L):=by have:=HL2.out;simp only[S.Sto.latest,hn,hp,hm]at this;exact this);simp only[Option.getD_none,zLo,zLT,zLX,Rec.val]at NG PA;generalize X.wm=wm at*;subst hm;go_in;go_wp2_with fail;apply(NG.out _ (Q.refl w)).mono;rintro e w1⟨rfl,q1⟩;go_wp2_with fail;apply(PA.out _ q1).mono;rintro e w2⟨rfl,q2⟩;have XI:=q1.trans q2;have hmx:=JM.out;go_wp2;go_ret);first|exact⟨rfl,XI.alloc _ _⟩|exact⟨by rw[JM.out],XI.alloc _ _⟩
 |some n =>
  cases hp:X.FM k 1099511627776 with
  |none =>
   ((rw[hn]at NG;rw[hp]at PA;obtain⟨m,hm⟩:=xe (max X.wm n);have JM:Hid (m=L):=by have:=HL2.out;simp only[S.Sto.latest,hn,hp,hm]at this;exact this);simp only[Option.getD_none,zLo,zLT,zLX,JS,Rec.val]at NG PA;generalize X.wm=wm at*;have hm2:=hm;go_in;go_wp2_with fail;apply(NG.out _ (Q.refl w)).mono;rintro e w1⟨rfl,q1⟩;go_wp2_with fail;apply(PA.out _ q1).mono;rintro e w2⟨rfl,q2⟩;have XI:=q1.trans q2;have hmx:=JM.out;go_wp2;go_ret);first|exact⟨rfl,XI.alloc _ _⟩|exact⟨by rw[JM.out],XI.alloc _ _⟩
  |some r =>
   ((rw[hn]at NG;rw[hp]at PA;obtain⟨m,hm⟩:=xe (max X.wm n);have JM:Hid (max m r.stamp=L):=by have:=HL2.out;simp only[S.Sto.latest,hn,hp,hm]at this;exact this);simp only[zLT,zLX,Rec.val]at NG PA;generalize X.wm=wm at*;have hm2:=hm;go_in;go_wp2_with fail;apply(NG.out _ (Q.refl w)).mono;rintro e w1⟨rfl,q1⟩;go_wp2_with fail;apply(PA.out _ q1).mono;rintro e w2⟨rfl,q2⟩;have XI:=q1.trans q2;have hmx:=JM.out;go_wp2;go_ret);first|exact⟨rfl,XI.alloc _ _⟩|exact⟨by rw[JM.out],XI.alloc _ _⟩
theorem zIX{X:S.Sto}(h:Ag w tg o s d X ids ps):
  Calls Tryz.prog 105 #[.pointer (some (aD s 6))] w fun e w'=>e=.returned (iT (X.pend.length:Int))/\Q w w':=by
 obtain⟨ao,cap,h1,_⟩:=h.pd.keys;rw[zM2]at h1;go_in;go_wp2;go_ret;exact⟨rfl,Q.refl w⟩
theorem GN{X:S.Sto}(h:Ag w tg o s d X ids ps):
  Calls Tryz.prog 79 #[pT s] w fun e w'=>e=.returned (.bool X.BI)/\Q w w':=by
 have LM:Hid _:=fun(W:World)(q:Q w W)=>zIX (h.kept q);have c2:=h.c2;have c3:=h.c3;obtain⟨n,hn⟩:=xe X.pend.length;have HR:Hid (X.BI=decide (0<n\/X.wm≠X.fl)):=by
  refine decide_eq_decide.2 (or_congr ?_ Iff.rfl);rw[<-hn,List.length_pos_iff]
 rw[hn]at LM;obtain⟨bb,hbb⟩:=xe X.BI;rw[hbb];rw[hbb]at HR;generalize X.wm=wm at*;generalize X.fl=fl at*;by_cases h0:0<n
 .have h0I:(0:Int)<(n:Int):=by omega
  go_in;go_upto_region 1 with fail
  refine wp_region_held_drew (S:=fun w'=>w'.cell? (aD s 2)=some (iT wm)/\w'.cell? (aD s 3)=some (iT fl)) (by kernel_rfl) ⟨AA c2 (Q.refl w).drew,AA c3 (Q.refl w).drew⟩ (fun hHeld=>?_);refine q4 0 ?_;refine q4 1 ?_;refine q4 2 ?_;refine rd1 3 (fun K hK=>?_);go_simp;apply(LM.out _ (Q.refl w).drew).mono;rintro e v1⟨rfl,q1⟩
  try go_wp2_with fail
  refine hK.out _ _ ⟨AA c2 ((Q.refl w).drew.trans q1),AA c3 ((Q.refl w).drew.trans q1)⟩ (fun AO=>?_);have hHeld:=AO
  try simp only[Act.put,nrm]
  refine q4 4 ?_;refine q4 5 ?_;refine q5 6 ?_;refine q5 7 ?_;refine q5 8 ?_;refine q5 9 ?_;refine q5 10 ?_;refine q5 11 ?_;refine q5 12 ?_;refine q5 13 ?_;refine q5 14 ?_;refine q4 15 ?_;refine q4 16 ?_;refine wpAnyH_done (by kernel_rfl) ?_ _;have HT:bb=true:=by rw[HR.out];simp[h0]
  subst HT;go_wp2;go_ret;exact⟨rfl,(Q.refl w).drew.trans q1⟩
 .have h0I:¬(0:Int)<(n:Int):=by omega
  go_in;go_upto_region 1 with fail
  go_region_held3 (fun w'=>w'.cell? (aD s 2)=some (iT wm)/\w'.cell? (aD s 3)=some (iT fl))
   (first|exact⟨c2,c3⟩|exact hS5)
   (first|(go_at_call 105;apply(LM.out _ (Q.refl w).drew).mono;rintro e v3⟨rfl,q3⟩;have q4:Q w v3:=(Q.refl w).drew.trans q3;have hS5:v3.cell? (aD s 2)=some (iT wm)/\v3.cell? (aD s 3)=some (iT fl):=⟨AA c2 q4,AA c3 q4⟩))
  have HT:bb=(wm != fl):=by
   rw[HR.out]
   cases hwf:(wm != fl)with
   |true=>simp at hwf;simp[hwf]
   |false=>simp at hwf;simp[hwf];omega
  subst HT;go_wp2;go_ret;exact⟨rfl,q4⟩
theorem pO{X:S.Sto}(h:Ag w tg o s d X ids ps)(e0:Int):
  Calls Tryz.prog 77 #[pT s,iT e0] w fun e w'=>e=.returned (.tuple #[])/\Ag w' tg o s d (if e0=10 then{ X with dead:=true }else X) ids ps/\Only o tg w w'/\w'.heap.size=w.heap.size:=by
 by_cases he:e0=10
 .subst he;rw[if_pos rfl];have c0:=h.c0;have c1:=h.c1;have c2:=h.c2;have c3:=h.c3;have f1:=h.fr 1;have hne:∀i j,i≠j->((aD s i):Addr)≠(aD s j):=fun i j hij e=>by injection e with _ e2;exact hij e2
  have hS:Ag (w.setCell (aD s 1) (.bool true)) tg o s d { X with dead:=true } ids ps:=
   h.set (Y:={ X with dead:=true }) rfl rfl 1 _ (by omega) ((zMH _ _ _ _ (hne _ _ (by omega))).trans c0) (zMJ _ _ _ c1) ((zMH _ _ _ _ (hne _ _ (by omega))).trans c2) ((zMH _ _ _ _ (hne _ _ (by omega))).trans c3)
  have HO:Hid (Only o tg w (w.setCell (aD s 1) (.bool true))):=Fj (Only.refl o tg w) (fun k _ e=>by rw[e,h.ts]) 1 _;have HS:=h_ hS;go_in;go_wp2_with fail;go_end0;exact⟨rfl,HS.out,HO.out,by simp⟩
 .rw[if_neg he];have HA:=h_ h;have heb:(e0==10)=false:=by rw[zM9];exact he
  go_in;go_wp2_with fail;go_end0;exact⟨rfl,HA.out,Only.refl o tg w,rfl⟩
def S.Sto.raising(X:S.Sto)(t:Int):Int:=if X.dead=true then 10 else if t<X.wm\/1099511627776<t then 12 else 0
theorem ig{X:S.Sto}(h:Ag w tg o s d X ids ps)(t:Int):
  Calls Tryz.prog 51 #[pT s,iT t] w fun e w'=>e=.returned (iT (X.raising t))/\Ag w' tg o s d (if X.raising t=0 then{ X with wm:=t }else X) ids ps/\Only o tg w w'/\w'.heap.size=w.heap.size:=by
 have HA:=h_ h;have c0:=h.c0;have c1:=h.c1;have c2:=h.c2;have c3:=h.c3;have f2:=h.fr 2;have hts:=h.ts
 cases hd:X.dead with
 |true =>
  have hr:X.raising t=10:=by simp[S.Sto.raising,hd]
  rw[hr,if_neg (by omega)];rw[hd]at c1;go_in;go_wp2;go_ret;exact⟨rfl,HA.out,Only.refl o tg w,rfl⟩
 |false =>
  by_cases h1:t<X.wm
  .have hr:X.raising t=12:=by simp[S.Sto.raising,hd,h1]
   rw[hr,if_neg (by omega)];rw[hd]at c1;go_in;go_wp2;go_ret;exact⟨rfl,HA.out,Only.refl o tg w,rfl⟩
  .by_cases h2:1099511627776<t
   ·(have hr:X.raising t=12:=by simp[S.Sto.raising,hd,h2]);rw[hr,if_neg (by omega)];rw[hd]at c1;go_in;go_wp2;go_ret;exact⟨rfl,HA.out,Only.refl o tg w,rfl⟩
   ·(have hr:X.raising t=0:=by simp[S.Sto.raising,hd,h1,h2]);rw[hr,if_pos rfl];have hne:∀i j,i≠j->((aD s i):Addr)≠(aD s j):=fun i j hij e=>by injection e with _ e2;exact hij e2
    have HS:Hid (Ag (w.setCell (aD s 2) (iT t)) tg o s d { X with wm:=t } ids ps):=
     h.set (Y:={ X with wm:=t }) rfl rfl 2 _ (by omega) ((zMH _ _ _ _ (hne _ _ (by omega))).trans c0) ((zMH _ _ _ _ (hne _ _ (by omega))).trans c1) (zMJ _ _ _ c2) ((zMH _ _ _ _ (hne _ _ (by omega))).trans c3)
    have HO:Hid (Only o tg w (w.setCell (aD s 2) (iT t))):=Fj (Only.refl o tg w) (fun k _ e=>by rw[e,hts]) 2 _;rw[hd]at c1 HS;go_in;go_wp2;go_ret;exact⟨rfl,HS.out,HO.out,by simp⟩
def S.Sto.adding(X:S.Sto)(r:Rec):Int:=
 if X.dead=true then 10 else if¬(1<=r.key.size/\r.key.size<=64)then 11 else if 4096<r.body.size then 4 else if 1099511627776<r.stamp\/r.stamp<=X.latest r.key then 12 else 0
theorem fF{X:S.Sto}(h:Ag w tg o s d X ids ps)(hX:X.Ok)(r:Rec):
  Calls Tryz.prog 99 #[pT s,r.val] w fun e w'=>e=.returned (iT (X.adding r))/\Q w w':=by
 have c1:=h.c1;have IK:Hid _:=fun(W:World)=>Vz r.key W;have LA:Hid _:=fun(W:World)(q:Q w W)=>cO (h.kept q) hX r.key;obtain⟨L,hL⟩:=xe (X.latest r.key);rw[hL]at LA;have k1:=AA c1 ((Q.refl w).alloc #[sT r.key,iT r.stamp,iT r.kind,sT r.body] 119);unfold Rec.val;by_cases hd:X.dead=true
 .have hr:X.adding r=10:=by simp[S.Sto.adding,hd]
  rw[hr];rw[hd]at k1;go_in;go_wp2;go_ret;exact⟨rfl,(Q.refl w).alloc _ _⟩
 .have hd':X.dead=false:=by simpa using hd
  rw[hd']at k1;have E1:X.adding r=if¬(1<=r.key.size/\r.key.size<=64)then 11 else if 4096<r.body.size then 4 else if 1099511627776<r.stamp\/r.stamp<=L then 12 else 0:=by simp[S.Sto.adding,hd',hL]
  by_cases hk:1<=r.key.size/\r.key.size<=64
  .rw[if_neg (by simpa using hk)]at E1;have hk2:decide (1<=r.key.size/\r.key.size<=64)=true:=by simpa using hk
   rw[hk2]at IK;by_cases hb:4096<r.body.size
   ·(rw[if_pos hb]at E1;rw[E1];have hbI:(4096:Int)<(r.body.size:Int):=by omega);go_in;go_wp2_with fail;apply(IK.out _).mono;rintro e w2⟨rfl,q2⟩;have hV:=(AZ w [sT r.key,iT r.stamp,iT r.kind,sT r.body] 119).kept q2;have q2':Q w w2:=((Q.refl w).alloc _ _).trans q2;have b0:=hV.cell 0 rfl;have b1:=hV.cell 1 rfl;have b3:=hV.cell 3 rfl;go_wp2;go_ret;exact⟨rfl,q2'⟩
   ·(rw[if_neg hb]at E1;have hbI:¬(4096:Int)<(r.body.size:Int):=by omega);by_cases h1:1099511627776<r.stamp
    ·(rw[if_pos (Or.inl h1)]at E1;rw[E1];go_in;go_wp2_with fail;apply(IK.out _).mono;rintro e w2⟨rfl,q2⟩;have hV:=(AZ w [sT r.key,iT r.stamp,iT r.kind,sT r.body] 119).kept q2;have q2':Q w w2:=((Q.refl w).alloc _ _).trans q2;have b0:=hV.cell 0 rfl;have b1:=hV.cell 1 rfl;have b3:=hV.cell 3 rfl;go_upto_region 7 with fail);refine wp_region_held_drew (S:=fun w'=>w'.cell? (aD w.heap.size 0)=some (sT r.key)/\w'.cell? (aD w.heap.size 1)=some (iT r.stamp)) (by kernel_rfl) ⟨AA b0 (Q.refl w2).drew,AA b1 (Q.refl w2).drew⟩ (fun hHeld=>?_);refine q4 0 ?_;refine q4 1 ?_;refine q4 2 ?_;refine q4 3 ?_;refine q5 4 ?_;refine q5 5 ?_;refine q5 6 ?_;refine q5 7 ?_;refine q5 8 ?_;refine q5 9 ?_;refine q5 10 ?_;refine q4 11 ?_;refine q4 12 ?_;refine wpAnyH_done (by kernel_rfl) ?_ _;go_wp2;go_ret;exact⟨rfl,q2'.drew⟩
    ·((have e1:decide (1099511627776<r.stamp)=false:=by simpa using h1);have h1':r.stamp<=1099511627776:=by omega);by_cases h2:r.stamp<=L
     .rw[if_pos (Or.inr h2)]at E1;rw[E1];go_in;go_wp2_with fail;apply(IK.out _).mono;rintro e w2⟨rfl,q2⟩;have hV:=(AZ w [sT r.key,iT r.stamp,iT r.kind,sT r.body] 119).kept q2;have q2':Q w w2:=((Q.refl w).alloc _ _).trans q2;have b0:=hV.cell 0 rfl;have b1:=hV.cell 1 rfl;have b3:=hV.cell 3 rfl;go_upto_region 7 with fail
      go_region_held3 (fun w'=>w'.cell? (aD w.heap.size 0)=some (sT r.key)/\w'.cell? (aD w.heap.size 1)=some (iT r.stamp))
       (first|exact⟨b0,b1⟩|exact hS5)
       (first|(go_at_call 125;apply(LA.out _ q2'.drew).mono;rintro e v3⟨rfl,q3⟩;have q4:Q w2 v3:=(Q.refl w2).drew.trans q3;have hS5:v3.cell? (aD w.heap.size 0)=some (sT r.key)/\v3.cell? (aD w.heap.size 1)=some (iT r.stamp):=⟨AA b0 q4,AA b1 q4⟩))
      have q5:=q2'.trans q4;go_wp2;go_ret;exact⟨rfl,q5⟩
     .rw[if_neg (by simp[h1,h2])]at E1;rw[E1];go_in;go_wp2_with fail;apply(IK.out _).mono;rintro e w2⟨rfl,q2⟩;have hV:=(AZ w [sT r.key,iT r.stamp,iT r.kind,sT r.body] 119).kept q2;have q2':Q w w2:=((Q.refl w).alloc _ _).trans q2;have b0:=hV.cell 0 rfl;have b1:=hV.cell 1 rfl;have b3:=hV.cell 3 rfl;go_upto_region 7 with fail
      go_region_held3 (fun w'=>w'.cell? (aD w.heap.size 0)=some (sT r.key)/\w'.cell? (aD w.heap.size 1)=some (iT r.stamp))
       (first|exact⟨b0,b1⟩|exact hS5)
       (first|(go_at_call 125;apply(LA.out _ q2'.drew).mono;rintro e v3⟨rfl,q3⟩;have q4:Q w2 v3:=(Q.refl w2).drew.trans q3;have hS5:v3.cell? (aD w.heap.size 0)=some (sT r.key)/\v3.cell? (aD w.heap.size 1)=some (iT r.stamp):=⟨AA b0 q4,AA b1 q4⟩))
      have q5:=q2'.trans q4;go_wp2;go_ret;exact⟨rfl,q5⟩
  .rw[if_pos hk]at E1;have hk2:decide (1<=r.key.size/\r.key.size<=64)=false:=by simpa using hk
   rw[hk2]at IK;rw[E1];go_in;go_wp2_with fail;apply(IK.out _).mono;rintro e w2⟨rfl,q2⟩;have hV:=(AZ w [sT r.key,iT r.stamp,iT r.kind,sT r.body] 119).kept q2;have q2':Q w w2:=((Q.refl w).alloc _ _).trans q2;have b0:=hV.cell 0 rfl;have b1:=hV.cell 1 rfl;have b3:=hV.cell 3 rfl;go_wp2;go_ret;exact⟨rfl,q2'⟩
theorem Ag.Uz{X:S.Sto}(h:Ag w tg o s d X ids ps){id:Nat}{rs':List Rec}(hp:ps[i]?=some p)(hid:ids[i]?=some id)(hk:X.pend[i]?=some (k,rs))(hN:GD tg o p (6+3*id) rs' w w'):∃AU:Tags,(∀j,j<w.heap.size->AU j=tg j)/\Ag w' AU o s d { X with pend:=X.pend.set i (k,rs')} ids ps/\Only o tg w w':=by
 obtain⟨AU,ht,hM,hO⟩:=hN;obtain⟨g1,g2,g3⟩:=h.inner i p id _ hp hid hk;have hpt:∀b u,tg b=(o,u)->u<5->b<w.heap.size->w'.heap[b]?=w.heap[b]?:=fun b u hb hu hl =>
  hO.block b hl (fun e=>by rw[e,g2]at hb;injection hb with _ hb;omega) (fun e=>by rw[hb]at e;injection e with _ e;omega) (fun e=>by rw[hb]at e;injection e with _ e;omega)
 have hsb:=hpt s 0 h.ts (by omega) h.top;have hc:∀j,w'.cell? (aD s j)=w.cell? (aD s j):=fun j=>zMI (a:=(aD s j)) hsb;have hkeys:(X.pend.set i (k,rs')).map (·.1)=X.pend.map (·.1):=by
  rw[List.map_set];refine List.ext_getElem? fun j=>?_;rw[List.getElem?_set];by_cases hij:i=j
  .subst hij;have hl:=(zLI.1 hk).1;rw[zLy,hk];simp[hl]
  .simp[hij]
 refine⟨AU,ht,⟨zLJ h.top hO.size,(ht s h.top).trans h.ts,fun j=>(zML (a:=(aD s j)) hsb).trans (h.fr j),(hc 0).trans h.c0,(hc 1).trans h.c1,(hc 2).trans h.c2,(hc 3).trans h.c3,?_,?_,h.nodup,?_,?_⟩,?_⟩
 .exact h.nw.keep hO.size (fun b hb _=>ht b hb) (hc 4) (hc 5) (fun b hb e=>by rcases e with e|e;exact hpt b _ e (by omega) hb;exact hpt b _ e (by omega) hb)
 .show Ka w' AU o s 6 3 _ ((X.pend.set i (k,rs')).map (·.1)) _
  rw[hkeys];exact h.pd.keep hO.size (fun b hb _=>ht b hb) (hc 6) (hc 7) (fun b hb e=>by rcases e with e|e;exact hpt b _ e (by omega) hb;exact hpt b _ e (by omega) hb)
 .show ids.length=(X.pend.set i (k,rs')).length
  rw[List.length_set];exact h.F9
 .intro j p2 id2 kr h1 h2 h3;by_cases hij:i=j
  .subst hij;rw[hp]at h1;rw[hid]at h2;injection h1 with h1;injection h2 with h2;subst h1 h2;have h3':(X.pend.set i (k,rs'))[i]?=some kr:=h3;rw[List.getElem?_set_self (zLI.1 hk).1]at h3';injection h3' with h3';subst h3';exact⟨hM,(ht p g1.top).trans g2,fun b=>(hO.fr b).trans (g3 b)⟩
  .have h3':(X.pend.set i (k,rs'))[j]?=some kr:=h3;rw[List.getElem?_set_ne hij]at h3';obtain⟨f1,f2,f3⟩:=h.inner j p2 id2 kr h1 h2 h3';have hne:id2≠id:=fun e=>by
    subst e;have hi:=(zLI.1 hid);have hj:=(zLI.1 h2);exact hij ((List.getElem_inj h.nodup).1 (hi.2.trans hj.2.symm))
   have hoth:∀b u,tg b=(o,u)->(u=5+3*id2\/u=6+3*id2\/u=7+3*id2)->b<w.heap.size->w'.heap[b]?=w.heap[b]?:=fun b u hb hu hl =>
    hO.block b hl (fun e=>by rw[e,g2]at hb;injection hb with _ hb;omega) (fun e=>by rw[hb]at e;injection e with _ e;omega) (fun e=>by rw[hb]at e;injection e with _ e;omega)
   have hp2:=hoth p2 _ f2 (by omega) f1.top;exact⟨f1.keep hO.size (fun b hb _=>ht b hb) hp2 (fun b hb e=>by rcases e with e|e;exact hoth b _ e (by omega) hb;exact hoth b _ e (by omega) hb),(ht p2 f1.top).trans f2,fun b=>(zML (a:=(aD p2 b)) hp2).trans (f3 b)⟩
 .exact⟨hO.os,hO.tape,hO.output,hO.size,fun b hb hn=>hO.block b hb (fun e=>by rw[e,g2]at hn;exact hn rfl) (fun e=>by rw[e]at hn;exact hn rfl) (fun e=>by rw[e]at hn;exact hn rfl)⟩
theorem Pm{α β:Type}(f:α->β)(l:List α)(j:Nat)(x:α):(Ah l j x).map f=Ah (l.map f) j (f x):=by
 simp[Ah,List.map_take,List.map_drop]
def Du(ids:List Nat):Nat:=ids.foldr (fun a b=>max (a+1) b) 0
theorem R7:∀{ids:List Nat}{a:Nat},a∈ids->a<Du ids
 |b::l,a,h=>by
  have ih:=@R7 l a;simp only[Du,List.foldr_cons]at*;rcases zME.1 h with e|e
  .omega
  .have:=ih e;omega
theorem Ag.pK{X:S.Sto}(h:Ag w tg o s d X ids ps){t:TypeId}(j:Nat)(hj:j<=X.pend.length)(hN:Fe (tg.more w.heap.size o (5+3*Du ids)) o s 6 3 154 (Ah (X.pend.map (·.1)) j k) (Ah (CF ps) j (pT w.heap.size)) (w.alloc (.cells #[nS,nS] t)) w'):
  ∃AU:Tags,(∀b,b<w.heap.size->AU b=tg b)/\Ag w' AU o s d { X with pend:=Ah X.pend j (k,[])} (Ah ids j (Du ids)) (Ah ps j w.heap.size)/\Only o tg w w':=by
 obtain⟨AU,ht,hM,hO⟩:=hN;have hsz:(w.alloc (.cells #[nS,nS] t)).heap.size=w.heap.size+1:=by simp
 have q0:Q w (w.alloc (.cells #[nS,nS] t)):=(Q.refl w).alloc _ _;have h':=h.kept q0;have ht0:∀b,b<w.heap.size->AU b=tg b:=fun b hb=>(ht b (by omega)).trans (Tags.AQ hb);have htn:AU w.heap.size=(o,5+3*Du ids):=(ht w.heap.size (by omega)).trans (Tags.Ay (zLK _));have hsn:s≠w.heap.size:=Nat.ne_of_lt h.top;have hblk:∀b u,b<w.heap.size->tg b=(o,u)->b≠s->u≠3->u≠4->w'.heap[b]?=w.heap[b]?:=fun b u hb e hbs h3 h4 =>
  (hO.block b (by omega) hbs (fun e2=>by rw[Tags.AQ hb,e]at e2;injection e2 with _ e2;exact h3 e2) (fun e2=>by rw[Tags.AQ hb,e]at e2;injection e2 with _ e2;exact h4 e2)).trans (q0.below.block b hb)
 have hsu:∀b u,tg b=(o,u+1)->b≠s:=fun b u e e2=>by rw[e2,h.ts]at e;simp at e
 have hc:∀i,i≠6->i≠7->w'.cell? (aD s i)=w.cell? (aD s i):=fun i h6 h7=>(hO.cell i h6 h7).trans (q0.below.cell (p:=(aD s i)) h.top);have hle:w.heap.size<=w'.heap.size:=by have:=hO.size;omega
 have hlp:ps.length=X.pend.length:=by have:=h.pd.len;simpa[CF]using this
 have hnew:w'.heap[w.heap.size]?=(w.alloc (.cells #[nS,nS] t)).heap[w.heap.size]?:=
  hO.block w.heap.size (by omega) (fun e=>hsn e.symm) (fun e=>by rw[Tags.Ay (zLK _)]at e;injection e with _ e;omega) (fun e=>by rw[Tags.Ay (zLK _)]at e;injection e with _ e;omega)
 have RB:=AZ w [nS,nS] t;refine⟨AU,ht0,⟨by have:=h.top;omega,(ht0 s h.top).trans h.ts,fun i=>(hO.fr i).trans (h'.fr i),(hc 0 (by omega) (by omega)).trans h.c0,(hc 1 (by omega) (by omega)).trans h.c1,(hc 2 (by omega) (by omega)).trans h.c2,(hc 3 (by omega) (by omega)).trans h.c3,?_,?_,?_,?_,?_⟩,?_⟩
 .exact h.nw.keep hle (fun b hb _=>ht0 b hb) (hc 4 (by omega) (by omega)) (hc 5 (by omega) (by omega)) (fun b hb e=>by
   rcases e with e|e
   .exact hblk b _ hb e (hsu b _ e) (by omega) (by omega)
   .exact hblk b _ hb e (hsu b _ e) (by omega) (by omega))
 .show Ka w' AU o s 6 3 _ ((Ah X.pend j (k,[])).map (·.1)) (CF (Ah ps j w.heap.size))
  have e1:(Ah X.pend j (k,([]:List Rec))).map (·.1)=Ah (X.pend.map (·.1)) j k:=Pm (fun x:BA×List Rec=>x.1) _ _ _;have e2:CF (Ah ps j w.heap.size)=Ah (CF ps) j (pT w.heap.size):=Pm _ _ _ _;rw[e1,e2];exact hM
 .exact P7 h.nodup (fun hm=>absurd (R7 hm) (zLg _))
 .show(Ah ids j (Du ids)).length=(Ah X.pend j (k,[])).length
  rw[CX (by rw[h.F9];exact hj),CX hj,h.F9]
 .intro i p id kr h1 h2 h3;have h3':(Ah X.pend j (k,([]:List Rec)))[i]?=some kr:=h3;rcases F4 (by rw[hlp];exact hj) h1 with⟨e,rfl⟩|⟨hne,h1⟩
  .subst e;rw[EM (by rw[h.F9];exact hj)]at h2;rw[EM hj]at h3';injection h2 with h2;injection h3' with h3';subst h2 h3';refine⟨Si.empty (by have:=hO.size;omega) ?_ ?_,htn,fun i=>?_⟩
   .exact(zMI (a:=(aD w.heap.size 0)) hnew).trans (RB.cell 0 rfl)
   .exact(zMI (a:=(aD w.heap.size 1)) hnew).trans (RB.cell 1 rfl)
   .refine(zML (a:=(aD w.heap.size i)) hnew).trans ?_;exact World.frozen?_alloc_new w _ _ i
  .rcases F4 (by rw[h.F9];exact hj) h2 with⟨e,_⟩|⟨_,h2⟩
   .exact absurd e hne
   rcases F4 hj h3' with⟨e,_⟩|⟨_,h3'⟩
   .exact absurd e hne
   obtain⟨f1,f2,f3⟩:=h.inner _ p id kr h1 h2 h3';have hb:∀b u,b<w.heap.size->tg b=(o,u)->5<=u->w'.heap[b]?=w.heap[b]?:=fun b u hl e hu=>hblk b u hl e (fun e2=>by rw[e2,h.ts]at e;injection e with _ e;omega) (by omega) (by omega);have hp2:=hb p _ f1.top f2 (by omega);exact⟨f1.keep hle (fun b hb' _=>ht0 b hb') hp2 (fun b hb' e=>by rcases e with e|e;exact hb b _ hb' e (by omega);exact hb b _ hb' e (by omega)),(ht0 p f1.top).trans f2,fun b=>(zML (a:=(aD p b)) hp2).trans (f3 b)⟩
 .exact⟨hO.os.trans q0.below.os,hO.tape.trans q0.below.tape,hO.output.trans q0.below.output,hle,fun b hb hn=>(hO.block b (by omega) (fun e=>by rw[e,h.ts]at hn;exact hn rfl) (fun e=>by rw[Tags.AQ hb]at e;rw[e]at hn;exact hn rfl) (fun e=>by rw[Tags.AQ hb]at e;rw[e]at hn;exact hn rfl)).trans (q0.below.block b hb)⟩
def S.Sto.put(X:S.Sto)(r:Rec):S.Sto:=
 { X with pend:=match S.BX X.pend r.key with
  |some rs=>X.pend.set (S.Et (X.pend.map (·.1)) r.key) (r.key,rs++[r])
  |none=>Ah X.pend (S.Et (X.pend.map (·.1)) r.key) (r.key,[r])}
theorem Only.join{a b c:World}(h:Only o tg a b)(k:Only o AU b c)(ht:∀i,i<a.heap.size->AU i=tg i):Only o tg a c:=
 ⟨k.os.trans h.os,k.tape.trans h.tape,k.output.trans h.output,zLV h.size k.size,fun i hi hn=>(k.block i (zLJ hi h.size) (by rw[ht i hi];exact hn)).trans (h.block i hi hn)⟩
theorem Ca.of_block{b:Nat}{l:List Value}(h:Ca w b l)(hb:w'.heap[b]?=w.heap[b]?)(hs:w.heap.size<=w'.heap.size):Ca w' b l:=
 ⟨zLJ h.1 hs,fun i v hv=>⟨(zMI (a:=(aD b i)) hb).trans (h.2 i v hv).1,(zML (a:=(aD b i)) hb).trans (h.2 i v hv).2⟩⟩
theorem ZK{X:S.Sto}(h:Ag w tg o s d X ids ps)(hX:X.Ok)(k:BA)(hk:S.BX X.pend k=none)(t:TypeId):
  Calls Tryz.prog 101 #[.pointer (some (aD s 6)),sT k,pT w.heap.size] (w.alloc (.cells #[nS,nS] t)) fun e w'=>e=.returned (.tuple #[]) /\
   ∃AU:Tags,(∀b,b<w.heap.size->AU b=tg b)/\Ag w' AU o s d { X with pend:=Ah X.pend (S.Et (X.pend.map (·.1)) k) (k,[])} (Ah ids (S.Et (X.pend.map (·.1)) k) (Du ids)) (Ah ps (S.Et (X.pend.map (·.1)) k) w.heap.size)/\Only o tg w w':=by
 have h':=h.kept ((Q.refl w).alloc #[nS,nS] t);have hlow:=S.Je (X.pend.map (·.1)) k;rw[zM2]at hlow;refine(zEJ (tg.more w.heap.size o (5+3*Du ids)) o s 6 3 (X.pend.map (·.1)) (CF ps) hX.Dn (by simp;have:=hX.Ro;omega) k w.heap.size (S.Dt hk) (Kn ps) _ ?_ ?_ ⟨h'.fr 6,h'.fr 7⟩).mono ?_
 .have q0:Q w (w.alloc (.cells #[nS,nS] t)):=(Q.refl w).alloc _ _;exact h.pd.keep q0.below.size (fun b hb _=>Tags.AQ hb) (q0.below.cell (p:=(aD s 6)) h.top) (q0.below.cell (p:=(aD s 7)) h.top) (fun b hb _=>q0.below.block b hb)
 .rw[Tags.AQ h.top,h.ts];simp
 .rintro e w'⟨rfl,hN⟩;exact⟨rfl,h.pK _ hlow hN⟩
theorem VY{X:S.Sto}(h:Ag w tg o s d X ids ps)(hX:X.Ok)(k:BA)(hn:S.BX X.pend k=none):
  Calls Tryz.prog 100 #[.pointer (some (aD s 6)),sT k] w fun e w'=>e=.returned (.tuple #[.pointer none,.bool false])/\Q w w':=by
 apply(PV h hX k).mono;rintro e w'⟨hP,q⟩;rcases hP with⟨_,e1⟩|⟨i,p,id,rs,_,_,_,hl,_⟩
 .exact⟨e1,q⟩
 .rw[hn]at hl;cases hl
theorem VX{X:S.Sto}(h:Ag w tg o s d X ids ps)(hX:X.Ok)(k:BA)(hp:ps[i]?=some p)(hkr:X.pend[i]?=some (k,rs)):
  Calls Tryz.prog 100 #[.pointer (some (aD s 6)),sT k] w fun e w'=>e=.returned (.tuple #[pT p,.bool true])/\Q w w':=by
 apply(PV h hX k).mono;rintro e w'⟨hP,q⟩;have hi:S.Et (X.pend.map (·.1)) k=i:=S.J7 hX.Dn (by rw[zLy,hkr];rfl);rcases hP with⟨hn,_⟩|⟨i',p',id,rs',hp',_,zEh,_,e1⟩
 .have h1:=S.Dt hn;have h2:S.QJ (X.pend.map (·.1)) k=true:=S.Cn.2 (List.mem_map.2 ⟨_,zLR hkr,rfl⟩);rw[h1]at h2
  cases h2
 .have hi':S.Et (X.pend.map (·.1)) k=i':=S.J7 hX.Dn (by rw[zLy,zEh];rfl);have:i'=i:=hi'.symm.trans hi;subst this;rw[hp]at hp';injection hp' with hp';subst hp';exact⟨e1,q⟩
theorem mU{X:S.Sto}(h:Ag w tg o s d X ids ps)(hX:X.Ok)(r:Rec)(hf:X.pend.length<1048000/\∀kr∈X.pend,kr.2.length<1048000)(hr:X.adding r=0->∀kr∈X.pend,kr.1=r.key->∀x∈kr.2,x.stamp<r.stamp):
  Calls Tryz.prog 72 #[pT s,r.val] w fun e w'=>e=.returned (iT (X.adding r))/\∃AU Al ps',(∀b,b<w.heap.size->AU b=tg b)/\Ag w' AU o s d (if X.adding r=0 then X.put r else X) Al ps'/\Only o tg w w':=by
 have AD:Hid _:=fun(W:World)(q:Q w W)=>fF (h.kept q) hX r;unfold Rec.val at AD⊢;by_cases ha:X.adding r=0
 .rw[ha]at AD⊢;rw[if_pos rfl];have HA:=h_ h;have hsz:r.key.size<=64/\r.body.size<=4096:=by
   unfold S.Sto.adding at ha;split at ha
   .omega
   split at ha
   .omega
   split at ha
   .omega
   rename_i _ h1 h2;exact⟨by omega,by omega⟩
  have HX:Hid X.Ok:=hX;have HF:=h_ hf;have yY:=h_ (hr ha);have CK:Hid _:=fun(W:World)=>Dr r.key W (by omega);have CB:Hid _:=fun(W:World)=>Dr r.body W (by omega);go_in;go_wp2_with fail;apply(AD.out _ ((Q.refl w).alloc _ _)).mono;rintro e w2⟨rfl,q2⟩;have hV:=(AZ w [sT r.key,iT r.stamp,iT r.kind,sT r.body] 119).kept q2;have q2':Q w w2:=((Q.refl w).alloc _ _).trans q2;have b0:=hV.cell 0 rfl;have b1:=hV.cell 1 rfl;have b2:=hV.cell 2 rfl;have b3:=hV.cell 3 rfl;have d0:=hV.free 0 rfl;have d3:=hV.free 3 rfl;have HV:=h_ hV;go_upto_region 4 with fail
  go_region_held3 (fun w'=>w'.cell? (aD w.heap.size 0)=some (sT r.key)/\w'.cell? (aD w.heap.size 3)=some (sT r.body)/\w'.frozen? (aD w.heap.size 0)=false/\w'.frozen? (aD w.heap.size 3)=false)
   (first|exact⟨b0,b3,d0,d3⟩|exact hS5|exact XK|exact hS7|exact hS8)
   (first|(go_at_call 40;apply(CK.out _).mono;rintro e v3⟨rfl,q3⟩;have q4:Q w2 v3:=(Q.refl w2).drew.trans ⟨q3⟩;have hS5:v3.cell? (aD w.heap.size 0)=some (sT r.key)/\v3.cell? (aD w.heap.size 3)=some (sT r.body)/\v3.frozen? (aD w.heap.size 0)=false/\v3.frozen? (aD w.heap.size 3)=false:=⟨AA b0 q4,AA b3 q4,((HV.out).kept q4).free 0 rfl,((HV.out).kept q4).free 3 rfl⟩)|(go_at_call 40;apply(CB.out _).mono;rintro e v5⟨rfl,q5⟩;have q6:Q w2 v5:=q4.trans ⟨q5⟩;have XK:v5.cell? (aD w.heap.size 0)=some (sT r.key)/\v5.cell? (aD w.heap.size 3)=some (sT r.body)/\v5.frozen? (aD w.heap.size 0)=false/\v5.frozen? (aD w.heap.size 3)=false:=⟨AA b0 q6,AA b3 q6,((HV.out).kept q6).free 0 rfl,((HV.out).kept q6).free 3 rfl⟩;have R4:=(HV.out.kept q6).set 0 (sT r.key);have qh:=R4.set 3 (sT r.body);have hS7:(v5.setCell (aD w.heap.size 0) (sT r.key)).cell? (aD w.heap.size 0)=some (sT r.key)/\(v5.setCell (aD w.heap.size 0) (sT r.key)).cell? (aD w.heap.size 3)=some (sT r.body)/\(v5.setCell (aD w.heap.size 0) (sT r.key)).frozen? (aD w.heap.size 0)=false/\(v5.setCell (aD w.heap.size 0) (sT r.key)).frozen? (aD w.heap.size 3)=false:=⟨R4.cell 0 rfl,R4.cell 3 rfl,R4.free 0 rfl,R4.free 3 rfl⟩;have hS8:((v5.setCell (aD w.heap.size 0) (sT r.key)).setCell (aD w.heap.size 3) (sT r.body)).cell? (aD w.heap.size 0)=some (sT r.key)/\((v5.setCell (aD w.heap.size 0) (sT r.key)).setCell (aD w.heap.size 3) (sT r.body)).cell? (aD w.heap.size 3)=some (sT r.body)/\((v5.setCell (aD w.heap.size 0) (sT r.key)).setCell (aD w.heap.size 3) (sT r.body)).frozen? (aD w.heap.size 0)=false/\((v5.setCell (aD w.heap.size 0) (sT r.key)).setCell (aD w.heap.size 3) (sT r.body)).frozen? (aD w.heap.size 3)=false:=⟨qh.cell 0 rfl,qh.cell 3 rfl,qh.free 0 rfl,qh.free 3 rfl⟩))
  have q8:Q w ((v5.setCell (aD w.heap.size 0) (sT r.key)).setCell (aD w.heap.size 3) (sT r.body)):=((q2'.trans q6).setCell (p:=(aD w.heap.size 0)) (zLK _) _).setCell (p:=(aD w.heap.size 3)) (zLK _) _;have HV8:=h_ qh;generalize ((v5.setCell (aD w.heap.size 0) (sT r.key)).setCell (aD w.heap.size 3) (sT r.body))=W8 at*;have e0:=HV8.out.cell 0 rfl
  cases hl:S.BX X.pend r.key with
  |none =>
   have HL:=h_ hl;have PG:Hid _:=fun(W:World)(q:Q w W)=>VY (HA.out.kept q) HX.out r.key hl;go_upto_region 5 with fail
   go_region_held3 (fun w'=>w'.cell? (aD w.heap.size 0)=some (sT r.key))
    (first|exact e0|exact hS5)
    (first|(go_at_call 100;apply(PG.out _ q8.drew).mono;rintro e w9⟨rfl,q9⟩;have oh:Q W8 w9:=(Q.refl W8).drew.trans q9;have hS5:w9.cell? (aD w.heap.size 0)=some (sT r.key):=AA e0 oh))
   have vw:=q8.trans oh;have vG:=h_ (HV8.out.kept oh);obtain⟨Ch,Tn⟩:=xe (tg.more w.heap.size (o+1) 0);have H0:Hid (Ag w9 Ch o s d X ids ps):=(HA.out.keep (zLK _) (fun b hb=>by rw[<-Tn];exact Tags.AQ hb) (fun _ _ _=>rfl)).kept vw;have HT0:Hid ((∀b,b<w.heap.size->Ch b=tg b)/\Ch w.heap.size=(o+1,0)):=⟨fun b hb=>by rw[<-Tn];exact Tags.AQ hb,by rw[<-Tn];exact Tags.Ay (zLK _)⟩;obtain⟨j,hj⟩:=xe (S.Et (X.pend.map (·.1)) r.key);have HJ:Hid (S.Et (X.pend.map (·.1)) r.key=j/\j<=X.pend.length):=⟨hj,by have:=S.Je (X.pend.map (·.1)) r.key;rw[zM2]at this;omega⟩;have PN:Hid (∀_:Unit,Calls Tryz.prog 101 #[.pointer (some (aD s 6)),sT r.key,pT w9.heap.size] (w9.alloc (.cells #[nS,nS] 158)).drew fun e w'=>e=.returned (.tuple #[]) /\
     ∃AU:Tags,(∀b,b<w9.heap.size->AU b=Ch b)/\Ag w' AU o s d { X with pend:=Ah X.pend j (r.key,[])} (Ah ids j (Du ids)) (Ah ps j w9.heap.size)/\Only o Ch w9 w'):=fun _=>by
    have h1:=ZK (H0.out.kept (Q.refl w9).drew) HX.out r.key HL.out 158;rw[hj]at h1;refine h1.mono ?_;rintro e w'⟨he,AU,ht,hS,hO⟩;exact⟨he,AU,ht,hS,(Only.Be (Q.refl w9).drew).join hO (fun _ _=>rfl)⟩
   have hA:=vG.out.kept ((Q.refl w9).alloc #[nS,nS] 158);have e0:=hA.cell 0 rfl;go_upto_region 8 with fail
   go_region_held3 (fun w'=>w'.cell? (aD w.heap.size 0)=some (sT r.key))
    (first|exact e0|exact hS5)
    (first|(go_at_call 101;apply(PN.out ()).mono;rintro e Uw⟨rfl,hN⟩;have HN:=h_ hN;have mq:Hid (Ca Uw w.heap.size [sT r.key,iT r.stamp,iT r.kind,sT r.body]):=(by(obtain⟨AR,_,_,uV⟩:=hN;exact vG.out.of_block (uV.block _ vG.out.1 (by rw[HT0.out.2];simp)) uV.size));have hS5:=mq.out.cell 0 rfl))
   obtain⟨AR,ht1,hS1,uV⟩:=HN.out;have hlp:ps.length=X.pend.length:=by have:=H0.out.pd.len;simpa[CF]using this
   have hp:(Ah ps j w9.heap.size)[j]?=some w9.heap.size:=EM (by rw[hlp];exact HJ.out.2) _;have hid:(Ah ids j (Du ids))[j]?=some (Du ids):=EM (by rw[H0.out.F9];exact HJ.out.2) _;have hkr:(Ah X.pend j (r.key,([]:List Rec)))[j]?=some (r.key,[]):=EM HJ.out.2 _;obtain⟨g1,g2,g3⟩:=hS1.inner j _ _ _ hp hid hkr;have RP:Hid _:=fun(_:Unit)=>zGP AR o w9.heap.size (6+3*Du ids) [] r List.Pairwise.nil (by simp) (fun x hx=>by simp at hx) Uw g1 (by rw[g2];simp;omega) ⟨g3 0,g3 1⟩;have nV:=h_ hS1;have HI:=h_3 hp hid hkr;have HO1:=h_2 uV ht1;unfold Rec.val at RP;have e0:=mq.out.cell 0 rfl;have e1:=mq.out.cell 1 rfl;have e2:=mq.out.cell 2 rfl;have e3:=mq.out.cell 3 rfl;go_wp2_with fail;apply(RP.out ()).mono;rintro e y9⟨rfl,hN⟩;have HN:=h_ hN;go_wp2;go_ret;obtain⟨hp,hid,hkr⟩:=HI.out;obtain⟨D5,ht2,hS2,hO2⟩:=nV.out.Uz hp hid hkr HN.out;obtain⟨uV,ht1⟩:=HO1.out;have hsz:w.heap.size<=w9.heap.size:=vw.below.size;refine⟨rfl,D5,Ah ids j (Du ids),Ah ps j w9.heap.size,fun b hb=>(ht2 b (zLJ (zLJ hb hsz) uV.size)).trans ((ht1 b (zLJ hb hsz)).trans (HT0.out.1 b hb)),?_,((Only.Be vw).join uV HT0.out.1).join hO2 (fun b hb=>(ht1 b (zLJ hb hsz)).trans (HT0.out.1 b hb))⟩;unfold S.Sto.put;rw[HL.out];simp only;rw[HJ.out.1];have hset:(Ah X.pend j (r.key,([]:List Rec))).set j (r.key,[]++[r])=Ah X.pend j (r.key,[r]):=by
    (unfold Ah;have hlj:(X.pend.take j).length=j:=by rw[zM6];exact Nat.min_eq_left HJ.out.2);rw[List.set_append_right _ _ (by omega),hlj,Nat.sub_self];rfl
   rw[<-hset];exact hS2
  |some rs =>
   obtain⟨i,p,id,hp,hid,hkr⟩:∃i p id,ps[i]?=some p/\ids[i]?=some id/\X.pend[i]?=some (r.key,rs):=by
    (obtain⟨_,h2⟩:=S.Cs HX.out.Dn hl;have hi:=(zLI.1 h2).1;have hlen:ps.length=X.pend.length:=by have:=HA.out.pd.len;simpa[CF]using this);exact⟨_,_,_,zLH (by rw[hlen];exact hi),zLH (by rw[HA.out.F9];exact hi),h2⟩
   have PG:Hid _:=fun(W:World)(q:Q w W)=>VX (HA.out.kept q) HX.out r.key hp hkr;have HI:=h_4 hp hid hkr hl;go_upto_region 5 with fail
   go_region_held3 (fun w'=>w'.cell? (aD w.heap.size 0)=some (sT r.key))
    (first|exact e0|exact hS5)
    (first|(go_at_call 100;apply(PG.out _ q8.drew).mono;rintro e w9⟨rfl,q9⟩;have oh:Q W8 w9:=(Q.refl W8).drew.trans q9;have hS5:w9.cell? (aD w.heap.size 0)=some (sT r.key):=AA e0 oh))
   have vw:=q8.trans oh;have vG:=h_ (HV8.out.kept oh);obtain⟨Ch,Tn⟩:=xe (tg.more w.heap.size (o+1) 0);have H0:Hid (Ag w9 Ch o s d X ids ps):=(HA.out.keep (zLK _) (fun b hb=>by rw[<-Tn];exact Tags.AQ hb) (fun _ _ _=>rfl)).kept vw;have HT0:Hid ((∀b,b<w.heap.size->Ch b=tg b)/\Ch w.heap.size=(o+1,0)):=⟨fun b hb=>by rw[<-Tn];exact Tags.AQ hb,by rw[<-Tn];exact Tags.Ay (zLK _)⟩;have RP:Hid _:=fun(_:Unit)=>by
    obtain⟨hp,hid,hkr,hl⟩:=HI.out;obtain⟨g1,g2,g3⟩:=H0.out.inner i p id _ hp hid hkr;obtain⟨x1,x2,x3⟩:=HX.out.each _ (zLR hkr);exact zGP Ch o p (6+3*id) rs r x1 (by have:=x3;simp only at this;omega) (yY.out _ (zLR hkr) rfl) w9 g1 (by rw[g2];simp;omega) ⟨g3 0,g3 1⟩
   unfold Rec.val at RP;have e0:=vG.out.cell 0 rfl;have e1:=vG.out.cell 1 rfl;have e2:=vG.out.cell 2 rfl;have e3:=vG.out.cell 3 rfl;go_wp2_with fail;apply(RP.out ()).mono;rintro e Uw⟨rfl,hN⟩;have HN:=h_ hN;go_wp2;go_ret;obtain⟨hp,hid,hkr,hl⟩:=HI.out;obtain⟨D5,ht2,hS2,hO2⟩:=H0.out.Uz hp hid hkr HN.out;refine⟨rfl,D5,ids,ps,fun b hb=>(ht2 b (zLJ hb vw.below.size)).trans (HT0.out.1 b hb),?_,(Only.Be vw).join hO2 HT0.out.1⟩;have hlow:=S.Cs HX.out.Dn hl;have hii:S.Et (X.pend.map (·.1)) r.key=i:=S.J7 HX.out.Dn (by rw[zLy,hkr];rfl);unfold S.Sto.put;rw[hl];simp only;rw[hii];exact hS2
 .rw[if_neg ha];generalize X.adding r=z at*;have hz:(z != 0)=true:=by simpa using ha
  have HA:=h_ h;go_in;go_wp2_with fail;apply(AD.out _ ((Q.refl w).alloc _ _)).mono;rintro e w2⟨rfl,q2⟩;have q2':Q w w2:=((Q.refl w).alloc _ _).trans q2;go_wp2;go_ret;exact⟨rfl,tg,ids,ps,fun _ _=>rfl,HA.out.kept q2',Only.Be q2'⟩
end
namespace S
variable{k:BA}
theorem Bl{α:Type}{l:List (BA×α)}(hr:DL (l.map (·.1))){a:α}:BX l k=some a↔(k,a)∈l:=by
 constructor
 .intro h;exact zLR (Cs hr h).2
 .intro h;obtain⟨i,hi⟩:=List.mem_iff_getElem?.1 h;have hk:(l.map (·.1))[i]?=some k:=by rw[zLy,hi];rfl
  cases hl:BX l k with
  |none =>
   have h1:=Dt hl;rw[Cn.2 (zLR hk)]at h1
   cases h1
  |some b =>
   have h2:=(Cs hr hl).2;rw[J7 hr hk,hi]at h2;injection h2 with h2;injection h2 with _ h2;rw[h2]
theorem au{ks:List BA}(hr:DL ks)(hn:QJ ks k=false):DL (Ah ks (Et ks k) k):=by
 unfold Ah DL;have hne:∀x∈ks,x≠k:=fun x hx e=>by
  have h2:=Cn.2 (e▸hx:k∈ks);rw[hn]at h2
  cases h2
 have hlo:∀x∈ks.take (Et ks k),Bc x k:=fun x hx=>by
  obtain⟨i,hi⟩:=List.mem_iff_getElem?.1 hx;rw[List.getElem?_take]at hi;split at hi
  .rename_i h;exact Iu hi h
  .cases hi
 have hhi:∀x∈ks.drop (Et ks k),Bc k x:=fun x hx=>by
  obtain⟨i,hi⟩:=List.mem_iff_getElem?.1 hx;rw[zLr]at hi;have h1:=Pp hr hi (Nat.le_add_right _ _);rcases Gl x k with h|h|h
  .exact absurd h h1
  .exact absurd h (hne x (zLR hi))
  .exact h
 rw[zLh];refine⟨hr.sublist (List.take_sublist _ _),zM5.2 ⟨hhi,hr.sublist (List.drop_sublist _ _)⟩,fun a ha b hb=>?_⟩;rcases zME.1 hb with e|e
 .rw[e];exact hlo a ha
 .exact Ee (hlo a ha) (hhi b e)
theorem Vn{α:Type}{l:List α}{j:Nat}{x a:α}:a∈Ah l j x↔a=x\/a∈l:=by
 have e:a∈l↔a∈l.take j\/a∈l.drop j:=by rw[<-zMD,zLq]
 rw[e];simp only[Ah,zMD,zME];constructor
 .rintro(h|h|h)
  .exact Or.inr (Or.inl h)
  .exact Or.inl h
  .exact Or.inr (Or.inr h)
 .rintro(h|h|h)
  .exact Or.inr (Or.inl h)
  .exact Or.inl h
  .exact Or.inr (Or.inr h)
theorem qD{l:List (BA×List Rec)}{i:Nat}{rs rs':List Rec}(hk:l[i]?=some (k,rs)):(l.set i (k,rs')).map (·.1)=l.map (·.1):=by
 rw[List.map_set];refine List.ext_getElem? fun j=>?_;rw[List.getElem?_set];by_cases hij:i=j
 .subst hij;have hl:=(zLI.1 hk).1;rw[zLy,hk];simp[hl]
 .simp[hij]
theorem Sto.zAK{X:Sto}(hX:X.Ok)(r:Rec)(hf:X.pend.length<1048000/\∀kr∈X.pend,kr.2.length<1048000)(hr:∀kr∈X.pend,kr.1=r.key->∀x∈kr.2,x.stamp<r.stamp):(X.put r).Ok:=by
 cases hl:BX X.pend r.key with
 |none =>
  have e:X.put r={ X with pend:=Ah X.pend (Et (X.pend.map (·.1)) r.key) (r.key,[r])}:=by unfold Sto.put;rw[hl]
  have hlow:=Je (X.pend.map (·.1)) r.key;rw[zM2]at hlow;rw[e];refine⟨hX.Qx,?_,hX.Pg,?_,fun kr hkr=>?_⟩
  .show DL ((Ah X.pend _ (r.key,[r])).map (·.1))
   rw[Pm];exact au hX.Dn (Dt hl)
  .show(Ah X.pend _ _).length<=_
   rw[CX hlow];omega
  .rcases Vn.1 hkr with e|h
   .subst e;exact⟨List.pairwise_singleton _ _,by simp,by simp⟩
   .exact hX.each kr h
 |some rs =>
  have e:X.put r={ X with pend:=X.pend.set (Et (X.pend.map (·.1)) r.key) (r.key,rs++[r])}:=by unfold Sto.put;rw[hl]
  obtain⟨_,h2⟩:=Cs hX.Dn hl;have hm:=zLR h2;rw[e];refine⟨hX.Qx,?_,hX.Pg,?_,fun kr hkr=>?_⟩
  .show DL ((X.pend.set _ (r.key,rs++[r])).map (·.1))
   rw[qD h2];exact hX.Dn
  .show(X.pend.set _ _).length<=_
   rw[List.length_set];exact hX.Ro
  .rcases List.mem_or_eq_of_mem_set hkr with h|h
   .exact hX.each kr h
   .subst h;have h1:=hX.each _ hm;have h3:=hf.2 _ hm;refine⟨?_,by simp,by simp at h3⊢;omega⟩;unfold Up;rw[zLh];exact⟨h1.1,List.pairwise_singleton _ _,fun a ha b hb=>by rw[List.mem_singleton.1 hb];exact hr _ hm rfl a ha⟩
theorem Sto.jQ{X:Sto}(hX:X.Ok)(r:Rec)(hP:(X.put r).Ok)(k:BA):BX (X.put r).pend k=if k=r.key then some ((BX X.pend r.key).getD []++[r])else BX X.pend k:=by
 refine Option.ext fun a=>?_;rw[Bl hP.Dn]
 cases hl:BX X.pend r.key with
 |none =>
  have e:(X.put r).pend=Ah X.pend (Et (X.pend.map (·.1)) r.key) (r.key,[r]):=by unfold Sto.put;rw[hl]
  rw[e,Vn];by_cases hk:k=r.key
  .subst hk;simp only[if_true,Option.getD_none,zLb,zLO];constructor
   .rintro(h|h)
    .injection h with _ h;exact h.symm
    .rw[<-Bl hX.Dn,hl]at h;cases h
   .rintro rfl;exact Or.inl rfl
  .rw[if_neg hk,Bl hX.Dn];constructor
   .rintro(h|h)
    .injection h with h _;exact absurd h hk
    .exact h
   .exact Or.inr
 |some rs =>
  have e:(X.put r).pend=X.pend.set (Et (X.pend.map (·.1)) r.key) (r.key,rs++[r]):=by unfold Sto.put;rw[hl]
  obtain⟨_,h2⟩:=Cs hX.Dn hl;have hi:=(zLI.1 h2).1;by_cases hk:k=r.key
  .subst hk;rw[<-Bl hP.Dn];have h3:BX (X.put r).pend r.key=some (rs++[r]):=by
    rw[Bl hP.Dn,e];exact zLR (List.getElem?_set_self hi)
   rw[h3];simp
  .rw[if_neg hk,Bl hX.Dn,e];constructor
   .intro h;rcases List.mem_or_eq_of_mem_set h with h|h
    .exact h
    .injection h with h _;exact absurd h hk
   .intro h;obtain⟨i',hi'⟩:=List.mem_iff_getElem?.1 h;have hne:Et (X.pend.map (·.1)) r.key≠i':=fun e2=>by
     rw[e2,hi']at h2;injection h2 with h2;injection h2 with h2 _;exact hk h2
    exact zLR ((List.getElem?_set_ne hne).trans hi')
end S
section
open Go.RowKit
variable{d o s:Nat}{ids ps:List Nat}{tg:Tags}{w:World}
theorem dm{X:S.Sto}(h:Ag w tg o s d X ids ps)(hd:X.dead=true):
  Calls Tryz.prog 53 #[pT s] w fun e w'=>e=.returned (iT 10)/\Q w w':=by
 have c1:=h.c1;rw[hd]at c1;clear h;go_in;go_wp2;go_ret;exact⟨rfl,Q.refl w⟩
theorem di{X:S.Sto}(h:Ag w tg o s d X ids ps)(hd:X.dead=false)(hp:X.BI=false):
  Calls Tryz.prog 53 #[pT s] w fun e w'=>e=.returned (iT 0)/\Q w w':=by
 have c1:=h.c1;rw[hd]at c1;have IP:=hU (GN h);rw[hp]at IP;clear h;go_in;go_wp2_with fail;apply(IP.out ()).mono;rintro e w1⟨rfl,q1⟩;go_wp2;go_ret;exact⟨rfl,q1⟩
theorem Wd{X:S.Sto}(h:Ag w tg o s d X ids ps)(hd:X.dead=true):
  Calls Tryz.prog 55 #[pT s] w fun e w'=>e=.returned (iT 10)/\Q w w':=by
 have c1:=h.c1;rw[hd]at c1;have k1:=AA c1 ((Q.refl w).alloc #[pT s] 35);clear h;go_in;go_wp2;go_ret;exact⟨rfl,(by first|exact Q.refl w|exact(Q.refl w).alloc _ _)⟩
theorem Qd{X:S.Sto}(h:Ag w tg o s d X ids ps)(hd:X.dead=false)(hp:X.BI=true):
  Calls Tryz.prog 55 #[pT s] w fun e w'=>e=.returned (iT 13)/\Q w w':=by
 have c1:=h.c1;rw[hd]at c1;have q0:Q w (w.alloc (.cells #[pT s] 35)):=(Q.refl w).alloc _ _;have k1:=AA c1 q0;have IP:=hU (GN (h.kept q0));rw[hp]at IP;clear h;go_in;go_wp2_with fail;apply(IP.out ()).mono;rintro e w1⟨rfl,q1⟩;go_wp2;go_ret;exact⟨rfl,q0.trans q1⟩
def Added(tg:Tags)(o s d:Nat)(X:S.Sto)(r:Rec)(w:World)(e:Ending)(w':World):Prop:=
 e=.returned (iT (X.adding r))/\∃AU Al ps',(∀b,b<w.heap.size->AU b=tg b)/\Ag w' AU o s d (if X.adding r=0 then X.put r else X) Al ps'/\Only o tg w w'
theorem wE{X:S.Sto}(h:Ag w tg o s d X ids ps)(hX:X.Ok)(k:BA)(t:Int)(v:BA)(hf:X.pend.length<1048000/\∀kr∈X.pend,kr.2.length<1048000)(hr:X.adding ⟨k,t,0,v⟩=0->∀kr∈X.pend,kr.1=k->∀x∈kr.2,x.stamp<t):
  Calls Tryz.prog 47 #[pT s,sT k,iT t,sT v] w fun e w'=>Added tg o s d X ⟨k,t,0,v⟩ w e w':=by
 have AD:=hU (mU h hX ⟨k,t,0,v⟩ hf hr);unfold Rec.val at AD;clear h hX hf hr;go_in;go_wp2_with fail;apply(AD.out ()).mono;rintro e w1⟨rfl,hP⟩;have HP:Hid _:=hP;clear hP AD;go_wp2;go_ret;exact⟨rfl,HP.out⟩
theorem eO{X:S.Sto}(h:Ag w tg o s d X ids ps)(hX:X.Ok)(k:BA)(t:Int)(hf:X.pend.length<1048000/\∀kr∈X.pend,kr.2.length<1048000)(hr:X.adding ⟨k,t,2,⟨#[]⟩⟩=0->∀kr∈X.pend,kr.1=k->∀x∈kr.2,x.stamp<t):
  Calls Tryz.prog 46 #[pT s,sT k,iT t] w fun e w'=>Added tg o s d X ⟨k,t,2,⟨#[]⟩⟩ w e w':=by
 have AD:=hU (mU h hX ⟨k,t,2,⟨#[]⟩⟩ hf hr);unfold Rec.val at AD;clear h hX hf hr;go_in;go_wp2_with fail;apply(AD.out ()).mono;rintro e w1⟨rfl,hP⟩;have HP:Hid _:=hP;clear hP AD;go_wp2;go_ret;exact⟨rfl,HP.out⟩
end
end Go.Proofs.YtekdenkllipehaaGreatDoor
