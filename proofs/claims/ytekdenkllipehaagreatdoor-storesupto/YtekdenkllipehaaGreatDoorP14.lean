import Derived.Test.YtekdenkllipehaaGreatDoorP10
import Derived.Test.YtekdenkllipehaaGreatDoorP12
import Derived.OwnWalk
import Derived.Laws.AppendOwnNone
set_option maxRecDepth 99999
set_option maxHeartbeats 0
namespace Go.Proofs.YtekdenkllipehaaGreatDoor
open Go.RowKit
variable{B base n:Nat}{W w:World}{ao:Option Addr}{xs:List Value}
def Gh(fo no:Option Addr)(fc nc:Nat)(l:M.Lif):List Value:=
 [.slice fo l.flushed.AB.length fc,iT l.flushed.water,.slice no l.now.AB.length nc,iT l.now.water,.bool l.pending,.bool l.dead,.bool l.late]
theorem Ca.TF{z0 z1 z2 z3 z4 z5 z6:Value}(h:Ca w B [z0,z1,z2,z3,z4,z5,z6])(a0 a1 a2 a3 a4 a5 a6:Value):
  Ca (((((((w.setCell (aD B 0) a0).setCell (aD B 1) a1).setCell (aD B 2) a2).setCell (aD B 3) a3).setCell (aD B 4) a4).setCell (aD B 5) a5).setCell (aD B 6) a6) B [a0,a1,a2,a3,a4,a5,a6]:=
 ((((((h.set 0 a0).set 1 a1).set 2 a2).set 3 a3).set 4 a4).set 5 a5).set 6 a6
theorem Q.TF(q:Q w W)(hB:w.heap.size<=B)(a0 a1 a2 a3 a4 a5 a6:Value):
  Q w (((((((W.setCell (aD B 0) a0).setCell (aD B 1) a1).setCell (aD B 2) a2).setCell (aD B 3) a3).setCell (aD B 4) a4).setCell (aD B 5) a5).setCell (aD B 6) a6):=
 ((((((q.setCell hB a0).setCell hB a1).setCell hB a2).setCell hB a3).setCell hB a4).setCell hB a5).setCell hB a6
structure gG(w:World)(L V Z:List Value)(W:World):Prop where
 q:Q w W
 x:Ca W w.heap.size L
 y:Ca W (w.heap.size+1) V
 z:Ca W (w.heap.size+1+1) Z
theorem gG.kept{w:World}{L V Z:List Value}{W W':World}(h:gG w L V Z W)(q:Q W W'):gG w L V Z W':=⟨h.q.trans q,h.x.kept q,h.y.kept q,h.z.kept q⟩
theorem oz(w:World)(L V Z:List Value)(t1 t2 t3:TypeId):gG w L V Z (((w.alloc (.cells L.toArray t1)).alloc (.cells V.toArray t2)).alloc (.cells Z.toArray t3)):=by
 refine⟨(((Q.refl w).alloc _ _).alloc _ _).alloc _ _,((AZ w L t1).kept ((Q.refl _).alloc _ _)).kept ((Q.refl _).alloc _ _),?_,?_⟩
 .have:=(AZ (w.alloc (.cells L.toArray t1)) V t2).kept ((Q.refl _).alloc Z.toArray t3);simpa using this
 .have:=AZ ((w.alloc (.cells L.toArray t1)).alloc (.cells V.toArray t2)) Z t3;simpa using this
theorem ZO{e:TypeId}{size:Nat}{v:Value}{C:Nat}(h:W.ownsRow base e size v n xs)(hB:B<base)(hC:C<base)(a b a0 a1 a2 a3 a4 a5 a6:Value):
  (((((((((W.setCell (aD B 2) a).setCell (aD B 4) b).setCell (aD C 0) a0).setCell (aD C 1) a1).setCell (aD C 2) a2).setCell (aD C 3) a3).setCell (aD C 4) a4).setCell (aD C 5) a5).setCell (aD C 6) a6).ownsRow base e size v n xs:=
 ownsRow_setCell_below (ownsRow_setCell_below (ownsRow_setCell_below (ownsRow_setCell_below (ownsRow_setCell_below (ownsRow_setCell_below (ownsRow_setCell_below (ownsRow_setCell_below (ownsRow_setCell_below h (a:=(aD B 2)) hB a) (a:=(aD B 4)) hB b) (a:=(aD C 0)) hC a0) (a:=(aD C 1)) hC a1) (a:=(aD C 2)) hC a2) (a:=(aD C 3)) hC a3) (a:=(aD C 4)) hC a4) (a:=(aD C 5)) hC a5) (a:=(aD C 6)) hC a6
theorem VZ{N cap:Nat}{L:List M.Ver}(h:w.ownsRow base 76 4 (.slice ao N cap) N xs)(hN:L.length=N)(hx:BV L=xs):Cq w ao L:=by
 subst hN hx;exact o7 h
theorem wZ:(Tryz.prog.info? 76).map (fun i=>(i.zero,i.size,i.bytes))=some (some (.agg #[eS,iT 0,eS,.bool false]),4,48):=by kernel_rfl
theorem ZP{t:TypeId}{size:Nat}{cap m:Nat}(h:w.ownsRow base t size (.slice ao n cap) m xs){a:Addr}(e:ao=some a):base<=a.block:=by
 subst e;rcases h.2 with h2|⟨g,cap',cur,hv,hg,_⟩
 .injection h2.1 with h3;cases h3
 .injection hv with hv;injection hv with hv;subst hv;exact hg
def zC5(w:World)(fo no:Option Addr)(fc:Nat)(r:M.Lif×Nat)(e:Ending)(w':World):Prop:=
 ∃no' Xz,e=.returned (.tuple #[.agg (AV fo no' fc Xz r.1),iT (r.2:Nat)])/\Cq w' no' r.1.now.AB/\(r.1.now.AB=[]->no'=none/\Xz=0)/\Q w w'/\(no'=no\/∀a,no'=some a->w.heap.size<=a.block)
theorem wN(fo no:Option Addr)(fc nc:Nat)(l:M.Lif)(v:M.Ver)(hl:(l.now.AB.length+1)*48<=140737488355328)(w:World)(h:Cq w no l.now.AB)(hnil:l.now.AB=[]->no=none/\nc=0):
  Calls Tryz.prog 48 #[.agg (AV fo no fc nc l),FK v] w (zC5 w fo no fc (l.put v)):=by
 have fK:Hid (∀W,Calls Tryz.prog 73 #[.agg (AV fo no fc nc l),sT v.key] W fun e w'=>e=.returned (iT (l.asked v.key:Nat))/\Q W w'):=fun W=>Vu fo no fc nc l v.key W;have vI:Hid (∀W,Q w W->Calls Tryz.prog 74 #[.agg #[.slice no l.now.AB.length nc,iT l.now.water],sT v.key] W fun e w'=>e=.returned (iT (l.now.last v.key))/\Q W w'):=fun W q=>pY no nc l.now v.key (by omega) W (h.kept q);have HV:=h_ h;have Yx:=h_ hnil;have HL:=h_ hl;have HR:Hid (l.put v=l.put v):=rfl;unfold AV FK at*;go_in;go_wp2_with fail;apply(fK.out _).mono;rintro e w2⟨rfl,q2⟩;have p2:gG w [.slice fo l.flushed.AB.length fc,iT l.flushed.water,.slice no l.now.AB.length nc,iT l.now.water,.bool l.pending,.bool l.dead,.bool l.late] [sT v.key,iT v.stamp,sT v.value,.bool v.gone] [nS,iT 0,nS,iT 0,.bool false,.bool false,.bool false] w2:=(oz w [.slice fo l.flushed.AB.length fc,iT l.flushed.water,.slice no l.now.AB.length nc,iT l.now.water,.bool l.pending,.bool l.dead,.bool l.late] [sT v.key,iT v.stamp,sT v.value,.bool v.gone] [nS,iT 0,nS,iT 0,.bool false,.bool false,.bool false] _ _ _).kept q2;have tC:=h_ p2;have c0:w2.cell? (aD w.heap.size 0)=some (.slice fo l.flushed.AB.length fc):=p2.x.cell 0 rfl;have c1:w2.cell? (aD w.heap.size 1)=some (iT l.flushed.water):=p2.x.cell 1 rfl;have c2:w2.cell? (aD w.heap.size 2)=some (.slice no l.now.AB.length nc):=p2.x.cell 2 rfl;have c3:w2.cell? (aD w.heap.size 3)=some (iT l.now.water):=p2.x.cell 3 rfl;have c4:w2.cell? (aD w.heap.size 4)=some (.bool l.pending):=p2.x.cell 4 rfl;have c5:w2.cell? (aD w.heap.size 5)=some (.bool l.dead):=p2.x.cell 5 rfl;have c6:w2.cell? (aD w.heap.size 6)=some (.bool l.late):=p2.x.cell 6 rfl;have y0:w2.cell? (aD (w.heap.size+1) 0)=some (sT v.key):=p2.y.cell 0 rfl;have y1:w2.cell? (aD (w.heap.size+1) 1)=some (iT v.stamp):=p2.y.cell 1 rfl;have y2:w2.cell? (aD (w.heap.size+1) 2)=some (sT v.value):=p2.y.cell 2 rfl;have y3:w2.cell? (aD (w.heap.size+1) 3)=some (.bool v.gone):=p2.y.cell 3 rfl;have z0:w2.cell? (aD (w.heap.size+1+1) 0)=some nS:=p2.z.cell 0 rfl;have z1:w2.cell? (aD (w.heap.size+1+1) 1)=some (iT 0):=p2.z.cell 1 rfl;have z2:w2.cell? (aD (w.heap.size+1+1) 2)=some nS:=p2.z.cell 2 rfl;have z3:w2.cell? (aD (w.heap.size+1+1) 3)=some (iT 0):=p2.z.cell 3 rfl;have z4:w2.cell? (aD (w.heap.size+1+1) 4)=some (.bool false):=p2.z.cell 4 rfl;have z5:w2.cell? (aD (w.heap.size+1+1) 5)=some (.bool false):=p2.z.cell 5 rfl;have z6:w2.cell? (aD (w.heap.size+1+1) 6)=some (.bool false):=p2.z.cell 6 rfl;have f0:w2.frozen? (aD (w.heap.size+1+1) 0)=false:=p2.z.free 0 rfl;have f1:w2.frozen? (aD (w.heap.size+1+1) 1)=false:=p2.z.free 1 rfl;have f2:w2.frozen? (aD (w.heap.size+1+1) 2)=false:=p2.z.free 2 rfl;have f3:w2.frozen? (aD (w.heap.size+1+1) 3)=false:=p2.z.free 3 rfl;have f4:w2.frozen? (aD (w.heap.size+1+1) 4)=false:=p2.z.free 4 rfl;have f5:w2.frozen? (aD (w.heap.size+1+1) 5)=false:=p2.z.free 5 rfl;have f6:w2.frozen? (aD (w.heap.size+1+1) 6)=false:=p2.z.free 6 rfl;obtain⟨a,ha⟩:=xe (l.asked v.key);rw[ha];have HA:=h_ ha;by_cases ha:a=0
 .subst ha;by_cases hsz:4096<v.value.size
  .have hsz':(4096:Int)<(v.value.size:Int):=by omega
   (go_wp2_with fail;have hz:=tC.out.z.TF (.slice fo l.flushed.AB.length fc) (iT l.flushed.water) (.slice no l.now.AB.length nc) (iT l.now.water) (.bool l.pending) (.bool l.dead) (.bool l.late);refine bodyPost_ret (v:=.tuple #[.agg #[.slice fo l.flushed.AB.length fc,iT l.flushed.water,.slice no l.now.AB.length nc,iT l.now.water,.bool l.pending,.bool l.dead,.bool l.late],iT 4]) (by simp[results,Tryz.results48,go_sem,hz.cell 0 rfl,hz.cell 1 rfl,hz.cell 2 rfl,hz.cell 3 rfl,hz.cell 4 rfl,hz.cell 5 rfl,hz.cell 6 rfl]) rfl ?_;have qz:=tC.out.q.TF (B:=w.heap.size+1+1) (by omega) (.slice fo l.flushed.AB.length fc) (iT l.flushed.water) (.slice no l.now.AB.length nc) (iT l.now.water) (.bool l.pending) (.bool l.dead) (.bool l.late);have hr:l.put v=(l,4):=by unfold M.Lif.put;rw[if_neg (by rw[HA.out];simp),if_pos hsz]);rw[hr];exact⟨no,nc,rfl,HV.out.kept qz,Yx.out,qz,Or.inl rfl⟩
  .have HC:=hU (vI.out w2 tC.out.q);have hsz':¬((4096:Int)<(v.value.size:Int)):=by omega
   obtain⟨n,hn⟩:=xe (l.now.last v.key);rw[hn]at HC;have HLa:=h_ hn;go_wp2_with fail;apply(HC.out ()).mono;rintro e w3⟨rfl,q3⟩;have p3:gG w [.slice fo l.flushed.AB.length fc,iT l.flushed.water,.slice no l.now.AB.length nc,iT l.now.water,.bool l.pending,.bool l.dead,.bool l.late] [sT v.key,iT v.stamp,sT v.value,.bool v.gone] [nS,iT 0,nS,iT 0,.bool false,.bool false,.bool false] w3:=tC.out.kept q3;have Qn:=h_ p3;have c0:w3.cell? (aD w.heap.size 0)=some (.slice fo l.flushed.AB.length fc):=p3.x.cell 0 rfl;have c1:w3.cell? (aD w.heap.size 1)=some (iT l.flushed.water):=p3.x.cell 1 rfl;have c2:w3.cell? (aD w.heap.size 2)=some (.slice no l.now.AB.length nc):=p3.x.cell 2 rfl;have c3:w3.cell? (aD w.heap.size 3)=some (iT l.now.water):=p3.x.cell 3 rfl;have c4:w3.cell? (aD w.heap.size 4)=some (.bool l.pending):=p3.x.cell 4 rfl;have c5:w3.cell? (aD w.heap.size 5)=some (.bool l.dead):=p3.x.cell 5 rfl;have c6:w3.cell? (aD w.heap.size 6)=some (.bool l.late):=p3.x.cell 6 rfl;have y0:w3.cell? (aD (w.heap.size+1) 0)=some (sT v.key):=p3.y.cell 0 rfl;have y1:w3.cell? (aD (w.heap.size+1) 1)=some (iT v.stamp):=p3.y.cell 1 rfl;have y2:w3.cell? (aD (w.heap.size+1) 2)=some (sT v.value):=p3.y.cell 2 rfl;have y3:w3.cell? (aD (w.heap.size+1) 3)=some (.bool v.gone):=p3.y.cell 3 rfl;have z0:w3.cell? (aD (w.heap.size+1+1) 0)=some nS:=p3.z.cell 0 rfl;have z1:w3.cell? (aD (w.heap.size+1+1) 1)=some (iT 0):=p3.z.cell 1 rfl;have z2:w3.cell? (aD (w.heap.size+1+1) 2)=some nS:=p3.z.cell 2 rfl;have z3:w3.cell? (aD (w.heap.size+1+1) 3)=some (iT 0):=p3.z.cell 3 rfl;have z4:w3.cell? (aD (w.heap.size+1+1) 4)=some (.bool false):=p3.z.cell 4 rfl;have z5:w3.cell? (aD (w.heap.size+1+1) 5)=some (.bool false):=p3.z.cell 5 rfl;have z6:w3.cell? (aD (w.heap.size+1+1) 6)=some (.bool false):=p3.z.cell 6 rfl;have f0:w3.frozen? (aD (w.heap.size+1+1) 0)=false:=p3.z.free 0 rfl;have f1:w3.frozen? (aD (w.heap.size+1+1) 1)=false:=p3.z.free 1 rfl;have f2:w3.frozen? (aD (w.heap.size+1+1) 2)=false:=p3.z.free 2 rfl;have f3:w3.frozen? (aD (w.heap.size+1+1) 3)=false:=p3.z.free 3 rfl;have f4:w3.frozen? (aD (w.heap.size+1+1) 4)=false:=p3.z.free 4 rfl;have f5:w3.frozen? (aD (w.heap.size+1+1) 5)=false:=p3.z.free 5 rfl;have f6:w3.frozen? (aD (w.heap.size+1+1) 6)=false:=p3.z.free 6 rfl;by_cases h1:v.stamp<0
   ·(go_wp2_with fail;have hz:=Qn.out.z.TF (.slice fo l.flushed.AB.length fc) (iT l.flushed.water) (.slice no l.now.AB.length nc) (iT l.now.water) (.bool l.pending) (.bool l.dead) (.bool l.late);refine bodyPost_ret (v:=.tuple #[.agg #[.slice fo l.flushed.AB.length fc,iT l.flushed.water,.slice no l.now.AB.length nc,iT l.now.water,.bool l.pending,.bool l.dead,.bool l.late],iT 12]) (by simp[results,Tryz.results48,go_sem,hz.cell 0 rfl,hz.cell 1 rfl,hz.cell 2 rfl,hz.cell 3 rfl,hz.cell 4 rfl,hz.cell 5 rfl,hz.cell 6 rfl]) rfl ?_;have qz:=Qn.out.q.TF (B:=w.heap.size+1+1) (by omega) (.slice fo l.flushed.AB.length fc) (iT l.flushed.water) (.slice no l.now.AB.length nc) (iT l.now.water) (.bool l.pending) (.bool l.dead) (.bool l.late);have hr:l.put v=(l,12):=by unfold M.Lif.put;rw[if_neg (by rw[HA.out];simp),if_neg hsz,if_pos (Or.inl h1)]);rw[hr];exact⟨no,nc,rfl,HV.out.kept qz,Yx.out,qz,Or.inl rfl⟩
   .by_cases h2:1099511627776<v.stamp
    ·(go_wp2_with fail;have hz:=Qn.out.z.TF (.slice fo l.flushed.AB.length fc) (iT l.flushed.water) (.slice no l.now.AB.length nc) (iT l.now.water) (.bool l.pending) (.bool l.dead) (.bool l.late);refine bodyPost_ret (v:=.tuple #[.agg #[.slice fo l.flushed.AB.length fc,iT l.flushed.water,.slice no l.now.AB.length nc,iT l.now.water,.bool l.pending,.bool l.dead,.bool l.late],iT 12]) (by simp[results,Tryz.results48,go_sem,hz.cell 0 rfl,hz.cell 1 rfl,hz.cell 2 rfl,hz.cell 3 rfl,hz.cell 4 rfl,hz.cell 5 rfl,hz.cell 6 rfl]) rfl ?_;have qz:=Qn.out.q.TF (B:=w.heap.size+1+1) (by omega) (.slice fo l.flushed.AB.length fc) (iT l.flushed.water) (.slice no l.now.AB.length nc) (iT l.now.water) (.bool l.pending) (.bool l.dead) (.bool l.late);have hr:l.put v=(l,12):=by unfold M.Lif.put;rw[if_neg (by rw[HA.out];simp),if_neg hsz,if_pos (Or.inr (Or.inl h2))]);rw[hr];exact⟨no,nc,rfl,HV.out.kept qz,Yx.out,qz,Or.inl rfl⟩
    .by_cases h3:v.stamp<=l.now.water
     ·(go_wp2_with fail;have hz:=Qn.out.z.TF (.slice fo l.flushed.AB.length fc) (iT l.flushed.water) (.slice no l.now.AB.length nc) (iT l.now.water) (.bool l.pending) (.bool l.dead) (.bool l.late);refine bodyPost_ret (v:=.tuple #[.agg #[.slice fo l.flushed.AB.length fc,iT l.flushed.water,.slice no l.now.AB.length nc,iT l.now.water,.bool l.pending,.bool l.dead,.bool l.late],iT 12]) (by simp[results,Tryz.results48,go_sem,hz.cell 0 rfl,hz.cell 1 rfl,hz.cell 2 rfl,hz.cell 3 rfl,hz.cell 4 rfl,hz.cell 5 rfl,hz.cell 6 rfl]) rfl ?_;have qz:=Qn.out.q.TF (B:=w.heap.size+1+1) (by omega) (.slice fo l.flushed.AB.length fc) (iT l.flushed.water) (.slice no l.now.AB.length nc) (iT l.now.water) (.bool l.pending) (.bool l.dead) (.bool l.late);have hr:l.put v=(l,12):=by unfold M.Lif.put;rw[if_neg (by rw[HA.out];simp),if_neg hsz,if_pos (Or.inr (Or.inr (Or.inl h3)))]);rw[hr];exact⟨no,nc,rfl,HV.out.kept qz,Yx.out,qz,Or.inl rfl⟩
     .by_cases h4:v.stamp<=n
      ·(go_wp2_with fail;have hz:=Qn.out.z.TF (.slice fo l.flushed.AB.length fc) (iT l.flushed.water) (.slice no l.now.AB.length nc) (iT l.now.water) (.bool l.pending) (.bool l.dead) (.bool l.late);refine bodyPost_ret (v:=.tuple #[.agg #[.slice fo l.flushed.AB.length fc,iT l.flushed.water,.slice no l.now.AB.length nc,iT l.now.water,.bool l.pending,.bool l.dead,.bool l.late],iT 12]) (by simp[results,Tryz.results48,go_sem,hz.cell 0 rfl,hz.cell 1 rfl,hz.cell 2 rfl,hz.cell 3 rfl,hz.cell 4 rfl,hz.cell 5 rfl,hz.cell 6 rfl]) rfl ?_;have qz:=Qn.out.q.TF (B:=w.heap.size+1+1) (by omega) (.slice fo l.flushed.AB.length fc) (iT l.flushed.water) (.slice no l.now.AB.length nc) (iT l.now.water) (.bool l.pending) (.bool l.dead) (.bool l.late);have hr:l.put v=(l,12):=by unfold M.Lif.put;rw[if_neg (by rw[HA.out];simp),if_neg hsz,if_pos (Or.inr (Or.inr (Or.inr (by rw[HLa.out];exact h4))))]);rw[hr];exact⟨no,nc,rfl,HV.out.kept qz,Yx.out,qz,Or.inl rfl⟩
      .obtain⟨i0,hi,hy0,hy1,hy2⟩:=info_parts wZ;have hl:=HL.out;have HR:Hid (l.put v=({ l with now:=⟨l.now.AB++[v],l.now.water⟩,pending:=true },0)):=by
        (show l.put v=_);unfold M.Lif.put;rw[if_neg (by rw[HA.out];simp),if_neg hsz,if_neg (by rw[HLa.out];omega)]
       (go_upto_region 10 with fail);by_cases hne:l.now.AB=[]
       ·((((((((obtain⟨rfl,rfl⟩:=Yx.out hne;have hlen:l.now.AB.length=0:=by rw[hne];rfl);have hown:=World.ownsRow_nil w3 w3.heap.size 76 4;go_upto_region 11 with(at_builtin;refine wpList_append_own_none rfl (.tmp 50) (.tmp 53) 44 rfl w3.heap.size 76 i0 4 Tryz.underlying44 hi _ _ _ rfl hown (congrArg (fun n=>Value.slice none n 0) hlen) ?_));have q4:Q w3 w3:=Q.refl w3;have JF:=hown;have hown5:=own_below JF ((Q.refl w3).alloc #[sT v.key,iT v.stamp,sT v.value,.bool v.gone] 76).below;have zEX:w3.heap.size<=w3.heap.size:=q4.below.size;have HB4:Hid (Below w3.heap.size w3 (w3.alloc (.cells #[sT v.key,iT v.stamp,sT v.value,.bool v.gone] 76))):=q4.below.alloc q4.below.size _;have HB5:=h_ (Dx hown5);have y0:w3.cell? (aD (w.heap.size+1) 0)=some (sT v.key):=(Qn.out.kept q4).y.cell 0 rfl;have y1:w3.cell? (aD (w.heap.size+1) 1)=some (iT v.stamp):=(Qn.out.kept q4).y.cell 1 rfl;have y2:w3.cell? (aD (w.heap.size+1) 2)=some (sT v.value):=(Qn.out.kept q4).y.cell 2 rfl;have y3:w3.cell? (aD (w.heap.size+1) 3)=some (.bool v.gone):=(Qn.out.kept q4).y.cell 3 rfl;have hB0:w.heap.size<w3.heap.size:=Qn.out.x.1;have hB2:w.heap.size+1+1<w3.heap.size:=Qn.out.z.1;go_upto_region 12 with(at_builtin;refine wpList_append_own _ rfl (.tmp 55) (.tmp 57) 44 rfl w3.heap.size 76 i0 (.agg #[eS,iT 0,eS,.bool false]) 4 48 Tryz.underlying44 hi hy0 hy1 hy2 rfl (by decide) _ _ _ rfl hown5 (aD w3.heap.size 0) 1 1 v.cells rfl rfl ?c1 ?c2 ?c3 ?c4 ?c5 ?_));case c1=>exact fun j u h=>h);case c2=>rw[<-G5];exact Ii _);case c3=>unfold maxLen;omega);intro v' w' hown' hgrow _;obtain⟨Er,Bn,hv⟩:=Ac hown';subst hv;have hb':Below w3.heap.size w3 w':=HB4.out.grown hgrow HB4.out.size HB5.out;have p':gG w [.slice fo l.flushed.AB.length fc,iT l.flushed.water,.slice none l.now.AB.length 0,iT l.now.water,.bool l.pending,.bool l.dead,.bool l.late] [sT v.key,iT v.stamp,sT v.value,.bool v.gone] [nS,iT 0,nS,iT 0,.bool false,.bool false,.bool false] w':=Qn.out.kept ⟨hb'⟩;have HP':=h_ p';have mr:=h_ hown';have c0:w'.cell? (aD w.heap.size 0)=some (.slice fo l.flushed.AB.length fc):=p'.x.cell 0 rfl;have c1:w'.cell? (aD w.heap.size 1)=some (iT l.flushed.water):=p'.x.cell 1 rfl;have c2:w'.cell? (aD w.heap.size 2)=some (.slice none l.now.AB.length 0):=p'.x.cell 2 rfl;have c3:w'.cell? (aD w.heap.size 3)=some (iT l.now.water):=p'.x.cell 3 rfl;have c4:w'.cell? (aD w.heap.size 4)=some (.bool l.pending):=p'.x.cell 4 rfl;have c5:w'.cell? (aD w.heap.size 5)=some (.bool l.dead):=p'.x.cell 5 rfl;have c6:w'.cell? (aD w.heap.size 6)=some (.bool l.late):=p'.x.cell 6 rfl;have x2:w'.frozen? (aD w.heap.size 2)=false:=p'.x.free 2 rfl;have x4:w'.frozen? (aD w.heap.size 4)=false:=p'.x.free 4 rfl;have z0:w'.cell? (aD (w.heap.size+1+1) 0)=some nS:=p'.z.cell 0 rfl;have f0:w'.frozen? (aD (w.heap.size+1+1) 0)=false:=p'.z.free 0 rfl;have z1:w'.cell? (aD (w.heap.size+1+1) 1)=some (iT 0):=p'.z.cell 1 rfl;have f1:w'.frozen? (aD (w.heap.size+1+1) 1)=false:=p'.z.free 1 rfl;have z2:w'.cell? (aD (w.heap.size+1+1) 2)=some nS:=p'.z.cell 2 rfl;have f2:w'.frozen? (aD (w.heap.size+1+1) 2)=false:=p'.z.free 2 rfl;have z3:w'.cell? (aD (w.heap.size+1+1) 3)=some (iT 0):=p'.z.cell 3 rfl;have f3:w'.frozen? (aD (w.heap.size+1+1) 3)=false:=p'.z.free 3 rfl;have z4:w'.cell? (aD (w.heap.size+1+1) 4)=some (.bool false):=p'.z.cell 4 rfl;have f4:w'.frozen? (aD (w.heap.size+1+1) 4)=false:=p'.z.free 4 rfl;have z5:w'.cell? (aD (w.heap.size+1+1) 5)=some (.bool false):=p'.z.cell 5 rfl;have f5:w'.frozen? (aD (w.heap.size+1+1) 5)=false:=p'.z.free 5 rfl;have z6:w'.cell? (aD (w.heap.size+1+1) 6)=some (.bool false):=p'.z.cell 6 rfl;have f6:w'.frozen? (aD (w.heap.size+1+1) 6)=false:=p'.z.free 6 rfl;go_wp2_with fail;have hz:=((HP'.out.z.other (C:=w.heap.size) (by omega) 2 (.slice Er (1) Bn)).other (C:=w.heap.size) (by omega) 4 (.bool true)).TF (.slice fo l.flushed.AB.length fc) (iT l.flushed.water) (.slice Er (1) Bn) (iT l.now.water) (.bool true) (.bool l.dead) (.bool l.late);refine bodyPost_ret (v:=.tuple #[.agg #[.slice fo l.flushed.AB.length fc,iT l.flushed.water,.slice Er (1) Bn,iT l.now.water,.bool true,.bool l.dead,.bool l.late],iT 0]) (by simp[results,Tryz.results48,go_sem,hz.cell 0 rfl,hz.cell 1 rfl,hz.cell 2 rfl,hz.cell 3 rfl,hz.cell 4 rfl,hz.cell 5 rfl,hz.cell 6 rfl]) rfl ?_;have qz:=((HP'.out.q.setCell (p:=(aD w.heap.size 2)) (zLK _) (.slice Er (1) Bn)).setCell (p:=(aD w.heap.size 4)) (zLK _) (.bool true)).TF (B:=w.heap.size+1+1) (by omega) (.slice fo l.flushed.AB.length fc) (iT l.flushed.water) (.slice Er (1) Bn) (iT l.now.water) (.bool true) (.bool l.dead) (.bool l.late);have hrow:=ZO (B:=w.heap.size) (C:=w.heap.size+1+1) mr.out hB0 hB2 (.slice Er (1) Bn) (.bool true) (.slice fo l.flushed.AB.length fc) (iT l.flushed.water) (.slice Er (1) Bn) (iT l.now.water) (.bool true) (.bool l.dead) (.bool l.late);have hlen':(l.now.AB++[v]).length=1:=by rw[hne];rfl);have hxs':BV (l.now.AB++[v])=v.cells:=by rw[hne,zLb,G5]);rw[HR.out];exact⟨Er,Bn,by simp[AV,hlen'],VZ hrow hlen' hxs',fun hh=>by simp at hh,qz,Or.inr (fun a e=>Nat.le_of_lt (zLJ hB0 (ZP hrow e)))⟩
       .have hne':l.now.AB.length≠0:=fun e=>hne (zLN e);obtain⟨b,off,rfl⟩:∃b off,no=some (aD b off):=by
         obtain⟨b,off,e,_⟩:=HV.out.2 0 _ (zLH (Nat.pos_of_ne_zero hne'));exact⟨b,off,e⟩
        (((have hown:=World.ownsRow_nil w3 w3.heap.size 76 4;have HV3:=h_ (HV.out.kept Qn.out.q);have k1:∀j u,(BV l.now.AB)[j]?=some u->w3.cell? (((aD b off):Addr).add j)=some u:=HV3.out.OC;have tJ:=h_ k1;go_wp2_with(at_builtin;refine wpList_append_own _ rfl (.tmp 50) (.tmp 53) 44 rfl w3.heap.size 76 i0 (.agg #[eS,iT 0,eS,.bool false]) 4 48 Tryz.underlying44 hi hy0 hy1 hy2 rfl (by decide) _ _ _ rfl hown (aD b off) l.now.AB.length nc (BV l.now.AB) rfl (Ga _) tJ.out (Ii _) (by unfold maxLen;omega) (by omega) (zLK _) ?_);intro v1 w4 JF hg4 _;obtain⟨ao1,l7,hv⟩:=Ac JF;subst hv;have q4:Q w3 w4:=⟨(Below.refl _ _).grown hg4 (zLK _) (fun k hk=>by simp[Value.ownBlock]at hk)⟩;go_upto_region 11 with fail);have hown5:=own_below JF ((Q.refl w4).alloc #[sT v.key,iT v.stamp,sT v.value,.bool v.gone] 76).below;have zEX:w3.heap.size<=w4.heap.size:=q4.below.size;have HB4:Hid (Below w3.heap.size w3 (w4.alloc (.cells #[sT v.key,iT v.stamp,sT v.value,.bool v.gone] 76))):=q4.below.alloc q4.below.size _;have HB5:=h_ (Dx hown5);have y0:w4.cell? (aD (w.heap.size+1) 0)=some (sT v.key):=(Qn.out.kept q4).y.cell 0 rfl;have y1:w4.cell? (aD (w.heap.size+1) 1)=some (iT v.stamp):=(Qn.out.kept q4).y.cell 1 rfl;have y2:w4.cell? (aD (w.heap.size+1) 2)=some (sT v.value):=(Qn.out.kept q4).y.cell 2 rfl;have y3:w4.cell? (aD (w.heap.size+1) 3)=some (.bool v.gone):=(Qn.out.kept q4).y.cell 3 rfl;have hB0:w.heap.size<w3.heap.size:=Qn.out.x.1;have hB2:w.heap.size+1+1<w3.heap.size:=Qn.out.z.1;go_wp2_with(at_builtin;refine wpList_append_own _ rfl (.tmp 55) (.tmp 57) 44 rfl w3.heap.size 76 i0 (.agg #[eS,iT 0,eS,.bool false]) 4 48 Tryz.underlying44 hi hy0 hy1 hy2 rfl (by decide) _ _ _ rfl hown5 (aD w4.heap.size 0) 1 1 v.cells rfl rfl (Sq _ _ _) (by rw[<-G5];exact Ii _) (by unfold maxLen;omega) (by omega) (by simp;omega) ?_);intro v' w' hown' hgrow _;obtain⟨Er,Bn,hv⟩:=Ac hown';subst hv;have hb':Below w3.heap.size w3 w':=HB4.out.grown hgrow HB4.out.size HB5.out;have p':gG w [.slice fo l.flushed.AB.length fc,iT l.flushed.water,.slice (some (aD b off)) l.now.AB.length nc,iT l.now.water,.bool l.pending,.bool l.dead,.bool l.late] [sT v.key,iT v.stamp,sT v.value,.bool v.gone] [nS,iT 0,nS,iT 0,.bool false,.bool false,.bool false] w':=Qn.out.kept ⟨hb'⟩;have HP':=h_ p';have mr:=h_ hown';have c0:w'.cell? (aD w.heap.size 0)=some (.slice fo l.flushed.AB.length fc):=p'.x.cell 0 rfl;have c1:w'.cell? (aD w.heap.size 1)=some (iT l.flushed.water):=p'.x.cell 1 rfl;have c2:w'.cell? (aD w.heap.size 2)=some (.slice (some (aD b off)) l.now.AB.length nc):=p'.x.cell 2 rfl;have c3:w'.cell? (aD w.heap.size 3)=some (iT l.now.water):=p'.x.cell 3 rfl;have c4:w'.cell? (aD w.heap.size 4)=some (.bool l.pending):=p'.x.cell 4 rfl;have c5:w'.cell? (aD w.heap.size 5)=some (.bool l.dead):=p'.x.cell 5 rfl;have c6:w'.cell? (aD w.heap.size 6)=some (.bool l.late):=p'.x.cell 6 rfl;have x2:w'.frozen? (aD w.heap.size 2)=false:=p'.x.free 2 rfl;have x4:w'.frozen? (aD w.heap.size 4)=false:=p'.x.free 4 rfl;have z0:w'.cell? (aD (w.heap.size+1+1) 0)=some nS:=p'.z.cell 0 rfl;have f0:w'.frozen? (aD (w.heap.size+1+1) 0)=false:=p'.z.free 0 rfl;have z1:w'.cell? (aD (w.heap.size+1+1) 1)=some (iT 0):=p'.z.cell 1 rfl;have f1:w'.frozen? (aD (w.heap.size+1+1) 1)=false:=p'.z.free 1 rfl;have z2:w'.cell? (aD (w.heap.size+1+1) 2)=some nS:=p'.z.cell 2 rfl;have f2:w'.frozen? (aD (w.heap.size+1+1) 2)=false:=p'.z.free 2 rfl;have z3:w'.cell? (aD (w.heap.size+1+1) 3)=some (iT 0):=p'.z.cell 3 rfl;have f3:w'.frozen? (aD (w.heap.size+1+1) 3)=false:=p'.z.free 3 rfl;have z4:w'.cell? (aD (w.heap.size+1+1) 4)=some (.bool false):=p'.z.cell 4 rfl;have f4:w'.frozen? (aD (w.heap.size+1+1) 4)=false:=p'.z.free 4 rfl;have z5:w'.cell? (aD (w.heap.size+1+1) 5)=some (.bool false):=p'.z.cell 5 rfl;have f5:w'.frozen? (aD (w.heap.size+1+1) 5)=false:=p'.z.free 5 rfl;have z6:w'.cell? (aD (w.heap.size+1+1) 6)=some (.bool false):=p'.z.cell 6 rfl;have f6:w'.frozen? (aD (w.heap.size+1+1) 6)=false:=p'.z.free 6 rfl;go_wp2_with fail;have hz:=((HP'.out.z.other (C:=w.heap.size) (by omega) 2 (.slice Er (l.now.AB.length+1) Bn)).other (C:=w.heap.size) (by omega) 4 (.bool true)).TF (.slice fo l.flushed.AB.length fc) (iT l.flushed.water) (.slice Er (l.now.AB.length+1) Bn) (iT l.now.water) (.bool true) (.bool l.dead) (.bool l.late);refine bodyPost_ret (v:=.tuple #[.agg #[.slice fo l.flushed.AB.length fc,iT l.flushed.water,.slice Er (l.now.AB.length+1) Bn,iT l.now.water,.bool true,.bool l.dead,.bool l.late],iT 0]) (by simp[results,Tryz.results48,go_sem,hz.cell 0 rfl,hz.cell 1 rfl,hz.cell 2 rfl,hz.cell 3 rfl,hz.cell 4 rfl,hz.cell 5 rfl,hz.cell 6 rfl]) rfl ?_;have qz:=((HP'.out.q.setCell (p:=(aD w.heap.size 2)) (zLK _) (.slice Er (l.now.AB.length+1) Bn)).setCell (p:=(aD w.heap.size 4)) (zLK _) (.bool true)).TF (B:=w.heap.size+1+1) (by omega) (.slice fo l.flushed.AB.length fc) (iT l.flushed.water) (.slice Er (l.now.AB.length+1) Bn) (iT l.now.water) (.bool true) (.bool l.dead) (.bool l.late);have hrow:=ZO (B:=w.heap.size) (C:=w.heap.size+1+1) mr.out hB0 hB2 (.slice Er (l.now.AB.length+1) Bn) (.bool true) (.slice fo l.flushed.AB.length fc) (iT l.flushed.water) (.slice Er (l.now.AB.length+1) Bn) (iT l.now.water) (.bool true) (.bool l.dead) (.bool l.late);have hlen':(l.now.AB++[v]).length=l.now.AB.length+1:=by simp);have hxs':BV (l.now.AB++[v])=BV l.now.AB++v.cells:=by rw[Oi,G5]);rw[HR.out];exact⟨Er,Bn,by simp[AV,hlen'],VZ hrow hlen' hxs',fun hh=>by simp at hh,qz,Or.inr (fun a e=>Nat.le_of_lt (zLJ hB0 (ZP hrow e)))⟩
 .have h1:¬((a:Int)=0):=by omega
  go_wp2_with fail;have hz:=tC.out.z.TF (.slice fo l.flushed.AB.length fc) (iT l.flushed.water) (.slice no l.now.AB.length nc) (iT l.now.water) (.bool l.pending) (.bool l.dead) (.bool l.late);refine bodyPost_ret (v:=.tuple #[.agg #[.slice fo l.flushed.AB.length fc,iT l.flushed.water,.slice no l.now.AB.length nc,iT l.now.water,.bool l.pending,.bool l.dead,.bool l.late],iT (a:Nat)]) (by simp[results,Tryz.results48,go_sem,hz.cell 0 rfl,hz.cell 1 rfl,hz.cell 2 rfl,hz.cell 3 rfl,hz.cell 4 rfl,hz.cell 5 rfl,hz.cell 6 rfl]) rfl ?_;have qz:=tC.out.q.TF (B:=w.heap.size+1+1) (by omega) (.slice fo l.flushed.AB.length fc) (iT l.flushed.water) (.slice no l.now.AB.length nc) (iT l.now.water) (.bool l.pending) (.bool l.dead) (.bool l.late);have hr:l.put v=(l,a):=by unfold M.Lif.put;rw[if_pos (by rw[HA.out];exact ha),HA.out]
  rw[hr];exact⟨no,nc,rfl,HV.out.kept qz,Yx.out,qz,Or.inl rfl⟩
theorem jT(fo no:Option Addr)(fc nc:Nat)(l:M.Lif)(stamp:Int)(w:World):
  Calls Tryz.prog 52 #[.agg (AV fo no fc nc l),iT stamp] w fun e w'=>e=.returned (.tuple #[.agg (AV fo no fc nc (l.raise stamp).1),iT ((l.raise stamp).2:Nat)])/\Q w w':=by
 have hr:l.raise stamp=if l.dead then(l,10)else if stamp<l.now.water\/1099511627776<stamp then(l,12)else({ l with now:=⟨l.now.AB,stamp⟩,pending:=l.pending || decide (l.now.water<stamp)},0):=rfl
 have HR:Hid _:=hr;clear hr;obtain⟨r,hrr⟩:=xe (l.raise stamp);rw[hrr]at HR⊢;clear hrr;unfold AV;go_in
 cases hd:l.dead with
 |true =>
  have h:=HR.out;rw[if_pos hd]at h;subst h;clear HR;go_wp2_with fail;refine bodyPost_ret (v:=.tuple #[.agg (AV fo no fc nc l),iT 10]) (by simp[results,Tryz.results52,go_sem,AV,hd]) rfl ?_;exact⟨by simp[AV,hd],((Q.refl w).alloc _ _).alloc _ _⟩
 |false =>
  by_cases h1:stamp<l.now.water
  .have h:=HR.out;rw[if_neg (by simp[hd]),if_pos (Or.inl h1)]at h;subst h;clear HR;go_wp2_with fail;refine bodyPost_ret (v:=.tuple #[.agg (AV fo no fc nc l),iT 12]) (by simp[results,Tryz.results52,go_sem,AV,hd]) rfl ?_;exact⟨by simp[AV,hd],((Q.refl w).alloc _ _).alloc _ _⟩
  .by_cases h2:1099511627776<stamp
   .have h:=HR.out;rw[if_neg (by simp[hd]),if_pos (Or.inr h2)]at h;subst h;clear HR;go_wp2_with fail;refine bodyPost_ret (v:=.tuple #[.agg (AV fo no fc nc l),iT 12]) (by simp[results,Tryz.results52,go_sem,AV,hd]) rfl ?_;exact⟨by simp[AV,hd],((Q.refl w).alloc _ _).alloc _ _⟩
   .have h:=HR.out;rw[if_neg (by simp[hd]),if_neg (by omega)]at h;subst h;clear HR
    cases hp:l.pending with
    |true =>
     go_wp2_with fail;refine bodyPost_ret (v:=.tuple #[.agg #[.slice fo l.flushed.AB.length fc,iT l.flushed.water,.slice no l.now.AB.length nc,iT stamp,.bool true,.bool false,.bool l.late],iT 0]) (by simp[results,Tryz.results52,go_sem]) rfl ?_;exact⟨by simp,((Q.refl w).alloc _ _).alloc _ _⟩
    |false =>
     go_wp2_with fail;refine bodyPost_ret (v:=.tuple #[.agg #[.slice fo l.flushed.AB.length fc,iT l.flushed.water,.slice no l.now.AB.length nc,iT stamp,.bool (decide (l.now.water<stamp)),.bool false,.bool l.late],iT 0]) (by simp[results,Tryz.results52,go_sem]) rfl ?_;exact⟨by simp,((Q.refl w).alloc _ _).alloc _ _⟩
theorem jW(fo no:Option Addr)(fc nc:Nat)(l:M.Lif)(e:Int)(dead:Bool)(hd:l.dead=false)(hdd:dead=false)(w:World):
  Calls Tryz.prog 54 #[.agg (AV fo no fc nc l),iT e,.bool dead] w fun en w'=>en=.returned (.tuple #[.agg (if e=0 then AV no no nc nc (l.flush e dead).1 else AV fo no fc nc (l.flush e dead).1),.bool (l.flush e dead).2])/\Q w w':=by
 subst hdd;have hr:l.flush e false=(if e=0 then{ l with flushed:=l.now,pending:=false }else l,decide (e=0\/e=9\/e=3)):=by unfold M.Lif.flush;rw[if_neg (by simp[hd])];rfl
 have HR:Hid _:=hr;clear hr;obtain⟨r,hrr⟩:=xe (l.flush e false);rw[hrr]at HR⊢;clear hrr;by_cases h0:e=0
 .subst h0;have h:=HR.out;rw[if_pos rfl]at h;subst h;clear HR;unfold AV;go_in;go_wp2_with fail;refine bodyPost_ret (v:=.tuple #[.agg #[.slice no l.now.AB.length nc,iT l.now.water,.slice no l.now.AB.length nc,iT l.now.water,.bool false,.bool false,.bool l.late],.bool true]) (by simp[results,Tryz.results54,go_sem]) rfl ?_;exact⟨by simp,((Q.refl w).alloc _ _).alloc _ _⟩
 .have h:=HR.out;rw[if_neg h0]at h;subst h;clear HR;rw[if_neg h0];unfold AV;by_cases h9:e=9
  .subst h9;go_in;go_wp2_with fail;refine bodyPost_ret (v:=.tuple #[.agg #[.slice fo l.flushed.AB.length fc,iT l.flushed.water,.slice no l.now.AB.length nc,iT l.now.water,.bool l.pending,.bool false,.bool l.late],.bool true]) (by simp[results,Tryz.results54,go_sem]) rfl ?_;exact⟨by simp[hd],((Q.refl w).alloc _ _).alloc _ _⟩
  .by_cases h3:e=3
   .subst h3;go_in;go_wp2_with fail;refine bodyPost_ret (v:=.tuple #[.agg #[.slice fo l.flushed.AB.length fc,iT l.flushed.water,.slice no l.now.AB.length nc,iT l.now.water,.bool l.pending,.bool false,.bool l.late],.bool true]) (by simp[results,Tryz.results54,go_sem]) rfl ?_;exact⟨by simp[hd],((Q.refl w).alloc _ _).alloc _ _⟩
   ·(((have g0:(e==0)=false:=by simp[h0]);have g9:(e==9)=false:=by simp[h9]);have g3:(e==3)=false:=by simp[h3]);go_in;go_wp2_with fail;refine bodyPost_ret (v:=.tuple #[.agg #[.slice fo l.flushed.AB.length fc,iT l.flushed.water,.slice no l.now.AB.length nc,iT l.now.water,.bool l.pending,.bool false,.bool l.late],.bool false]) (by simp[results,Tryz.results54,go_sem]) rfl ?_;exact⟨by simp[hd,h0,h9,h3],((Q.refl w).alloc _ _).alloc _ _⟩
theorem YA(fo no:Option Addr)(fc nc:Nat)(l:M.Lif)(e:Int)(dead:Bool)(hd:l.dead=false)(hdd:dead=false)(w:World):
  Calls Tryz.prog 57 #[.agg (AV fo no fc nc l),iT e,.bool dead] w fun en w'=>en=.returned (.tuple #[.agg (AV fo no fc nc l),.bool (l.compact e dead).2])/\Q w w':=by
 subst hdd;have hr:(l.compact e false).2=if l.pending then decide (e=13)else decide (e=0\/e=9\/e=3):=by
  unfold M.Lif.compact;rw[if_neg (by simp[hd]),if_neg (by simp)];split<;>rfl
 rw[hr];clear hr;unfold AV
 cases hp:l.pending with
 |true =>
  rw[if_pos rfl];by_cases h13:e=13
  .subst h13;go_in;go_wp2_with fail;refine bodyPost_ret (v:=.tuple #[.agg #[.slice fo l.flushed.AB.length fc,iT l.flushed.water,.slice no l.now.AB.length nc,iT l.now.water,.bool true,.bool false,.bool l.late],.bool true]) (by simp[results,Tryz.results57,go_sem]) rfl ?_;exact⟨by simp[hd],((Q.refl w).alloc _ _).alloc _ _⟩
  .have g13:(e==13)=false:=by simp[h13]
   go_in;go_wp2_with fail;refine bodyPost_ret (v:=.tuple #[.agg #[.slice fo l.flushed.AB.length fc,iT l.flushed.water,.slice no l.now.AB.length nc,iT l.now.water,.bool true,.bool false,.bool l.late],.bool false]) (by simp[results,Tryz.results57,go_sem]) rfl ?_;exact⟨by simp[hd,h13],((Q.refl w).alloc _ _).alloc _ _⟩
 |false =>
  rw[if_neg (by simp)];by_cases h0:e=0
  .subst h0;go_in;go_wp2_with fail;refine bodyPost_ret (v:=.tuple #[.agg #[.slice fo l.flushed.AB.length fc,iT l.flushed.water,.slice no l.now.AB.length nc,iT l.now.water,.bool false,.bool false,.bool l.late],.bool true]) (by simp[results,Tryz.results57,go_sem]) rfl ?_;exact⟨by simp[hd],((Q.refl w).alloc _ _).alloc _ _⟩
  .have g0:(e==0)=false:=by simp[h0]
   by_cases h9:e=9
   .subst h9;go_in;go_wp2_with fail;refine bodyPost_ret (v:=.tuple #[.agg #[.slice fo l.flushed.AB.length fc,iT l.flushed.water,.slice no l.now.AB.length nc,iT l.now.water,.bool false,.bool false,.bool l.late],.bool true]) (by simp[results,Tryz.results57,go_sem]) rfl ?_;exact⟨by simp[hd],((Q.refl w).alloc _ _).alloc _ _⟩
   ·(have g9:(e==9)=false:=by simp[h9]);by_cases h3:e=3
    .subst h3;go_in;go_wp2_with fail;refine bodyPost_ret (v:=.tuple #[.agg #[.slice fo l.flushed.AB.length fc,iT l.flushed.water,.slice no l.now.AB.length nc,iT l.now.water,.bool false,.bool false,.bool l.late],.bool true]) (by simp[results,Tryz.results57,go_sem]) rfl ?_;exact⟨by simp[hd],((Q.refl w).alloc _ _).alloc _ _⟩
    ·(have g3:(e==3)=false:=by simp[h3]);go_in;go_wp2_with fail;refine bodyPost_ret (v:=.tuple #[.agg #[.slice fo l.flushed.AB.length fc,iT l.flushed.water,.slice no l.now.AB.length nc,iT l.now.water,.bool false,.bool false,.bool l.late],.bool false]) (by simp[results,Tryz.results57,go_sem]) rfl ?_;exact⟨by simp[hd,h0,h9,h3],((Q.refl w).alloc _ _).alloc _ _⟩
theorem jV(w:World):Calls Tryz.prog 11 #[] w fun e w'=>e=.returned (.agg #[nS,iT (-1)])/\Q w w':=by
 go_in;go_wp2_with fail;refine bodyPost_ret (v:=.agg #[nS,iT (-1)]) (by simp[results,Tryz.results11,go_sem]) rfl ?_;exact⟨rfl,(Q.refl w).alloc _ _⟩
theorem bT(vo:Option Addr)(vc:Nat)(s:M.Sta)(v:M.Ver)(hl:s.AB.length<=140737488355328)(w:World)(h:Cq w vo s.AB):
  Calls Tryz.prog 85 #[.agg #[.slice vo s.AB.length vc,iT s.water],FK v] w fun e w'=>e=.returned (.bool (s.needed v))/\Q w w':=by
 have yu:Hid (∀W,Q w W->Calls Tryz.prog 78 #[.agg #[.slice vo s.AB.length vc,iT s.water],sT v.key,iT s.water] W fun e w'=>e=.returned (.tuple #[FK (s.at v.key s.water),.bool (decide (0<=(s.at v.key s.water).stamp))])/\Q W w'):=fun W q=>uE vo vc s v.key s.water hl W (h.kept q);have HN:Hid (s.needed v=(decide (s.water<v.stamp) || (decide ((s.at v.key s.water).stamp=v.stamp) && !v.gone))):=rfl;obtain⟨u,hu⟩:=xe (s.at v.key s.water);rw[hu]at yu HN;obtain⟨r,hr⟩:=xe (s.needed v);rw[hr]at HN⊢;clear hu hr h;unfold FK at*;go_in;by_cases h1:s.water<v.stamp
 .go_wp2;go_ret;exact⟨by rw[HN.out];simp[h1],((Q.refl w).alloc _ _).alloc _ _⟩
 .obtain⟨wa,Bp⟩:=ex ((w.alloc (.cells #[.slice vo s.AB.length vc,iT s.water] 46)).alloc (.cells #[sT v.key,iT v.stamp,sT v.value,.bool v.gone] 76));have HQ:Hid (Q w wa):=by rw[Bp];exact((Q.refl w).alloc _ _).alloc _ _
  have HC:=hU (yu.out wa HQ.out);have y:Ca wa (w.heap.size+1) [sT v.key,iT v.stamp,sT v.value,.bool v.gone]:=by
   have:=AZ (w.alloc (.cells #[.slice vo s.AB.length vc,iT s.water] 46)) [sT v.key,iT v.stamp,sT v.value,.bool v.gone] 76;rw[Bp];simpa using this
  have HY:=h_ y;rw[Bp]at HC;have HWA:=h_ Bp;clear Bp y yu;go_wp2_with fail;apply(HC.out ()).mono;rintro e w2⟨rfl,q2⟩;rw[<-HWA.out]at q2;have y1:w2.cell? (aD (w.heap.size+1) 1)=some (iT v.stamp):=(HY.out.kept q2).cell 1 rfl;have y3:w2.cell? (aD (w.heap.size+1) 3)=some (.bool v.gone):=(HY.out.kept q2).cell 3 rfl;have hsz:w.heap.size+1<w2.heap.size:=(HY.out.kept q2).1;have fJ:=h_ (HQ.out.trans q2);clear q2 HC HY HWA HQ;by_cases h2:u.stamp=v.stamp
  .have g2:(u.stamp==v.stamp)=true:=by simp[h2]
   cases hg:v.gone with
   |true =>
    go_wp2;go_ret;exact⟨by rw[HN.out];simp[h1,h2,hg],fJ.out.alloc _ _⟩
   |false =>
    go_wp2;go_ret;exact⟨by rw[HN.out];simp[h2,hg],fJ.out.alloc _ _⟩
  .have g2:(u.stamp==v.stamp)=false:=by simp[h2]
   go_wp2;go_ret;exact⟨by rw[HN.out];simp[h1,h2],fJ.out.alloc _ _⟩
theorem oG{fs:List M.Ver}{k:Nat}{f:M.Ver}(g:M.Ver->Nat)(h:fs[k]?=some f):((fs.take (k+1)).map g).sum=((fs.take k).map g).sum+g f:=by
 have e:fs.take (k+1)=fs.take k++[f]:=by rw[zLv,h];rfl
 rw[e];simp
theorem XY(fs:List M.Ver)(k:Nat)(g:M.Ver->Nat):((fs.take k).map g).sum<=(fs.map g).sum:=by
 have e:fs=fs.take k++fs.drop k:=(zLq k fs).symm;have h2:(fs.map g).sum=((fs.take k).map g).sum+((fs.drop k).map g).sum:=by
  conv=>lhs;rw[e]
  rw[List.map_append,List.sum_append]
 omega
theorem pX(fo no:Option Addr)(fc nc:Nat)(l:M.Lif)(hl:l.now.AB.length<=140737488355328)(hb:l.lean<=4611686018427387904)(hz:∀v∈l.now.AB,v.key.size<=140737488355328/\v.value.size<=140737488355328)(w:World)(h:Cq w no l.now.AB):
  Calls Tryz.prog 58 #[.agg (AV fo no fc nc l)] w fun e w'=>e=.returned (iT (l.lean:Nat))/\Q w w':=by
 have HNd:Hid (∀W v,Q w W->Calls Tryz.prog 85 #[.agg #[.slice no l.now.AB.length nc,iT l.now.water],FK v] W fun e w'=>e=.returned (.bool (l.now.needed v))/\Q W w'):=fun W v q=>bT no nc l.now v hl W (h.kept q);have HV:=h_ h;have HZ:=h_ hz;have HB:=h_ hb;unfold AV FK at*;obtain⟨wa,Bp⟩:=ex (w.alloc (.cells #[.slice fo l.flushed.AB.length fc,iT l.flushed.water,.slice no l.now.AB.length nc,iT l.now.water,.bool l.pending,.bool l.dead,.bool l.late] 49));have HQ:Hid (Q w wa):=by rw[Bp];exact(Q.refl w).alloc _ _
 have HX:Hid (Ca wa w.heap.size [.slice fo l.flushed.AB.length fc,iT l.flushed.water,.slice no l.now.AB.length nc,iT l.now.water,.bool l.pending,.bool l.dead,.bool l.late]):=by rw[Bp];exact AZ w _ _
 have HW:=h_ Bp;go_in;go_wp2_with fail;rw[<-HW.out]
 go_loopw [3,4] (fun n i wr=>∃k:Nat,i=iT k/\k<=l.now.AB.length/\n=iT ((1024+((l.now.AB.take k).map l.now.weight).sum:Nat):Int)/\Q wa wr) (fun _ i _=>l.now.AB.length-(intOf i).toNat)
 case atStart=>exact⟨0,rfl,zLS _,rfl,Q.refl _⟩
 case round =>
  obtain⟨k,rfl,hk,rfl,hq⟩:=hrel;have HQr:=h_ hq;have x2:wr.cell? (aD w.heap.size 2)=some (.slice no l.now.AB.length nc):=(HX.out.kept hq).cell 2 rfl;have x3:wr.cell? (aD w.heap.size 3)=some (iT l.now.water):=(HX.out.kept hq).cell 3 rfl;have hwr:w.heap.size<wr.heap.size:=(HX.out.kept hq).1;by_cases hlt:k<l.now.AB.length
  .have hf:l.now.AB[k]?=some l.now.AB[k]:=zLH hlt;obtain⟨b,off,hso,hbw,c0,c1,c2,c3⟩:=(HV.out.kept (HQ.out.trans hq)).2 k _ hf;subst hso;have HN:=h_ (oG l.now.weight hf);have hle:=XY l.now.AB (k+1) l.now.weight;obtain⟨hz1,hz2⟩:=HZ.out _ (List.getElem_mem hlt);have hbb:1024+(l.now.AB.map l.now.weight).sum<=4611686018427387904:=HB.out;rw[HN.out]at hle;have i1:(k:Int)<(l.now.AB.length:Int):=by omega
   ((have i0:(0:Int)<=(k:Int):=by omega);have wk:IntKind.i64.wrap ((k:Int)+1)=(k:Int)+1:=by rw[IntKind.wrap_i64];omega);generalize l.now.AB[k]=v at*;have q1:Q wr (wr.alloc (.cells #[sT v.key,iT v.stamp,sT v.value,.bool v.gone] 76)):=(Q.refl _).alloc _ _;have HC:=hU (HNd.out (wr.alloc (.cells #[sT v.key,iT v.stamp,sT v.value,.bool v.gone] 76)) v ((HQ.out.trans hq).trans q1));have HY:Hid (Ca (wr.alloc (.cells #[sT v.key,iT v.stamp,sT v.value,.bool v.gone] 76)) wr.heap.size [sT v.key,iT v.stamp,sT v.value,.bool v.gone]):=AZ wr _ _;have Qp:=h_ q1;have HWt:Hid (l.now.weight v=if l.now.needed v then 64+2*(v.key.size+v.value.size)else 0):=rfl;generalize l.now.weight v=wt at*;generalize ((l.now.AB.take k).map l.now.weight).sum=S at*;go_wp2_with fail;apply(HC.out ()).mono;rintro e w2⟨rfl,q2⟩;have y0:w2.cell? (aD wr.heap.size 0)=some (sT v.key):=(HY.out.kept q2).cell 0 rfl;have y2:w2.cell? (aD wr.heap.size 2)=some (sT v.value):=(HY.out.kept q2).cell 2 rfl;have fJ:=h_ ((HQr.out.trans Qp.out).trans q2);have hWt:=HWt.out
   cases hnd:l.now.needed v with
   |true =>
    ((rw[hnd,if_pos rfl]at hWt;have e1:IntKind.i64.wrap ((v.key.size:Int)+(v.value.size:Int))=(v.key.size:Int)+(v.value.size:Int):=by rw[IntKind.wrap_i64];omega);have e2:IntKind.i64.wrap (2*((v.key.size:Int)+(v.value.size:Int)))=2*((v.key.size:Int)+(v.value.size:Int)):=by rw[IntKind.wrap_i64];omega);go_wp2_with fail;exact⟨⟨k+1,by go_num,by omega,congrArg (Value.int .i64) (by rw[HN.out];omega),fJ.out⟩,by simp[intOf];omega⟩
   |false =>
    rw[hnd,if_neg (by simp)]at hWt;go_wp2_with fail;exact⟨⟨k+1,by go_num,by omega,congrArg (Value.int .i64) (by rw[HN.out];omega),fJ.out⟩,by simp[intOf];omega⟩
  .obtain rfl:k=l.now.AB.length:=by omega
   go_wp2;go_ret;exact⟨by unfold M.Lif.lean;rw[zM0];rfl,HQ.out.trans hq⟩
theorem Qz(fo no:Option Addr)(fc nc:Nat)(l:M.Lif)(e:Int)(dead:Bool)(h:l.dead=true\/dead=true)(w:World):
  Calls Tryz.prog 54 #[.agg (AV fo no fc nc l),iT e,.bool dead] w fun en w'=>en=.returned (.tuple #[.agg (AV fo no fc nc (l.flush e dead).1),.bool (l.flush e dead).2])/\Q w w':=by
 cases hd:l.dead with
 |true =>
  have hr:l.flush e dead=(l,decide (e=10)):=by unfold M.Lif.flush;rw[if_pos (by simp[hd])]
  rw[hr];clear hr h;unfold AV;rw[hd];by_cases h10:e=10
  .subst h10;go_in;go_wp2_with fail;refine bodyPost_ret (v:=.tuple #[.agg #[.slice fo l.flushed.AB.length fc,iT l.flushed.water,.slice no l.now.AB.length nc,iT l.now.water,.bool l.pending,.bool true,.bool l.late],.bool true]) (by simp[results,Tryz.results54,go_sem]) rfl ?_;exact⟨by simp,((Q.refl w).alloc _ _).alloc _ _⟩
  .have g10:(e==10)=false:=by simp[h10]
   go_in;go_wp2_with fail;refine bodyPost_ret (v:=.tuple #[.agg #[.slice fo l.flushed.AB.length fc,iT l.flushed.water,.slice no l.now.AB.length nc,iT l.now.water,.bool l.pending,.bool true,.bool l.late],.bool false]) (by simp[results,Tryz.results54,go_sem]) rfl ?_;exact⟨by simp[h10],((Q.refl w).alloc _ _).alloc _ _⟩
 |false =>
  have hdd:dead=true:=by
   rcases h with e|e
   .rw[hd]at e;cases e
   .exact e
  subst hdd;have hr:l.flush e true=({ l with dead:=true,late:=true },decide (e=10)):=by unfold M.Lif.flush;rw[if_neg (by simp[hd]),if_pos rfl]
  rw[hr];clear hr h;unfold AV;rw[hd];by_cases h10:e=10
  .subst h10;go_in;go_wp2_with fail;refine bodyPost_ret (v:=.tuple #[.agg #[.slice fo l.flushed.AB.length fc,iT l.flushed.water,.slice no l.now.AB.length nc,iT l.now.water,.bool l.pending,.bool true,.bool true],.bool true]) (by simp[results,Tryz.results54,go_sem]) rfl ?_;exact⟨by simp,((Q.refl w).alloc _ _).alloc _ _⟩
  .have g10:(e==10)=false:=by simp[h10]
   go_in;go_wp2_with fail;refine bodyPost_ret (v:=.tuple #[.agg #[.slice fo l.flushed.AB.length fc,iT l.flushed.water,.slice no l.now.AB.length nc,iT l.now.water,.bool l.pending,.bool true,.bool true],.bool false]) (by simp[results,Tryz.results54,go_sem]) rfl ?_;exact⟨by simp[h10],((Q.refl w).alloc _ _).alloc _ _⟩
theorem N8(fo no:Option Addr)(fc nc:Nat)(l:M.Lif)(e:Int)(dead:Bool)(h:l.dead=true\/dead=true)(w:World):
  Calls Tryz.prog 57 #[.agg (AV fo no fc nc l),iT e,.bool dead] w fun en w'=>en=.returned (.tuple #[.agg (AV fo no fc nc (l.compact e dead).1),.bool (l.compact e dead).2])/\Q w w':=by
 cases hd:l.dead with
 |true =>
  have hr:l.compact e dead=(l,decide (e=10)):=by unfold M.Lif.compact;rw[if_pos (by simp[hd])]
  rw[hr];clear hr h;unfold AV;rw[hd];by_cases h10:e=10
  .subst h10;go_in;go_wp2_with fail;refine bodyPost_ret (v:=.tuple #[.agg #[.slice fo l.flushed.AB.length fc,iT l.flushed.water,.slice no l.now.AB.length nc,iT l.now.water,.bool l.pending,.bool true,.bool l.late],.bool true]) (by simp[results,Tryz.results57,go_sem]) rfl ?_;exact⟨by simp,((Q.refl w).alloc _ _).alloc _ _⟩
  .have g10:(e==10)=false:=by simp[h10]
   go_in;go_wp2_with fail;refine bodyPost_ret (v:=.tuple #[.agg #[.slice fo l.flushed.AB.length fc,iT l.flushed.water,.slice no l.now.AB.length nc,iT l.now.water,.bool l.pending,.bool true,.bool l.late],.bool false]) (by simp[results,Tryz.results57,go_sem]) rfl ?_;exact⟨by simp[h10],((Q.refl w).alloc _ _).alloc _ _⟩
 |false =>
  have hdd:dead=true:=by
   rcases h with e|e
   .rw[hd]at e;cases e
   .exact e
  subst hdd;have hr:l.compact e true=({ l with dead:=true },decide (e=10) && !l.pending):=by unfold M.Lif.compact;rw[if_neg (by simp[hd]),if_pos rfl]
  rw[hr];clear hr h;unfold AV;rw[hd];by_cases h10:e=10
  .subst h10
   cases hp:l.pending with
   |true =>
    go_in;go_wp2_with fail
    go_region
    go_wp2_with fail;refine bodyPost_ret (v:=.tuple #[.agg #[.slice fo l.flushed.AB.length fc,iT l.flushed.water,.slice no l.now.AB.length nc,iT l.now.water,.bool true,.bool true,.bool l.late],.bool false]) (by simp[results,Tryz.results57,go_sem]) rfl ?_;exact⟨by simp,(((Q.refl w).alloc _ _).alloc _ _).drewN _⟩
   |false =>
    go_in;go_wp2_with fail
    go_region
    go_wp2_with fail;refine bodyPost_ret (v:=.tuple #[.agg #[.slice fo l.flushed.AB.length fc,iT l.flushed.water,.slice no l.now.AB.length nc,iT l.now.water,.bool false,.bool true,.bool l.late],.bool true]) (by simp[results,Tryz.results57,go_sem]) rfl ?_;exact⟨by simp,(((Q.refl w).alloc _ _).alloc _ _).drewN _⟩
  .have g10:(e==10)=false:=by simp[h10]
   go_in;go_wp2_with fail
   go_region
   go_wp2_with fail;refine bodyPost_ret (v:=.tuple #[.agg #[.slice fo l.flushed.AB.length fc,iT l.flushed.water,.slice no l.now.AB.length nc,iT l.now.water,.bool l.pending,.bool true,.bool l.late],.bool false]) (by simp[results,Tryz.results57,go_sem]) rfl ?_;exact⟨by simp[h10],(((Q.refl w).alloc _ _).alloc _ _).drewN _⟩
structure LV where
 fo:Option Addr
 no:Option Addr
 fc:Nat
 nc:Nat
 l:M.Lif
def LV.cells(x:LV):List Value:=Gh x.fo x.no x.fc x.nc x.l
def Bj(L:List LV):List Value:=(L.map LV.cells).flatten
theorem Vq(L:List LV)(x:LV):Bj (L++[x])=Bj L++x.cells:=by simp[Bj]
theorem Pn(x:LV):x.cells.length=7:=rfl
theorem Fq:∀L:List LV,(Bj L).length=L.length*7
 |[]=>rfl
 |x::L=>by
  have e:Bj (x::L)=x.cells++Bj L:=by simp[Bj]
  rw[e,zLL,Fq L,Pn,zLQ];omega
theorem Mq:∀{L:List LV}{i:Nat}{x:LV}(j:Nat),L[i]?=some x->j<7->(Bj L)[i*7+j]?=x.cells[j]?
 |[],i,x,j,h,_=>by simp at h
 |y::L,0,x,j,h,hj=>by
  simp only[zLY,zLO]at h;subst h;have e:Bj (y::L)=y.cells++Bj L:=by simp[Bj]
  rw[e,Nat.zero_mul,zLk,zMA (by rw[Pn];omega)]
 |y::L,i+1,x,j,h,hj=>by
  have e:Bj (y::L)=y.cells++Bj L:=by simp[Bj]
  rw[e,zMB (by rw[Pn];omega),Pn];have:=Mq (L:=L) (i:=i) (x:=x) j (by simpa using h) hj;rw[<-this];congr 1;omega
structure LV.At(w:World)(x:LV):Prop where
 f:Cq w x.fo x.l.flushed.AB
 n:Cq w x.no x.l.now.AB
 fz:x.l.flushed.AB=[]->x.fo=none/\x.fc=0
 nz:x.l.now.AB=[]->x.no=none/\x.nc=0
theorem LV.At.kept{w w':World}{x:LV}(h:x.At w)(q:Q w w'):x.At w':=⟨h.f.kept q,h.n.kept q,h.fz,h.nz⟩
structure Dw(w:World)(ao:Option Addr)(L:List LV):Prop where
 all:∀x∈L,x.At w
 row:∀(i:Nat)(x:LV),L[i]?=some x->∃g,ao=some (aD g 0)/\g<w.heap.size/\∀(j:Nat)(v:Value),x.cells[j]?=some v->w.cell? (aD g (i*7+j))=some v
theorem Dw.kept{w w':World}{ao:Option Addr}{L:List LV}(h:Dw w ao L)(q:Q w w'):Dw w' ao L:=
 ⟨fun x hx=>(h.all x hx).kept q,fun i x hi=>by
  obtain⟨g,e,hg,hc⟩:=h.row i x hi;exact⟨g,e,zLJ hg q.below.size,fun j v hv=>AA (hc j v hv) q⟩⟩
theorem Va{cap:Nat}{L:List LV}(ha:∀x∈L,x.At w)(h:w.ownsRow base 49 7 (.slice ao L.length cap) L.length (Bj L)):Dw w ao L:=by
 refine⟨ha,fun i x hi=>?_⟩;have hne:Bj L≠[]:=fun e=>by
  have:=Mq 0 hi (by omega);rw[e]at this;simp[LV.cells,Gh]at this
 obtain⟨g,rfl,_,hg,hc⟩:=Cv h hne;exact⟨g,rfl,hg,fun j v hv=>hc _ _ (by
  have hj:j<7:=by have:=(zLI.1 hv).1;rw[Pn]at this;exact this
  rw[Mq j hi hj];exact hv)⟩
theorem Iy:(Tryz.prog.info? 49).map (fun i=>(i.zero,i.size,i.bytes))=some (some (.agg #[nS,iT 0,nS,iT 0,.bool false,.bool false,.bool false]),7,72):=by kernel_rfl
theorem H7(x:LV):∀u∈x.cells,u.oneCell'=true:=fun u hu=>by
 simp only[LV.cells,Gh,zME,List.mem_nil_iff,or_false]at hu;rcases hu with rfl|rfl|rfl|rfl|rfl|rfl|rfl<;>rfl
theorem FV(w:World)(x:LV)(t:TypeId):∀j u,x.cells[j]?=some u->(w.alloc (.cells (AV x.fo x.no x.fc x.nc x.l) t)).cell? (((aD w.heap.size 0):Addr).add j)=some u:=by
 intro j u hu;have hj:j<7:=by have:=(zLI.1 hu).1;rw[Pn]at this;exact this
 match j,hj with
 |0,_=>simp[LV.cells,Gh]at hu;subst hu;simp[Addr.add,AV]
 |1,_=>simp[LV.cells,Gh]at hu;subst hu;simp[Addr.add,AV]
 |2,_=>simp[LV.cells,Gh]at hu;subst hu;simp[Addr.add,AV]
 |3,_=>simp[LV.cells,Gh]at hu;subst hu;simp[Addr.add,AV]
 |4,_=>simp[LV.cells,Gh]at hu;subst hu;simp[Addr.add,AV]
 |5,_=>simp[LV.cells,Gh]at hu;subst hu;simp[Addr.add,AV]
 |6,_=>simp[LV.cells,Gh]at hu;subst hu;simp[Addr.add,AV]
end Go.Proofs.YtekdenkllipehaaGreatDoor
