import Derived.Test.YtekdenkllipehaaGreatDoorP20
import Derived.Shelf.Spec.SlicesInsertGrow
set_option maxRecDepth 99999
set_option maxHeartbeats 0
namespace Go.Proofs.YtekdenkllipehaaGreatDoor
open Go.RowKit
open Go.Lib
theorem jo:(Tryz.prog.info? 9).map (fun i=>(i.zero,i.size,i.bytes))=some (some eS,1,16):=by kernel_rfl
def Gs(v:Value)(n:Nat)(xs:List Value)(i:Nat)(u:Value)(w:World)(e:Ending)(w':World):Prop:=
 ∃v',e=.returned v'/\w'.ownsRow 0 9 1 v' (n+1) (Ah xs i u)/\w.grownBy w' v.ownBlock/\(v'.ownBlock=v.ownBlock\/∃g,v'.ownBlock=some g/\w.heap.size<=g)
theorem dB(v:Value)(n:Nat)(xs:List Value)(vb:Nat)(u:Value)(w:World)(hn:n<=1048576)(hown:w.ownsRow 0 9 1 v n xs)(Kr:u.oneCell'=true)(hcell:w.heap[vb]?=some (.cells #[u] 9 (0,0))):
  Calls Tryz.prog 70 #[v,iT (n:Int),.slice (some (aD vb 0)) 1 1] w (Gs v n xs n u w):=by
 obtain⟨i0,hi,hz0,hz1,hz2⟩:=info_parts jo;have hnews:∀j a,[u][j]?=some a->w.cell? (((aD vb 0):Addr).add j)=some a:=fun j a hj=>by
  match j,hj with
  |0,hj=>simp at hj;subst hj;simp[Addr.add,World.cell?,hcell]
 have h1:∀a∈[u],a.oneCell'=true:=fun a ha=>by simp at ha;subst ha;exact Kr
 obtain⟨v',w',hrun,r1,r2,_⟩:=run_append_own (P:=Tryz.prog) w 0 53 53 9 i0 eS 1 16 Tryz.underlying53 hi hz0 hz1 hz2 rfl (by decide) v n xs hown (aD vb 0) 1 1 [u] rfl hnews h1 (by simp[maxLen];omega) (by omega) (zLS _);have r3:=BQ (ty:=53) Tryz.underlying53 hi hz0 hz1 hz2 hown (m:=1) (c:=1) rfl hnews h1 (by decide) (by simp[maxLen];omega) (by omega) hrun;have hlen:=hown.1;have HE:Hid (Gs v n xs n u w (.returned v') w'):=⟨v',rfl,by
  have:Ah xs n u=xs++[u]:=by unfold Ah;rw[zLP (by omega),zLf (by omega)]
  rw[this];exact r1,r2,r3.imp id (fun h=>⟨_,h,zLK _⟩)⟩
 clear r1 r2 r3 hnews h1 hlen;obtain⟨ao,cap,rfl⟩:=Ac hown;have hnc:n<=cap:=by
  rcases hown.2 with⟨hv,h0⟩|⟨g,c,cur,hv,_,_,hc,_⟩
  .omega
  .injection hv with _ _ e3;omega
 clear hown hcell;by_cases hcn:cap=n
 .subst hcn;go_in;go_wp2_with(at_builtin;refine Lib.wpList_append_run _ rfl _ _ _ _ rfl _ _ rfl rfl _ _ hrun ?_);go_ret;exact HE.out
 .go_in;go_wp2_with(at_builtin;refine Lib.wpList_append_run _ rfl _ _ _ _ rfl _ _ rfl rfl _ _ hrun ?_);go_ret;exact HE.out
theorem YH(g cap n:Nat)(xs:List Value)(i vb:Nat)(u:Value)(w:World)(hi:i<n)(hn:n<=1048576)(hroom:n+1<=cap)(hown:w.ownsRow 0 9 1 (.slice (some (aD g 0)) n cap) n xs)(h1:∀x∈xs,x.oneCell'=true)(Kr:u.oneCell'=true)(hvb:vb≠g)(hcell:w.heap[vb]?=some (.cells #[u] 9 (0,0))):
  Calls Tryz.prog 70 #[.slice (some (aD g 0)) n cap,iT (i:Int),.slice (some (aD vb 0)) 1 1] w (Gs (.slice (some (aD g 0)) n cap) n xs i u w):=by
 obtain⟨i0,hi0,hz0,hzs,hzb⟩:=info_parts jo;have hsz:(Tryz.prog.info? 9).map (·.size)=some 1:=by rw[hi0];simp[hzs]
 have hco:∀w,(Go.sizeOf 9).run Tryz.prog w=.ok 1 w:=Tryz.sizeOf9;obtain⟨cur,hg,hcm,hcs,htake⟩:∃cur,w.heap[g]?=some (.cells cur 9 (0,0))/\cap<=maxLen/\cur.size=cap/\cur.toList.take n=xs:=by
  rcases hown.2 with⟨hv,_⟩|⟨g',c,cur,hv,_,hh,_,h2,h3,h4⟩
  .injection hv with e;simp at e
  .injection hv with e1 e2 e3;injection e1 with e1;injection e1 with e1;subst e1 e3;exact⟨cur,hh,h2,by omega,by simpa using h4⟩
 have hxl:xs.length=n:=by have:=hown.1;omega
 have hc63:cap<=9223372036854775807:=by simp[maxLen]at hcm;omega
 have hcs':∀j v,xs[j]?=some v->w.cell? (aD g j)=some v:=fun j v hj=>by
  have:=hown.cells (g:=g) rfl j v hj;have hp:((aD g 0):Addr).add j=(aD g j):=by rw[Addr.add_lit];simp
  rwa [hp]at this
 have hsp:∀j,j<n+1->(w.cell? (aD g j)).isSome=true:=fun j hj=>by simp[World.cell?,hg,Array.getElem?_eq_getElem (show j<cur.size by omega)]
 have hfz:∀j,w.frozen? (aD g j)=false:=fun j=>frozen_of_row w g j cur _ hg;have hov:∀lb cb,(callFunc 95 #[.slice (some (aD vb 0)) 1 1,.slice (some (aD g (i+1))) lb cb]).run Tryz.prog w=.ok (.value (.bool false)) w:=fun lb cb=>by
  rw[run_callFunc_extern Tryz.func95 (by kernel_rfl) (by kernel_rfl) (by kernel_rfl) (e:=Extern.SlicesOverlaps.overlaps #[53,53] #[4]) (by kernel_rfl),
   Lib.run_overlaps_apart w 53 4 9 Tryz.underlying53 1 hco (aD vb 0) (aD g (i+1)) 1 1 lb cb hvb 9 9 1 cap (by simp[World.shape?,hcell]) (by simp[World.shape?,hg,hcs]) (by omega) (frozen_of_row w vb 0 _ _ hcell) (frozen_of_row w vb 1 _ _ hcell)]
  rfl
 have hdl:(xs.drop i).length=n-i:=by rw[List.length_drop,hxl]
 obtain⟨W1,hW1⟩:=ex (w.drew.setCells g (i+1) (xs.drop i));have hcp1:∀ty dc sc,(Builtin.copy_ #[53,53] ty #[.slice (some (aD g (i+1))) (n-i) dc,.slice (some (aD g i)) (n+1-i) sc]).run Tryz.prog w.drew=.ok (goInt (xs.drop i).length) W1:=fun ty dc sc=>by
  rw[hW1];exact run_copy_cells w.drew _ _ ty 9 g (i+1) (n-i) dc (aD g i) (n+1-i) sc (xs.drop i) Tryz.underlying53 hsz (by rw[hdl];simp only[Nat.min_def];split<;>omega)
   (fun j v hj=>by rw[Addr.add_lit];exact hcs' (i+j) v (by rwa [zLr]at hj))
   (fun j hj=>hsp _ (by omega)) (fun j hj=>hfz _) (fun v hv=>h1 v (List.mem_of_mem_drop hv))
 have hsp1:∀k,k<n+1->(W1.cell? (aD g k)).isSome=true:=fun k hk=>by
  rw[hW1];exact isSome_setCells g (xs.drop i) (i+1) w.drew (fun j hj=>hsp _ (by rw[hdl]at hj;omega)) _ (hsp k hk)
 have hcp2:∀ty dc,(Builtin.copy_ #[53,53] ty #[.slice (some (aD g i)) (n+1-i) dc,.slice (some (aD vb 0)) 1 1]).run Tryz.prog W1=.ok (goInt 1) (W1.setCells g i [u]):=fun ty dc =>
  run_copy_cells W1 _ _ ty 9 g i (n+1-i) dc (aD vb 0) 1 1 [u] Tryz.underlying53 hsz (by simp only[Nat.min_def,zLQ,zLW];split<;>omega)
   (fun j v hj=>by
    match j,hj with
    |0,hj =>
     simp at hj;subst hj;rw[Addr.add_lit,hW1,World.cell?_setCells_out g _ _ _ _ (fun h _=>absurd h hvb)];show w.cell? (aD vb 0)=some u
     simp[World.cell?,hcell])
   (fun j hj=>by simp at hj;subst hj;exact hsp1 i (by omega)) (fun j hj=>by rw[hW1,World.frozen?_setCells];exact hfz _) (fun v hv=>by simp at hv;subst hv;exact Kr)
 have HE:Hid (Gs (.slice (some (aD g 0)) n cap) n xs i u w (.returned (.slice (some (aD g 0)) (n+1) cap)) (W1.setCells g i [u])):=by
  obtain⟨c1,a1,a2,a3⟩:=BG g 9 (xs.drop i) (i+1) w.drew cur hg (by rw[hdl];omega);rw[<-hW1]at a1;obtain⟨c2,b1,b2,b3⟩:=BG g 9 [u] i W1 c1 a1 (by simp;omega);have hl1:(cur.toList.take (i+1)).length=i+1:=by simp;omega
  have hti:c1.toList.take i=xs.take i:=by
   rw[a3,zLc,zLU (by omega),List.take_take,Nat.min_eq_left (by omega),<-htake,List.take_take,Nat.min_eq_left (by omega)]
  have hdi:c1.toList.drop (i+1)=xs.drop i++cur.toList.drop (i+1+(xs.drop i).length):=by
   rw[a3,zLc,List.drop_append_of_le_length (by omega),zLf (by omega),zLb]
  refine⟨_,rfl,⟨by unfold Ah;simp;omega,Or.inr ⟨g,cap,c2,rfl,zLS _,b1,by omega,hcm,by omega,?_⟩⟩,?_,Or.inl rfl⟩
  .rw[b3,hti];simp only[zLQ,zLW,zLk,Nat.mul_one];rw[hdi];unfold Ah;have hA:(xs.take i++[u]++xs.drop i).length=n+1:=by simp;omega
   rw[show xs.take i++[u]++(xs.drop i++cur.toList.drop (i+1+(xs.drop i).length))=(xs.take i++[u]++xs.drop i)++cur.toList.drop (i+1+(xs.drop i).length) by simp,zLU (by omega),zLP (by omega)];simp
  .have q1:w.grownBy W1 (some g):=by
    have:=Au w.drew g (i+1) (xs.drop i);rw[<-hW1]at this;exact ED this
   exact q1.trans (Au W1 g i [u])
 have hW:=h_ hW1;have hz2:¬((i:Int)=(n:Int)):=by omega
 have hz3:¬((cap:Int)<(n:Int)+1):=by omega
 have hw1:IntKind.i64.wrap ((i:Int)+1)=(i:Int)+1:=by rw[IntKind.wrap_i64];omega
 have hw2:IntKind.i64.wrap ((n:Int)+1)=(n:Int)+1:=by rw[IntKind.wrap_i64];omega
 have hb1:(0:Int)<=(i:Int)+1:=by omega
 have htn:((i:Int)+1).toNat=i+1:=by omega
 have zAj:((n:Int)+1).toNat=n+1:=by omega
 have hb2:¬(cap=i+1):=by omega
 have hb3:(i:Int)<=(n:Int)+1:=by omega
 have hb4:¬(cap=i):=by omega
 have hin:i<=n:=by omega
 have hnc:n<=cap:=by omega
 clear hW1 hsp hsp1 hfz hcs' hcell hown hg htake hcs h1 hdl hxl;go_in;go_wp2_with(simp only[hov])
 go_region_law (refine step_copy_runI rfl _ _ 53 53 rfl _ _ (by simp[Act.eval,Act.put]) (by simp[Act.eval,Act.put]) (hcp1 _ _ _) ?_)
 go_wp2_with(at_builtin;refine wpList_copy_runI _ rfl _ _ 53 53 rfl _ _ rfl rfl (hcp2 _ _) ?_);go_ret;exact HE.out
theorem YK(g n:Nat)(xs:List Value)(i vb:Nat)(u:Value)(w:World)(hi:i<n)(hn:n<=1048576)(hown:w.ownsRow 0 9 1 (.slice (some (aD g 0)) n n) n xs)(h1:∀x∈xs,x.oneCell'=true)(Kr:u.oneCell'=true)(hcell:w.heap[vb]?=some (.cells #[u] 9 (0,0))):
  Calls Tryz.prog 70 #[.slice (some (aD g 0)) n n,iT (i:Int),.slice (some (aD vb 0)) 1 1] w (Gs (.slice (some (aD g 0)) n n) n xs i u w):=by
 obtain⟨i0,hi0,hz0,hzs,hzb⟩:=info_parts jo;have hsz:(Tryz.prog.info? 9).map (·.size)=some 1:=by rw[hi0];simp[hzs]
 have hxl:xs.length=n:=by have:=hown.1;omega
 have hgw:g<w.heap.size:=(hown.lt g rfl).2;have hvw:vb<w.heap.size:=(zLM.1 hcell).1;have hcs':∀j v,xs[j]?=some v->w.cell? (aD g j)=some v:=fun j v hj=>by
  have:=hown.cells (g:=g) rfl j v hj;have hp:((aD g 0):Addr).add j=(aD g j):=by rw[Addr.add_lit];simp
  rwa [hp]at this
 have hold:(Builtin.firstCells i0.size i (.slice (some (aD g 0)) i n)).run Tryz.prog w.drew=.ok (xs.take i).toArray w.drew:=by
  rw[hzs];exact run_firstCells_some w.drew 1 i (aD g 0) i n (xs.take i) (by rw[zM6];omega) (fun j v hj=>by
   rw[Addr.add_lit,zLk];rw[List.getElem?_take]at hj;split at hj
   .exact hcs' j v hj
   .cases hj)
 have hkk:((n+1-i:Nat):Int)=(n:Int)+1-(i:Int):=by omega
 have hik:i+(n+1-i)=n+1:=by omega
 obtain⟨G,hG⟩:=ex (grownCap w (n+1) n 9);obtain⟨ROW,hROW⟩:∃ROW:Array Value,ROW=(xs.take i).toArray++Builtin.zeroCells (eS:Value).cells (n+1-i)++Builtin.zeroCells (eS:Value).cells (G-(n+1)):=⟨_,rfl⟩;obtain⟨W1,hW1⟩:=ex (w.drew.alloc (.cells ROW 9));have hrz:∀ty,(Builtin.append_ #[53,3] ty #[.slice (some (aD g 0)) i n,iT ((n:Int)+1-(i:Int))]).run Tryz.prog w=.ok (.slice (some (aD w.heap.size 0)) (n+1) G) W1:=fun ty=>by
  have h:=Lib.run_append_grow_zeros w 53 3 ty 9 i0 _ .i64 .i64 Tryz.underlying53 Tryz.underlying3 hi0 hz0 (some (aD g 0)) i n (xs.take i) hold (n+1-i) (by omega) (by omega) (by omega) (by omega) (by rw[hzb];omega) (by rw[hzb,hik];exact growslice_fits (by omega) (by omega));rw[hik,hkk,<-hG,<-hROW,<-hW1]at h;exact h
 have hGn:n+1<=G:=by rw[hG];exact grownCap_ge w _ _ _
 have uX:G<=maxLen:=by rw[hG];exact grownCap_le_maxLen w (n+1) n 9 (by simp[maxLen];omega)
 have hG63:G<=9223372036854775807:=by simp[maxLen]at uX;omega
 have hRz:ROW.size=G:=by
  rw[hROW];simp[Builtin.zeroCells,Value.cells];omega
 have hN:∀j,j<n+1->(W1.cell? (aD w.heap.size j)).isSome=true:=fun j hj=>by
  rw[hW1,World.cell?_alloc_at (w:=w.drew) ROW _ w.heap.size j rfl,zLu (by omega)];rfl
 have hNf:∀j,W1.frozen? (aD w.heap.size j)=false:=fun j=>by rw[hW1];exact World.frozen?_alloc_at (w:=w.drew) ROW _ w.heap.size j rfl
 obtain⟨W2,hW2⟩:=ex (W1.setCells w.heap.size i [u]);have hcpA:∀ty dc,(Builtin.copy_ #[53,53] ty #[.slice (some (aD w.heap.size i)) (n+1-i) dc,.slice (some (aD vb 0)) 1 1]).run Tryz.prog W1=.ok (goInt 1) W2:=fun ty dc=>by
  rw[hW2];exact run_copy_cells W1 _ _ ty 9 w.heap.size i (n+1-i) dc (aD vb 0) 1 1 [u] Tryz.underlying53 hsz (by simp only[Nat.min_def,zLQ,zLW];split<;>omega)
   (fun j v hj=>by
    match j,hj with
    |0,hj =>
     simp at hj;subst hj;rw[Addr.add_lit,hW1,World.cell?_alloc_past (w:=w.drew) _ vb (0+0) hvw];show w.cell? (aD vb 0)=some u
     simp[World.cell?,hcell])
   (fun j hj=>hN _ (by simp at hj;omega)) (fun j hj=>hNf _) (fun v hv=>by simp at hv;subst hv;exact Kr)
 have hdl:(xs.drop i).length=n-i:=by rw[List.length_drop,hxl]
 have hcpB:∀ty dc sc,(Builtin.copy_ #[53,53] ty #[.slice (some (aD w.heap.size (i+1))) (n-i) dc,.slice (some (aD g i)) (n-i) sc]).run Tryz.prog W2.drew=.ok (goInt (xs.drop i).length) (W2.drew.setCells w.heap.size (i+1) (xs.drop i)):=fun ty dc sc=>by
  exact run_copy_cells W2.drew _ _ ty 9 w.heap.size (i+1) (n-i) dc (aD g i) (n-i) sc (xs.drop i) Tryz.underlying53 hsz (by rw[hdl];simp only[Nat.min_def];split<;>omega)
   (fun j v hj=>by
    rw[Addr.add_lit];show W2.cell? (aD g (i+j))=some v
    rw[hW2,World.cell?_setCells_out _ _ _ _ _ (fun h _=>absurd h (Nat.ne_of_lt hgw)),hW1,World.cell?_alloc_past (w:=w.drew) _ g (i+j) hgw];exact hcs' (i+j) v (by rwa [zLr]at hj))
   (fun j hj=>by
    show(W2.cell? (aD w.heap.size (i+1+j))).isSome=true
    rw[hW2];exact isSome_setCells w.heap.size [u] i W1 (fun t ht=>hN _ (by simp at ht;omega)) _ (hN _ (by omega)))
   (fun j hj=>by show W2.frozen? _=false;rw[hW2,World.frozen?_setCells];exact hNf _) (fun v hv=>h1 v (List.mem_of_mem_drop hv))
 have HE:Hid (Gs (.slice (some (aD g 0)) n n) n xs i u w (.returned (.slice (some (aD w.heap.size 0)) (n+1) G)) (W2.drew.setCells w.heap.size (i+1) (xs.drop i))):=by
  have hg1:W1.heap[w.heap.size]?=some (.cells ROW 9 (0,0)):=by rw[hW1];exact heap_alloc_new w.drew _
  obtain⟨c1,a1,a2,a3⟩:=BG w.heap.size 9 [u] i W1 ROW hg1 (by simp;omega);rw[<-hW2]at a1;obtain⟨c2,b1,b2,b3⟩:=BG w.heap.size 9 (xs.drop i) (i+1) W2.drew c1 a1 (by rw[hdl];omega);have XL:ROW.toList.take i=xs.take i:=by
   rw[hROW];simp only[Array.toList_append,zLc];rw[zLU (by simp;omega),zLP (by simp;omega)]
  have h1t:c1.toList.take (i+1)=xs.take i++[u]:=by
   (have hl:(xs.take i++[u]).length=i+1:=by simp;omega);rw[a3,XL,zLU (by omega),zLP (by omega)]
  refine⟨_,rfl,⟨by unfold Ah;simp;omega,Or.inr ⟨w.heap.size,G,c2,rfl,zLS _,b1,hGn,uX,by omega,?_⟩⟩,?_,Or.inr ⟨w.heap.size,rfl,zLK _⟩⟩
  .rw[b3,h1t];have hA:(xs.take i++[u]++xs.drop i).length=n+1:=by simp;omega
   rw[Nat.mul_one,zLU (by omega),zLP (by omega)];unfold Ah;simp
  .have q1:w.grownBy W1 none:=by rw[hW1];exact(FX w none).trans (CY w.drew _ none)
   have q2:=Au W1 w.heap.size i [u];rw[<-hW2]at q2;have q3:=Au W2.drew w.heap.size (i+1) (xs.drop i);have q4:w.grownBy W2 none:=IL q1 q2 (zLK _);have q5:w.grownBy W2.drew none:=q4.trans (FX _ _);exact QK (IL q5 q3 (zLK _)) _
 have hz2:¬((i:Int)=(n:Int)):=by omega
 have hz3:((n:Int)<(n:Int)+1):=by omega
 have hw1:IntKind.i64.wrap ((i:Int)+1)=(i:Int)+1:=by rw[IntKind.wrap_i64];omega
 have hw2:IntKind.i64.wrap ((n:Int)+1)=(n:Int)+1:=by rw[IntKind.wrap_i64];omega
 have hw3:IntKind.i64.wrap ((n:Int)+1-(i:Int))=(n:Int)+1-(i:Int):=by rw[IntKind.wrap_i64];omega
 have hb1:(0:Int)<=(i:Int)+1:=by omega
 have htn:((i:Int)+1).toNat=i+1:=by omega
 have hGi:¬(G=i):=by omega
 have hGim:¬(G=i+1):=by omega
 have hci:¬(n=i):=by omega
 have hb3:(i:Int)<=(n:Int)+1:=by omega
 have hin:i<=n:=by omega
 have hiG:i+1<=G:=by omega
 clear hkk hik hold hROW hG hRz hN hNf hcs' hown hcell hW1 hW2 hdl hxl h1;go_in;go_wp2_with(first
  |(at_builtin;refine Lib.wpList_append_run _ rfl _ _ _ _ rfl _ _ rfl rfl _ _ (hrz _) ?_)
  |(at_builtin;refine wpList_copy_runI _ rfl _ _ 53 53 rfl _ _ rfl rfl (hcpA _ _) ?_))
 go_region_law (refine step_copy_runI rfl _ _ 53 53 rfl _ _ (by simp[Act.eval,Act.put]) (by simp[Act.eval,Act.put]) (hcpB _ _ _) ?_)
 go_wp2
 go_ret;exact HE.out
theorem YG(v:Value)(n:Nat)(xs:List Value)(i vb:Nat)(u:Value)(w:World)(hi:i<=n)(hn:n<=1048576)(hown:w.ownsRow 0 9 1 v n xs)(h1:∀x∈xs,x.oneCell'=true)(Kr:u.oneCell'=true)(hvb:v.ownBlock≠some vb)(hcell:w.heap[vb]?=some (.cells #[u] 9 (0,0))):
  Calls Tryz.prog 70 #[v,iT (i:Int),.slice (some (aD vb 0)) 1 1] w (Gs v n xs i u w):=by
 by_cases he:i=n
 .subst he;exact dB v i xs vb u w hn hown Kr hcell
 .rcases hown.2 with⟨_,h0⟩|⟨g,cap,cur,rfl,_,_,hnc,_⟩
  .omega
  .by_cases hr:n+1<=cap
   .exact YH g cap n xs i vb u w (by omega) hn hr hown h1 Kr (fun e=>hvb (by rw[e];rfl)) hcell
   ·(obtain rfl:cap=n:=by omega);exact YK g cap xs i vb u w (by omega) hn hown h1 Kr hcell
def Z4(v:Value)(n:Nat)(xs:List Value)(i:Nat)(w:World)(e:Ending)(w':World):Prop:=
 ∃v',e=.returned v'/\w'.ownsRow 0 9 1 v' (n-1) (xs.eraseIdx i)/\w.grownBy w' v.ownBlock/\v'.ownBlock=v.ownBlock
theorem yH(v:Value)(n:Nat)(xs:List Value)(i:Nat)(w:World)(hi:i<n)(hn:n<=1048576)(hown:w.ownsRow 0 9 1 v n xs)(h1:∀x∈xs,x.oneCell'=true):
  Calls Tryz.prog 153 #[v,iT (i:Int),iT ((i:Int)+1)] w (Z4 v n xs i w):=by
 obtain⟨i0,hi0,hz0,hzs,hzb⟩:=info_parts jo;rcases hown.2 with⟨_,h0⟩|⟨g,cap,cur,rfl,_,hg,hnc,hcm,hcs,htake⟩
 .omega
 rw[Nat.mul_one]at hcs htake;have hxl:xs.length=n:=by have:=hown.1;omega
 have hc63:cap<=9223372036854775807:=by simp[maxLen]at hcm;omega
 have hcs':∀j v,xs[j]?=some v->w.cell? (aD g j)=some v:=fun j v hj=>by
  have:=hown.cells (g:=g) rfl j v hj;have hp:((aD g 0):Addr).add j=(aD g j):=by rw[Addr.add_lit];simp
  rwa [hp]at this
 have hsp:∀j,j<n->(w.cell? (aD g j)).isSome=true:=fun j hj=>by simp[World.cell?,hg,Array.getElem?_eq_getElem (show j<cur.size by omega)]
 have hfz:∀j,w.frozen? (aD g j)=false:=fun j=>frozen_of_row w g j cur _ hg;have hdl:(xs.drop (i+1)).length=n-(i+1):=by rw[List.length_drop,hxl]
 obtain⟨A,hA,hsrc⟩:∃A:Addr,(if cap=i+1 then some ((aD g 0):Addr)else some (aD g (i+1)))=some A/\Hid (∀t u,(xs.drop (i+1))[t]?=some u->w.drew.cell? (A.add t)=some u):=by
  by_cases h:cap=i+1
  .refine⟨(aD g 0),by simp[h],fun t u hu=>?_⟩;rw[zLN (show(xs.drop (i+1)).length=0 by rw[hdl];omega)]at hu;simp at hu
  .refine⟨(aD g (i+1)),by simp[h],fun t u hu=>?_⟩;rw[Addr.add_lit];exact hcs' (i+1+t) u (by rwa [zLr]at hu)
 have s1:Hid ((xs.drop (i+1)).length=(n-(i+1))*1):=by rw[Nat.mul_one];exact hdl
 have s2:Hid (∀u∈xs.drop (i+1),u.oneCell'=true):=fun u hu=>h1 u (List.mem_of_mem_drop hu);have s3:Hid (∀t,t<(xs.drop (i+1)).length->(w.drew.cell? (aD g (0+i*1+t))).isSome=true/\w.drew.frozen? (aD g (0+i*1+t))=false):=fun t ht=>by
  rw[hdl]at ht;rw[Nat.mul_one,zLk];exact⟨hsp _ (by omega),hfz _⟩
 obtain⟨W1,hW1⟩:=ex (w.drew.setCells g (0+i*1) (xs.drop (i+1)));obtain⟨c1,a1,a2,a3⟩:=BG g 9 (xs.drop (i+1)) (0+i*1) w.drew cur hg (by rw[hdl];omega);rw[<-hW1]at a1;have hcl:∀ty,(Builtin.clear_ #[53] ty #[.slice (some ⟨g,i+(n-(i+1)),none⟩) (n-(i+(n-(i+1)))) (cap-(i+(n-(i+1))))]).run Tryz.prog W1=.ok (.tuple #[]) (W1.setCells g (i+(n-(i+1))) [eS]):=fun ty=>by
  have:=Lib.run_clear_slice (P:=Tryz.prog) W1 53 9 ty eS Tryz.underlying53 Tryz.zeroValue9 rfl rfl g (i+(n-(i+1))) (n-(i+(n-(i+1)))) (cap-(i+(n-(i+1)))) (by omega)
   (fun t ht=>by simp[World.cell?,a1,Array.getElem?_eq_getElem (show i+(n-(i+1))+t<c1.size by omega)]) (fun t ht=>frozen_of_row W1 g _ c1 _ a1)
  rw[show n-(i+(n-(i+1)))=1 by omega]at this⊢;exact this
 have HE:Hid (Z4 (.slice (some (aD g 0)) n cap) n xs i w (.returned (.slice (some (aD g 0)) (i+(n-(i+1))) cap)) (W1.setCells g (i+(n-(i+1))) [eS])):=by
  obtain⟨c2,b1,b2,b3⟩:=BG g 9 [eS] (i+(n-(i+1))) W1 c1 a1 (by simp;omega);have hel:(xs.eraseIdx i).length=n-1:=by rw[List.length_eraseIdx,if_pos (by omega)];omega
  refine⟨_,rfl,⟨by omega,Or.inr ⟨g,cap,c2,by rw[show i+(n-(i+1))=n-1 by omega],zLS _,b1,by omega,hcm,by omega,?_⟩⟩,?_,rfl⟩
  .rw[Nat.mul_one,b3,show i+(n-(i+1))=n-1 by omega];have hl:(c1.toList.take (n-1)).length=n-1:=by simp;omega
   (rw[zLc,zLU (by omega),zLP (by omega),a3,Nat.mul_one,zLk];have ht:cur.toList.take i=xs.take i:=by rw[<-htake,List.take_take,Nat.min_eq_left (by omega)]);rw[ht,<-List.eraseIdx_eq_take_drop_succ,zLU (by omega),zLP (by omega)]
  .have q1:w.grownBy W1 (some g):=by
    have:=Au w.drew g (0+i*1) (xs.drop (i+1));rw[<-hW1]at this;exact ED this
   exact q1.trans (Au W1 g _ _)
 have hW:=h_ hW1;have hic:i<=cap:=by omega
 have hjc:i+1<=cap:=by omega
 have hjn:i+1<=n:=by omega
 have hj0:(0:Int)<=(i:Int)+1:=by omega
 have hjN:(i:Int)+1<=(n:Int):=by omega
 have hjt:((i:Int)+1).toNat=i+1:=by omega
 clear hW1 a1 a2 a3 hsp hfz hcs' hown hg htake hcs h1 hdl hxl;go_in;go_wp2_with fail
 go_region_law (refine step_append_room rfl (.tmp 22) (.tmp 25) 53 rfl 9 i0 1 Tryz.underlying53 hi0 hzs g 0 i cap (by simp[Act.eval,Act.put]) A (n-(i+1)) (cap-(i+1)) (xs.drop (i+1)) (by simp[Act.eval,Act.put]) s1.out hsrc.out s2.out (by omega) s3.out ?_;rw[<-hW.out])
 go_wp2
 go_ret;exact HE.out
theorem qG:(Tryz.prog.info? 65).map (fun i=>(i.zero,i.size,i.bytes))=some (some (.pointer none),1,8):=by kernel_rfl
def Gt(v:Value)(n:Nat)(xs:List Value)(i:Nat)(u:Value)(w:World)(e:Ending)(w':World):Prop:=
 ∃v',e=.returned v'/\w'.ownsRow 0 65 1 v' (n+1) (Ah xs i u)/\w.grownBy w' v.ownBlock/\(v'.ownBlock=v.ownBlock\/∃g,v'.ownBlock=some g/\w.heap.size<=g)
theorem dF(v:Value)(n:Nat)(xs:List Value)(vb:Nat)(u:Value)(w:World)(hn:n<=1048576)(hown:w.ownsRow 0 65 1 v n xs)(Kr:u.oneCell'=true)(hcell:w.heap[vb]?=some (.cells #[u] 65 (0,0))):
  Calls Tryz.prog 71 #[v,iT (n:Int),.slice (some (aD vb 0)) 1 1] w (Gt v n xs n u w):=by
 obtain⟨i0,hi,hz0,hz1,hz2⟩:=info_parts qG;have hnews:∀j a,[u][j]?=some a->w.cell? (((aD vb 0):Addr).add j)=some a:=fun j a hj=>by
  match j,hj with
  |0,hj=>simp at hj;subst hj;simp[Addr.add,World.cell?,hcell]
 have h1:∀a∈[u],a.oneCell'=true:=fun a ha=>by simp at ha;subst ha;exact Kr
 obtain⟨v',w',hrun,r1,r2,_⟩:=run_append_own (P:=Tryz.prog) w 0 54 54 65 i0 (.pointer none) 1 8 Tryz.underlying54 hi hz0 hz1 hz2 rfl (by decide) v n xs hown (aD vb 0) 1 1 [u] rfl hnews h1 (by simp[maxLen];omega) (by omega) (zLS _);have r3:=BQ (ty:=54) Tryz.underlying54 hi hz0 hz1 hz2 hown (m:=1) (c:=1) rfl hnews h1 (by decide) (by simp[maxLen];omega) (by omega) hrun;have hlen:=hown.1;have HE:Hid (Gt v n xs n u w (.returned v') w'):=⟨v',rfl,by
  have:Ah xs n u=xs++[u]:=by unfold Ah;rw[zLP (by omega),zLf (by omega)]
  rw[this];exact r1,r2,r3.imp id (fun h=>⟨_,h,zLK _⟩)⟩
 clear r1 r2 r3 hnews h1 hlen;obtain⟨ao,cap,rfl⟩:=Ac hown;have hnc:n<=cap:=by
  rcases hown.2 with⟨hv,h0⟩|⟨g,c,cur,hv,_,_,hc,_⟩
  .omega
  .injection hv with _ _ e3;omega
 clear hown hcell;by_cases hcn:cap=n
 .subst hcn;go_in;go_wp2_with(at_builtin;refine Lib.wpList_append_run _ rfl _ _ _ _ rfl _ _ rfl rfl _ _ hrun ?_);go_ret;exact HE.out
 .go_in;go_wp2_with(at_builtin;refine Lib.wpList_append_run _ rfl _ _ _ _ rfl _ _ rfl rfl _ _ hrun ?_);go_ret;exact HE.out
theorem YI(g cap n:Nat)(xs:List Value)(i vb:Nat)(u:Value)(w:World)(hi:i<n)(hn:n<=1048576)(hroom:n+1<=cap)(hown:w.ownsRow 0 65 1 (.slice (some (aD g 0)) n cap) n xs)(h1:∀x∈xs,x.oneCell'=true)(Kr:u.oneCell'=true)(hvb:vb≠g)(hcell:w.heap[vb]?=some (.cells #[u] 65 (0,0))):
  Calls Tryz.prog 71 #[.slice (some (aD g 0)) n cap,iT (i:Int),.slice (some (aD vb 0)) 1 1] w (Gt (.slice (some (aD g 0)) n cap) n xs i u w):=by
 obtain⟨i0,hi0,hz0,hzs,hzb⟩:=info_parts qG;have hsz:(Tryz.prog.info? 65).map (·.size)=some 1:=by rw[hi0];simp[hzs]
 have hco:∀w,(Go.sizeOf 65).run Tryz.prog w=.ok 1 w:=Tryz.sizeOf65;obtain⟨cur,hg,hcm,hcs,htake⟩:∃cur,w.heap[g]?=some (.cells cur 65 (0,0))/\cap<=maxLen/\cur.size=cap/\cur.toList.take n=xs:=by
  rcases hown.2 with⟨hv,_⟩|⟨g',c,cur,hv,_,hh,_,h2,h3,h4⟩
  .injection hv with e;simp at e
  .injection hv with e1 e2 e3;injection e1 with e1;injection e1 with e1;subst e1 e3;exact⟨cur,hh,h2,by omega,by simpa using h4⟩
 have hxl:xs.length=n:=by have:=hown.1;omega
 have hc63:cap<=9223372036854775807:=by simp[maxLen]at hcm;omega
 have hcs':∀j v,xs[j]?=some v->w.cell? (aD g j)=some v:=fun j v hj=>by
  have:=hown.cells (g:=g) rfl j v hj;have hp:((aD g 0):Addr).add j=(aD g j):=by rw[Addr.add_lit];simp
  rwa [hp]at this
 have hsp:∀j,j<n+1->(w.cell? (aD g j)).isSome=true:=fun j hj=>by simp[World.cell?,hg,Array.getElem?_eq_getElem (show j<cur.size by omega)]
 have hfz:∀j,w.frozen? (aD g j)=false:=fun j=>frozen_of_row w g j cur _ hg;have hov:∀lb cb,(callFunc 97 #[.slice (some (aD vb 0)) 1 1,.slice (some (aD g (i+1))) lb cb]).run Tryz.prog w=.ok (.value (.bool false)) w:=fun lb cb=>by
  rw[run_callFunc_extern Tryz.func97 (by kernel_rfl) (by kernel_rfl) (by kernel_rfl) (e:=Extern.SlicesOverlaps.overlaps #[54,54] #[4]) (by kernel_rfl),
   Lib.run_overlaps_apart w 54 4 65 Tryz.underlying54 1 hco (aD vb 0) (aD g (i+1)) 1 1 lb cb hvb 65 65 1 cap (by simp[World.shape?,hcell]) (by simp[World.shape?,hg,hcs]) (by omega) (frozen_of_row w vb 0 _ _ hcell) (frozen_of_row w vb 1 _ _ hcell)]
  rfl
 have hdl:(xs.drop i).length=n-i:=by rw[List.length_drop,hxl]
 obtain⟨W1,hW1⟩:=ex (w.drew.setCells g (i+1) (xs.drop i));have hcp1:∀ty dc sc,(Builtin.copy_ #[54,54] ty #[.slice (some (aD g (i+1))) (n-i) dc,.slice (some (aD g i)) (n+1-i) sc]).run Tryz.prog w.drew=.ok (goInt (xs.drop i).length) W1:=fun ty dc sc=>by
  rw[hW1];exact run_copy_cells w.drew _ _ ty 65 g (i+1) (n-i) dc (aD g i) (n+1-i) sc (xs.drop i) Tryz.underlying54 hsz (by rw[hdl];simp only[Nat.min_def];split<;>omega)
   (fun j v hj=>by rw[Addr.add_lit];exact hcs' (i+j) v (by rwa [zLr]at hj))
   (fun j hj=>hsp _ (by omega)) (fun j hj=>hfz _) (fun v hv=>h1 v (List.mem_of_mem_drop hv))
 have hsp1:∀k,k<n+1->(W1.cell? (aD g k)).isSome=true:=fun k hk=>by
  rw[hW1];exact isSome_setCells g (xs.drop i) (i+1) w.drew (fun j hj=>hsp _ (by rw[hdl]at hj;omega)) _ (hsp k hk)
 have hcp2:∀ty dc,(Builtin.copy_ #[54,54] ty #[.slice (some (aD g i)) (n+1-i) dc,.slice (some (aD vb 0)) 1 1]).run Tryz.prog W1=.ok (goInt 1) (W1.setCells g i [u]):=fun ty dc =>
  run_copy_cells W1 _ _ ty 65 g i (n+1-i) dc (aD vb 0) 1 1 [u] Tryz.underlying54 hsz (by simp only[Nat.min_def,zLQ,zLW];split<;>omega)
   (fun j v hj=>by
    match j,hj with
    |0,hj =>
     simp at hj;subst hj;rw[Addr.add_lit,hW1,World.cell?_setCells_out g _ _ _ _ (fun h _=>absurd h hvb)];show w.cell? (aD vb 0)=some u
     simp[World.cell?,hcell])
   (fun j hj=>by simp at hj;subst hj;exact hsp1 i (by omega)) (fun j hj=>by rw[hW1,World.frozen?_setCells];exact hfz _) (fun v hv=>by simp at hv;subst hv;exact Kr)
 have HE:Hid (Gt (.slice (some (aD g 0)) n cap) n xs i u w (.returned (.slice (some (aD g 0)) (n+1) cap)) (W1.setCells g i [u])):=by
  obtain⟨c1,a1,a2,a3⟩:=BG g 65 (xs.drop i) (i+1) w.drew cur hg (by rw[hdl];omega);rw[<-hW1]at a1;obtain⟨c2,b1,b2,b3⟩:=BG g 65 [u] i W1 c1 a1 (by simp;omega);have hl1:(cur.toList.take (i+1)).length=i+1:=by simp;omega
  have hti:c1.toList.take i=xs.take i:=by
   rw[a3,zLc,zLU (by omega),List.take_take,Nat.min_eq_left (by omega),<-htake,List.take_take,Nat.min_eq_left (by omega)]
  have hdi:c1.toList.drop (i+1)=xs.drop i++cur.toList.drop (i+1+(xs.drop i).length):=by
   rw[a3,zLc,List.drop_append_of_le_length (by omega),zLf (by omega),zLb]
  refine⟨_,rfl,⟨by unfold Ah;simp;omega,Or.inr ⟨g,cap,c2,rfl,zLS _,b1,by omega,hcm,by omega,?_⟩⟩,?_,Or.inl rfl⟩
  .rw[b3,hti];simp only[zLQ,zLW,zLk,Nat.mul_one];rw[hdi];unfold Ah;have hA:(xs.take i++[u]++xs.drop i).length=n+1:=by simp;omega
   rw[show xs.take i++[u]++(xs.drop i++cur.toList.drop (i+1+(xs.drop i).length))=(xs.take i++[u]++xs.drop i)++cur.toList.drop (i+1+(xs.drop i).length) by simp,zLU (by omega),zLP (by omega)];simp
  .have q1:w.grownBy W1 (some g):=by
    have:=Au w.drew g (i+1) (xs.drop i);rw[<-hW1]at this;exact ED this
   exact q1.trans (Au W1 g i [u])
 have hW:=h_ hW1;have hz2:¬((i:Int)=(n:Int)):=by omega
 have hz3:¬((cap:Int)<(n:Int)+1):=by omega
 have hw1:IntKind.i64.wrap ((i:Int)+1)=(i:Int)+1:=by rw[IntKind.wrap_i64];omega
 have hw2:IntKind.i64.wrap ((n:Int)+1)=(n:Int)+1:=by rw[IntKind.wrap_i64];omega
 have hb1:(0:Int)<=(i:Int)+1:=by omega
 have htn:((i:Int)+1).toNat=i+1:=by omega
 have zAj:((n:Int)+1).toNat=n+1:=by omega
 have hb2:¬(cap=i+1):=by omega
 have hb3:(i:Int)<=(n:Int)+1:=by omega
 have hb4:¬(cap=i):=by omega
 have hin:i<=n:=by omega
 have hnc:n<=cap:=by omega
 clear hW1 hsp hsp1 hfz hcs' hcell hown hg htake hcs h1 hdl hxl;go_in;go_wp2_with(simp only[hov])
 go_region_law (refine step_copy_runI rfl _ _ 54 54 rfl _ _ (by simp[Act.eval,Act.put]) (by simp[Act.eval,Act.put]) (hcp1 _ _ _) ?_)
 go_wp2_with(at_builtin;refine wpList_copy_runI _ rfl _ _ 54 54 rfl _ _ rfl rfl (hcp2 _ _) ?_);go_ret;exact HE.out
theorem YL(g n:Nat)(xs:List Value)(i vb:Nat)(u:Value)(w:World)(hi:i<n)(hn:n<=1048576)(hown:w.ownsRow 0 65 1 (.slice (some (aD g 0)) n n) n xs)(h1:∀x∈xs,x.oneCell'=true)(Kr:u.oneCell'=true)(hcell:w.heap[vb]?=some (.cells #[u] 65 (0,0))):
  Calls Tryz.prog 71 #[.slice (some (aD g 0)) n n,iT (i:Int),.slice (some (aD vb 0)) 1 1] w (Gt (.slice (some (aD g 0)) n n) n xs i u w):=by
 obtain⟨i0,hi0,hz0,hzs,hzb⟩:=info_parts qG;have hsz:(Tryz.prog.info? 65).map (·.size)=some 1:=by rw[hi0];simp[hzs]
 have hxl:xs.length=n:=by have:=hown.1;omega
 have hgw:g<w.heap.size:=(hown.lt g rfl).2;have hvw:vb<w.heap.size:=(zLM.1 hcell).1;have hcs':∀j v,xs[j]?=some v->w.cell? (aD g j)=some v:=fun j v hj=>by
  have:=hown.cells (g:=g) rfl j v hj;have hp:((aD g 0):Addr).add j=(aD g j):=by rw[Addr.add_lit];simp
  rwa [hp]at this
 have hold:(Builtin.firstCells i0.size i (.slice (some (aD g 0)) i n)).run Tryz.prog w.drew=.ok (xs.take i).toArray w.drew:=by
  rw[hzs];exact run_firstCells_some w.drew 1 i (aD g 0) i n (xs.take i) (by rw[zM6];omega) (fun j v hj=>by
   rw[Addr.add_lit,zLk];rw[List.getElem?_take]at hj;split at hj
   .exact hcs' j v hj
   .cases hj)
 have hkk:((n+1-i:Nat):Int)=(n:Int)+1-(i:Int):=by omega
 have hik:i+(n+1-i)=n+1:=by omega
 obtain⟨G,hG⟩:=ex (grownCap w (n+1) n 65);obtain⟨ROW,hROW⟩:∃ROW:Array Value,ROW=(xs.take i).toArray++Builtin.zeroCells (.pointer none:Value).cells (n+1-i)++Builtin.zeroCells (.pointer none:Value).cells (G-(n+1)):=⟨_,rfl⟩;obtain⟨W1,hW1⟩:=ex (w.drew.alloc (.cells ROW 65));have hrz:∀ty,(Builtin.append_ #[54,3] ty #[.slice (some (aD g 0)) i n,iT ((n:Int)+1-(i:Int))]).run Tryz.prog w=.ok (.slice (some (aD w.heap.size 0)) (n+1) G) W1:=fun ty=>by
  have h:=Lib.run_append_grow_zeros w 54 3 ty 65 i0 _ .i64 .i64 Tryz.underlying54 Tryz.underlying3 hi0 hz0 (some (aD g 0)) i n (xs.take i) hold (n+1-i) (by omega) (by omega) (by omega) (by omega) (by rw[hzb];omega) (by rw[hzb,hik];exact growslice_fits (by omega) (by omega));rw[hik,hkk,<-hG,<-hROW,<-hW1]at h;exact h
 have hGn:n+1<=G:=by rw[hG];exact grownCap_ge w _ _ _
 have uX:G<=maxLen:=by rw[hG];exact grownCap_le_maxLen w (n+1) n 65 (by simp[maxLen];omega)
 have hG63:G<=9223372036854775807:=by simp[maxLen]at uX;omega
 have hRz:ROW.size=G:=by
  rw[hROW];simp[Builtin.zeroCells,Value.cells];omega
 have hN:∀j,j<n+1->(W1.cell? (aD w.heap.size j)).isSome=true:=fun j hj=>by
  rw[hW1,World.cell?_alloc_at (w:=w.drew) ROW _ w.heap.size j rfl,zLu (by omega)];rfl
 have hNf:∀j,W1.frozen? (aD w.heap.size j)=false:=fun j=>by rw[hW1];exact World.frozen?_alloc_at (w:=w.drew) ROW _ w.heap.size j rfl
 obtain⟨W2,hW2⟩:=ex (W1.setCells w.heap.size i [u]);have hcpA:∀ty dc,(Builtin.copy_ #[54,54] ty #[.slice (some (aD w.heap.size i)) (n+1-i) dc,.slice (some (aD vb 0)) 1 1]).run Tryz.prog W1=.ok (goInt 1) W2:=fun ty dc=>by
  rw[hW2];exact run_copy_cells W1 _ _ ty 65 w.heap.size i (n+1-i) dc (aD vb 0) 1 1 [u] Tryz.underlying54 hsz (by simp only[Nat.min_def,zLQ,zLW];split<;>omega)
   (fun j v hj=>by
    match j,hj with
    |0,hj =>
     simp at hj;subst hj;rw[Addr.add_lit,hW1,World.cell?_alloc_past (w:=w.drew) _ vb (0+0) hvw];show w.cell? (aD vb 0)=some u
     simp[World.cell?,hcell])
   (fun j hj=>hN _ (by simp at hj;omega)) (fun j hj=>hNf _) (fun v hv=>by simp at hv;subst hv;exact Kr)
 have hdl:(xs.drop i).length=n-i:=by rw[List.length_drop,hxl]
 have hcpB:∀ty dc sc,(Builtin.copy_ #[54,54] ty #[.slice (some (aD w.heap.size (i+1))) (n-i) dc,.slice (some (aD g i)) (n-i) sc]).run Tryz.prog W2.drew=.ok (goInt (xs.drop i).length) (W2.drew.setCells w.heap.size (i+1) (xs.drop i)):=fun ty dc sc=>by
  exact run_copy_cells W2.drew _ _ ty 65 w.heap.size (i+1) (n-i) dc (aD g i) (n-i) sc (xs.drop i) Tryz.underlying54 hsz (by rw[hdl];simp only[Nat.min_def];split<;>omega)
   (fun j v hj=>by
    rw[Addr.add_lit];show W2.cell? (aD g (i+j))=some v
    rw[hW2,World.cell?_setCells_out _ _ _ _ _ (fun h _=>absurd h (Nat.ne_of_lt hgw)),hW1,World.cell?_alloc_past (w:=w.drew) _ g (i+j) hgw];exact hcs' (i+j) v (by rwa [zLr]at hj))
   (fun j hj=>by
    show(W2.cell? (aD w.heap.size (i+1+j))).isSome=true
    rw[hW2];exact isSome_setCells w.heap.size [u] i W1 (fun t ht=>hN _ (by simp at ht;omega)) _ (hN _ (by omega)))
   (fun j hj=>by show W2.frozen? _=false;rw[hW2,World.frozen?_setCells];exact hNf _) (fun v hv=>h1 v (List.mem_of_mem_drop hv))
 have HE:Hid (Gt (.slice (some (aD g 0)) n n) n xs i u w (.returned (.slice (some (aD w.heap.size 0)) (n+1) G)) (W2.drew.setCells w.heap.size (i+1) (xs.drop i))):=by
  have hg1:W1.heap[w.heap.size]?=some (.cells ROW 65 (0,0)):=by rw[hW1];exact heap_alloc_new w.drew _
  obtain⟨c1,a1,a2,a3⟩:=BG w.heap.size 65 [u] i W1 ROW hg1 (by simp;omega);rw[<-hW2]at a1;obtain⟨c2,b1,b2,b3⟩:=BG w.heap.size 65 (xs.drop i) (i+1) W2.drew c1 a1 (by rw[hdl];omega);have XL:ROW.toList.take i=xs.take i:=by
   rw[hROW];simp only[Array.toList_append,zLc];rw[zLU (by simp;omega),zLP (by simp;omega)]
  have h1t:c1.toList.take (i+1)=xs.take i++[u]:=by
   (have hl:(xs.take i++[u]).length=i+1:=by simp;omega);rw[a3,XL,zLU (by omega),zLP (by omega)]
  refine⟨_,rfl,⟨by unfold Ah;simp;omega,Or.inr ⟨w.heap.size,G,c2,rfl,zLS _,b1,hGn,uX,by omega,?_⟩⟩,?_,Or.inr ⟨w.heap.size,rfl,zLK _⟩⟩
  .rw[b3,h1t];have hA:(xs.take i++[u]++xs.drop i).length=n+1:=by simp;omega
   rw[Nat.mul_one,zLU (by omega),zLP (by omega)];unfold Ah;simp
  .have q1:w.grownBy W1 none:=by rw[hW1];exact(FX w none).trans (CY w.drew _ none)
   have q2:=Au W1 w.heap.size i [u];rw[<-hW2]at q2;have q3:=Au W2.drew w.heap.size (i+1) (xs.drop i);have q4:w.grownBy W2 none:=IL q1 q2 (zLK _);have q5:w.grownBy W2.drew none:=q4.trans (FX _ _);exact QK (IL q5 q3 (zLK _)) _
 have hz2:¬((i:Int)=(n:Int)):=by omega
 have hz3:((n:Int)<(n:Int)+1):=by omega
 have hw1:IntKind.i64.wrap ((i:Int)+1)=(i:Int)+1:=by rw[IntKind.wrap_i64];omega
 have hw2:IntKind.i64.wrap ((n:Int)+1)=(n:Int)+1:=by rw[IntKind.wrap_i64];omega
 have hw3:IntKind.i64.wrap ((n:Int)+1-(i:Int))=(n:Int)+1-(i:Int):=by rw[IntKind.wrap_i64];omega
 have hb1:(0:Int)<=(i:Int)+1:=by omega
 have htn:((i:Int)+1).toNat=i+1:=by omega
 have hGi:¬(G=i):=by omega
 have hGim:¬(G=i+1):=by omega
 have hci:¬(n=i):=by omega
 have hb3:(i:Int)<=(n:Int)+1:=by omega
 have hin:i<=n:=by omega
 have hiG:i+1<=G:=by omega
 clear hkk hik hold hROW hG hRz hN hNf hcs' hown hcell hW1 hW2 hdl hxl h1;go_in;go_wp2_with(first
  |(at_builtin;refine Lib.wpList_append_run _ rfl _ _ _ _ rfl _ _ rfl rfl _ _ (hrz _) ?_)
  |(at_builtin;refine wpList_copy_runI _ rfl _ _ 54 54 rfl _ _ rfl rfl (hcpA _ _) ?_))
 go_region_law (refine step_copy_runI rfl _ _ 54 54 rfl _ _ (by simp[Act.eval,Act.put]) (by simp[Act.eval,Act.put]) (hcpB _ _ _) ?_)
 go_wp2
 go_ret;exact HE.out
theorem wX(v:Value)(n:Nat)(xs:List Value)(i vb:Nat)(u:Value)(w:World)(hi:i<=n)(hn:n<=1048576)(hown:w.ownsRow 0 65 1 v n xs)(h1:∀x∈xs,x.oneCell'=true)(Kr:u.oneCell'=true)(hvb:v.ownBlock≠some vb)(hcell:w.heap[vb]?=some (.cells #[u] 65 (0,0))):
  Calls Tryz.prog 71 #[v,iT (i:Int),.slice (some (aD vb 0)) 1 1] w (Gt v n xs i u w):=by
 by_cases he:i=n
 .subst he;exact dF v i xs vb u w hn hown Kr hcell
 .rcases hown.2 with⟨_,h0⟩|⟨g,cap,cur,rfl,_,_,hnc,_⟩
  .omega
  .by_cases hr:n+1<=cap
   .exact YI g cap n xs i vb u w (by omega) hn hr hown h1 Kr (fun e=>hvb (by rw[e];rfl)) hcell
   ·(obtain rfl:cap=n:=by omega);exact YL g cap xs i vb u w (by omega) hn hown h1 Kr hcell
def Z5(v:Value)(n:Nat)(xs:List Value)(i:Nat)(w:World)(e:Ending)(w':World):Prop:=
 ∃v',e=.returned v'/\w'.ownsRow 0 65 1 v' (n-1) (xs.eraseIdx i)/\w.grownBy w' v.ownBlock/\v'.ownBlock=v.ownBlock
theorem yI(v:Value)(n:Nat)(xs:List Value)(i:Nat)(w:World)(hi:i<n)(hn:n<=1048576)(hown:w.ownsRow 0 65 1 v n xs)(h1:∀x∈xs,x.oneCell'=true):
  Calls Tryz.prog 154 #[v,iT (i:Int),iT ((i:Int)+1)] w (Z5 v n xs i w):=by
 obtain⟨i0,hi0,hz0,hzs,hzb⟩:=info_parts qG;rcases hown.2 with⟨_,h0⟩|⟨g,cap,cur,rfl,_,hg,hnc,hcm,hcs,htake⟩
 .omega
 rw[Nat.mul_one]at hcs htake;have hxl:xs.length=n:=by have:=hown.1;omega
 have hc63:cap<=9223372036854775807:=by simp[maxLen]at hcm;omega
 have hcs':∀j v,xs[j]?=some v->w.cell? (aD g j)=some v:=fun j v hj=>by
  have:=hown.cells (g:=g) rfl j v hj;have hp:((aD g 0):Addr).add j=(aD g j):=by rw[Addr.add_lit];simp
  rwa [hp]at this
 have hsp:∀j,j<n->(w.cell? (aD g j)).isSome=true:=fun j hj=>by simp[World.cell?,hg,Array.getElem?_eq_getElem (show j<cur.size by omega)]
 have hfz:∀j,w.frozen? (aD g j)=false:=fun j=>frozen_of_row w g j cur _ hg;have hdl:(xs.drop (i+1)).length=n-(i+1):=by rw[List.length_drop,hxl]
 obtain⟨A,hA,hsrc⟩:∃A:Addr,(if cap=i+1 then some ((aD g 0):Addr)else some (aD g (i+1)))=some A/\Hid (∀t u,(xs.drop (i+1))[t]?=some u->w.drew.cell? (A.add t)=some u):=by
  by_cases h:cap=i+1
  .refine⟨(aD g 0),by simp[h],fun t u hu=>?_⟩;rw[zLN (show(xs.drop (i+1)).length=0 by rw[hdl];omega)]at hu;simp at hu
  .refine⟨(aD g (i+1)),by simp[h],fun t u hu=>?_⟩;rw[Addr.add_lit];exact hcs' (i+1+t) u (by rwa [zLr]at hu)
 have s1:Hid ((xs.drop (i+1)).length=(n-(i+1))*1):=by rw[Nat.mul_one];exact hdl
 have s2:Hid (∀u∈xs.drop (i+1),u.oneCell'=true):=fun u hu=>h1 u (List.mem_of_mem_drop hu);have s3:Hid (∀t,t<(xs.drop (i+1)).length->(w.drew.cell? (aD g (0+i*1+t))).isSome=true/\w.drew.frozen? (aD g (0+i*1+t))=false):=fun t ht=>by
  rw[hdl]at ht;rw[Nat.mul_one,zLk];exact⟨hsp _ (by omega),hfz _⟩
 obtain⟨W1,hW1⟩:=ex (w.drew.setCells g (0+i*1) (xs.drop (i+1)));obtain⟨c1,a1,a2,a3⟩:=BG g 65 (xs.drop (i+1)) (0+i*1) w.drew cur hg (by rw[hdl];omega);rw[<-hW1]at a1;have hcl:∀ty,(Builtin.clear_ #[54] ty #[.slice (some ⟨g,i+(n-(i+1)),none⟩) (n-(i+(n-(i+1)))) (cap-(i+(n-(i+1))))]).run Tryz.prog W1=.ok (.tuple #[]) (W1.setCells g (i+(n-(i+1))) [.pointer none]):=fun ty=>by
  have:=Lib.run_clear_slice (P:=Tryz.prog) W1 54 65 ty (.pointer none) Tryz.underlying54 Tryz.zeroValue65 rfl rfl g (i+(n-(i+1))) (n-(i+(n-(i+1)))) (cap-(i+(n-(i+1)))) (by omega)
   (fun t ht=>by simp[World.cell?,a1,Array.getElem?_eq_getElem (show i+(n-(i+1))+t<c1.size by omega)]) (fun t ht=>frozen_of_row W1 g _ c1 _ a1)
  rw[show n-(i+(n-(i+1)))=1 by omega]at this⊢;exact this
 have HE:Hid (Z5 (.slice (some (aD g 0)) n cap) n xs i w (.returned (.slice (some (aD g 0)) (i+(n-(i+1))) cap)) (W1.setCells g (i+(n-(i+1))) [.pointer none])):=by
  obtain⟨c2,b1,b2,b3⟩:=BG g 65 [.pointer none] (i+(n-(i+1))) W1 c1 a1 (by simp;omega);have hel:(xs.eraseIdx i).length=n-1:=by rw[List.length_eraseIdx,if_pos (by omega)];omega
  refine⟨_,rfl,⟨by omega,Or.inr ⟨g,cap,c2,by rw[show i+(n-(i+1))=n-1 by omega],zLS _,b1,by omega,hcm,by omega,?_⟩⟩,?_,rfl⟩
  .rw[Nat.mul_one,b3,show i+(n-(i+1))=n-1 by omega];have hl:(c1.toList.take (n-1)).length=n-1:=by simp;omega
   (rw[zLc,zLU (by omega),zLP (by omega),a3,Nat.mul_one,zLk];have ht:cur.toList.take i=xs.take i:=by rw[<-htake,List.take_take,Nat.min_eq_left (by omega)]);rw[ht,<-List.eraseIdx_eq_take_drop_succ,zLU (by omega),zLP (by omega)]
  .have q1:w.grownBy W1 (some g):=by
    have:=Au w.drew g (0+i*1) (xs.drop (i+1));rw[<-hW1]at this;exact ED this
   exact q1.trans (Au W1 g _ _)
 have hW:=h_ hW1;have hic:i<=cap:=by omega
 have hjc:i+1<=cap:=by omega
 have hjn:i+1<=n:=by omega
 have hj0:(0:Int)<=(i:Int)+1:=by omega
 have hjN:(i:Int)+1<=(n:Int):=by omega
 have hjt:((i:Int)+1).toNat=i+1:=by omega
 clear hW1 a1 a2 a3 hsp hfz hcs' hown hg htake hcs h1 hdl hxl;go_in;go_wp2_with fail
 go_region_law (refine step_append_room rfl (.tmp 22) (.tmp 25) 54 rfl 65 i0 1 Tryz.underlying54 hi0 hzs g 0 i cap (by simp[Act.eval,Act.put]) A (n-(i+1)) (cap-(i+1)) (xs.drop (i+1)) (by simp[Act.eval,Act.put]) s1.out hsrc.out s2.out (by omega) s3.out ?_;rw[<-hW.out])
 go_wp2
 go_ret;exact HE.out
theorem zEM:(Tryz.prog.info? 3).map (fun i=>(i.zero,i.size,i.bytes))=some (some (iT 0),1,8):=by kernel_rfl
def XC(v:Value)(n:Nat)(xs:List Value)(i:Nat)(u:Value)(w:World)(e:Ending)(w':World):Prop:=
 ∃v',e=.returned v'/\w'.ownsRow 0 3 1 v' (n+1) (Ah xs i u)/\w.grownBy w' v.ownBlock/\(v'.ownBlock=v.ownBlock\/∃g,v'.ownBlock=some g/\w.heap.size<=g)
theorem Rx(v:Value)(n:Nat)(xs:List Value)(vb:Nat)(u:Value)(w:World)(hn:n<=1048576)(hown:w.ownsRow 0 3 1 v n xs)(Kr:u.oneCell'=true)(hcell:w.heap[vb]?=some (.cells #[u] 3 (0,0))):
  Calls Tryz.prog 91 #[v,iT (n:Int),.slice (some (aD vb 0)) 1 1] w (XC v n xs n u w):=by
 obtain⟨i0,hi,hz0,hz1,hz2⟩:=info_parts zEM;have hnews:∀j a,[u][j]?=some a->w.cell? (((aD vb 0):Addr).add j)=some a:=fun j a hj=>by
  match j,hj with
  |0,hj=>simp at hj;subst hj;simp[Addr.add,World.cell?,hcell]
 have h1:∀a∈[u],a.oneCell'=true:=fun a ha=>by simp at ha;subst ha;exact Kr
 obtain⟨v',w',hrun,r1,r2,_⟩:=run_append_own (P:=Tryz.prog) w 0 30 30 3 i0 (iT 0) 1 8 Tryz.underlying30 hi hz0 hz1 hz2 rfl (by decide) v n xs hown (aD vb 0) 1 1 [u] rfl hnews h1 (by simp[maxLen];omega) (by omega) (zLS _);have r3:=BQ (ty:=30) Tryz.underlying30 hi hz0 hz1 hz2 hown (m:=1) (c:=1) rfl hnews h1 (by decide) (by simp[maxLen];omega) (by omega) hrun;have hlen:=hown.1;have HE:Hid (XC v n xs n u w (.returned v') w'):=⟨v',rfl,by
  have:Ah xs n u=xs++[u]:=by unfold Ah;rw[zLP (by omega),zLf (by omega)]
  rw[this];exact r1,r2,r3.imp id (fun h=>⟨_,h,zLK _⟩)⟩
 obtain⟨ao,cap,rfl⟩:=Ac hown;have hnc:n<=cap:=by
  rcases hown.2 with⟨hv,h0⟩|⟨g,c,cur,hv,_,_,hc,_⟩
  .omega
  .injection hv with _ _ e3;omega
 by_cases hcn:cap=n
 .subst hcn;go_in;go_wp2_with(at_builtin;refine Lib.wpList_append_run _ rfl _ _ _ _ rfl _ _ rfl rfl _ _ hrun ?_);go_ret;exact HE.out
 .go_in;go_wp2_with(at_builtin;refine Lib.wpList_append_run _ rfl _ _ _ _ rfl _ _ rfl rfl _ _ hrun ?_);go_ret;exact HE.out
theorem dI:(Tryz.prog.info? 119).map (fun i=>(i.zero,i.size,i.bytes))=some (some (.agg #[eS,iT 0,iT 0,eS]),4,48):=by kernel_rfl
def XB(v:Value)(n:Nat)(xs:List Value)(r:Rec)(w:World)(e:Ending)(w':World):Prop:=
 ∃v',e=.returned v'/\w'.ownsRow 0 119 4 v' (n+1) (xs++r.cells)/\w.grownBy w' v.ownBlock/\(v'.ownBlock=v.ownBlock\/∃g,v'.ownBlock=some g/\w.heap.size<=g)
theorem dD(v:Value)(n:Nat)(xs:List Value)(vb:Nat)(r:Rec)(w:World)(hn:n<=1048576)(hown:w.ownsRow 0 119 4 v n xs)(hcell:∀j a,r.cells[j]?=some a->w.cell? (((aD vb 0):Addr).add j)=some a):
  Calls Tryz.prog 128 #[v,iT (n:Int),.slice (some (aD vb 0)) 1 1] w (XB v n xs r w):=by
 obtain⟨i0,hi,hz0,hz1,hz2⟩:=info_parts dI;have hnews:=hcell;have h1:=EI r;obtain⟨v',w',hrun,r1,r2,_⟩:=run_append_own (P:=Tryz.prog) w 0 115 115 119 i0 (.agg #[eS,iT 0,iT 0,eS]) 4 48 Tryz.underlying115 hi hz0 hz1 hz2 rfl (by decide) v n xs hown (aD vb 0) 1 1 r.cells rfl hnews h1 (by simp[maxLen];omega) (by omega) (zLS _);have r3:=BQ (ty:=115) Tryz.underlying115 hi hz0 hz1 hz2 hown (m:=1) (c:=1) rfl hnews h1 (by decide) (by simp[maxLen];omega) (by omega) hrun;have HE:Hid (XB v n xs r w (.returned v') w'):=⟨v',rfl,r1,r2,r3.imp id (fun h=>⟨_,h,zLK _⟩)⟩;obtain⟨ao,cap,rfl⟩:=Ac hown;have hnc:n<=cap:=by
  rcases hown.2 with⟨hv,h0⟩|⟨g,c,cur,hv,_,_,hc,_⟩
  .omega
  .injection hv with _ _ e3;omega
 by_cases hcn:cap=n
 .subst hcn;go_in;go_wp2_with(at_builtin;refine Lib.wpList_append_run _ rfl _ _ _ _ rfl _ _ rfl rfl _ _ hrun ?_);go_ret;exact HE.out
 .go_in;go_wp2_with(at_builtin;refine Lib.wpList_append_run _ rfl _ _ _ _ rfl _ _ rfl rfl _ _ hrun ?_);go_ret;exact HE.out
theorem wu:(Tryz.prog.info? 154).map (fun i=>(i.zero,i.size,i.bytes))=some (some (.pointer none),1,8):=by kernel_rfl
def Gu(v:Value)(n:Nat)(xs:List Value)(i:Nat)(u:Value)(w:World)(e:Ending)(w':World):Prop:=
 ∃v',e=.returned v'/\w'.ownsRow 0 154 1 v' (n+1) (Ah xs i u)/\w.grownBy w' v.ownBlock/\(v'.ownBlock=v.ownBlock\/∃g,v'.ownBlock=some g/\w.heap.size<=g)
theorem dG(v:Value)(n:Nat)(xs:List Value)(vb:Nat)(u:Value)(w:World)(hn:n<=1048576)(hown:w.ownsRow 0 154 1 v n xs)(Kr:u.oneCell'=true)(hcell:w.heap[vb]?=some (.cells #[u] 154 (0,0))):
  Calls Tryz.prog 126 #[v,iT (n:Int),.slice (some (aD vb 0)) 1 1] w (Gu v n xs n u w):=by
 obtain⟨i0,hi,hz0,hz1,hz2⟩:=info_parts wu;have hnews:∀j a,[u][j]?=some a->w.cell? (((aD vb 0):Addr).add j)=some a:=fun j a hj=>by
  match j,hj with
  |0,hj=>simp at hj;subst hj;simp[Addr.add,World.cell?,hcell]
 have h1:∀a∈[u],a.oneCell'=true:=fun a ha=>by simp at ha;subst ha;exact Kr
 obtain⟨v',w',hrun,r1,r2,_⟩:=run_append_own (P:=Tryz.prog) w 0 80 80 154 i0 (.pointer none) 1 8 Tryz.underlying80 hi hz0 hz1 hz2 rfl (by decide) v n xs hown (aD vb 0) 1 1 [u] rfl hnews h1 (by simp[maxLen];omega) (by omega) (zLS _);have r3:=BQ (ty:=80) Tryz.underlying80 hi hz0 hz1 hz2 hown (m:=1) (c:=1) rfl hnews h1 (by decide) (by simp[maxLen];omega) (by omega) hrun;have hlen:=hown.1;have HE:Hid (Gu v n xs n u w (.returned v') w'):=⟨v',rfl,by
  have:Ah xs n u=xs++[u]:=by unfold Ah;rw[zLP (by omega),zLf (by omega)]
  rw[this];exact r1,r2,r3.imp id (fun h=>⟨_,h,zLK _⟩)⟩
 clear r1 r2 r3 hnews h1 hlen;obtain⟨ao,cap,rfl⟩:=Ac hown;have hnc:n<=cap:=by
  rcases hown.2 with⟨hv,h0⟩|⟨g,c,cur,hv,_,_,hc,_⟩
  .omega
  .injection hv with _ _ e3;omega
 clear hown hcell;by_cases hcn:cap=n
 .subst hcn;go_in;go_wp2_with(at_builtin;refine Lib.wpList_append_run _ rfl _ _ _ _ rfl _ _ rfl rfl _ _ hrun ?_);go_ret;exact HE.out
 .go_in;go_wp2_with(at_builtin;refine Lib.wpList_append_run _ rfl _ _ _ _ rfl _ _ rfl rfl _ _ hrun ?_);go_ret;exact HE.out
theorem YJ(g cap n:Nat)(xs:List Value)(i vb:Nat)(u:Value)(w:World)(hi:i<n)(hn:n<=1048576)(hroom:n+1<=cap)(hown:w.ownsRow 0 154 1 (.slice (some (aD g 0)) n cap) n xs)(h1:∀x∈xs,x.oneCell'=true)(Kr:u.oneCell'=true)(hvb:vb≠g)(hcell:w.heap[vb]?=some (.cells #[u] 154 (0,0))):
  Calls Tryz.prog 126 #[.slice (some (aD g 0)) n cap,iT (i:Int),.slice (some (aD vb 0)) 1 1] w (Gu (.slice (some (aD g 0)) n cap) n xs i u w):=by
 obtain⟨i0,hi0,hz0,hzs,hzb⟩:=info_parts wu;have hsz:(Tryz.prog.info? 154).map (·.size)=some 1:=by rw[hi0];simp[hzs]
 have hco:∀w,(Go.sizeOf 154).run Tryz.prog w=.ok 1 w:=Tryz.sizeOf154;obtain⟨cur,hg,hcm,hcs,htake⟩:∃cur,w.heap[g]?=some (.cells cur 154 (0,0))/\cap<=maxLen/\cur.size=cap/\cur.toList.take n=xs:=by
  rcases hown.2 with⟨hv,_⟩|⟨g',c,cur,hv,_,hh,_,h2,h3,h4⟩
  .injection hv with e;simp at e
  .injection hv with e1 e2 e3;injection e1 with e1;injection e1 with e1;subst e1 e3;exact⟨cur,hh,h2,by omega,by simpa using h4⟩
 have hxl:xs.length=n:=by have:=hown.1;omega
 have hc63:cap<=9223372036854775807:=by simp[maxLen]at hcm;omega
 have hcs':∀j v,xs[j]?=some v->w.cell? (aD g j)=some v:=fun j v hj=>by
  have:=hown.cells (g:=g) rfl j v hj;have hp:((aD g 0):Addr).add j=(aD g j):=by rw[Addr.add_lit];simp
  rwa [hp]at this
 have hsp:∀j,j<n+1->(w.cell? (aD g j)).isSome=true:=fun j hj=>by simp[World.cell?,hg,Array.getElem?_eq_getElem (show j<cur.size by omega)]
 have hfz:∀j,w.frozen? (aD g j)=false:=fun j=>frozen_of_row w g j cur _ hg;have hov:∀lb cb,(callFunc 157 #[.slice (some (aD vb 0)) 1 1,.slice (some (aD g (i+1))) lb cb]).run Tryz.prog w=.ok (.value (.bool false)) w:=fun lb cb=>by
  rw[run_callFunc_extern Tryz.func157 (by kernel_rfl) (by kernel_rfl) (by kernel_rfl) (e:=Extern.SlicesOverlaps.overlaps #[80,80] #[4]) (by kernel_rfl),
   Lib.run_overlaps_apart w 80 4 154 Tryz.underlying80 1 hco (aD vb 0) (aD g (i+1)) 1 1 lb cb hvb 154 154 1 cap (by simp[World.shape?,hcell]) (by simp[World.shape?,hg,hcs]) (by omega) (frozen_of_row w vb 0 _ _ hcell) (frozen_of_row w vb 1 _ _ hcell)]
  rfl
 have hdl:(xs.drop i).length=n-i:=by rw[List.length_drop,hxl]
 obtain⟨W1,hW1⟩:=ex (w.drew.setCells g (i+1) (xs.drop i));have hcp1:∀ty dc sc,(Builtin.copy_ #[80,80] ty #[.slice (some (aD g (i+1))) (n-i) dc,.slice (some (aD g i)) (n+1-i) sc]).run Tryz.prog w.drew=.ok (goInt (xs.drop i).length) W1:=fun ty dc sc=>by
  rw[hW1];exact run_copy_cells w.drew _ _ ty 154 g (i+1) (n-i) dc (aD g i) (n+1-i) sc (xs.drop i) Tryz.underlying80 hsz (by rw[hdl];simp only[Nat.min_def];split<;>omega)
   (fun j v hj=>by rw[Addr.add_lit];exact hcs' (i+j) v (by rwa [zLr]at hj))
   (fun j hj=>hsp _ (by omega)) (fun j hj=>hfz _) (fun v hv=>h1 v (List.mem_of_mem_drop hv))
 have hsp1:∀k,k<n+1->(W1.cell? (aD g k)).isSome=true:=fun k hk=>by
  rw[hW1];exact isSome_setCells g (xs.drop i) (i+1) w.drew (fun j hj=>hsp _ (by rw[hdl]at hj;omega)) _ (hsp k hk)
 have hcp2:∀ty dc,(Builtin.copy_ #[80,80] ty #[.slice (some (aD g i)) (n+1-i) dc,.slice (some (aD vb 0)) 1 1]).run Tryz.prog W1=.ok (goInt 1) (W1.setCells g i [u]):=fun ty dc =>
  run_copy_cells W1 _ _ ty 154 g i (n+1-i) dc (aD vb 0) 1 1 [u] Tryz.underlying80 hsz (by simp only[Nat.min_def,zLQ,zLW];split<;>omega)
   (fun j v hj=>by
    match j,hj with
    |0,hj =>
     simp at hj;subst hj;rw[Addr.add_lit,hW1,World.cell?_setCells_out g _ _ _ _ (fun h _=>absurd h hvb)];show w.cell? (aD vb 0)=some u
     simp[World.cell?,hcell])
   (fun j hj=>by simp at hj;subst hj;exact hsp1 i (by omega)) (fun j hj=>by rw[hW1,World.frozen?_setCells];exact hfz _) (fun v hv=>by simp at hv;subst hv;exact Kr)
 have HE:Hid (Gu (.slice (some (aD g 0)) n cap) n xs i u w (.returned (.slice (some (aD g 0)) (n+1) cap)) (W1.setCells g i [u])):=by
  obtain⟨c1,a1,a2,a3⟩:=BG g 154 (xs.drop i) (i+1) w.drew cur hg (by rw[hdl];omega);rw[<-hW1]at a1;obtain⟨c2,b1,b2,b3⟩:=BG g 154 [u] i W1 c1 a1 (by simp;omega);have hl1:(cur.toList.take (i+1)).length=i+1:=by simp;omega
  have hti:c1.toList.take i=xs.take i:=by
   rw[a3,zLc,zLU (by omega),List.take_take,Nat.min_eq_left (by omega),<-htake,List.take_take,Nat.min_eq_left (by omega)]
  have hdi:c1.toList.drop (i+1)=xs.drop i++cur.toList.drop (i+1+(xs.drop i).length):=by
   rw[a3,zLc,List.drop_append_of_le_length (by omega),zLf (by omega),zLb]
  refine⟨_,rfl,⟨by unfold Ah;simp;omega,Or.inr ⟨g,cap,c2,rfl,zLS _,b1,by omega,hcm,by omega,?_⟩⟩,?_,Or.inl rfl⟩
  .rw[b3,hti];simp only[zLQ,zLW,zLk,Nat.mul_one];rw[hdi];unfold Ah;have hA:(xs.take i++[u]++xs.drop i).length=n+1:=by simp;omega
   rw[show xs.take i++[u]++(xs.drop i++cur.toList.drop (i+1+(xs.drop i).length))=(xs.take i++[u]++xs.drop i)++cur.toList.drop (i+1+(xs.drop i).length) by simp,zLU (by omega),zLP (by omega)];simp
  .have q1:w.grownBy W1 (some g):=by
    have:=Au w.drew g (i+1) (xs.drop i);rw[<-hW1]at this;exact ED this
   exact q1.trans (Au W1 g i [u])
 have hW:=h_ hW1;have hz2:¬((i:Int)=(n:Int)):=by omega
 have hz3:¬((cap:Int)<(n:Int)+1):=by omega
 have hw1:IntKind.i64.wrap ((i:Int)+1)=(i:Int)+1:=by rw[IntKind.wrap_i64];omega
 have hw2:IntKind.i64.wrap ((n:Int)+1)=(n:Int)+1:=by rw[IntKind.wrap_i64];omega
 have hb1:(0:Int)<=(i:Int)+1:=by omega
 have htn:((i:Int)+1).toNat=i+1:=by omega
 have zAj:((n:Int)+1).toNat=n+1:=by omega
 have hb2:¬(cap=i+1):=by omega
 have hb3:(i:Int)<=(n:Int)+1:=by omega
 have hb4:¬(cap=i):=by omega
 have hin:i<=n:=by omega
 have hnc:n<=cap:=by omega
 clear hW1 hsp hsp1 hfz hcs' hcell hown hg htake hcs h1 hdl hxl;go_in;go_wp2_with(simp only[hov])
 go_region_law (refine step_copy_runI rfl _ _ 80 80 rfl _ _ (by simp[Act.eval,Act.put]) (by simp[Act.eval,Act.put]) (hcp1 _ _ _) ?_)
 go_wp2_with(at_builtin;refine wpList_copy_runI _ rfl _ _ 80 80 rfl _ _ rfl rfl (hcp2 _ _) ?_);go_ret;exact HE.out
theorem YM(g n:Nat)(xs:List Value)(i vb:Nat)(u:Value)(w:World)(hi:i<n)(hn:n<=1048576)(hown:w.ownsRow 0 154 1 (.slice (some (aD g 0)) n n) n xs)(h1:∀x∈xs,x.oneCell'=true)(Kr:u.oneCell'=true)(hcell:w.heap[vb]?=some (.cells #[u] 154 (0,0))):
  Calls Tryz.prog 126 #[.slice (some (aD g 0)) n n,iT (i:Int),.slice (some (aD vb 0)) 1 1] w (Gu (.slice (some (aD g 0)) n n) n xs i u w):=by
 obtain⟨i0,hi0,hz0,hzs,hzb⟩:=info_parts wu;have hsz:(Tryz.prog.info? 154).map (·.size)=some 1:=by rw[hi0];simp[hzs]
 have hxl:xs.length=n:=by have:=hown.1;omega
 have hgw:g<w.heap.size:=(hown.lt g rfl).2;have hvw:vb<w.heap.size:=(zLM.1 hcell).1;have hcs':∀j v,xs[j]?=some v->w.cell? (aD g j)=some v:=fun j v hj=>by
  have:=hown.cells (g:=g) rfl j v hj;have hp:((aD g 0):Addr).add j=(aD g j):=by rw[Addr.add_lit];simp
  rwa [hp]at this
 have hold:(Builtin.firstCells i0.size i (.slice (some (aD g 0)) i n)).run Tryz.prog w.drew=.ok (xs.take i).toArray w.drew:=by
  rw[hzs];exact run_firstCells_some w.drew 1 i (aD g 0) i n (xs.take i) (by rw[zM6];omega) (fun j v hj=>by
   rw[Addr.add_lit,zLk];rw[List.getElem?_take]at hj;split at hj
   .exact hcs' j v hj
   .cases hj)
 have hkk:((n+1-i:Nat):Int)=(n:Int)+1-(i:Int):=by omega
 have hik:i+(n+1-i)=n+1:=by omega
 obtain⟨G,hG⟩:=ex (grownCap w (n+1) n 154);obtain⟨ROW,hROW⟩:∃ROW:Array Value,ROW=(xs.take i).toArray++Builtin.zeroCells (.pointer none:Value).cells (n+1-i)++Builtin.zeroCells (.pointer none:Value).cells (G-(n+1)):=⟨_,rfl⟩;obtain⟨W1,hW1⟩:=ex (w.drew.alloc (.cells ROW 154));have hrz:∀ty,(Builtin.append_ #[80,3] ty #[.slice (some (aD g 0)) i n,iT ((n:Int)+1-(i:Int))]).run Tryz.prog w=.ok (.slice (some (aD w.heap.size 0)) (n+1) G) W1:=fun ty=>by
  have h:=Lib.run_append_grow_zeros w 80 3 ty 154 i0 _ .i64 .i64 Tryz.underlying80 Tryz.underlying3 hi0 hz0 (some (aD g 0)) i n (xs.take i) hold (n+1-i) (by omega) (by omega) (by omega) (by omega) (by rw[hzb];omega) (by rw[hzb,hik];exact growslice_fits (by omega) (by omega));rw[hik,hkk,<-hG,<-hROW,<-hW1]at h;exact h
 have hGn:n+1<=G:=by rw[hG];exact grownCap_ge w _ _ _
 have uX:G<=maxLen:=by rw[hG];exact grownCap_le_maxLen w (n+1) n 154 (by simp[maxLen];omega)
 have hG63:G<=9223372036854775807:=by simp[maxLen]at uX;omega
 have hRz:ROW.size=G:=by
  rw[hROW];simp[Builtin.zeroCells,Value.cells];omega
 have hN:∀j,j<n+1->(W1.cell? (aD w.heap.size j)).isSome=true:=fun j hj=>by
  rw[hW1,World.cell?_alloc_at (w:=w.drew) ROW _ w.heap.size j rfl,zLu (by omega)];rfl
 have hNf:∀j,W1.frozen? (aD w.heap.size j)=false:=fun j=>by rw[hW1];exact World.frozen?_alloc_at (w:=w.drew) ROW _ w.heap.size j rfl
 obtain⟨W2,hW2⟩:=ex (W1.setCells w.heap.size i [u]);have hcpA:∀ty dc,(Builtin.copy_ #[80,80] ty #[.slice (some (aD w.heap.size i)) (n+1-i) dc,.slice (some (aD vb 0)) 1 1]).run Tryz.prog W1=.ok (goInt 1) W2:=fun ty dc=>by
  rw[hW2];exact run_copy_cells W1 _ _ ty 154 w.heap.size i (n+1-i) dc (aD vb 0) 1 1 [u] Tryz.underlying80 hsz (by simp only[Nat.min_def,zLQ,zLW];split<;>omega)
   (fun j v hj=>by
    match j,hj with
    |0,hj =>
     simp at hj;subst hj;rw[Addr.add_lit,hW1,World.cell?_alloc_past (w:=w.drew) _ vb (0+0) hvw];show w.cell? (aD vb 0)=some u
     simp[World.cell?,hcell])
   (fun j hj=>hN _ (by simp at hj;omega)) (fun j hj=>hNf _) (fun v hv=>by simp at hv;subst hv;exact Kr)
 have hdl:(xs.drop i).length=n-i:=by rw[List.length_drop,hxl]
 have hcpB:∀ty dc sc,(Builtin.copy_ #[80,80] ty #[.slice (some (aD w.heap.size (i+1))) (n-i) dc,.slice (some (aD g i)) (n-i) sc]).run Tryz.prog W2.drew=.ok (goInt (xs.drop i).length) (W2.drew.setCells w.heap.size (i+1) (xs.drop i)):=fun ty dc sc=>by
  exact run_copy_cells W2.drew _ _ ty 154 w.heap.size (i+1) (n-i) dc (aD g i) (n-i) sc (xs.drop i) Tryz.underlying80 hsz (by rw[hdl];simp only[Nat.min_def];split<;>omega)
   (fun j v hj=>by
    rw[Addr.add_lit];show W2.cell? (aD g (i+j))=some v
    rw[hW2,World.cell?_setCells_out _ _ _ _ _ (fun h _=>absurd h (Nat.ne_of_lt hgw)),hW1,World.cell?_alloc_past (w:=w.drew) _ g (i+j) hgw];exact hcs' (i+j) v (by rwa [zLr]at hj))
   (fun j hj=>by
    show(W2.cell? (aD w.heap.size (i+1+j))).isSome=true
    rw[hW2];exact isSome_setCells w.heap.size [u] i W1 (fun t ht=>hN _ (by simp at ht;omega)) _ (hN _ (by omega)))
   (fun j hj=>by show W2.frozen? _=false;rw[hW2,World.frozen?_setCells];exact hNf _) (fun v hv=>h1 v (List.mem_of_mem_drop hv))
 have HE:Hid (Gu (.slice (some (aD g 0)) n n) n xs i u w (.returned (.slice (some (aD w.heap.size 0)) (n+1) G)) (W2.drew.setCells w.heap.size (i+1) (xs.drop i))):=by
  have hg1:W1.heap[w.heap.size]?=some (.cells ROW 154 (0,0)):=by rw[hW1];exact heap_alloc_new w.drew _
  obtain⟨c1,a1,a2,a3⟩:=BG w.heap.size 154 [u] i W1 ROW hg1 (by simp;omega);rw[<-hW2]at a1;obtain⟨c2,b1,b2,b3⟩:=BG w.heap.size 154 (xs.drop i) (i+1) W2.drew c1 a1 (by rw[hdl];omega);have XL:ROW.toList.take i=xs.take i:=by
   rw[hROW];simp only[Array.toList_append,zLc];rw[zLU (by simp;omega),zLP (by simp;omega)]
  have h1t:c1.toList.take (i+1)=xs.take i++[u]:=by
   (have hl:(xs.take i++[u]).length=i+1:=by simp;omega);rw[a3,XL,zLU (by omega),zLP (by omega)]
  refine⟨_,rfl,⟨by unfold Ah;simp;omega,Or.inr ⟨w.heap.size,G,c2,rfl,zLS _,b1,hGn,uX,by omega,?_⟩⟩,?_,Or.inr ⟨w.heap.size,rfl,zLK _⟩⟩
  .rw[b3,h1t];have hA:(xs.take i++[u]++xs.drop i).length=n+1:=by simp;omega
   rw[Nat.mul_one,zLU (by omega),zLP (by omega)];unfold Ah;simp
  .have q1:w.grownBy W1 none:=by rw[hW1];exact(FX w none).trans (CY w.drew _ none)
   have q2:=Au W1 w.heap.size i [u];rw[<-hW2]at q2;have q3:=Au W2.drew w.heap.size (i+1) (xs.drop i);have q4:w.grownBy W2 none:=IL q1 q2 (zLK _);have q5:w.grownBy W2.drew none:=q4.trans (FX _ _);exact QK (IL q5 q3 (zLK _)) _
 have hz2:¬((i:Int)=(n:Int)):=by omega
 have hz3:((n:Int)<(n:Int)+1):=by omega
 have hw1:IntKind.i64.wrap ((i:Int)+1)=(i:Int)+1:=by rw[IntKind.wrap_i64];omega
 have hw2:IntKind.i64.wrap ((n:Int)+1)=(n:Int)+1:=by rw[IntKind.wrap_i64];omega
 have hw3:IntKind.i64.wrap ((n:Int)+1-(i:Int))=(n:Int)+1-(i:Int):=by rw[IntKind.wrap_i64];omega
 have hb1:(0:Int)<=(i:Int)+1:=by omega
 have htn:((i:Int)+1).toNat=i+1:=by omega
 have hGi:¬(G=i):=by omega
 have hGim:¬(G=i+1):=by omega
 have hci:¬(n=i):=by omega
 have hb3:(i:Int)<=(n:Int)+1:=by omega
 have hin:i<=n:=by omega
 have hiG:i+1<=G:=by omega
 clear hkk hik hold hROW hG hRz hN hNf hcs' hown hcell hW1 hW2 hdl hxl h1;go_in;go_wp2_with(first
  |(at_builtin;refine Lib.wpList_append_run _ rfl _ _ _ _ rfl _ _ rfl rfl _ _ (hrz _) ?_)
  |(at_builtin;refine wpList_copy_runI _ rfl _ _ 80 80 rfl _ _ rfl rfl (hcpA _ _) ?_))
 go_region_law (refine step_copy_runI rfl _ _ 80 80 rfl _ _ (by simp[Act.eval,Act.put]) (by simp[Act.eval,Act.put]) (hcpB _ _ _) ?_)
 go_wp2
 go_ret;exact HE.out
theorem wY(v:Value)(n:Nat)(xs:List Value)(i vb:Nat)(u:Value)(w:World)(hi:i<=n)(hn:n<=1048576)(hown:w.ownsRow 0 154 1 v n xs)(h1:∀x∈xs,x.oneCell'=true)(Kr:u.oneCell'=true)(hvb:v.ownBlock≠some vb)(hcell:w.heap[vb]?=some (.cells #[u] 154 (0,0))):
  Calls Tryz.prog 126 #[v,iT (i:Int),.slice (some (aD vb 0)) 1 1] w (Gu v n xs i u w):=by
 by_cases he:i=n
 .subst he;exact dG v i xs vb u w hn hown Kr hcell
 .rcases hown.2 with⟨_,h0⟩|⟨g,cap,cur,rfl,_,_,hnc,_⟩
  .omega
  .by_cases hr:n+1<=cap
   .exact YJ g cap n xs i vb u w (by omega) hn hr hown h1 Kr (fun e=>hvb (by rw[e];rfl)) hcell
   ·(obtain rfl:cap=n:=by omega);exact YM g cap xs i vb u w (by omega) hn hown h1 Kr hcell
end Go.Proofs.YtekdenkllipehaaGreatDoor
