import Derived.Test.YtekdenkllipehabGreatDoorK15
import Derived.Test.YtekdenkllipehabGreatDoorK24
import Derived.Shelf.Spec.SlicesInsertGrow
set_option maxRecDepth 100000
set_option maxHeartbeats 8000000
namespace Go.Proofs.YtekdenkllipehabGreatDoor
open Go.RowKit Go.Lib
theorem infoS:(Tryz.prog.info? 9).map (fun i=>(i.zero,i.size,i.bytes))=some (some (.string ⟨#[]⟩),1,16):=by kernel_rfl
def InsertedS (v:Value) (n:Nat) (xs:List Value) (i:Nat) (u:Value) (w:World) (e:Ending) (w':World):Prop:=
 ∃ v',e=.returned v'∧w'.ownsRow 0 9 1 v' (n+1) (insAt xs i u)∧w.grownBy w' v.ownBlock∧(v'.ownBlock=v.ownBlock∨∃ g,v'.ownBlock=some g∧w.heap.size≤g)
theorem insertEndS (v:Value) (n:Nat) (xs:List Value) (vb:Nat) (u:Value) (w:World) (hn:n≤1048576) (hown:w.ownsRow 0 9 1 v n xs) (h1u:u.oneCell'=true) (hcell:w.heap[vb]?=some (.cells #[u] 9 (0,0))) :
  Calls Tryz.prog 79 #[v,.int .i64 (n:Int),.slice (some ⟨vb,0,none⟩) 1 1] w (InsertedS v n xs n u w):=by
 obtain ⟨i0,hi,hz0,hz1,hz2⟩:=info_parts infoS
 have hnews:∀ j a,[u][j]?=some a→w.cell? ((⟨vb,0,none⟩:Addr).add j)=some a:=fun j a hj=>by
  match j,hj with
  | 0,hj=>simp at hj;subst hj;simp [Addr.add,World.cell?,hcell]
 have h1:∀ a∈[u],a.oneCell'=true:=fun a ha=>by simp at ha;subst ha;exact h1u
 obtain ⟨v',w',hrun,r1,r2,_⟩:=run_append_own (P:=Tryz.prog) w 0 63 63 9 i0 (.string ⟨#[]⟩) 1 16 Tryz.underlying63 hi hz0 hz1 hz2 rfl (by decide) v n xs hown ⟨vb,0,none⟩ 1 1 [u] rfl hnews h1 (by simp [maxLen];omega) (by omega) (Nat.zero_le _)
 have r3:=append_where (ty:=63) Tryz.underlying63 hi hz0 hz1 hz2 hown (m:=1) (c:=1) rfl hnews h1 (by decide) (by simp [maxLen];omega) (by omega) hrun
 have hlen:=hown.1
 have HE:Hid (InsertedS v n xs n u w (.returned v') w'):=⟨v',rfl,by
  have:insAt xs n u=xs++[u]:=by unfold insAt;rw [List.take_of_length_le (by omega),List.drop_of_length_le (by omega)]
  rw [this];exact r1,r2,r3.imp id (fun h=>⟨_,h,Nat.le_refl _⟩)⟩
 clear r1 r2 r3 hnews h1 hlen
 obtain ⟨ao,cap,rfl⟩:=own_form hown
 have hnc:n≤cap:=by
  rcases hown.2 with ⟨hv,h0⟩|⟨g,c,cur,hv,_,_,hc,_⟩
  ·omega
  ·injection hv with _ _ e3;omega
 clear hown hcell
 by_cases hcn:cap=n
 ·subst hcn
  go_enter Tryz.func79,Tryz.ntmps79
  go_wp2_with (at_builtin;refine Lib.wpList_append_run _ rfl _ _ _ _ rfl _ _ rfl rfl _ _ hrun ?_)
  go_ret
  exact HE.out
 ·go_enter Tryz.func79,Tryz.ntmps79
  go_wp2_with (at_builtin;refine Lib.wpList_append_run _ rfl _ _ _ _ rfl _ _ rfl rfl _ _ hrun ?_)
  go_ret
  exact HE.out
theorem insertRoomS (g cap n:Nat) (xs:List Value) (i vb:Nat) (u:Value) (w:World) (hi:i<n) (hn:n≤1048576) (hroom:n+1≤cap) (hown:w.ownsRow 0 9 1 (.slice (some ⟨g,0,none⟩) n cap) n xs) (h1:∀ x∈xs,x.oneCell'=true) (h1u:u.oneCell'=true)
  (hvb:vb≠g) (hcell:w.heap[vb]?=some (.cells #[u] 9 (0,0))) :
  Calls Tryz.prog 79 #[.slice (some ⟨g,0,none⟩) n cap,.int .i64 (i:Int),.slice (some ⟨vb,0,none⟩) 1 1] w (InsertedS (.slice (some ⟨g,0,none⟩) n cap) n xs i u w):=by
 obtain ⟨i0,hi0,hz0,hzs,hzb⟩:=info_parts infoS
 have hsz:(Tryz.prog.info? 9).map (·.size)=some 1:=by rw [hi0];simp [hzs]
 have hco:∀ w,(Go.sizeOf 9).run Tryz.prog w=.ok 1 w:=Tryz.sizeOf9
 obtain ⟨cur,hg,hcm,hcs,htake⟩:∃ cur,w.heap[g]?=some (.cells cur 9 (0,0))∧cap≤maxLen∧cur.size=cap∧cur.toList.take n=xs:=by
  rcases hown.2 with ⟨hv,_⟩|⟨g',c,cur,hv,_,hh,_,h2,h3,h4⟩
  ·injection hv with e;simp at e
  ·injection hv with e1 e2 e3
   injection e1 with e1
   injection e1 with e1
   subst e1 e3
   exact ⟨cur,hh,h2,by omega,by simpa using h4⟩
 have hxl:xs.length=n:=by have:=hown.1;omega
 have hc63:cap≤9223372036854775807:=by simp [maxLen] at hcm;omega
 have hcs':∀ j v,xs[j]?=some v→w.cell? ⟨g,j,none⟩=some v:=fun j v hj=>by
  have:=hown.cells (g:=g) rfl j v hj
  have hp:(⟨g,0,none⟩:Addr).add j=⟨g,j,none⟩:=by rw [Addr.add_lit];simp
  rwa [hp] at this
 have hsp:∀ j,j<n+1→(w.cell? ⟨g,j,none⟩).isSome=true:=fun j hj=>by simp [World.cell?,hg,Array.getElem?_eq_getElem (show j<cur.size by omega)]
 have hfz:∀ j,w.frozen? ⟨g,j,none⟩=false:=fun j=>frozen_of_row w g j cur _ hg
 have hov:∀ lb cb,(callFunc 109 #[.slice (some ⟨vb,0,none⟩) 1 1,.slice (some ⟨g,i+1,none⟩) lb cb]).run Tryz.prog w=.ok (.value (.bool false)) w:=fun lb cb=>by
  rw [run_callFunc_extern Tryz.func109 (by kernel_rfl) (by kernel_rfl) (by kernel_rfl) (e:=Extern.SlicesOverlaps.overlaps #[63,63] #[4]) (by kernel_rfl),
   Lib.run_overlaps_apart w 63 4 9 Tryz.underlying63 1 hco ⟨vb,0,none⟩ ⟨g,i+1,none⟩ 1 1 lb cb hvb 9 9 1 cap (by simp [World.shape?,hcell]) (by simp [World.shape?,hg,hcs]) (by omega) (frozen_of_row w vb 0 _ _ hcell) (frozen_of_row w vb 1 _ _ hcell)]
  rfl
 have hdl:(xs.drop i).length=n-i:=by rw [List.length_drop,hxl]
 obtain ⟨W1,hW1⟩:∃ W1,W1=w.drew.setCells g (i+1) (xs.drop i):=⟨_,rfl⟩
 have hcp1:∀ ty dc sc,(Builtin.copy_ #[63,63] ty #[.slice (some ⟨g,i+1,none⟩) (n-i) dc,.slice (some ⟨g,i,none⟩) (n+1-i) sc]).run Tryz.prog w.drew=.ok (goInt (xs.drop i).length) W1:=fun ty dc sc=>by
  rw [hW1]
  exact run_copy_cells w.drew _ _ ty 9 g (i+1) (n-i) dc ⟨g,i,none⟩ (n+1-i) sc (xs.drop i) Tryz.underlying63 hsz (by rw [hdl];simp only [Nat.min_def];split<;>omega)
   (fun j v hj=>by rw [Addr.add_lit];exact hcs' (i+j) v (by rwa [List.getElem?_drop] at hj))
   (fun j hj=>hsp _ (by omega)) (fun j hj=>hfz _) (fun v hv=>h1 v (List.mem_of_mem_drop hv))
 have hsp1:∀ k,k<n+1→(W1.cell? ⟨g,k,none⟩).isSome=true:=fun k hk=>by
  rw [hW1]
  exact isSome_setCells g (xs.drop i) (i+1) w.drew (fun j hj=>hsp _ (by rw [hdl] at hj;omega)) _ (hsp k hk)
 have hcp2:∀ ty dc,(Builtin.copy_ #[63,63] ty #[.slice (some ⟨g,i,none⟩) (n+1-i) dc,.slice (some ⟨vb,0,none⟩) 1 1]).run Tryz.prog W1=.ok (goInt 1) (W1.setCells g i [u]):=fun ty dc =>
  run_copy_cells W1 _ _ ty 9 g i (n+1-i) dc ⟨vb,0,none⟩ 1 1 [u] Tryz.underlying63 hsz (by simp only [Nat.min_def,List.length_cons,List.length_nil];split<;>omega)
   (fun j v hj=>by
    match j,hj with
    | 0,hj =>
     simp at hj;subst hj
     rw [Addr.add_lit,hW1,World.cell?_setCells_out g _ _ _ _ (fun h _=>absurd h hvb)]
     show w.cell? ⟨vb,0,none⟩=some u
     simp [World.cell?,hcell])
   (fun j hj=>by simp at hj;subst hj;exact hsp1 i (by omega)) (fun j hj=>by rw [hW1,World.frozen?_setCells];exact hfz _) (fun v hv=>by simp at hv;subst hv;exact h1u)
 have HE:Hid (InsertedS (.slice (some ⟨g,0,none⟩) n cap) n xs i u w (.returned (.slice (some ⟨g,0,none⟩) (n+1) cap)) (W1.setCells g i [u])):=by
  obtain ⟨c1,a1,a2,a3⟩:=setCells_row g 9 (xs.drop i) (i+1) w.drew cur hg (by rw [hdl];omega)
  rw [←hW1] at a1
  obtain ⟨c2,b1,b2,b3⟩:=setCells_row g 9 [u] i W1 c1 a1 (by simp;omega)
  have hl1:(cur.toList.take (i+1)).length=i+1:=by simp;omega
  have hti:c1.toList.take i=xs.take i:=by
   rw [a3,List.append_assoc,List.take_append_of_le_length (by omega),List.take_take,Nat.min_eq_left (by omega),←htake,List.take_take,Nat.min_eq_left (by omega)]
  have hdi:c1.toList.drop (i+1)=xs.drop i++cur.toList.drop (i+1+(xs.drop i).length):=by
   rw [a3,List.append_assoc,List.drop_append_of_le_length (by omega),List.drop_of_length_le (by omega),List.nil_append]
  refine ⟨_,rfl,⟨by unfold insAt;simp;omega,Or.inr ⟨g,cap,c2,rfl,Nat.zero_le _,b1,by omega,hcm,by omega,?_⟩⟩,?_,Or.inl rfl⟩
  ·rw [b3,hti]
   simp only [List.length_cons,List.length_nil,Nat.zero_add,Nat.mul_one]
   rw [hdi]
   unfold insAt
   have hA:(xs.take i++[u]++xs.drop i).length=n+1:=by simp;omega
   rw [show xs.take i++[u]++(xs.drop i++cur.toList.drop (i+1+(xs.drop i).length))=(xs.take i++[u]++xs.drop i)++cur.toList.drop (i+1+(xs.drop i).length) by simp,List.take_append_of_le_length (by omega),List.take_of_length_le (by omega)]
   simp
  ·have q1:w.grownBy W1 (some g):=by
    have:=grown_setCells w.drew g (i+1) (xs.drop i)
    rw [←hW1] at this
    exact grown_undrew this
   exact q1.trans (grown_setCells W1 g i [u])
 have hW:Hid (W1=w.drew.setCells g (i+1) (xs.drop i)):=hW1
 have hz2:¬((i:Int)=(n:Int)):=by omega
 have hz3:¬((cap:Int)<(n:Int)+1):=by omega
 have hw1:IntKind.i64.wrap ((i:Int)+1)=(i:Int)+1:=by rw [IntKind.wrap_i64];omega
 have hw2:IntKind.i64.wrap ((n:Int)+1)=(n:Int)+1:=by rw [IntKind.wrap_i64];omega
 have hb1:(0:Int)≤(i:Int)+1:=by omega
 have htn:((i:Int)+1).toNat=i+1:=by omega
 have htn2:((n:Int)+1).toNat=n+1:=by omega
 have hb2:¬(cap=i+1):=by omega
 have hb3:(i:Int)≤(n:Int)+1:=by omega
 have hb4:¬(cap=i):=by omega
 have hin:i≤n:=by omega
 have hnc:n≤cap:=by omega
 clear hW1 hsp hsp1 hfz hcs' hcell hown hg htake hcs h1 hdl hxl
 go_enter Tryz.func79,Tryz.ntmps79
 go_wp2_with (simp only [hov])
 go_region_law (refine step_copy_runI rfl _ _ 63 63 rfl _ _ (by simp [Act.eval,Act.put]) (by simp [Act.eval,Act.put]) (hcp1 _ _ _) ?_)
 go_wp2_with (at_builtin;refine wpList_copy_runI _ rfl _ _ 63 63 rfl _ _ rfl rfl (hcp2 _ _) ?_)
 go_ret
 exact HE.out
theorem insertGrowS (g n:Nat) (xs:List Value) (i vb:Nat) (u:Value) (w:World) (hi:i<n) (hn:n≤1048576) (hown:w.ownsRow 0 9 1 (.slice (some ⟨g,0,none⟩) n n) n xs) (h1:∀ x∈xs,x.oneCell'=true) (h1u:u.oneCell'=true)
  (hcell:w.heap[vb]?=some (.cells #[u] 9 (0,0))) :
  Calls Tryz.prog 79 #[.slice (some ⟨g,0,none⟩) n n,.int .i64 (i:Int),.slice (some ⟨vb,0,none⟩) 1 1] w (InsertedS (.slice (some ⟨g,0,none⟩) n n) n xs i u w):=by
 obtain ⟨i0,hi0,hz0,hzs,hzb⟩:=info_parts infoS
 have hsz:(Tryz.prog.info? 9).map (·.size)=some 1:=by rw [hi0];simp [hzs]
 have hxl:xs.length=n:=by have:=hown.1;omega
 have hgw:g<w.heap.size:=(hown.lt g rfl).2
 have hvw:vb<w.heap.size:=(Array.getElem?_eq_some_iff.1 hcell).1
 have hcs':∀ j v,xs[j]?=some v→w.cell? ⟨g,j,none⟩=some v:=fun j v hj=>by
  have:=hown.cells (g:=g) rfl j v hj
  have hp:(⟨g,0,none⟩:Addr).add j=⟨g,j,none⟩:=by rw [Addr.add_lit];simp
  rwa [hp] at this
 have hold:(Builtin.firstCells i0.size i (.slice (some ⟨g,0,none⟩) i n)).run Tryz.prog w.drew=.ok (xs.take i).toArray w.drew:=by
  rw [hzs]
  exact run_firstCells_some w.drew 1 i ⟨g,0,none⟩ i n (xs.take i) (by rw [List.length_take];omega) (fun j v hj=>by
   rw [Addr.add_lit,Nat.zero_add]
   rw [List.getElem?_take] at hj
   split at hj
   ·exact hcs' j v hj
   ·cases hj)
 have hkk:((n+1-i:Nat):Int)=(n:Int)+1-(i:Int):=by omega
 have hik:i+(n+1-i)=n+1:=by omega
 obtain ⟨G,hG⟩:∃ G,G=grownCap w (n+1) n 9:=⟨_,rfl⟩
 obtain ⟨ROW,hROW⟩:∃ ROW:Array Value,ROW=(xs.take i).toArray++Builtin.zeroCells (.string ⟨#[]⟩:Value).cells (n+1-i)++Builtin.zeroCells (.string ⟨#[]⟩:Value).cells (G-(n+1)):=⟨_,rfl⟩
 obtain ⟨W1,hW1⟩:∃ W1,W1=w.drew.alloc (.cells ROW 9):=⟨_,rfl⟩
 have hrz:∀ ty,(Builtin.append_ #[63,3] ty #[.slice (some ⟨g,0,none⟩) i n,.int .i64 ((n:Int)+1-(i:Int))]).run Tryz.prog w=.ok (.slice (some ⟨w.heap.size,0,none⟩) (n+1) G) W1:=fun ty=>by
  have h:=Lib.run_append_grow_zeros w 63 3 ty 9 i0 _ .i64 .i64 Tryz.underlying63 Tryz.underlying3 hi0 hz0 (some ⟨g,0,none⟩) i n (xs.take i) hold (n+1-i) (by omega) (by omega) (by omega) (by omega) (by rw [hzb];omega) (by rw [hzb,hik];exact growslice_fits (by omega) (by omega))
  rw [hik,hkk,←hG,←hROW,←hW1] at h
  exact h
 have hGn:n+1≤G:=by rw [hG];exact grownCap_ge w _ _ _
 have hGm:G≤maxLen:=by rw [hG];exact grownCap_le_maxLen w (n+1) n 9 (by simp [maxLen];omega)
 have hG63:G≤9223372036854775807:=by simp [maxLen] at hGm;omega
 have hRz:ROW.size=G:=by
  rw [hROW]
  simp [Builtin.zeroCells,Value.cells]
  omega
 have hN:∀ j,j<n+1→(W1.cell? ⟨w.heap.size,j,none⟩).isSome=true:=fun j hj=>by
  rw [hW1,World.cell?_alloc_at (w:=w.drew) ROW _ w.heap.size j rfl,Array.getElem?_eq_getElem (by omega)];rfl
 have hNf:∀ j,W1.frozen? ⟨w.heap.size,j,none⟩=false:=fun j=>by rw [hW1];exact World.frozen?_alloc_at (w:=w.drew) ROW _ w.heap.size j rfl
 obtain ⟨W2,hW2⟩:∃ W2,W2=W1.setCells w.heap.size i [u]:=⟨_,rfl⟩
 have hcpA:∀ ty dc,(Builtin.copy_ #[63,63] ty #[.slice (some ⟨w.heap.size,i,none⟩) (n+1-i) dc,.slice (some ⟨vb,0,none⟩) 1 1]).run Tryz.prog W1=.ok (goInt 1) W2:=fun ty dc=>by
  rw [hW2]
  exact run_copy_cells W1 _ _ ty 9 w.heap.size i (n+1-i) dc ⟨vb,0,none⟩ 1 1 [u] Tryz.underlying63 hsz (by simp only [Nat.min_def,List.length_cons,List.length_nil];split<;>omega)
   (fun j v hj=>by
    match j,hj with
    | 0,hj =>
     simp at hj;subst hj
     rw [Addr.add_lit,hW1,World.cell?_alloc_past (w:=w.drew) _ vb (0+0) hvw]
     show w.cell? ⟨vb,0,none⟩=some u
     simp [World.cell?,hcell])
   (fun j hj=>hN _ (by simp at hj;omega)) (fun j hj=>hNf _) (fun v hv=>by simp at hv;subst hv;exact h1u)
 have hdl:(xs.drop i).length=n-i:=by rw [List.length_drop,hxl]
 have hcpB:∀ ty dc sc,(Builtin.copy_ #[63,63] ty #[.slice (some ⟨w.heap.size,i+1,none⟩) (n-i) dc,.slice (some ⟨g,i,none⟩) (n-i) sc]).run Tryz.prog W2.drew=.ok (goInt (xs.drop i).length) (W2.drew.setCells w.heap.size (i+1) (xs.drop i)):=fun ty dc sc=>by
  exact run_copy_cells W2.drew _ _ ty 9 w.heap.size (i+1) (n-i) dc ⟨g,i,none⟩ (n-i) sc (xs.drop i) Tryz.underlying63 hsz (by rw [hdl];simp only [Nat.min_def];split<;>omega)
   (fun j v hj=>by
    rw [Addr.add_lit]
    show W2.cell? ⟨g,i+j,none⟩=some v
    rw [hW2,World.cell?_setCells_out _ _ _ _ _ (fun h _=>absurd h (Nat.ne_of_lt hgw)),hW1,World.cell?_alloc_past (w:=w.drew) _ g (i+j) hgw]
    exact hcs' (i+j) v (by rwa [List.getElem?_drop] at hj))
   (fun j hj=>by
    show (W2.cell? ⟨w.heap.size,i+1+j,none⟩).isSome=true
    rw [hW2]
    exact isSome_setCells w.heap.size [u] i W1 (fun t ht=>hN _ (by simp at ht;omega)) _ (hN _ (by omega)))
   (fun j hj=>by show W2.frozen? _=false;rw [hW2,World.frozen?_setCells];exact hNf _) (fun v hv=>h1 v (List.mem_of_mem_drop hv))
 have HE:Hid (InsertedS (.slice (some ⟨g,0,none⟩) n n) n xs i u w (.returned (.slice (some ⟨w.heap.size,0,none⟩) (n+1) G)) (W2.drew.setCells w.heap.size (i+1) (xs.drop i))):=by
  have hg1:W1.heap[w.heap.size]?=some (.cells ROW 9 (0,0)):=by rw [hW1];exact heap_alloc_new w.drew _
  obtain ⟨c1,a1,a2,a3⟩:=setCells_row w.heap.size 9 [u] i W1 ROW hg1 (by simp;omega)
  rw [←hW2] at a1
  obtain ⟨c2,b1,b2,b3⟩:=setCells_row w.heap.size 9 (xs.drop i) (i+1) W2.drew c1 a1 (by rw [hdl];omega)
  have hR1:ROW.toList.take i=xs.take i:=by
   rw [hROW]
   simp only [Array.toList_append,List.append_assoc]
   rw [List.take_append_of_le_length (by simp;omega),List.take_of_length_le (by simp;omega)]
  have h1t:c1.toList.take (i+1)=xs.take i++[u]:=by
   have hl:(xs.take i++[u]).length=i+1:=by simp;omega
   rw [a3,hR1,List.take_append_of_le_length (by omega),List.take_of_length_le (by omega)]
  refine ⟨_,rfl,⟨by unfold insAt;simp;omega,Or.inr ⟨w.heap.size,G,c2,rfl,Nat.zero_le _,b1,hGn,hGm,by omega,?_⟩⟩,?_,Or.inr ⟨w.heap.size,rfl,Nat.le_refl _⟩⟩
  ·rw [b3,h1t]
   have hA:(xs.take i++[u]++xs.drop i).length=n+1:=by simp;omega
   rw [Nat.mul_one,List.take_append_of_le_length (by omega),List.take_of_length_le (by omega)]
   unfold insAt
   simp
  ·have q1:w.grownBy W1 none:=by rw [hW1];exact (drew_grown w none).trans (grown_alloc w.drew _ none)
   have q2:=grown_setCells W1 w.heap.size i [u]
   rw [←hW2] at q2
   have q3:=grown_setCells W2.drew w.heap.size (i+1) (xs.drop i)
   have q4:w.grownBy W2 none:=grown_new q1 q2 (Nat.le_refl _)
   have q5:w.grownBy W2.drew none:=q4.trans (drew_grown _ _)
   exact grown_but (grown_new q5 q3 (Nat.le_refl _)) _
 have hz2:¬((i:Int)=(n:Int)):=by omega
 have hz3:((n:Int)<(n:Int)+1):=by omega
 have hw1:IntKind.i64.wrap ((i:Int)+1)=(i:Int)+1:=by rw [IntKind.wrap_i64];omega
 have hw2:IntKind.i64.wrap ((n:Int)+1)=(n:Int)+1:=by rw [IntKind.wrap_i64];omega
 have hw3:IntKind.i64.wrap ((n:Int)+1-(i:Int))=(n:Int)+1-(i:Int):=by rw [IntKind.wrap_i64];omega
 have hb1:(0:Int)≤(i:Int)+1:=by omega
 have htn:((i:Int)+1).toNat=i+1:=by omega
 have hGi:¬(G=i):=by omega
 have hGim:¬(G=i+1):=by omega
 have hci:¬(n=i):=by omega
 have hb3:(i:Int)≤(n:Int)+1:=by omega
 have hin:i≤n:=by omega
 have hiG:i+1≤G:=by omega
 clear hkk hik hold hROW hG hRz hN hNf hcs' hown hcell hW1 hW2 hdl hxl h1
 go_enter Tryz.func79,Tryz.ntmps79
 go_wp2_with (first
  | (at_builtin;refine Lib.wpList_append_run _ rfl _ _ _ _ rfl _ _ rfl rfl _ _ (hrz _) ?_)
  | (at_builtin;refine wpList_copy_runI _ rfl _ _ 63 63 rfl _ _ rfl rfl (hcpA _ _) ?_))
 go_region_law (refine step_copy_runI rfl _ _ 63 63 rfl _ _ (by simp [Act.eval,Act.put]) (by simp [Act.eval,Act.put]) (hcpB _ _ _) ?_)
 go_wp2
 go_ret
 exact HE.out
theorem insertS (v:Value) (n:Nat) (xs:List Value) (i vb:Nat) (u:Value) (w:World) (hi:i≤n) (hn:n≤1048576) (hown:w.ownsRow 0 9 1 v n xs) (h1:∀ x∈xs,x.oneCell'=true) (h1u:u.oneCell'=true) (hvb:v.ownBlock≠some vb) (hcell:w.heap[vb]?=some (.cells #[u] 9 (0,0))) :
  Calls Tryz.prog 79 #[v,.int .i64 (i:Int),.slice (some ⟨vb,0,none⟩) 1 1] w (InsertedS v n xs i u w):=by
 by_cases he:i=n
 ·subst he
  exact insertEndS v i xs vb u w hn hown h1u hcell
 ·rcases hown.2 with ⟨_,h0⟩|⟨g,cap,cur,rfl,_,_,hnc,_⟩
  ·omega
  ·by_cases hr:n+1≤cap
   ·exact insertRoomS g cap n xs i vb u w (by omega) hn hr hown h1 h1u (fun e=>hvb (by rw [e];rfl)) hcell
   ·obtain rfl:cap=n:=by omega
    exact insertGrowS g cap xs i vb u w (by omega) hn hown h1 h1u hcell
def DeletedS (v:Value) (n:Nat) (xs:List Value) (i:Nat) (w:World) (e:Ending) (w':World):Prop:=
 ∃ v',e=.returned v'∧w'.ownsRow 0 9 1 v' (n-1) (xs.eraseIdx i)∧w.grownBy w' v.ownBlock∧v'.ownBlock=v.ownBlock
theorem deleteS (v:Value) (n:Nat) (xs:List Value) (i:Nat) (w:World) (hi:i<n) (hn:n≤1048576) (hown:w.ownsRow 0 9 1 v n xs) (h1:∀ x∈xs,x.oneCell'=true) :
  Calls Tryz.prog 165 #[v,.int .i64 (i:Int),.int .i64 ((i:Int)+1)] w (DeletedS v n xs i w):=by
 obtain ⟨i0,hi0,hz0,hzs,hzb⟩:=info_parts infoS
 rcases hown.2 with ⟨_,h0⟩|⟨g,cap,cur,rfl,_,hg,hnc,hcm,hcs,htake⟩
 ·omega
 rw [Nat.mul_one] at hcs htake
 have hxl:xs.length=n:=by have:=hown.1;omega
 have hc63:cap≤9223372036854775807:=by simp [maxLen] at hcm;omega
 have hcs':∀ j v,xs[j]?=some v→w.cell? ⟨g,j,none⟩=some v:=fun j v hj=>by
  have:=hown.cells (g:=g) rfl j v hj
  have hp:(⟨g,0,none⟩:Addr).add j=⟨g,j,none⟩:=by rw [Addr.add_lit];simp
  rwa [hp] at this
 have hsp:∀ j,j<n→(w.cell? ⟨g,j,none⟩).isSome=true:=fun j hj=>by simp [World.cell?,hg,Array.getElem?_eq_getElem (show j<cur.size by omega)]
 have hfz:∀ j,w.frozen? ⟨g,j,none⟩=false:=fun j=>frozen_of_row w g j cur _ hg
 have hdl:(xs.drop (i+1)).length=n-(i+1):=by rw [List.length_drop,hxl]
 obtain ⟨A,hA,hsrc⟩:∃ A:Addr,(if cap=i+1 then some (⟨g,0,none⟩:Addr) else some ⟨g,i+1,none⟩)=some A∧Hid (∀ t u,(xs.drop (i+1))[t]?=some u→w.drew.cell? (A.add t)=some u):=by
  by_cases h:cap=i+1
  ·refine ⟨⟨g,0,none⟩,by simp [h],fun t u hu=>?_⟩
   rw [List.eq_nil_of_length_eq_zero (show (xs.drop (i+1)).length=0 by rw [hdl];omega)] at hu
   simp at hu
  ·refine ⟨⟨g,i+1,none⟩,by simp [h],fun t u hu=>?_⟩
   rw [Addr.add_lit]
   exact hcs' (i+1+t) u (by rwa [List.getElem?_drop] at hu)
 have s1:Hid ((xs.drop (i+1)).length=(n-(i+1))*1):=by rw [Nat.mul_one];exact hdl
 have s2:Hid (∀ u∈xs.drop (i+1),u.oneCell'=true):=fun u hu=>h1 u (List.mem_of_mem_drop hu)
 have s3:Hid (∀ t,t<(xs.drop (i+1)).length→(w.drew.cell? ⟨g,0+i*1+t,none⟩).isSome=true∧w.drew.frozen? ⟨g,0+i*1+t,none⟩=false):=fun t ht=>by
  rw [hdl] at ht
  rw [Nat.mul_one,Nat.zero_add]
  exact ⟨hsp _ (by omega),hfz _⟩
 obtain ⟨W1,hW1⟩:∃ W1,W1=w.drew.setCells g (0+i*1) (xs.drop (i+1)):=⟨_,rfl⟩
 obtain ⟨c1,a1,a2,a3⟩:=setCells_row g 9 (xs.drop (i+1)) (0+i*1) w.drew cur hg (by rw [hdl];omega)
 rw [←hW1] at a1
 have hcl:∀ ty,(Builtin.clear_ #[63] ty #[.slice (some ⟨g,i+(n-(i+1)),none⟩) (n-(i+(n-(i+1)))) (cap-(i+(n-(i+1))))]).run Tryz.prog W1=.ok (.tuple #[]) (W1.setCells g (i+(n-(i+1))) [.string ⟨#[]⟩]):=fun ty=>by
  have:=Lib.run_clear_slice (P:=Tryz.prog) W1 63 9 ty (.string ⟨#[]⟩) Tryz.underlying63 Tryz.zeroValue9 rfl rfl g (i+(n-(i+1))) (n-(i+(n-(i+1)))) (cap-(i+(n-(i+1)))) (by omega)
   (fun t ht=>by simp [World.cell?,a1,Array.getElem?_eq_getElem (show i+(n-(i+1))+t<c1.size by omega)]) (fun t ht=>frozen_of_row W1 g _ c1 _ a1)
  rw [show n-(i+(n-(i+1)))=1 by omega] at this ⊢
  exact this
 have HE:Hid (DeletedS (.slice (some ⟨g,0,none⟩) n cap) n xs i w (.returned (.slice (some ⟨g,0,none⟩) (i+(n-(i+1))) cap)) (W1.setCells g (i+(n-(i+1))) [.string ⟨#[]⟩])):=by
  obtain ⟨c2,b1,b2,b3⟩:=setCells_row g 9 [.string ⟨#[]⟩] (i+(n-(i+1))) W1 c1 a1 (by simp;omega)
  have hel:(xs.eraseIdx i).length=n-1:=by rw [List.length_eraseIdx,if_pos (by omega)];omega
  refine ⟨_,rfl,⟨by omega,Or.inr ⟨g,cap,c2,by rw [show i+(n-(i+1))=n-1 by omega],Nat.zero_le _,b1,by omega,hcm,by omega,?_⟩⟩,?_,rfl⟩
  ·rw [Nat.mul_one,b3,show i+(n-(i+1))=n-1 by omega]
   have hl:(c1.toList.take (n-1)).length=n-1:=by simp;omega
   rw [List.append_assoc,List.take_append_of_le_length (by omega),List.take_of_length_le (by omega),a3,Nat.mul_one,Nat.zero_add]
   have ht:cur.toList.take i=xs.take i:=by rw [←htake,List.take_take,Nat.min_eq_left (by omega)]
   rw [ht,←List.eraseIdx_eq_take_drop_succ,List.take_append_of_le_length (by omega),List.take_of_length_le (by omega)]
  ·have q1:w.grownBy W1 (some g):=by
    have:=grown_setCells w.drew g (0+i*1) (xs.drop (i+1))
    rw [←hW1] at this
    exact grown_undrew this
   exact q1.trans (grown_setCells W1 g _ _)
 have hW:Hid (W1=w.drew.setCells g (0+i*1) (xs.drop (i+1))):=hW1
 have hic:i≤cap:=by omega
 have hjc:i+1≤cap:=by omega
 have hjn:i+1≤n:=by omega
 have hj0:(0:Int)≤(i:Int)+1:=by omega
 have hjN:(i:Int)+1≤(n:Int):=by omega
 have hjt:((i:Int)+1).toNat=i+1:=by omega
 clear hW1 a1 a2 a3 hsp hfz hcs' hown hg htake hcs h1 hdl hxl
 go_enter Tryz.func165,Tryz.ntmps165
 go_wp2_with fail
 go_region_law (refine step_append_room rfl (.tmp 22) (.tmp 25) 63 rfl 9 i0 1 Tryz.underlying63 hi0 hzs g 0 i cap (by simp [Act.eval,Act.put]) A (n-(i+1)) (cap-(i+1)) (xs.drop (i+1)) (by simp [Act.eval,Act.put]) s1.out hsrc.out s2.out (by omega) s3.out ?_;rw [←hW.out])
 go_wp2
 go_ret
 exact HE.out
theorem infoP:(Tryz.prog.info? 87).map (fun i=>(i.zero,i.size,i.bytes))=some (some (.pointer none),1,8):=by kernel_rfl
def InsertedP (v:Value) (n:Nat) (xs:List Value) (i:Nat) (u:Value) (w:World) (e:Ending) (w':World):Prop:=
 ∃ v',e=.returned v'∧w'.ownsRow 0 87 1 v' (n+1) (insAt xs i u)∧w.grownBy w' v.ownBlock∧(v'.ownBlock=v.ownBlock∨∃ g,v'.ownBlock=some g∧w.heap.size≤g)
theorem insertEndP (v:Value) (n:Nat) (xs:List Value) (vb:Nat) (u:Value) (w:World) (hn:n≤1048576) (hown:w.ownsRow 0 87 1 v n xs) (h1u:u.oneCell'=true) (hcell:w.heap[vb]?=some (.cells #[u] 87 (0,0))) :
  Calls Tryz.prog 102 #[v,.int .i64 (n:Int),.slice (some ⟨vb,0,none⟩) 1 1] w (InsertedP v n xs n u w):=by
 obtain ⟨i0,hi,hz0,hz1,hz2⟩:=info_parts infoP
 have hnews:∀ j a,[u][j]?=some a→w.cell? ((⟨vb,0,none⟩:Addr).add j)=some a:=fun j a hj=>by
  match j,hj with
  | 0,hj=>simp at hj;subst hj;simp [Addr.add,World.cell?,hcell]
 have h1:∀ a∈[u],a.oneCell'=true:=fun a ha=>by simp at ha;subst ha;exact h1u
 obtain ⟨v',w',hrun,r1,r2,_⟩:=run_append_own (P:=Tryz.prog) w 0 81 81 87 i0 (.pointer none) 1 8 Tryz.underlying81 hi hz0 hz1 hz2 rfl (by decide) v n xs hown ⟨vb,0,none⟩ 1 1 [u] rfl hnews h1 (by simp [maxLen];omega) (by omega) (Nat.zero_le _)
 have r3:=append_where (ty:=81) Tryz.underlying81 hi hz0 hz1 hz2 hown (m:=1) (c:=1) rfl hnews h1 (by decide) (by simp [maxLen];omega) (by omega) hrun
 have hlen:=hown.1
 have HE:Hid (InsertedP v n xs n u w (.returned v') w'):=⟨v',rfl,by
  have:insAt xs n u=xs++[u]:=by unfold insAt;rw [List.take_of_length_le (by omega),List.drop_of_length_le (by omega)]
  rw [this];exact r1,r2,r3.imp id (fun h=>⟨_,h,Nat.le_refl _⟩)⟩
 clear r1 r2 r3 hnews h1 hlen
 obtain ⟨ao,cap,rfl⟩:=own_form hown
 have hnc:n≤cap:=by
  rcases hown.2 with ⟨hv,h0⟩|⟨g,c,cur,hv,_,_,hc,_⟩
  ·omega
  ·injection hv with _ _ e3;omega
 clear hown hcell
 by_cases hcn:cap=n
 ·subst hcn
  go_enter Tryz.func102,Tryz.ntmps102
  go_wp2_with (at_builtin;refine Lib.wpList_append_run _ rfl _ _ _ _ rfl _ _ rfl rfl _ _ hrun ?_)
  go_ret
  exact HE.out
 ·go_enter Tryz.func102,Tryz.ntmps102
  go_wp2_with (at_builtin;refine Lib.wpList_append_run _ rfl _ _ _ _ rfl _ _ rfl rfl _ _ hrun ?_)
  go_ret
  exact HE.out
theorem insertRoomP (g cap n:Nat) (xs:List Value) (i vb:Nat) (u:Value) (w:World) (hi:i<n) (hn:n≤1048576) (hroom:n+1≤cap) (hown:w.ownsRow 0 87 1 (.slice (some ⟨g,0,none⟩) n cap) n xs) (h1:∀ x∈xs,x.oneCell'=true) (h1u:u.oneCell'=true)
  (hvb:vb≠g) (hcell:w.heap[vb]?=some (.cells #[u] 87 (0,0))) :
  Calls Tryz.prog 102 #[.slice (some ⟨g,0,none⟩) n cap,.int .i64 (i:Int),.slice (some ⟨vb,0,none⟩) 1 1] w (InsertedP (.slice (some ⟨g,0,none⟩) n cap) n xs i u w):=by
 obtain ⟨i0,hi0,hz0,hzs,hzb⟩:=info_parts infoP
 have hsz:(Tryz.prog.info? 87).map (·.size)=some 1:=by rw [hi0];simp [hzs]
 have hco:∀ w,(Go.sizeOf 87).run Tryz.prog w=.ok 1 w:=Tryz.sizeOf87
 obtain ⟨cur,hg,hcm,hcs,htake⟩:∃ cur,w.heap[g]?=some (.cells cur 87 (0,0))∧cap≤maxLen∧cur.size=cap∧cur.toList.take n=xs:=by
  rcases hown.2 with ⟨hv,_⟩|⟨g',c,cur,hv,_,hh,_,h2,h3,h4⟩
  ·injection hv with e;simp at e
  ·injection hv with e1 e2 e3
   injection e1 with e1
   injection e1 with e1
   subst e1 e3
   exact ⟨cur,hh,h2,by omega,by simpa using h4⟩
 have hxl:xs.length=n:=by have:=hown.1;omega
 have hc63:cap≤9223372036854775807:=by simp [maxLen] at hcm;omega
 have hcs':∀ j v,xs[j]?=some v→w.cell? ⟨g,j,none⟩=some v:=fun j v hj=>by
  have:=hown.cells (g:=g) rfl j v hj
  have hp:(⟨g,0,none⟩:Addr).add j=⟨g,j,none⟩:=by rw [Addr.add_lit];simp
  rwa [hp] at this
 have hsp:∀ j,j<n+1→(w.cell? ⟨g,j,none⟩).isSome=true:=fun j hj=>by simp [World.cell?,hg,Array.getElem?_eq_getElem (show j<cur.size by omega)]
 have hfz:∀ j,w.frozen? ⟨g,j,none⟩=false:=fun j=>frozen_of_row w g j cur _ hg
 have hov:∀ lb cb,(callFunc 140 #[.slice (some ⟨vb,0,none⟩) 1 1,.slice (some ⟨g,i+1,none⟩) lb cb]).run Tryz.prog w=.ok (.value (.bool false)) w:=fun lb cb=>by
  rw [run_callFunc_extern Tryz.func140 (by kernel_rfl) (by kernel_rfl) (by kernel_rfl) (e:=Extern.SlicesOverlaps.overlaps #[81,81] #[4]) (by kernel_rfl),
   Lib.run_overlaps_apart w 81 4 87 Tryz.underlying81 1 hco ⟨vb,0,none⟩ ⟨g,i+1,none⟩ 1 1 lb cb hvb 87 87 1 cap (by simp [World.shape?,hcell]) (by simp [World.shape?,hg,hcs]) (by omega) (frozen_of_row w vb 0 _ _ hcell) (frozen_of_row w vb 1 _ _ hcell)]
  rfl
 have hdl:(xs.drop i).length=n-i:=by rw [List.length_drop,hxl]
 obtain ⟨W1,hW1⟩:∃ W1,W1=w.drew.setCells g (i+1) (xs.drop i):=⟨_,rfl⟩
 have hcp1:∀ ty dc sc,(Builtin.copy_ #[81,81] ty #[.slice (some ⟨g,i+1,none⟩) (n-i) dc,.slice (some ⟨g,i,none⟩) (n+1-i) sc]).run Tryz.prog w.drew=.ok (goInt (xs.drop i).length) W1:=fun ty dc sc=>by
  rw [hW1]
  exact run_copy_cells w.drew _ _ ty 87 g (i+1) (n-i) dc ⟨g,i,none⟩ (n+1-i) sc (xs.drop i) Tryz.underlying81 hsz (by rw [hdl];simp only [Nat.min_def];split<;>omega)
   (fun j v hj=>by rw [Addr.add_lit];exact hcs' (i+j) v (by rwa [List.getElem?_drop] at hj))
   (fun j hj=>hsp _ (by omega)) (fun j hj=>hfz _) (fun v hv=>h1 v (List.mem_of_mem_drop hv))
 have hsp1:∀ k,k<n+1→(W1.cell? ⟨g,k,none⟩).isSome=true:=fun k hk=>by
  rw [hW1]
  exact isSome_setCells g (xs.drop i) (i+1) w.drew (fun j hj=>hsp _ (by rw [hdl] at hj;omega)) _ (hsp k hk)
 have hcp2:∀ ty dc,(Builtin.copy_ #[81,81] ty #[.slice (some ⟨g,i,none⟩) (n+1-i) dc,.slice (some ⟨vb,0,none⟩) 1 1]).run Tryz.prog W1=.ok (goInt 1) (W1.setCells g i [u]):=fun ty dc =>
  run_copy_cells W1 _ _ ty 87 g i (n+1-i) dc ⟨vb,0,none⟩ 1 1 [u] Tryz.underlying81 hsz (by simp only [Nat.min_def,List.length_cons,List.length_nil];split<;>omega)
   (fun j v hj=>by
    match j,hj with
    | 0,hj =>
     simp at hj;subst hj
     rw [Addr.add_lit,hW1,World.cell?_setCells_out g _ _ _ _ (fun h _=>absurd h hvb)]
     show w.cell? ⟨vb,0,none⟩=some u
     simp [World.cell?,hcell])
   (fun j hj=>by simp at hj;subst hj;exact hsp1 i (by omega)) (fun j hj=>by rw [hW1,World.frozen?_setCells];exact hfz _) (fun v hv=>by simp at hv;subst hv;exact h1u)
 have HE:Hid (InsertedP (.slice (some ⟨g,0,none⟩) n cap) n xs i u w (.returned (.slice (some ⟨g,0,none⟩) (n+1) cap)) (W1.setCells g i [u])):=by
  obtain ⟨c1,a1,a2,a3⟩:=setCells_row g 87 (xs.drop i) (i+1) w.drew cur hg (by rw [hdl];omega)
  rw [←hW1] at a1
  obtain ⟨c2,b1,b2,b3⟩:=setCells_row g 87 [u] i W1 c1 a1 (by simp;omega)
  have hl1:(cur.toList.take (i+1)).length=i+1:=by simp;omega
  have hti:c1.toList.take i=xs.take i:=by
   rw [a3,List.append_assoc,List.take_append_of_le_length (by omega),List.take_take,Nat.min_eq_left (by omega),←htake,List.take_take,Nat.min_eq_left (by omega)]
  have hdi:c1.toList.drop (i+1)=xs.drop i++cur.toList.drop (i+1+(xs.drop i).length):=by
   rw [a3,List.append_assoc,List.drop_append_of_le_length (by omega),List.drop_of_length_le (by omega),List.nil_append]
  refine ⟨_,rfl,⟨by unfold insAt;simp;omega,Or.inr ⟨g,cap,c2,rfl,Nat.zero_le _,b1,by omega,hcm,by omega,?_⟩⟩,?_,Or.inl rfl⟩
  ·rw [b3,hti]
   simp only [List.length_cons,List.length_nil,Nat.zero_add,Nat.mul_one]
   rw [hdi]
   unfold insAt
   have hA:(xs.take i++[u]++xs.drop i).length=n+1:=by simp;omega
   rw [show xs.take i++[u]++(xs.drop i++cur.toList.drop (i+1+(xs.drop i).length))=(xs.take i++[u]++xs.drop i)++cur.toList.drop (i+1+(xs.drop i).length) by simp,List.take_append_of_le_length (by omega),List.take_of_length_le (by omega)]
   simp
  ·have q1:w.grownBy W1 (some g):=by
    have:=grown_setCells w.drew g (i+1) (xs.drop i)
    rw [←hW1] at this
    exact grown_undrew this
   exact q1.trans (grown_setCells W1 g i [u])
 have hW:Hid (W1=w.drew.setCells g (i+1) (xs.drop i)):=hW1
 have hz2:¬((i:Int)=(n:Int)):=by omega
 have hz3:¬((cap:Int)<(n:Int)+1):=by omega
 have hw1:IntKind.i64.wrap ((i:Int)+1)=(i:Int)+1:=by rw [IntKind.wrap_i64];omega
 have hw2:IntKind.i64.wrap ((n:Int)+1)=(n:Int)+1:=by rw [IntKind.wrap_i64];omega
 have hb1:(0:Int)≤(i:Int)+1:=by omega
 have htn:((i:Int)+1).toNat=i+1:=by omega
 have htn2:((n:Int)+1).toNat=n+1:=by omega
 have hb2:¬(cap=i+1):=by omega
 have hb3:(i:Int)≤(n:Int)+1:=by omega
 have hb4:¬(cap=i):=by omega
 have hin:i≤n:=by omega
 have hnc:n≤cap:=by omega
 clear hW1 hsp hsp1 hfz hcs' hcell hown hg htake hcs h1 hdl hxl
 go_enter Tryz.func102,Tryz.ntmps102
 go_wp2_with (simp only [hov])
 go_region_law (refine step_copy_runI rfl _ _ 81 81 rfl _ _ (by simp [Act.eval,Act.put]) (by simp [Act.eval,Act.put]) (hcp1 _ _ _) ?_)
 go_wp2_with (at_builtin;refine wpList_copy_runI _ rfl _ _ 81 81 rfl _ _ rfl rfl (hcp2 _ _) ?_)
 go_ret
 exact HE.out
theorem insertGrowP (g n:Nat) (xs:List Value) (i vb:Nat) (u:Value) (w:World) (hi:i<n) (hn:n≤1048576) (hown:w.ownsRow 0 87 1 (.slice (some ⟨g,0,none⟩) n n) n xs) (h1:∀ x∈xs,x.oneCell'=true) (h1u:u.oneCell'=true)
  (hcell:w.heap[vb]?=some (.cells #[u] 87 (0,0))) :
  Calls Tryz.prog 102 #[.slice (some ⟨g,0,none⟩) n n,.int .i64 (i:Int),.slice (some ⟨vb,0,none⟩) 1 1] w (InsertedP (.slice (some ⟨g,0,none⟩) n n) n xs i u w):=by
 obtain ⟨i0,hi0,hz0,hzs,hzb⟩:=info_parts infoP
 have hsz:(Tryz.prog.info? 87).map (·.size)=some 1:=by rw [hi0];simp [hzs]
 have hxl:xs.length=n:=by have:=hown.1;omega
 have hgw:g<w.heap.size:=(hown.lt g rfl).2
 have hvw:vb<w.heap.size:=(Array.getElem?_eq_some_iff.1 hcell).1
 have hcs':∀ j v,xs[j]?=some v→w.cell? ⟨g,j,none⟩=some v:=fun j v hj=>by
  have:=hown.cells (g:=g) rfl j v hj
  have hp:(⟨g,0,none⟩:Addr).add j=⟨g,j,none⟩:=by rw [Addr.add_lit];simp
  rwa [hp] at this
 have hold:(Builtin.firstCells i0.size i (.slice (some ⟨g,0,none⟩) i n)).run Tryz.prog w.drew=.ok (xs.take i).toArray w.drew:=by
  rw [hzs]
  exact run_firstCells_some w.drew 1 i ⟨g,0,none⟩ i n (xs.take i) (by rw [List.length_take];omega) (fun j v hj=>by
   rw [Addr.add_lit,Nat.zero_add]
   rw [List.getElem?_take] at hj
   split at hj
   ·exact hcs' j v hj
   ·cases hj)
 have hkk:((n+1-i:Nat):Int)=(n:Int)+1-(i:Int):=by omega
 have hik:i+(n+1-i)=n+1:=by omega
 obtain ⟨G,hG⟩:∃ G,G=grownCap w (n+1) n 87:=⟨_,rfl⟩
 obtain ⟨ROW,hROW⟩:∃ ROW:Array Value,ROW=(xs.take i).toArray++Builtin.zeroCells (.pointer none:Value).cells (n+1-i)++Builtin.zeroCells (.pointer none:Value).cells (G-(n+1)):=⟨_,rfl⟩
 obtain ⟨W1,hW1⟩:∃ W1,W1=w.drew.alloc (.cells ROW 87):=⟨_,rfl⟩
 have hrz:∀ ty,(Builtin.append_ #[81,3] ty #[.slice (some ⟨g,0,none⟩) i n,.int .i64 ((n:Int)+1-(i:Int))]).run Tryz.prog w=.ok (.slice (some ⟨w.heap.size,0,none⟩) (n+1) G) W1:=fun ty=>by
  have h:=Lib.run_append_grow_zeros w 81 3 ty 87 i0 _ .i64 .i64 Tryz.underlying81 Tryz.underlying3 hi0 hz0 (some ⟨g,0,none⟩) i n (xs.take i) hold (n+1-i) (by omega) (by omega) (by omega) (by omega) (by rw [hzb];omega) (by rw [hzb,hik];exact growslice_fits (by omega) (by omega))
  rw [hik,hkk,←hG,←hROW,←hW1] at h
  exact h
 have hGn:n+1≤G:=by rw [hG];exact grownCap_ge w _ _ _
 have hGm:G≤maxLen:=by rw [hG];exact grownCap_le_maxLen w (n+1) n 87 (by simp [maxLen];omega)
 have hG63:G≤9223372036854775807:=by simp [maxLen] at hGm;omega
 have hRz:ROW.size=G:=by
  rw [hROW]
  simp [Builtin.zeroCells,Value.cells]
  omega
 have hN:∀ j,j<n+1→(W1.cell? ⟨w.heap.size,j,none⟩).isSome=true:=fun j hj=>by
  rw [hW1,World.cell?_alloc_at (w:=w.drew) ROW _ w.heap.size j rfl,Array.getElem?_eq_getElem (by omega)];rfl
 have hNf:∀ j,W1.frozen? ⟨w.heap.size,j,none⟩=false:=fun j=>by rw [hW1];exact World.frozen?_alloc_at (w:=w.drew) ROW _ w.heap.size j rfl
 obtain ⟨W2,hW2⟩:∃ W2,W2=W1.setCells w.heap.size i [u]:=⟨_,rfl⟩
 have hcpA:∀ ty dc,(Builtin.copy_ #[81,81] ty #[.slice (some ⟨w.heap.size,i,none⟩) (n+1-i) dc,.slice (some ⟨vb,0,none⟩) 1 1]).run Tryz.prog W1=.ok (goInt 1) W2:=fun ty dc=>by
  rw [hW2]
  exact run_copy_cells W1 _ _ ty 87 w.heap.size i (n+1-i) dc ⟨vb,0,none⟩ 1 1 [u] Tryz.underlying81 hsz (by simp only [Nat.min_def,List.length_cons,List.length_nil];split<;>omega)
   (fun j v hj=>by
    match j,hj with
    | 0,hj =>
     simp at hj;subst hj
     rw [Addr.add_lit,hW1,World.cell?_alloc_past (w:=w.drew) _ vb (0+0) hvw]
     show w.cell? ⟨vb,0,none⟩=some u
     simp [World.cell?,hcell])
   (fun j hj=>hN _ (by simp at hj;omega)) (fun j hj=>hNf _) (fun v hv=>by simp at hv;subst hv;exact h1u)
 have hdl:(xs.drop i).length=n-i:=by rw [List.length_drop,hxl]
 have hcpB:∀ ty dc sc,(Builtin.copy_ #[81,81] ty #[.slice (some ⟨w.heap.size,i+1,none⟩) (n-i) dc,.slice (some ⟨g,i,none⟩) (n-i) sc]).run Tryz.prog W2.drew=.ok (goInt (xs.drop i).length) (W2.drew.setCells w.heap.size (i+1) (xs.drop i)):=fun ty dc sc=>by
  exact run_copy_cells W2.drew _ _ ty 87 w.heap.size (i+1) (n-i) dc ⟨g,i,none⟩ (n-i) sc (xs.drop i) Tryz.underlying81 hsz (by rw [hdl];simp only [Nat.min_def];split<;>omega)
   (fun j v hj=>by
    rw [Addr.add_lit]
    show W2.cell? ⟨g,i+j,none⟩=some v
    rw [hW2,World.cell?_setCells_out _ _ _ _ _ (fun h _=>absurd h (Nat.ne_of_lt hgw)),hW1,World.cell?_alloc_past (w:=w.drew) _ g (i+j) hgw]
    exact hcs' (i+j) v (by rwa [List.getElem?_drop] at hj))
   (fun j hj=>by
    show (W2.cell? ⟨w.heap.size,i+1+j,none⟩).isSome=true
    rw [hW2]
    exact isSome_setCells w.heap.size [u] i W1 (fun t ht=>hN _ (by simp at ht;omega)) _ (hN _ (by omega)))
   (fun j hj=>by show W2.frozen? _=false;rw [hW2,World.frozen?_setCells];exact hNf _) (fun v hv=>h1 v (List.mem_of_mem_drop hv))
 have HE:Hid (InsertedP (.slice (some ⟨g,0,none⟩) n n) n xs i u w (.returned (.slice (some ⟨w.heap.size,0,none⟩) (n+1) G)) (W2.drew.setCells w.heap.size (i+1) (xs.drop i))):=by
  have hg1:W1.heap[w.heap.size]?=some (.cells ROW 87 (0,0)):=by rw [hW1];exact heap_alloc_new w.drew _
  obtain ⟨c1,a1,a2,a3⟩:=setCells_row w.heap.size 87 [u] i W1 ROW hg1 (by simp;omega)
  rw [←hW2] at a1
  obtain ⟨c2,b1,b2,b3⟩:=setCells_row w.heap.size 87 (xs.drop i) (i+1) W2.drew c1 a1 (by rw [hdl];omega)
  have hR1:ROW.toList.take i=xs.take i:=by
   rw [hROW]
   simp only [Array.toList_append,List.append_assoc]
   rw [List.take_append_of_le_length (by simp;omega),List.take_of_length_le (by simp;omega)]
  have h1t:c1.toList.take (i+1)=xs.take i++[u]:=by
   have hl:(xs.take i++[u]).length=i+1:=by simp;omega
   rw [a3,hR1,List.take_append_of_le_length (by omega),List.take_of_length_le (by omega)]
  refine ⟨_,rfl,⟨by unfold insAt;simp;omega,Or.inr ⟨w.heap.size,G,c2,rfl,Nat.zero_le _,b1,hGn,hGm,by omega,?_⟩⟩,?_,Or.inr ⟨w.heap.size,rfl,Nat.le_refl _⟩⟩
  ·rw [b3,h1t]
   have hA:(xs.take i++[u]++xs.drop i).length=n+1:=by simp;omega
   rw [Nat.mul_one,List.take_append_of_le_length (by omega),List.take_of_length_le (by omega)]
   unfold insAt
   simp
  ·have q1:w.grownBy W1 none:=by rw [hW1];exact (drew_grown w none).trans (grown_alloc w.drew _ none)
   have q2:=grown_setCells W1 w.heap.size i [u]
   rw [←hW2] at q2
   have q3:=grown_setCells W2.drew w.heap.size (i+1) (xs.drop i)
   have q4:w.grownBy W2 none:=grown_new q1 q2 (Nat.le_refl _)
   have q5:w.grownBy W2.drew none:=q4.trans (drew_grown _ _)
   exact grown_but (grown_new q5 q3 (Nat.le_refl _)) _
 have hz2:¬((i:Int)=(n:Int)):=by omega
 have hz3:((n:Int)<(n:Int)+1):=by omega
 have hw1:IntKind.i64.wrap ((i:Int)+1)=(i:Int)+1:=by rw [IntKind.wrap_i64];omega
 have hw2:IntKind.i64.wrap ((n:Int)+1)=(n:Int)+1:=by rw [IntKind.wrap_i64];omega
 have hw3:IntKind.i64.wrap ((n:Int)+1-(i:Int))=(n:Int)+1-(i:Int):=by rw [IntKind.wrap_i64];omega
 have hb1:(0:Int)≤(i:Int)+1:=by omega
 have htn:((i:Int)+1).toNat=i+1:=by omega
 have hGi:¬(G=i):=by omega
 have hGim:¬(G=i+1):=by omega
 have hci:¬(n=i):=by omega
 have hb3:(i:Int)≤(n:Int)+1:=by omega
 have hin:i≤n:=by omega
 have hiG:i+1≤G:=by omega
 clear hkk hik hold hROW hG hRz hN hNf hcs' hown hcell hW1 hW2 hdl hxl h1
 go_enter Tryz.func102,Tryz.ntmps102
 go_wp2_with (first
  | (at_builtin;refine Lib.wpList_append_run _ rfl _ _ _ _ rfl _ _ rfl rfl _ _ (hrz _) ?_)
  | (at_builtin;refine wpList_copy_runI _ rfl _ _ 81 81 rfl _ _ rfl rfl (hcpA _ _) ?_))
 go_region_law (refine step_copy_runI rfl _ _ 81 81 rfl _ _ (by simp [Act.eval,Act.put]) (by simp [Act.eval,Act.put]) (hcpB _ _ _) ?_)
 go_wp2
 go_ret
 exact HE.out
theorem insertP (v:Value) (n:Nat) (xs:List Value) (i vb:Nat) (u:Value) (w:World) (hi:i≤n) (hn:n≤1048576) (hown:w.ownsRow 0 87 1 v n xs) (h1:∀ x∈xs,x.oneCell'=true) (h1u:u.oneCell'=true) (hvb:v.ownBlock≠some vb) (hcell:w.heap[vb]?=some (.cells #[u] 87 (0,0))) :
  Calls Tryz.prog 102 #[v,.int .i64 (i:Int),.slice (some ⟨vb,0,none⟩) 1 1] w (InsertedP v n xs i u w):=by
 by_cases he:i=n
 ·subst he
  exact insertEndP v i xs vb u w hn hown h1u hcell
 ·rcases hown.2 with ⟨_,h0⟩|⟨g,cap,cur,rfl,_,_,hnc,_⟩
  ·omega
  ·by_cases hr:n+1≤cap
   ·exact insertRoomP g cap n xs i vb u w (by omega) hn hr hown h1 h1u (fun e=>hvb (by rw [e];rfl)) hcell
   ·obtain rfl:cap=n:=by omega
    exact insertGrowP g cap xs i vb u w (by omega) hn hown h1 h1u hcell
def DeletedP (v:Value) (n:Nat) (xs:List Value) (i:Nat) (w:World) (e:Ending) (w':World):Prop:=
 ∃ v',e=.returned v'∧w'.ownsRow 0 87 1 v' (n-1) (xs.eraseIdx i)∧w.grownBy w' v.ownBlock∧v'.ownBlock=v.ownBlock
theorem deleteP (v:Value) (n:Nat) (xs:List Value) (i:Nat) (w:World) (hi:i<n) (hn:n≤1048576) (hown:w.ownsRow 0 87 1 v n xs) (h1:∀ x∈xs,x.oneCell'=true) :
  Calls Tryz.prog 166 #[v,.int .i64 (i:Int),.int .i64 ((i:Int)+1)] w (DeletedP v n xs i w):=by
 obtain ⟨i0,hi0,hz0,hzs,hzb⟩:=info_parts infoP
 rcases hown.2 with ⟨_,h0⟩|⟨g,cap,cur,rfl,_,hg,hnc,hcm,hcs,htake⟩
 ·omega
 rw [Nat.mul_one] at hcs htake
 have hxl:xs.length=n:=by have:=hown.1;omega
 have hc63:cap≤9223372036854775807:=by simp [maxLen] at hcm;omega
 have hcs':∀ j v,xs[j]?=some v→w.cell? ⟨g,j,none⟩=some v:=fun j v hj=>by
  have:=hown.cells (g:=g) rfl j v hj
  have hp:(⟨g,0,none⟩:Addr).add j=⟨g,j,none⟩:=by rw [Addr.add_lit];simp
  rwa [hp] at this
 have hsp:∀ j,j<n→(w.cell? ⟨g,j,none⟩).isSome=true:=fun j hj=>by simp [World.cell?,hg,Array.getElem?_eq_getElem (show j<cur.size by omega)]
 have hfz:∀ j,w.frozen? ⟨g,j,none⟩=false:=fun j=>frozen_of_row w g j cur _ hg
 have hdl:(xs.drop (i+1)).length=n-(i+1):=by rw [List.length_drop,hxl]
 obtain ⟨A,hA,hsrc⟩:∃ A:Addr,(if cap=i+1 then some (⟨g,0,none⟩:Addr) else some ⟨g,i+1,none⟩)=some A∧Hid (∀ t u,(xs.drop (i+1))[t]?=some u→w.drew.cell? (A.add t)=some u):=by
  by_cases h:cap=i+1
  ·refine ⟨⟨g,0,none⟩,by simp [h],fun t u hu=>?_⟩
   rw [List.eq_nil_of_length_eq_zero (show (xs.drop (i+1)).length=0 by rw [hdl];omega)] at hu
   simp at hu
  ·refine ⟨⟨g,i+1,none⟩,by simp [h],fun t u hu=>?_⟩
   rw [Addr.add_lit]
   exact hcs' (i+1+t) u (by rwa [List.getElem?_drop] at hu)
 have s1:Hid ((xs.drop (i+1)).length=(n-(i+1))*1):=by rw [Nat.mul_one];exact hdl
 have s2:Hid (∀ u∈xs.drop (i+1),u.oneCell'=true):=fun u hu=>h1 u (List.mem_of_mem_drop hu)
 have s3:Hid (∀ t,t<(xs.drop (i+1)).length→(w.drew.cell? ⟨g,0+i*1+t,none⟩).isSome=true∧w.drew.frozen? ⟨g,0+i*1+t,none⟩=false):=fun t ht=>by
  rw [hdl] at ht
  rw [Nat.mul_one,Nat.zero_add]
  exact ⟨hsp _ (by omega),hfz _⟩
 obtain ⟨W1,hW1⟩:∃ W1,W1=w.drew.setCells g (0+i*1) (xs.drop (i+1)):=⟨_,rfl⟩
 obtain ⟨c1,a1,a2,a3⟩:=setCells_row g 87 (xs.drop (i+1)) (0+i*1) w.drew cur hg (by rw [hdl];omega)
 rw [←hW1] at a1
 have hcl:∀ ty,(Builtin.clear_ #[81] ty #[.slice (some ⟨g,i+(n-(i+1)),none⟩) (n-(i+(n-(i+1)))) (cap-(i+(n-(i+1))))]).run Tryz.prog W1=.ok (.tuple #[]) (W1.setCells g (i+(n-(i+1))) [.pointer none]):=fun ty=>by
  have:=Lib.run_clear_slice (P:=Tryz.prog) W1 81 87 ty (.pointer none) Tryz.underlying81 Tryz.zeroValue87 rfl rfl g (i+(n-(i+1))) (n-(i+(n-(i+1)))) (cap-(i+(n-(i+1)))) (by omega)
   (fun t ht=>by simp [World.cell?,a1,Array.getElem?_eq_getElem (show i+(n-(i+1))+t<c1.size by omega)]) (fun t ht=>frozen_of_row W1 g _ c1 _ a1)
  rw [show n-(i+(n-(i+1)))=1 by omega] at this ⊢
  exact this
 have HE:Hid (DeletedP (.slice (some ⟨g,0,none⟩) n cap) n xs i w (.returned (.slice (some ⟨g,0,none⟩) (i+(n-(i+1))) cap)) (W1.setCells g (i+(n-(i+1))) [.pointer none])):=by
  obtain ⟨c2,b1,b2,b3⟩:=setCells_row g 87 [.pointer none] (i+(n-(i+1))) W1 c1 a1 (by simp;omega)
  have hel:(xs.eraseIdx i).length=n-1:=by rw [List.length_eraseIdx,if_pos (by omega)];omega
  refine ⟨_,rfl,⟨by omega,Or.inr ⟨g,cap,c2,by rw [show i+(n-(i+1))=n-1 by omega],Nat.zero_le _,b1,by omega,hcm,by omega,?_⟩⟩,?_,rfl⟩
  ·rw [Nat.mul_one,b3,show i+(n-(i+1))=n-1 by omega]
   have hl:(c1.toList.take (n-1)).length=n-1:=by simp;omega
   rw [List.append_assoc,List.take_append_of_le_length (by omega),List.take_of_length_le (by omega),a3,Nat.mul_one,Nat.zero_add]
   have ht:cur.toList.take i=xs.take i:=by rw [←htake,List.take_take,Nat.min_eq_left (by omega)]
   rw [ht,←List.eraseIdx_eq_take_drop_succ,List.take_append_of_le_length (by omega),List.take_of_length_le (by omega)]
  ·have q1:w.grownBy W1 (some g):=by
    have:=grown_setCells w.drew g (0+i*1) (xs.drop (i+1))
    rw [←hW1] at this
    exact grown_undrew this
   exact q1.trans (grown_setCells W1 g _ _)
 have hW:Hid (W1=w.drew.setCells g (0+i*1) (xs.drop (i+1))):=hW1
 have hic:i≤cap:=by omega
 have hjc:i+1≤cap:=by omega
 have hjn:i+1≤n:=by omega
 have hj0:(0:Int)≤(i:Int)+1:=by omega
 have hjN:(i:Int)+1≤(n:Int):=by omega
 have hjt:((i:Int)+1).toNat=i+1:=by omega
 clear hW1 a1 a2 a3 hsp hfz hcs' hown hg htake hcs h1 hdl hxl
 go_enter Tryz.func166,Tryz.ntmps166
 go_wp2_with fail
 go_region_law (refine step_append_room rfl (.tmp 22) (.tmp 25) 81 rfl 87 i0 1 Tryz.underlying81 hi0 hzs g 0 i cap (by simp [Act.eval,Act.put]) A (n-(i+1)) (cap-(i+1)) (xs.drop (i+1)) (by simp [Act.eval,Act.put]) s1.out hsrc.out s2.out (by omega) s3.out ?_;rw [←hW.out])
 go_wp2
 go_ret
 exact HE.out
theorem infoE:(Tryz.prog.info? 3).map (fun i=>(i.zero,i.size,i.bytes))=some (some (.int .i64 0),1,8):=by kernel_rfl
def InsertedE (v:Value) (n:Nat) (xs:List Value) (i:Nat) (u:Value) (w:World) (e:Ending) (w':World):Prop:=
 ∃ v',e=.returned v'∧w'.ownsRow 0 3 1 v' (n+1) (insAt xs i u)∧w.grownBy w' v.ownBlock∧(v'.ownBlock=v.ownBlock∨∃ g,v'.ownBlock=some g∧w.heap.size≤g)
theorem insertEndE (v:Value) (n:Nat) (xs:List Value) (vb:Nat) (u:Value) (w:World) (hn:n≤1048576) (hown:w.ownsRow 0 3 1 v n xs) (h1u:u.oneCell'=true) (hcell:w.heap[vb]?=some (.cells #[u] 3 (0,0))) :
  Calls Tryz.prog 82 #[v,.int .i64 (n:Int),.slice (some ⟨vb,0,none⟩) 1 1] w (InsertedE v n xs n u w):=by
 obtain ⟨i0,hi,hz0,hz1,hz2⟩:=info_parts infoE
 have hnews:∀ j a,[u][j]?=some a→w.cell? ((⟨vb,0,none⟩:Addr).add j)=some a:=fun j a hj=>by
  match j,hj with
  | 0,hj=>simp at hj;subst hj;simp [Addr.add,World.cell?,hcell]
 have h1:∀ a∈[u],a.oneCell'=true:=fun a ha=>by simp at ha;subst ha;exact h1u
 obtain ⟨v',w',hrun,r1,r2,_⟩:=run_append_own (P:=Tryz.prog) w 0 51 51 3 i0 (.int .i64 0) 1 8 Tryz.underlying51 hi hz0 hz1 hz2 rfl (by decide) v n xs hown ⟨vb,0,none⟩ 1 1 [u] rfl hnews h1 (by simp [maxLen];omega) (by omega) (Nat.zero_le _)
 have r3:=append_where (ty:=51) Tryz.underlying51 hi hz0 hz1 hz2 hown (m:=1) (c:=1) rfl hnews h1 (by decide) (by simp [maxLen];omega) (by omega) hrun
 have hlen:=hown.1
 have HE:Hid (InsertedE v n xs n u w (.returned v') w'):=⟨v',rfl,by
  have:insAt xs n u=xs++[u]:=by unfold insAt;rw [List.take_of_length_le (by omega),List.drop_of_length_le (by omega)]
  rw [this];exact r1,r2,r3.imp id (fun h=>⟨_,h,Nat.le_refl _⟩)⟩
 clear r1 r2 r3 hnews h1 hlen
 obtain ⟨ao,cap,rfl⟩:=own_form hown
 have hnc:n≤cap:=by
  rcases hown.2 with ⟨hv,h0⟩|⟨g,c,cur,hv,_,_,hc,_⟩
  ·omega
  ·injection hv with _ _ e3;omega
 clear hown hcell
 by_cases hcn:cap=n
 ·subst hcn
  go_enter Tryz.func82,Tryz.ntmps82
  go_wp2_with (at_builtin;refine Lib.wpList_append_run _ rfl _ _ _ _ rfl _ _ rfl rfl _ _ hrun ?_)
  go_ret
  exact HE.out
 ·go_enter Tryz.func82,Tryz.ntmps82
  go_wp2_with (at_builtin;refine Lib.wpList_append_run _ rfl _ _ _ _ rfl _ _ rfl rfl _ _ hrun ?_)
  go_ret
  exact HE.out
theorem infoR:(Tryz.prog.info? 62).map (fun i=>(i.zero,i.size,i.bytes))=some (some (.agg #[.string ⟨#[]⟩,.int .i64 0,.int .i64 0,.string ⟨#[]⟩]),4,48):=by kernel_rfl
def InsertedR (v:Value) (n:Nat) (xs:List Value) (r:Rec) (w:World) (e:Ending) (w':World):Prop:=
 ∃ v',e=.returned v'∧w'.ownsRow 0 62 4 v' (n+1) (xs++r.cells)∧w.grownBy w' v.ownBlock∧(v'.ownBlock=v.ownBlock∨∃ g,v'.ownBlock=some g∧w.heap.size≤g)
theorem insertEndR (v:Value) (n:Nat) (xs:List Value) (vb:Nat) (r:Rec) (w:World) (hn:n≤1048576) (hown:w.ownsRow 0 62 4 v n xs) (hcell:∀ j a,r.cells[j]?=some a→w.cell? ((⟨vb,0,none⟩:Addr).add j)=some a) :
  Calls Tryz.prog 83 #[v,.int .i64 (n:Int),.slice (some ⟨vb,0,none⟩) 1 1] w (InsertedR v n xs r w):=by
 obtain ⟨i0,hi,hz0,hz1,hz2⟩:=info_parts infoR
 have hnews:=hcell
 have h1:=rec_cells_one r
 obtain ⟨v',w',hrun,r1,r2,_⟩:=run_append_own (P:=Tryz.prog) w 0 72 72 62 i0 (.agg #[.string ⟨#[]⟩,.int .i64 0,.int .i64 0,.string ⟨#[]⟩]) 4 48 Tryz.underlying72 hi hz0 hz1 hz2 rfl (by decide) v n xs hown ⟨vb,0,none⟩ 1 1 r.cells rfl hnews h1 (by simp [maxLen];omega) (by omega) (Nat.zero_le _)
 have r3:=append_where (ty:=72) Tryz.underlying72 hi hz0 hz1 hz2 hown (m:=1) (c:=1) rfl hnews h1 (by decide) (by simp [maxLen];omega) (by omega) hrun
 have HE:Hid (InsertedR v n xs r w (.returned v') w'):=⟨v',rfl,r1,r2,r3.imp id (fun h=>⟨_,h,Nat.le_refl _⟩)⟩
 clear r1 r2 r3 hnews h1
 obtain ⟨ao,cap,rfl⟩:=own_form hown
 have hnc:n≤cap:=by
  rcases hown.2 with ⟨hv,h0⟩|⟨g,c,cur,hv,_,_,hc,_⟩
  ·omega
  ·injection hv with _ _ e3;omega
 clear hown hcell
 by_cases hcn:cap=n
 ·subst hcn
  go_enter Tryz.func83,Tryz.ntmps83
  go_wp2_with (at_builtin;refine Lib.wpList_append_run _ rfl _ _ _ _ rfl _ _ rfl rfl _ _ hrun ?_)
  go_ret
  exact HE.out
 ·go_enter Tryz.func83,Tryz.ntmps83
  go_wp2_with (at_builtin;refine Lib.wpList_append_run _ rfl _ _ _ _ rfl _ _ rfl rfl _ _ hrun ?_)
  go_ret
  exact HE.out
theorem infoM:(Tryz.prog.info? 105).map (fun i=>(i.zero,i.size,i.bytes))=some (some (.pointer none),1,8):=by kernel_rfl
def InsertedM (v:Value) (n:Nat) (xs:List Value) (i:Nat) (u:Value) (w:World) (e:Ending) (w':World):Prop:=
 ∃ v',e=.returned v'∧w'.ownsRow 0 105 1 v' (n+1) (insAt xs i u)∧w.grownBy w' v.ownBlock∧(v'.ownBlock=v.ownBlock∨∃ g,v'.ownBlock=some g∧w.heap.size≤g)
theorem insertEndM (v:Value) (n:Nat) (xs:List Value) (vb:Nat) (u:Value) (w:World) (hn:n≤1048576) (hown:w.ownsRow 0 105 1 v n xs) (h1u:u.oneCell'=true) (hcell:w.heap[vb]?=some (.cells #[u] 105 (0,0))) :
  Calls Tryz.prog 80 #[v,.int .i64 (n:Int),.slice (some ⟨vb,0,none⟩) 1 1] w (InsertedM v n xs n u w):=by
 obtain ⟨i0,hi,hz0,hz1,hz2⟩:=info_parts infoM
 have hnews:∀ j a,[u][j]?=some a→w.cell? ((⟨vb,0,none⟩:Addr).add j)=some a:=fun j a hj=>by
  match j,hj with
  | 0,hj=>simp at hj;subst hj;simp [Addr.add,World.cell?,hcell]
 have h1:∀ a∈[u],a.oneCell'=true:=fun a ha=>by simp at ha;subst ha;exact h1u
 obtain ⟨v',w',hrun,r1,r2,_⟩:=run_append_own (P:=Tryz.prog) w 0 66 66 105 i0 (.pointer none) 1 8 Tryz.underlying66 hi hz0 hz1 hz2 rfl (by decide) v n xs hown ⟨vb,0,none⟩ 1 1 [u] rfl hnews h1 (by simp [maxLen];omega) (by omega) (Nat.zero_le _)
 have r3:=append_where (ty:=66) Tryz.underlying66 hi hz0 hz1 hz2 hown (m:=1) (c:=1) rfl hnews h1 (by decide) (by simp [maxLen];omega) (by omega) hrun
 have hlen:=hown.1
 have HE:Hid (InsertedM v n xs n u w (.returned v') w'):=⟨v',rfl,by
  have:insAt xs n u=xs++[u]:=by unfold insAt;rw [List.take_of_length_le (by omega),List.drop_of_length_le (by omega)]
  rw [this];exact r1,r2,r3.imp id (fun h=>⟨_,h,Nat.le_refl _⟩)⟩
 clear r1 r2 r3 hnews h1 hlen
 obtain ⟨ao,cap,rfl⟩:=own_form hown
 have hnc:n≤cap:=by
  rcases hown.2 with ⟨hv,h0⟩|⟨g,c,cur,hv,_,_,hc,_⟩
  ·omega
  ·injection hv with _ _ e3;omega
 clear hown hcell
 by_cases hcn:cap=n
 ·subst hcn
  go_enter Tryz.func80,Tryz.ntmps80
  go_wp2_with (at_builtin;refine Lib.wpList_append_run _ rfl _ _ _ _ rfl _ _ rfl rfl _ _ hrun ?_)
  go_ret
  exact HE.out
 ·go_enter Tryz.func80,Tryz.ntmps80
  go_wp2_with (at_builtin;refine Lib.wpList_append_run _ rfl _ _ _ _ rfl _ _ rfl rfl _ _ hrun ?_)
  go_ret
  exact HE.out
theorem insertRoomM (g cap n:Nat) (xs:List Value) (i vb:Nat) (u:Value) (w:World) (hi:i<n) (hn:n≤1048576) (hroom:n+1≤cap) (hown:w.ownsRow 0 105 1 (.slice (some ⟨g,0,none⟩) n cap) n xs) (h1:∀ x∈xs,x.oneCell'=true) (h1u:u.oneCell'=true)
  (hvb:vb≠g) (hcell:w.heap[vb]?=some (.cells #[u] 105 (0,0))) :
  Calls Tryz.prog 80 #[.slice (some ⟨g,0,none⟩) n cap,.int .i64 (i:Int),.slice (some ⟨vb,0,none⟩) 1 1] w (InsertedM (.slice (some ⟨g,0,none⟩) n cap) n xs i u w):=by
 obtain ⟨i0,hi0,hz0,hzs,hzb⟩:=info_parts infoM
 have hsz:(Tryz.prog.info? 105).map (·.size)=some 1:=by rw [hi0];simp [hzs]
 have hco:∀ w,(Go.sizeOf 105).run Tryz.prog w=.ok 1 w:=Tryz.sizeOf105
 obtain ⟨cur,hg,hcm,hcs,htake⟩:∃ cur,w.heap[g]?=some (.cells cur 105 (0,0))∧cap≤maxLen∧cur.size=cap∧cur.toList.take n=xs:=by
  rcases hown.2 with ⟨hv,_⟩|⟨g',c,cur,hv,_,hh,_,h2,h3,h4⟩
  ·injection hv with e;simp at e
  ·injection hv with e1 e2 e3
   injection e1 with e1
   injection e1 with e1
   subst e1 e3
   exact ⟨cur,hh,h2,by omega,by simpa using h4⟩
 have hxl:xs.length=n:=by have:=hown.1;omega
 have hc63:cap≤9223372036854775807:=by simp [maxLen] at hcm;omega
 have hcs':∀ j v,xs[j]?=some v→w.cell? ⟨g,j,none⟩=some v:=fun j v hj=>by
  have:=hown.cells (g:=g) rfl j v hj
  have hp:(⟨g,0,none⟩:Addr).add j=⟨g,j,none⟩:=by rw [Addr.add_lit];simp
  rwa [hp] at this
 have hsp:∀ j,j<n+1→(w.cell? ⟨g,j,none⟩).isSome=true:=fun j hj=>by simp [World.cell?,hg,Array.getElem?_eq_getElem (show j<cur.size by omega)]
 have hfz:∀ j,w.frozen? ⟨g,j,none⟩=false:=fun j=>frozen_of_row w g j cur _ hg
 have hov:∀ lb cb,(callFunc 111 #[.slice (some ⟨vb,0,none⟩) 1 1,.slice (some ⟨g,i+1,none⟩) lb cb]).run Tryz.prog w=.ok (.value (.bool false)) w:=fun lb cb=>by
  rw [run_callFunc_extern Tryz.func111 (by kernel_rfl) (by kernel_rfl) (by kernel_rfl) (e:=Extern.SlicesOverlaps.overlaps #[66,66] #[4]) (by kernel_rfl),
   Lib.run_overlaps_apart w 66 4 105 Tryz.underlying66 1 hco ⟨vb,0,none⟩ ⟨g,i+1,none⟩ 1 1 lb cb hvb 105 105 1 cap (by simp [World.shape?,hcell]) (by simp [World.shape?,hg,hcs]) (by omega) (frozen_of_row w vb 0 _ _ hcell) (frozen_of_row w vb 1 _ _ hcell)]
  rfl
 have hdl:(xs.drop i).length=n-i:=by rw [List.length_drop,hxl]
 obtain ⟨W1,hW1⟩:∃ W1,W1=w.drew.setCells g (i+1) (xs.drop i):=⟨_,rfl⟩
 have hcp1:∀ ty dc sc,(Builtin.copy_ #[66,66] ty #[.slice (some ⟨g,i+1,none⟩) (n-i) dc,.slice (some ⟨g,i,none⟩) (n+1-i) sc]).run Tryz.prog w.drew=.ok (goInt (xs.drop i).length) W1:=fun ty dc sc=>by
  rw [hW1]
  exact run_copy_cells w.drew _ _ ty 105 g (i+1) (n-i) dc ⟨g,i,none⟩ (n+1-i) sc (xs.drop i) Tryz.underlying66 hsz (by rw [hdl];simp only [Nat.min_def];split<;>omega)
   (fun j v hj=>by rw [Addr.add_lit];exact hcs' (i+j) v (by rwa [List.getElem?_drop] at hj))
   (fun j hj=>hsp _ (by omega)) (fun j hj=>hfz _) (fun v hv=>h1 v (List.mem_of_mem_drop hv))
 have hsp1:∀ k,k<n+1→(W1.cell? ⟨g,k,none⟩).isSome=true:=fun k hk=>by
  rw [hW1]
  exact isSome_setCells g (xs.drop i) (i+1) w.drew (fun j hj=>hsp _ (by rw [hdl] at hj;omega)) _ (hsp k hk)
 have hcp2:∀ ty dc,(Builtin.copy_ #[66,66] ty #[.slice (some ⟨g,i,none⟩) (n+1-i) dc,.slice (some ⟨vb,0,none⟩) 1 1]).run Tryz.prog W1=.ok (goInt 1) (W1.setCells g i [u]):=fun ty dc =>
  run_copy_cells W1 _ _ ty 105 g i (n+1-i) dc ⟨vb,0,none⟩ 1 1 [u] Tryz.underlying66 hsz (by simp only [Nat.min_def,List.length_cons,List.length_nil];split<;>omega)
   (fun j v hj=>by
    match j,hj with
    | 0,hj =>
     simp at hj;subst hj
     rw [Addr.add_lit,hW1,World.cell?_setCells_out g _ _ _ _ (fun h _=>absurd h hvb)]
     show w.cell? ⟨vb,0,none⟩=some u
     simp [World.cell?,hcell])
   (fun j hj=>by simp at hj;subst hj;exact hsp1 i (by omega)) (fun j hj=>by rw [hW1,World.frozen?_setCells];exact hfz _) (fun v hv=>by simp at hv;subst hv;exact h1u)
 have HE:Hid (InsertedM (.slice (some ⟨g,0,none⟩) n cap) n xs i u w (.returned (.slice (some ⟨g,0,none⟩) (n+1) cap)) (W1.setCells g i [u])):=by
  obtain ⟨c1,a1,a2,a3⟩:=setCells_row g 105 (xs.drop i) (i+1) w.drew cur hg (by rw [hdl];omega)
  rw [←hW1] at a1
  obtain ⟨c2,b1,b2,b3⟩:=setCells_row g 105 [u] i W1 c1 a1 (by simp;omega)
  have hl1:(cur.toList.take (i+1)).length=i+1:=by simp;omega
  have hti:c1.toList.take i=xs.take i:=by
   rw [a3,List.append_assoc,List.take_append_of_le_length (by omega),List.take_take,Nat.min_eq_left (by omega),←htake,List.take_take,Nat.min_eq_left (by omega)]
  have hdi:c1.toList.drop (i+1)=xs.drop i++cur.toList.drop (i+1+(xs.drop i).length):=by
   rw [a3,List.append_assoc,List.drop_append_of_le_length (by omega),List.drop_of_length_le (by omega),List.nil_append]
  refine ⟨_,rfl,⟨by unfold insAt;simp;omega,Or.inr ⟨g,cap,c2,rfl,Nat.zero_le _,b1,by omega,hcm,by omega,?_⟩⟩,?_,Or.inl rfl⟩
  ·rw [b3,hti]
   simp only [List.length_cons,List.length_nil,Nat.zero_add,Nat.mul_one]
   rw [hdi]
   unfold insAt
   have hA:(xs.take i++[u]++xs.drop i).length=n+1:=by simp;omega
   rw [show xs.take i++[u]++(xs.drop i++cur.toList.drop (i+1+(xs.drop i).length))=(xs.take i++[u]++xs.drop i)++cur.toList.drop (i+1+(xs.drop i).length) by simp,List.take_append_of_le_length (by omega),List.take_of_length_le (by omega)]
   simp
  ·have q1:w.grownBy W1 (some g):=by
    have:=grown_setCells w.drew g (i+1) (xs.drop i)
    rw [←hW1] at this
    exact grown_undrew this
   exact q1.trans (grown_setCells W1 g i [u])
 have hW:Hid (W1=w.drew.setCells g (i+1) (xs.drop i)):=hW1
 have hz2:¬((i:Int)=(n:Int)):=by omega
 have hz3:¬((cap:Int)<(n:Int)+1):=by omega
 have hw1:IntKind.i64.wrap ((i:Int)+1)=(i:Int)+1:=by rw [IntKind.wrap_i64];omega
 have hw2:IntKind.i64.wrap ((n:Int)+1)=(n:Int)+1:=by rw [IntKind.wrap_i64];omega
 have hb1:(0:Int)≤(i:Int)+1:=by omega
 have htn:((i:Int)+1).toNat=i+1:=by omega
 have htn2:((n:Int)+1).toNat=n+1:=by omega
 have hb2:¬(cap=i+1):=by omega
 have hb3:(i:Int)≤(n:Int)+1:=by omega
 have hb4:¬(cap=i):=by omega
 have hin:i≤n:=by omega
 have hnc:n≤cap:=by omega
 clear hW1 hsp hsp1 hfz hcs' hcell hown hg htake hcs h1 hdl hxl
 go_enter Tryz.func80,Tryz.ntmps80
 go_wp2_with (simp only [hov])
 go_region_law (refine step_copy_runI rfl _ _ 66 66 rfl _ _ (by simp [Act.eval,Act.put]) (by simp [Act.eval,Act.put]) (hcp1 _ _ _) ?_)
 go_wp2_with (at_builtin;refine wpList_copy_runI _ rfl _ _ 66 66 rfl _ _ rfl rfl (hcp2 _ _) ?_)
 go_ret
 exact HE.out
theorem insertGrowM (g n:Nat) (xs:List Value) (i vb:Nat) (u:Value) (w:World) (hi:i<n) (hn:n≤1048576) (hown:w.ownsRow 0 105 1 (.slice (some ⟨g,0,none⟩) n n) n xs) (h1:∀ x∈xs,x.oneCell'=true) (h1u:u.oneCell'=true)
  (hcell:w.heap[vb]?=some (.cells #[u] 105 (0,0))) :
  Calls Tryz.prog 80 #[.slice (some ⟨g,0,none⟩) n n,.int .i64 (i:Int),.slice (some ⟨vb,0,none⟩) 1 1] w (InsertedM (.slice (some ⟨g,0,none⟩) n n) n xs i u w):=by
 obtain ⟨i0,hi0,hz0,hzs,hzb⟩:=info_parts infoM
 have hsz:(Tryz.prog.info? 105).map (·.size)=some 1:=by rw [hi0];simp [hzs]
 have hxl:xs.length=n:=by have:=hown.1;omega
 have hgw:g<w.heap.size:=(hown.lt g rfl).2
 have hvw:vb<w.heap.size:=(Array.getElem?_eq_some_iff.1 hcell).1
 have hcs':∀ j v,xs[j]?=some v→w.cell? ⟨g,j,none⟩=some v:=fun j v hj=>by
  have:=hown.cells (g:=g) rfl j v hj
  have hp:(⟨g,0,none⟩:Addr).add j=⟨g,j,none⟩:=by rw [Addr.add_lit];simp
  rwa [hp] at this
 have hold:(Builtin.firstCells i0.size i (.slice (some ⟨g,0,none⟩) i n)).run Tryz.prog w.drew=.ok (xs.take i).toArray w.drew:=by
  rw [hzs]
  exact run_firstCells_some w.drew 1 i ⟨g,0,none⟩ i n (xs.take i) (by rw [List.length_take];omega) (fun j v hj=>by
   rw [Addr.add_lit,Nat.zero_add]
   rw [List.getElem?_take] at hj
   split at hj
   ·exact hcs' j v hj
   ·cases hj)
 have hkk:((n+1-i:Nat):Int)=(n:Int)+1-(i:Int):=by omega
 have hik:i+(n+1-i)=n+1:=by omega
 obtain ⟨G,hG⟩:∃ G,G=grownCap w (n+1) n 105:=⟨_,rfl⟩
 obtain ⟨ROW,hROW⟩:∃ ROW:Array Value,ROW=(xs.take i).toArray++Builtin.zeroCells (.pointer none:Value).cells (n+1-i)++Builtin.zeroCells (.pointer none:Value).cells (G-(n+1)):=⟨_,rfl⟩
 obtain ⟨W1,hW1⟩:∃ W1,W1=w.drew.alloc (.cells ROW 105):=⟨_,rfl⟩
 have hrz:∀ ty,(Builtin.append_ #[66,3] ty #[.slice (some ⟨g,0,none⟩) i n,.int .i64 ((n:Int)+1-(i:Int))]).run Tryz.prog w=.ok (.slice (some ⟨w.heap.size,0,none⟩) (n+1) G) W1:=fun ty=>by
  have h:=Lib.run_append_grow_zeros w 66 3 ty 105 i0 _ .i64 .i64 Tryz.underlying66 Tryz.underlying3 hi0 hz0 (some ⟨g,0,none⟩) i n (xs.take i) hold (n+1-i) (by omega) (by omega) (by omega) (by omega) (by rw [hzb];omega) (by rw [hzb,hik];exact growslice_fits (by omega) (by omega))
  rw [hik,hkk,←hG,←hROW,←hW1] at h
  exact h
 have hGn:n+1≤G:=by rw [hG];exact grownCap_ge w _ _ _
 have hGm:G≤maxLen:=by rw [hG];exact grownCap_le_maxLen w (n+1) n 105 (by simp [maxLen];omega)
 have hG63:G≤9223372036854775807:=by simp [maxLen] at hGm;omega
 have hRz:ROW.size=G:=by
  rw [hROW]
  simp [Builtin.zeroCells,Value.cells]
  omega
 have hN:∀ j,j<n+1→(W1.cell? ⟨w.heap.size,j,none⟩).isSome=true:=fun j hj=>by
  rw [hW1,World.cell?_alloc_at (w:=w.drew) ROW _ w.heap.size j rfl,Array.getElem?_eq_getElem (by omega)];rfl
 have hNf:∀ j,W1.frozen? ⟨w.heap.size,j,none⟩=false:=fun j=>by rw [hW1];exact World.frozen?_alloc_at (w:=w.drew) ROW _ w.heap.size j rfl
 obtain ⟨W2,hW2⟩:∃ W2,W2=W1.setCells w.heap.size i [u]:=⟨_,rfl⟩
 have hcpA:∀ ty dc,(Builtin.copy_ #[66,66] ty #[.slice (some ⟨w.heap.size,i,none⟩) (n+1-i) dc,.slice (some ⟨vb,0,none⟩) 1 1]).run Tryz.prog W1=.ok (goInt 1) W2:=fun ty dc=>by
  rw [hW2]
  exact run_copy_cells W1 _ _ ty 105 w.heap.size i (n+1-i) dc ⟨vb,0,none⟩ 1 1 [u] Tryz.underlying66 hsz (by simp only [Nat.min_def,List.length_cons,List.length_nil];split<;>omega)
   (fun j v hj=>by
    match j,hj with
    | 0,hj =>
     simp at hj;subst hj
     rw [Addr.add_lit,hW1,World.cell?_alloc_past (w:=w.drew) _ vb (0+0) hvw]
     show w.cell? ⟨vb,0,none⟩=some u
     simp [World.cell?,hcell])
   (fun j hj=>hN _ (by simp at hj;omega)) (fun j hj=>hNf _) (fun v hv=>by simp at hv;subst hv;exact h1u)
 have hdl:(xs.drop i).length=n-i:=by rw [List.length_drop,hxl]
 have hcpB:∀ ty dc sc,(Builtin.copy_ #[66,66] ty #[.slice (some ⟨w.heap.size,i+1,none⟩) (n-i) dc,.slice (some ⟨g,i,none⟩) (n-i) sc]).run Tryz.prog W2.drew=.ok (goInt (xs.drop i).length) (W2.drew.setCells w.heap.size (i+1) (xs.drop i)):=fun ty dc sc=>by
  exact run_copy_cells W2.drew _ _ ty 105 w.heap.size (i+1) (n-i) dc ⟨g,i,none⟩ (n-i) sc (xs.drop i) Tryz.underlying66 hsz (by rw [hdl];simp only [Nat.min_def];split<;>omega)
   (fun j v hj=>by
    rw [Addr.add_lit]
    show W2.cell? ⟨g,i+j,none⟩=some v
    rw [hW2,World.cell?_setCells_out _ _ _ _ _ (fun h _=>absurd h (Nat.ne_of_lt hgw)),hW1,World.cell?_alloc_past (w:=w.drew) _ g (i+j) hgw]
    exact hcs' (i+j) v (by rwa [List.getElem?_drop] at hj))
   (fun j hj=>by
    show (W2.cell? ⟨w.heap.size,i+1+j,none⟩).isSome=true
    rw [hW2]
    exact isSome_setCells w.heap.size [u] i W1 (fun t ht=>hN _ (by simp at ht;omega)) _ (hN _ (by omega)))
   (fun j hj=>by show W2.frozen? _=false;rw [hW2,World.frozen?_setCells];exact hNf _) (fun v hv=>h1 v (List.mem_of_mem_drop hv))
 have HE:Hid (InsertedM (.slice (some ⟨g,0,none⟩) n n) n xs i u w (.returned (.slice (some ⟨w.heap.size,0,none⟩) (n+1) G)) (W2.drew.setCells w.heap.size (i+1) (xs.drop i))):=by
  have hg1:W1.heap[w.heap.size]?=some (.cells ROW 105 (0,0)):=by rw [hW1];exact heap_alloc_new w.drew _
  obtain ⟨c1,a1,a2,a3⟩:=setCells_row w.heap.size 105 [u] i W1 ROW hg1 (by simp;omega)
  rw [←hW2] at a1
  obtain ⟨c2,b1,b2,b3⟩:=setCells_row w.heap.size 105 (xs.drop i) (i+1) W2.drew c1 a1 (by rw [hdl];omega)
  have hR1:ROW.toList.take i=xs.take i:=by
   rw [hROW]
   simp only [Array.toList_append,List.append_assoc]
   rw [List.take_append_of_le_length (by simp;omega),List.take_of_length_le (by simp;omega)]
  have h1t:c1.toList.take (i+1)=xs.take i++[u]:=by
   have hl:(xs.take i++[u]).length=i+1:=by simp;omega
   rw [a3,hR1,List.take_append_of_le_length (by omega),List.take_of_length_le (by omega)]
  refine ⟨_,rfl,⟨by unfold insAt;simp;omega,Or.inr ⟨w.heap.size,G,c2,rfl,Nat.zero_le _,b1,hGn,hGm,by omega,?_⟩⟩,?_,Or.inr ⟨w.heap.size,rfl,Nat.le_refl _⟩⟩
  ·rw [b3,h1t]
   have hA:(xs.take i++[u]++xs.drop i).length=n+1:=by simp;omega
   rw [Nat.mul_one,List.take_append_of_le_length (by omega),List.take_of_length_le (by omega)]
   unfold insAt
   simp
  ·have q1:w.grownBy W1 none:=by rw [hW1];exact (drew_grown w none).trans (grown_alloc w.drew _ none)
   have q2:=grown_setCells W1 w.heap.size i [u]
   rw [←hW2] at q2
   have q3:=grown_setCells W2.drew w.heap.size (i+1) (xs.drop i)
   have q4:w.grownBy W2 none:=grown_new q1 q2 (Nat.le_refl _)
   have q5:w.grownBy W2.drew none:=q4.trans (drew_grown _ _)
   exact grown_but (grown_new q5 q3 (Nat.le_refl _)) _
 have hz2:¬((i:Int)=(n:Int)):=by omega
 have hz3:((n:Int)<(n:Int)+1):=by omega
 have hw1:IntKind.i64.wrap ((i:Int)+1)=(i:Int)+1:=by rw [IntKind.wrap_i64];omega
 have hw2:IntKind.i64.wrap ((n:Int)+1)=(n:Int)+1:=by rw [IntKind.wrap_i64];omega
 have hw3:IntKind.i64.wrap ((n:Int)+1-(i:Int))=(n:Int)+1-(i:Int):=by rw [IntKind.wrap_i64];omega
 have hb1:(0:Int)≤(i:Int)+1:=by omega
 have htn:((i:Int)+1).toNat=i+1:=by omega
 have hGi:¬(G=i):=by omega
 have hGim:¬(G=i+1):=by omega
 have hci:¬(n=i):=by omega
 have hb3:(i:Int)≤(n:Int)+1:=by omega
 have hin:i≤n:=by omega
 have hiG:i+1≤G:=by omega
 clear hkk hik hold hROW hG hRz hN hNf hcs' hown hcell hW1 hW2 hdl hxl h1
 go_enter Tryz.func80,Tryz.ntmps80
 go_wp2_with (first
  | (at_builtin;refine Lib.wpList_append_run _ rfl _ _ _ _ rfl _ _ rfl rfl _ _ (hrz _) ?_)
  | (at_builtin;refine wpList_copy_runI _ rfl _ _ 66 66 rfl _ _ rfl rfl (hcpA _ _) ?_))
 go_region_law (refine step_copy_runI rfl _ _ 66 66 rfl _ _ (by simp [Act.eval,Act.put]) (by simp [Act.eval,Act.put]) (hcpB _ _ _) ?_)
 go_wp2
 go_ret
 exact HE.out
theorem insertM (v:Value) (n:Nat) (xs:List Value) (i vb:Nat) (u:Value) (w:World) (hi:i≤n) (hn:n≤1048576) (hown:w.ownsRow 0 105 1 v n xs) (h1:∀ x∈xs,x.oneCell'=true) (h1u:u.oneCell'=true) (hvb:v.ownBlock≠some vb) (hcell:w.heap[vb]?=some (.cells #[u] 105 (0,0))) :
  Calls Tryz.prog 80 #[v,.int .i64 (i:Int),.slice (some ⟨vb,0,none⟩) 1 1] w (InsertedM v n xs i u w):=by
 by_cases he:i=n
 ·subst he
  exact insertEndM v i xs vb u w hn hown h1u hcell
 ·rcases hown.2 with ⟨_,h0⟩|⟨g,cap,cur,rfl,_,_,hnc,_⟩
  ·omega
  ·by_cases hr:n+1≤cap
   ·exact insertRoomM g cap n xs i vb u w (by omega) hn hr hown h1 h1u (fun e=>hvb (by rw [e];rfl)) hcell
   ·obtain rfl:cap=n:=by omega
    exact insertGrowM g cap xs i vb u w (by omega) hn hown h1 h1u hcell
end Go.Proofs.YtekdenkllipehabGreatDoor
