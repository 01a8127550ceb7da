import Derived.Test.YtekdenkllipehabGreatDoorK16
import Derived.Test.YtekdenkllipehabGreatDoorK17
import Derived.OwnWalk
set_option maxRecDepth 100000
set_option maxHeartbeats 8000000
namespace Go.Proofs.YtekdenkllipehabGreatDoor
open Go.RowKit
namespace S
def Ent.cells (e:Ent):List Value:=[.int .i64 (e.lo:Int),.int .i64 (e.hi:Int),.string e.key,.int .i64 (e.stamp:Int)]
def entCells (l:List Ent):List Value:=l.flatMap Ent.cells
theorem entCells_append (A B:List Ent):entCells (A++B)=entCells A++entCells B:=by simp [entCells]
theorem entCells_one (e:Ent):entCells [e]=e.cells:=by simp [entCells]
theorem entCells_length (l:List Ent):(entCells l).length=l.length*4:=by
 induction l with
 | nil=>rfl
 | cons s l ih=>show (s.cells++entCells l).length=_;rw [List.length_append,ih];simp [Ent.cells];omega
theorem entCells_get:∀ {L:List Ent} {k:Nat} {r:Ent},L[k]?=some r→(entCells L)[k*4]?=some (.int .i64 (r.lo:Int))∧(entCells L)[k*4+1]?=some (.int .i64 (r.hi:Int))∧(entCells L)[k*4+2]?=some (.string r.key)∧(entCells L)[k*4+3]?=some (.int .i64 (r.stamp:Int))
 | [],_,_,h=>by simp at h
 | t::L,0,r,h=>by
  simp at h;subst h
  exact ⟨rfl,rfl,rfl,rfl⟩
 | t::L,k+1,r,h=>by
  have e:entCells (t::L)=.int .i64 (t.lo:Int)::.int .i64 (t.hi:Int)::.string t.key::.int .i64 (t.stamp:Int)::entCells L:=rfl
  have ih:=entCells_get (L:=L) (k:=k) (r:=r) (by simpa using h)
  rw [e,show (k+1)*4=k*4+1+1+1+1 by omega]
  simpa using ih
end S
def EntsAt (w:World) (ao:Option Addr) (l:List S.Ent):Prop:=l=[]∨∃ g,ao=some ⟨g,0,none⟩∧g<w.heap.size∧∀ (i:Nat) (e:S.Ent),l[i]?=some e →
 w.cell? ⟨g,i*4,none⟩=some (.int .i64 (e.lo:Int))∧w.cell? ⟨g,i*4+1,none⟩=some (.int .i64 (e.hi:Int))∧w.cell? ⟨g,i*4+2,none⟩=some (.string e.key)∧w.cell? ⟨g,i*4+3,none⟩=some (.int .i64 (e.stamp:Int))
theorem EntsAt.kept {w w':World} {ao:Option Addr} {l:List S.Ent} (h:EntsAt w ao l) (q:Q w w'):EntsAt w' ao l:=by
 rcases h with h|⟨g,rfl,hg,hc⟩
 ·exact Or.inl h
 ·refine Or.inr ⟨g,rfl,Nat.lt_of_lt_of_le hg q.below.size,fun i e hi=>?_⟩
  obtain ⟨a,b,c,d⟩:=hc i e hi
  exact ⟨kept_cell a q,kept_cell b q,kept_cell c q,kept_cell d q⟩
theorem own_ents {w:World} {base:Nat} {ao:Option Addr} {cap:Nat} {l:List S.Ent} (h:w.ownsRow base 168 4 (.slice ao l.length cap) l.length (S.entCells l)):EntsAt w ao l:=by
 by_cases hne:l=[]
 ·exact Or.inl hne
 ·have hcl:=S.entCells_length l
  have hl0:l.length≠0:=fun e=>hne (List.eq_nil_of_length_eq_zero e)
  obtain ⟨g,rfl,_,hlt,hc⟩:=own_cells h (fun e=>by rw [e] at hcl;simp at hcl;omega)
  refine Or.inr ⟨g,rfl,hlt,fun i e hi=>?_⟩
  obtain ⟨a,b,c,d⟩:=S.entCells_get hi
  exact ⟨hc _ _ a,hc _ _ b,hc _ _ c,hc _ _ d⟩
def layVal (wm:Int) (blocks:ByteArray) (ao:Option Addr) (n cap:Nat):Value:=.agg #[.int .i64 wm,.string blocks,.slice ao n cap]
def noLay:Value:=.agg #[.int .i64 0,.string ⟨#[]⟩,.slice none 0 0]
def LaySaid (w:World) (o:Option S.Lay) (e:Ending) (w':World):Prop:=
 match o with
 | none=>e=.returned (.tuple #[noLay,.int .i64 3])
 | some L=>∃ ao cap,e=.returned (.tuple #[layVal L.wm ⟨L.blocks.toArray⟩ ao L.ents.length cap,.int .i64 0])∧EntsAt w' ao L.ents∧∀ a,ao=some a→w.heap.size≤a.block
theorem infoEnt:(Tryz.prog.info? 168).map (fun i=>(i.zero,i.size,i.bytes))=some (some (.agg #[.int .i64 0,.int .i64 0,.string ⟨#[]⟩,.int .i64 0]),4,40):=by kernel_rfl
theorem grownBy_setCell'' (w:World) (B o:Nat) (v:Value):w.grownBy (w.setCell ⟨B,o,none⟩ v) (some B):=
 ⟨rfl,rfl,rfl,by simp,fun k _ hne=>heap_setCell_other w ⟨B,o,none⟩ k v (fun e=>hne (by simp at e;rw [e]))⟩
theorem row_keep' {w w':World} {base:Nat} {e:TypeId} {size:Nat} {v:Value} {n:Nat} {xs:List Value} (h:w.ownsRow base e size v n xs) (hb:∀ g,v.ownBlock=some g→w'.heap[g]?=w.heap[g]?):w'.ownsRow base e size v n xs:=by
 refine ⟨h.1,?_⟩
 rcases h.2 with h2|⟨g,cap,cur,hv,hg,hh,r⟩
 ·exact Or.inl h2
 ·exact Or.inr ⟨g,cap,cur,hv,hg,by rw [hb g (by rw [hv];rfl)];exact hh,r⟩
structure Idg (w:World) (C Y:Nat) (s:ByteArray) (a:Nat) (fl:Bool) (wm:Int) (bl:ByteArray) (l:List S.Ent) (ao:Option Addr) (cap:Nat) (wr:World):Prop where
 below:Below w.heap.size w wr
 low:w.heap.size≤C∧C<Y
 rd:RdAt wr C s a fl
 c0:wr.cell? ⟨Y,0,none⟩=some (.int .i64 wm)
 c1:wr.cell? ⟨Y,1,none⟩=some (.string bl)
 c2:wr.cell? ⟨Y,2,none⟩=some (.slice ao l.length cap)
 f2:wr.frozen? ⟨Y,2,none⟩=false
 top:Y<wr.heap.size
 own:wr.ownsRow (Y+1) 168 4 (.slice ao l.length cap) l.length (S.entCells l)
 ans:VarN wr w.heap.size [.int .i64 0,.string ⟨#[]⟩,.slice none 0 0]∧w.heap.size<C
theorem VarN.grown {w w':World} {B:Nat} {vs:List Value} {row:Option Nat} (h:VarN w B vs) (hg:w.grownBy w' row) (hne:row≠some B):VarN w' B vs:=by
 have hb:w'.heap[B]?=w.heap[B]?:=hg.block B h.1 (fun e=>hne e.symm)
 exact ⟨Nat.lt_of_lt_of_le h.1 hg.size,fun i v hv=>⟨(World.cell?_of_block (a:=⟨B,i,none⟩) hb).trans (h.2 i v hv).1,(World.frozen?_of_block (a:=⟨B,i,none⟩) hb).trans (h.2 i v hv).2⟩⟩
theorem Idg.kept {w wr w':World} {C Y a:Nat} {s:ByteArray} {fl:Bool} {wm:Int} {bl:ByteArray} {l:List S.Ent} {ao:Option Addr} {cap:Nat} (h:Idg w C Y s a fl wm bl l ao cap wr) (q:Q wr w'):Idg w C Y s a fl wm bl l ao cap w':=
 ⟨h.below.trans (q.below.mono h.below.size),h.low,h.rd.kept q,kept_cell h.c0 q,kept_cell h.c1 q,kept_cell h.c2 q,(q.below.frozen (p:=⟨Y,2,none⟩) h.top).trans h.f2,Nat.lt_of_lt_of_le h.top q.below.size,own_below h.own q.below,h.ans.1.kept q,h.ans.2⟩
theorem Idg.next {w wr w':World} {C Y a a':Nat} {s:ByteArray} {fl fl':Bool} {wm:Int} {bl:ByteArray} {l:List S.Ent} {ao:Option Addr} {cap:Nat} (h:Idg w C Y s a fl wm bl l ao cap wr) (hg:wr.grownBy w' (some C)) (hr:RdAt w' C s a' fl'):Idg w C Y s a' fl' wm bl l ao cap w':=by
 have hY:w'.heap[Y]?=wr.heap[Y]?:=hg.block Y h.top (fun e=>by injection e;have:=h.low.2;omega)
 refine ⟨h.below.grown hg h.below.size (fun k hk=>by injection hk;have:=h.low.1;omega),h.low,hr,(World.cell?_of_block (a:=⟨Y,0,none⟩) hY).trans h.c0,(World.cell?_of_block (a:=⟨Y,1,none⟩) hY).trans h.c1,(World.cell?_of_block (a:=⟨Y,2,none⟩) hY).trans h.c2,(World.frozen?_of_block (a:=⟨Y,2,none⟩) hY).trans h.f2,Nat.lt_of_lt_of_le h.top hg.size,h.own.kept hg ?_,h.ans.1.grown hg (by have:=h.ans.2;simp;omega),h.ans.2⟩
 rcases hb:(Value.slice ao l.length cap).ownBlock with _|k
 ·exact Or.inl rfl
 ·right
  have:=(h.own.lt k hb).1
  have:=h.low.2
  simp
  omega
theorem Idg.push {w wr w':World} {C Y a:Nat} {s:ByteArray} {fl:Bool} {wm:Int} {bl:ByteArray} {l:List S.Ent} {e:S.Ent} {ao ao':Option Addr} {cap cap':Nat} (h:Idg w C Y s a fl wm bl l ao cap wr) (hg:wr.grownBy w' (Value.slice ao l.length cap).ownBlock)
  (ho:w'.ownsRow (Y+1) 168 4 (.slice ao' (l.length+1) cap') (l.length+1) (S.entCells l++e.cells)):Idg w C Y s a fl wm bl (l++[e]) ao' cap' (w'.setCell ⟨Y,2,none⟩ (.slice ao' (l.length+1) cap')):=by
 have hlow:∀ k,(Value.slice ao l.length cap).ownBlock=some k→Y<k:=fun k hk=>(h.own.lt k hk).1
 have hlow':∀ k,(Value.slice ao' (l.length+1) cap').ownBlock=some k→Y<k:=fun k hk=>(ho.lt k hk).1
 have hY:w'.heap[Y]?=wr.heap[Y]?:=hg.block Y h.top (fun e=>by have:=hlow Y e.symm;omega)
 have hrd:=h.rd.grown hg (fun e=>by have:=hlow C e;have:=h.low.2;omega)
 have hl:=h.low
 refine ⟨(h.below.grown hg h.below.size (fun k hk=>by have:=hlow k hk;omega)).setCell (by show w.heap.size≤Y;omega) _,h.low,?_,?_,?_,?_,?_,?_,?_,?_,h.ans.2⟩
 ·exact hrd.grown (row:=some Y) (grownBy_setCell'' w' Y 2 _) (by simp;omega)
 ·rw [World.cell?_setCell_other _ _ _ _ (by simp)];exact (World.cell?_of_block (a:=⟨Y,0,none⟩) hY).trans h.c0
 ·rw [World.cell?_setCell_other _ _ _ _ (by simp)];exact (World.cell?_of_block (a:=⟨Y,1,none⟩) hY).trans h.c1
 ·rw [List.length_append];exact World.cell?_setCell_same _ _ _ ((World.cell?_of_block (a:=⟨Y,2,none⟩) hY).trans h.c2)
 ·rw [World.frozen?_setCell];exact (World.frozen?_of_block (a:=⟨Y,2,none⟩) hY).trans h.f2
 ·have:=hg.size;have:=h.top;simp;omega
 ·rw [S.entCells_append,S.entCells_one,List.length_append]
  refine ho.kept (grownBy_setCell'' w' Y 2 _) ?_
  rcases hb:(Value.slice ao' (l.length+1) cap').ownBlock with _|k
  ·exact Or.inl rfl
  ·right
   have:=hlow' k hb
   simp
   omega
 ·exact (h.ans.1.grown hg (fun e=>by have:=hlow _ e;have:=h.ans.2;omega)).other (by have:=h.ans.2;omega) 2 _
theorem Idg.aside {w wr w':World} {C Y E a:Nat} {s:ByteArray} {fl:Bool} {wm:Int} {bl:ByteArray} {l:List S.Ent} {ao:Option Addr} {cap:Nat} (h:Idg w C Y s a fl wm bl l ao cap wr) (hg:wr.grownBy w' (some E)) (hE:Y<E) (hne:(Value.slice ao l.length cap).ownBlock≠some E):Idg w C Y s a fl wm bl l ao cap w':=by
 have hl:=h.low
 have hY:w'.heap[Y]?=wr.heap[Y]?:=hg.block Y h.top (fun e=>by injection e;omega)
 exact ⟨h.below.grown hg h.below.size (fun k hk=>by injection hk;omega),h.low,h.rd.grown hg (by simp;omega),(World.cell?_of_block (a:=⟨Y,0,none⟩) hY).trans h.c0,(World.cell?_of_block (a:=⟨Y,1,none⟩) hY).trans h.c1,(World.cell?_of_block (a:=⟨Y,2,none⟩) hY).trans h.c2,(World.frozen?_of_block (a:=⟨Y,2,none⟩) hY).trans h.f2,Nat.lt_of_lt_of_le h.top hg.size,row_keep' h.own (fun g hgb=>hg.block g (h.own.lt g hgb).2 (fun e=>hne (hgb.trans e))),h.ans.1.grown hg (by have:=h.ans.2;simp;omega),h.ans.2⟩
end Go.Proofs.YtekdenkllipehabGreatDoor
namespace Go.Proofs.YtekdenkllipehabGreatDoor
open Go.RowKit
theorem own_low {w:World} {base:Nat} {e:TypeId} {size:Nat} {ao:Option Addr} {n cap:Nat} {xs:List Value} (h:w.ownsRow base e size (.slice ao n cap) n xs):∀ a,ao=some a→base≤a.block:=fun a ha=>by
 rcases h.2 with ⟨hv,_⟩|⟨g,c,cur,hv,hg,_⟩
 ·injection hv with e1;rw [ha] at e1;cases e1
 ·injection hv with e1;rw [ha] at e1;injection e1 with e1;rw [e1];exact hg
theorem ent_cells_at (w:World) (e:S.Ent) (t:TypeId):∀ j u,e.cells[j]?=some u→(w.alloc (.cells #[.int .i64 (e.lo:Int),.int .i64 (e.hi:Int),.string e.key,.int .i64 (e.stamp:Int)] t)).cell? ((⟨w.heap.size,0,none⟩:Addr).add j)=some u:=by
 intro j u hj
 match j,hj with
 | 0,hj=>simp [S.Ent.cells] at hj;subst hj;simp [Addr.add]
 | 1,hj=>simp [S.Ent.cells] at hj;subst hj;simp [Addr.add]
 | 2,hj=>simp [S.Ent.cells] at hj;subst hj;simp [Addr.add]
 | 3,hj=>simp [S.Ent.cells] at hj;subst hj;simp [Addr.add]
 | j+4,hj=>simp [S.Ent.cells] at hj
theorem ent_cells_one (e:S.Ent):∀ u∈e.cells,u.oneCell'=true:=by
 intro u hu;simp [S.Ent.cells] at hu;rcases hu with rfl | rfl | rfl | rfl<;>rfl
theorem readIndex_any (bl idx:ByteArray) (hb:bl.size≤1048576) (hi:idx.size≤1048576) (w:World) :
  Calls Tryz.prog 98 #[.string bl,.string idx] w fun e w'=>LaySaid w (S.readIdx bl.data.toList idx.data.toList) e w'∧Q w w':=by
 have hlen:idx.data.toList.length=idx.size:=by simp
 have hlb:bl.data.toList.length=bl.size:=by simp
 obtain ⟨⟨v0,a0⟩,h0⟩:∃ p,p=numTo idx.data.toList 1099511627777 0:=⟨_,rfl⟩
 obtain ⟨fl0,hfl0⟩:∃ fl0,fl0=numBad idx.data.toList 1099511627777 0:=⟨_,rfl⟩
 have l0:=numTo_le (T:=idx.data.toList) (most:=1099511627777) (a:=0) (by omega)
 rw [←h0,hlen] at l0
 obtain ⟨res,hres⟩:∃ res,res=S.entsTo idx.data.toList bl.size idx.size a0 0 fl0 []:=⟨_,rfl⟩
 have HE:Hid (S.readIdx bl.data.toList idx.data.toList=match res with | (l,at_,bad)=>if bad=true∨at_≠bl.size then none else some ⟨(v0:Int)-1,bl.data.toList,l⟩):=by
  unfold S.readIdx
  rw [←h0,←hfl0,hlb,hlen]
  simp only
  rw [←hres]
  exact rfl
 have N0:Hid _:=fun W=>rdNum idx (by omega) 0 (w.heap.size+1) 1099511627777 false W
 rw [←h0,←hfl0] at N0
 have HRd:Hid _:=fun W=>rdRead idx W
 simp only at l0
 clear h0 hfl0
 go_enter Tryz.func98,Tryz.ntmps98
 go_wp2_with fail
 refine (HRd.out _).mono ?_
 rintro e w1 ⟨rfl,hA1,q1⟩
 simp only [World.size_alloc] at hA1
 go_wp2_with fail
 refine (N0.out _ hA1).mono ?_
 rintro e w2 ⟨rfl,hA2,g2⟩
 have hs1:=q1.below.size
 simp only [World.size_alloc] at hs1
 have hs2:=g2.size
 have ht2:=hA2.top
 have hI0:Idg w (w.heap.size+1) w2.heap.size idx a0 (false || fl0) ((v0:Int)-1) bl [] none 0 (w2.alloc (.cells #[.int .i64 ((v0:Int)-1),.string bl,.slice none 0 0] 124)):=by
  refine ⟨?_,⟨by omega,by omega⟩,hA2.kept ((Q.refl _).alloc _ _),by simp,by simp,by simp,by simp,by simp,World.ownsRow_nil _ _ _ _,?_,by omega⟩
  ·exact ((((Below.refl _ w).alloc (Nat.le_refl _) _).trans (q1.below.mono (by simp))).grown g2 (by omega) (fun k hk=>by injection hk;omega)).alloc (by omega) _
  ·exact (((varN_new w [.int .i64 0,.string ⟨#[]⟩,.slice none 0 0] 124).kept q1).grown g2 (by simp)).kept ((Q.refl _).alloc _ _)
 rw [Bool.false_or] at hI0
 have HN:Hid _:=fun (a most:Nat) (fl:Bool) (W:World)=>rdNum idx (by omega) a (w.heap.size+1) most fl W
 have HX:Hid _:=fun (a n:Nat) (fl:Bool) (hn:n<72057594037927936) (ha:a≤idx.size) (W:World)=>rdTxt idx (by omega) a (w.heap.size+1) n fl hn ha W
 have HMo:Hid _:=fun (a:Nat) (fl:Bool) (W:World)=>rdMore idx a (w.heap.size+1) fl W
 have HFa:Hid _:=fun (a:Nat) (fl:Bool) (W:World)=>rdFailed idx a (w.heap.size+1) fl W
 obtain ⟨Y,hY⟩:∃ Y,w2.heap.size=Y:=⟨_,rfl⟩
 have hYw:w.heap.size+1<Y:=by omega
 obtain ⟨i0,hif,hz0,hz1,hz2⟩:=info_parts infoEnt
 clear N0 HRd hA1 q1 hA2 g2 hs1 hs2 ht2
 go_wp2_with fail
 rw [hY] at hI0
 go_loopw [8] (fun t wr=>∃ (a at_ f:Nat) (fl:Bool) (l:List S.Ent) (ao:Option Addr) (cap:Nat),t=.int .i64 (at_:Int)∧a≤idx.size∧at_≤1048576*a∧idx.size≤a+f∧l.length≤a∧Idg w (w.heap.size+1) Y idx a fl ((v0:Int)-1) bl l ao cap wr∧Hid (res=S.entsTo idx.data.toList bl.size f a at_ fl l)) (fun _ wr=>idx.size-(match wr.cell? ⟨w.heap.size+1,1,none⟩ with | some v=>(intOf v).toNat | none=>0))
 case atStart=>exact ⟨a0,0,idx.size,fl0,[],none,0,rfl,by omega,by omega,by omega,by simp,hI0,hres⟩
 case round =>
  obtain ⟨a,at_,f,fl,l,ao,cap,rfl,ha,hat,hf,hll,hI,hR⟩:=hrel
  have MO:Hid _:=fun (_:Unit)=>HMo.out a fl wr hI.rd
  by_cases hlt:a<idx.size
  ·have hd:decide (a<idx.size)=true:=by simpa using hlt
   rw [hd] at MO
   obtain ⟨⟨v1,a1⟩,h1⟩:∃ p,p=numTo idx.data.toList bl.size a:=⟨_,rfl⟩
   have n1:=S.numTo_next (T:=idx.data.toList) (most:=bl.size) (a:=a) (by omega)
   rw [←h1,hlen] at n1
   obtain ⟨⟨m,a2⟩,h2⟩:∃ p,p=numTo idx.data.toList 64 a1:=⟨_,rfl⟩
   have n2:=numTo_le (T:=idx.data.toList) (most:=64) (a:=a1) (by rw [hlen];exact n1.2.1)
   have n2':=S.numTo_mono (T:=idx.data.toList) (most:=64) (a:=a1) (by rw [hlen];exact n1.2.1)
   rw [←h2,hlen] at n2
   rw [←h2] at n2'
   obtain ⟨⟨t,a3⟩,h3⟩:∃ p,p=bytTo idx.data.toList m a2:=⟨_,rfl⟩
   have n3:=bytTo_le (T:=idx.data.toList) (n:=m) (a:=a2) (by rw [hlen];exact n2.1)
   have n3':=S.bytTo_mono (T:=idx.data.toList) (n:=m) (a:=a2) (by rw [hlen];exact n2.1)
   rw [←h3,hlen] at n3
   rw [←h3] at n3'
   obtain ⟨⟨st,a4⟩,h4⟩:∃ p,p=numTo idx.data.toList 1099511627776 a3:=⟨_,rfl⟩
   have n4:=numTo_le (T:=idx.data.toList) (most:=1099511627776) (a:=a3) (by rw [hlen];exact n3.1)
   have n4':=S.numTo_mono (T:=idx.data.toList) (most:=1099511627776) (a:=a3) (by rw [hlen];exact n3.1)
   rw [←h4,hlen] at n4
   rw [←h4] at n4'
   simp only at n1 n2 n2' n3 n3' n4 n4'
   obtain ⟨f',rfl⟩:∃ f',f=f'+1:=⟨f-1,by omega⟩
   obtain ⟨x,hx⟩:∃ x,at_+v1=x:=⟨_,rfl⟩
   have HR2:Hid (res=S.entsTo idx.data.toList bl.size f' a4 x (fl || S.entBad idx.data.toList bl.size a) (l++[⟨at_,x,⟨t.toArray⟩,st⟩])):=by
    have hr:=hR.out
    unfold S.entsTo at hr
    rw [if_pos (by omega)] at hr
    have e:S.entTo idx.data.toList bl.size a at_=(⟨at_,x,⟨t.toArray⟩,st⟩,a4):=by
     unfold S.entTo
     simp only [←h1,←h2,←h3,←h4,hx]
    rw [e] at hr
    exact hr
   have HB:Hid (S.entBad idx.data.toList bl.size a=(numBad idx.data.toList bl.size a || (numBad idx.data.toList 64 a1 || (bytBad idx.data.toList m a2 || numBad idx.data.toList 1099511627776 a3)))):=by
    unfold S.entBad
    simp only [←h1,←h2,←h3]
    exact trivial
   have M1:Hid _:=fun (W:World)=>HN.out a bl.size fl W
   rw [←h1] at M1
   have M2:Hid _:=fun (fl:Bool) (W:World)=>HN.out a1 64 fl W
   rw [←h2] at M2
   have M3:Hid _:=fun (fl:Bool) (W:World)=>HX.out a2 m fl n2.2.2 n2.1 W
   rw [←h3] at M3
   have M4:Hid _:=fun (fl:Bool) (W:World)=>HN.out a3 1099511627776 fl W
   rw [←h4] at M4
   simp only at M1 M2 M3 M4
   have HC1:Hid (wr.cell? ⟨w.heap.size+1,1,none⟩=some (.int .i64 (a:Int))):=hI.rd.c1
   have hxI:(at_:Int)+(v1:Int)=(x:Int):=by omega
   have hxb:x≤1048576*a4:=by omega
   have hsum:a4≤idx.size∧a<a4:=by omega
   have HX2:Hid (x≤1048576*a4∧a4≤idx.size∧a<a4):=⟨hxb,hsum⟩
   have hxw:x≤1152921504606846976:=by omega
   have hvw:v1≤1048576:=by omega
   have haw:at_≤1152921504606846976:=by omega
   generalize (⟨t.toArray⟩:ByteArray)=tx at *
   clear h1 h2 h3 h4 n1 n2 n2' n3 n3' n4 n4' hR hx hxb hsum HN HX HMo HFa
   go_wp2_with fail
   refine (MO.out ()).mono ?_
   rintro e w3 ⟨rfl,q3⟩
   have hI3:=hI.kept q3
   clear hI MO q3
   go_wp2_with fail
   refine (M1.out _ hI3.rd).mono ?_
   rintro e w4 ⟨rfl,hA4,g4⟩
   have hI4:=(hI3.next g4 hA4).kept ((Q.refl w4).alloc #[.int .i64 (at_:Int),.int .i64 (x:Int),.string ⟨#[]⟩,.int .i64 0] 168)
   have hV4:=var4_new w4 (.int .i64 (at_:Int)) (.int .i64 (x:Int)) (.string ⟨#[]⟩) (.int .i64 0) 168
   have hE:Y<w4.heap.size:=(hI3.next g4 hA4).top
   have HNE:Hid ((Value.slice ao l.length cap).ownBlock≠some w4.heap.size):=fun e=>by have:=((hI3.next g4 hA4).own.lt _ e).2;omega
   clear hI3 hA4 g4 M1
   go_wp2_with fail
   refine (M2.out _ _ hI4.rd).mono ?_
   rintro e w5 ⟨rfl,hA5,g5⟩
   have hI5:=hI4.next g5 hA5
   have hV5:=hV4.grown g5 (by simp;omega)
   clear hI4 hV4 hA5 g5 M2
   go_wp2_with fail
   refine (M3.out _ _ hI5.rd).mono ?_
   rintro e w6 ⟨rfl,hA6,g6⟩
   have hI6:=(hI5.next g6 hA6).aside (set_grown w6 w4.heap.size 2 (.string tx)) hE HNE.out
   have hV6:=hV5.grown g6 (by simp;omega)
   have k6:=hV6.c2
   have j6:=hV6.fr 2
   have hV6':=hV6.set2 (.string tx)
   clear hI5 hV5 hA6 g6 M3 hV6
   go_wp2_with fail
   refine (M4.out _ _ hI6.rd).mono ?_
   rintro e w7 ⟨rfl,hA7,g7⟩
   have hI7:=(hI6.next g7 hA7).aside (set_grown w7 w4.heap.size 3 (.int .i64 (st:Int))) hE HNE.out
   have hV7:=hV6'.grown g7 (by simp;omega)
   have k7:=hV7.c3
   have j7:=hV7.fr 3
   have hV7':=hV7.set3 (.int .i64 (st:Int))
   clear hI6 hV6' hA7 g7 M4 hV7 k6 j6
   have c0:=hV7'.c0
   have c1:=hV7'.c1
   have c2:=hV7'.c2
   have c3:=hV7'.c3
   have y2:=hI7.c2
   have z2:=hI7.f2
   have hown:=hI7.own.alloc (.cells #[.int .i64 (at_:Int),.int .i64 (x:Int),.string tx,.int .i64 (st:Int)] 168)
   have hY7:=hI7.top
   go_wp2_with (at_builtin;refine wpList_append_own _ rfl (.tmp 36) (.tmp 38) 122 rfl (Y+1) 168 i0 (.agg #[.int .i64 0,.int .i64 0,.string ⟨#[]⟩,.int .i64 0]) 4 40 Tryz.underlying122 hif hz0 hz1 hz2 rfl (by decide) _ _ _ rfl hown ⟨w7.heap.size,0,none⟩ 1 1 (S.Ent.cells ⟨at_,x,tx,st⟩) rfl rfl ?c1 ?c2 ?c3 ?c4 ?c5 ?_)
   case c1=>have:=ent_cells_at (w7.setCell ⟨w4.heap.size,3,none⟩ (.int .i64 (st:Int))) ⟨at_,x,tx,st⟩ 168;simpa using this
   case c2=>exact ent_cells_one _
   case c3=>unfold maxLen;omega
   case c4=>omega
   case c5=>simp at hY7 ⊢;omega
   intro v' w' hown' hgrow _
   obtain ⟨ao3,cap3,hv⟩:=own_form hown'
   rw [hv] at hown'
   rw [hv]
   have hI7a:=hI7.kept ((Q.refl _).alloc #[.int .i64 (at_:Int),.int .i64 (x:Int),.string tx,.int .i64 (st:Int)] 168)
   have hI8:=hI7a.push hgrow hown'
   have hYb:=hgrow.block Y hI7a.top (fun e=>by have:=(hI7a.own.lt Y e.symm).1;omega)
   have y8:=(World.cell?_of_block (a:=⟨Y,2,none⟩) hYb).trans hI7a.c2
   have z8:=(World.frozen?_of_block (a:=⟨Y,2,none⟩) hYb).trans hI7a.f2
   have hV8:=((hV7'.grown (grown_of_q ((Q.refl _).alloc #[.int .i64 (at_:Int),.int .i64 (x:Int),.string tx,.int .i64 (st:Int)] 168) none) (by simp)).grown hgrow HNE.out).grown (set_grown w' Y 2 (.slice ao3 (l.length+1) cap3)) (by simp;omega)
   have c8:=hV8.c1
   clear hI7 hI7a hgrow hown' hown hYb hV7' hV8 c0 c1 c2 c3 y2 z2 k7 j7 hv HE
   go_wp2_with fail
   go_roundw
   case rel =>
    refine ⟨a4,x,f',_,_,ao3,cap3,rfl,HX2.out.2.1,HX2.out.1,by have:=HX2.out;omega,by simp;have:=HX2.out;omega,?_,HR2⟩
    rw [HB.out]
    simpa [Bool.or_assoc] using hI8
   case measure =>
    have r8:=hI8.rd.c1
    simp only [r8,HC1.out,intOf,Int.toNat_natCast]
    have:=HX2.out
    omega
  ·have hd:decide (a<idx.size)=false:=by simpa using hlt
   rw [hd] at MO
   have FA:Hid _:=fun (W:World) (h:RdAt W (w.heap.size+1) idx a fl)=>HFa.out a fl W h
   have HR2:Hid (res=(l,at_,fl)):=by
    have hr:=hR.out
    cases f with
    | zero=>exact hr
    | succ f =>
     unfold S.entsTo at hr
     rw [if_neg (by omega)] at hr
     exact hr
   rw [HR2.out] at HE
   clear hR HR2 HN HX HMo HFa
   go_wp2_with fail
   refine (MO.out ()).mono ?_
   rintro e w3 ⟨rfl,q3⟩
   have hI3:=hI.kept q3
   clear hI MO q3
   go_wp2_with fail
   refine (FA.out _ hI3.rd).mono ?_
   rintro e w4 ⟨rfl,hw4⟩
   subst hw4
   have b0:=hI3.ans.1.cell 0 rfl
   have b1:=hI3.ans.1.cell 1 rfl
   have b2:=hI3.ans.1.cell 2 rfl
   have d0:=hI3.ans.1.free 0 rfl
   have d1:=hI3.ans.1.free 1 rfl
   have d2:=hI3.ans.1.free 2 rfl
   have y0:=hI3.c0
   have y1:=hI3.c1
   have y2:=hI3.c2
   cases hfl:fl with
   | true =>
    rw [hfl] at HE
    have HE2:Hid (S.readIdx bl.data.toList idx.data.toList=none):=by
     have:=HE.out
     rw [if_pos (Or.inl rfl)] at this
     exact this
    clear HE
    have HE:Hid _:=HE2.out
    subst hfl
    have hset:=((hI3.ans.1.set 0 (.int .i64 0)).set 1 (.string ⟨#[]⟩)).set 2 (.slice none 0 0)
    have k0:=hset.cell 0 rfl
    have k1:=hset.cell 1 rfl
    have k2:=hset.cell 2 rfl
    have hq:Q w (((w4.setCell ⟨w.heap.size,0,none⟩ (.int .i64 0)).setCell ⟨w.heap.size,1,none⟩ (.string ⟨#[]⟩)).setCell ⟨w.heap.size,2,none⟩ (.slice none 0 0)):=⟨((hI3.below.setCell (Nat.le_refl _) _).setCell (Nat.le_refl _) _).setCell (Nat.le_refl _) _⟩
    clear hset hI3 FA
    go_wp2_with fail
    refine bodyPost_ret (v:=.tuple #[.agg #[.int .i64 0,.string ⟨#[]⟩,.slice none 0 0],.int .i64 3]) (by simp [results,Tryz.results98,go_sem,k0,k1,k2]) rfl ?_
    exact ⟨by rw [HE.out];exact rfl,hq⟩
   | false =>
    rw [hfl] at HE
    subst hfl
    by_cases hat2:at_=bl.size
    ·have HE2:Hid (S.readIdx bl.data.toList idx.data.toList=some ⟨(v0:Int)-1,bl.data.toList,l⟩):=by
      have:=HE.out
      rw [if_neg (by simp [hat2])] at this
      exact this
     have hne:((at_:Int) == (bl.size:Int))=true:=by simp [hat2]
     have hatI:(at_:Int)=(bl.size:Int):=by omega
     clear HE
     have HLo:Hid (∀ a,ao=some a→w.heap.size≤a.block):=fun a ha=>by
      have h0:=own_low hI3.own a ha
      omega
     have hset:=((hI3.ans.1.set 0 (.int .i64 ((v0:Int)-1))).set 1 (.string bl)).set 2 (.slice ao l.length cap)
     have k0:=hset.cell 0 rfl
     have k1:=hset.cell 1 rfl
     have k2:=hset.cell 2 rfl
     have hfin:EntsAt (((w4.setCell ⟨w.heap.size,0,none⟩ (.int .i64 ((v0:Int)-1))).setCell ⟨w.heap.size,1,none⟩ (.string bl)).setCell ⟨w.heap.size,2,none⟩ (.slice ao l.length cap)) ao l:=by
      refine own_ents (row_keep' hI3.own (fun g hg=>?_))
      have hg1:=(hI3.own.lt g hg).1
      rw [heap_setCell_other _ ⟨w.heap.size,2,none⟩ g _ (by simp;omega),heap_setCell_other _ ⟨w.heap.size,1,none⟩ g _ (by simp;omega),heap_setCell_other _ ⟨w.heap.size,0,none⟩ g _ (by simp;omega)]
     have hq:Q w (((w4.setCell ⟨w.heap.size,0,none⟩ (.int .i64 ((v0:Int)-1))).setCell ⟨w.heap.size,1,none⟩ (.string bl)).setCell ⟨w.heap.size,2,none⟩ (.slice ao l.length cap)):=⟨((hI3.below.setCell (Nat.le_refl _) _).setCell (Nat.le_refl _) _).setCell (Nat.le_refl _) _⟩
     clear hset hI3 FA
     go_wp2_with fail
     refine bodyPost_ret (v:=.tuple #[.agg #[.int .i64 ((v0:Int)-1),.string bl,.slice ao l.length cap],.int .i64 0]) (by simp [results,Tryz.results98,go_sem,k0,k1,k2]) rfl ?_
     refine ⟨?_,hq⟩
     rw [HE2.out]
     exact ⟨ao,cap,rfl,hfin,HLo.out⟩
    ·have HE2:Hid (S.readIdx bl.data.toList idx.data.toList=none):=by
      have:=HE.out
      rw [if_pos (Or.inr hat2)] at this
      exact this
     have hne:((at_:Int) == (bl.size:Int))=false:=by rw [beq_eq_false_iff_ne];omega
     have hatI:¬(at_:Int)=(bl.size:Int):=by omega
     clear HE
     have HE:Hid _:=HE2.out
     have hset:=((hI3.ans.1.set 0 (.int .i64 0)).set 1 (.string ⟨#[]⟩)).set 2 (.slice none 0 0)
     have k0:=hset.cell 0 rfl
     have k1:=hset.cell 1 rfl
     have k2:=hset.cell 2 rfl
     have hq:Q w (((w4.setCell ⟨w.heap.size,0,none⟩ (.int .i64 0)).setCell ⟨w.heap.size,1,none⟩ (.string ⟨#[]⟩)).setCell ⟨w.heap.size,2,none⟩ (.slice none 0 0)):=⟨((hI3.below.setCell (Nat.le_refl _) _).setCell (Nat.le_refl _) _).setCell (Nat.le_refl _) _⟩
     clear hset hI3 FA
     go_wp2_with fail
     refine bodyPost_ret (v:=.tuple #[.agg #[.int .i64 0,.string ⟨#[]⟩,.slice none 0 0],.int .i64 3]) (by simp [results,Tryz.results98,go_sem,k0,k1,k2]) rfl ?_
     exact ⟨by rw [HE.out];exact rfl,hq⟩
end Go.Proofs.YtekdenkllipehabGreatDoor
