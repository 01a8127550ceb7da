import Derived.Test.YtekdenkllipehaaGreatDoorP09
import Derived.Test.YtekdenkllipehaaGreatDoorProg
import Derived.Lib.Slices
import Derived.Lib.Small
import Derived.Lib.Walk
import Derived.Lib.BitFns
set_option maxRecDepth 99999
set_option maxHeartbeats 0
namespace Go.Proofs.YtekdenkllipehaaGreatDoor
open Go.RowKit
variable{B:Nat}{C L:List Rec}{ao:Option Addr}{u x y z:Value}{w w' w0 wr:World}
def Rec.cells(r:Rec):List Value:=[sT r.key,iT r.stamp,iT r.kind,sT r.body]
def AY(rs:List Rec):List Value:=rs.flatMap Rec.cells
theorem CV(A B:List Rec):AY (A++B)=AY A++AY B:=by simp[AY]
theorem D7(r:Rec):AY [r]=r.cells:=by simp[AY]
theorem D8(L:List Rec):(AY L).length=L.length*4:=by
 induction L with
 |nil=>rfl
 |cons s L ih=>show(s.cells++AY L).length=_;rw[zLL,ih];simp[Rec.cells];omega
theorem Nb:∀{L:List Rec}{k:Nat}{r:Rec},L[k]?=some r->(AY L)[k*4]?=some (sT r.key)/\(AY L)[k*4+1]?=some (iT r.stamp)/\(AY L)[k*4+2]?=some (iT r.kind)/\(AY L)[k*4+3]?=some (sT r.body)
 |[],_,_,h=>by simp at h
 |t::L,0,r,h=>by
  simp at h;subst h;exact⟨rfl,rfl,rfl,rfl⟩
 |t::L,k+1,r,h=>by
  have e:AY (t::L)=sT t.key::iT t.stamp::iT t.kind::sT t.body::AY L:=rfl;have ih:=Nb (L:=L) (k:=k) (r:=r) (by simpa using h);rw[e,show(k+1)*4=k*4+1+1+1+1 by omega];simpa using ih
theorem JI.of_cells{g o:Nat}(h:∀j u,(AY L)[j]?=some u->w.cell? (aD g (o+j))=some u):JI w g o L:=fun k r hr=>by
 obtain⟨h0,h1,h2,h3⟩:=Nb hr;exact⟨h _ _ h0,h _ _ h1,h _ _ h2,h _ _ h3⟩
theorem Fy(w:World)(r:Rec)(t:TypeId):∀j u,r.cells[j]?=some u->(w.alloc (.cells #[sT r.key,iT r.stamp,iT r.kind,sT r.body] t)).cell? (((aD w.heap.size 0):Addr).add j)=some u:=by
 intro j u hj
 match j,hj with
 |0,hj=>simp[Rec.cells]at hj;subst hj;simp[Addr.add]
 |1,hj=>simp[Rec.cells]at hj;subst hj;simp[Addr.add]
 |2,hj=>simp[Rec.cells]at hj;subst hj;simp[Addr.add]
 |3,hj=>simp[Rec.cells]at hj;subst hj;simp[Addr.add]
 |j+4,hj=>simp[Rec.cells]at hj
theorem EI(r:Rec):∀u∈r.cells,u.oneCell'=true:=by
 intro u hu;simp[Rec.cells]at hu;rcases hu with rfl|rfl|rfl|rfl<;>rfl
structure vC(w0:World)(L:List Rec)(ao:Option Addr)(cap:Nat)(wr:World):Prop where
 below:Below w0.heap.size w0 wr
 own:wr.ownsRow w0.heap.size 119 4 (.slice ao L.length cap) L.length (AY L)
theorem vC.start(w0:World):vC w0 [] none 0 w0:=⟨Below.refl _ _,World.ownsRow_nil _ _ _ _⟩
theorem vC.kept{wr':World}{cap:Nat}(h:vC w0 C ao cap wr)(q:Q wr wr'):vC w0 C ao cap wr':=
 ⟨h.below.trans (q.below.mono h.below.size),own_below h.own q.below⟩
theorem vC.push{r:Rec}{Dj:Option Addr}{cap cap':Nat}(h:vC w0 C ao cap wr)(hg:wr.grownBy w' (Value.slice ao C.length cap).ownBlock)(ho:w'.ownsRow w0.heap.size 119 4 (.slice Dj (C.length+1) cap') (C.length+1) (AY C++r.cells)):
  vC w0 (C++[r]) Dj cap' w':=by
 refine⟨h.below.grown hg h.below.size (Dx h.own),?_⟩;rw[CV,D7,zLL];exact ho
theorem Lj{base:Nat}{cap:Nat}(h:w.ownsRow base 119 4 (.slice ao L.length cap) L.length (AY L))(hne:L≠[]):∃g,ao=some (aD g 0)/\g<w.heap.size/\JI w g 0 L:=by
 have hl:=D8 L;have hL:L.length≠0:=fun e=>hne (zLN e);rcases h.2 with⟨_,h0⟩|⟨g,c,cur,hv,hg,hh,_⟩
 .exact absurd h0 hL
 .injection hv with e1 _ e3;subst e1 e3;have hlt:g<w.heap.size:=by
   rcases zLn g w.heap.size with hl|hl
   .exact hl
   .rw[zM4 hl]at hh;simp at hh
  refine⟨g,rfl,hlt,JI.of_cells fun j u hu=>?_⟩;have hj:j<(AY L).length:=(zLI.1 hu).1;rw[zLk,h.cellAt j (by omega)];exact hu
structure fI(w:World)(B:Nat)(x y z u:Value):Prop where
 c0:w.cell? (aD B 0)=some x
 c1:w.cell? (aD B 1)=some y
 c2:w.cell? (aD B 2)=some z
 c3:w.cell? (aD B 3)=some u
 fr:∀j,w.frozen? (aD B j)=false
theorem Zq{p:Addr}{v:Value}(h:w.cell? p=some v):p.block<w.heap.size:=by
 rcases zLn p.block w.heap.size with hl|hl
 .exact hl
 .unfold World.cell? at h;rw[zM4 hl]at h;simp at h
theorem fI.grown{row:Option Nat}(h:fI w B x y z u)(hg:w.grownBy w' row)(hne:row≠some B):fI w' B x y z u:=by
 have hb:w'.heap[B]?=w.heap[B]?:=hg.block B (Zq h.c0) (fun e=>hne e.symm);exact⟨(zMI (a:=(aD B 0)) hb).trans h.c0,(zMI (a:=(aD B 1)) hb).trans h.c1,(zMI (a:=(aD B 2)) hb).trans h.c2,(zMI (a:=(aD B 3)) hb).trans h.c3,fun j=>(zML (a:=(aD B j)) hb).trans (h.fr j)⟩
theorem Yz(w:World)(x y z u:Value)(t:TypeId):fI (w.alloc (.cells #[x,y,z,u] t)) w.heap.size x y z u:=⟨by simp,by simp,by simp,by simp,fun j=>by simp⟩
theorem fI.set(h:fI w B x y z u)(a b c d:Value):fI ((((w.setCell (aD B 0) a).setCell (aD B 1) b).setCell (aD B 2) c).setCell (aD B 3) d) B a b c d:=by
 have k1:(w.setCell (aD B 0) a).cell? (aD B 1)=some y:=by rw[zMH _ _ _ _ (by simp)];exact h.c1
 have k2:((w.setCell (aD B 0) a).setCell (aD B 1) b).cell? (aD B 2)=some z:=by rw[zMH _ _ _ _ (by simp),zMH _ _ _ _ (by simp)];exact h.c2
 have k3:(((w.setCell (aD B 0) a).setCell (aD B 1) b).setCell (aD B 2) c).cell? (aD B 3)=some u:=by rw[zMH _ _ _ _ (by simp),zMH _ _ _ _ (by simp),zMH _ _ _ _ (by simp)];exact h.c3
 refine⟨?_,?_,?_,zMJ _ _ _ k3,fun j=>by simp only[zMK];exact h.fr j⟩
 .rw[zMH _ _ _ _ (by simp),zMH _ _ _ _ (by simp),zMH _ _ _ _ (by simp)];exact zMJ _ _ _ h.c0
 .rw[zMH _ _ _ _ (by simp),zMH _ _ _ _ (by simp)];exact zMJ _ _ _ k1
 .rw[zMH _ _ _ _ (by simp)];exact zMJ _ _ _ k2
theorem Ld(w:World)(R o:Nat)(v:Value):w.grownBy (w.setCell (aD R o) v) (some R):=F5 (Ep (Q.refl w) _) v
theorem fI.set2(h:fI w B x y z u)(b:Value):fI (w.setCell (aD B 2) b) B x y b u:=
 ⟨by rw[zMH _ _ _ _ (by simp)];exact h.c0,by rw[zMH _ _ _ _ (by simp)];exact h.c1,zMJ _ _ _ h.c2,by rw[zMH _ _ _ _ (by simp)];exact h.c3,fun j=>by rw[zMK];exact h.fr j⟩
theorem fI.vW(h:fI w B x y z u)(b:Value):fI (w.setCell (aD B 3) b) B x y z b:=
 ⟨by rw[zMH _ _ _ _ (by simp)];exact h.c0,by rw[zMH _ _ _ _ (by simp)];exact h.c1,by rw[zMH _ _ _ _ (by simp)];exact h.c2,zMJ _ _ _ h.c3,fun j=>by rw[zMK];exact h.fr j⟩
theorem ai(w:World)(R:Nat)(a b c d:Value):w.grownBy ((((w.setCell (aD R 0) a).setCell (aD R 1) b).setCell (aD R 2) c).setCell (aD R 3) d) (some R):=
 F5 (F5 (F5 (Ld w R 0 a) b) c) d
theorem dH:(Tryz.prog.info? 119).map (fun i=>(i.zero,i.size,i.bytes))=some (some (.agg #[eS,iT 0,iT 0,eS]),4,48):=by kernel_rfl
def Oc(o:Option (List UInt8)):Ending:=
 match o with
 |none=>.returned (.tuple #[eS,iT 6])
 |some t=>.returned (.tuple #[sT ⟨(M.sealed t).toArray⟩,iT 0])
def Parsed(T:BA)(w:World)(e:Ending)(w':World):Prop:=
 (∃(l:List Rec)(ao:Option Addr)(cap base:Nat),e=.returned (.tuple #[.slice ao l.length cap,iT 0])/\Ad l=some T.data.toList/\w.heap.size<=base/\w'.ownsRow base 119 4 (.slice ao l.length cap) l.length (AY l))
 \/ (e=.returned (.tuple #[nS,iT 2])/\∀rs,Ad rs≠some T.data.toList)
def Cc(t:List UInt8):BA:=⟨(M.sealed t).toArray⟩
theorem Ja{a b:List UInt8}(h:Cc a=Cc b):a=b:=by
 have h1:M.sealed a=M.sealed b:=by
  have:=congrArg (fun x:BA=>x.data.toList) h;simpa[Cc]using this
 have hl:a.length=b.length:=by
  have:=congrArg List.length h1;rw[M.Ar,M.Ar]at this;omega
 unfold M.sealed at h1;exact(List.append_inj h1 hl).1
def mZ(s:BA)(w:World)(e:Ending)(w':World):Prop:=
 (s.size<4/\e=.returned (.tuple #[nS,iT 2]))
 \/ (4<=s.size/\(∀t,Cc t≠s)/\e=.returned (.tuple #[nS,iT 3]))
 \/ (∃T:BA,Cc T.data.toList=s/\Parsed T w e w')
theorem Vv:(Lib.len8tab.size:Int)=256:=by decide +kernel
theorem bV:∀i:Fin 256,((Lib.len8tab.data.toList[i.1]?).getD 0).toNat<=8:=by decide +kernel
theorem jZ:∀i:Fin 17,((Lib.len8tab.data.toList[i.1]?).getD 0).toNat<=5:=by decide +kernel
theorem len8_get(i:Nat)(h:i<Lib.len8tab.size):(Lib.len8tab[i]).toNat=((Lib.len8tab.data.toList[i]?).getD 0).toNat:=by
 rw[zLH (by simpa using h)];rfl
def Ug(w:World)(e:Ending)(w':World):Prop:=(∃k:Nat,e=.returned (iT (k:Int))/\k<=13)/\w'=w
theorem ja(x:Int)(w:World)(h0:0<=x)(h1:x<256):Calls Tryz.prog 219 #[.int .u64 x] w (Ug w):=by
 have hs:=Vv;go_in
 go_wp2
 go_ret;have hl:=bV ⟨x.toNat,by omega⟩;rw[<-len8_get x.toNat (by omega)]at hl;refine⟨⟨(Lib.len8tab[x.toNat]).toNat,congrArg Ending.returned (congrArg (Value.int IntKind.i64) ?_),by omega⟩,rfl⟩;unfold wrap64;omega
theorem bW(x:Int)(w:World)(h0:256<=x)(h1:x<=4096):Calls Tryz.prog 219 #[.int .u64 x] w (Ug w):=by
 have hs:=Vv;go_in
 go_wp2
 go_ret;have hl:=jZ ⟨(x/256).toNat,by omega⟩;rw[<-len8_get (x/256).toNat (by omega)]at hl;refine⟨⟨8+(Lib.len8tab[(x/256).toNat]).toNat,congrArg Ending.returned (congrArg (Value.int IntKind.i64) ?_),by omega⟩,rfl⟩;unfold wrap64;omega
theorem Yv(n:Nat)(hn:n<=4096)(w:World):Calls Tryz.prog 215 #[.int .u64 (n:Int)] w (Ug w):=by
 have H:Hid (∀w:World,Calls Tryz.prog 219 #[.int .u64 (n:Int)] w (Ug w)):=fun w=>by
  by_cases h:n<256
  .exact ja n w (by omega) (by omega)
  .exact bW n w (by omega) (by omega)
 go_in;go_wp2_with fail;apply(H.out _).mono;rintro e w1⟨⟨k,rfl,hk⟩,rfl⟩;go_wp2;go_ret;exact⟨⟨k,rfl,hk⟩,rfl⟩
end Go.Proofs.YtekdenkllipehaaGreatDoor
