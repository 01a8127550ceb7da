import Derived.Test.YtekdenkllipehaaGreatDoorP06
import Derived.Test.YtekdenkllipehaaGreatDoorP07
import Derived.Laws.MakeOwn
import Derived.Lib.Strings
import Derived.Deep.RegionLaw
import Derived.Deep.RegionHeld3
import Derived.OrdersHeld
import Derived.KernelRfl
import Derived.Deep.RegionHeld
import Derived.Lib.Hide
set_option maxRecDepth 99999
set_option maxHeartbeats 0
namespace Go.Proofs.YtekdenkllipehaaGreatDoor
open Go.RowKit
variable{N base fuel i n:Nat}{P:Program}{S:World->Prop}{a b:Act}{e:TypeId}{listed:Array Bool}{o oi:Oper}{ops:Array Oper}{v:Value}{w w' wr:World}{xs:List Value}
theorem TG(s:BA)(hs:s.size<=281474976710656)(w:World)(hT:Tab w):
  Calls Tryz.prog 144 #[sT s] w fun e w'=>e=.returned (sT ⟨(M.le4 (M.sum s.data.toList)).toArray⟩)/\Below w.heap.size w w':=by
 have hn:=M.sum_lt s.data.toList;have hcv:=zFW;have hsum:=vR s hs w hT;generalize M.sum s.data.toList=n at*;have HS:Hid _:=hsum;have E:=h_ (M.pu n hn);clear hsum;go_in;go_wp2_with fail;refine Calls.mono HS.out ?_;rintro e w1⟨rfl,rfl⟩;go_wp2;go_ret;exact⟨congrArg (fun x=>Ending.returned (sT ⟨x⟩)) E.out,(Below.refl _ _).alloc (zLK _) _⟩
theorem vP(h:Tab w):0<w.heap.size:=by
 have h0:=h 0 (by omega);rcases zLn 0 w.heap.size with e|e
 .exact e
 .exfalso;unfold World.cell? at h0;rw[zM4 e]at h0;simp at h0
theorem CJ(h:Tab w)(q:Q w w'):Tab w':=fun i hi=>(q.below.cell (p:=(aD 0 i)) (vP h)).trans (h i hi)
theorem infoByte:(Tryz.prog.info? 5).map (fun i=>(i.zero,i.size,i.bytes))=some (some (.int .u8 0),1,1):=by kernel_rfl
structure Fill(N n:Nat)(acc:List UInt8)(wr:World):Prop where
 cell:∀j,j<n->wr.cell? (aD N j)=some (.int .u8 ((acc.getD j 0).toNat:Int))
 frz:∀j,wr.frozen? (aD N j)=false
theorem Fill.step{acc:List UInt8}(h:Fill N n acc wr)(b:UInt8)(v:Int)(hv:v=(b.toNat:Int)):Fill N n (acc++[b]) (wr.setCell (aD N acc.length) (.int .u8 v)):=by
 subst hv;constructor
 .intro j hj;by_cases e:j=acc.length
  .subst e;rw[zMJ wr _ _ (h.cell acc.length hj)];simp
  .rw[zMH wr _ _ _ (by intro hh;injection hh;omega),h.cell j hj];rcases zLn j acc.length with hlt|hge
   .simp[List.getElem?_append_left hlt]
   .have h1:acc[j]?=none:=zMC hge;have h2:(acc++[b])[j]?=none:=zMC (by simp;omega);simp[h1,h2]
 .intro j;rw[zMK];exact h.frz j
theorem Fill.text{cap:Nat}{acc:List UInt8}(h:Fill N n acc wr)(ha:acc.length=n):(convert 89 9 (.slice (some (aD N 0)) n cap)).run Tryz.prog wr=.ok (sT ⟨acc.toArray⟩) wr:=by
 subst ha;exact run_convert_bytes_back (P:=Tryz.prog) wr 89 9 5 (aD N 0) cap acc Tryz.underlying89 Tryz.underlying5 Tryz.underlying9 (fun j hj=>by
  have:=h.cell j hj;simp[List.getElem?_eq_getElem hj]at this;have hp:((aD N 0):Addr).add j=(aD N j):=by unfold Addr.add;split<;>simp_all
  rw[hp];exact this)
theorem JZ{K:Act->World->Prop}{Q:Exit->Act->World->Prop}{E:Prop}(hg:o.guard=none)(s x:Operand)(t:TypeId)(hop:o.op=Op.call { callee:=Callee.builtin Builtin.append,args:=#[s,x],argTypes:=#[t,t]})(base:Nat)(e:TypeId)(i:TypeInfo)(z:Value)(size bytes:Nat)(h1:P.underlying t=some (.slice e))(h2:P.info? e=some i)(h3:i.zero=some z)(h4:i.size=size)(h5:i.bytes=bytes)(h6:z.cells.size=size)(h7:0<size)(v:Value)(n:Nat)(xs:List Value)(hs:a.eval s=v)(hown:w.ownsRow base e size v n xs)(ad:Addr)(m c:Nat)(news:List Value)(hx:a.eval x=.slice (some ad) m c)(hn:news.length=m*size)(hc:∀j u,news[j]?=some u->w.cell? (ad.add j)=some u)(h1c:∀u∈news,u.oneCell'=true)(b1:n+m<=maxLen)(b2:(n+m)*bytes<=140737488355328)(hb:base<=w.heap.size)(hK:∀v' w',w'.ownsRow base e size v' (n+m) (xs++news)->w.grownBy w' v.ownBlock->K (a.put o.dst v') w'):
  if Region.wanted o (yielded ops a.tmps)=true then Oper.wp P o a w K Q else E:=by
 have hw:Region.wanted o (yielded ops a.tmps)=true:=by simp[Region.wanted,hg]
 rw[if_pos hw];obtain⟨v',w',hrun,r1,r2,_⟩:=run_append_own (P:=P) w base t o.type e i z size bytes h1 h2 h3 h4 h5 h6 h7 v n xs hown ad m c news hn hc h1c b1 b2 hb;unfold Oper.wp;simp[execOp,hop,resolve,invoke,builtin,hs,hx,hrun,Result.andThen];exact hK v' w' r1 r2
theorem Ac{size:Nat}(h:w.ownsRow base e size v n xs):∃ao cap,v=.slice ao n cap:=by
 rcases h.2 with⟨rfl,rfl⟩|⟨g,cap,_,rfl,_⟩
 .exact⟨none,0,rfl⟩
 .exact⟨_,_,rfl⟩
theorem own_below{size:Nat}(h:w.ownsRow base e size v n xs)(hb:Below w.heap.size w w'):w'.ownsRow base e size v n xs:=by
 refine⟨h.1,?_⟩;rcases h.2 with h2|⟨g,cap,cur,hv,hg,hh,r⟩
 .exact Or.inl h2
 .have hlt:g<w.heap.size:=by
   rcases zLn g w.heap.size with hl|hl
   .exact hl
   .rw[zM4 hl]at hh;simp at hh
  exact Or.inr ⟨g,cap,cur,hv,hg,by rw[hb.block g hlt];exact hh,r⟩
theorem Dx{size:Nat}(h:w.ownsRow base e size v n xs):∀k,v.ownBlock=some k->base<=k:=fun k hk=>(h.lt k hk).1
theorem ED{row:Option Nat}(h:w.drew.grownBy w' row):w.grownBy w' row:=⟨h.os,h.tape,h.output,h.size,h.block⟩
theorem one_cell(w:World)(v:Value)(t:TypeId):∀j u,[v][j]?=some u->(w.alloc (.cells #[v] t)).cell? (((aD w.heap.size 0):Addr).add j)=some u:=by
 intro j u hj
 match j,hj with
 |0,hj=>simp at hj;subst hj;simp[Addr.add]
theorem wH(n:Int):∀u∈[Value.int .i64 n],u.oneCell'=true:=by
 intro u hu;simp at hu;subst hu;rfl
theorem Cv{size:Nat}{ao:Option Addr}{cap:Nat}(h:w.ownsRow base e size (.slice ao n cap) n xs)(hne:xs≠[]):
  ∃g,ao=some (aD g 0)/\base<=g/\g<w.heap.size/\∀j u,xs[j]?=some u->w.cell? (aD g j)=some u:=by
 rcases h.2 with⟨hv,h0⟩|⟨g,c,cur,hv,hg,hh,_⟩
 .exact absurd (zLN (by have:=h.1;rw[h0]at this;omega)) hne
 .injection hv with e1 _ e3;subst e1 e3;have hlt:g<w.heap.size:=by
   rcases zLn g w.heap.size with hl|hl
   .exact hl
   .rw[zM4 hl]at hh;simp at hh
  refine⟨g,rfl,hg,hlt,fun j u hu=>?_⟩;have hj:j<xs.length:=(zLI.1 hu).1;rw[h.cellAt j (by have:=h.1;omega)];exact hu
def AX(P:List BA):List Value:=P.map Value.string
theorem R6{w1:World}{row:Option Nat}(h:w.drew.grownBy w1 row):w.grownBy w1 row:=⟨h.os,h.tape,h.output,h.size,h.block⟩
theorem Ep(q:Q w w')(row:Option Nat):w.grownBy w' row:=⟨q.below.os,q.below.tape,q.below.output,q.below.size,fun k hk _=>q.below.block k hk⟩
theorem F5{C o:Nat}(h:w.grownBy w' (some C))(v:Value):w.grownBy (w'.setCell (aD C o) v) (some C):=by
 refine⟨h.os,h.tape,h.output,by simpa using h.size,fun k hk hne=>?_⟩;exact(Below.heap_setCell _ _ _ _ (fun e=>hne (by simp[e]))).trans (h.block k hk hne)
theorem Im{size:Nat}(h:w.ownsRow base e size v n xs):∀g,v.ownBlock=some g->∃c,w.heap[g]?=some (.cells c e (0,0)):=fun g hg=>by
 rcases h.2 with⟨rfl,_⟩|⟨g',cap,cur,rfl,_,hh,_⟩
 .simp[Value.ownBlock]at hg
 .simp only[Value.ownBlock,zLO]at hg;subst hg;exact⟨cur,hh⟩
theorem tk3{md:Region.Mode}{Q:Exit->Act->World->Prop}(hi:ops[i]?=some oi)(hy:YieldsIf P ops S oi v a)(hS:S w)(h:wpAnyH P md ops Q S fuel (listed.setIfInBounds i true) (a.put oi.dst v) w)(hs:Region.noSelect ops=true:=by kernel_rfl)(hf:Region.free md ops listed i=true:=by kernel_rfl)(hr:(Region.ready md ops listed).contains i=true:=by kernel_rfl)(hQ:∀c a w,Q (.panic c) (a.put oi.dst v) w->Q (.panic c) a w:=by exact fun _ _ _ h=>h):wpAnyH P md ops Q S (fuel+1) listed a w:=wpAnyH_take hi hs hf hr hQ hy hS h
theorem tk4{md:Region.Mode}{Q:Exit->Act->World->Prop}(hi:ops[i]?=some oi)(hS:S w)(h:wpAnyH P md ops Q S fuel (listed.setIfInBounds i true) (a.put oi.dst v) w)(hy:YieldsIf P ops S oi v a:=by exact Or.inl ⟨by kernel_rfl,by intro w hSw;(try dsimp only at hSw);go_simp;try with_reducible rfl⟩)(hs:Region.noSelect ops=true:=by kernel_rfl)(hf:Region.free md ops listed i=true:=by kernel_rfl)(hr:(Region.ready md ops listed).contains i=true:=by kernel_rfl)(hQ:∀c a w,Q (.panic c) (a.put oi.dst v) w->Q (.panic c) a w:=by exact fun _ _ _ h=>h):wpAnyH P md ops Q S (fuel+1) listed a w:=wpAnyH_take hi hs hf hr hQ hy hS h
theorem q4(i:Nat){md:Region.Mode}{Q:Exit->Act->World->Prop}(h:wpAnyH P md ops Q S fuel (listed.setIfInBounds i true) b w)(hi:ops[i]?=some oi:=by rfl)(hy:YieldsIf P ops S oi v a:=by exact Or.inl ⟨by kernel_rfl,by intro w hSw;(try dsimp only at hSw);go_simp;try with_reducible rfl⟩)(hb:a.put oi.dst v=b:=by(try simp only[Act.put,nrm]);rfl)(hS:S w:=by assumption)(hs:Region.noSelect ops=true:=by kernel_rfl)(hf:Region.free md ops listed i=true:=by kernel_rfl)(hr:(Region.ready md ops listed).contains i=true:=by kernel_rfl)(hQ:∀c a w,Q (.panic c) (a.put oi.dst v) w->Q (.panic c) a w:=by exact fun _ _ _ h=>h):wpAnyH P md ops Q S (fuel+1) listed a w:=wpAnyH_take hi hs hf hr hQ hy hS (hb▸h)
theorem tk5{md:Region.Mode}{Q:Exit->Act->World->Prop}(hi:ops[i]?=some oi)(hS:S w)(h:wpAnyH P md ops Q S fuel (listed.setIfInBounds i true) (a.put oi.dst undef) w)(hy:YieldsIf P ops S oi undef a:=by exact Or.inr ⟨by kernel_rfl,rfl⟩)(hs:Region.noSelect ops=true:=by kernel_rfl)(hf:Region.free md ops listed i=true:=by kernel_rfl)(hr:(Region.ready md ops listed).contains i=true:=by kernel_rfl)(hQ:∀c a w,Q (.panic c) (a.put oi.dst undef) w->Q (.panic c) a w:=by exact fun _ _ _ h=>h):wpAnyH P md ops Q S (fuel+1) listed a w:=wpAnyH_take hi hs hf hr hQ hy hS h
theorem q5(i:Nat){md:Region.Mode}{Q:Exit->Act->World->Prop}(h:wpAnyH P md ops Q S fuel (listed.setIfInBounds i true) b w)(hi:ops[i]?=some oi:=by rfl)(hy:YieldsIf P ops S oi undef a:=by exact Or.inr ⟨by kernel_rfl,rfl⟩)(hb:a.put oi.dst undef=b:=by(try simp only[Act.put,nrm]);rfl)(hS:S w:=by assumption)(hs:Region.noSelect ops=true:=by kernel_rfl)(hf:Region.free md ops listed i=true:=by kernel_rfl)(hr:(Region.ready md ops listed).contains i=true:=by kernel_rfl)(hQ:∀c a w,Q (.panic c) (a.put oi.dst undef) w->Q (.panic c) a w:=by exact fun _ _ _ h=>h):wpAnyH P md ops Q S (fuel+1) listed a w:=wpAnyH_take hi hs hf hr hQ hy hS (hb▸h)
theorem rd1{md:Region.Mode}{Q:Exit->Act->World->Prop}(i:Nat)(h:∀K:Act->World->Prop,Shut (∀a w,S w->(S w->wpAnyH P md ops Q S fuel (listed.setIfInBounds i true) a w)->K a w)->if Region.wanted o (yielded ops a.tmps)=true then Oper.wp P o a w K Q else K (a.put o.dst undef) w)(ho:ops[i]?=some o:=by rfl)(hr:Region.ready md ops listed=[i]:=by kernel_rfl):wpAnyH P md ops Q S (fuel+1) listed a w:=wpAnyH_ready hr (by simp) (AllReadyH.cons ho h AllReadyH.nil)
theorem LU{P:Program}{md:Region.Mode}{ops:Array Oper}{Q:Exit->Act->World->Prop}{S S':World->Prop}(hs:∀w,S' w->S w):
  ∀{fuel:Nat}{listed:Array Bool}{a:Act}{w:World},wpAnyH P md ops Q S' fuel listed a w->wpAnyH P md ops Q S fuel listed a w
 |0,_,_,_,h=>h
 |_+1,_,_,_,h=>⟨h.1,fun i hi=>wpOp_mono (fun _ w' h'=>⟨hs w' h'.1,LU hs h'.2⟩) (h.2 i hi)⟩
theorem AA{p:Addr}(h:w.cell? p=some v)(q:Q w w'):w'.cell? p=some v:=by
 have hlt:p.block<w.heap.size:=by
  rcases zLn p.block w.heap.size with hl|hl
  .exact hl
  .unfold World.cell? at h;rw[zM4 hl]at h;simp at h
 exact(q.below.cell hlt).trans h
structure Laid(N:Nat)(acc:List UInt8)(wr:World):Prop where
 cell:∀j,j<8->wr.cell? (aD N j)=some (.int .u8 ((acc.getD j 0).toNat:Int))
 frz:∀j,wr.frozen? (aD N j)=false
theorem Laid.start(w:World):Laid w.heap.size [] (w.alloc (.cells #[.int .u8 0,.int .u8 0,.int .u8 0,.int .u8 0,.int .u8 0,.int .u8 0,.int .u8 0,.int .u8 0] 251)):=by
 constructor
 .intro j hj
  match j,hj with
  |0,_=>simp
  |1,_=>simp
  |2,_=>simp
  |3,_=>simp
  |4,_=>simp
  |5,_=>simp
  |6,_=>simp
  |7,_=>simp
 .intro j;simp
theorem Laid.step{acc:List UInt8}(h:Laid N acc wr)(b:UInt8)(v:Int)(hv:v=(b.toNat:Int)):Laid N (acc++[b]) (wr.setCell (aD N acc.length) (.int .u8 v)):=by
 subst hv;constructor
 .intro j hj;by_cases e:j=acc.length
  .subst e;rw[zMJ wr _ _ (h.cell acc.length (by omega))];simp
  .rw[zMH wr _ _ _ (by intro hh;injection hh;omega),h.cell j hj];rcases zLn j acc.length with hlt|hge
   .simp[List.getElem?_append_left hlt]
   .have h1:acc[j]?=none:=zMC hge;have h2:(acc++[b])[j]?=none:=zMC (by simp;omega);simp[h1,h2]
 .intro j;rw[zMK];exact h.frz j
theorem zAC(N k:Nat)(hk:k<=7)(W:World):(Instr.sliceAt 251 (pT N) none (some (iT ((k:Int)+1))) none).run Tryz.prog W=.ok (.slice (some (aD N 0)) (k+1) 8) W:=by
 have hz:Tryz.prog.arrayLen 251=8:=by kernel_rfl
 have hs:(Go.sizeOf (Tryz.prog.elem 251)).run Tryz.prog W=.ok 1 W:=by kernel_rfl
 rw[run_sliceAt_array_h W 251 (aD N 0) (by kernel_rfl) .i64 ((k:Int)+1) (by omega) (by rw[hz];omega),hs];simp[Result.andThen,slicedAt,hz,Addr.add]
theorem Laid.text{acc:List UInt8}(h:Laid N acc wr)(ha:acc.length<=8):(convert 89 9 (.slice (some (aD N 0)) acc.length 8)).run Tryz.prog wr=.ok (sT ⟨acc.toArray⟩) wr:=
 run_convert_bytes_back (P:=Tryz.prog) wr 89 9 5 (aD N 0) 8 acc Tryz.underlying89 Tryz.underlying5 Tryz.underlying9 (fun j hj=>by
  have:=h.cell j (by omega);simp[List.getElem?_eq_getElem hj]at this;have hp:((aD N 0):Addr).add j=(aD N j):=by unfold Addr.add;split<;>simp_all
  rw[hp];exact this)
theorem vz(n:Nat)(hn:n<72057594037927936)(w:World):
  Calls Tryz.prog 177 #[iT n] w fun e w'=>e=.returned (.tuple #[sT ⟨(M.enc 7 n).toArray⟩,iT 0])/\Q w w':=by
 have hs:=M.rest_start n hn;generalize M.enc 7 n=l at*;go_in
 go_wp2
 go_loopw [0,5] (fun x i wr=>∃f m:Nat,∃acc:List UInt8,M.Rest l f m acc/\x=iT m/\i=iT acc.length/\Laid w.heap.size acc wr/\Q w wr) (fun x _ _=>(intOf x).toNat)
 case atStart=>exact⟨7,n,[],hs,rfl,rfl,Laid.start w,(Q.refl w).alloc _ _⟩
 case round =>
  obtain⟨f,m,acc,hr,rfl,rfl,hL,hq⟩:=hrel;have hm:=M.vX hr;have hl:=M.oN hr;have hc:=hL.cell acc.length (by omega);simp only[List.getD,zMC (zLK _),Option.getD_none]at hc;have hf:=hL.frz acc.length;by_cases hlt:m<128
  .have hL2:=hL.step (UInt8.ofNat m) m (by simp;omega);have hsl:=zAC w.heap.size acc.length hl;have hcv:=hL2.text (by simp;omega);simp only[zLL,List.length_singleton]at hcv;rw[M.ay hr hlt]at hcv
   go_wp2
   go_ret2
   exact⟨rfl,hq.setCell (zLK _) _⟩
  .have hb1:=i64_and127 m (by omega) (by omega);have hb2:=aJ ((m:Int)%128) (by omega) (by omega);obtain⟨g,HG⟩:∃g,Hid (M.Rest l g (m/128) (acc++[UInt8.ofNat (m%128+128)])):=by obtain⟨g,_,h⟩:=M.oO hr hlt;exact⟨g,h⟩
   ((((have hL2:=hL.step (UInt8.ofNat (m%128+128)) ((m:Int)%128+128) (by simp;omega));go_wp2);go_roundw);case rel=>exact⟨g,m/128,_,HG.out,by go_num,by simp,hL2,hq.setCell (zLK _) _⟩);case measure=>simp[intOf];omega
theorem yB(s:BA)(a:Int)(hs:s.size<=maxLen)(ha:a<0\/(s.size:Int)<=a)(w:World):
  Calls Tryz.prog 111 #[sT s,iT a] w fun e w'=>e=.returned (.tuple #[iT 0,iT 0,iT 2])/\w'=w:=by
 unfold maxLen at hs;rcases ha with ha|ha
 .go_in
  go_wp2
  go_ret3
  exact⟨rfl,rfl⟩
 .have h0:¬a<0:=by omega
  go_in
  go_wp2
  go_ret3
  exact⟨rfl,rfl⟩
theorem ul(s:BA)(a:Nat)(hs:s.size<=maxLen)(ha:a<s.size)(w:World):
  Calls Tryz.prog 111 #[sT s,iT a] w fun e w'=>e=told (M.rd 8 [] (s.data.toList.drop a)) a/\w'=w:=by
 unfold maxLen at hs;have hD:(s.data.toList.drop a).length=s.size-a:=by simp
 have hB:=zBt s a;generalize s.data.toList.drop a=D at*;have HD:=h_ hD;have HB:=h_ hB;clear hD hB;go_in
 go_wp2
 all_goals
  go_loop [7,23] (fun n i=>∃k:Nat,M.Far D k/\i=iT k/\n=iT (M.val (D.take k))) (fun _ i=>8-(intOf i).toNat)
  case atStart=>exact⟨0,M.rW D,rfl,rfl⟩
  case round =>
   (obtain⟨k,hF,rfl,rfl⟩:=hrel;have hk8:k<=8:=hF.1;have hkl:k<=s.size-a:=by have:=hF.2.1;rw[HD.out]at this;exact this);by_cases hk:k<8/\a+k<s.size
   ·(obtain⟨h3,h4⟩:=hk;have hv:=M.KO hF.2.1 hk8);go_wp2
    .go_round
     case rel =>
      (have g1:(128:Int)<=(s[a+k].toNat:Int):=by assumption);exact⟨k+1,M.rX hF h3 (HB.out k h4) (Int.ofNat_le.1 g1),by go_num,congrArg (Value.int .i64) (Xv (HB.out k h4) h3)⟩
     case measure=>simp[intOf];omega
    ·((have g1:s[a+k].toNat=0:=by assumption);have g2:0<k:=by assumption);have E:=told_none (a:=a) (M.zAF hF h3 (HB.out k h4) (UInt8.toNat_inj.1 g1) g2)
     go_ret3
     exact⟨E,rfl⟩
    ·(((have g1:(s[a+k].toNat:Int)<128:=by assumption);have g2:¬0<k:=by assumption);have g0:s[a+k].toNat=0:=by assumption);have E:=Y4 (a:=a) hF h3 (HB.out k h4) (Int.ofNat_lt.1 g1) (Or.inr g2) (Xv (HB.out k h4) h3) rfl;rw[show(s[a+k].toNat:Int)=0 by rw[g0];rfl]at E
     go_ret3
     exact⟨E,rfl⟩
    ·((have g1:(s[a+k].toNat:Int)<128:=by assumption);have g2:¬s[a+k].toNat=0:=by assumption);have E:=Y4 (a:=a) hF h3 (HB.out k h4) (Int.ofNat_lt.1 g1) (Or.inl g2) (Xv (HB.out k h4) h3) rfl
     go_ret3
     exact⟨E,rfl⟩
   ·(have E:=told_none (a:=a) (M.ve hF (by rw[HD.out];omega)));go_wp2
    go_ret3
    exact⟨E,rfl⟩
end Go.Proofs.YtekdenkllipehaaGreatDoor
namespace Go.Proofs.YtekdenkllipehaaGreatDoor
open Go.RowKit
theorem Yi(s:BA)(p n:Nat)(h:p+n<=s.size)(W:World):
  (Instr.slice 9 (sT s) (some (iT (p:Int))) (some (iT ((p:Int)+(n:Int)))) none).run Tryz.prog W=.ok (sT (s.extract p (p+n))) W:=by
 rw[run_slice_string W 9 s .i64 .i64 _ _ Tryz.underlying9 (by omega) (by omega) (by omega)];rw[show((p:Int)+(n:Int)).toNat=p+n by omega,zLp]
theorem J6(n:Nat)(hn:n<72057594037927936)(w:World):
  Calls Tryz.prog 149 #[iT n] w fun e w'=>e=.returned (sT ⟨(M.enc 7 n).toArray⟩)/\Q w w':=by
 have p:=vz n hn;generalize M.enc 7 n=l at*;have P:Hid _:=p;clear p;go_in;go_wp2_with fail;apply(P.out _).mono;rintro e w1⟨rfl,q1⟩;go_wp2;go_ret;exact⟨rfl,q1⟩
theorem GR(n:Int)(hn:0<=n/\n<72057594037927936)(w:World):
  Calls Tryz.prog 149 #[iT n] w fun e w'=>e=.returned (sT ⟨(M.enc 7 n.toNat).toArray⟩)/\Q w w':=by
 have:=J6 n.toNat (by omega) w;rw[Int.toNat_of_nonneg hn.1]at this;exact this
theorem EU(s:BA)(i:Nat)(h:i<s.size)(W:World):
  (Instr.index 9 (sT s) (iT (i:Int))).run Tryz.prog W=.ok (.int .u8 ((s[i]).toNat:Int)) W:=by
 rw[run_index_string W 9 s .i64 (i:Int) Tryz.underlying9];simp[h]
end Go.Proofs.YtekdenkllipehaaGreatDoor
namespace Go.Proofs.YtekdenkllipehaaGreatDoor
open Go.RowKit
theorem get_none(s:BA)(a:Nat)(hs:s.size<=140737488351232)(h:M.Cb s.data.toList a=none)(w:World):
  Calls Tryz.prog 111 #[sT s,iT a] w fun e w'=>e=.returned (.tuple #[iT 0,iT 0,iT 2])/\w'=w:=by
 by_cases ha:a<s.size
 .unfold M.Cb at h;rw[if_pos (by simpa using ha)]at h;have h1:=ul s a (by unfold maxLen;omega) ha w
  cases hr:M.rd 8 [] (s.data.toList.drop a)with
  |none=>rw[hr]at h1;exact h1
  |some p=>rw[hr]at h;simp at h
 .exact yB s a (by unfold maxLen;omega) (Or.inr (by omega)) w
theorem get_some(s:BA)(a v nx:Nat)(hs:s.size<=140737488351232)(h:M.Cb s.data.toList a=some (v,nx))(w:World):
  Calls Tryz.prog 111 #[sT s,iT a] w fun e w'=>e=.returned (.tuple #[iT v,iT nx,iT 0])/\w'=w:=by
 have ha:a<s.size:=by simpa using(M.Bu h).2.2.2
 unfold M.Cb at h;rw[if_pos (by simpa using ha)]at h;have h1:=ul s a (by unfold maxLen;omega) ha w
 cases hr:M.rd 8 [] (s.data.toList.drop a)with
 |none=>rw[hr]at h;simp at h
 |some p =>
  obtain⟨v',k⟩:=p;rw[hr]at h h1;simp only[zLO,Prod.mk.injEq]at h;obtain⟨rfl,rfl⟩:=h;exact h1
end Go.Proofs.YtekdenkllipehaaGreatDoor
namespace Go.Proofs.YtekdenkllipehaaGreatDoor
open Go.RowKit
variable{B g o:Nat}{L:List M.St}{b:BA}{t:TypeId}{v w w2:World}{x y z:Value}
def M.St.val(s:M.St):Value:=.agg #[sT s.put,iT (s.place:Int),iT (s.size:Int)]
def M.St.cells(s:M.St):List Value:=[sT s.put,iT (s.place:Int),iT (s.size:Int)]
def Ud(w:World)(g o:Nat)(L:List M.St):Prop:=∀(k:Nat)(s:M.St),L[k]?=some s ->
 w.cell? (aD g (o+k*3))=some (sT s.put)/\w.cell? (aD g (o+k*3+1))=some (iT (s.place:Int))/\w.cell? (aD g (o+k*3+2))=some (iT (s.size:Int))
def Steps(w:World)(ao:Option Addr)(L:List M.St):Prop:=L=[]\/∃g o,ao=some (aD g o)/\g<w.heap.size/\Ud w g o L
theorem Ud.kept{w':World}(h:Ud w g o L){n:Nat}(hg:g<n)(hb:Below n w w'):Ud w' g o L:=fun k s hs=>by
 obtain⟨h0,h1,h2⟩:=h k s hs;exact⟨(hb.cell (p:=(aD g _)) hg).trans h0,(hb.cell (p:=(aD g _)) hg).trans h1,(hb.cell (p:=(aD g _)) hg).trans h2⟩
theorem Steps.kept{w w':World}{ao:Option Addr}{L:List M.St}(h:Steps w ao L)(q:Q w w'):Steps w' ao L:=by
 rcases h with h|⟨g,o,rfl,hg,hs⟩
 .exact Or.inl h
 .exact Or.inr ⟨g,o,rfl,by have:=q.below.size;omega,hs.kept hg q.below⟩
theorem Steps.at{w:World}{ao:Option Addr}{L:List M.St}(h:Steps w ao L){k:Nat}(hk:k<L.length):∃g o,ao=some (aD g o)/\g<w.heap.size/\Ud w g o L:=by
 rcases h with h|h
 .subst h;simp at hk
 .exact h
theorem Ud.take{w:World}{g o:Nat}{L:List M.St}(h:Ud w g o L)(n:Nat):Ud w g o (L.take n):=fun k s hs=>h k s (by
 rw[List.getElem?_take]at hs;split at hs
 .exact hs
 .simp at hs)
theorem Ud.drop{w:World}{g o:Nat}{L:List M.St}(h:Ud w g o L)(n:Nat):Ud w g (o+n*3) (L.drop n):=fun k s hs=>by
 rw[zLr]at hs;have:=h (n+k) s hs;rw[show o+n*3+k*3=o+(n+k)*3 by omega];exact this
def cellsOf(L:List M.St):List Value:=L.flatMap M.St.cells
theorem KX(A B:List M.St):cellsOf (A++B)=cellsOf A++cellsOf B:=by simp[cellsOf]
theorem DJ(s:M.St):cellsOf [s]=s.cells:=by simp[cellsOf]
theorem KW(L:List M.St):(cellsOf L).length=L.length*3:=by
 induction L with
 |nil=>rfl
 |cons s L ih=>show(s.cells++cellsOf L).length=_;rw[zLL,ih];simp[M.St.cells];omega
theorem Kz:∀{L:List M.St}{k:Nat}{s:M.St},L[k]?=some s->(cellsOf L)[k*3]?=some (sT s.put)/\(cellsOf L)[k*3+1]?=some (iT (s.place:Int))/\(cellsOf L)[k*3+2]?=some (iT (s.size:Int))
 |[],_,_,h=>by simp at h
 |t::L,0,s,h=>by
  simp at h;subst h;exact⟨rfl,rfl,rfl⟩
 |t::L,k+1,s,h=>by
  have e:cellsOf (t::L)=sT t.put::iT (t.place:Int)::iT (t.size:Int)::cellsOf L:=rfl;have ih:=Kz (L:=L) (k:=k) (s:=s) (by simpa using h);rw[e,show(k+1)*3=k*3+1+1+1 by omega];simpa using ih
theorem Ud.of_cells(h:∀j u,(cellsOf L)[j]?=some u->w.cell? (aD g (o+j))=some u):Ud w g o L:=fun k s hs=>by
 obtain⟨h0,h1,h2⟩:=Kz hs;exact⟨h _ _ h0,h _ _ h1,h _ _ h2⟩
theorem Ud.OC(h:Ud w g o L):∀j u,(cellsOf L)[j]?=some u->w.cell? (aD g (o+j))=some u:=by
 intro j u hu;have hlt:j<L.length*3:=by
  rcases zLn j (L.length*3)with hl|hl
  .exact hl
  .rw[zMC (by rw[KW];exact hl)]at hu;simp at hu
 have hk:j/3<L.length:=by omega
 have hs:L[j/3]?=some L[j/3]:=zLH hk;obtain⟨h0,h1,h2⟩:=h _ _ hs;obtain⟨c0,c1,c2⟩:=Kz hs;have hj:j=j/3*3\/j=j/3*3+1\/j=j/3*3+2:=by omega
 rcases hj with e|e|e
 .rw[e]at hu⊢;rw[c0]at hu;rw[<-hu];exact h0
 .rw[e]at hu⊢;rw[c1]at hu;rw[<-hu];exact h1
 .rw[e]at hu⊢;rw[c2]at hu;rw[<-hu];exact h2
theorem PW{base:Nat}{ao:Option Addr}{cap:Nat}(h:w.ownsRow base 255 3 (.slice ao L.length cap) L.length (cellsOf L)):Steps w ao L:=by
 by_cases hL:L=[]
 .exact Or.inl hL
 .obtain⟨g,rfl,_,hlt,hc⟩:=Cv h (by
   intro e;have h1:=KW L;rw[e,zLW]at h1;have h2:L.length≠0:=fun e=>hL (zLN e);omega)
  exact Or.inr ⟨g,0,rfl,hlt,Ud.of_cells fun j u hu=>by rw[zLk];exact hc j u hu⟩
theorem zM(q:Q (w.alloc (.cells #[x,y,z] t)) w2):
  (w2.cell? (aD w.heap.size 0)=some x/\w2.cell? (aD w.heap.size 1)=some y/\w2.cell? (aD w.heap.size 2)=some z) /\
  (w2.frozen? (aD w.heap.size 0)=false/\w2.frozen? (aD w.heap.size 1)=false/\w2.frozen? (aD w.heap.size 2)=false):=by
 have cl:∀o,w2.cell? (aD w.heap.size o)=(w.alloc (.cells #[x,y,z] t)).cell? (aD w.heap.size o):=fun o=>q.below.cell (p:=(aD w.heap.size o)) (by simp);have fr:∀o,w2.frozen? (aD w.heap.size o)=(w.alloc (.cells #[x,y,z] t)).frozen? (aD w.heap.size o):=fun o=>q.below.frozen (p:=(aD w.heap.size o)) (by simp);exact⟨⟨(cl 0).trans (by simp),(cl 1).trans (by simp),(cl 2).trans (by simp)⟩,⟨(fr 0).trans (by simp),(fr 1).trans (by simp),(fr 2).trans (by simp)⟩⟩
theorem new2(q:Q (w.alloc (.cells #[x,y] t)) w2):
  (w2.cell? (aD w.heap.size 0)=some x/\w2.cell? (aD w.heap.size 1)=some y) /\
  (w2.frozen? (aD w.heap.size 0)=false/\w2.frozen? (aD w.heap.size 1)=false):=by
 have cl:∀o,w2.cell? (aD w.heap.size o)=(w.alloc (.cells #[x,y] t)).cell? (aD w.heap.size o):=fun o=>q.below.cell (p:=(aD w.heap.size o)) (by simp);have fr:∀o,w2.frozen? (aD w.heap.size o)=(w.alloc (.cells #[x,y] t)).frozen? (aD w.heap.size o):=fun o=>q.below.frozen (p:=(aD w.heap.size o)) (by simp);exact⟨⟨(cl 0).trans (by simp),(cl 1).trans (by simp)⟩,⟨(fr 0).trans (by simp),(fr 1).trans (by simp)⟩⟩
theorem XZ(h0:w.cell? (aD B 0)=some x)(h1:w.cell? (aD B 1)=some y)(h2:w.cell? (aD B 2)=some z)(a b c:Value):
  (((w.setCell (aD B 0) a).setCell (aD B 1) b).setCell (aD B 2) c).cell? (aD B 0)=some a /\
  (((w.setCell (aD B 0) a).setCell (aD B 1) b).setCell (aD B 2) c).cell? (aD B 1)=some b /\
  (((w.setCell (aD B 0) a).setCell (aD B 1) b).setCell (aD B 2) c).cell? (aD B 2)=some c:=by
 have k1:(w.setCell (aD B 0) a).cell? (aD B 1)=some y:=by rw[zMH _ _ _ _ (by simp)];exact h1
 have k2:((w.setCell (aD B 0) a).setCell (aD B 1) b).cell? (aD B 2)=some z:=by rw[zMH _ _ _ _ (by simp),zMH _ _ _ _ (by simp)];exact h2
 refine⟨?_,?_,zMJ _ _ _ k2⟩
 .rw[zMH _ _ _ _ (by simp),zMH _ _ _ _ (by simp)];exact zMJ _ _ _ h0
 .rw[zMH _ _ _ _ (by simp)];exact zMJ _ _ _ k1
theorem vS(h0:w.cell? (aD B 0)=some x)(h1:w.cell? (aD B 1)=some y)(a b:Value):
  ((w.setCell (aD B 0) a).setCell (aD B 1) b).cell? (aD B 0)=some a /\
  ((w.setCell (aD B 0) a).setCell (aD B 1) b).cell? (aD B 1)=some b:=by
 have k1:(w.setCell (aD B 0) a).cell? (aD B 1)=some y:=by rw[zMH _ _ _ _ (by simp)];exact h1
 refine⟨?_,zMJ _ _ _ k1⟩;rw[zMH _ _ _ _ (by simp)];exact zMJ _ _ _ h0
theorem Q.vW(q:Q w v)(hB:w.heap.size<=B)(a b c:Value):Q w (((v.setCell (aD B 0) a).setCell (aD B 1) b).setCell (aD B 2) c):=
 ((q.setCell (p:=(aD B 0)) hB a).setCell (p:=(aD B 1)) hB b).setCell (p:=(aD B 2)) hB c
theorem Q.set2(q:Q w v)(hB:w.heap.size<=B)(a b:Value):Q w ((v.setCell (aD B 0) a).setCell (aD B 1) b):=
 (q.setCell (p:=(aD B 0)) hB a).setCell (p:=(aD B 1)) hB b
theorem TR(s:M.St)(h:s.put.size≠0)(w:World):
  Calls Tryz.prog 203 #[s.val] w fun e w'=>e=.returned (.bool true)/\Q w w':=by
 obtain⟨put,place,size⟩:=s;simp only[M.St.val];have hne:(put.toList==[])=false:=by
  rw[ByteArray.toList_eq,zM9];intro e;exact h (by simpa using congrArg List.length e)
 go_in;go_wp2;go_ret;exact⟨by simp_all,(Q.refl w).alloc _ _⟩
theorem Xm(s:M.St)(h:s.put.size=0)(w:World):
  Calls Tryz.prog 203 #[s.val] w fun e w'=>e=.returned (.bool false)/\Q w w':=by
 obtain⟨put,place,size⟩:=s;simp only[M.St.val];have hne:(put.toList==[])=true:=by
  rw[ByteArray.toList_eq,beq_iff_eq];exact zLN (by simpa using h)
 go_in;go_wp2;go_ret;exact⟨by simp_all,(Q.refl w).alloc _ _⟩
def N9(b:BA):Bool:=decide (b.size≠0)
theorem OU:N9 b=false↔b.size=0:=by simp[N9]
theorem P5:N9 b=true↔b.size≠0:=by simp[N9]
theorem OG(put:BA)(p n:Nat)(w:World):
  Calls Tryz.prog 203 #[.agg #[sT put,iT (p:Int),iT (n:Int)]] w fun e w'=>e=.returned (.bool (N9 put))/\Q w w':=by
 by_cases h:put.size=0
 .have:=Xm ⟨put,p,n⟩ h w;rw[OU.2 h];exact this
 .have:=TR ⟨put,p,n⟩ h w;rw[P5.2 h];exact this
theorem NY(p n:Int)(w:World):
  Calls Tryz.prog 214 #[iT p,iT n] w fun e w'=>e=.returned (.agg #[eS,iT p,iT n])/\Q w w':=by
 go_in;go_wp2_with fail;refine bodyPost_ret (v:=.agg #[eS,iT p,iT n]) (by simp[results,Tryz.results214,go_sem]) rfl ?_;exact⟨rfl,(Q.refl w).alloc _ _⟩
theorem PO(s:BA)(w:World):
  Calls Tryz.prog 213 #[sT s] w fun e w'=>e=.returned (.agg #[sT s,iT 0,iT s.size])/\Q w w':=by
 go_in;go_wp2_with fail;refine bodyPost_ret (v:=.agg #[sT s,iT 0,iT s.size]) (by simp[results,Tryz.results213,go_sem]) rfl ?_;exact⟨rfl,(Q.refl w).alloc _ _⟩
end Go.Proofs.YtekdenkllipehaaGreatDoor
