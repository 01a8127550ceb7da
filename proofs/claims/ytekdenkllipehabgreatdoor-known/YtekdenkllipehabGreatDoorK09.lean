import Derived.Test.YtekdenkllipehabGreatDoorK03
import Derived.Test.YtekdenkllipehabGreatDoorK07
import Derived.Deep.RegionLaw
import Derived.Deep.RegionHeld3
import Derived.OrdersHeld
import Derived.KernelRfl
set_option maxRecDepth 100000
set_option maxHeartbeats 8000000
namespace Go.Proofs.YtekdenkllipehabGreatDoor
open Go.RowKit
theorem step_append_own {P:Program} {ops:Array Oper} {o:Oper} {a:Act} {w:World} {K:Act→World→Prop} {Q:Exit→Act→World→Prop} {E:Prop}
  (hg:o.guard=none) (s x:Operand) (t:TypeId) (hop:o.op=Op.call { callee:=Callee.builtin Builtin.append,args:=#[s,x],argTypes:=#[t,t]})
  (base:Nat) (e:TypeId) (i:TypeInfo) (z:Value) (size bytes:Nat) (h1:P.underlying t=some (.slice e)) (h2:P.info? e=some i) (h3:i.zero=some z) (h4:i.size=size) (h5:i.bytes=bytes) (h6:z.cells.size=size) (h7:0<size)
  (v:Value) (n:Nat) (xs:List Value) (hs:a.eval s=v) (hown:w.ownsRow base e size v n xs)
  (ad:Addr) (m c:Nat) (news:List Value) (hx:a.eval x=.slice (some ad) m c) (hn:news.length=m*size) (hc:∀ j u,news[j]?=some u→w.cell? (ad.add j)=some u) (h1c:∀ u∈news,u.oneCell'=true)
  (b1:n+m≤maxLen) (b2:(n+m)*bytes≤140737488355328) (hb:base≤w.heap.size)
  (hK:∀ v' w',w'.ownsRow base e size v' (n+m) (xs++news)→w.grownBy w' v.ownBlock→K (a.put o.dst v') w') :
  if Region.wanted o (yielded ops a.tmps)=true then Oper.wp P o a w K Q else E:=by
 have hw:Region.wanted o (yielded ops a.tmps)=true:=by simp [Region.wanted,hg]
 rw [if_pos hw]
 obtain ⟨v',w',hrun,r1,r2,_⟩:=run_append_own (P:=P) w base t o.type e i z size bytes h1 h2 h3 h4 h5 h6 h7 v n xs hown ad m c news hn hc h1c b1 b2 hb
 unfold Oper.wp
 simp [execOp,hop,resolve,invoke,builtin,hs,hx,hrun,Result.andThen]
 exact hK v' w' r1 r2
theorem own_form {w:World} {base:Nat} {e:TypeId} {size:Nat} {v:Value} {n:Nat} {xs:List Value} (h:w.ownsRow base e size v n xs):∃ ao cap,v=.slice ao n cap:=by
 rcases h.2 with ⟨rfl,rfl⟩|⟨g,cap,_,rfl,_⟩
 ·exact ⟨none,0,rfl⟩
 ·exact ⟨_,_,rfl⟩
theorem own_below {w w':World} {base:Nat} {e:TypeId} {size:Nat} {v:Value} {n:Nat} {xs:List Value} (h:w.ownsRow base e size v n xs) (hb:Below w.heap.size w w'):w'.ownsRow base e size v n xs:=by
 refine ⟨h.1,?_⟩
 rcases h.2 with h2|⟨g,cap,cur,hv,hg,hh,r⟩
 ·exact Or.inl h2
 ·have hlt:g<w.heap.size:=by
   rcases Nat.lt_or_ge g w.heap.size with hl|hl
   ·exact hl
   ·rw [Array.getElem?_eq_none hl] at hh;simp at hh
  exact Or.inr ⟨g,cap,cur,hv,hg,by rw [hb.block g hlt];exact hh,r⟩
theorem own_base {w:World} {base:Nat} {e:TypeId} {size:Nat} {v:Value} {n:Nat} {xs:List Value} (h:w.ownsRow base e size v n xs):∀ k,v.ownBlock=some k→base≤k:=fun k hk=>(h.lt k hk).1
theorem grown_undrew {w w':World} {row:Option Nat} (h:w.drew.grownBy w' row):w.grownBy w' row:=⟨h.os,h.tape,h.output,h.size,h.block⟩
theorem one_cell (w:World) (v:Value) (t:TypeId):∀ j u,[v][j]?=some u→(w.alloc (.cells #[v] t)).cell? ((⟨w.heap.size,0,none⟩:Addr).add j)=some u:=by
 intro j u hj
 match j,hj with
 | 0,hj=>simp at hj;subst hj;simp [Addr.add]
theorem one_val (n:Int):∀ u∈[Value.int .i64 n],u.oneCell'=true:=by
 intro u hu;simp at hu;subst hu;rfl
theorem own_cells {w:World} {base:Nat} {e:TypeId} {size:Nat} {ao:Option Addr} {n cap:Nat} {xs:List Value} (h:w.ownsRow base e size (.slice ao n cap) n xs) (hne:xs≠[]) :
  ∃ g,ao=some ⟨g,0,none⟩∧base≤g∧g<w.heap.size∧∀ j u,xs[j]?=some u→w.cell? ⟨g,j,none⟩=some u:=by
 rcases h.2 with ⟨hv,h0⟩|⟨g,c,cur,hv,hg,hh,_⟩
 ·exact absurd (List.eq_nil_of_length_eq_zero (by have:=h.1;rw [h0] at this;omega)) hne
 ·injection hv with e1 _ e3
  subst e1 e3
  have hlt:g<w.heap.size:=by
   rcases Nat.lt_or_ge g w.heap.size with hl|hl
   ·exact hl
   ·rw [Array.getElem?_eq_none hl] at hh;simp at hh
  refine ⟨g,rfl,hg,hlt,fun j u hu=>?_⟩
  have hj:j<xs.length:=(List.getElem?_eq_some_iff.1 hu).1
  rw [h.cellAt j (by have:=h.1;omega)]
  exact hu
def strVals (P:List ByteArray):List Value:=P.map Value.string
theorem grown_drew {w w1:World} {row:Option Nat} (h:w.drew.grownBy w1 row):w.grownBy w1 row:=⟨h.os,h.tape,h.output,h.size,h.block⟩
theorem grown_of_q {w w':World} (q:Q w w') (row:Option Nat):w.grownBy w' row:=⟨q.below.os,q.below.tape,q.below.output,q.below.size,fun k hk _=>q.below.block k hk⟩
theorem grown_set {w w':World} {C o:Nat} (h:w.grownBy w' (some C)) (v:Value):w.grownBy (w'.setCell ⟨C,o,none⟩ v) (some C):=by
 refine ⟨h.os,h.tape,h.output,by simpa using h.size,fun k hk hne=>?_⟩
 exact (Below.heap_setCell _ _ _ _ (fun e=>hne (by simp [e]))).trans (h.block k hk hne)
theorem own_obj {w:World} {base:Nat} {e:TypeId} {size:Nat} {v:Value} {n:Nat} {xs:List Value} (h:w.ownsRow base e size v n xs):∀ g,v.ownBlock=some g→∃ c,w.heap[g]?=some (.cells c e (0,0)):=fun g hg=>by
 rcases h.2 with ⟨rfl,_⟩|⟨g',cap,cur,rfl,_,hh,_⟩
 ·simp [Value.ownBlock] at hg
 ·simp only [Value.ownBlock,Option.some.injEq] at hg
  subst hg
  exact ⟨cur,hh⟩
theorem tk3 {P:Program} {md:Region.Mode} {ops:Array Oper} {Q:Exit→Act→World→Prop} {S:World→Prop} {i:Nat} {oi:Oper} {v:Value} {fuel:Nat} {listed:Array Bool} {a:Act} {w:World} (hi:ops[i]?=some oi) (hy:YieldsIf P ops S oi v a) (hS:S w) (h:wpAnyH P md ops Q S fuel (listed.setIfInBounds i true) (a.put oi.dst v) w) (hs:Region.noSelect ops=true:=by kernel_rfl) (hf:Region.free md ops listed i=true:=by kernel_rfl) (hr:(Region.ready md ops listed).contains i=true:=by kernel_rfl) (hQ:∀ c a w,Q (.panic c) (a.put oi.dst v) w→Q (.panic c) a w:=by exact fun _ _ _ h=>h):wpAnyH P md ops Q S (fuel+1) listed a w:=wpAnyH_take hi hs hf hr hQ hy hS h
theorem wpAnyH_narrow {P:Program} {md:Region.Mode} {ops:Array Oper} {Q:Exit→Act→World→Prop} {S S':World→Prop} (hs:∀ w,S' w→S w) :
  ∀ {fuel:Nat} {listed:Array Bool} {a:Act} {w:World},wpAnyH P md ops Q S' fuel listed a w→wpAnyH P md ops Q S fuel listed a w
 | 0,_,_,_,h=>h
 | _+1,_,_,_,h=>⟨h.1,fun i hi=>wpOp_mono (fun _ w' h'=>⟨hs w' h'.1,wpAnyH_narrow hs h'.2⟩) (h.2 i hi)⟩
theorem kept_cell {w w':World} {p:Addr} {v:Value} (h:w.cell? p=some v) (q:Q w w'):w'.cell? p=some v:=by
 have hlt:p.block<w.heap.size:=by
  rcases Nat.lt_or_ge p.block w.heap.size with hl|hl
  ·exact hl
  ·unfold World.cell? at h
   rw [Array.getElem?_eq_none hl] at h
   simp at h
 exact (q.below.cell hlt).trans h
def M.St.val (s:M.St):Value:=.agg #[.string s.put,.int .i64 (s.place:Int),.int .i64 (s.size:Int)]
def M.St.cells (s:M.St):List Value:=[.string s.put,.int .i64 (s.place:Int),.int .i64 (s.size:Int)]
def StAt (w:World) (g o:Nat) (L:List M.St):Prop:=∀ (k:Nat) (s:M.St),L[k]?=some s →
 w.cell? ⟨g,o+k*3,none⟩=some (.string s.put)∧w.cell? ⟨g,o+k*3+1,none⟩=some (.int .i64 (s.place:Int))∧w.cell? ⟨g,o+k*3+2,none⟩=some (.int .i64 (s.size:Int))
def Steps (w:World) (ao:Option Addr) (L:List M.St):Prop:=L=[]∨∃ g o,ao=some ⟨g,o,none⟩∧g<w.heap.size∧StAt w g o L
theorem StAt.kept {w w':World} {g o:Nat} {L:List M.St} (h:StAt w g o L) {n:Nat} (hg:g<n) (hb:Below n w w'):StAt w' g o L:=fun k s hs=>by
 obtain ⟨h0,h1,h2⟩:=h k s hs
 exact ⟨(hb.cell (p:=⟨g,_,none⟩) hg).trans h0,(hb.cell (p:=⟨g,_,none⟩) hg).trans h1,(hb.cell (p:=⟨g,_,none⟩) hg).trans h2⟩
theorem Steps.kept {w w':World} {ao:Option Addr} {L:List M.St} (h:Steps w ao L) (q:Q w w'):Steps w' ao L:=by
 rcases h with h|⟨g,o,rfl,hg,hs⟩
 ·exact Or.inl h
 ·exact Or.inr ⟨g,o,rfl,by have:=q.below.size;omega,hs.kept hg q.below⟩
theorem Steps.at {w:World} {ao:Option Addr} {L:List M.St} (h:Steps w ao L) {k:Nat} (hk:k<L.length):∃ g o,ao=some ⟨g,o,none⟩∧g<w.heap.size∧StAt w g o L:=by
 rcases h with h|h
 ·subst h;simp at hk
 ·exact h
theorem StAt.take {w:World} {g o:Nat} {L:List M.St} (h:StAt w g o L) (n:Nat):StAt w g o (L.take n):=fun k s hs=>h k s (by
 rw [List.getElem?_take] at hs
 split at hs
 ·exact hs
 ·simp at hs)
theorem StAt.drop {w:World} {g o:Nat} {L:List M.St} (h:StAt w g o L) (n:Nat):StAt w g (o+n*3) (L.drop n):=fun k s hs=>by
 rw [List.getElem?_drop] at hs
 have:=h (n+k) s hs
 rw [show o+n*3+k*3=o+(n+k)*3 by omega]
 exact this
def cellsOf (L:List M.St):List Value:=L.flatMap M.St.cells
theorem cellsOf_append (A B:List M.St):cellsOf (A++B)=cellsOf A++cellsOf B:=by simp [cellsOf]
theorem cellsOf_one (s:M.St):cellsOf [s]=s.cells:=by simp [cellsOf]
theorem cellsOf_length (L:List M.St):(cellsOf L).length=L.length*3:=by
 induction L with
 | nil=>rfl
 | cons s L ih=>show (s.cells++cellsOf L).length=_;rw [List.length_append,ih];simp [M.St.cells];omega
theorem cellsOf_get:∀ {L:List M.St} {k:Nat} {s:M.St},L[k]?=some s→(cellsOf L)[k*3]?=some (.string s.put)∧(cellsOf L)[k*3+1]?=some (.int .i64 (s.place:Int))∧(cellsOf L)[k*3+2]?=some (.int .i64 (s.size:Int))
 | [],_,_,h=>by simp at h
 | t::L,0,s,h=>by
  simp at h;subst h
  exact ⟨rfl,rfl,rfl⟩
 | t::L,k+1,s,h=>by
  have e:cellsOf (t::L)=.string t.put::.int .i64 (t.place:Int)::.int .i64 (t.size:Int)::cellsOf L:=rfl
  have ih:=cellsOf_get (L:=L) (k:=k) (s:=s) (by simpa using h)
  rw [e,show (k+1)*3=k*3+1+1+1 by omega]
  simpa using ih
theorem StAt.of_cells {w:World} {g o:Nat} {L:List M.St} (h:∀ j u,(cellsOf L)[j]?=some u→w.cell? ⟨g,o+j,none⟩=some u):StAt w g o L:=fun k s hs=>by
 obtain ⟨h0,h1,h2⟩:=cellsOf_get hs
 exact ⟨h _ _ h0,h _ _ h1,h _ _ h2⟩
theorem StAt.to_cells {w:World} {g o:Nat} {L:List M.St} (h:StAt w g o L):∀ j u,(cellsOf L)[j]?=some u→w.cell? ⟨g,o+j,none⟩=some u:=by
 intro j u hu
 have hlt:j<L.length*3:=by
  rcases Nat.lt_or_ge j (L.length*3) with hl|hl
  ·exact hl
  ·rw [List.getElem?_eq_none (by rw [cellsOf_length];exact hl)] at hu;simp at hu
 have hk:j / 3<L.length:=by omega
 have hs:L[j / 3]?=some L[j / 3]:=List.getElem?_eq_getElem hk
 obtain ⟨h0,h1,h2⟩:=h _ _ hs
 obtain ⟨c0,c1,c2⟩:=cellsOf_get hs
 have hj:j=j / 3*3∨j=j / 3*3+1∨j=j / 3*3+2:=by omega
 rcases hj with e|e|e
 ·rw [e] at hu ⊢;rw [c0] at hu;rw [←hu];exact h0
 ·rw [e] at hu ⊢;rw [c1] at hu;rw [←hu];exact h1
 ·rw [e] at hu ⊢;rw [c2] at hu;rw [←hu];exact h2
theorem own_steps {w:World} {base:Nat} {ao:Option Addr} {cap:Nat} {L:List M.St} (h:w.ownsRow base 241 3 (.slice ao L.length cap) L.length (cellsOf L)):Steps w ao L:=by
 by_cases hL:L=[]
 ·exact Or.inl hL
 ·obtain ⟨g,rfl,_,hlt,hc⟩:=own_cells h (by
   intro e
   have h1:=cellsOf_length L
   rw [e,List.length_nil] at h1
   have h2:L.length≠0:=fun e=>hL (List.eq_nil_of_length_eq_zero e)
   omega)
  exact Or.inr ⟨g,0,rfl,hlt,StAt.of_cells fun j u hu=>by rw [Nat.zero_add];exact hc j u hu⟩
theorem new3 {w w2:World} {x y z:Value} {t:TypeId} (q:Q (w.alloc (.cells #[x,y,z] t)) w2) :
  (w2.cell? ⟨w.heap.size,0,none⟩=some x∧w2.cell? ⟨w.heap.size,1,none⟩=some y∧w2.cell? ⟨w.heap.size,2,none⟩=some z) ∧
  (w2.frozen? ⟨w.heap.size,0,none⟩=false∧w2.frozen? ⟨w.heap.size,1,none⟩=false∧w2.frozen? ⟨w.heap.size,2,none⟩=false):=by
 have cl:∀ o,w2.cell? ⟨w.heap.size,o,none⟩=(w.alloc (.cells #[x,y,z] t)).cell? ⟨w.heap.size,o,none⟩:=fun o=>q.below.cell (p:=⟨w.heap.size,o,none⟩) (by simp)
 have fr:∀ o,w2.frozen? ⟨w.heap.size,o,none⟩=(w.alloc (.cells #[x,y,z] t)).frozen? ⟨w.heap.size,o,none⟩:=fun o=>q.below.frozen (p:=⟨w.heap.size,o,none⟩) (by simp)
 exact ⟨⟨(cl 0).trans (by simp),(cl 1).trans (by simp),(cl 2).trans (by simp)⟩,⟨(fr 0).trans (by simp),(fr 1).trans (by simp),(fr 2).trans (by simp)⟩⟩
theorem new2 {w w2:World} {x y:Value} {t:TypeId} (q:Q (w.alloc (.cells #[x,y] t)) w2) :
  (w2.cell? ⟨w.heap.size,0,none⟩=some x∧w2.cell? ⟨w.heap.size,1,none⟩=some y) ∧
  (w2.frozen? ⟨w.heap.size,0,none⟩=false∧w2.frozen? ⟨w.heap.size,1,none⟩=false):=by
 have cl:∀ o,w2.cell? ⟨w.heap.size,o,none⟩=(w.alloc (.cells #[x,y] t)).cell? ⟨w.heap.size,o,none⟩:=fun o=>q.below.cell (p:=⟨w.heap.size,o,none⟩) (by simp)
 have fr:∀ o,w2.frozen? ⟨w.heap.size,o,none⟩=(w.alloc (.cells #[x,y] t)).frozen? ⟨w.heap.size,o,none⟩:=fun o=>q.below.frozen (p:=⟨w.heap.size,o,none⟩) (by simp)
 exact ⟨⟨(cl 0).trans (by simp),(cl 1).trans (by simp)⟩,⟨(fr 0).trans (by simp),(fr 1).trans (by simp)⟩⟩
theorem stored3 {w:World} {B:Nat} {x y z:Value} (h0:w.cell? ⟨B,0,none⟩=some x) (h1:w.cell? ⟨B,1,none⟩=some y) (h2:w.cell? ⟨B,2,none⟩=some z) (a b c:Value) :
  (((w.setCell ⟨B,0,none⟩ a).setCell ⟨B,1,none⟩ b).setCell ⟨B,2,none⟩ c).cell? ⟨B,0,none⟩=some a ∧
  (((w.setCell ⟨B,0,none⟩ a).setCell ⟨B,1,none⟩ b).setCell ⟨B,2,none⟩ c).cell? ⟨B,1,none⟩=some b ∧
  (((w.setCell ⟨B,0,none⟩ a).setCell ⟨B,1,none⟩ b).setCell ⟨B,2,none⟩ c).cell? ⟨B,2,none⟩=some c:=by
 have k1:(w.setCell ⟨B,0,none⟩ a).cell? ⟨B,1,none⟩=some y:=by rw [World.cell?_setCell_other _ _ _ _ (by simp)];exact h1
 have k2:((w.setCell ⟨B,0,none⟩ a).setCell ⟨B,1,none⟩ b).cell? ⟨B,2,none⟩=some z:=by rw [World.cell?_setCell_other _ _ _ _ (by simp),World.cell?_setCell_other _ _ _ _ (by simp)];exact h2
 refine ⟨?_,?_,World.cell?_setCell_same _ _ _ k2⟩
 ·rw [World.cell?_setCell_other _ _ _ _ (by simp),World.cell?_setCell_other _ _ _ _ (by simp)];exact World.cell?_setCell_same _ _ _ h0
 ·rw [World.cell?_setCell_other _ _ _ _ (by simp)];exact World.cell?_setCell_same _ _ _ k1
theorem stored2 {w:World} {B:Nat} {x y:Value} (h0:w.cell? ⟨B,0,none⟩=some x) (h1:w.cell? ⟨B,1,none⟩=some y) (a b:Value) :
  ((w.setCell ⟨B,0,none⟩ a).setCell ⟨B,1,none⟩ b).cell? ⟨B,0,none⟩=some a ∧
  ((w.setCell ⟨B,0,none⟩ a).setCell ⟨B,1,none⟩ b).cell? ⟨B,1,none⟩=some b:=by
 have k1:(w.setCell ⟨B,0,none⟩ a).cell? ⟨B,1,none⟩=some y:=by rw [World.cell?_setCell_other _ _ _ _ (by simp)];exact h1
 refine ⟨?_,World.cell?_setCell_same _ _ _ k1⟩
 rw [World.cell?_setCell_other _ _ _ _ (by simp)];exact World.cell?_setCell_same _ _ _ h0
theorem Q.set3 {w v:World} (q:Q w v) {B:Nat} (hB:w.heap.size≤B) (a b c:Value):Q w (((v.setCell ⟨B,0,none⟩ a).setCell ⟨B,1,none⟩ b).setCell ⟨B,2,none⟩ c):=
 ((q.setCell (p:=⟨B,0,none⟩) hB a).setCell (p:=⟨B,1,none⟩) hB b).setCell (p:=⟨B,2,none⟩) hB c
theorem Q.set2 {w v:World} (q:Q w v) {B:Nat} (hB:w.heap.size≤B) (a b:Value):Q w ((v.setCell ⟨B,0,none⟩ a).setCell ⟨B,1,none⟩ b):=
 (q.setCell (p:=⟨B,0,none⟩) hB a).setCell (p:=⟨B,1,none⟩) hB b
end Go.Proofs.YtekdenkllipehabGreatDoor
