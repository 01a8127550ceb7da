import Derived.Test.YtekdenkllipehabGreatDoorK09
import Derived.Test.YtekdenkllipehabGreatDoorRows
import Derived.Test.YtekdenkllipehabGreatDoorProg
import Derived.Lib.Strings
import Derived.Lib.Slices
import Derived.Lib.Small
import Derived.Lib.Walk
import Derived.Lib.BitFns
set_option maxRecDepth 100000
set_option maxHeartbeats 8000000
namespace Go.Proofs.YtekdenkllipehabGreatDoor
open Go.RowKit
def Rec.cells (r:Rec):List Value:=[.string r.key,.int .i64 r.stamp,.int .i64 r.kind,.string r.body]
def recCells (rs:List Rec):List Value:=rs.flatMap Rec.cells
theorem recCells_append (A B:List Rec):recCells (A++B)=recCells A++recCells B:=by simp [recCells]
theorem recCells_one (r:Rec):recCells [r]=r.cells:=by simp [recCells]
theorem recCells_length (L:List Rec):(recCells L).length=L.length*4:=by
 induction L with
 | nil=>rfl
 | cons s L ih=>show (s.cells++recCells L).length=_;rw [List.length_append,ih];simp [Rec.cells];omega
theorem recCells_get:∀ {L:List Rec} {k:Nat} {r:Rec},L[k]?=some r→(recCells L)[k*4]?=some (.string r.key)∧(recCells L)[k*4+1]?=some (.int .i64 r.stamp)∧(recCells L)[k*4+2]?=some (.int .i64 r.kind)∧(recCells L)[k*4+3]?=some (.string r.body)
 | [],_,_,h=>by simp at h
 | t::L,0,r,h=>by
  simp at h;subst h
  exact ⟨rfl,rfl,rfl,rfl⟩
 | t::L,k+1,r,h=>by
  have e:recCells (t::L)=.string t.key::.int .i64 t.stamp::.int .i64 t.kind::.string t.body::recCells L:=rfl
  have ih:=recCells_get (L:=L) (k:=k) (r:=r) (by simpa using h)
  rw [e,show (k+1)*4=k*4+1+1+1+1 by omega]
  simpa using ih
theorem RecsAt.of_cells {w:World} {g o:Nat} {L:List Rec} (h:∀ j u,(recCells L)[j]?=some u→w.cell? ⟨g,o+j,none⟩=some u):RecsAt w g o L:=fun k r hr=>by
 obtain ⟨h0,h1,h2,h3⟩:=recCells_get hr
 exact ⟨h _ _ h0,h _ _ h1,h _ _ h2,h _ _ h3⟩
theorem rec_cells_at (w:World) (r:Rec) (t:TypeId):∀ j u,r.cells[j]?=some u→(w.alloc (.cells #[.string r.key,.int .i64 r.stamp,.int .i64 r.kind,.string r.body] t)).cell? ((⟨w.heap.size,0,none⟩:Addr).add j)=some u:=by
 intro j u hj
 match j,hj with
 | 0,hj=>simp [Rec.cells] at hj;subst hj;simp [Addr.add]
 | 1,hj=>simp [Rec.cells] at hj;subst hj;simp [Addr.add]
 | 2,hj=>simp [Rec.cells] at hj;subst hj;simp [Addr.add]
 | 3,hj=>simp [Rec.cells] at hj;subst hj;simp [Addr.add]
 | j+4,hj=>simp [Rec.cells] at hj
theorem rec_cells_one (r:Rec):∀ u∈r.cells,u.oneCell'=true:=by
 intro u hu;simp [Rec.cells] at hu;rcases hu with rfl | rfl | rfl | rfl<;>rfl
structure Recs (w0:World) (L:List Rec) (ao:Option Addr) (cap:Nat) (wr:World):Prop where
 below:Below w0.heap.size w0 wr
 own:wr.ownsRow w0.heap.size 62 4 (.slice ao L.length cap) L.length (recCells L)
theorem Recs.start (w0:World):Recs w0 [] none 0 w0:=⟨Below.refl _ _,World.ownsRow_nil _ _ _ _⟩
theorem Recs.kept {w0 wr wr':World} {C:List Rec} {ao:Option Addr} {cap:Nat} (h:Recs w0 C ao cap wr) (q:Q wr wr'):Recs w0 C ao cap wr':=
 ⟨h.below.trans (q.below.mono h.below.size),own_below h.own q.below⟩
theorem Recs.push {w0 wr w':World} {C:List Rec} {r:Rec} {ao ao':Option Addr} {cap cap':Nat} (h:Recs w0 C ao cap wr)
  (hg:wr.grownBy w' (Value.slice ao C.length cap).ownBlock)
  (ho:w'.ownsRow w0.heap.size 62 4 (.slice ao' (C.length+1) cap') (C.length+1) (recCells C++r.cells)) :
  Recs w0 (C++[r]) ao' cap' w':=by
 refine ⟨h.below.grown hg h.below.size (own_base h.own),?_⟩
 rw [recCells_append,recCells_one,List.length_append]
 exact ho
theorem own_recs {w:World} {base:Nat} {ao:Option Addr} {cap:Nat} {L:List Rec} (h:w.ownsRow base 62 4 (.slice ao L.length cap) L.length (recCells L)) (hne:L≠[]):∃ g,ao=some ⟨g,0,none⟩∧g<w.heap.size∧RecsAt w g 0 L:=by
 have hl:=recCells_length L
 have hL:L.length≠0:=fun e=>hne (List.eq_nil_of_length_eq_zero e)
 rcases h.2 with ⟨_,h0⟩|⟨g,c,cur,hv,hg,hh,_⟩
 ·exact absurd h0 hL
 ·injection hv with e1 _ e3
  subst e1 e3
  have hlt:g<w.heap.size:=by
   rcases Nat.lt_or_ge g w.heap.size with hl|hl
   ·exact hl
   ·rw [Array.getElem?_eq_none hl] at hh;simp at hh
  refine ⟨g,rfl,hlt,RecsAt.of_cells fun j u hu=>?_⟩
  have hj:j<(recCells L).length:=(List.getElem?_eq_some_iff.1 hu).1
  rw [Nat.zero_add,h.cellAt j (by omega)]
  exact hu
structure Var4 (w:World) (B:Nat) (x y z u:Value):Prop where
 c0:w.cell? ⟨B,0,none⟩=some x
 c1:w.cell? ⟨B,1,none⟩=some y
 c2:w.cell? ⟨B,2,none⟩=some z
 c3:w.cell? ⟨B,3,none⟩=some u
 fr:∀ j,w.frozen? ⟨B,j,none⟩=false
theorem cell_lt4 {w:World} {p:Addr} {v:Value} (h:w.cell? p=some v):p.block<w.heap.size:=by
 rcases Nat.lt_or_ge p.block w.heap.size with hl|hl
 ·exact hl
 ·unfold World.cell? at h
  rw [Array.getElem?_eq_none hl] at h
  simp at h
theorem Var4.grown {w w':World} {row:Option Nat} {B:Nat} {x y z u:Value} (h:Var4 w B x y z u) (hg:w.grownBy w' row) (hne:row≠some B):Var4 w' B x y z u:=by
 have hb:w'.heap[B]?=w.heap[B]?:=hg.block B (cell_lt4 h.c0) (fun e=>hne e.symm)
 exact ⟨(World.cell?_of_block (a:=⟨B,0,none⟩) hb).trans h.c0,(World.cell?_of_block (a:=⟨B,1,none⟩) hb).trans h.c1,(World.cell?_of_block (a:=⟨B,2,none⟩) hb).trans h.c2,(World.cell?_of_block (a:=⟨B,3,none⟩) hb).trans h.c3,fun j=>(World.frozen?_of_block (a:=⟨B,j,none⟩) hb).trans (h.fr j)⟩
theorem var4_new (w:World) (x y z u:Value) (t:TypeId):Var4 (w.alloc (.cells #[x,y,z,u] t)) w.heap.size x y z u:=⟨by simp,by simp,by simp,by simp,fun j=>by simp⟩
theorem Var4.set {w:World} {B:Nat} {x y z u:Value} (h:Var4 w B x y z u) (a b c d:Value):Var4 ((((w.setCell ⟨B,0,none⟩ a).setCell ⟨B,1,none⟩ b).setCell ⟨B,2,none⟩ c).setCell ⟨B,3,none⟩ d) B a b c d:=by
 have k1:(w.setCell ⟨B,0,none⟩ a).cell? ⟨B,1,none⟩=some y:=by rw [World.cell?_setCell_other _ _ _ _ (by simp)];exact h.c1
 have k2:((w.setCell ⟨B,0,none⟩ a).setCell ⟨B,1,none⟩ b).cell? ⟨B,2,none⟩=some z:=by rw [World.cell?_setCell_other _ _ _ _ (by simp),World.cell?_setCell_other _ _ _ _ (by simp)];exact h.c2
 have k3:(((w.setCell ⟨B,0,none⟩ a).setCell ⟨B,1,none⟩ b).setCell ⟨B,2,none⟩ c).cell? ⟨B,3,none⟩=some u:=by rw [World.cell?_setCell_other _ _ _ _ (by simp),World.cell?_setCell_other _ _ _ _ (by simp),World.cell?_setCell_other _ _ _ _ (by simp)];exact h.c3
 refine ⟨?_,?_,?_,World.cell?_setCell_same _ _ _ k3,fun j=>by simp only [World.frozen?_setCell];exact h.fr j⟩
 ·rw [World.cell?_setCell_other _ _ _ _ (by simp),World.cell?_setCell_other _ _ _ _ (by simp),World.cell?_setCell_other _ _ _ _ (by simp)];exact World.cell?_setCell_same _ _ _ h.c0
 ·rw [World.cell?_setCell_other _ _ _ _ (by simp),World.cell?_setCell_other _ _ _ _ (by simp)];exact World.cell?_setCell_same _ _ _ k1
 ·rw [World.cell?_setCell_other _ _ _ _ (by simp)];exact World.cell?_setCell_same _ _ _ k2
theorem set_grown (w:World) (R o:Nat) (v:Value):w.grownBy (w.setCell ⟨R,o,none⟩ v) (some R):=grown_set (grown_of_q (Q.refl w) _) v
theorem Var4.set2 {w:World} {B:Nat} {x y z u:Value} (h:Var4 w B x y z u) (b:Value):Var4 (w.setCell ⟨B,2,none⟩ b) B x y b u:=
 ⟨by rw [World.cell?_setCell_other _ _ _ _ (by simp)];exact h.c0,by rw [World.cell?_setCell_other _ _ _ _ (by simp)];exact h.c1,World.cell?_setCell_same _ _ _ h.c2,by rw [World.cell?_setCell_other _ _ _ _ (by simp)];exact h.c3,fun j=>by rw [World.frozen?_setCell];exact h.fr j⟩
theorem Var4.set3 {w:World} {B:Nat} {x y z u:Value} (h:Var4 w B x y z u) (b:Value):Var4 (w.setCell ⟨B,3,none⟩ b) B x y z b:=
 ⟨by rw [World.cell?_setCell_other _ _ _ _ (by simp)];exact h.c0,by rw [World.cell?_setCell_other _ _ _ _ (by simp)];exact h.c1,by rw [World.cell?_setCell_other _ _ _ _ (by simp)];exact h.c2,World.cell?_setCell_same _ _ _ h.c3,fun j=>by rw [World.frozen?_setCell];exact h.fr j⟩
theorem set4_grown (w:World) (R:Nat) (a b c d:Value):w.grownBy ((((w.setCell ⟨R,0,none⟩ a).setCell ⟨R,1,none⟩ b).setCell ⟨R,2,none⟩ c).setCell ⟨R,3,none⟩ d) (some R):=
 grown_set (grown_set (grown_set (set_grown w R 0 a) b) c) d
theorem infoRecord:(Tryz.prog.info? 62).map (fun i=>(i.zero,i.size,i.bytes))=some (some (.agg #[.string ⟨#[]⟩,.int .i64 0,.int .i64 0,.string ⟨#[]⟩]),4,48):=by kernel_rfl
def builtEnd (o:Option (List UInt8)):Ending:=
 match o with
 | none=>.returned (.tuple #[.string ⟨#[]⟩,.int .i64 6])
 | some t=>.returned (.tuple #[.string ⟨(M.sealed t).toArray⟩,.int .i64 0])
def Parsed (T:ByteArray) (w:World) (e:Ending) (w':World):Prop:=
 (∃ (l:List Rec) (ao:Option Addr) (cap base:Nat),e=.returned (.tuple #[.slice ao l.length cap,.int .i64 0])∧plainText l=some T.data.toList∧w.heap.size≤base∧w'.ownsRow base 62 4 (.slice ao l.length cap) l.length (recCells l))
 ∨ (e=.returned (.tuple #[.slice none 0 0,.int .i64 2])∧∀ rs,plainText rs≠some T.data.toList)
def sealText (t:List UInt8):ByteArray:=⟨(M.sealed t).toArray⟩
theorem sealText_inj {a b:List UInt8} (h:sealText a=sealText b):a=b:=by
 have h1:M.sealed a=M.sealed b:=by
  have:=congrArg (fun x:ByteArray=>x.data.toList) h
  simpa [sealText] using this
 have hl:a.length=b.length:=by
  have:=congrArg List.length h1
  rw [M.sealed_length,M.sealed_length] at this
  omega
 unfold M.sealed at h1
 exact (List.append_inj h1 hl).1
def ParsedAny (s:ByteArray) (w:World) (e:Ending) (w':World):Prop:=
 (s.size<4∧e=.returned (.tuple #[.slice none 0 0,.int .i64 2]))
 ∨ (4≤s.size∧(∀ t,sealText t≠s)∧e=.returned (.tuple #[.slice none 0 0,.int .i64 3]))
 ∨ (∃ T:ByteArray,sealText T.data.toList=s∧Parsed T w e w')
theorem len8_size:(Lib.len8tab.size:Int)=256:=by decide +kernel
theorem len8_small:∀ i:Fin 256,((Lib.len8tab.data.toList[i.1]?).getD 0).toNat≤8:=by decide +kernel
theorem len8_tiny:∀ i:Fin 17,((Lib.len8tab.data.toList[i.1]?).getD 0).toNat≤5:=by decide +kernel
theorem len8_get (i:Nat) (h:i<Lib.len8tab.size):(Lib.len8tab[i]).toNat=((Lib.len8tab.data.toList[i]?).getD 0).toNat:=by
 rw [List.getElem?_eq_getElem (by simpa using h)]
 rfl
def LenSaid (w:World) (e:Ending) (w':World):Prop:=(∃ k:Nat,e=.returned (.int .i64 (k:Int))∧k≤13)∧w'=w
theorem len64_low (x:Int) (w:World) (h0:0≤x) (h1:x<256):Calls Tryz.prog 203 #[.int .u64 x] w (LenSaid w):=by
 have hs:=len8_size
 go_enter Tryz.func203,Tryz.ntmps203
 go_wp2
 go_ret
 have hl:=len8_small ⟨x.toNat,by omega⟩
 rw [←len8_get x.toNat (by omega)] at hl
 refine ⟨⟨(Lib.len8tab[x.toNat]).toNat,congrArg Ending.returned (congrArg (Value.int IntKind.i64) ?_),by omega⟩,rfl⟩
 unfold wrap64
 omega
theorem len64_high (x:Int) (w:World) (h0:256≤x) (h1:x≤4096):Calls Tryz.prog 203 #[.int .u64 x] w (LenSaid w):=by
 have hs:=len8_size
 go_enter Tryz.func203,Tryz.ntmps203
 go_wp2
 go_ret
 have hl:=len8_tiny ⟨(x / 256).toNat,by omega⟩
 rw [←len8_get (x / 256).toNat (by omega)] at hl
 refine ⟨⟨8+(Lib.len8tab[(x / 256).toNat]).toNat,congrArg Ending.returned (congrArg (Value.int IntKind.i64) ?_),by omega⟩,rfl⟩
 unfold wrap64
 omega
theorem bitsLen_any (n:Nat) (hn:n≤4096) (w:World):Calls Tryz.prog 197 #[.int .u64 (n:Int)] w (LenSaid w):=by
 have H:Hid (∀ w:World,Calls Tryz.prog 203 #[.int .u64 (n:Int)] w (LenSaid w)):=fun w=>by
  by_cases h:n<256
  ·exact len64_low n w (by omega) (by omega)
  ·exact len64_high n w (by omega) (by omega)
 go_enter Tryz.func197,Tryz.ntmps197
 go_wp2_with fail
 refine (H.out _).mono ?_
 rintro e w1 ⟨⟨k,rfl,hk⟩,rfl⟩
 go_wp2_with fail
 go_ret
 exact ⟨⟨k,rfl,hk⟩,rfl⟩
end Go.Proofs.YtekdenkllipehabGreatDoor
