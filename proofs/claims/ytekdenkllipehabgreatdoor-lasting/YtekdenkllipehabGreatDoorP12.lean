import Derived.Test.YtekdenkllipehabGreatDoorP10
import Derived.Test.YtekdenkllipehabGreatDoorRows
import Derived.Test.YtekdenkllipehabGreatDoorProg
import Derived.Lib.Strings
import Derived.Lib.Slices
import Derived.Lib.Small
import Derived.Lib.Walk
import Derived.Lib.BitFns
set_option maxRecDepth 100000
set_option maxHeartbeats 8000000
namespace Go.Proofs.YtekdenkllipehabGreatDoor
open Go.RowKit
variable {B:Nat} {C L:List Rec} {ao:Option Addr} {u x y z:Value} {w w' w0 wr:World}
def Rec.cells (r:Rec):List Value:=[.string r.key,.int .i64 r.stamp,.int .i64 r.kind,.string r.body]
def zG (rs:List Rec):List Value:=rs.flatMap Rec.cells
theorem yO (A B:List Rec):zG (A++B)=zG A++zG B:=by simp [zG]
theorem Zn (r:Rec):zG [r]=r.cells:=by simp [zG]
theorem Zo (L:List Rec):(zG L).length=L.length*4:=by
 induction L with
 | nil=>rfl
 | cons s L ih=>show (s.cells++zG L).length=_;rw [zQg,ih];simp [Rec.cells];omega
theorem zD4:∀ {L:List Rec} {k:Nat} {r:Rec},L[k]?=some r→(zG L)[k*4]?=some (.string r.key)∧(zG L)[k*4+1]?=some (.int .i64 r.stamp)∧(zG L)[k*4+2]?=some (.int .i64 r.kind)∧(zG L)[k*4+3]?=some (.string r.body)
 | [],_,_,h=>by simp at h
 | t::L,0,r,h=>by
  simp at h;subst h;exact ⟨rfl,rfl,rfl,rfl⟩
 | t::L,k+1,r,h=>by
  have e:zG (t::L)=.string t.key::.int .i64 t.stamp::.int .i64 t.kind::.string t.body::zG L:=rfl;have ih:=zD4 (L:=L) (k:=k) (r:=r) (by simpa using h);rw [e,show (k+1)*4=k*4+1+1+1+1 by omega];simpa using ih
theorem zAr.of_cells {g o:Nat} (h:∀ j u,(zG L)[j]?=some u→w.cell? ⟨g,o+j,none⟩=some u):zAr w g o L:=fun k r hr=>by
 obtain ⟨h0,h1,h2,h3⟩:=zD4 hr;exact ⟨h _ _ h0,h _ _ h1,h _ _ h2,h _ _ h3⟩
theorem Yg (w:World) (r:Rec) (t:TypeId):∀ j u,r.cells[j]?=some u→(w.alloc (.cells #[.string r.key,.int .i64 r.stamp,.int .i64 r.kind,.string r.body] t)).cell? ((⟨w.heap.size,0,none⟩:Addr).add j)=some u:=by
 intro j u hj
 match j,hj with
 | 0,hj=>simp [Rec.cells] at hj;subst hj;simp [Addr.add]
 | 1,hj=>simp [Rec.cells] at hj;subst hj;simp [Addr.add]
 | 2,hj=>simp [Rec.cells] at hj;subst hj;simp [Addr.add]
 | 3,hj=>simp [Rec.cells] at hj;subst hj;simp [Addr.add]
 | j+4,hj=>simp [Rec.cells] at hj
theorem Zw (r:Rec):∀ u∈r.cells,u.oneCell'=true:=by
 intro u hu;simp [Rec.cells] at hu;rcases hu with rfl | rfl | rfl | rfl<;>rfl
structure zOa (w0:World) (L:List Rec) (ao:Option Addr) (cap:Nat) (wr:World):Prop where
 below:Below w0.heap.size w0 wr
 own:wr.ownsRow w0.heap.size 62 4 (.slice ao L.length cap) L.length (zG L)
theorem zOa.start (w0:World):zOa w0 [] none 0 w0:=⟨Below.refl _ _,World.ownsRow_nil _ _ _ _⟩
theorem zOa.kept {wr':World} {cap:Nat} (h:zOa w0 C ao cap wr) (q:Q wr wr'):zOa w0 C ao cap wr':=
 ⟨h.below.trans (q.below.mono h.below.size),own_below h.own q.below⟩
theorem zOa.push {r:Rec} {ao':Option Addr} {cap cap':Nat} (h:zOa w0 C ao cap wr)
  (hg:wr.grownBy w' (Value.slice ao C.length cap).ownBlock)
  (ho:w'.ownsRow w0.heap.size 62 4 (.slice ao' (C.length+1) cap') (C.length+1) (zG C++r.cells)) :
  zOa w0 (C++[r]) ao' cap' w':=by
 refine ⟨h.below.grown hg h.below.size (Ya h.own),?_⟩;rw [yO,Zn,zQg];exact ho
theorem zCH {base:Nat} {cap:Nat} (h:w.ownsRow base 62 4 (.slice ao L.length cap) L.length (zG L)) (hne:L≠[]):∃ g,ao=some ⟨g,0,none⟩∧g<w.heap.size∧zAr w g 0 L:=by
 have hl:=Zo L;have hL:L.length≠0:=fun e=>hne (zQi e);rcases h.2 with ⟨_,h0⟩|⟨g,c,cur,hv,hg,hh,_⟩
 ·exact absurd h0 hL
 ·injection hv with e1 _ e3;subst e1 e3;have hlt:g<w.heap.size:=by
   rcases zR8 g w.heap.size with hl|hl
   ·exact hl
   ·rw [zRP hl] at hh;simp at hh
  refine ⟨g,rfl,hlt,zAr.of_cells fun j u hu=>?_⟩;have hj:j<(zG L).length:=(zQd.1 hu).1;rw [zR5,h.cellAt j (by omega)];exact hu
structure zLB (w:World) (B:Nat) (x y z u:Value):Prop where
 c0:w.cell? ⟨B,0,none⟩=some x
 c1:w.cell? ⟨B,1,none⟩=some y
 c2:w.cell? ⟨B,2,none⟩=some z
 c3:w.cell? ⟨B,3,none⟩=some u
 fr:∀ j,w.frozen? ⟨B,j,none⟩=false
theorem zJd {p:Addr} {v:Value} (h:w.cell? p=some v):p.block<w.heap.size:=by
 rcases zR8 p.block w.heap.size with hl|hl
 ·exact hl
 ·unfold World.cell? at h;rw [zRP hl] at h;simp at h
theorem zLB.grown {row:Option Nat} (h:zLB w B x y z u) (hg:w.grownBy w' row) (hne:row≠some B):zLB w' B x y z u:=by
 have hb:w'.heap[B]?=w.heap[B]?:=hg.block B (zJd h.c0) (fun e=>hne e.symm);exact ⟨(zRc (a:=⟨B,0,none⟩) hb).trans h.c0,(zRc (a:=⟨B,1,none⟩) hb).trans h.c1,(zRc (a:=⟨B,2,none⟩) hb).trans h.c2,(zRc (a:=⟨B,3,none⟩) hb).trans h.c3,fun j=>(zRf (a:=⟨B,j,none⟩) hb).trans (h.fr j)⟩
theorem zJ1 (w:World) (x y z u:Value) (t:TypeId):zLB (w.alloc (.cells #[x,y,z,u] t)) w.heap.size x y z u:=⟨by simp,by simp,by simp,by simp,fun j=>by simp⟩
theorem zLB.set (h:zLB w B x y z u) (a b c d:Value):zLB ((((w.setCell ⟨B,0,none⟩ a).setCell ⟨B,1,none⟩ b).setCell ⟨B,2,none⟩ c).setCell ⟨B,3,none⟩ d) B a b c d:=by
 have k1:(w.setCell ⟨B,0,none⟩ a).cell? ⟨B,1,none⟩=some y:=by rw [zRb _ _ _ _ (by simp)];exact h.c1
 have k2:((w.setCell ⟨B,0,none⟩ a).setCell ⟨B,1,none⟩ b).cell? ⟨B,2,none⟩=some z:=by rw [zRb _ _ _ _ (by simp),zRb _ _ _ _ (by simp)];exact h.c2
 have k3:(((w.setCell ⟨B,0,none⟩ a).setCell ⟨B,1,none⟩ b).setCell ⟨B,2,none⟩ c).cell? ⟨B,3,none⟩=some u:=by rw [zRb _ _ _ _ (by simp),zRb _ _ _ _ (by simp),zRb _ _ _ _ (by simp)];exact h.c3
 refine ⟨?_,?_,?_,zRd _ _ _ k3,fun j=>by simp only [zRe];exact h.fr j⟩
 ·rw [zRb _ _ _ _ (by simp),zRb _ _ _ _ (by simp),zRb _ _ _ _ (by simp)];exact zRd _ _ _ h.c0
 ·rw [zRb _ _ _ _ (by simp),zRb _ _ _ _ (by simp)];exact zRd _ _ _ k1
 ·rw [zRb _ _ _ _ (by simp)];exact zRd _ _ _ k2
theorem zCB (w:World) (R o:Nat) (v:Value):w.grownBy (w.setCell ⟨R,o,none⟩ v) (some R):=Yj (YI (Q.refl w) _) v
theorem zLB.set2 (h:zLB w B x y z u) (b:Value):zLB (w.setCell ⟨B,2,none⟩ b) B x y b u:=
 ⟨by rw [zRb _ _ _ _ (by simp)];exact h.c0,by rw [zRb _ _ _ _ (by simp)];exact h.c1,zRd _ _ _ h.c2,by rw [zRb _ _ _ _ (by simp)];exact h.c3,fun j=>by rw [zRe];exact h.fr j⟩
theorem zLB.zOm (h:zLB w B x y z u) (b:Value):zLB (w.setCell ⟨B,3,none⟩ b) B x y z b:=
 ⟨by rw [zRb _ _ _ _ (by simp)];exact h.c0,by rw [zRb _ _ _ _ (by simp)];exact h.c1,by rw [zRb _ _ _ _ (by simp)];exact h.c2,zRd _ _ _ h.c3,fun j=>by rw [zRe];exact h.fr j⟩
theorem zK8 (w:World) (R:Nat) (a b c d:Value):w.grownBy ((((w.setCell ⟨R,0,none⟩ a).setCell ⟨R,1,none⟩ b).setCell ⟨R,2,none⟩ c).setCell ⟨R,3,none⟩ d) (some R):=
 Yj (Yj (Yj (zCB w R 0 a) b) c) d
theorem zKg:(Tryz.prog.info? 62).map (fun i=>(i.zero,i.size,i.bytes))=some (some (.agg #[.string ⟨#[]⟩,.int .i64 0,.int .i64 0,.string ⟨#[]⟩]),4,48):=by kernel_rfl
def zDW (o:Option (List UInt8)):Ending:=
 match o with
 | none=>.returned (.tuple #[.string ⟨#[]⟩,.int .i64 6])
 | some t=>.returned (.tuple #[.string ⟨(M.sealed t).toArray⟩,.int .i64 0])
def Parsed (T:ByteArray) (w:World) (e:Ending) (w':World):Prop:=
 (∃ (l:List Rec) (ao:Option Addr) (cap base:Nat),e=.returned (.tuple #[.slice ao l.length cap,.int .i64 0])∧zK l=some T.data.toList∧w.heap.size≤base∧w'.ownsRow base 62 4 (.slice ao l.length cap) l.length (zG l))
 ∨ (e=.returned (.tuple #[.slice none 0 0,.int .i64 2])∧∀ rs,zK rs≠some T.data.toList)
def y9 (t:List UInt8):ByteArray:=⟨(M.sealed t).toArray⟩
theorem zAz {a b:List UInt8} (h:y9 a=y9 b):a=b:=by
 have h1:M.sealed a=M.sealed b:=by
  have:=congrArg (fun x:ByteArray=>x.data.toList) h;simpa [y9] using this
 have hl:a.length=b.length:=by
  have:=congrArg List.length h1;rw [M.ze,M.ze] at this;omega
 unfold M.sealed at h1;exact (List.append_inj h1 hl).1
def zMn (s:ByteArray) (w:World) (e:Ending) (w':World):Prop:=
 (s.size<4∧e=.returned (.tuple #[.slice none 0 0,.int .i64 2]))
 ∨ (4≤s.size∧(∀ t,y9 t≠s)∧e=.returned (.tuple #[.slice none 0 0,.int .i64 3]))
 ∨ (∃ T:ByteArray,y9 T.data.toList=s∧Parsed T w e w')
theorem zHB:(Lib.len8tab.size:Int)=256:=by decide +kernel
theorem zKS:∀ i:Fin 256,((Lib.len8tab.data.toList[i.1]?).getD 0).toNat≤8:=by decide +kernel
theorem zM6:∀ i:Fin 17,((Lib.len8tab.data.toList[i.1]?).getD 0).toNat≤5:=by decide +kernel
theorem len8_get (i:Nat) (h:i<Lib.len8tab.size):(Lib.len8tab[i]).toNat=((Lib.len8tab.data.toList[i]?).getD 0).toNat:=by
 rw [zQc (by simpa using h)];rfl
def zGO (w:World) (e:Ending) (w':World):Prop:=(∃ k:Nat,e=.returned (.int .i64 (k:Int))∧k≤13)∧w'=w
theorem zM7 (x:Int) (w:World) (h0:0≤x) (h1:x<256):Calls Tryz.prog 203 #[.int .u64 x] w (zGO w):=by
 have hs:=zHB;go_enter Tryz.func203,Tryz.ntmps203
 go_wp2
 go_ret;have hl:=zKS ⟨x.toNat,by omega⟩;rw [←len8_get x.toNat (by omega)] at hl;refine ⟨⟨(Lib.len8tab[x.toNat]).toNat,congrArg Ending.returned (congrArg (Value.int IntKind.i64) ?_),by omega⟩,rfl⟩;unfold wrap64;omega
theorem zKT (x:Int) (w:World) (h0:256≤x) (h1:x≤4096):Calls Tryz.prog 203 #[.int .u64 x] w (zGO w):=by
 have hs:=zHB;go_enter Tryz.func203,Tryz.ntmps203
 go_wp2
 go_ret;have hl:=zM6 ⟨(x / 256).toNat,by omega⟩;rw [←len8_get (x / 256).toNat (by omega)] at hl;refine ⟨⟨8+(Lib.len8tab[(x / 256).toNat]).toNat,congrArg Ending.returned (congrArg (Value.int IntKind.i64) ?_),by omega⟩,rfl⟩;unfold wrap64;omega
theorem zIw (n:Nat) (hn:n≤4096) (w:World):Calls Tryz.prog 197 #[.int .u64 (n:Int)] w (zGO w):=by
 have H:Hid (∀ w:World,Calls Tryz.prog 203 #[.int .u64 (n:Int)] w (zGO w)):=fun w=>by
  by_cases h:n<256
  ·exact zM7 n w (by omega) (by omega)
  ·exact zKT n w (by omega) (by omega)
 go_enter Tryz.func197,Tryz.ntmps197;go_wp2_with fail;refine (H.out _).mono ?_;rintro e w1 ⟨⟨k,rfl,hk⟩,rfl⟩;go_wp2_with fail;go_ret;exact ⟨⟨k,rfl,hk⟩,rfl⟩
end Go.Proofs.YtekdenkllipehabGreatDoor
