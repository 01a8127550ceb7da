import Derived.Test.YtekdenkllipehabGreatDoorA48
import Derived.Deep.Slices
import Derived.SizedLaws
import Derived.OpenShut
import Derived.ShutString
import Derived.Carry
set_option maxRecDepth 100000
set_option maxHeartbeats 8000000
namespace Go.Proofs.YtekdenkllipehabGreatDoor
open Go.RowKit Go.Deep Go.ChangeShapes Go.WideShapes
variable {W:World} {a:Addr} {ao:Option Addr} {cs:List Value} {fuel:Nat} {ps:List MemPlace} {v:Value}
theorem zOM:Tryz.prog.cellsOf 100=5:=by kernel_rfl
theorem zHg:Tryz.prog.cellsOf 9=1:=by kernel_rfl
theorem zHh:Tryz.prog.cellsOf 3=1:=by kernel_rfl
theorem zLC:Tryz.prog.cellsOf 51=1:=by kernel_rfl
theorem zMl:Tryz.prog.bytesOf 3=8:=by kernel_rfl
def zJ9 {H:Type} (ks:List Int) (d:DataW H):Prop:=(ks=[]∧d=.nil)∨∃ sp,d=.slice (ks.map fun x=>.lit (.int .i64 x)) sp
def zJr (W:World) (ko:Option Addr) (ks:List Int):Prop:=
 (ko=none→ks=[])∧∀ j x,ks[j]?=some x→∃ b off,ko=some ⟨b,off,none⟩∧W.cell? ⟨b,off+j,none⟩=some (.int .i64 x)∧b<W.heap.size
theorem zAW (b off i:Nat):(⟨b,off,none⟩:Addr).add i=⟨b,off+i,none⟩:=by
 by_cases h:i=0
 ·subst h;simp [Addr.add]
 ·simp [Addr.add,h]
theorem zJ0 {w:World} (h:w.cell? a=some v):a.block<w.heap.size:=by
 unfold World.cell? at h;split at h
 ·rename_i hh;exact (zRB.1 hh).1
 ·cases h
theorem zM8 {H:Type} {enc:TypeId × Value→H} {x:DataW H × List MemPlace} (h:DataW.trod enc Tryz.prog W 0 (fun _=>true) true fuel 51 [v]=some x) :
  ∃ (ko:Option Addr) (ks:List Int) (kc:Nat),v=.slice ko ks.length kc∧zJ9 ks x.1∧zJr W ko ks:=by
 rcases open_slice1 Tryz.underlying51 zHh h with ⟨hcs,rfl⟩|⟨a,len,cap,m,n,V,D,Pl,hcs,hb,hl,hm,hmm,rfl,hall⟩
 ·simp only [List.cons.injEq,and_true] at hcs;exact ⟨none,[],0,hcs,Or.inl ⟨rfl,rfl⟩,fun _=>rfl,fun j x hx=>by simp at hx⟩
 ·simp only [List.cons.injEq,and_true] at hcs;have hlm:len≤m:=by rw [hmm];simp;omega
  have each:∀ i,i<len→∃ z:Int,D i=.lit (.int .i64 z)∧W.cell? (a.add i)=some (.int .i64 z):=by
   intro i hi;obtain ⟨h1,h2⟩:=hall i (by omega);obtain ⟨z,e,hx,_⟩:=DataW.trod_int Tryz.underlying3 h2;simp only [List.cons.injEq,and_true] at e;simp only [Prod.mk.injEq] at hx;exact ⟨z,hx.1,by rw [h1,e]⟩
  obtain ⟨q,hq⟩:=choose_lt each;have hnd:zJ9 ((List.range len).map q) (DataW.slice (H:=H) ((List.range len).map D) ((List.range (m-len)).map fun j=>D (len+j))):=by
   refine Or.inr ⟨(List.range (m-len)).map fun j=>D (len+j),?_⟩;rw [List.map_map];exact congrArg (fun l=>DataW.slice l _) (List.map_congr_left fun i hi=>(hq i (List.mem_range.1 hi)).1)
  refine ⟨some a,(List.range len).map q,cap,by simpa using hcs,hnd,fun h=>(by cases h),?_⟩;intro j x hx;have hj:j<len:=by have:=(zR7.1 hx).1;simpa using this
  have hr:x=q j:=by
   rw [zRn,List.getElem?_range hj] at hx;simpa using hx.symm
  subst hr;obtain ⟨_,hc⟩:=hq j hj;obtain ⟨b,off,spot⟩:=a;have hspot:spot=none:=by simpa [Addr.add] using World.cell?_spot (hq 0 (by omega)).2
  subst hspot;rw [zAW] at hc;exact ⟨b,off,rfl,hc,zJ0 hc⟩
def zJq {H:Type} (o:Stq) (d:DataW H):Prop:=
 ∃ kd,d=.agg [.lit (.int .i64 o.kind),.lit (.int .i64 o.key),.lit (.int .i64 o.ahead),.lit (.string o.value.data.toList),kd]∧zJ9 o.keep kd
def zPs (W:World) (a:Addr) (o:Stq):Prop:=
 W.cell? a=some (.int .i64 o.kind)∧W.cell? (a.add 1)=some (.int .i64 o.key)∧W.cell? (a.add 2)=some (.int .i64 o.ahead)∧W.cell? (a.add 3)=some (.string o.value)∧W.cell? (a.add 4)=some (.slice o.ko o.keep.length o.kc)
theorem zNc {H:Type} {enc:TypeId × Value→H} {x:DataW H × List MemPlace} (h1:W.cells? 0 a 5=some cs) (h:DataW.trod enc Tryz.prog W 0 (fun _=>true) true fuel 100 cs=some x) :
  ∃ o:Stq,zJq o x.1∧zPs W a o∧zJr W o.ko o.keep∧(Lit.int .i64 o.key).wf=true∧(Lit.int .i64 o.ahead).wf=true:=by
 obtain ⟨_,hlen,hcell⟩:=World.cells?_some h1;obtain ⟨xs,k,hk,hxy,_,hxl,hf⟩:=DataW.trod_struct Tryz.underlying100 h
 match xs,hxl,cs,hlen with
 | [y0,y1,y2,y3,y4],_,[v0,v1,v2,v3,v4],_ =>
  have g0:=hf 0 _ rfl;have g1:=hf 1 _ rfl;have g2:=hf 2 _ rfl;have g3:=hf 3 _ rfl;have g4:=hf 4 _ rfl;simp [zHg,zHh,zLC] at g0 g1 g2 g3 g4;obtain ⟨z0,e0,x0,w0⟩:=DataW.trod_int Tryz.underlying3 g0;obtain ⟨z1,e1,x1,w1⟩:=DataW.trod_int Tryz.underlying3 g1;obtain ⟨z2,e2,x2,w2⟩:=DataW.trod_int Tryz.underlying3 g2;obtain ⟨s3,e3,x3,_⟩:=DataW.trod_string Tryz.underlying9 g3;obtain ⟨ko,ks,kc,e6,nd,na⟩:=zM8 g4;simp only [List.cons.injEq,and_true] at e0 e1 e2 e3;subst e0 e1 e2 e3 e6 x0 x1 x2 x3;have c0:=hcell 0 (by omega);have c1:=hcell 1 (by omega);have c2:=hcell 2 (by omega);have c3:=hcell 3 (by omega);have c4:=hcell 4 (by omega);subst hxy;refine ⟨⟨z0,z1,z2,s3,ks,ko,kc⟩,⟨y4.1,by simp,nd⟩,⟨by simpa [Addr.add] using c0,by simpa using c1,by simpa using c2,by simpa using c3,by simpa using c4⟩,na,w1,w2⟩
def zQa (W:World) (so:Option Addr) (ops:List Stq):Prop:=
 ∀ i o,ops[i]?=some o→∃ b off,so=some ⟨b,off,none⟩∧b<W.heap.size∧zPs W ⟨b,off+i*5,none⟩ o∧zJr W o.ko o.keep∧(Lit.int .i64 o.key).wf=true∧(Lit.int .i64 o.ahead).wf=true
theorem zM7 {H:Type} {enc:TypeId × Value→H} {len cap:Nat} {d:DataW H} (h:DataW.Trod enc Tryz.prog W 0 (fun _=>true) true 40 (.slice ao len cap) d ps) :
  ∃ ops:List Stq,len=ops.length∧((ops=[]∧d=.nil)∨∃ (es sp:List (DataW H)),d=.slice es sp∧es.length=ops.length∧∀ (i:Nat) (o:Stq),ops[i]?=some o→∃ e:DataW H,es[i]?=some e∧zJq o e)∧zQa W ao ops:=by
 obtain ⟨fuel,hf⟩:=h;rcases open_slice Tryz.underlying40 hf with ⟨hcs,hx⟩|⟨a,len',cap',m,n,D,Pl,hcs,hb,hl,hm,hmm,hx,hall⟩
 ·simp [Value.cells] at hcs;obtain ⟨rfl,rfl,rfl⟩:=hcs;simp only [Prod.mk.injEq] at hx;exact ⟨[],rfl,Or.inl ⟨rfl,hx.1⟩,fun i o ho=>by simp at ho⟩
 ·simp [Value.cells] at hcs;obtain ⟨rfl,rfl,rfl⟩:=hcs;simp only [Prod.mk.injEq] at hx;have hlm:len≤m:=by rw [hmm];simp;omega
  have each:∀ i,i<len→∃ o:Stq,zJq o (D i)∧zPs W (a.add (i*5)) o∧zJr W o.ko o.keep∧(Lit.int .i64 o.key).wf=true∧(Lit.int .i64 o.ahead).wf=true:=by
   intro i hi;obtain ⟨cs',h1,h2⟩:=hall i (by omega);rw [zOM] at h1;exact zNc h1 h2
  haveI:Inhabited Stq:=⟨⟨0,0,0,⟨#[]⟩,[],none,0⟩⟩
  obtain ⟨q,hq⟩:=choose_lt each;have hget:∀ i o,((List.range len).map q)[i]?=some o→i<len∧o=q i:=fun i o hi=>by
   have hil:i<len:=by have:=(zR7.1 hi).1;simpa using this
   rw [zRn,List.getElem?_range hil] at hi;exact ⟨hil,by simpa using hi.symm⟩
  refine ⟨(List.range len).map q,by simp,Or.inr ⟨_,_,hx.1,by simp,?_⟩,?_⟩
  ·intro i o hi;obtain ⟨hil,rfl⟩:=hget i o hi;exact ⟨D i,by rw [zRn,List.getElem?_range hil];rfl,(hq i hil).1⟩
  ·intro i o hi;obtain ⟨hil,rfl⟩:=hget i o hi;obtain ⟨_,k0,k1⟩:=hq i hil;obtain ⟨b,off,spot⟩:=a;have hspot:spot=none:=by simpa [Addr.add] using World.cell?_spot (hq 0 (by omega)).2.1.1
   subst hspot;rw [zAW] at k0;exact ⟨b,off,rfl,zJ0 k0.1,k0,k1⟩
theorem zC8 {H:Type} {P:Program} {e:TypeId}:∀ {l:List (DataW H)} {d:DataW H} {n:Nat},d∈l→n∈DataW.weights P e d→n∈DataW.weightsAll P e l
 | [],_,_,h,_=>by simp at h
 | x::l,d,n,h,hn=>by
  simp only [DataW.weightsAll,zS2];rcases zS3.1 h with rfl|h
  ·exact Or.inl hn
  ·exact Or.inr (zC8 h hn)
theorem zI8 {H:Type} (o:Stq) (d:DataW H) (h:zJq o d):o.value.size∈DataW.weights Tryz.prog 100 d∧(o.keep=[]∨∃ n,o.keep.length*8≤n∧n∈DataW.weights Tryz.prog 100 d):=by
 obtain ⟨kd,rfl,hk⟩:=h;refine ⟨by simp [DataW.weights,DataW.weightsEach,Tryz.underlying100],?_⟩;rcases hk with ⟨hk,rfl⟩|⟨sp,rfl⟩
 ·exact Or.inl hk
 ·right;refine ⟨(o.keep.length+sp.length)*8,by omega,?_⟩;simp [DataW.weights,DataW.weightsEach,Tryz.underlying100,Tryz.underlying51,zMl]
theorem zON:Tryz.prog.cellsOf 104=2:=by kernel_rfl
theorem zOR:Tryz.prog.bytesOf 104=32:=by kernel_rfl
theorem zNe {H:Type} {enc:TypeId × Value→H} {x:DataW H × List MemPlace} (h1:W.cells? 0 a 2=some cs) (h:DataW.trod enc Tryz.prog W 0 (fun _=>true) true fuel 104 cs=some x) :
  ∃ f:ByteArray × ByteArray,W.cell? a=some (.string f.1)∧W.cell? (a.add 1)=some (.string f.2):=by
 obtain ⟨_,hlen,hcell⟩:=World.cells?_some h1;obtain ⟨xs,k,hk,hxy,_,hxl,hf⟩:=DataW.trod_struct Tryz.underlying104 h
 match xs,hxl,cs,hlen with
 | [y0,y1],_,[v0,v1],_ =>
  have g0:=hf 0 _ rfl;have g1:=hf 1 _ rfl;simp [zHg] at g0 g1;obtain ⟨s0,e0,_,_⟩:=DataW.trod_string Tryz.underlying9 g0;obtain ⟨s1,e1,_,_⟩:=DataW.trod_string Tryz.underlying9 g1;simp only [List.cons.injEq,and_true] at e0 e1;subst e0 e1;have c0:=hcell 0 (by omega);have c1:=hcell 1 (by omega);exact ⟨(s0,s1),by simpa [Addr.add] using c0,by simpa using c1⟩
theorem zM9 {H:Type} {enc:TypeId × Value→H} {len cap:Nat} {d:DataW H} (h:DataW.Trod enc Tryz.prog W 0 (fun _=>true) true 54 (.slice ao len cap) d ps) :
  ∃ l:List (ByteArray × ByteArray),len=l.length∧((l=[]∧d=.nil)∨∃ (es sp:List (DataW H)),d=.slice es sp∧es.length=l.length)∧zAt W ao l:=by
 obtain ⟨fuel,hf⟩:=h;rcases open_slice Tryz.underlying54 hf with ⟨hcs,hx⟩|⟨a,len',cap',m,n,D,Pl,hcs,hb,hl,hm,hmm,hx,hall⟩
 ·simp [Value.cells] at hcs;obtain ⟨rfl,rfl,rfl⟩:=hcs;simp only [Prod.mk.injEq] at hx;exact ⟨[],rfl,Or.inl ⟨rfl,hx.1⟩,fun i o ho=>by simp at ho⟩
 ·simp [Value.cells] at hcs;obtain ⟨rfl,rfl,rfl⟩:=hcs;simp only [Prod.mk.injEq] at hx;have hlm:len≤m:=by rw [hmm];simp;omega
  have each:∀ i,i<len→∃ f:ByteArray × ByteArray,W.cell? (a.add (i*2))=some (.string f.1)∧W.cell? ((a.add (i*2)).add 1)=some (.string f.2):=by
   intro i hi;obtain ⟨cs',h1,h2⟩:=hall i (by omega);rw [zON] at h1;exact zNe h1 h2
  haveI:Inhabited (ByteArray × ByteArray):=⟨(⟨#[]⟩,⟨#[]⟩)⟩
  obtain ⟨q,hq⟩:=choose_lt each;have hget:∀ i o,((List.range len).map q)[i]?=some o→i<len∧o=q i:=fun i o hi=>by
   have hil:i<len:=by have:=(zR7.1 hi).1;simpa using this
   rw [zRn,List.getElem?_range hil] at hi;exact ⟨hil,by simpa using hi.symm⟩
  refine ⟨(List.range len).map q,by simp,Or.inr ⟨_,_,hx.1,by simp⟩,?_⟩;intro i o hi;obtain ⟨hil,rfl⟩:=hget i o hi;obtain ⟨k0,k1⟩:=hq i hil;obtain ⟨b,off,spot⟩:=a;have hspot:spot=none:=by simpa [Addr.add] using World.cell?_spot (hq 0 (by omega)).1
  subst hspot;rw [zAW] at k0 k1;rw [zAW] at k1;exact ⟨b,off,rfl,k0,k1,zJ0 k0⟩
end Go.Proofs.YtekdenkllipehabGreatDoor
