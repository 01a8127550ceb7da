import Derived.Test.YtekdenkllipehaaGreatDoorP36
import Derived.Deep.Slices
import Derived.SizedLaws
import Derived.OpenShut
import Derived.ShutString
import Derived.Carry
set_option maxRecDepth 99999
set_option maxHeartbeats 0
namespace Go.Proofs.YtekdenkllipehaaGreatDoor
open Go.RowKit
section
variable{b c h i wb:Nat}{dt fp:Bool}{p:SOp}{tg:Tags}{w w0:World}
structure Ue where
 p:SOp
 ko:Option Addr
 kc:Nat
def KJ(w:World)(so:Option Addr)(L:List Ue):Prop:=
 ∀(i:Nat)(x:Ue),L[i]?=some x->NQ w x.p.ks x.ko/\KZ x.p/\∃g off,so=some ⟨g,off,none⟩/\g<w.heap.size/\∀j v,(x.p.cells x.ko x.kc)[j]?=some v->w.cell? ⟨g,off+i*8+j,none⟩=some v
def Dc(L:List Ue):Nat:=(L.map fun x=>x.p.key.size+x.p.value.size).sum
def Wz(H:M.Hou)(_:Option S.Sto):Prop:=H.armed=false/\H.flipped=false
def Whole1(H:M.Hou)(X:Option S.Sto):Prop:=H.armed=false/\H.flipped=false/\X.isSome=true
theorem gP(w0:World)(hT:Tab w0)(dt fp:Bool):Az ⟨w0,0,none⟩ (w0.alloc (.cells #[.slice none 0 0,.bool dt,.bool fp] 28)) (fun _=>(0,0)) w0.heap.size dt fp (fun _ _=>True) [] 0 0:=by
 have hv:=AZ w0 [.slice none 0 0,.bool dt,.bool fp] 28;exact⟨(Q.refl w0).alloc _ _,hT,fun _ _=>rfl,fun _ _=>by simp,zLK _,hv.1,rfl,fun j=>by simp,hv.cell 1 rfl,hv.cell 2 rfl,⟨none,0,hv.cell 0 rfl,World.ownsRow_nil _ _ _ _,fun g hg=>by simp[Value.ownBlock]at hg⟩,fun ob e=>(by cases e),fun i h hi=>by simp at hi⟩
theorem Az.hold{R:M.Hou->Option S.Sto->Prop}{bl:List Nat}(hW:Az ⟨w0,0,none⟩ w tg wb dt fp R bl c b)(o:Obj):∃ob AU,(w.alloc o).heap[w.heap.size]?=some ob/\Az ⟨w0,w.heap.size,some ob⟩ (w.alloc o) AU wb dt fp R bl c b:=by
 have q:Q w (w.alloc o):=⟨(Q.refl w).below.alloc (zLK _) _⟩;have h:=hW.keep q (zLK c) (zLK b) (fun _ _ e=>e);obtain⟨ob,fQ⟩:∃ob,(w.alloc o).heap[w.heap.size]?=some ob:=⟨_,heap_alloc_new w o⟩;obtain⟨ao,cap,r0,r1,r2⟩:=hW.row;obtain⟨ao2,cap2,s0,s1,s2⟩:=h.row;refine⟨ob,_,fQ,⟨h.q,h.tab,h.z,h.low,h.hi,h.top,h.tw,h.fr,h.c1,h.c2,⟨ao2,cap2,s0,s1,fun g hg=>⟨(s2 g hg).1,(s2 g hg).2.1,fun _=>?_⟩⟩,fun ob2 e=>?_,h.each⟩⟩
 .have e1:(w.alloc o).cell? ⟨wb,0,none⟩=some (.slice ao bl.length cap):=AA r0 q;rw[s0]at e1;injection e1 with e1;rw[e1]at hg;have:=(r1.lt g hg).2;show g≠w.heap.size
  omega
 .injection e with e;subst e;have:=hW.top;exact⟨fQ,by unfold Dk;rw[if_neg (by show¬w.heap.size<w.heap.size;omega)],by show w.heap.size≠wb;omega,by show w.heap.size<_;simp⟩
theorem Az.first{w0:Bas}(hW:Az w0 w tg wb dt fp Whole1 [h] c b):∃g cap s,w.cell? ⟨wb,0,none⟩=some (.slice (some ⟨g,0,none⟩) 1 cap)/\w.cell? ⟨g,0,none⟩=some (OH h)/\w.cell? ⟨h,2,none⟩=some (.pointer (some ⟨s,0,none⟩)):=by
 obtain⟨g,cap,h',y0,hh,yc⟩:=hW.at (i:=0) (by simp);simp only[zLY,zLO]at hh;subst hh;obtain⟨H,T,X,ls,⟨d,sv,lo,lc,L,ids,ps,_,Us,_,hST⟩,_,_,_,hR⟩:=hW.each 0 h rfl;have hX:=(hR rfl).2.2;obtain⟨X1,rfl⟩:∃X1,X=some X1:=Option.isSome_iff_exists.1 hX;obtain⟨s,_,_,rfl,_⟩:=hST;exact⟨g,cap,s,y0,yc,Us.c2⟩
def Fs:List SOp:=[⟨2,0,⟨#[]⟩,0,⟨#[]⟩,[],0,0⟩,⟨3,0,⟨#[107]⟩,0,⟨#[111,110,101]⟩,[],0,0⟩,⟨5,0,⟨#[107]⟩,7,⟨#[]⟩,[],0,0⟩,⟨7,0,⟨#[]⟩,0,⟨#[]⟩,[],0,0⟩]
theorem WQ(h:p∈Fs):KZ p:=by
 simp only[Fs,zME,List.mem_nil_iff,or_false]at h;rcases h with rfl|rfl|rfl|rfl<;>exact⟨by unfold I64;simp,by unfold I64;simp,by unfold I64;simp,by unfold I64;simp,by simp[ByteArray.size],by simp[ByteArray.size]⟩
theorem dw{w0:Bas}(hi:Fs[i]?=some p)(hW:Az w0 w tg wb dt fp (if i=0 then Wz else Whole1) [h] (2*i) (8*i)):
  Calls Tryz.prog 8 #[.pointer (some ⟨wb,0,none⟩),.agg (p.cells none 0)] w fun e w'=>LP w0 wb dt fp Whole1 [h] (2*(i+1)) (8*(i+1)) e w':=by
 have hlt:i<4:=(zLI.1 hi).1;have hf:=WQ (zLR hi);have weak:∀b',b'<=8*(i+1)->∀e w',LP w0 wb dt fp Whole1 [h] (2*i+2) b' e w'->LP w0 wb dt fp Whole1 [h] (2*(i+1)) (8*(i+1)) e w':=fun b' hb e w' hx=>by
  obtain⟨he,AU,hx⟩:=hx;exact⟨he,_,hx.keep (Q.refl _) (by omega) hb (fun _ _ e=>e)⟩
 by_cases h0:i=0
 .subst h0;simp only[Fs,zLY,zLO]at hi;subst hi;rw[if_pos rfl]at hW;exact(RY (R2:=Whole1) hW (by simp) (by simp) (by omega) (by omega) _ none 0 hf rfl (fun H X K Y h1 h2=>⟨h2.1.trans h1.1,h2.2.1.trans h1.2,h2.2.2 h1.1 h1.2⟩) (fun e=>by simp at e)).mono (weak _ (by omega))
 .rw[if_neg h0]at hW;have hk:(3<=p.kind/\p.kind<=8)/\p.key.size+p.value.size<=8:=by
   (have:i=1\/i=2\/i=3:=by omega);rcases this with rfl|rfl|rfl<;>(simp only[Fs,zLZ,zLY,zLO]at hi;subst hi;simp[ByteArray.size])
  exact(Oh (R2:=Whole1) hW (by simp) (by simp) (by omega) (by omega) p none 0 hf hk.1 (Or.inl ⟨by simp,fun H X h1=>⟨h1.2.2,fun K Y h2=>⟨h2.1.trans h1.1,h2.2.1.trans h1.2.1,h2.2.2⟩⟩⟩)).mono (weak _ (by omega))
abbrev KE:Array Value:=#[.int .i64 2,.int .i64 0,.string ⟨#[]⟩,.int .i64 0,.string ⟨#[]⟩,.slice none 0 0,.int .i64 0,.int .i64 0,.int .i64 3,.int .i64 0,.string ⟨#[107]⟩,.int .i64 0,.string ⟨#[111,110,101]⟩,.slice none 0 0,.int .i64 0,.int .i64 0,.int .i64 5,.int .i64 0,.string ⟨#[107]⟩,.int .i64 7,.string ⟨#[]⟩,.slice none 0 0,.int .i64 0,.int .i64 0,.int .i64 7,.int .i64 0,.string ⟨#[]⟩,.int .i64 0,.string ⟨#[]⟩,.slice none 0 0,.int .i64 0,.int .i64 0]
theorem YX{t:TypeId}{j:Nat}{v:Value}(hi:Fs[i]?=some p)(hv:(p.cells none 0)[j]?=some v):(w.alloc (.cells KE t)).cell? ⟨w.heap.size,i*8+j,none⟩=some v:=by
 have hlt:i<4:=(zLI.1 hi).1;have hj:j<8:=(zLM.1 hv).1;have e:(w.alloc (.cells KE t)).cell? ⟨w.heap.size,i*8+j,none⟩=KE[i*8+j]?:=by simp
 rw[e];have hi4:i=0\/i=1\/i=2\/i=3:=by omega
 have hj8:j=0\/j=1\/j=2\/j=3\/j=4\/j=5\/j=6\/j=7:=by omega
 rcases hi4 with rfl|rfl|rfl|rfl<;>(simp only[Fs,zLZ,zLY,zLO]at hi;subst hi;rcases hj8 with rfl|rfl|rfl|rfl|rfl|rfl|rfl|rfl<;>exact hv)
theorem Wm{L:List Ue}{x:Ue}(h:L[i]?=some x):Dc (L.take (i+1))=Dc (L.take i)+(x.p.key.size+x.p.value.size):=by
 unfold Dc;rw[zLv,h];simp
theorem l8(L:List Ue)(i:Nat):Dc (L.take i)<=Dc L:=by
 have h:Dc L=Dc (L.take i)+Dc (L.drop i):=by
  unfold Dc;rw[<-List.sum_append,<-List.map_append,zLq]
 omega
theorem Sw(hT:Tab w0)(L:List Ue)(so:Option Addr)(sc:Nat)(hL:KJ w0 so L)(hlen:L.length<=131072)(hbk:Dc L<=1048576)(dt fp:Bool):
  Calls Tryz.prog 6 #[.slice so L.length sc,.bool dt,.bool fp] w0 fun e w'=>e=.returned (.int .i64 (-1))/\Q w0 w':=by
 have MD:Hid _:=fun(_:Unit)=>RZ (R2:=Wz) (gP w0 hT dt fp) (by simp) 65536 (by unfold I64;omega) (fun _ n=>⟨rfl,rfl⟩) (fun e=>absurd rfl e);have HL:=h_ hL;go_in;go_wp2_with fail;apply(MD.out ()).mono;rintro e w2⟨rfl,D5,h,hW2⟩;obtain⟨ob,Co,fQ,hW3⟩:=hW2.hold (.cells KE 32);obtain⟨w3,hw3⟩:=ex (w2.alloc (.cells KE 32));rw[<-hw3]at fQ hW3;have yo:Hid (∀(W:World)(tg:Tags)(R:M.Hou->Option S.Sto->Prop)(bl:List Nat)(c b:Nat),Az ⟨w0,w2.heap.size,some ob⟩ W tg w0.heap.size dt fp R bl c b->∀i p j v,Fs[i]?=some p->(p.cells none 0)[j]?=some v->W.cell? ⟨w2.heap.size,i*8+j,none⟩=some v):=fun W tg R bl c b hW i p j v hi hv=>by
  have e1:=(hW.ex ob rfl).1;rw[zMI (w:=w3) (a:=⟨w2.heap.size,i*8+j,none⟩) (e1.trans fQ.symm),hw3];exact YX hi hv
 have HW3:=h_ hW3;have zw:=h_ hw3;go_upto_region 6 with fail
 rw[show w2.alloc (.cells #[.int .i64 2,.int .i64 0,.string ⟨#[]⟩,.int .i64 0,.string ⟨#[]⟩,.slice none 0 0,.int .i64 0,.int .i64 0,.int .i64 3,.int .i64 0,.string ⟨#[107]⟩,.int .i64 0,.string ⟨#[111,110,101]⟩,.slice none 0 0,.int .i64 0,.int .i64 0,.int .i64 5,.int .i64 0,.string ⟨#[107]⟩,.int .i64 7,.string ⟨#[]⟩,.slice none 0 0,.int .i64 0,.int .i64 0,.int .i64 7,.int .i64 0,.string ⟨#[]⟩,.int .i64 0,.string ⟨#[]⟩,.slice none 0 0,.int .i64 0,.int .i64 0] 32)=w3 from zw.out.symm];go_wp2_with fail
 go_loopw [8,10] (fun tok ti wr=>∃i:Nat,tok=.bool true/\ti=.int .i64 (i:Int)/\i<=4/\Hid (∃tg,Az ⟨w0,w2.heap.size,some ob⟩ wr tg w0.heap.size dt fp (if i=0 then Wz else Whole1) [h] (2*i) (8*i))) (fun _ ti _=>4-(intOf ti).toNat)
 case atStart=>exact⟨0,rfl,rfl,by omega,Co,by rw[if_pos rfl];exact HW3.out⟩
 case round =>
  obtain⟨i,rfl,rfl,hi4,HW⟩:=hrel;by_cases hlt:i<4
  .obtain⟨p,hp⟩:∃p,Fs[i]?=some p:=⟨_,zLH (by simpa[Fs]using hlt)⟩;obtain⟨tg,hW⟩:=HW.out;have q0:=fun j v hv=>yo.out wr tg _ _ _ _ hW i p j v hp hv;have x0:=q0 0 _ rfl;have x1:=q0 1 _ rfl;have x2:=q0 2 _ rfl;have x3:=q0 3 _ rfl;have x4:=q0 4 _ rfl;have x5:=q0 5 _ rfl;have x6:=q0 6 _ rfl;have x7:=q0 7 _ rfl;rw[Nat.add_zero]at x0;have ST:=hU (dw hp hW);have I4:(i:Int)<4:=by omega
   (((go_wp2_with fail;apply(ST.out ()).mono;rintro e w5⟨rfl,JX,LJ⟩;obtain⟨g,cap,s,y0,y1,y2⟩:=LJ.first;have HW5:Hid (∃tg,Az ⟨w0,w2.heap.size,some ob⟩ w5 tg w0.heap.size dt fp (if i+1=0 then Wz else Whole1) [h] (2*(i+1)) (8*(i+1))):=⟨JX,by rw[if_neg (by omega)];exact LJ⟩;go_wp2_with fail);go_roundw);case rel=>exact⟨i+1,rfl,by go_num,by omega,HW5⟩);case measure=>simp[intOf];omega
  .obtain rfl:i=4:=by omega
   rw[show((4:Nat):Int)=4 from rfl];have HWB:Hid (∃tg bl,Az ⟨w0,w2.heap.size,some ob⟩ wr tg w0.heap.size dt fp (fun _ _=>True) bl (8+2*0) (32+Dc (L.take 0))/\0<bl.length/\bl.length<=1+0):=by
    obtain⟨tg,hW⟩:=HW.out;exact⟨_,[h],hW.keep (Q.refl _) (by omega) (by omega) (fun _ _ _=>trivial),by simp,by simp⟩
   go_wp2_with fail
   go_loopw [8,11] (fun tok ti wr=>∃k:Nat,tok=.bool true/\ti=.int .i64 (k:Int)/\k<=L.length/\Hid (∃tg bl,Az ⟨w0,w2.heap.size,some ob⟩ wr tg w0.heap.size dt fp (fun _ _=>True) bl (8+2*k) (32+Dc (L.take k))/\0<bl.length/\bl.length<=1+k)) (fun _ ti _=>L.length-(intOf ti).toNat)
   case atStart=>exact⟨0,rfl,rfl,zLS _,HWB⟩
   case round =>
    obtain⟨k,rfl,rfl,hk1,HK⟩:=hrel;by_cases hlt:k<L.length
    ·((((obtain⟨x,hx⟩:∃x,L[k]?=some x:=⟨_,zLH hlt⟩;obtain⟨hks,hfit,g,off,rfl,hg,hc⟩:=HL.out k x hx;obtain⟨tg,bl,hW,hb1,hb2⟩:=HK.out;have hbt:=Wm hx;have hbl:=l8 L k;have q0:=fun j v hv=>AA (hc j v hv) hW.q;have x0:=q0 0 _ rfl;have x1:=q0 1 _ rfl;have x2:=q0 2 _ rfl;have x3:=q0 3 _ rfl;have x4:=q0 4 _ rfl;have x5:=q0 5 _ rfl;have x6:=q0 6 _ rfl;have x7:=q0 7 _ rfl;rw[Nat.add_zero]at x0;have ST:=hU (Z9 hW hb1 (by omega) (by omega) (by omega) x.p x.ko x.kc hfit hks);have I4:(k:Int)<(L.length:Int):=by omega);have HB:=h_2 hbt hb2;go_wp2_with fail;apply(ST.out ()).mono;rintro e w5⟨rfl,JX,bl5,LJ,hb5,hb6⟩;have HK5:Hid (∃tg bl,Az ⟨w0,w2.heap.size,some ob⟩ w5 tg w0.heap.size dt fp (fun _ _=>True) bl (8+2*(k+1)) (32+Dc (L.take (k+1)))/\0<bl.length/\bl.length<=1+(k+1)):=⟨_,bl5,LJ.keep (Q.refl _) (by omega) (by rw[HB.out.1];omega) (fun _ _ e=>e),hb5,by have:=HB.out.2;omega⟩;go_wp2_with fail);go_roundw);case rel=>exact⟨k+1,rfl,by go_num,by omega,HK5⟩);case measure=>simp[intOf];omega
    .obtain rfl:k=L.length:=by omega
     have HQ:Hid (Q w0 wr):=by
      obtain⟨tg,bl,hW,_⟩:=HK.out;exact hW.q
     go_wp2;go_ret;exact⟨rfl,HQ.out⟩
end
section
open Go.Deep Go.ChangeShapes Go.WideShapes
variable{W:World}{a:Addr}{fuel:Nat}{v:Value}
theorem sJ:Tryz.prog.cellsOf 32=8:=by kernel_rfl
theorem lq:Tryz.prog.cellsOf 9=1:=by kernel_rfl
theorem Wi:Tryz.prog.cellsOf 3=1:=by kernel_rfl
theorem eu:Tryz.prog.cellsOf 30=1:=by kernel_rfl
theorem NN(b off i:Nat):(⟨b,off,none⟩:Addr).add i=⟨b,off+i,none⟩:=by
 by_cases h:i=0
 .subst h;simp[Addr.add]
 .simp[Addr.add,h]
theorem lu{w:World}(h:w.cell? a=some v):a.block<w.heap.size:=by
 unfold World.cell? at h;split at h
 .rename_i hh;exact(zLM.1 hh).1
 .cases h
theorem Zb{z:Int}(h:(Lit.int .i64 z).wf=true):I64 z:=by
 have e1:IntKind.i64.min=-9223372036854775808:=by decide
 have e2:IntKind.i64.max=9223372036854775807:=by decide
 simp only[Lit.wf,e1,e2,Bool.and_eq_true,zMF]at h;exact h
theorem jD{H:Type}{enc:TypeId×Value->H}{x:DataW H×List MemPlace}(h:DataW.trod enc Tryz.prog W 0 (fun _=>true) true fuel 30 [v]=some x):
  ∃(ko:Option Addr)(ks:List Int)(kc:Nat),v=.slice ko ks.length kc/\NQ W ks ko:=by
 rcases open_slice1 Tryz.underlying30 Wi h with⟨hcs,rfl⟩|⟨a,len,cap,m,n,V,D,Pl,hcs,hb,hl,hm,hmm,rfl,hall⟩
 .simp only[List.cons.injEq,and_true]at hcs;exact⟨none,[],0,hcs,fun j x hx=>by simp at hx⟩
 .simp only[List.cons.injEq,and_true]at hcs;have hlm:len<=m:=by rw[hmm];simp;omega
  have each:∀i,i<len->∃z:Int,W.cell? (a.add i)=some (.int .i64 z):=by
   intro i hi;obtain⟨h1,h2⟩:=hall i (by omega);obtain⟨z,e,hx,_⟩:=DataW.trod_int Tryz.underlying3 h2;simp only[List.cons.injEq,and_true]at e;exact⟨z,by rw[h1,e]⟩
  obtain⟨q,hq⟩:=choose_lt each;refine⟨some a,(List.range len).map q,cap,by simpa using hcs,?_⟩;intro j x hx;have hj:j<len:=by have:=(zLI.1 hx).1;simpa using this
  have hr:x=q j:=by
   rw[zLy,List.getElem?_range hj]at hx;simpa using hx.symm
  subst hr;have hc:=hq j hj;obtain⟨b,off,spot⟩:=a;have hspot:spot=none:=by simpa[Addr.add]using World.cell?_spot (hq 0 (by omega))
  subst hspot;rw[NN]at hc;exact⟨b,off,rfl,hc,lu hc⟩
def zDQ{H:Type}(o:Ue)(d:DataW H):Prop:=
 ∃kd,d=.agg [.lit (.int .i64 o.p.kind),.lit (.int .i64 o.p.dk),.lit (.string o.p.key.data.toList),.lit (.int .i64 o.p.stamp),.lit (.string o.p.value.data.toList),kd,.lit (.int .i64 o.p.a),.lit (.int .i64 o.p.b)]
theorem sQ{H:Type}(d:DataW H):1<=Rows.uptoBulk d:=by
 cases d with
 |lit l=>cases l<;>simp[Rows.uptoBulk]
 |_=>simp[Rows.uptoBulk]
theorem oK{H:Type}{o:Ue}{d:DataW H}(h:zDQ o d):9+(o.p.key.size+o.p.value.size)<=Rows.uptoBulk d:=by
 obtain⟨kd,rfl⟩:=h;have:=sQ kd;simp only[Rows.uptoBulk,Rows.uptoBulkAll];have e1:o.p.key.data.toList.length=o.p.key.size:=Array.length_toList;have e2:o.p.value.data.toList.length=o.p.value.size:=Array.length_toList;omega
theorem ZQ{H:Type}:∀(L:List Ue)(es:List (DataW H)),es.length=L.length->(∀(i:Nat)(o:Ue),L[i]?=some o->∃e:DataW H,es[i]?=some e/\zDQ o e)->9*L.length+Dc L<=Rows.uptoBulkAll es
 |[],es,_,_=>by simp[Dc]
 |o::L,[],h,_=>by simp at h
 |o::L,e::es,h,ha=>by
  have h1:=ZQ L es (by simpa using h) (fun i x hx=>by
   have:=ha (i+1) x (by simpa using hx);simpa using this)
  obtain⟨e',he,hd⟩:=ha 0 o rfl;simp only[zLY,zLO]at he;subst he;have h2:=oK hd;have e1:Dc (o::L)=(o.p.key.size+o.p.value.size)+Dc L:=by simp[Dc]
  rw[e1];simp only[Rows.uptoBulkAll,zLQ];omega
def SAt(W:World)(a:Addr)(o:Ue):Prop:=∀j v,(o.p.cells o.ko o.kc)[j]?=some v->W.cell? (a.add j)=some v
theorem o9{H:Type}{enc:TypeId×Value->H}{cs:List Value}{x:DataW H×List MemPlace}(h1:W.cells? 0 a 8=some cs)(h:DataW.trod enc Tryz.prog W 0 (fun _=>true) true fuel 32 cs=some x):
  ∃o:Ue,zDQ o x.1/\SAt W a o/\NQ W o.p.ks o.ko/\I64 o.p.dk/\I64 o.p.stamp/\I64 o.p.a/\I64 o.p.b:=by
 obtain⟨_,hlen,hcell⟩:=World.cells?_some h1;obtain⟨xs,k,hk,hxy,_,hxl,hf⟩:=DataW.trod_struct Tryz.underlying32 h
 match xs,hxl,cs,hlen with
 |[y0,y1,y2,y3,y4,y5,y6,y7],_,[v0,v1,v2,v3,v4,v5,v6,v7],_ =>
  have g0:=hf 0 _ rfl;have g1:=hf 1 _ rfl;have g2:=hf 2 _ rfl;have g3:=hf 3 _ rfl;have g4:=hf 4 _ rfl;have g5:=hf 5 _ rfl;have g6:=hf 6 _ rfl;have g7:=hf 7 _ rfl;simp[lq,Wi,eu]at g0 g1 g2 g3 g4 g5 g6 g7;obtain⟨z0,e0,x0,w0⟩:=DataW.trod_int Tryz.underlying3 g0;obtain⟨z1,e1,x1,w1⟩:=DataW.trod_int Tryz.underlying3 g1;obtain⟨s2,e2,x2,_⟩:=DataW.trod_string Tryz.underlying9 g2;obtain⟨z3,e3,x3,w3⟩:=DataW.trod_int Tryz.underlying3 g3;obtain⟨s4,e4,x4,_⟩:=DataW.trod_string Tryz.underlying9 g4;obtain⟨ko,ks,kc,e5,na⟩:=jD g5;obtain⟨z6,e6,x6,w6⟩:=DataW.trod_int Tryz.underlying3 g6;obtain⟨z7,e7,x7,w7⟩:=DataW.trod_int Tryz.underlying3 g7;simp only[List.cons.injEq,and_true]at e0 e1 e2 e3 e4 e6 e7;subst e0 e1 e2 e3 e4 e5 e6 e7 x0 x1 x2 x3 x4 x6 x7;subst hxy;refine⟨⟨⟨z0,z1,s2,z3,s4,ks,z6,z7⟩,ko,kc⟩,⟨y5.1,by simp⟩,fun j v hv=>?_,na,Zb w1,Zb w3,Zb w6,Zb w7⟩;have hj:j<8:=(zLM.1 hv).1;have hc:=hcell j hj;rw[hc];have hj8:j=0\/j=1\/j=2\/j=3\/j=4\/j=5\/j=6\/j=7:=by omega
  rcases hj8 with rfl|rfl|rfl|rfl|rfl|rfl|rfl|rfl<;>simpa using hv
theorem PY{H:Type}{enc:TypeId×Value->H}{ao:Option Addr}{len cap:Nat}{d:DataW H}{ps:List MemPlace}(h:DataW.Trod enc Tryz.prog W 0 (fun _=>true) true 22 (.slice ao len cap) d ps)(hb:Rows.uptoBulk d<=1048576):
  ∃L:List Ue,len=L.length/\9*L.length+Dc L<=1048576/\KJ W ao L:=by
 obtain⟨fuel,hf⟩:=h;rcases open_slice Tryz.underlying22 hf with⟨hcs,hx⟩|⟨a,len',cap',m,n,D,Pl,hcs,hbb,hl,hm,hmm,hx,hall⟩
 .simp[Value.cells]at hcs;obtain⟨rfl,rfl,rfl⟩:=hcs;exact⟨[],rfl,by simp[Dc],fun i o ho=>by simp at ho⟩
 .simp[Value.cells]at hcs;obtain⟨rfl,rfl,rfl⟩:=hcs;simp only[Prod.mk.injEq]at hx;have hlm:len<=m:=by rw[hmm];simp;omega
  have each:∀i,i<len->∃o:Ue,zDQ o (D i)/\SAt W (a.add (i*8)) o/\NQ W o.p.ks o.ko/\I64 o.p.dk/\I64 o.p.stamp/\I64 o.p.a/\I64 o.p.b:=by
   intro i hi;obtain⟨cs',h1,h2⟩:=hall i (by omega);rw[sJ]at h1;exact o9 h1 h2
  haveI:Inhabited Ue:=⟨⟨⟨0,0,⟨#[]⟩,0,⟨#[]⟩,[],0,0⟩,none,0⟩⟩
  obtain⟨q,hq⟩:=choose_lt each;have hget:∀i o,((List.range len).map q)[i]?=some o->i<len/\o=q i:=fun i o hi=>by
   (have hil:i<len:=by have:=(zLI.1 hi).1;simpa using this);rw[zLy,List.getElem?_range hil]at hi;exact⟨hil,by simpa using hi.symm⟩
  have zBG:9*((List.range len).map q).length+Dc ((List.range len).map q)<=1048576:=by
   have h1:=ZQ ((List.range len).map q) ((List.range len).map D) (by simp) (fun i o hi=>by
    obtain⟨hil,rfl⟩:=hget i o hi;exact⟨D i,by rw[zLy,List.getElem?_range hil];rfl,(hq i hil).1⟩)
   rw[hx.1]at hb;simp only[Rows.uptoBulk]at hb;omega
  refine⟨(List.range len).map q,by simp,zBG,?_⟩;intro i o hi;have hit:=Wm hi;have hle:=l8 ((List.range len).map q) (i+1);obtain⟨hil,rfl⟩:=hget i o hi;obtain⟨_,k0,k1,k2,k3,k4,k5⟩:=hq i hil;obtain⟨b,off,spot⟩:=a;have hspot:spot=none:=by simpa[Addr.add]using World.cell?_spot ((hq 0 (by omega)).2.1 0 _ rfl)
  subst hspot;rw[NN]at k0;have hcell:∀j v,((q i).p.cells (q i).ko (q i).kc)[j]?=some v->W.cell? ⟨b,off+i*8+j,none⟩=some v:=fun j v hv=>by
   have:=k0 j v hv;rw[NN]at this;exact this
  exact⟨k1,⟨k2,k3,k4,k5,by omega,by omega⟩,b,off,rfl,lu (hcell 0 _ rfl),hcell⟩
end
end Go.Proofs.YtekdenkllipehaaGreatDoor
