import Derived.Test.YtekdenkllipehabGreatDoorP47
set_option maxRecDepth 100000
set_option maxHeartbeats 8000000
namespace Go.Proofs.YtekdenkllipehabGreatDoor
open Go.RowKit
variable {C:S.Con} {L:List S.zZ} {P:S.Sto→Prop} {T:S.Two} {X:S.Sto} {bs:List (List Rec)} {clock wc:Int} {d m o od r rr s:Nat} {tg:Tags} {w w' w0:World}
structure zGM (w0 w:World) (tg:Tags) (m rr o od r s d:Nat) (L:List S.zZ) (clock wc water:Int) (T:S.Two) (X:S.Sto) (bs:List (List Rec)) (C:S.Con):Prop where
 run:Run w tg m rr o od r s d L clock wc water T X bs C
 q:Q w0 w
 z:∀ k,k<w0.heap.size→(tg k).1=0
 n:rr≠0∧o≠0∧od≠0
theorem zGM.next {tg':Tags} {P:Nat→Prop} {L':List S.zZ} {water clock' wc' water':Int} {T':S.Two} {X':S.Sto} {bs':List (List Rec)} {C':S.Con} (h:zGM w0 w tg m rr o od r s d L clock wc water T X bs C) (h':Run w' tg' m rr o od r s d L' clock' wc' water' T' X' bs' C') (hK:Kept P tg w tg' w') (hP:∀ x,P x→x=rr∨x=o∨x=od):zGM w0 w' tg' m rr o od r s d L' clock' wc' water' T' X' bs' C':=by
 have hs:=h.q.below.size;refine ⟨h',⟨⟨hK.os.trans h.q.below.os,hK.tape.trans h.q.below.tape,hK.output.trans h.q.below.output,zQq hs hK.size,fun k hk=>?_⟩⟩,fun k hk=>by rw [hK.tags k (by omega)];exact h.z k hk,h.n⟩;rw [hK.block k (by omega) (fun e=>?_)]
 ·exact h.q.below.block k hk
 ·have h0:=h.z k hk;have:=h.n;rcases hP _ e with e | e | e<;>omega
theorem zGM.qq {water:Int} (h:zGM w0 w tg m rr o od r s d L clock wc water T X bs C) (q:Q w w'):zGM w0 w' (junk tg w) m rr o od r s d L clock wc water T X bs C:=by
 refine h.next (P:=fun _=>False) (h.run.q q) (Kept.yU q (fun k hk=>Tags.zD hk)) (fun x e=>e.elim)
def Yp:S.Two:=⟨1048576,none,none,false,0⟩
theorem zFX:S.settle Yp.dsk=(Yp.dsk,0):=by
 rw [S.zCd];rfl
theorem zBo:Yp.dsk.yD:=by
 refine ⟨⟨by decide,by decide,by decide,fun f hf=>?_,fun f hf=>?_⟩,?_,by decide⟩
 ·simp [Yp,S.Two.dsk,S.fileOf] at hf
 ·simp [Yp,S.Two.dsk,S.fileOf] at hf
 ·simp [Yp,S.Two.dsk,S.fileOf,M.Sorted]
theorem zGV:zAs False Yp.dsk [] (-1):=⟨rfl,Or.inl ⟨by rw [S.Two.zCC];rfl,rfl,rfl⟩⟩
theorem zLz:S.yM [] 0 (-1) Yp (yc (-1) [] 0) [] (fun _=>[]):=by
 refine ⟨⟨List.Pairwise.nil,fun f hf=>(by cases hf),fun f hf=>(by cases hf),fun f hf=>(by cases hf),fun f hf=>(by cases hf)⟩,rfl,by omega,by omega,rfl,⟨zFv List.Pairwise.nil (by simp) (zQf _),S.Fil.none yN,fun k=>rfl,fun kr hkr=>(by cases hkr),fun kr hkr=>(by cases hkr),by decide,by decide,by decide⟩,fun k=>⟨0,rfl,by simp [S.fv,S.needs]⟩,rfl,Or.inl ⟨rfl,rfl,rfl⟩,rfl,rfl,rfl,by simp [S.YW]⟩
def zAq:ByteArray:=⟨#[102,105,114,115,116]⟩
def zQ7:ByteArray:=⟨#[111,110,101]⟩
def zFC:S.zZ:=⟨zAq,0,zQ7,true⟩
def zQV (w:World) (e:Ending) (w':World):Prop:=
 ∃ (tg':Tags) (r s d:Nat) (T:S.Two) (X:S.Sto) (bs:List (List Rec)) (C:S.Con),e=.returned (.pointer (some ⟨r,0,none⟩))∧zGM w w' tg' 10 1 3 2 r s d [zFC] 0 (-1) (-1) T X bs C
theorem zLy {w1:World} (hT:Tab w) (q1:Q w w1) (hL1:zC w1 (Tags.more (fun _=>(0,0)) w.heap.size 2 0) 2 w.heap.size Yp.dsk [] []) :
  Calls Tryz.prog 18 #[.pointer (some ⟨w.heap.size,0,none⟩)] w1 fun e w2=>∃ s,e=.returned (.tuple #[.pointer (some ⟨s,0,none⟩),.int .i64 0])∧∃ tg3,zGM w (w2.alloc (.cells #[.pointer (some ⟨w.heap.size,0,none⟩),.pointer (some ⟨s,0,none⟩),.slice none 0 0,.int .i64 0,.int .i64 (-1),.bool true] 33)) tg3 10 1 3 2 w2.heap.size s w.heap.size [] 0 (-1) (-1) Yp (yc (-1) [] 0) [] (fun _=>[]):=by
 have hG:=Zj hT;obtain ⟨tg1,htg1⟩:∃ tg1:Tags,tg1=Tags.more (fun _=>(0,0)) w.heap.size 2 0:=⟨_,rfl⟩;rw [←htg1] at hL1;have t1o:∀ k,k<w.heap.size→tg1 k=(0,0):=fun k hk=>by rw [htg1];exact Tags.zD hk
 have t1l:∀ k,(tg1 k).1=0∨(tg1 k).1=2:=fun k=>by
  rw [htg1];unfold Tags.more;split<;>simp
 refine (zFp (o:=3) (od:=2) (m:=10) (d:=w.heap.size) (T0:=Yp) (bs:=[]) (bad:=False) (wm:=-1) hL1 zBo zGV (S.Fil.none yN) (yE hT q1) (by simp) (fun k _=>by rcases t1l k with e | e<;>omega) (fun k _=>by rcases t1l k with e | e<;>omega) (by omega) (by omega)).mono ?_;rintro e w2 ⟨tg2,ids2,ps2,hK2,hl2,hc⟩;rw [zFX] at hc;rcases hc with ⟨hf,_⟩|⟨hf,_⟩|⟨_,s,hs,rfl,hS2,hD2⟩
 ·exact hf.elim
 ·exact absurd rfl hf
 have hsz1:=q1.below.size;have hGl1:1<w1.heap.size:=by omega
 have hwb:∀ k,k<w.heap.size→w2.heap[k]?=w.heap[k]?:=fun k hk=>(hK2.block k (by omega) (by rw [t1o k hk];simp)).trans (q1.below.block k hk);have q2:Q w w2:=⟨⟨hK2.os.trans q1.below.os,hK2.tape.trans q1.below.tape,hK2.output.trans q1.below.output,zQq hsz1 hK2.size,hwb⟩⟩;have t2o:∀ k,k<w.heap.size→(tg2 k).1=0:=fun k hk=>by rw [hK2.tags k (by omega),t1o k hk]
 obtain ⟨tg3,htg3⟩:∃ tg3:Tags,tg3=tg2.more w2.heap.size 1 0:=⟨_,rfl⟩;have t3o:∀ k,k<w2.heap.size→tg3 k=tg2 k:=fun k hk=>by rw [htg3];exact Tags.zD hk
 have t3r:tg3 w2.heap.size=(1,0):=by rw [htg3];exact Tags.zX (zQf _)
 have qa:Q w2 (w2.alloc (.cells #[.pointer (some ⟨w.heap.size,0,none⟩),.pointer (some ⟨s,0,none⟩),.slice none 0 0,.int .i64 0,.int .i64 (-1),.bool true] 33)):=(Q.refl w2).alloc _ _;have hv:=zI w2 [.pointer (some ⟨w.heap.size,0,none⟩),.pointer (some ⟨s,0,none⟩),.slice none 0 0,.int .i64 0,.int .i64 (-1),.bool true] 33;have hfr:∀ j,(w2.alloc (.cells #[.pointer (some ⟨w.heap.size,0,none⟩),.pointer (some ⟨s,0,none⟩),.slice none 0 0,.int .i64 0,.int .i64 (-1),.bool true] 33)).frozen? ⟨w2.heap.size,j,none⟩=false:=fun j=>by simp
 have hs3:(w2.alloc (.cells #[.pointer (some ⟨w.heap.size,0,none⟩),.pointer (some ⟨s,0,none⟩),.slice none 0 0,.int .i64 0,.int .i64 (-1),.bool true] 33)).heap.size=w2.heap.size+1:=by simp
 refine ⟨s,rfl,tg3,?_⟩;generalize w2.alloc (.cells #[.pointer (some ⟨w.heap.size,0,none⟩),.pointer (some ⟨s,0,none⟩),.slice none 0 0,.int .i64 0,.int .i64 (-1),.bool true] 33)=w3 at qa hv hfr hs3 ⊢;have hTw3:Tab w3:=yE (yB hT (hwb _ hG)) qa;have htG:(tg3 1).1=0:=by rw [t3o _ (by have:=q2.below.size;omega)];exact t2o _ hG
 have hlow3:Low 10 tg3 w3:=fun k hk=>by
  rw [hs3] at hk;by_cases h:k<w2.heap.size
  ·rw [t3o k h];exact hl2 k h
  ·have:k=w2.heap.size:=by omega
   rw [this,t3r];simp
 have hR3:Run w3 tg3 10 1 3 2 w2.heap.size s w.heap.size [] 0 (-1) (-1) Yp (yc (-1) [] 0) [] (fun _=>[]):=by
  refine ⟨⟨hv.1,t3r,hfr,hv.cell 0 rfl,hv.cell 1 rfl,⟨none,0,hv.cell 2 rfl,World.ownsRow_nil _ _ _ _,fun g hg=>by simp [Value.ownBlock] at hg⟩,hv.cell 3 rfl,hv.cell 4 rfl,hv.cell 5 rfl⟩,⟨[],[],ids2,ps2,⟨hS2.keep qa.below.size t3o (fun k hk _=>qa.below.block k hk),hD2.keep qa.below.size t3o (fun k hk _=>qa.below.block k hk),zBo,zGV,zLz.good,hTw3,by rw [htG];exact ⟨by omega,by omega⟩,by omega,rfl,rfl,hlow3,by omega,by omega,by simp⟩⟩,zLz,by omega,by omega,by rw [htG];omega,by omega⟩
 exact ⟨hR3,q2.trans qa,fun k hk=>by rw [t3o k (by have:=q2.below.size;omega)];exact t2o k hk,by omega⟩
theorem zMh (w:World) (hT:Tab w) :
  Calls Tryz.prog 8 #[] w fun e w'=>zQV w e w':=by
 have DN:Hid _:=fun (_:Unit)=>zC0 1048576 (by omega) (fun _=>(0,0)) 2 w;have HT:Hid (Tab w):=hT;clear hT;go_enter Tryz.func8,Tryz.ntmps8;go_wp2_with fail;refine (DN.out ()).mono ?_;rintro e w1 ⟨rfl,hL1,q1⟩;have OP:Hid _:=fun (_:Unit)=>zLy HT.out q1 hL1;obtain ⟨d,hd⟩:∃ d,d=w.heap.size:=⟨_,rfl⟩;clear DN hL1 q1 HT;go_wp2_with fail;refine (OP.out ()).mono ?_;rintro e w2 ⟨s,rfl,tg3,hB3⟩;obtain ⟨r,hr⟩:∃ r,r=w2.heap.size:=⟨_,rfl⟩;obtain ⟨w3,hw3⟩:∃ w3,w3=w2.alloc (.cells #[.pointer (some ⟨d,0,none⟩),.pointer (some ⟨s,0,none⟩),.slice none 0 0,.int .i64 0,.int .i64 (-1),.bool true] 33):=⟨_,rfl⟩;rw [←hd,←hr,←hw3] at hB3;have SY:Hid _:=fun (_:Unit)=>zLe hB3.run zAq 0 zQ7 (fun g hg=>by cases hg) (by omega) (by omega) (by omega) (by decide) (by decide) (by decide);have HB3:Hid (zGM w w3 tg3 10 1 3 2 r s d [] 0 (-1) (-1) Yp (yc (-1) [] 0) [] (fun _=>[])):=hB3;unfold zAq zQ7 at SY;clear OP hB3;go_wp2_with fail;rw [←hd,←hw3,←hr];clear hw3 hr hd;refine (SY.out ()).mono ?_;rintro e w4 ⟨rfl,tg4,X4,hR4,hK4⟩;have hR4':Run w4 tg4 10 1 3 2 r s d [zFC] 0 (-1) (-1) Yp X4 [] (fun _=>[]):=hR4;have hB4:=HB3.out.next hR4' hK4 (fun x e=>by rcases e with e | e<;>simp [e]);have FL:Hid _:=fun (_:Unit)=>zEt hB4.run;have HB4:Hid (zGM w w4 tg4 10 1 3 2 r s d [zFC] 0 (-1) (-1) Yp X4 [] (fun _=>[])):=hB4;clear SY hR4 hR4' hK4 hB4 HB3;go_wp2_with fail;refine (FL.out ()).mono ?_;rintro e w5 ⟨rfl,tg5,T5,X5,bs5,C5,hR5,hp5,hK5⟩;have hB5:=HB4.out.next hR5 hK5 (fun x e=>by rcases e with e | e | e<;>simp [e]);obtain ⟨i1,i2,i3,i4,hr5⟩:=hR5.rdy;have GA:=zEM hr5.sto hr5.good (fun _=>⟨hr5.disk,hr5.fine,hr5.on⟩) hr5.tab zAq 3;have ha:X5.asking zAq 3=0:=by
  unfold S.Sto.asking;rw [hR5.ok.dead,if_neg (by simp),if_neg (by decide),if_neg (by rw [hR5.ok.wm];omega)]
 have htold:S.told (S.zW (X5.con C5 zAq) 3)=(zQ7,true):=by
  rw [hR5.ok.keeps.told (by rw [hR5.ok.wm];omega) zAq];rfl
 rw [ha] at GA;simp only [if_true,false_and,or_false] at GA;rw [htold] at GA;have GB:Hid _:=fun (_:Unit)=>GA;unfold zOM zAq zQ7 at GB;have HB5:Hid (zGM w w5 tg5 10 1 3 2 r s d [zFC] 0 (-1) (-1) T5 X5 bs5 C5):=hB5;clear FL hR5 hp5 hK5 hB5 hr5 GA ha htold HB4;go_wp2_with fail;refine (GB.out ()).mono ?_;rintro e w6 ⟨rfl,q6⟩;have hB6:=HB5.out.qq q6;have c5:=hB6.run.run.c5;have HB6:Hid (zGM w w6 (junk tg5 w5) 10 1 3 2 r s d [zFC] 0 (-1) (-1) T5 X5 bs5 C5):=hB6;clear GB hB6 HB5;go_wp2_with fail;go_ret;exact ⟨_,r,s,d,T5,X5,bs5,C5,rfl,HB6.out⟩
def RB (w0 w:World) (r s d:Nat) (L:List S.zZ) (clock wc water:Int) (P:S.Sto→Prop):Prop:=
 ∃ tg T X bs C,zGM w0 w tg 10 1 3 2 r s d L clock wc water T X bs C∧P X
theorem RB.any {water:Int} (h:RB w0 w r s d L clock wc water P):RB w0 w r s d L clock wc water (fun _=>True):=by
 obtain ⟨tg,T,X,bs,C,h1,_⟩:=h;exact ⟨tg,T,X,bs,C,h1,trivial⟩
theorem RB.q {w0 w w':World} {r s d:Nat} {L:List S.zZ} {clock wc water:Int} {P:S.Sto→Prop} (h:RB w0 w r s d L clock wc water P) (q:Q w w'):RB w0 w' r s d L clock wc water P:=by
 obtain ⟨tg,T,X,bs,C,h1,h2⟩:=h;exact ⟨_,T,X,bs,C,h1.qq q,h2⟩
theorem RB.base {water:Int} (h:RB w0 w r s d L clock wc water P):Q w0 w:=by
 obtain ⟨tg,T,X,bs,C,h1,_⟩:=h;exact h1.q
theorem RB.cells {water:Int} (h:RB w0 w r s d L clock wc water P):w.cell? ⟨r,0,none⟩=some (.pointer (some ⟨d,0,none⟩))∧w.cell? ⟨r,1,none⟩=some (.pointer (some ⟨s,0,none⟩))∧w.cell? ⟨r,4,none⟩=some (.int .i64 wc)∧w.cell? ⟨r,5,none⟩=some (.bool true)∧w.frozen? ⟨r,4,none⟩=false∧w.frozen? ⟨r,5,none⟩=false∧w.cell? ⟨r,3,none⟩=some (.int .i64 clock):=by
 obtain ⟨tg,T,X,bs,C,h1,_⟩:=h;exact ⟨h1.run.run.c0,h1.run.run.c1,h1.run.run.c4,h1.run.run.c5,h1.run.run.fr 4,h1.run.run.fr 5,h1.run.run.c3⟩
theorem zDL {water:Int} (h:RB w0 w r s d L clock wc water P) :
  Calls Tryz.prog 13 #[.pointer (some ⟨r,0,none⟩)] w fun e w'=>e=.returned (.tuple #[])∧RB w0 w' r s d L clock wc water (fun X=>X.zT=false):=by
 obtain ⟨tg,T,X,bs,C,hB,_⟩:=h;refine (zEt hB.run).mono ?_;rintro e w' ⟨rfl,tg',T',X',bs',C',hR,hp,hK⟩;exact ⟨rfl,tg',T',X',bs',C',hB.next hR hK (fun x e=>by rcases e with e | e | e<;>simp [e]),hp⟩
theorem zKK {water:Int} (h:RB w0 w r s d L clock wc water (fun X=>X.zT=false)) :
  Calls Tryz.prog 15 #[.pointer (some ⟨s,0,none⟩)] w fun e w'=>e=.returned (.int .i64 0)∧RB w0 w' r s d L clock wc water (fun X=>X.zT=false):=by
 obtain ⟨tg,T,X,bs,C,hB,hp⟩:=h;obtain ⟨_,_,_,_,hr⟩:=hB.run.rdy;refine (zIm hr hB.run.ok hp).mono ?_;rintro e w' ⟨rfl,hd⟩;obtain ⟨tg',T',X',bs',C',hR,hp',hK⟩:=hB.run.done hd;exact ⟨rfl,tg',T',X',bs',C',hB.next hR hK (fun x e=>by rcases e with e | e | e<;>simp [e]),hp'⟩
theorem zNJ {water:Int} (h:RB w0 w r s d L clock wc water (fun _=>True)) (t:Int) (h1:water≤t) (h2:t≤clock) :
  Calls Tryz.prog 14 #[.pointer (some ⟨s,0,none⟩),.int .i64 t] w fun e w'=>e=.returned (.int .i64 0)∧RB w0 w' r s d L clock wc t (fun _=>True):=by
 obtain ⟨tg,T,X,bs,C,hB,_⟩:=h;obtain ⟨i1,i2,i3,i4,hr⟩:=hB.run.rdy;obtain ⟨ha,hok⟩:=hB.run.ok.raise h1 h2;refine (zLq hr.sto t).mono ?_;rintro e w' ⟨rfl,hS,ho,_⟩;rw [ha] at hS ⊢;rw [if_pos rfl] at hS;have hK:Kept (·=3) tg w tg w':=Kept.yA ho (fun _ _=>rfl) rfl;obtain ⟨tg',hR,hK'⟩:=Run.fin (P:=(·=3)) hr.low hr.tab ⟨hr.tabo.1,hr.tabo.2,hB.run.rG⟩ ⟨hr.om,hr.odm,hB.run.rm⟩ ⟨hr.ne,hB.run.ro,hB.run.rod⟩ hK (fun x e=>Or.inl e) (hB.run.run.keep hK (by omega)) hS (hr.disk.keep hK.size hK.tags (fun k hk e=>hK.block k hk (by rw [e];omega))) hr.fine hok;exact ⟨rfl,tg',T,_,bs,C,hB.next hR hK' (fun x e=>by simp [e]),trivial⟩
theorem RB.water {w0 w:World} {r s d:Nat} {L:List S.zZ} {clock wc water:Int} {P:S.Sto→Prop} (h:RB w0 w r s d L clock wc water P) (t:Int):RB w0 (w.setCell ⟨r,4,none⟩ (.int .i64 t)) r s d L clock t water P:=by
 obtain ⟨tg,T,X,bs,C,hB,hP⟩:=h;obtain ⟨i1,i2,i3,i4,hr⟩:=hB.run.rdy;have hset:=Kept.setAt (w:=w) (tg:=tg) (R:=r) (r:=1) (j:=4) (by rw [hB.run.run.tr]) (.int .i64 t);obtain ⟨tg',hR,hK'⟩:=Run.fin (P:=(·=1)) hr.low hr.tab ⟨hr.tabo.1,hr.tabo.2,hB.run.rG⟩ ⟨hr.om,hr.odm,hB.run.rm⟩ ⟨hr.ne,hB.run.ro,hB.run.rod⟩ hset (fun x e=>Or.inr (Or.inr e)) (hB.run.run.set 4 (.int .i64 t) (d':=d) (s':=s) (clock':=clock) (water':=t) (ok':=true) (by omega) rfl rfl rfl rfl rfl) (hr.sto.keep hset.size hset.tags (fun k hk e=>hset.block k hk (by rw [e];omega))) (hr.disk.keep hset.size hset.tags (fun k hk e=>hset.block k hk (by rw [e];omega))) hr.fine hB.run.ok;exact ⟨tg',T,X,bs,C,hB.next hR hK' (fun x e=>by simp [e]),hP⟩
def pk (n m:Int):Int:=(if n<0 then -(n+1) else n) % m
theorem zBM (n m:Int) (hn:-9223372036854775808≤n∧n≤9223372036854775807) (hm:0<m∧m≤9223372036854775807) (w:World) :
  Calls Tryz.prog 12 #[.int .i64 n,.int .i64 m] w fun e w'=>e=.returned (.int .i64 (pk n m))∧w'=w:=by
 have hm0:¬m=0:=by omega
 have hmb:(m == 0)=false:=by rw [zRU];omega
 by_cases h:n<0
 ·have hw1:IntKind.i64.wrap (n+1)=n+1:=by rw [IntKind.wrap_i64];omega
  have hw2:IntKind.i64.wrap (-(n+1))=-(n+1):=by rw [IntKind.wrap_i64];omega
  have hp:pk n m=(-(n+1)).tmod m:=by
   unfold pk;rw [if_pos h,Int.tmod_eq_emod_of_nonneg (by omega)]
  have hw3:IntKind.i64.wrap ((-(n+1)).tmod m)=(-(n+1)).tmod m:=by
   rw [Int.tmod_eq_emod_of_nonneg (by omega),IntKind.wrap_i64];have h1:=Int.emod_nonneg (-(n+1)) hm0;have h2:=Int.emod_lt_of_pos (-(n+1)) hm.1;omega
  rw [hp];clear hp;go_enter Tryz.func12,Tryz.ntmps12;go_wp2_with fail;go_ret;exact ⟨by simp [Int.neg_tmod],rfl⟩
 ·have hp:pk n m=n.tmod m:=by
   unfold pk;rw [if_neg h,Int.tmod_eq_emod_of_nonneg (by omega)]
  have hw3:IntKind.i64.wrap (n.tmod m)=n.tmod m:=by
   rw [Int.tmod_eq_emod_of_nonneg (by omega),IntKind.wrap_i64];have h1:=Int.emod_nonneg n hm0;have h2:=Int.emod_lt_of_pos n hm.1;omega
  rw [hp];clear hp;go_enter Tryz.func12,Tryz.ntmps12;go_wp2_with fail;go_ret;exact ⟨by simp [Int.tmod_eq_emod_of_nonneg h],rfl⟩
theorem zBL (n m:Int) (hm:0<m):0≤pk n m∧pk n m<m:=by
 unfold pk;exact ⟨Int.emod_nonneg _ (by omega),Int.emod_lt_of_pos _ hm⟩
theorem zMx (s:ByteArray) (hs:s.size≤140737488351232):∃ c:ByteArray,c.size≤4096∧∀ w,Calls Tryz.prog 48 #[.string s] w fun e w'=>e=.returned (.string c)∧w'=w:=by
 by_cases h:4096<s.size
 ·refine ⟨s.extract 0 4096,by simp;omega,fun w=>?_⟩;go_enter Tryz.func48,Tryz.ntmps48;go_wp2_with fail;go_ret;exact ⟨rfl,rfl⟩
 ·refine ⟨s,by omega,fun w=>?_⟩;go_enter Tryz.func48,Tryz.ntmps48;go_wp2_with fail;go_ret;exact ⟨rfl,rfl⟩
theorem zK0 (n:Nat):((n:Int)).tdiv 3=((n / 3:Nat):Int):=by
 rw [Int.tdiv_eq_ediv_of_nonneg (by omega)];omega
theorem zJx (n:Nat):((n:Int)).tmod 3=((n % 3:Nat):Int):=by
 rw [Int.tmod_eq_emod_of_nonneg (by omega)];omega
theorem zIM (n:Int) (hn:-9223372036854775808≤n∧n≤9223372036854775807) (w:World) :
  Calls Tryz.prog 22 #[.int .i64 n] w fun e w'=>∃ k:ByteArray,e=.returned (.string k)∧(1≤k.size∧k.size≤5)∧Q w w':=by
 have HP:Hid _:=zBM n 12 hn (by decide);obtain ⟨m,hm,hm2⟩:∃ m:Nat,pk n 12=(m:Int)∧m<12:=by
  have:=zBL n 12 (by decide);exact ⟨(pk n 12).toNat,by omega,by omega⟩
 rw [hm] at HP;clear hm;have d1:IntKind.i64.wrap ((m:Int).tdiv 3)=((m / 3:Nat):Int):=by rw [zK0,IntKind.wrap_i64];omega
 have d2:IntKind.i64.wrap ((m:Int).tmod 3)=((m % 3:Nat):Int):=by rw [zJx,IntKind.wrap_i64];omega
 obtain ⟨q,hq3⟩:∃ q,q=m / 3:=⟨_,rfl⟩;obtain ⟨r,hr3⟩:∃ r,r=m % 3:=⟨_,rfl⟩;rw [←hq3] at d1;rw [←hr3] at d2;have hq4:q≤3:=by omega
 have hr4:r≤2:=by omega
 have e1:(m:Int) / 3=(q:Int):=by omega
 have e2:(m:Int) % 3=(r:Int):=by omega
 clear hq3 hr3;have a3:IntKind.i64.wrap (97+(r:Int))=97+(r:Int):=by rw [IntKind.wrap_i64];omega
 obtain ⟨c3,hc3⟩:∃ c3:Nat,c3=97+r:=⟨_,rfl⟩;have b3:IntKind.u8.wrap (97+(r:Int))=(c3:Int):=by rw [IntKind.wrap_u8];omega
 have hcv:=zHZ c3;clear hc3;go_enter Tryz.func22,Tryz.ntmps22;go_wp2_with fail;refine (HP.out _).mono ?_;rintro e wx ⟨rfl,hwx⟩;subst hwx;go_wp2_with fail
 go_loopw [4,5] (fun p i wk=>∃ (kb:ByteArray) (j:Nat),p=.string kb∧i=.int .i64 j∧kb.size=j+1∧j≤q∧Q wx wk) (fun _ i _=>q-(intOf i).toNat)
 case atStart=>exact ⟨⟨#[97]⟩,0,rfl,rfl,rfl,by omega,Q.refl _⟩
 case round =>
  obtain ⟨kb,j,rfl,rfl,hk1,hk2,hqk⟩:=hrel;by_cases hj:j<q
  ·have hd:decide ((j:Int)<(q:Int))=true:=by rw [zRa];omega
   have hd2:(m:Int) / 3 > (j:Int):=by omega
   have hsz1:(⟨#[98]⟩:ByteArray).size=1:=rfl;have hadd:∀ W,(Op.stringOp .add kb ⟨#[98]⟩).run Tryz.prog W=.ok (.string (kb++⟨#[98]⟩)) W:=fun W=>run_string_add_sum W _ _ (by rw [hsz1];omega);have hns2:IntKind.i64.wrap ((j:Int)+1)=(j:Int)+1:=by rw [IntKind.wrap_i64];omega
   go_wp2_with fail
   go_roundw
   case rel=>exact ⟨kb++⟨#[98]⟩,j+1,rfl,by go_num,by rw [ByteArray.size_append,hsz1,hk1],by omega,hqk⟩
   case measure=>simp [intOf];omega
  ·obtain rfl:j=q:=by omega
   have hsz1:(⟨#[UInt8.ofNat c3]⟩:ByteArray).size=1:=rfl;have hadd:∀ W,(Op.stringOp .add kb ⟨#[UInt8.ofNat c3]⟩).run Tryz.prog W=.ok (.string (kb++⟨#[UInt8.ofNat c3]⟩)) W:=fun W=>run_string_add_sum W _ _ (by rw [hsz1];omega);go_wp2_with fail;go_ret;exact ⟨kb++⟨#[UInt8.ofNat c3]⟩,rfl,by rw [ByteArray.size_append,hsz1];omega,hqk.alloc _ _⟩
end Go.Proofs.YtekdenkllipehabGreatDoor
namespace Go.Proofs.YtekdenkllipehabGreatDoor.M
variable {i:Nat}
def Fil.full (f:Fil):Fil:={ f with synced:=f.bytes.length }
def ZK (D:Dsk) (i:Nat):Dsk:=⟨1048576,(D.files.take i).map Fil.full,false,0⟩
theorem zJw (fs:List Fil):total (fs.map Fil.full)=total fs:=by
 unfold total;rw [List.map_map];rfl
theorem zBm {α:Type} {p:α→Bool}:∀ {l:List α},(∀ x∈l,p x=true)→l.takeWhile p=l∧l.dropWhile p=[]
 | [],_=>⟨rfl,rfl⟩
 | x::l,h=>by
  have h1:=zBm (l:=l) (fun y hy=>h y (List.mem_cons_of_mem _ hy));rw [zRE,List.dropWhile_cons,h x (List.mem_cons_self ..),if_pos rfl,if_pos rfl,h1.1,h1.2];exact ⟨rfl,rfl⟩
theorem zOw {fs:List Fil} {f:Fil} (h:∀ x∈fs,Op.bytesLess x.name.toList f.name.toList=true):put fs f=fs++[f]:=by
 have hb:∀ x∈fs,(!beyond f.name x)=true:=fun x hx=>by
  unfold beyond;rw [h x hx];rfl
 unfold put;rw [(zBm hb).1,(zBm hb).2]
theorem zKM {fs:List Fil} {nm:ByteArray} (h:∀ x∈fs,Op.bytesLess x.name.toList nm.toList=true):place fs nm=none:=by
 unfold place;rw [List.findIdx?_eq_none_iff];intro x hx;have:=h x hx;unfold named;rw [zRU];intro e;rw [e,yu] at this
 cases this
theorem zHY {D:Dsk} (h:D.yD) {f:Fil} (hf:D.files[i]?=some f) :
  ∃ E,(ZK D i).append f.name f.bytes=(E,0)∧E.sync f.name=(ZK D (i+1),0):=by
 have hi:i<D.files.length:=(zQd.1 hf).1;have hlt:∀ x∈(ZK D i).files,Op.bytesLess x.name.toList f.name.toList=true:=fun x hx=>by
  obtain ⟨y,hy,rfl⟩:=List.mem_map.1 hx;obtain ⟨j,hj,e⟩:=List.mem_take_iff_getElem.1 hy;have hj':j<i∧j<D.files.length:=by omega
  exact h.sorted.get (i:=j) (j:=i) (a:=y) (by rw [←e];exact zQc hj'.2) hf hj'.1
 have hpl:=zKM hlt;have htake:D.files.take (i+1)=D.files.take i++[f]:=by rw [zRG,hf];rfl
 have htot:total (ZK D i).files+f.bytes.length≤1048576:=by
  have h1:total (D.files.take (i+1))≤total D.files:=by
   have h2:D.files=D.files.take (i+1)++D.files.drop (i+1):=(zRB ..).symm;have h3:=zA6 (D.files.take (i+1)) (D.files.drop (i+1));rw [←h2] at h3;omega
  rw [htake,zA6] at h1;have h2:total [f]=f.bytes.length:=by simp [total]
  have h3:total (ZK D i).files=total (D.files.take i):=zJw _;have:=h.good.fits;have:=h.good.cap;omega
 have hlen:(ZK D i).files.length<64:=by
  have:=h.good.few;show ((D.files.take i).map Fil.full).length<64
  rw [zRN,zRR];omega
 have hok:=h.good.name f (zQm hf);refine ⟨⟨1048576,(ZK D i).files++[⟨f.name,f.bytes,0⟩],false,0⟩,?_,?_⟩
 ·unfold Dsk.append;rw [if_neg (by simp [ZK]),hok,if_neg (by simp),if_neg (by
   rintro (e|⟨_,e⟩)
   ·have:(ZK D i).cap=1048576:=rfl;omega
   ·omega)]
  have hd:(ZK D i).dies=(ZK D i,false):=rfl;rw [hd];simp only;rw [hpl];simp only;rw [zOw (f:=⟨f.name,f.bytes,0⟩) hlt];rfl
 ·have hp2:place ((ZK D i).files++[⟨f.name,f.bytes,0⟩]) f.name=some (ZK D i).files.length:=by
   refine zJI (f:=⟨f.name,f.bytes,0⟩) (by simp) (Zy.2 rfl) (fun k hk g hg=>?_);rw [zRV hk] at hg;exact zCh hpl g (zQm hg)
  unfold Dsk.sync Dsk.changed;rw [if_neg (by simp)];simp only;rw [hp2];simp only;rw [if_neg (by decide)];have hd:Dsk.dies ⟨1048576,(ZK D i).files++[⟨f.name,f.bytes,0⟩],false,0⟩=(⟨1048576,(ZK D i).files++[⟨f.name,f.bytes,0⟩],false,0⟩,false):=rfl;rw [hd];simp only;rw [YR _ (a:=⟨f.name,f.bytes,0⟩) (by simp),List.set_append_right _ _ (zQf _),Nat.sub_self];unfold ZK;rw [htake,List.map_append];rfl
theorem zCU {D:Dsk} (h:D.yD):∀ i,i≤D.files.length→(ZK D i).yD
 | 0,_=>zNq (zQf _)
 | i+1,hi=>by
  obtain ⟨E,h1,h2⟩:=zHY h (zQc (show i<D.files.length by omega));have h3:=(zCU h i (by omega)).append (D.files[i]).name (D.files[i]).bytes;rw [h1] at h3;have h4:=h3.sync (D.files[i]).name;rw [h2] at h4;exact h4
theorem zMX {D:Dsk} (h:D.yD) (hd:D.dead=false) {f:Fil} (hf:D.files[i]?=some f):D.read f.name=(f.bytes,0):=by
 unfold Dsk.read;rw [hd,if_neg (by simp),zJH h.sorted hf rfl];simp only;rw [hf];rfl
end Go.Proofs.YtekdenkllipehabGreatDoor.M
namespace Go.Proofs.YtekdenkllipehabGreatDoor
open Go.RowKit
variable {B J d d2 od od2 r rr s:Nat} {D E:M.Dsk} {L:List S.zZ} {P:S.Sto→Prop} {ao:Option Addr} {bs:List (List Rec)} {clock wc:Int} {ids ps:List Nat} {tg tg':Tags} {w w' w0 wr:World}
def Yt (w:World) (tg:Tags) (rr od od2 r d s d2 J:Nat) (L:List S.zZ) (clock wc:Int) (D:M.Dsk) (ids ps:List Nat) (ao:Option Addr) (E:M.Dsk) (wr:World):Prop:=
 ∃ (tgE:Tags) (idsE psE:List Nat),Kept (fun x=>x=rr∨x=od2) tg w tgE wr∧ZQ wr tgE rr r d s L clock wc true∧zC wr tgE od d D ids ps∧zC wr tgE od2 d2 E idsE psE ∧
  ∀ (j:Nat) (f:M.Fil),D.files[j]?=some f→∃ g,ao=some ⟨g,0,none⟩∧wr.cell? ⟨g,j,none⟩=some (.string f.name)∧g<wr.heap.size∧(tgE g).1=J
theorem Yt.at (h:Yt w tg rr od od2 r d s d2 J L clock wc D ids ps ao E wr) :
  wr.cell? ⟨r,0,none⟩=some (.pointer (some ⟨d,0,none⟩))∧wr.cell? ⟨r,5,none⟩=some (.bool true)∧wr.frozen? ⟨r,0,none⟩=false∧wr.frozen? ⟨r,5,none⟩=false∧(∀ (j:Nat) (f:M.Fil),D.files[j]?=some f→∃ g,ao=some ⟨g,0,none⟩∧wr.cell? ⟨g,j,none⟩=some (.string f.name)):=by
 obtain ⟨tgE,idsE,psE,hK,hR,hD,hE,hN⟩:=h;refine ⟨hR.c0,hR.c5,hR.fr 0,hR.fr 5,fun j f hf=>?_⟩;obtain ⟨g,h1,h2,_⟩:=hN j f hf;exact ⟨g,h1,h2⟩
theorem Yt.turn (h:Yt w tg rr od od2 r d s d2 J L clock wc D ids ps ao E wr) (h1:rr≠od2) (h2:od≠od2) (h3:J≠od2) :
  ∃ (tgE:Tags) (idsE psE:List Nat),zC wr tgE od2 d2 E idsE psE∧zC wr tgE od d D ids ps∧∀ (E':M.Dsk) (w':World),zx tgE od2 d2 E' wr w'→Yt w tg rr od od2 r d s d2 J L clock wc D ids ps ao E' w':=by
 obtain ⟨tgE,idsE,psE,hK,hR,hD,hE,hN⟩:=h;refine ⟨tgE,idsE,psE,hE,hD,fun E' w' hL=>?_⟩;obtain ⟨tg',ids',ps',ht,hE',ho⟩:=hL;have hK':Kept (·=od2) tgE wr tg' w':=Kept.yA ho ht rfl;refine ⟨tg',ids',ps',hK.trans (hK'.wider (fun x e=>Or.inr e)),hR.keep hK' h1,hD.keep hK'.size hK'.tags (fun k hk e=>hK'.block k hk (by rw [e];exact h2)),hE',fun j f hf=>?_⟩;obtain ⟨g,g1,g2,g3,g4⟩:=hN j f hf;have hB:=hK'.block g g3 (by rw [g4];exact h3);exact ⟨g,g1,(zRc (a:=⟨g,j,none⟩) hB).trans g2,zQe g3 hK'.size,by rw [hK'.tags g g3];exact g4⟩
theorem Yt.q {w:World} {tg:Tags} {rr od od2 r d s d2 J:Nat} {L:List S.zZ} {clock wc:Int} {D:M.Dsk} {ids ps:List Nat} {ao:Option Addr} {E:M.Dsk} {wr w':World} (h:Yt w tg rr od od2 r d s d2 J L clock wc D ids ps ao E wr) (q:Q wr w'):Yt w tg rr od od2 r d s d2 J L clock wc D ids ps ao E w':=by
 obtain ⟨tgE,idsE,psE,hK,hR,hD,hE,hN⟩:=h;have hK':Kept (fun _=>False) tgE wr tgE w':=Kept.yU q (fun _ _=>rfl);refine ⟨tgE,idsE,psE,hK.trans (hK'.wider (fun x e=>e.elim)),hR.kept q,hD.keep hK'.size hK'.tags (fun k hk e=>hK'.block k hk (fun e=>e)),hE.keep hK'.size hK'.tags (fun k hk e=>hK'.block k hk (fun e=>e)),fun j f hf=>?_⟩;obtain ⟨g,g1,g2,g3,g4⟩:=hN j f hf;exact ⟨g,g1,zA g2 q,zQe g3 hK'.size,g4⟩
theorem Yt.mark (h:Yt w tg rr od od2 r d s d2 J L clock wc D ids ps ao E wr) (h1:rr≠od2) (h2:od≠rr) (h3:J≠rr):Yt w tg rr od od2 r d s d2 J L clock wc D ids ps ao E (wr.setCell ⟨r,5,none⟩ (.bool true)):=by
 obtain ⟨tgE,idsE,psE,hK,hR,hD,hE,hN⟩:=h;have hK':=Kept.setAt (w:=wr) (tg:=tgE) (R:=r) (r:=rr) (j:=5) (by rw [hR.tr]) (.bool true);refine ⟨tgE,idsE,psE,hK.trans (hK'.wider (fun x e=>Or.inl e)),hR.set 5 (.bool true) (by omega) rfl rfl rfl rfl rfl,hD.keep hK'.size hK'.tags (fun k hk e=>hK'.block k hk (by rw [e];exact h2)),hE.keep hK'.size hK'.tags (fun k hk e=>hK'.block k hk (by rw [e];exact fun e=>h1 e.symm)),fun j f hf=>?_⟩;obtain ⟨g,g1,g2,g3,g4⟩:=hN j f hf;have hB:=hK'.block g g3 (by rw [g4];exact h3);exact ⟨g,g1,(zRc (a:=⟨g,j,none⟩) hB).trans g2,zQe g3 hK'.size,g4⟩
theorem zBW (hR:ZQ w tg rr r d s L clock wc true) (hD:zC w tg od d D ids ps) (hF:D.yD) (ha:D.dead=false) (h1:rr≠od2) (h2:od≠od2) (h3:J≠od2) (h4:od≠rr) (h5:J≠rr) :
  Calls Tryz.prog 19 #[.pointer (some ⟨r,0,none⟩)] w fun e w'=>e=.returned (.tuple #[])∧∃ (tg':Tags) (d':Nat) (ids' ps':List Nat),w.heap.size≤d'∧Kept (fun x=>x=rr∨x=od2) tg w tg' w'∧ZQ w' tg' rr r d' s L clock wc true∧zC w' tg' od d D ids ps∧zC w' tg' od2 d' (M.ZK D D.files.length) ids' ps':=by
 have hfew:=hF.good.few;have DN:Hid _:=fun (_:Unit)=>zC0 1048576 (by omega) tg od2 w;have r0:=hR.c0;have HH:Hid (ZQ w tg rr r d s L clock wc true∧zC w tg od d D ids ps∧D.yD∧D.dead=false):=⟨hR,hD,hF,ha⟩;clear hR hD hF ha;go_enter Tryz.func19,Tryz.ntmps19;go_wp2_with fail;refine (DN.out ()).mono ?_;rintro e w1 ⟨rfl,hL1,q1⟩;have k0:=zA r0 q1;have NM:=zMT tg od d D ids ps HH.out.2.2.1 w1 (HH.out.2.1.keep q1.below.size (fun _ _=>rfl) (fun k hk _=>q1.below.block k hk));have hnl:D.names.length=D.files.length:=by unfold M.Dsk.names;rw [HH.out.2.2.2,if_neg (by simp),zRN]
 rw [hnl] at NM;have NMH:Hid _:=fun (_:Unit)=>NM;have HL1:Hid (zC w1 (tg.more w.heap.size od2 0) od2 w.heap.size ⟨1048576,[],false,0⟩ [] []∧Q w w1):=⟨hL1,q1⟩;clear NM DN hL1 q1 hnl;go_wp2_with fail;refine (NMH.out ()).mono ?_;rintro e w2 ⟨ao,cap,rfl,hN⟩;have HC:Hid (Yt w tg rr od od2 r d s w.heap.size J L clock wc D ids ps ao (M.ZK D 0) w2):=by
  obtain ⟨hL1,q1⟩:=HL1.out;have q2:Q w1 w2:=⟨hN.below⟩;have t0:∀ k,k<w.heap.size→((tg.more w.heap.size od2 0).more w1.heap.size J 0) k=tg k:=fun k hk=>by
   rw [Tags.zD (zQe hk q1.below.size),Tags.zD hk]
  have t1:∀ k,k<w1.heap.size→((tg.more w.heap.size od2 0).more w1.heap.size J 0) k=(tg.more w.heap.size od2 0) k:=fun k hk=>Tags.zD hk;have hK:Kept (fun _=>False) tg w ((tg.more w.heap.size od2 0).more w1.heap.size J 0) w2:=Kept.yU (q1.trans q2) t0;refine ⟨_,[],[],hK.wider (fun x e=>e.elim),HH.out.1.keep hK (fun e=>e),HH.out.2.1.keep hK.size hK.tags (fun k hk e=>hK.block k hk (fun e=>e)),hL1.keep q2.below.size t1 (fun k hk _=>q2.below.block k hk),fun j f hf=>?_⟩;have hv:(zAa D.names)[j]?=some (.string f.name):=by
   unfold zAa M.Dsk.names;rw [HH.out.2.2.2,if_neg (by simp)];simp [hf]
  obtain ⟨g,hg,hg1,hg2,hc⟩:=Zp hN.own (fun e=>by rw [e] at hv;simp at hv);have hgl:=hN.own.lt g (by rw [hg];rfl);exact ⟨g,hg,hc j _ hv,hgl.2,by rw [Tags.zX hgl.1]⟩
 clear hN HL1 NMH k0 r0;have hFF:Hid D.yD:=HH.out.2.2.1;have hdd:Hid (D.dead=false):=HH.out.2.2.2;clear HH;go_wp2_with fail
 go_loopw [5] (fun ti wr=>∃ i:Nat,ti=.int .i64 (i:Int)∧i≤D.files.length∧Hid (Yt w tg rr od od2 r d s w.heap.size J L clock wc D ids ps ao (M.ZK D i) wr)) (fun ti _=>D.files.length-(intOf ti).toNat)
 case atStart=>exact ⟨0,rfl,zQn _,HC⟩
 case round =>
  obtain ⟨i,rfl,hi,HC⟩:=hrel;obtain ⟨c0,c5,f0,f5,hn⟩:=HC.out.at;by_cases hlt:i<D.files.length
  ·obtain ⟨f,hf⟩:∃ f,D.files[i]?=some f:=⟨_,zQc hlt⟩;obtain ⟨g,rfl,cn⟩:=hn i f hf;have hltI:(i:Int)<(D.files.length:Int):=by omega
   obtain ⟨tgE,idsE,psE,hE,hDo,hT⟩:=HC.out.turn h1 h2 h3;have RD:=fun (W:World) (q:Q wr W)=>zJY tgE od d D ids ps hFF.out f.name W (hDo.keep q.below.size (fun _ _=>rfl) (fun k hk _=>q.below.block k hk));rw [M.zMX hFF.out hdd.out hf] at RD;dsimp only at RD;have RDH:Hid _:=RD;have HF:Hid (D.files[i]?=some f):=hf;clear RD hE hDo hT hn hf;go_upto_region 7 with fail
   go_region_held3 (fun w'=>w'.cell? ⟨r,0,none⟩=some (.pointer (some ⟨d,0,none⟩))∧w'.cell? ⟨g,i,none⟩=some (.string f.name))
    (first | exact ⟨c0,cn⟩ | exact hS4)
    (first | (go_at_call 42;refine (RDH.out _ ((Q.refl wr).drew)).mono ?_;rintro e w4 ⟨rfl,q4⟩;have hS4:w4.cell? ⟨r,0,none⟩=some (.pointer (some ⟨d,0,none⟩))∧w4.cell? ⟨g,i,none⟩=some (.string f.name):=⟨zA c0 (((Q.refl wr).drew).trans q4),zA cn (((Q.refl wr).drew).trans q4)⟩))
   all_goals
    have HC4:Hid (Yt w tg rr od od2 r d s w.heap.size J L clock wc D ids ps (some ⟨g,0,none⟩) (M.ZK D i) w4):=HC.out.q (((Q.refl wr).drew).trans q4);clear HC RDH hS4 q4 c0 c5 f0 f5 cn;obtain ⟨E,hap,hsy⟩:=M.zHY hFF.out HF.out;obtain ⟨tgE4,idsE4,psE4,hE4,_,hT4⟩:=HC4.out.turn h1 h2 h3;have AP:=zCs tgE4 od2 w.heap.size (M.ZK D i) idsE4 psE4 (M.zCU hFF.out i hi) f.name ⟨f.bytes.toArray⟩ w4 hE4;rw [show (⟨f.bytes.toArray⟩:ByteArray).data.toList=f.bytes from rfl,hap] at AP;dsimp only at AP;have APH:Hid _:=fun (_:Unit)=>AP;have HT4:Hid _:=hT4;have HEF:Hid E.yD:=by
     have:=(M.zCU hFF.out i hi).append f.name f.bytes;rw [hap] at this;exact this
    have HSY:Hid (E.sync f.name=(M.ZK D (i+1),0)):=hsy;obtain ⟨c0,c5,f0,f5,hn⟩:=HC4.out.at;obtain ⟨g',hg',cn⟩:=hn i f HF.out;obtain rfl:g=g':=by injection hg' with e;injection e
    clear AP hT4 hE4 hap hsy hn hg' HC4;go_wp2_with fail;refine (APH.out ()).mono ?_;rintro e w5 ⟨rfl,hL5⟩;have HC5:Hid (Yt w tg rr od od2 r d s w.heap.size J L clock wc D ids ps (some ⟨g,0,none⟩) E w5):=HT4.out _ _ hL5;clear HT4 APH hL5 c0 c5 f0 f5 cn;obtain ⟨tgE5,idsE5,psE5,hE5,_,hT5⟩:=HC5.out.turn h1 h2 h3;have SY:=zG8 tgE5 od2 w.heap.size E idsE5 psE5 HEF.out f.name w5 hE5;rw [HSY.out] at SY;dsimp only at SY;have SYH:Hid _:=fun (_:Unit)=>SY;have HT5:Hid _:=hT5;obtain ⟨c0,c5,f0,f5,hn⟩:=HC5.out.at;obtain ⟨g',hg',cn⟩:=hn i f HF.out;obtain rfl:g=g':=by injection hg' with e;injection e
    clear SY hT5 hE5 hn hg' HC5;go_wp2_with fail;refine (SYH.out ()).mono ?_;rintro e w6 ⟨rfl,hL6⟩;have HC6:Hid (Yt w tg rr od od2 r d s w.heap.size J L clock wc D ids ps (some ⟨g,0,none⟩) (M.ZK D (i+1)) w6):=HT5.out _ _ hL6;clear HT5 SYH hL6 c0 c5 f0 f5 cn;obtain ⟨c0,c5,f0,f5,hn⟩:=HC6.out.at;clear hn;go_wp2_with fail
    go_roundw
    case rel=>exact ⟨i+1,by go_num,by omega,HC6.out.mark h1 h4 h5⟩
    case measure=>simp [intOf];omega
  ·obtain rfl:i=D.files.length:=by omega
   clear hn;go_wp2_with fail;go_end0;obtain ⟨tgE,idsE,psE,hK,hR,hDo,hE,_⟩:=HC.out;have hK':=Kept.setAt (w:=wr) (tg:=tgE) (R:=r) (r:=rr) (j:=0) (by rw [hR.tr]) (.pointer (some ⟨w.heap.size,0,none⟩));exact ⟨rfl,tgE,w.heap.size,idsE,psE,zQf _,hK.trans (hK'.wider (fun x e=>Or.inl e)),hR.set 0 _ (by omega) rfl rfl rfl rfl rfl,hDo.keep hK'.size hK'.tags (fun k hk e=>hK'.block k hk (by rw [e];exact h4)),hE.keep hK'.size hK'.tags (fun k hk e=>hK'.block k hk (by rw [e];exact fun e=>h1 e.symm))⟩
namespace S
theorem yM.zC1 {L:List zZ} {clock water:Int} {T:Two} {X:Sto} {bs:List (List Rec)} {C:Con} (h:yM L clock water T X bs C) (ks:List Int):T.dsk.zC1 ks=T.dsk:=by
 obtain ⟨b',e,hb⟩:=T.zHU ks (fun x n e=>by
  rcases h.a with ⟨e2,_⟩|e2
  ·rw [e2] at e;cases e
  ·rw [e2] at e;injection e with e;injection e with e3 e4;rw [←e3,←e4])
 rw [e,hb h.b];have h1:=h.alive;have h2:=h.fuse;have h3:=h.b;obtain ⟨c,a,b,de,fu⟩:=T;simp only at h1 h2 h3;subst h1 h2 h3;rfl
theorem yM.copy {L:List zZ} {water:Int} {T:Two} {X:Sto} {C:Con} (h:yM L clock water T X bs C):M.ZK T.dsk T.dsk.files.length=T.dsk:=by
 unfold M.ZK;rw [zRL];have h1:=h.alive;have h2:=h.fuse;have h3:=h.b;have h4:=h.cap;have ha:=h.a;obtain ⟨c,a,b,de,fu⟩:=T;unfold zQU at ha;simp only at h1 h2 h3 h4 ha;subst h1 h2 h3 h4;rcases ha with ⟨e2,_⟩ | e2<;>subst e2<;>rfl
theorem yM.settle {L:List zZ} {clock water:Int} {T:Two} {X:Sto} {bs:List (List Rec)} {C:Con} (h:yM L clock water T X bs C):S.settle T.dsk=(T.dsk,0):=by
 rw [zCd];have h1:=h.alive;have h2:=h.fuse;have h3:=h.b;have ha:=h.a;obtain ⟨c,a,b,de,fu⟩:=T;unfold zQU at ha;simp only at h1 h2 h3 ha;subst h1 h2 h3;rcases ha with ⟨e2,_⟩ | e2<;>subst e2<;>rfl
theorem yM.again {L:List zZ} {water:Int} {T:Two} {X:Sto} {C:Con} (h:yM L clock water T X bs C) (hp:X.zT=false):yM L clock water T (yc X.fl bs.flatten bs.flatten.length) bs C∧(yc X.fl bs.flatten bs.flatten.length).zT=false:=by
 have hfew:=h.few.2;have hp':X.pend=[]∧X.wm=X.fl:=by
  unfold Sto.zT at hp;simp only [decide_eq_false_iff_not] at hp;exact ⟨Classical.byContradiction fun e=>hp (Or.inl e),Classical.byContradiction fun e=>hp (Or.inr e)⟩
 have hw:=h.wm;have hf1:=h.good.fl1;have htop:=h.good.top;have hcon:(yc X.fl bs.flatten bs.flatten.length).con C=X.con C:=by
  unfold Sto.con;rw [hp'.1];rfl
 have hgood:(yc X.fl bs.flatten bs.flatten.length).Good bs C:=by
  refine ⟨zFv h.good.fil.ord (by omega) (zQf _),h.good.fil,fun k=>?_,fun kr hkr=>(by cases hkr),fun kr hkr=>(by cases hkr),hf1,Int.le_refl _,by show X.fl≤_;omega⟩;have h1:=(zDQ h.good.fil.ord bs.flatten.length (zQf _)).2.2 k;show zq (news (bs.flatten.take bs.flatten.length)) k=_
  rw [h1,zRL,←List.head?_map,←List.head?_map,(h.good.fil.holds k).tells.stamps]
 refine ⟨⟨h.facts,by show X.fl=water;omega,h.wc,h.top,rfl,hgood,fun k=>?_,h.cap,h.a,h.b,h.alive,h.fuse,h.room⟩,by unfold Sto.zT yc;simp⟩;obtain ⟨n,g1,g2⟩:=h.keeps k;refine ⟨n,by rw [hcon];exact g1,?_⟩;show needs X.fl _≤n
 rw [←hp'.2];exact g2
end S
theorem zC.owner {o o':Nat} (h:zC w tg o d D ids ps) (ht:∀ k,k<w.heap.size→(tg k).1=o→tg' k=(o',(tg k).2)):zC w tg' o' d D ids ps:=by
 have hh:∀ k u,k<w.heap.size→tg k=(o,u)→tg' k=(o',u):=fun k u hk e=>by rw [ht k hk (by rw [e]),e]
 obtain ⟨a1,k1,r1,r2,r3⟩:=h.map.keys;obtain ⟨a2,k2,s1,s2,s3⟩:=h.map.vals;refine ⟨⟨h.map.fr,hh d _ h.map.top h.map.td,h.map.top,⟨a1,k1,r1,r2,fun g hg=>hh g _ (r2.lt g hg).2 (r3 g hg)⟩,⟨a2,k2,s1,s2,fun g hg=>hh g _ (s2.lt g hg).2 (s3 g hg)⟩,h.map.len⟩,h.c0,h.c3,h.c4,h.nodup,h.lenI,fun i p id f h1 h2 h3=>?_⟩;obtain ⟨bo,bc,hF⟩:=h.file i p id f h1 h2 h3;exact ⟨bo,bc,hF.c0,hF.c1,hF.fr,hF.own,hh p _ hF.top hF.tp,fun g hg=>hh g _ (hF.own.lt g hg).2 (hF.tb g hg),hF.top⟩
def zLC (tg:Tags):Tags:=fun k=>if (tg k).1=1 then tg k else if (tg k).1=20 then (2,(tg k).2) else (0,0)
theorem zJ7 (tg:Tags) (k:Nat):(zLC tg k).1<10∧(zLC tg k).1≠3:=by
 unfold zLC;split
 ·rename_i h;rw [h];omega
 split<;>simp
def zCZ (w0:World) (ks:List Int) (ko:Option Addr):Prop:=∀ (j:Nat) (x:Int),ks[j]?=some x→∃ b off,ko=some ⟨b,off,none⟩∧w0.cell? ⟨b,off+j,none⟩=some (.int .i64 x)∧b<w0.heap.size
theorem zDr {P:Nat→Prop} (q:Q w0 w) (z:∀ k,k<w0.heap.size→(tg k).1=0) (hK:Kept P tg w tg' w') (h0:¬P 0):Q w0 w'∧∀ k,k<w0.heap.size→(tg' k).1=0:=by
 have hs:=q.below.size;exact ⟨⟨⟨hK.os.trans q.below.os,hK.tape.trans q.below.tape,hK.output.trans q.below.output,zQq hs hK.size,fun k hk=>(hK.block k (by omega) (by rw [z k hk];exact h0)).trans (q.below.block k hk)⟩⟩,fun k hk=>by rw [hK.tags k (by omega)];exact z k hk⟩
theorem zJJ {w3:World} {tg3:Tags} {d':Nat} {water fl:Int} {T0 T2:S.Two} {C:S.Con} {i7 i8:List Nat} (hR3:ZQ w3 tg3 1 r d' s L clock wc true) (hE3:zC w3 tg3 20 d' T0.dsk i7 i8) (hF0:T0.dsk.yD) (hF2:T2.dsk.yD) (hO:zAs False T0.dsk bs fl) (hset:S.settle T0.dsk=(T2.dsk,0)) (hok:S.yM L clock water T2 (yc fl bs.flatten bs.flatten.length) bs C) (hT3:Tab w3) (q3:Q w0 w3) (z:∀ k,k<w0.heap.size→(tg3 k).1=0) (hG1:(tg3 1).1≠1) (hG2:(tg3 1).1≠20) :
  Calls Tryz.prog 18 #[.pointer (some ⟨d',0,none⟩)] w3 fun e w4=>∃ s',e=.returned (.tuple #[.pointer (some ⟨s',0,none⟩),.int .i64 0])∧w4.cell? ⟨r,1,none⟩=some (.pointer (some ⟨s,0,none⟩))∧w4.cell? ⟨r,5,none⟩=some (.bool true)∧w4.frozen? ⟨r,1,none⟩=false∧RB w0 (w4.setCell ⟨r,1,none⟩ (.pointer (some ⟨s',0,none⟩))) r s' d' L clock wc water (fun X=>X.zT=false):=by
 have hG:=Zj hT3;have hGt:(zLC tg3 1).1=0:=by
  unfold zLC;rw [if_neg hG1,if_neg hG2]
 have z3:∀ k,k<w0.heap.size→(zLC tg3 k).1=0:=fun k hk=>by
  unfold zLC;rw [if_neg (by rw [z k hk];omega),if_neg (by rw [z k hk];omega)]
 have hL3:zC w3 (zLC tg3) 2 d' T0.dsk i7 i8:=hE3.owner (fun k _ e=>by unfold zLC;rw [if_neg (by omega),if_pos e]);have hRF:ZQ w3 (zLC tg3) 1 r d' s L clock wc true:=hR3.retag (fun k _ e=>by unfold zLC;rw [if_pos e]);have hfew:=hok.few.2;refine (zFp (o:=3) (od:=2) (m:=10) (d:=d') (T0:=T0) (bs:=bs) (C:=C) (bad:=False) (wm:=fl) hL3 hF0 hO hok.good.fil hT3 (by omega) (fun k _=>(zJ7 tg3 k).1) (fun k _=>(zJ7 tg3 k).2) (by omega) (by omega)).mono ?_;rintro e w4 ⟨tg4,i9,i10,hK4,hl4,hc⟩;rw [hset] at hc;rcases hc with ⟨hf,_⟩|⟨hf,_⟩|⟨_,s',hs',rfl,hS4,hD4⟩
 ·exact hf.elim
 ·exact absurd rfl hf
 have hR4:=hRF.keep hK4 (by omega);have hset:=Kept.setAt (w:=w4) (tg:=tg4) (R:=r) (r:=1) (j:=1) (by rw [hR4.tr]) (.pointer (some ⟨s',0,none⟩));have hKK:Kept (fun x=>x=1∨x=2) (zLC tg3) w3 tg4 (w4.setCell ⟨r,1,none⟩ (.pointer (some ⟨s',0,none⟩))):=(hK4.wider (fun x e=>Or.inr e)).trans (hset.wider (fun x e=>Or.inl e));have hGt4:(tg4 1).1=0:=by rw [hK4.tags _ hG];exact hGt
 have qz:=zDr q3 z3 hKK (by omega);refine ⟨s',rfl,hR4.c1,hR4.c5,hR4.fr 1,tg4,T2,_,bs,C,⟨⟨hR4.set 1 _ (by omega) rfl rfl rfl rfl rfl,⟨[],[],i9,i10,⟨hS4.keep hset.size hset.tags (fun k hk e=>hset.block k hk (by rw [e];omega)),hD4.keep hset.size hset.tags (fun k hk e=>hset.block k hk (by rw [e];omega)),hF2,hok.on,hok.good,yB hT3 (hKK.block _ hG (by rw [hGt];omega)),by rw [hGt4];exact ⟨by omega,by omega⟩,by omega,hok.b,hok.alive,fun k hk=>hl4 k (by simpa using hk),by omega,by omega,by omega⟩⟩,hok,by omega,by omega,by rw [hGt4];omega,by omega⟩,qz.1,qz.2,by omega⟩,by unfold S.Sto.zT yc;simp⟩
theorem zJD {water:Int} (h:RB w0 w r s d L clock wc water P) (ks:List Int) (ko:Option Addr) (kc:Nat) (hk:zCZ w0 ks ko) :
  Calls Tryz.prog 23 #[.pointer (some ⟨r,0,none⟩),.slice ko ks.length kc] w fun e w'=>e=.returned (.tuple #[])∧∃ s' d',RB w0 w' r s' d' L clock wc water (fun X=>X.zT=false):=by
 have FL:Hid _:=fun (_:Unit)=>zDL h;have HK:Hid (zCZ w0 ks ko):=hk;clear h hk;go_enter Tryz.func23,Tryz.ntmps23;go_wp2_with fail;refine (FL.out ()).mono ?_;rintro e w1 ⟨rfl,tg,T,X,bs,C,hB,hp⟩;obtain ⟨i1,i2,i3,i4,hr⟩:=hB.run.rdy;have c0:=hB.run.run.c0;have CR:=zHT tg 2 d T.dsk i3 i4 hr.fine ks ko kc w1 (fun j x hx=>by
  obtain ⟨b,off,g1,g2,g3⟩:=HK.out j x hx;exact ⟨b,off,g1,zA g2 hB.q,zQe g3 hB.q.below.size,by rw [hB.z b g3];omega⟩) hr.disk
 rw [hB.run.ok.zC1 ks] at CR;have CRH:Hid _:=fun (_:Unit)=>CR;have HB:Hid (zGM w0 w1 tg 10 1 3 2 r s d L clock wc water T X bs C∧X.zT=false∧T.dsk.yD∧Tab w1):=⟨hB,hp,hr.fine,hr.tab⟩;clear FL CR hB hp hr HK;go_wp2_with fail;refine (CRH.out ()).mono ?_;rintro e w2 ⟨rfl,tg2,i5,i6,ht2,hD2,ho2⟩;have hK2:Kept (·=2) tg w1 tg2 w2:=Kept.yA ho2 ht2 rfl;have hR2:=HB.out.1.run.run.keep hK2 (by omega);have CP:Hid _:=fun (_:Unit)=>zBW (od2:=20) (J:=0) hR2 hD2 HB.out.2.2.1 (by rw [show T.dsk.dead=T.dead from rfl];exact HB.out.1.run.ok.alive) (by omega) (by omega) (by omega) (by omega) (by omega);have HK2:Hid (Kept (·=2) tg w1 tg2 w2):=hK2;clear hD2 ho2 ht2 hK2 hR2 CRH c0;go_wp2_with fail;refine (CP.out ()).mono ?_;rintro e w3 ⟨rfl,tg3,d',i7,i8,hd',hK3,hR3,_,hE3⟩;rw [HB.out.1.run.ok.copy] at hE3;obtain ⟨hB,hp,hfine,htab⟩:=HB.out;have hK:Kept (fun x=>x=1∨x=2∨x=20) tg w1 tg3 w3:=(HK2.out.wider (fun x e=>Or.inr (Or.inl e))).trans (hK3.wider (fun x e=>by rcases e with e | e<;>simp [e]));obtain ⟨q3,t3⟩:=zDr hB.q hB.z hK (by omega);obtain ⟨j1,j2,j3,j4,hr⟩:=hB.run.rdy;have hG:=Zj htab;have hGl:=hr.low _ hG;have hG1:=hB.run.rG;have hG2:=hr.tabo;have OP:Hid _:=fun (_:Unit)=>zJJ (w0:=w0) hR3 hE3 hfine hfine hB.run.ok.on hB.run.ok.settle (hB.run.ok.again hp).1 (yB htab (hK.block _ hG (by omega))) q3 t3 (by rw [hK.tags _ hG];exact hG1) (by rw [hK.tags _ hG];omega);have c0:=hR3.c0;clear CP HK2 hd' hK3 hR3 hE3 hB hp hfine htab hK t3 q3 hr hG hGl hG1 hG2 HB;go_wp2_with fail;refine (OP.out ()).mono ?_;rintro e w4 ⟨s',rfl,c1,c5,f1,hRB⟩;have HX:Hid (RB w0 (w4.setCell ⟨r,1,none⟩ (.pointer (some ⟨s',0,none⟩))) r s' d' L clock wc water (fun X=>X.zT=false)):=hRB;clear hRB OP c0;go_wp2_with fail;go_end0;exact ⟨rfl,s',d',HX.out⟩
theorem RB.mark {water:Int} (h:RB w0 w r s d L clock wc water P):RB w0 (w.setCell ⟨r,5,none⟩ (.bool true)) r s d L clock wc water P:=by
 obtain ⟨tg,T,X,bs,C,hB,hP⟩:=h;obtain ⟨i1,i2,i3,i4,hr⟩:=hB.run.rdy;have hset:=Kept.setAt (w:=w) (tg:=tg) (R:=r) (r:=1) (j:=5) (by rw [hB.run.run.tr]) (.bool true);obtain ⟨tg',hR,hK'⟩:=Run.fin (P:=(·=1)) hr.low hr.tab ⟨hr.tabo.1,hr.tabo.2,hB.run.rG⟩ ⟨hr.om,hr.odm,hB.run.rm⟩ ⟨hr.ne,hB.run.ro,hB.run.rod⟩ hset (fun x e=>Or.inr (Or.inr e)) (hB.run.run.set 5 (.bool true) (d':=d) (s':=s) (clock':=clock) (water':=wc) (ok':=true) (by omega) rfl rfl rfl rfl rfl) (hr.sto.keep hset.size hset.tags (fun k hk e=>hset.block k hk (by rw [e];omega))) (hr.disk.keep hset.size hset.tags (fun k hk e=>hset.block k hk (by rw [e];omega))) hr.fine hB.run.ok;exact ⟨tg',T,X,bs,C,hB.next hR hK' (fun x e=>by simp [e]),hP⟩
theorem RB.nums {water:Int} (h:RB w0 w r s d L clock wc water P):(∀ g∈L,0≤g.stamp∧g.stamp≤clock)∧water≤clock∧clock≤1099511627776∧-1≤water:=by
 obtain ⟨tg,T,X,bs,C,hB,_⟩:=h;have h1:=hB.run.ok.good.fl1;have h2:=hB.run.ok.good.fl2;have h3:=hB.run.ok.wm;exact ⟨hB.run.ok.facts.top,hB.run.ok.wc,hB.run.ok.top,by omega⟩
def Stepped (w0:World) (r:Nat) (L:List S.zZ) (clock:Int) (n:Nat) (e:Ending) (w':World):Prop:=
 e=.returned (.tuple #[])∧∃ (s' d':Nat) (L':List S.zZ) (clock' water':Int),RB w0 w' r s' d' L' clock' water' water' (fun _=>True)∧0≤clock'∧clock'≤clock+4∧S.YW L'≤S.YW L+36+n
theorem YG {water:Int} (n:Nat) (h:RB w0 w' r s d L clock water water P) (h0:0≤clock):Stepped w0 r L clock n (.returned (.tuple #[])) w':=
 ⟨rfl,s,d,L,clock,water,h.any,h0,by omega,by omega⟩
theorem zPh {water:Int} (qB:∃ w1,RB w0 w1 r s d L clock water water (fun _=>True)∧Q w1 w∧w1.heap.size≤B∧B<w.heap.size) (key:ByteArray) (hk:1≤key.size∧key.size≤5) (stamp:Int) (h1:clock<stamp) (h0:0≤clock) (h2:stamp≤clock+4) (ht:stamp≤1099511627776) (c:ByteArray) (hc:c.size≤4096) (hroom:36+2*(S.YW L+36+c.size)≤1048576) :
  Calls Tryz.prog 9 #[.pointer (some ⟨r,0,none⟩),.agg #[.string key,.int .i64 stamp,.string c,.bool true]] w fun e w'=>Stepped w0 r L clock c.size e w'∧w'.heap[B]?=w.heap[B]?:=by
 obtain ⟨w1,⟨tg,T,X,bs,C,hB,_⟩,q,b1,b2⟩:=qB;have hB2:=hB.qq q;obtain ⟨i1,i2,i3,i4,hr⟩:=hB.run.rdy;have htop:=hB.run.ok.facts.top;have hwc:=hB.run.ok.wc;have hcost:S.YW (L++[⟨key,stamp,c,true⟩])≤S.YW L+36+c.size:=by
  rw [S.zFJ];simp only [S.zZ.cost];omega
 refine (zLe hB2.run key stamp c (fun g hg=>by have:=htop g hg;omega) (by omega) (by omega) ht (by omega) hc (by omega)).mono ?_;rintro e w' ⟨rfl,tg',X',hR,hK⟩;refine ⟨⟨rfl,s,d,_,stamp,water,⟨tg',T,X',bs,C,hB2.next hR hK (fun x e=>by rcases e with e | e<;>simp [e]),trivial⟩,by omega,h2,hcost⟩,?_⟩;refine hK.block B b2 ?_;have e:junk tg w1 B=((tg 1).1,0):=by unfold junk;exact Tags.zX b1
 rw [e];have h3:=hB.run.rG;have h4:=hr.tabo.1;rintro (e|e)
 ·exact h3 e
 ·exact h4 e
theorem zQ1 {water:Int} (qB:∃ w1,RB w0 w1 r s d L clock water water (fun _=>True)∧Q w1 w∧w1.heap.size≤B∧B<w.heap.size) (key:ByteArray) (hk:1≤key.size∧key.size≤5) (stamp:Int) (h1:clock<stamp) (h0:0≤clock) (h2:stamp≤clock+4) (ht:stamp≤1099511627776) (n:Nat) (hroom:36+2*(S.YW L+36+n)≤1048576) :
  Calls Tryz.prog 9 #[.pointer (some ⟨r,0,none⟩),.agg #[.string key,.int .i64 stamp,.string ⟨#[]⟩,.bool false]] w fun e w'=>Stepped w0 r L clock n e w'∧w'.heap[B]?=w.heap[B]?:=by
 obtain ⟨w1,⟨tg,T,X,bs,C,hB,_⟩,q,b1,b2⟩:=qB;have hB2:=hB.qq q;obtain ⟨i1,i2,i3,i4,hr⟩:=hB.run.rdy;have htop:=hB.run.ok.facts.top;have hwc:=hB.run.ok.wc;have hcost:S.YW (L++[⟨key,stamp,⟨#[]⟩,false⟩])≤S.YW L+36+n:=by
  rw [S.zFJ];have e:(⟨#[]⟩:ByteArray).size=0:=rfl;simp only [S.zZ.cost,e];omega
 refine (zOn hB2.run key stamp (fun g hg=>by have:=htop g hg;omega) (by omega) (by omega) ht (by omega) (by omega)).mono ?_;rintro e w' ⟨rfl,tg',X',hR,hK⟩;refine ⟨⟨rfl,s,d,_,stamp,water,⟨tg',T,X',bs,C,hB2.next hR hK (fun x e=>by rcases e with e | e<;>simp [e]),trivial⟩,by omega,h2,hcost⟩,?_⟩;refine hK.block B b2 ?_;have e:junk tg w1 B=((tg 1).1,0):=by unfold junk;exact Tags.zX b1
 rw [e];have h3:=hB.run.rG;have h4:=hr.tabo.1;rintro (e|e)
 ·exact h3 e
 ·exact h4 e
def zI1 (kind key ahead:Int) (v:ByteArray) (ko:Option Addr) (n kc:Nat):Value:=.agg #[.int .i64 kind,.int .i64 key,.int .i64 ahead,.string v,.slice ko n kc]
theorem zN9 {water:Int} (h:RB w0 w r s d L clock water water (fun _=>True)) (kind key ahead:Int) (hkey:-9223372036854775808≤key∧key≤9223372036854775807) (hah:-9223372036854775808≤ahead∧ahead≤9223372036854775807) (v c:ByteArray) (hc:c.size≤4096) (hcut:∀ w,Calls Tryz.prog 48 #[.string v] w fun e w'=>e=.returned (.string c)∧w'=w) (ks:List Int) (ko:Option Addr) (kc:Nat) (hk:zCZ w0 ks ko) (h0:0≤clock) (ht:clock≤1099511627768) (hroom:36+2*(S.YW L+36+c.size)≤1048576) :
  Calls Tryz.prog 49 #[.pointer (some ⟨r,0,none⟩),zI1 kind key ahead v ko ks.length kc] w fun e w'=>Stepped w0 r L clock c.size e w':=by
 obtain ⟨wB,hwB⟩:∃ wB,wB=w.alloc (.cells #[.int .i64 kind,.int .i64 key,.int .i64 ahead,.string v,.slice ko ks.length kc] 100):=⟨_,rfl⟩;have qB:Q w wB:=by rw [hwB];exact (Q.refl w).alloc _ _
 have hV:yZ wB w.heap.size [.int .i64 kind,.int .i64 key,.int .i64 ahead,.string v,.slice ko ks.length kc]:=by rw [hwB];exact zI w _ _
 have hRB:=h.q qB;obtain ⟨r0,r1,r4,r5,y4,y5,r3⟩:=hRB.cells;have b0:=hV.cell 0 rfl;have b1:=hV.cell 1 rfl;have b2:=hV.cell 2 rfl;have b3:=hV.cell 3 rfl;have b4:=hV.cell 4 rfl;have P4:Hid _:=zBM ahead 4 hah (by decide);obtain ⟨p4,hp4⟩:∃ p4,p4=pk ahead 4:=⟨_,rfl⟩;have hp4r:=zBL ahead 4 (by decide);rw [←hp4] at P4 hp4r;clear hp4;have a1:IntKind.i64.wrap (clock+1)=clock+1:=by rw [IntKind.wrap_i64];omega
 have a2:IntKind.i64.wrap (clock+1+p4)=clock+1+p4:=by rw [IntKind.wrap_i64];omega
 have HRB:Hid (RB w0 w r s d L clock water water (fun _=>True)∧Q w wB∧yZ wB w.heap.size [.int .i64 kind,.int .i64 key,.int .i64 ahead,.string v,.slice ko ks.length kc]∧zCZ w0 ks ko):=⟨h,qB,hV,hk⟩;have HCUT:Hid _:=hcut;clear h qB hV hRB hk hcut;unfold zI1;go_enter Tryz.func49,Tryz.ntmps49;go_wp2_with fail;rw [←hwB];clear hwB
 go_region_held3 (fun w'=>w'.cell? ⟨r,3,none⟩=some (.int .i64 clock)∧w'.cell? ⟨w.heap.size,2,none⟩=some (.int .i64 ahead))
  (first | exact ⟨r3,b2⟩ | exact hS4)
  (first | (go_at_call 12;refine (P4.out _).mono ?_;rintro e w4 ⟨rfl,hw4⟩;subst hw4;have hS4:wB.drew.cell? ⟨r,3,none⟩=some (.int .i64 clock)∧wB.drew.cell? ⟨w.heap.size,2,none⟩=some (.int .i64 ahead):=⟨r3,b2⟩))
 all_goals
  have q4:Q wB wB.drew:=(Q.refl wB).drew;obtain ⟨w4,hw4⟩:∃ w4,w4=wB.drew:=⟨_,rfl⟩;rw [←hw4] at q4 ⊢;have HW:Hid (∃ w1,RB w0 w1 r s d L clock water water (fun _=>True)∧Q w1 w4∧w1.heap.size≤w.heap.size∧w.heap.size<w4.heap.size):=⟨w,HRB.out.1,HRB.out.2.1.trans q4,zQf _,zQe HRB.out.2.2.1.1 q4.below.size⟩;have HK:Hid (zCZ w0 ks ko):=HRB.out.2.2.2;have HB4:Hid (RB w0 w4 r s d L clock water water (fun _=>True)):=HRB.out.1.q (HRB.out.2.1.trans q4);replace r1:=zA r1 q4;replace r3:=zA r3 q4;replace r4:=zA r4 q4;replace r5:=zA r5 q4;replace b0:=zA b0 q4;replace b1:=zA b1 q4;replace b2:=zA b2 q4;replace b3:=zA b3 q4;replace b4:=zA b4 q4;clear hS4 HRB y4 y5 r0 P4 hw4;clear q4;by_cases hk1:kind=1
  ·subst hk1;have KY:Hid _:=fun (W:World)=>zIM key hkey W;have SY:Hid (∀ (W:World) (kk:ByteArray),Q w4 W→(1≤kk.size∧kk.size≤5)→Calls Tryz.prog 9 #[.pointer (some ⟨r,0,none⟩),.agg #[.string kk,.int .i64 (clock+1+p4),.string c,.bool true]] W fun e w'=>Stepped w0 r L clock c.size e w'∧w'.heap[w.heap.size]?=W.heap[w.heap.size]?):=fun W kk q hkk=>by
    obtain ⟨w1,g1,g2,g3,g4⟩:=HW.out;exact zPh ⟨w1,g1,g2.trans q,g3,zQe g4 q.below.size⟩ kk hkk (clock+1+p4) (by omega) h0 (by omega) (by omega) c hc hroom
   clear HK HB4 HW r1 r3 r4 r5 b2 b4;go_upto_region 4 with fail
   go_region_held3 (fun w'=>w'.cell? ⟨w.heap.size,1,none⟩=some (.int .i64 key)∧w'.cell? ⟨w.heap.size,3,none⟩=some (.string v))
    (first | exact ⟨b1,b3⟩ | exact hS7 | exact hS5)
    (first
     | (go_at_call 22;refine (KY.out _).mono ?_;rintro e w5 ⟨kk,rfl,hkk,q5⟩;have hS5:w5.cell? ⟨w.heap.size,1,none⟩=some (.int .i64 key)∧w5.cell? ⟨w.heap.size,3,none⟩=some (.string v):=⟨zA b1 (((Q.refl w4).drew).trans q5),zA b3 (((Q.refl w4).drew).trans q5)⟩)
     | (go_at_call 48;refine (HCUT.out _).mono ?_;rintro e w6 ⟨rfl,hw6⟩;subst hw6)
     | (go_at_call 9;refine (SY.out _ kk (((Q.refl w4).drew).trans q5) hkk).mono ?_;rintro e w7 ⟨⟨rfl,hst⟩,hbl⟩;have hS7:w7.cell? ⟨w.heap.size,1,none⟩=some (.int .i64 key)∧w7.cell? ⟨w.heap.size,3,none⟩=some (.string v):=⟨(zRc (a:=⟨w.heap.size,1,none⟩) hbl).trans hS5.1,(zRc (a:=⟨w.heap.size,3,none⟩) hbl).trans hS5.2⟩))
   all_goals
    have HST:Hid _:=hst;clear hst hS7 hS5 SY KY HCUT hbl q5;go_wp2_with fail;go_end0;exact ⟨rfl,HST.out⟩
  by_cases hk2:kind=2
  ·subst hk2;have KY:Hid _:=fun (W:World)=>zIM key hkey W;have SY:Hid (∀ (W:World) (kk:ByteArray),Q w4 W→(1≤kk.size∧kk.size≤5)→Calls Tryz.prog 9 #[.pointer (some ⟨r,0,none⟩),.agg #[.string kk,.int .i64 (clock+1+p4),.string ⟨#[]⟩,.bool false]] W fun e w'=>Stepped w0 r L clock c.size e w'∧w'.heap[w.heap.size]?=W.heap[w.heap.size]?):=fun W kk q hkk=>by
    obtain ⟨w1,g1,g2,g3,g4⟩:=HW.out;exact zQ1 ⟨w1,g1,g2.trans q,g3,zQe g4 q.below.size⟩ kk hkk (clock+1+p4) (by omega) h0 (by omega) (by omega) c.size hroom
   clear HK HB4 HW r1 r3 r4 r5 b2 b4;go_wp2_with fail;refine (KY.out _).mono ?_;rintro e w5 ⟨kk,rfl,hkk,q5⟩;have SY5:Hid _:=fun (_:Unit)=>SY.out w5 kk q5 hkk;clear SY KY;go_wp2_with fail;refine (SY5.out ()).mono ?_;rintro e w7 ⟨⟨rfl,hst⟩,_⟩;have HST:Hid _:=hst;clear hst SY5;go_wp2_with fail;go_end0;exact ⟨rfl,HST.out⟩
  by_cases hk3:kind=3
  ·subst hk3;have P5:Hid _:=zBM ahead (clock+1) hah (by omega);obtain ⟨p5,hp5⟩:∃ p5,p5=pk ahead (clock+1):=⟨_,rfl⟩;have hp5r:=zBL ahead (clock+1) (by omega);rw [←hp5] at P5 hp5r;clear hp5 HK HW b1 b3 b4 HCUT;go_upto_region 8 with fail
   go_region_held3 (fun w'=>w'.cell? ⟨r,3,none⟩=some (.int .i64 clock)∧w'.cell? ⟨w.heap.size,2,none⟩=some (.int .i64 ahead))
    (first | exact ⟨r3,b2⟩)
    (first | (go_at_call 12;refine (P5.out _).mono ?_;rintro e w5 ⟨rfl,hw5⟩;subst hw5))
   all_goals
    have q5:Q w4 w4.drew:=(Q.refl w4).drew;obtain ⟨w5,hw5⟩:∃ w5,w5=w4.drew:=⟨_,rfl⟩;rw [←hw5] at q5 ⊢;replace r1:=zA r1 q5;replace r4:=zA r4 q5;have HB5:Hid (RB w0 w5 r s d L clock water water (fun _=>True)):=HB4.out.q q5;clear hw5;clear q5 HB4 P5 r3 r5 b0 b2;by_cases hge:water≤p5
    ·have RA:Hid _:=fun (_:Unit)=>zNJ HB5.out p5 hge (by omega);go_wp2_with fail;refine (RA.out ()).mono ?_;rintro e w6 ⟨rfl,hR6⟩;have HR6:Hid _:=hR6;obtain ⟨_,_,x4,x5,y4,y5,_⟩:=hR6.cells;clear hR6 RA HB5;go_wp2_with fail;go_end0;exact YG _ (RB.water (RB.mark HR6.out) p5) h0
    ·go_wp2_with fail;go_end0;exact YG _ HB5.out h0
  by_cases hk4:kind=4
  ·subst hk4;have FL:Hid _:=fun (_:Unit)=>zDL HB4.out;go_wp2_with fail;refine (FL.out ()).mono ?_;rintro e w5 ⟨rfl,hR5⟩;have HR5:Hid _:=hR5;clear hR5 FL;go_wp2_with fail;go_end0;exact YG _ HR5.out h0
  by_cases hk5:kind=5
  ·subst hk5;have FL:Hid _:=fun (_:Unit)=>zDL HB4.out;go_wp2_with fail;refine (FL.out ()).mono ?_;rintro e w5 ⟨rfl,hR5⟩;have CO:Hid _:=fun (_:Unit)=>zKK hR5;obtain ⟨_,x1,_,x5,_,y5,_⟩:=hR5.cells;clear hR5 FL;go_wp2_with fail;refine (CO.out ()).mono ?_;rintro e w6 ⟨rfl,hR6⟩;have HR6:Hid _:=hR6;obtain ⟨_,x1,_,x5,_,y5,_⟩:=hR6.cells;clear hR6 CO;go_wp2_with fail;go_end0;exact YG _ (RB.mark HR6.out) h0
  by_cases hk6:kind=6
  ·subst hk6;have CR:Hid _:=fun (_:Unit)=>zJD HB4.out ks ko kc HK.out;go_wp2_with fail;refine (CR.out ()).mono ?_;rintro e w5 ⟨rfl,s',d',hR5⟩;have HR5:Hid _:=hR5;clear hR5 CR;go_wp2_with fail;go_end0;exact YG _ HR5.out h0
  ·go_wp2_with fail;go_end0;exact YG _ HB4.out h0
structure Stq where
 kind:Int
 key:Int
 ahead:Int
 value:ByteArray
 keep:List Int
 ko:Option Addr
 kc:Nat
def Stq.Ok (x:Stq) (w0:World):Prop:=(-9223372036854775808≤x.key∧x.key≤9223372036854775807)∧(-9223372036854775808≤x.ahead∧x.ahead≤9223372036854775807)∧x.value.size≤140737488351232∧zCZ w0 x.keep x.ko
def Yn (w0:World) (ao:Option Addr) (ss:List Stq):Prop:=∀ (i:Nat) (x:Stq),ss[i]?=some x→x.Ok w0∧∃ b off,ao=some ⟨b,off,none⟩∧w0.cell? ⟨b,off+i*5,none⟩=some (.int .i64 x.kind)∧w0.cell? ⟨b,off+i*5+1,none⟩=some (.int .i64 x.key)∧w0.cell? ⟨b,off+i*5+2,none⟩=some (.int .i64 x.ahead)∧w0.cell? ⟨b,off+i*5+3,none⟩=some (.string x.value)∧w0.cell? ⟨b,off+i*5+4,none⟩=some (.slice x.ko x.keep.length x.kc)
def zHp (w:World) (r i b:Nat) (wr:World):Prop:=∃ (s d:Nat) (L:List S.zZ) (clock water:Int),RB w wr r s d L clock water water (fun _=>True)∧0≤clock∧S.YW L+64*i≤39+b
def zOb (w:World) (e:Ending) (w':World):Prop:=∃ (r s d:Nat) (L:List S.zZ) (clock water:Int),e=.returned (.pointer (some ⟨r,0,none⟩))∧RB w w' r s d L clock water water (fun _=>True)∧0≤clock
theorem zHp.done {i b:Nat} (h:zHp w r i b wr):zOb w (.returned (.pointer (some ⟨r,0,none⟩))) wr:=by
 obtain ⟨s,d,L,clock,water,h1,h2,_⟩:=h;exact ⟨r,s,d,L,clock,water,rfl,h1,h2⟩
theorem zCg (w:World) (hT:Tab w) (ss:List Stq) (ao:Option Addr) (cap:Nat) (hS:Yn w ao ss) :
  Calls Tryz.prog 21 #[.slice ao ss.length cap] w fun e w'=>zOb w e w':=by
 have BG:Hid _:=fun (_:Unit)=>zMh w hT;have HS:Hid (Yn w ao ss):=hS;clear hS hT;go_enter Tryz.func21,Tryz.ntmps21;go_wp2_with fail;refine (BG.out ()).mono ?_;rintro e w1 ⟨tg,r,s,d,T,X,bs,C,rfl,hB⟩;have HP:Hid (zHp w r 0 0 w1):=⟨s,d,[zFC],0,-1,⟨tg,T,X,bs,C,hB,trivial⟩,by omega,by decide⟩;clear BG hB;go_wp2_with fail
 go_loopw [4,5] (fun tb ti wr=>∃ (b i:Nat),tb=.int .i64 (b:Int)∧ti=.int .i64 (i:Int)∧i≤ss.length∧i≤1024∧b≤131072∧Hid (zHp w r i b wr)) (fun _ ti _=>ss.length-(intOf ti).toNat)
 case atStart=>exact ⟨0,0,rfl,rfl,zQn _,by omega,by omega,HP⟩
 case round =>
  obtain ⟨b,i,rfl,rfl,hi,hi2,hb2,HP⟩:=hrel;obtain ⟨s,d,L,clock,water,hRB,h0,hcost⟩:=HP.out;obtain ⟨_,_,_,r5,_,_,r3⟩:=hRB.cells;by_cases hlt:i<ss.length
  ·obtain ⟨x,hx⟩:∃ x,ss[i]?=some x:=⟨_,zQc hlt⟩;obtain ⟨⟨k1,k2,k3,k4⟩,bb,off,rfl,c0,c1,c2,c3,c4⟩:=HS.out i x hx;replace c0:=zA c0 hRB.base;replace c1:=zA c1 hRB.base;replace c2:=zA c2 hRB.base;replace c3:=zA c3 hRB.base;replace c4:=zA c4 hRB.base;obtain ⟨c,hc,hcut⟩:=zMx x.value k3;have HC:Hid _:=hcut;have hltI:(i:Int)<(ss.length:Int):=by omega
   have e1:IntKind.i64.wrap ((b:Int)+100)=(b:Int)+100:=by rw [IntKind.wrap_i64];omega
   have e2:IntKind.i64.wrap ((b:Int)+100+(c.size:Int))=(b:Int)+100+(c.size:Int):=by rw [IntKind.wrap_i64];omega
   have e3:IntKind.i64.wrap ((i:Int)+4)=(i:Int)+4:=by rw [IntKind.wrap_i64];omega
   have e4:IntKind.i64.wrap (1024*((i:Int)+4))=1024*((i:Int)+4):=by rw [IntKind.wrap_i64];omega
   have e5:IntKind.i64.wrap (4096+1024*((i:Int)+4))=4096+1024*((i:Int)+4):=by rw [IntKind.wrap_i64];omega
   have e6:IntKind.i64.wrap (8*((b:Int)+100+(c.size:Int)))=8*((b:Int)+100+(c.size:Int)):=by rw [IntKind.wrap_i64];omega
   have e7:IntKind.i64.wrap (4096+1024*((i:Int)+4)+8*((b:Int)+100+(c.size:Int)))=4096+1024*((i:Int)+4)+8*((b:Int)+100+(c.size:Int)):=by rw [IntKind.wrap_i64];omega
   have HRB:Hid (RB w wr r s d L clock water water (fun _=>True)):=hRB;have HX:Hid (x.Ok w):=⟨k1,k2,k3,k4⟩;clear hRB hx hcut k1 k2 k3 k4;by_cases hg1:4096+1024*((i:Int)+4)+8*((b:Int)+100+(c.size:Int))≤1048576
   ·by_cases hg2:clock≤1099511627768
    ·have hroom:36+2*(S.YW L+36+c.size)≤1048576:=by omega
     have ST:Hid _:=fun (_:Unit)=>zN9 HRB.out x.kind x.key x.ahead HX.out.1 HX.out.2.1 x.value c hc HC.out x.keep x.ko x.kc HX.out.2.2.2 h0 hg2 hroom;unfold zI1 at ST;go_wp2_with fail;refine (HC.out _).mono ?_;rintro e w2 ⟨rfl,hw2⟩;subst hw2;go_wp2_with fail;refine (ST.out ()).mono ?_;rintro e w3 ⟨rfl,s',d',L',clock',water',hR,h0',hcl,hco⟩;have HP3:Hid (zHp w r (i+1) (b+100+c.size) w3):=⟨s',d',L',clock',water',hR,h0',by omega⟩;clear ST hR HC HRB HX HS;go_wp2_with fail
     go_roundw
     case rel=>exact ⟨b+100+c.size,i+1,by go_num,by go_num,by omega,by omega,by omega,HP3⟩
     case measure=>simp [intOf];omega
    ·go_wp2_with fail;refine (HC.out _).mono ?_;rintro e w2 ⟨rfl,hw2⟩;subst hw2;go_wp2_with fail;go_ret;exact HP.out.done
   ·go_wp2_with fail;refine (HC.out _).mono ?_;rintro e w2 ⟨rfl,hw2⟩;subst hw2;go_wp2_with fail;go_ret;exact HP.out.done
  ·obtain rfl:i=ss.length:=by omega
   clear hRB;go_wp2_with fail;go_ret;exact HP.out.done
theorem RB.right {water:Int} (h:RB w0 w r s d L clock water water P) (W:World) (q:Q w W) (k:ByteArray) (hk:1≤k.size∧k.size≤64) (t:Int) (ht:0≤t∨t<water) :
  Calls Tryz.prog 10 #[.pointer (some ⟨r,0,none⟩),.string k,.int .i64 t] W fun e w'=>e=.returned (.bool true)∧Q W w':=by
 obtain ⟨tg,T,X,bs,C,hB,_⟩:=h;exact zLg (hB.qq q).run k hk t ht
def zGP (w:World) (r:Nat) (L:List S.zZ) (clock:Int) (ao:Option Addr) (cap:Nat):Prop:=
 w.cell? ⟨r,2,none⟩=some (.slice ao L.length cap)∧w.cell? ⟨r,3,none⟩=some (.int .i64 clock)∧L.length≤20164∧∀ (i:Nat) (f:S.zZ),L[i]?=some f→(0≤f.stamp∧f.stamp≤clock)∧(1≤f.key.size∧f.key.size≤64)∧∃ g,ao=some ⟨g,0,none⟩∧w.cell? ⟨g,i*4,none⟩=some (.string f.key)∧w.cell? ⟨g,i*4+1,none⟩=some (.int .i64 f.stamp)∧w.cell? ⟨g,i*4+2,none⟩=some (.string f.value)∧w.cell? ⟨g,i*4+3,none⟩=some (.bool f.there)
theorem ZQ.facts {w:World} {tg:Tags} {rr r s d:Nat} {L:List S.zZ} {clock wc water:Int} {ok:Bool} {T:S.Two} {X:S.Sto} {bs:List (List Rec)} {C:S.Con} (h:ZQ w tg rr r d s L clock wc ok) (hok:S.yM L clock water T X bs C):∃ ao cap,zGP w r L clock ao cap:=by
 obtain ⟨ao,cap,a1,a2,a3⟩:=h.c2;refine ⟨ao,cap,a1,h.c3,hok.few.1,fun i f hf=>?_⟩;have hm:=zQm hf;have hne:yS L≠[]:=fun e=>by
  have:=yR (L:=L) 0 hf (by omega);rw [e] at this;simp [S.zZ.cells] at this
 obtain ⟨g,hg,_,_,hc⟩:=Zp a2 hne;exact ⟨hok.facts.top f hm,hok.facts.key f hm,g,hg,hc _ _ (by rw [show i*4=i*4+0 from rfl,yR 0 hf (by omega)];rfl),hc _ _ (by rw [yR 1 hf (by omega)];rfl),hc _ _ (by rw [yR 2 hf (by omega)];rfl),hc _ _ (by rw [yR 3 hf (by omega)];rfl)⟩
theorem RB.facts {w0 w:World} {r s d:Nat} {L:List S.zZ} {clock wc water:Int} {P:S.Sto→Prop} (h:RB w0 w r s d L clock wc water P):∃ ao cap,zGP w r L clock ao cap:=by
 obtain ⟨tg,T,X,bs,C,hB,_⟩:=h;exact hB.run.run.facts hB.run.ok
theorem zHG (w:World) (hT:Tab w) (ss:List Stq) (ao:Option Addr) (cap:Nat) (hS:Yn w ao ss) (which stamp:Int) (hw:-9223372036854775808≤which∧which≤9223372036854775807) (hst:-9223372036854775808≤stamp∧stamp≤9223372036854775807) :
  Calls Tryz.prog 5 #[.slice ao ss.length cap,.int .i64 which,.int .i64 stamp] w fun e w'=>e=.returned (.bool true)∧Q w w':=by
 have PL:Hid _:=fun (_:Unit)=>zCg w hT ss ao cap hS;clear hS hT;have KY:Hid _:=fun (W:World)=>zIM which hw W;go_enter Tryz.func5,Tryz.ntmps5;go_wp2_with fail;refine (PL.out ()).mono ?_;rintro e w1 ⟨r,s,d,L,clock,water,rfl,hR,h0⟩;obtain ⟨fo,fc,r2,r3,hlen,hfa⟩:=hR.facts;have hcl:=hR.nums.2.2.1;have hqw:=hR.base;have RI:Hid (∀ (W:World),Q w1 W→∀ (k:ByteArray),(1≤k.size∧k.size≤64)→∀ (t:Int),(0≤t∨t<water)→Calls Tryz.prog 10 #[.pointer (some ⟨r,0,none⟩),.string k,.int .i64 t] W fun e w'=>e=.returned (.bool true)∧Q W w'):=fun W q k hk t ht=>hR.right W q k hk t ht;have HFA:Hid _:=hfa;have HQ:Hid (Q w w1):=hqw;clear PL hR hfa hqw;go_wp2_with fail
 go_loopw [8] (fun ti wr=>∃ i:Nat,ti=.int .i64 (i:Int)∧i≤L.length∧Q w1 wr) (fun ti _=>L.length-(intOf ti).toNat)
 case atStart=>exact ⟨0,rfl,zQn _,Q.refl _⟩
 case round =>
  obtain ⟨i,rfl,hi,hq⟩:=hrel;have k2:=zA r2 hq;by_cases hlt:i<L.length
  ·obtain ⟨f,hf⟩:∃ f,L[i]?=some f:=⟨_,zQc hlt⟩;obtain ⟨hfs,hfk,g,rfl,f0,f1,f2,f3⟩:=HFA.out i f hf;obtain ⟨fk,st,fu,ft⟩:=f;dsimp only at hfs hfk f0 f1 f2 f3;have hltI:(i:Int)<(L.length:Int):=by omega
   have e0:=zA f0 hq;have e1:=zA f1 hq;have e2:=zA f2 hq;have e3:=zA f3 hq;obtain ⟨wA,hwA⟩:∃ wA,wA=wr.alloc (.cells #[.string fk,.int .i64 st,.string fu,.bool ft] 26):=⟨_,rfl⟩;have qA:Q wr wA:=by rw [hwA];exact (Q.refl wr).alloc _ _
   have hV:yZ wA wr.heap.size [.string fk,.int .i64 st,.string fu,.bool ft]:=by rw [hwA];exact zI wr _ _
   have R1:Hid _:=fun (_:Unit)=>RI.out wA (hq.trans qA) fk hfk st (Or.inl hfs.1);have HA:Hid (Q wr wA∧yZ wA wr.heap.size [.string fk,.int .i64 st,.string fu,.bool ft]):=⟨qA,hV⟩;clear hf qA hV f0 f1 f2 f3;go_wp2_with fail;rw [←hwA];clear hwA;refine (R1.out ()).mono ?_;rintro e w2 ⟨rfl,q2⟩;have m0:=zA (HA.out.2.cell 0 rfl) q2;have m1:=zA (HA.out.2.cell 1 rfl) q2;have hq2:Q w1 w2:=(hq.trans HA.out.1).trans q2;clear R1 q2 e0 e1 e2 e3 k2 HA;by_cases hz:st=0
   ·subst hz;have HQ4:Hid (Q w1 w2):=hq2;clear hq2;go_upto_region 10 with fail
    go_region_held3 (fun w'=>w'.cell? ⟨wr.heap.size,1,none⟩=some (.int .i64 0))
     (first | exact m1 | exact hS7 | exact hS5)
     (first
      | (go_at_call 22;refine (KY.out _).mono ?_;rintro e w5 ⟨kk,rfl,hkk,q5⟩;have hS5:w5.cell? ⟨wr.heap.size,1,none⟩=some (.int .i64 0):=zA m1 (((Q.refl w2).drew).trans q5))
      | (go_at_call 10;refine (RI.out _ (HQ4.out.trans (((Q.refl w2).drew).trans q5)) kk ⟨hkk.1,zQq hkk.2 (by decide)⟩ 0 (Or.inl hfs.1)).mono ?_;rintro e w7 ⟨rfl,q7⟩;have hS7:w7.cell? ⟨wr.heap.size,1,none⟩=some (.int .i64 0):=zA hS5 q7))
    all_goals
     have hq7:Q w1 w7:=(HQ4.out.trans (((Q.refl w2).drew).trans q5)).trans q7;clear hS7 hS5 q5 q7 m0 m1 HQ4;go_wp2_with fail
     go_roundw
     case rel=>exact ⟨i+1,by go_num,by omega,hq7⟩
     case measure=>simp [intOf];omega
   ·have e4:IntKind.i64.wrap (st-1)=st-1:=by rw [IntKind.wrap_i64];omega
    have R2:Hid _:=fun (_:Unit)=>RI.out w2 hq2 fk hfk (st-1) (Or.inl (by omega));go_wp2_with fail;refine (R2.out ()).mono ?_;rintro e w3 ⟨rfl,q3⟩;replace m0:=zA m0 q3;replace m1:=zA m1 q3;have HQ4:Hid (Q w1 w3):=hq2.trans q3;clear hq2 q3 R2;go_upto_region 10 with fail
    go_region_held3 (fun w'=>w'.cell? ⟨wr.heap.size,1,none⟩=some (.int .i64 st))
     (first | exact m1 | exact hS7 | exact hS5)
     (first
      | (go_at_call 22;refine (KY.out _).mono ?_;rintro e w5 ⟨kk,rfl,hkk,q5⟩;have hS5:w5.cell? ⟨wr.heap.size,1,none⟩=some (.int .i64 st):=zA m1 (((Q.refl w3).drew).trans q5))
      | (go_at_call 10;refine (RI.out _ (HQ4.out.trans (((Q.refl w3).drew).trans q5)) kk ⟨hkk.1,zQq hkk.2 (by decide)⟩ st (Or.inl hfs.1)).mono ?_;rintro e w7 ⟨rfl,q7⟩;have hS7:w7.cell? ⟨wr.heap.size,1,none⟩=some (.int .i64 st):=zA hS5 q7))
    all_goals
     have hq7:Q w1 w7:=(HQ4.out.trans (((Q.refl w3).drew).trans q5)).trans q7;clear hS7 hS5 q5 q7 m0 m1 HQ4;go_wp2_with fail
     go_roundw
     case rel=>exact ⟨i+1,by go_num,by omega,hq7⟩
     case measure=>simp [intOf];omega
  ·obtain rfl:i=L.length:=by omega
   replace r3:=zA r3 hq;have e5:IntKind.i64.wrap (clock+5)=clock+5:=by rw [IntKind.wrap_i64];omega
   have P5:Hid _:=zBM stamp (clock+5) hst (by omega);obtain ⟨p5,hp5⟩:∃ p5,p5=pk stamp (clock+5):=⟨_,rfl⟩;have hp5r:=zBL stamp (clock+5) (by omega);rw [←hp5] at P5 hp5r;clear hp5;go_upto_region 13 with fail
   go_region_held3 (fun w'=>w'.cell? ⟨r,3,none⟩=some (.int .i64 clock))
    (first | exact r3 | exact hS7 | exact hS5)
    (first
     | (go_at_call 22;refine (KY.out _).mono ?_;rintro e w5 ⟨kk,rfl,hkk,q5⟩;have hS5:w5.cell? ⟨r,3,none⟩=some (.int .i64 clock):=zA r3 (((Q.refl wr).drew).trans q5))
     | (go_at_call 12;refine (P5.out _).mono ?_;rintro e w6 ⟨rfl,hw6⟩;subst hw6)
     | (go_at_call 10;refine (RI.out _ (hq.trans (((Q.refl wr).drew).trans q5)) kk ⟨hkk.1,zQq hkk.2 (by decide)⟩ p5 (Or.inl hp5r.1)).mono ?_;rintro e w7 ⟨rfl,q7⟩;have hS7:w7.cell? ⟨r,3,none⟩=some (.int .i64 clock):=zA hS5 q7))
   all_goals
    have hq7:Q w w7:=(HQ.out.trans hq).trans ((((Q.refl wr).drew).trans q5).trans q7);clear hS7 hS5 q5 q7 P5 RI KY;go_wp2_with fail;go_ret;exact ⟨rfl,hq7⟩
end Go.Proofs.YtekdenkllipehabGreatDoor
