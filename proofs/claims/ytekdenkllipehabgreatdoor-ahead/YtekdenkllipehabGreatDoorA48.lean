import Derived.Test.YtekdenkllipehabGreatDoorA47
set_option maxRecDepth 100000
set_option maxHeartbeats 8000000
namespace Go.Proofs.YtekdenkllipehabGreatDoor
open Go.RowKit
variable {A ids' ps':List Nat} {C:S.Con} {D E:M.Dsk} {L:List S.zh} {T:List UInt8} {X:S.Sto} {ao:Option Addr} {b d i j k o od r s:Nat} {bs:List (List Rec)} {clock fl:Int} {tg:Tags} {w w' w0 wr:World}
theorem zNL {water:Int} (h:RB w0 w r s d L clock water water (fun _=>True)) (kind key ahead:Int) (hkey:-9223372036854775808≤key∧key≤9223372036854775807) (hah:-9223372036854775808≤ahead∧ahead≤9223372036854775807) (v c:ByteArray) (hc:c.size≤4096) (hcut:∀ w,Calls Tryz.prog 48 #[.string v] w fun e w'=>e=.returned (.string c)∧w'=w) (ks:List Int) (ko:Option Addr) (kc:Nat) (hk:zFd w0 ks ko) (h0:0≤clock) (ht:clock≤1099511627768) (hroom:36+2*(S.Yb L+36+c.size)≤1048576) :
  Calls Tryz.prog 49 #[.pointer (some ⟨r,0,none⟩),zIB kind key ahead v ko ks.length kc] w fun e w'=>Stepped w0 r L clock c.size e w':=by
 obtain ⟨wB,hwB⟩:∃ wB,wB=w.alloc (.cells #[.int .i64 kind,.int .i64 key,.int .i64 ahead,.string v,.slice ko ks.length kc] 100):=⟨_,rfl⟩;have qB:Q w wB:=by rw [hwB];exact (Q.refl w).alloc _ _
 have hV:ZK wB w.heap.size [.int .i64 kind,.int .i64 key,.int .i64 ahead,.string v,.slice ko ks.length kc]:=by rw [hwB];exact zK w _ _
 have hRB:=h.q qB;obtain ⟨r0,r1,r4,r5,y4,y5,r3⟩:=hRB.cells;have b0:=hV.cell 0 rfl;have b1:=hV.cell 1 rfl;have b2:=hV.cell 2 rfl;have b3:=hV.cell 3 rfl;have b4:=hV.cell 4 rfl;have P4:Hid _:=zDP ahead 4 hah (by decide);obtain ⟨p4,hp4⟩:∃ p4,p4=pk ahead 4:=⟨_,rfl⟩;have hp4r:=zDO ahead 4 (by decide);rw [←hp4] at P4 hp4r;clear hp4;have a1:IntKind.i64.wrap (clock+1)=clock+1:=by rw [IntKind.wrap_i64];omega
 have a2:IntKind.i64.wrap (clock+1+p4)=clock+1+p4:=by rw [IntKind.wrap_i64];omega
 have HRB:Hid (RB w0 w r s d L clock water water (fun _=>True)∧Q w wB∧ZK wB w.heap.size [.int .i64 kind,.int .i64 key,.int .i64 ahead,.string v,.slice ko ks.length kc]∧zFd w0 ks ko):=⟨h,qB,hV,hk⟩;have HCUT:Hid _:=hcut;clear h qB hV hRB hk hcut;unfold zIB;go_enter Tryz.func49,Tryz.ntmps49;go_wp2_with fail;rw [←hwB];clear hwB
 go_region_held3 (fun w'=>w'.cell? ⟨r,3,none⟩=some (.int .i64 clock)∧w'.cell? ⟨w.heap.size,2,none⟩=some (.int .i64 ahead))
  (first | exact ⟨r3,b2⟩ | exact hS4)
  (first | (go_at_call 12;refine (P4.out _).mono ?_;rintro e w4 ⟨rfl,hw4⟩;subst hw4;have hS4:wB.drew.cell? ⟨r,3,none⟩=some (.int .i64 clock)∧wB.drew.cell? ⟨w.heap.size,2,none⟩=some (.int .i64 ahead):=⟨r3,b2⟩))
 all_goals
  have q4:Q wB wB.drew:=(Q.refl wB).drew;obtain ⟨w4,hw4⟩:∃ w4,w4=wB.drew:=⟨_,rfl⟩;rw [←hw4] at q4 ⊢;have HW:Hid (∃ w1,RB w0 w1 r s d L clock water water (fun _=>True)∧Q w1 w4∧w1.heap.size≤w.heap.size∧w.heap.size<w4.heap.size):=⟨w,HRB.out.1,HRB.out.2.1.trans q4,zR9 _,zR8 HRB.out.2.2.1.1 q4.below.size⟩;have HK:Hid (zFd w0 ks ko):=HRB.out.2.2.2;have HB4:Hid (RB w0 w4 r s d L clock water water (fun _=>True)):=HRB.out.1.q (HRB.out.2.1.trans q4);replace r1:=zA r1 q4;replace r3:=zA r3 q4;replace r4:=zA r4 q4;replace r5:=zA r5 q4;replace b0:=zA b0 q4;replace b1:=zA b1 q4;replace b2:=zA b2 q4;replace b3:=zA b3 q4;replace b4:=zA b4 q4;clear hS4 HRB y4 y5 r0 P4 hw4;clear q4;by_cases hk1:kind=1
  ·subst hk1;have KY:Hid _:=fun (W:World)=>zMP key hkey W;have SY:Hid (∀ (W:World) (kk:ByteArray),Q w4 W→(1≤kk.size∧kk.size≤5)→Calls Tryz.prog 9 #[.pointer (some ⟨r,0,none⟩),.agg #[.string kk,.int .i64 (clock+1+p4),.string c,.bool true]] W fun e w'=>Stepped w0 r L clock c.size e w'∧w'.heap[w.heap.size]?=W.heap[w.heap.size]?):=fun W kk q hkk=>by
    obtain ⟨w1,g1,g2,g3,g4⟩:=HW.out;exact zQA ⟨w1,g1,g2.trans q,g3,zR8 g4 q.below.size⟩ kk hkk (clock+1+p4) (by omega) h0 (by omega) (by omega) c hc hroom
   clear HK HB4 HW r1 r3 r4 r5 b2 b4;go_upto_region 4 with fail
   go_region_held3 (fun w'=>w'.cell? ⟨w.heap.size,1,none⟩=some (.int .i64 key)∧w'.cell? ⟨w.heap.size,3,none⟩=some (.string v))
    (first | exact ⟨b1,b3⟩ | exact hS7 | exact hS5)
    (first
     | (go_at_call 22;refine (KY.out _).mono ?_;rintro e w5 ⟨kk,rfl,hkk,q5⟩;have hS5:w5.cell? ⟨w.heap.size,1,none⟩=some (.int .i64 key)∧w5.cell? ⟨w.heap.size,3,none⟩=some (.string v):=⟨zA b1 (((Q.refl w4).drew).trans q5),zA b3 (((Q.refl w4).drew).trans q5)⟩)
     | (go_at_call 48;refine (HCUT.out _).mono ?_;rintro e w6 ⟨rfl,hw6⟩;subst hw6)
     | (go_at_call 9;refine (SY.out _ kk (((Q.refl w4).drew).trans q5) hkk).mono ?_;rintro e w7 ⟨⟨rfl,hst⟩,hbl⟩;have hS7:w7.cell? ⟨w.heap.size,1,none⟩=some (.int .i64 key)∧w7.cell? ⟨w.heap.size,3,none⟩=some (.string v):=⟨(zS6 (a:=⟨w.heap.size,1,none⟩) hbl).trans hS5.1,(zS6 (a:=⟨w.heap.size,3,none⟩) hbl).trans hS5.2⟩))
   all_goals
    have HST:Hid _:=hst;clear hst hS7 hS5 SY KY HCUT hbl q5;go_wp2_with fail;go_end0;exact ⟨rfl,HST.out⟩
  by_cases hk2:kind=2
  ·subst hk2;have KY:Hid _:=fun (W:World)=>zMP key hkey W;have SY:Hid (∀ (W:World) (kk:ByteArray),Q w4 W→(1≤kk.size∧kk.size≤5)→Calls Tryz.prog 9 #[.pointer (some ⟨r,0,none⟩),.agg #[.string kk,.int .i64 (clock+1+p4),.string ⟨#[]⟩,.bool false]] W fun e w'=>Stepped w0 r L clock c.size e w'∧w'.heap[w.heap.size]?=W.heap[w.heap.size]?):=fun W kk q hkk=>by
    obtain ⟨w1,g1,g2,g3,g4⟩:=HW.out;exact zQT ⟨w1,g1,g2.trans q,g3,zR8 g4 q.below.size⟩ kk hkk (clock+1+p4) (by omega) h0 (by omega) (by omega) c.size hroom
   clear HK HB4 HW r1 r3 r4 r5 b2 b4;go_wp2_with fail;refine (KY.out _).mono ?_;rintro e w5 ⟨kk,rfl,hkk,q5⟩;have SY5:Hid _:=fun (_:Unit)=>SY.out w5 kk q5 hkk;clear SY KY;go_wp2_with fail;refine (SY5.out ()).mono ?_;rintro e w7 ⟨⟨rfl,hst⟩,_⟩;have HST:Hid _:=hst;clear hst SY5;go_wp2_with fail;go_end0;exact ⟨rfl,HST.out⟩
  by_cases hk3:kind=3
  ·subst hk3;have P5:Hid _:=zDP ahead (clock+1) hah (by omega);obtain ⟨p5,hp5⟩:∃ p5,p5=pk ahead (clock+1):=⟨_,rfl⟩;have hp5r:=zDO ahead (clock+1) (by omega);rw [←hp5] at P5 hp5r;clear hp5 HK HW b1 b3 b4 HCUT;go_upto_region 8 with fail
   go_region_held3 (fun w'=>w'.cell? ⟨r,3,none⟩=some (.int .i64 clock)∧w'.cell? ⟨w.heap.size,2,none⟩=some (.int .i64 ahead))
    (first | exact ⟨r3,b2⟩)
    (first | (go_at_call 12;refine (P5.out _).mono ?_;rintro e w5 ⟨rfl,hw5⟩;subst hw5))
   all_goals
    have q5:Q w4 w4.drew:=(Q.refl w4).drew;obtain ⟨w5,hw5⟩:∃ w5,w5=w4.drew:=⟨_,rfl⟩;rw [←hw5] at q5 ⊢;replace r1:=zA r1 q5;replace r4:=zA r4 q5;have HB5:Hid (RB w0 w5 r s d L clock water water (fun _=>True)):=HB4.out.q q5;clear hw5;clear q5 HB4 P5 r3 r5 b0 b2;by_cases hge:water≤p5
    ·have RA:Hid _:=fun (_:Unit)=>zNV HB5.out p5 hge (by omega);go_wp2_with fail;refine (RA.out ()).mono ?_;rintro e w6 ⟨rfl,hR6⟩;have HR6:Hid _:=hR6;obtain ⟨_,_,x4,x5,y4,y5,_⟩:=hR6.cells;clear hR6 RA HB5;go_wp2_with fail;go_end0;exact YH _ (RB.water (RB.mark HR6.out) p5) h0
    ·go_wp2_with fail;go_end0;exact YH _ HB5.out h0
  by_cases hk4:kind=4
  ·subst hk4;have FL:Hid _:=fun (_:Unit)=>zCD HB4.out;go_wp2_with fail;refine (FL.out ()).mono ?_;rintro e w5 ⟨rfl,hR5⟩;have HR5:Hid _:=hR5;clear hR5 FL;go_wp2_with fail;go_end0;exact YH _ HR5.out h0
  by_cases hk5:kind=5
  ·subst hk5;have FL:Hid _:=fun (_:Unit)=>zCD HB4.out;go_wp2_with fail;refine (FL.out ()).mono ?_;rintro e w5 ⟨rfl,hR5⟩;have CO:Hid _:=fun (_:Unit)=>zKQ hR5;obtain ⟨_,x1,_,x5,_,y5,_⟩:=hR5.cells;clear hR5 FL;go_wp2_with fail;refine (CO.out ()).mono ?_;rintro e w6 ⟨rfl,hR6⟩;have HR6:Hid _:=hR6;obtain ⟨_,x1,_,x5,_,y5,_⟩:=hR6.cells;clear hR6 CO;go_wp2_with fail;go_end0;exact YH _ (RB.mark HR6.out) h0
  by_cases hk6:kind=6
  ·subst hk6;have CR:Hid _:=fun (_:Unit)=>zNW HB4.out ks ko kc HK.out;go_wp2_with fail;refine (CR.out ()).mono ?_;rintro e w5 ⟨rfl,s',d',hR5⟩;have HR5:Hid _:=hR5;clear hR5 CR;go_wp2_with fail;go_end0;exact YH _ HR5.out h0
  ·go_wp2_with fail;go_end0;exact YH _ HB4.out h0
structure Stq where
 kind:Int
 key:Int
 ahead:Int
 value:ByteArray
 keep:List Int
 ko:Option Addr
 kc:Nat
def Stq.Ok (x:Stq) (w0:World):Prop:=(-9223372036854775808≤x.key∧x.key≤9223372036854775807)∧(-9223372036854775808≤x.ahead∧x.ahead≤9223372036854775807)∧x.value.size≤140737488351232∧zFd w0 x.keep x.ko
def zBI (w0:World) (ao:Option Addr) (ss:List Stq):Prop:=∀ (i:Nat) (x:Stq),ss[i]?=some x→x.Ok w0∧∃ b off,ao=some ⟨b,off,none⟩∧w0.cell? ⟨b,off+i*5,none⟩=some (.int .i64 x.kind)∧w0.cell? ⟨b,off+i*5+1,none⟩=some (.int .i64 x.key)∧w0.cell? ⟨b,off+i*5+2,none⟩=some (.int .i64 x.ahead)∧w0.cell? ⟨b,off+i*5+3,none⟩=some (.string x.value)∧w0.cell? ⟨b,off+i*5+4,none⟩=some (.slice x.ko x.keep.length x.kc)
def zHv (w:World) (r i b:Nat) (wr:World):Prop:=∃ (s d:Nat) (L:List S.zh) (clock water:Int),RB w wr r s d L clock water water (fun _=>True)∧0≤clock∧S.Yb L+64*i≤39+b
def zOt (w:World) (e:Ending) (w':World):Prop:=∃ (r s d:Nat) (L:List S.zh) (clock water:Int),e=.returned (.pointer (some ⟨r,0,none⟩))∧RB w w' r s d L clock water water (fun _=>True)∧0≤clock
theorem zHv.done (h:zHv w r i b wr):zOt w (.returned (.pointer (some ⟨r,0,none⟩))) wr:=by
 obtain ⟨s,d,L,clock,water,h1,h2,_⟩:=h;exact ⟨r,s,d,L,clock,water,rfl,h1,h2⟩
theorem zKS (w:World) (hT:Tab w) (ss:List Stq) (ao:Option Addr) (cap:Nat) (hS:zBI w ao ss) :
  Calls Tryz.prog 21 #[.slice ao ss.length cap] w fun e w'=>zOt w e w':=by
 have BG:Hid _:=fun (_:Unit)=>zMs w hT;have HS:Hid (zBI w ao ss):=hS;clear hS hT;go_enter Tryz.func21,Tryz.ntmps21;go_wp2_with fail;refine (BG.out ()).mono ?_;rintro e w1 ⟨tg,r,s,d,T,X,bs,C,rfl,hB⟩;have HP:Hid (zHv w r 0 0 w1):=⟨s,d,[zFP],0,-1,⟨tg,T,X,bs,C,hB,trivial⟩,by omega,by decide⟩;clear BG hB;go_wp2_with fail
 go_loopw [4,5] (fun tb ti wr=>∃ (b i:Nat),tb=.int .i64 (b:Int)∧ti=.int .i64 (i:Int)∧i≤ss.length∧i≤1024∧b≤131072∧Hid (zHv w r i b wr)) (fun _ ti _=>ss.length-(intOf ti).toNat)
 case atStart=>exact ⟨0,0,rfl,rfl,zRH _,by omega,by omega,HP⟩
 case round =>
  obtain ⟨b,i,rfl,rfl,hi,hi2,hb2,HP⟩:=hrel;obtain ⟨s,d,L,clock,water,hRB,h0,hcost⟩:=HP.out;obtain ⟨_,_,_,r5,_,_,r3⟩:=hRB.cells;by_cases hlt:i<ss.length
  ·obtain ⟨x,hx⟩:∃ x,ss[i]?=some x:=⟨_,zR6 hlt⟩;obtain ⟨⟨k1,k2,k3,k4⟩,bb,off,rfl,c0,c1,c2,c3,c4⟩:=HS.out i x hx;replace c0:=zA c0 hRB.base;replace c1:=zA c1 hRB.base;replace c2:=zA c2 hRB.base;replace c3:=zA c3 hRB.base;replace c4:=zA c4 hRB.base;obtain ⟨c,hc,hcut⟩:=zNA x.value k3;have HC:Hid _:=hcut;have hltI:(i:Int)<(ss.length:Int):=by omega
   have e1:IntKind.i64.wrap ((b:Int)+100)=(b:Int)+100:=by rw [IntKind.wrap_i64];omega
   have e2:IntKind.i64.wrap ((b:Int)+100+(c.size:Int))=(b:Int)+100+(c.size:Int):=by rw [IntKind.wrap_i64];omega
   have e3:IntKind.i64.wrap ((i:Int)+4)=(i:Int)+4:=by rw [IntKind.wrap_i64];omega
   have e4:IntKind.i64.wrap (1024*((i:Int)+4))=1024*((i:Int)+4):=by rw [IntKind.wrap_i64];omega
   have e5:IntKind.i64.wrap (4096+1024*((i:Int)+4))=4096+1024*((i:Int)+4):=by rw [IntKind.wrap_i64];omega
   have e6:IntKind.i64.wrap (8*((b:Int)+100+(c.size:Int)))=8*((b:Int)+100+(c.size:Int)):=by rw [IntKind.wrap_i64];omega
   have e7:IntKind.i64.wrap (4096+1024*((i:Int)+4)+8*((b:Int)+100+(c.size:Int)))=4096+1024*((i:Int)+4)+8*((b:Int)+100+(c.size:Int)):=by rw [IntKind.wrap_i64];omega
   have HRB:Hid (RB w wr r s d L clock water water (fun _=>True)):=hRB;have HX:Hid (x.Ok w):=⟨k1,k2,k3,k4⟩;clear hRB hx hcut k1 k2 k3 k4;by_cases hg1:4096+1024*((i:Int)+4)+8*((b:Int)+100+(c.size:Int))≤1048576
   ·by_cases hg2:clock≤1099511627768
    ·have hroom:36+2*(S.Yb L+36+c.size)≤1048576:=by omega
     have ST:Hid _:=fun (_:Unit)=>zNL HRB.out x.kind x.key x.ahead HX.out.1 HX.out.2.1 x.value c hc HC.out x.keep x.ko x.kc HX.out.2.2.2 h0 hg2 hroom;unfold zIB at ST;go_wp2_with fail;refine (HC.out _).mono ?_;rintro e w2 ⟨rfl,hw2⟩;subst hw2;go_wp2_with fail;refine (ST.out ()).mono ?_;rintro e w3 ⟨rfl,s',d',L',clock',water',hR,h0',hcl,hco⟩;have HP3:Hid (zHv w r (i+1) (b+100+c.size) w3):=⟨s',d',L',clock',water',hR,h0',by omega⟩;clear ST hR HC HRB HX HS;go_wp2_with fail
     go_roundw
     case rel=>exact ⟨b+100+c.size,i+1,by go_num,by go_num,by omega,by omega,by omega,HP3⟩
     case measure=>simp [intOf];omega
    ·go_wp2_with fail;refine (HC.out _).mono ?_;rintro e w2 ⟨rfl,hw2⟩;subst hw2;go_wp2_with fail;go_ret;exact HP.out.done
   ·go_wp2_with fail;refine (HC.out _).mono ?_;rintro e w2 ⟨rfl,hw2⟩;subst hw2;go_wp2_with fail;go_ret;exact HP.out.done
  ·obtain rfl:i=ss.length:=by omega
   clear hRB;go_wp2_with fail;go_ret;exact HP.out.done
theorem RB.right {water:Int} {P:S.Sto→Prop} (h:RB w0 w r s d L clock water water P) (W:World) (q:Q w W) (k:ByteArray) (hk:1≤k.size∧k.size≤64) (t:Int) (ht:0≤t∨t<water) :
  Calls Tryz.prog 10 #[.pointer (some ⟨r,0,none⟩),.string k,.int .i64 t] W fun e w'=>e=.returned (.bool true)∧Q W w':=by
 obtain ⟨tg,T,X,bs,C,hB,_⟩:=h;exact zLr (hB.qq q).run k hk t ht
def zJA (w:World) (r:Nat) (L:List S.zh) (clock:Int) (ao:Option Addr) (cap:Nat):Prop:=
 w.cell? ⟨r,2,none⟩=some (.slice ao L.length cap)∧w.cell? ⟨r,3,none⟩=some (.int .i64 clock)∧L.length≤20164∧∀ (i:Nat) (f:S.zh),L[i]?=some f→(0≤f.stamp∧f.stamp≤clock)∧(1≤f.key.size∧f.key.size≤64)∧∃ g,ao=some ⟨g,0,none⟩∧w.cell? ⟨g,i*4,none⟩=some (.string f.key)∧w.cell? ⟨g,i*4+1,none⟩=some (.int .i64 f.stamp)∧w.cell? ⟨g,i*4+2,none⟩=some (.string f.value)∧w.cell? ⟨g,i*4+3,none⟩=some (.bool f.there)
theorem ZU.facts {w:World} {tg:Tags} {rr r s d:Nat} {L:List S.zh} {clock wc water:Int} {ok:Bool} {T:S.Two} {X:S.Sto} {bs:List (List Rec)} {C:S.Con} (h:ZU w tg rr r d s L clock wc ok) (hok:S.yY L clock water T X bs C):∃ ao cap,zJA w r L clock ao cap:=by
 obtain ⟨ao,cap,a1,a2,a3⟩:=h.c2;refine ⟨ao,cap,a1,h.c3,hok.few.1,fun i f hf=>?_⟩;have hm:=zRG hf;have hne:yX L≠[]:=fun e=>by
  have:=yV (L:=L) 0 hf (by omega);rw [e] at this;simp [S.zh.cells] at this
 obtain ⟨g,hg,_,_,hc⟩:=ZM a2 hne;exact ⟨hok.facts.top f hm,hok.facts.key f hm,g,hg,hc _ _ (by rw [show i*4=i*4+0 from rfl,yV 0 hf (by omega)];rfl),hc _ _ (by rw [yV 1 hf (by omega)];rfl),hc _ _ (by rw [yV 2 hf (by omega)];rfl),hc _ _ (by rw [yV 3 hf (by omega)];rfl)⟩
theorem RB.facts {w0 w:World} {r s d:Nat} {L:List S.zh} {clock wc water:Int} {P:S.Sto→Prop} (h:RB w0 w r s d L clock wc water P):∃ ao cap,zJA w r L clock ao cap:=by
 obtain ⟨tg,T,X,bs,C,hB,_⟩:=h;exact hB.run.run.facts hB.run.ok
namespace M
structure Dsk.Calm (D:Dsk):Prop where
 cap:D.cap=1048576
 alive:D.dead=false
 fuse:D.fuse=0
theorem Dsk.Calm.dies {D:Dsk} (h:D.Calm):D.dies=(D,false):=by
 unfold Dsk.dies;rw [if_neg (by rw [h.fuse];omega),h.alive]
theorem Dsk.Calm.append {D:Dsk} (h:D.Calm) (nm:ByteArray) (s:List UInt8):(D.append nm s).1.Calm:=by
 unfold Dsk.append;rw [h.dies];split
 ·exact h
 split
 ·exact h
 split
 ·exact h
 split
 ·rename_i e;injection e with _ e;cases e
 ·rename_i e;injection e with e _;subst e;split
  ·exact ⟨h.cap,h.alive,h.fuse⟩
  ·exact ⟨h.cap,h.alive,h.fuse⟩
theorem Dsk.Calm.sync {D:Dsk} (h:D.Calm) (nm:ByteArray):(D.sync nm).1.Calm:=by
 have hc:(D.changed nm one).1=D:=by
  unfold Dsk.changed;rw [h.dies];split
  ·rfl
  split
  ·rfl
  split
  ·rfl
  split
  ·rename_i e;injection e with _ e;cases e
  ·rename_i e;injection e with e _;exact e.symm
 unfold Dsk.sync;obtain ⟨⟨E,i,c⟩,hx⟩:∃ p,p=D.changed nm one:=⟨_,rfl⟩;rw [←hx] at hc ⊢;simp only at hc;subst hc;split
 ·rename_i e;injection e with e _;subst e;exact ⟨h.cap,h.alive,h.fuse⟩
 ·rename_i e;injection e with e _;subst e;exact h
def zAj (l:List (ByteArray × ByteArray)):Nat→Dsk
 | 0=>⟨1048576,[],false,0⟩
 | i+1=>match l[i]? with
  | some f=>(((zAj l i).append f.1 f.2.data.toList).1.sync f.1).1
  | none=>zAj l i
theorem zDV (l:List (ByteArray × ByteArray)):∀ i,(zAj l i).yI∧(zAj l i).Calm
 | 0=>⟨zJc (zR9 _),rfl,rfl,rfl⟩
 | i+1=>by
  obtain ⟨h1,h2⟩:=zDV l i;unfold zAj;split
  ·exact ⟨(h1.append _ _).sync _,(h2.append _ _).sync _⟩
  ·exact ⟨h1,h2⟩
def Dsk.texts (D:Dsk):List (ByteArray × List UInt8):=D.files.map fun f=>(f.name,f.bytes)
end M
def zAt (w:World) (ao:Option Addr) (l:List (ByteArray × ByteArray)):Prop:=∀ (i:Nat) (f:ByteArray × ByteArray),l[i]?=some f→∃ b off,ao=some ⟨b,off,none⟩∧w.cell? ⟨b,off+i*2,none⟩=some (.string f.1)∧w.cell? ⟨b,off+i*2+1,none⟩=some (.string f.2)∧b<w.heap.size
def LaidIn (w:World) (tg:Tags) (od d:Nat) (D:M.Dsk) (wr:World):Prop:=∃ tgE ids ps,Kept (·=od) tg w tgE wr∧zC wr tgE od d D ids ps
theorem LaidIn.turn (h:LaidIn w tg od d D wr):∃ tgE ids ps,zC wr tgE od d D ids ps∧∀ (E:M.Dsk) (W w':World),Q wr W→zy tgE od d E W w'→LaidIn w tg od d E w':=by
 obtain ⟨tgE,ids,ps,hK,hD⟩:=h;refine ⟨tgE,ids,ps,hD,fun E W w' q hL=>?_⟩;obtain ⟨tg',ids',ps',ht,hE',ho⟩:=hL;exact ⟨tg',ids',ps',(hK.trans (Kept.yT q (fun _ _=>rfl))).trans (Kept.yA ho ht rfl),hE'⟩
theorem LaidIn.file (h:LaidIn w tg od d D wr) {v:Value} (hc:w.cell? ⟨b,j,none⟩=some v) (hb:b<w.heap.size) (ht:(tg b).1≠od):wr.cell? ⟨b,j,none⟩=some v:=by
 obtain ⟨tgE,ids,ps,hK,_⟩:=h;exact (zS6 (a:=⟨b,j,none⟩) (hK.block b hb ht)).trans hc
theorem zJX (w:World) (tg:Tags) (od:Nat) (l:List (ByteArray × ByteArray)) (ao:Option Addr) (cap:Nat) (hl:l.length≤140737488351232) (hF:zAt w ao l) (ht:∀ k,k<w.heap.size→(tg k).1≠od) :
  Calls Tryz.prog 26 #[.slice ao l.length cap] w fun e w'=>∃ d,w.heap.size≤d∧e=.returned (.pointer (some ⟨d,0,none⟩))∧LaidIn w tg od d (M.zAj l l.length) w':=by
 have DN:Hid _:=fun (_:Unit)=>zC2 1048576 (by omega) tg od w;have HF:Hid (zAt w ao l∧∀ k,k<w.heap.size→(tg k).1≠od):=⟨hF,ht⟩;clear hF ht;go_enter Tryz.func26,Tryz.ntmps26;go_wp2_with fail;refine (DN.out ()).mono ?_;rintro e w1 ⟨rfl,hL1,q1⟩;have HC:Hid (LaidIn w tg od w.heap.size (M.zAj l 0) w1):=⟨_,[],[],Kept.yT q1 (fun k hk=>Tags.zD hk),hL1⟩;clear DN hL1 q1;go_wp2_with fail
 go_loopw [5] (fun ti wr=>∃ i:Nat,ti=.int .i64 (i:Int)∧i≤l.length∧Hid (LaidIn w tg od w.heap.size (M.zAj l i) wr)) (fun ti _=>l.length-(intOf ti).toNat)
 case atStart=>exact ⟨0,rfl,zRH _,HC⟩
 case round =>
  obtain ⟨i,rfl,hi,HC⟩:=hrel;by_cases hlt:i<l.length
  ·obtain ⟨f,hf⟩:∃ f,l[i]?=some f:=⟨_,zR6 hlt⟩;obtain ⟨b,off,rfl,c0,c1,hb⟩:=HF.out.1 i f hf;have hltI:(i:Int)<(l.length:Int):=by omega
   have hne:=HF.out.2 b hb;have n0:=HC.out.file c0 hb hne;have n1:=HC.out.file c1 hb hne;obtain ⟨tgE,ids,ps,hE,hT⟩:=HC.out.turn;have AP:Hid _:=fun (W:World) (q:Q wr W)=>zBY tgE od w.heap.size (M.zAj l i) ids ps (M.zDV l i).1 f.1 f.2 W (hE.kept q);have HT:Hid _:=hT;have HN:Hid (M.zAj l (i+1)=(((M.zAj l i).append f.1 f.2.data.toList).1.sync f.1).1):=by
    show M.zAj l (i+1)=_
    rw [M.zAj,hf]
   have HCC:Hid (w.cell? ⟨b,off+i*2,none⟩=some (.string f.1)∧w.cell? ⟨b,off+i*2+1,none⟩=some (.string f.2)):=⟨c0,c1⟩;clear hE hT c0 c1 hf HC;go_upto_region 7 with fail
   go_region_held3 (fun w'=>w'.cell? ⟨b,off+i*2,none⟩=some (.string f.1)∧w'.cell? ⟨b,off+i*2+1,none⟩=some (.string f.2))
    (first | exact ⟨n0,n1⟩ | exact hS4)
    (first
     | (go_at_call 43;refine (AP.out _ ((Q.refl wr).drew)).mono ?_;rintro e w4 ⟨rfl,hL4⟩;have HC4:Hid (LaidIn w tg od w.heap.size ((M.zAj l i).append f.1 f.2.data.toList).1 w4):=HT.out _ _ _ ((Q.refl wr).drew) hL4;have hS4:w4.cell? ⟨b,off+i*2,none⟩=some (.string f.1)∧w4.cell? ⟨b,off+i*2+1,none⟩=some (.string f.2):=⟨HC4.out.file HCC.out.1 hb hne,HC4.out.file HCC.out.2 hb hne⟩))
   all_goals
    clear hS4 hL4 AP HT n0 n1;obtain ⟨tgE4,ids4,ps4,hE4,hT4⟩:=HC4.out.turn;have SY:Hid _:=fun (W:World) (q:Q w4 W)=>zDX tgE4 od w.heap.size ((M.zAj l i).append f.1 f.2.data.toList).1 ids4 ps4 ((M.zDV l i).1.append _ _) f.1 W (hE4.kept q);have HT4:Hid _:=hT4;have n0:=HC4.out.file HCC.out.1 hb hne;clear hE4 hT4 HC4;go_wp2_with fail;refine (SY.out _ (Q.refl w4)).mono ?_;rintro e w5 ⟨rfl,hL5⟩;have HC5:Hid (LaidIn w tg od w.heap.size (M.zAj l (i+1)) w5):=by
     show LaidIn w tg od w.heap.size (M.zAj l (i+1)) w5
     rw [HN.out];exact HT4.out _ _ _ (Q.refl w4) hL5
    clear hL5 SY HT4 n0;go_wp2_with fail
    go_roundw
    case rel=>exact ⟨i+1,by go_num,by omega,HC5⟩
    case measure=>simp [intOf];omega
  ·obtain rfl:i=l.length:=by omega
   go_wp2_with fail;go_ret;exact ⟨_,zR9 _,rfl,HC.out⟩
def zHu (D E:M.Dsk) (i:Nat):Prop:=∀ j,j<i→(D.files[j]?.map fun f=>(f.name,f.bytes))=E.files[j]?.map fun f=>(f.name,f.bytes)
theorem zHu.all (h:zHu D E D.files.length) (hl:D.files.length=E.files.length):D.texts=E.texts:=by
 unfold M.Dsk.texts;refine List.ext_getElem? fun j=>?_;rw [zRn,zRn];by_cases hj:j<D.files.length
 ·exact h j hj
 ·rw [zS1 (by omega),zS1 (by omega)]
def zOa (D E:M.Dsk) (w:World) (e:Ending) (w':World):Prop:=∃ v:Bool,e=.returned (.bool v)∧(v=true→D.texts=E.texts)∧Q w w'
theorem zHs {tg':Tags} {o' a:Nat} {i1 i2 i3 i4:List Nat} (hA:zC w tg o a D i1 i2) (hB:zC w tg' o' b E i3 i4) (hD:D.yI) (hE:E.yI) (hd:D.dead=false) (he:E.dead=false) :
  Calls Tryz.prog 27 #[.pointer (some ⟨a,0,none⟩),.pointer (some ⟨b,0,none⟩)] w fun e w'=>zOa D E w e w':=by
 have hf1:=hD.good.few;have hf2:=hE.good.few;have n1:D.names.length=D.files.length:=by unfold M.Dsk.names;rw [hd,if_neg (by simp),zRr]
 have n2:E.names.length=E.files.length:=by unfold M.Dsk.names;rw [he,if_neg (by simp),zRr]
 have NA:Hid _:=fun (_:Unit)=>zEb tg o a D i1 i2 hD w hA;have NB:Hid _:=fun (W:World) (q:Q w W)=>zEb tg' o' b E i3 i4 hE W (hB.kept q);rw [n1] at NA;rw [n2] at NB;have RA:Hid _:=fun (W:World) (q:Q w W) (nm:ByteArray)=>zDY tg o a D i1 i2 hD nm W (hA.kept q);have RB:Hid _:=fun (W:World) (q:Q w W) (nm:ByteArray)=>zDY tg' o' b E i3 i4 hE nm W (hB.kept q);have HD:Hid (D.yI∧E.yI∧D.dead=false∧E.dead=false):=⟨hD,hE,hd,he⟩;clear hA hB hD hE hd he n1 n2;go_enter Tryz.func27,Tryz.ntmps27;go_wp2_with fail;refine (NA.out ()).mono ?_;rintro e w1 ⟨ao,ca,rfl,hN1⟩;have q1:Q w w1:=⟨hN1.below⟩;have NB2:Hid _:=fun (_:Unit)=>NB.out w1 q1;have HN1:Hid (zBM w D.names ao ca w1):=hN1;clear NA NB hN1;go_wp2_with fail;refine (NB2.out ()).mono ?_;rintro e w2 ⟨bo,cb,rfl,hN2⟩;have q2:Q w1 w2:=⟨hN2.below⟩;have hq:Q w w2:=q1.trans q2;have HA:Hid (∀ (j:Nat) (f:M.Fil),D.files[j]?=some f→∃ g,ao=some ⟨g,0,none⟩∧w2.cell? ⟨g,j,none⟩=some (.string f.name)):=fun j f hf=>by
  have hv:(YM D.names)[j]?=some (.string f.name):=by
   unfold YM M.Dsk.names;rw [HD.out.2.2.1,if_neg (by simp)];simp [hf]
  obtain ⟨g,hg,_,_,hc⟩:=ZM HN1.out.own (fun e=>by rw [e] at hv;simp at hv);exact ⟨g,hg,zA (hc j _ hv) q2⟩
 have HB:Hid (∀ (j:Nat) (f:M.Fil),E.files[j]?=some f→∃ g,bo=some ⟨g,0,none⟩∧w2.cell? ⟨g,j,none⟩=some (.string f.name)):=fun j f hf=>by
  have hv:(YM E.names)[j]?=some (.string f.name):=by
   unfold YM M.Dsk.names;rw [HD.out.2.2.2,if_neg (by simp)];simp [hf]
  obtain ⟨g,hg,_,_,hc⟩:=ZM hN2.own (fun e=>by rw [e] at hv;simp at hv);exact ⟨g,hg,hc j _ hv⟩
 have HQ:Hid (Q w w2):=hq;clear NB2 hN2 q1 q2 hq HN1;by_cases hl:D.files.length=E.files.length
 ·rw [←hl];go_wp2_with fail
  go_loopw [7] (fun ti wr=>∃ i:Nat,ti=.int .i64 (i:Int)∧i≤D.files.length∧Q w2 wr∧zHu D E i) (fun ti _=>D.files.length-(intOf ti).toNat)
  case atStart=>exact ⟨0,rfl,zRH _,Q.refl _,fun j hj=>by omega⟩
  case round =>
   obtain ⟨i,rfl,hi,hq,hs⟩:=hrel;by_cases hlt:i<D.files.length
   ·obtain ⟨f,hf⟩:∃ f,D.files[i]?=some f:=⟨_,zR6 hlt⟩;obtain ⟨f',hf'⟩:∃ f',E.files[i]?=some f':=⟨_,zR6 (by omega)⟩;have hltI:(i:Int)<(D.files.length:Int):=by omega
    obtain ⟨g,rfl,c0⟩:=HA.out i f hf;obtain ⟨g',rfl,d0⟩:=HB.out i f' hf';have k0:=zA c0 hq;have R1:=fun (W:World) (q:Q w W)=>RA.out W q f.name;have R2:=fun (W:World) (q:Q w W)=>RB.out W q f'.name;rw [M.zEe HD.out.1 HD.out.2.2.1 hf] at R1;rw [M.zEe HD.out.2.1 HD.out.2.2.2 hf'] at R2;dsimp only at R1 R2;obtain ⟨x,hx⟩:∃ x:ByteArray,x=⟨f.bytes.toArray⟩:=⟨_,rfl⟩;obtain ⟨y,hy⟩:∃ y:ByteArray,y=⟨f'.bytes.toArray⟩:=⟨_,rfl⟩;obtain ⟨nx,hnx⟩:∃ nx,nx=f.name:=⟨_,rfl⟩;obtain ⟨ny,hny⟩:∃ ny,ny=f'.name:=⟨_,rfl⟩;rw [←hx,←hnx] at R1;rw [←hy,←hny] at R2;rw [←hnx] at k0 c0;rw [←hny] at d0;have HS:Hid (zHu D E i∧(nx=ny→x=y→zHu D E (i+1))):=⟨hs,fun e1 e2 j hj=>by
     by_cases hji:j=i
     ·subst hji;rw [hf,hf'];have h1:f.bytes=f'.bytes:=by rw [hx,hy] at e2;injection e2 with e2;simpa using congrArg Array.toList e2
      simp only [zRq];rw [←hnx,←hny,e1,h1]
     ·exact hs j (by omega)⟩
    have R1H:Hid _:=R1;have R2H:Hid _:=R2;clear R1 R2 hx hy hnx hny hf hf' hs;go_wp2_with fail;refine (R1H.out _ (HQ.out.trans hq)).mono ?_;rintro e w3 ⟨rfl,q3⟩;have hq3:=hq.trans q3;have l0:=zA d0 hq3;clear R1H k0 q3 hq;go_wp2_with fail;refine (R2H.out _ (HQ.out.trans hq3)).mono ?_;rintro e w4 ⟨rfl,q4⟩;have hq4:=hq3.trans q4;have k0:=zA c0 hq4;replace l0:=zA d0 hq4;have HQ4:Hid (Q w2 w4):=hq4;clear R2H q4 hq3 hq4;go_upto_region 10 with fail
    by_cases en:nx=ny
    ·subst en;by_cases ex:x=y
     ·subst ex;go_quiet (fail);go_wp2_with fail
      go_roundw
      case rel=>exact ⟨i+1,by go_num,by omega,HQ4.out.drewN _,HS.out.2 rfl rfl⟩
      case measure=>simp [intOf];omega
     ·have xb:(x.toList == y.toList)=false:=by
       rw [zRy];exact fun e=>ex (M.Zl e)
      go_quiet (fail);go_wp2_with fail;go_ret;exact ⟨false,rfl,fun e=>(by cases e),HQ.out.trans (HQ4.out.drewN _)⟩
    ·have xb:(nx.toList == ny.toList)=false:=by
      rw [zRy];exact fun e=>en (M.Zl e)
     go_quiet (fail);go_wp2_with fail;go_ret;exact ⟨false,rfl,fun e=>(by cases e),HQ.out.trans (HQ4.out.drewN _)⟩
   ·obtain rfl:i=D.files.length:=by omega
    have HE:Hid (Q w wr∧D.texts=E.texts):=⟨HQ.out.trans hq,hs.all hl⟩;clear hq hs;go_wp2_with fail;go_ret;exact ⟨true,rfl,fun _=>HE.out.2,HE.out.1⟩
 ·have hlI:¬(D.files.length:Int)=(E.files.length:Int):=by omega
  go_wp2_with fail;go_ret;exact ⟨false,rfl,fun e=>(by cases e),HQ.out⟩
namespace S
theorem zMn:∀ {bs bs':List (List Rec)} {a:Nat},(∀ b∈bs,OkB b)→(∀ b∈bs',OkB b)→yH a bs=yH a bs'→zl bs=zl bs'→bs=bs'
 | [],[],_,_,_,_,_=>rfl
 | [],_::_,_,_,_,h,_=>by simp [yH] at h
 | _::_,[],_,_,_,h,_=>by simp [yH] at h
 | b::bs,b'::bs',a,h1,h2,h3,h4=>by
  simp only [yH,List.cons.injEq] at h3;have e0:zl (b::bs)=zQ b++zl bs:=by simp [zl]
  have e1:zl (b'::bs')=zQ b'++zl bs':=by simp [zl]
  have hl:(zQ b).length=(zQ b').length:=by
   have:=congrArg Ent.hi h3.1;simp only [zEW] at this;omega
  rw [e0,e1] at h4;obtain ⟨g1,g2⟩:=List.append_inj h4 hl;obtain ⟨T,t1,t2⟩:=zBH (h1 b (by simp));obtain ⟨T',u1,u2⟩:=zBH (h2 b' (by simp));have hT:T=T':=zA9 (by
   have:(yG T).data.toList=(yG T').data.toList:=by rw [t2,u2,g1]
   have h5:(yG T).data=(yG T').data:=by
    rw [←Array.toArray_toList (xs:=(yG T).data),this]
   exact congrArg ByteArray.mk h5)
  subst hT;have hb:=zAc t1 u1;subst hb;rw [hl] at h3;rw [zMn (fun x hx=>h1 x (by simp [hx])) (fun x hx=>h2 x (by simp [hx])) h3.2 g2]
def zN1 (D:M.Dsk) (bs:List (List Rec)) (fl:Int):Prop:=(D.texts=[]∧bs=[]∧fl=-1)∨D.texts=[(yO,za bs fl)]
structure zI0 (bs:List (List Rec)) (fl:Int):Prop where
 ok:∀ b∈bs,OkB b
 lo:-1≤fl
 hi:fl≤1099511627776
 few:(za bs fl).length≤1048576
theorem yY.zMd {L:List zh} {water:Int} {T:Two} {X:Sto} {C:Con} (h:yY L clock water T X bs C):zI0 bs X.fl:=by
 have h1:=h.good.top;have h2:=h.good.fl2;have h3:=h.good.fl1;have h4:=zIm (wm:=X.fl) h.good.fil h.zQv (by omega) h.room;have h5:=h.room;exact ⟨h.good.fil.ok,h3,by omega,by omega⟩
theorem yY.zR1 {L:List zh} {water:Int} {T:Two} {X:Sto} {C:Con} (h:yY L clock water T X bs C):zN1 T.dsk bs X.fl:=by
 have hb:=h.b;rcases h.a with ⟨e,e2,e3⟩|e
 ·left;refine ⟨?_,e2,e3⟩;unfold M.Dsk.texts Two.dsk;rw [e,hb];rfl
 ·right;unfold M.Dsk.texts Two.dsk;rw [e,hb];rfl
theorem zN1.same {bs':List (List Rec)} {fl':Int} (h:zN1 D bs fl) (h':zN1 D bs' fl') (ho:zI0 bs fl) (ho':zI0 bs' fl'):bs=bs'∧fl=fl':=by
 rcases h with ⟨e1,e2,e3⟩ | e1<;>rcases h' with ⟨u1,u2,u3⟩ | u1
 ·exact ⟨e2.trans u2.symm,e3.trans u3.symm⟩
 ·rw [e1] at u1;cases u1
 ·rw [e1] at u1;cases u1
 ·rw [e1] at u1;simp only [List.cons.injEq,Prod.mk.injEq,true_and,and_true] at u1;have h1:=zAa ho.ok ho.lo ho.hi ho.few;have h2:=zAa ho'.ok ho'.lo ho'.hi ho'.few;rw [u1,h2] at h1;simp only [zRD,Lay.mk.injEq] at h1;exact ⟨(zMn ho'.ok ho.ok h1.2.2 h1.2.1).symm,h1.1.symm⟩
theorem zN1.two (h:zN1 D bs fl) (hc:D.Calm) (ho:zI0 bs fl):∃ T0:Two,D=T0.dsk∧zBL False T0.dsk bs fl∧S.settle T0.dsk=((⟨1048576,made T0.a,none,false,0⟩:Two).dsk,0)∧zPw ⟨1048576,made T0.a,none,false,0⟩ bs fl:=by
 obtain ⟨c,fs,de,fu⟩:=D;obtain ⟨h1,h2,h3⟩:=hc;simp only at h1 h2 h3;subst h1 h2 h3;rcases h with ⟨e1,e2,e3⟩|e1
 ·have hf:fs=[]:=List.map_eq_nil_iff.1 e1;subst hf;refine ⟨⟨1048576,none,none,false,0⟩,rfl,⟨rfl,?_⟩,by rw [zBS];rfl,Or.inl ⟨rfl,e2,e3⟩⟩;rw [Two.zDL];exact Or.inl ⟨rfl,e2,e3⟩
 ·obtain ⟨f,hf,hn⟩:∃ f,fs=[f]∧(f.name,f.bytes)=(yO,za bs fl):=by
   have e1':(fs.map fun f=>(f.name,f.bytes))=[(yO,za bs fl)]:=e1
   cases fs with
   | nil=>simp at e1'
   | cons f t =>
    cases t with
    | nil=>exact ⟨f,rfl,by simpa using e1'⟩
    | cons g t=>simp at e1'
  obtain ⟨nm,x,n⟩:=f;simp only [Prod.mk.injEq] at hn;obtain ⟨rfl,rfl⟩:=hn;subst hf;refine ⟨⟨1048576,some (za bs fl,n),none,false,0⟩,rfl,⟨rfl,?_⟩,by rw [zBS];rfl,Or.inr rfl⟩;rw [Two.zDL];exact Or.inr ⟨rfl,zEn.whole False ho.ok ho.lo ho.hi ho.few⟩
theorem yY.mine {L:List zh} {water:Int} {T:Two} {X:Sto} {C:Con} (h:yY L clock water T X bs C) {U:Two} (hU:zPw ⟨1048576,U.a,none,false,0⟩ bs X.fl) (hn:T.a=none↔U.a=none):(⟨1048576,U.a,none,false,0⟩:Two)=T:=by
 have h1:=h.alive;have h2:=h.fuse;have h3:=h.b;have h4:=h.cap;have ha:=h.a;obtain ⟨c,a,b,de,fu⟩:=T;unfold zPw at ha hU;simp only at h1 h2 h3 h4 ha hU hn;subst h1 h2 h3 h4;congr 1;rcases ha with ⟨e,_⟩ | e<;>rcases hU with ⟨u,_⟩ | u
 ·rw [e,u]
 ·rw [hn.1 e] at u;cases u
 ·rw [hn.2 u] at e;cases e
 ·rw [e,u]
def zQe (D:M.Dsk):Prop:=∃ (L:List zh) (clock water:Int) (T:Two) (X:Sto) (bs:List (List Rec)) (C:Con),yY L clock water T X bs C∧X.zZ=false∧D.texts=T.dsk.texts
end S
namespace S
def Chain:Nat→List Ent→Nat→Prop
 | a,[],b=>a=b
 | a,e::es,b=>e.lo=a∧a≤e.hi∧Chain e.hi es b
theorem Chain.le:∀ {es:List Ent} {a b:Nat},Chain a es b→a≤b
 | [],_,_,h=>Nat.le_of_eq h
 | e::es,a,b,h=>by have:=Chain.le h.2.2;have:=h.2.1;omega
theorem Chain.at:∀ {es:List Ent} {a b i:Nat} {e:Ent},Chain a es b→es[i]?=some e→a≤e.lo∧e.lo≤e.hi∧e.hi≤b∧∀ e',es[i+1]?=some e'→e'.lo=e.hi
 | [],_,_,_,_,_,h=>by simp at h
 | x::es,a,b,0,e,h,hi=>by
  simp at hi;subst hi;refine ⟨Nat.le_of_eq h.1.symm,by have:=h.1;have:=h.2.1;omega,h.2.2.le,fun e' he=>?_⟩
  cases es with
  | nil=>simp at he
  | cons y es=>simp at he;subst he;exact h.2.2.1
 | x::es,a,b,i+1,e,h,hi=>by
  have h1:=Chain.at (i:=i) (e:=e) h.2.2 (by simpa using hi);exact ⟨by have:=h.2.1;omega,h1.2.1,h1.2.2.1,fun e' he=>h1.2.2.2 e' (by simpa using he)⟩
theorem Chain.snoc:∀ {es:List Ent} {a b:Nat} {e:Ent},Chain a es b→e.lo=b→b≤e.hi→Chain a (es++[e]) e.hi
 | [],_,_,_,h,h1,h2=>⟨h1.trans h.symm,by rw [h];exact h2,rfl⟩
 | x::es,_,_,_,h,h1,h2=>⟨h.1,h.2.1,h.2.2.snoc h1 h2⟩
theorem zD7 {T:List UInt8} {nb:Nat}:∀ (f a at_:Nat) (bad:Bool) (l:List Ent),Chain 0 l at_→Chain 0 (Yv T nb f a at_ bad l).1 (Yv T nb f a at_ bad l).2.1∧(Yv T nb f a at_ bad l).1.length≤l.length+f
 | 0,_,_,_,_,h=>⟨h,zR9 _⟩
 | f+1,a,at_,bad,l,h=>by
  unfold Yv;split
  ·obtain ⟨h1,h2⟩:=zD7 (T:=T) (nb:=nb) f (zEw T nb a at_).2 (zEw T nb a at_).1.hi (bad || zEZ T nb a) (l++[(zEw T nb a at_).1]) (h.snoc rfl (Nat.le_add_right _ _));exact ⟨h1,by simp at h2;omega⟩
  ·exact ⟨h,by simp⟩
theorem zHZ {A B:List UInt8} {n:Int} (h:Yq T n=some (A,B)):A.length≤T.length∧B.length≤T.length:=by
 unfold Yq at h;split at h
 ·cases h
 ·split at h
  ·injection h with h;injection h with h1 h2;subst h1 h2;simp only [zRv,List.length_drop];omega
  ·cases h
theorem zEt {L:Lay} (h:readFile T=some L):Chain 0 L.ents L.blocks.length∧L.ents.length≤T.length:=by
 unfold readFile at h
 cases h1:Yq T 8 with
 | none=>rw [h1] at h;cases h
 | some p =>
  obtain ⟨A,foot⟩:=p;rw [h1] at h;simp only at h
  cases h2:Yq A (((yJ foot 72057594037927935 0).1:Int)-2097152) with
  | none=>rw [h2] at h;cases h
  | some p =>
   obtain ⟨B,idx⟩:=p;rw [h2] at h;simp only at h;unfold YU at h;simp only at h;have hc:=zD7 (T:=idx) (nb:=B.length) idx.length (yJ idx 1099511627777 0).2 0 (zAB idx 1099511627777 0) [] rfl;split at h
   ·cases h
   ·rename_i hn;injection h with h;subst h;have e:(Yv idx B.length idx.length (yJ idx 1099511627777 0).2 0 (zAB idx 1099511627777 0) []).2.1=B.length:=Classical.byContradiction fun e=>hn (Or.inr e);rw [e] at hc;have:=(zHZ h1).1;have:=(zHZ h2).2;exact ⟨hc.1,by have:=hc.2;simp at this ⊢;omega⟩
theorem zDl {rs:List Rec}:∀ {k:Nat} {t:List UInt8},zi rs k=some t→5*k≤t.length
 | 0,_,_=>zRH _
 | k+1,t,h=>by
  unfold zi at h
  cases h1:zi rs k with
  | none=>rw [h1] at h;cases h
  | some u =>
   cases h2:rs[k]? with
   | none=>rw [h1,h2] at h;cases h
   | some r =>
    rw [h1,h2] at h;simp only at h;split at h
    ·cases h
    ·injection h with h;have:=zDl h1;have a1:=M.ZP 7 (zU rs k r);have a2:=M.ZP 7 (r.key.size-zU rs k r);have a3:=M.ZP 7 r.stamp.toNat;have a4:=M.ZP 7 r.body.size;rw [←h];unfold entry;simp only [zRA,List.length_singleton];omega
end S
theorem zID {ids ps:List Nat} (h:zL w tg o s d X ids ps) (hnu:S.yQ (X.newest.map (·.1))) (key:ByteArray) (hp:S.zDG (X.newest.map (·.1)) key=false) (hnf:X.newest.length≤1048575) (st:Int) :
  Calls Tryz.prog 65 #[.pointer (some ⟨s,4,none⟩),.string key,.int .i64 st] w fun e w'=>e=.returned (.tuple #[])∧∃ tg',(∀ k,k<w.heap.size→tg' k=tg k)∧zL w' tg' o s d { X with newest:=zJ X.newest (S.Zm (X.newest.map (·.1)) key) (key,st)} ids ps∧Only o tg w w':=by
 refine (zQp tg o s 4 1 (X.newest.map (·.1)) (zb (X.newest.map (·.2))) hnu (by simp;omega) key st hp (zC0 _) w h.nw ⟨by rw [h.ts];simp,by rw [h.ts];simp⟩ ⟨h.fr 4,h.fr 5⟩).mono ?_;rintro e w' ⟨rfl,hN⟩;refine ⟨rfl,h.zBQ ?_⟩;have e1:=YN (fun x:ByteArray × Int=>x.1) X.newest (S.Zm (X.newest.map (·.1)) key) (key,st);have e2:=YN (fun x:ByteArray × Int=>Value.int .i64 x.2) X.newest (S.Zm (X.newest.map (·.1)) key) (key,st);rw [show zJ (X.newest.map (·.1)) (S.Zm (X.newest.map (·.1)) key) key=(zJ X.newest (S.Zm (X.newest.map (·.1)) key) (key,st)).map (·.1) from e1,show zJ (zb (X.newest.map (·.2))) (S.Zm (X.newest.map (·.1)) key) (.int .i64 st)=zb ((zJ X.newest (S.Zm (X.newest.map (·.1)) key) (key,st)).map (·.2)) by unfold zb;rw [List.map_map,List.map_map];exact e2] at hN;exact hN
def S.zQ0 (es:List S.Ent) (b i:Nat):Nat:=(es[i]?.map S.Ent.lo).getD b
theorem S.Chain.pos {es:List S.Ent} {e:S.Ent} (h:S.Chain 0 es b) (he:es[i]?=some e):S.zQ0 es b i=e.lo∧e.hi≤S.zQ0 es b (i+1):=by
 obtain ⟨_,h2,h3,h4⟩:=h.at he;unfold S.zQ0;rw [he];refine ⟨rfl,?_⟩
 cases h5:es[i+1]? with
 | none=>exact h3
 | some e'=>exact Nat.le_of_eq (h4 e' h5).symm
theorem zKJ {e:Ending} (hD:D.yI) (h:zCY w D e w'):(∃ (wm:Int) (bl:ByteArray) (ao:Option Addr) (cap:Nat) (es:List S.Ent),bl.size≤1048576∧S.Chain 0 es bl.size∧es.length≤1048576∧e=.returned (.tuple #[YJ wm bl ao es.length cap,.int .i64 0])∧ZV w' ao es∧∀ a,ao=some a→w.heap.size≤a.block)∨∃ c:Nat,c≠0∧e=.returned (.tuple #[zCf,.int .i64 (c:Int)]):=by
 have hs:=zCc hD yO;have hc:=zGv D yO;unfold zCY at h;obtain ⟨⟨x,c⟩,hx⟩:∃ p,p=D.read yO:=⟨_,rfl⟩;rw [←hx] at h hs hc;simp only at hs hc;rcases hc with rfl|rfl|rfl
 ·simp only at h;unfold zAs at h
  cases hf:S.readFile x with
  | none=>rw [hf] at h;exact Or.inr ⟨3,by omega,h⟩
  | some L =>
   rw [hf] at h;obtain ⟨ao,cap,he,hE,ha⟩:=h;obtain ⟨h1,h2⟩:=S.zEt hf;have h3:=zBi hf;exact Or.inl ⟨L.wm,_,ao,cap,L.ents,by simp [ByteArray.size];omega,by simpa [ByteArray.size] using h1,by omega,he,hE,ha⟩
 ·exact Or.inl ⟨-1,⟨#[]⟩,none,0,[],by simp [ByteArray.size],rfl,by simp,h,Or.inl rfl,fun a ha=>by cases ha⟩
 ·exact Or.inr ⟨10,by omega,h⟩
theorem zPg {rs:List Rec} (hp:zM rs=some T) {r:Rec} (hr:rs[j]?=some r):r.key.size≤64:=by
 cases hb:zB3 rs j r with
 | true =>
  have:=zHS (zR7.1 hr).1 hr hb;rw [hp] at this
  cases this
 | false =>
  have hf:r.fits=true:=by
   unfold zB3 at hb
   cases h:r.fits with
   | true=>rfl
   | false=>rw [h] at hb;simp at hb
  simp only [Rec.fits,zS4] at hf;omega
def LdW (tg2:Tags) (w2:World) (o s d:Nat) (wm:Int) (at_:Nat→Nat) (n:Nat) (ti:Value) (wr:World):Prop:=
 ∃ (i:Nat) (tg1:Tags) (nw:List (ByteArray × Int)),ti=.int .i64 (i:Int)∧i≤n∧Kept (·=o) tg2 w2 tg1 wr∧zL wr tg1 o s d ⟨false,wm,wm,nw,[]⟩ [] []∧S.yQ (nw.map (·.1))∧5*nw.length≤at_ i
theorem zMG (h:zL w tg o s d ⟨false,0,0,[],[]⟩ [] []) (hD:zC w tg od d D ids' ps') (hF:D.yI) (hT:Tab w) (hG:(tg 1).1≠o) :
  Calls Tryz.prog 39 #[.pointer (some ⟨s,0,none⟩)] w fun e w'=>∃ (c:Nat) (tg':Tags),e=.returned (.int .i64 (c:Int))∧Kept (·=o) tg w tg' w':=by
 have SR:Hid _:=fun (_:Unit)=>zGn tg od d D ids' ps' hF w hD hT;have c0:=h.c0;have HS:Hid (zL w tg o s d ⟨false,0,0,[],[]⟩ [] []):=h;have HFI:Hid (Tab w∧(tg 1).1≠o∧D.yI):=⟨hT,hG,hF⟩;clear h hD hF hT hG;go_enter Tryz.func39,Tryz.ntmps39;go_wp2_with fail;refine (SR.out ()).mono ?_;rintro e w1 ⟨hR,q1⟩;clear SR;rcases zKJ HFI.out.2.2 hR with ⟨wm,bl,ao,cap,es,hb,hL,hes,rfl,hE,haN⟩|⟨c,hc,rfl⟩
 ·have hS1:=HS.out.kept q1;have s2:=hS1.c2;have s3:=hS1.c3;have f2:=hS1.fr 2;have f3:=hS1.fr 3;have hV:=zK w1 [.int .i64 wm,.string bl,.slice ao es.length cap] 124;have HL:Hid (S.Chain 0 es bl.size∧bl.size≤1048576∧ZV w1 ao es∧(∀ a,ao=some a→w.heap.size≤a.block)∧Q w w1∧ZK (w1.alloc (.cells #[.int .i64 wm,.string bl,.slice ao es.length cap] 124)) w1.heap.size [.int .i64 wm,.string bl,.slice ao es.length cap]):=⟨hL,hb,hE,haN,q1,hV⟩;have hsl:s<w1.heap.size:=hS1.top;clear hL hb hE haN q1 hS1 hV;unfold YJ;go_upto_region 4 with fail
  go_region
  obtain ⟨w2,hw2⟩:∃ w2,w2=(((w1.setCell ⟨s,2,none⟩ (.int .i64 wm)).setCell ⟨s,3,none⟩ (.int .i64 wm)).alloc (.cells #[.int .i64 wm,.string bl,.slice ao es.length cap] 124)).drew:=⟨_,rfl⟩;obtain ⟨J,hJ⟩:∃ J,J=(tg 1).1:=⟨_,rfl⟩;have hJo:J≠o:=by rw [hJ];exact HFI.out.2.1
  obtain ⟨tg2,htg2⟩:∃ tg2,tg2=tg.more w.heap.size J 0:=⟨_,rfl⟩;have t2o:∀ k,k<w.heap.size→tg2 k=tg k:=fun k hk=>by rw [htg2];exact Tags.zD hk
  have t2n:∀ k,w.heap.size≤k→tg2 k=(J,0):=fun k hk=>by rw [htg2];exact Tags.zV hk
  have hns:∀ i j,i≠j→(⟨s,i,none⟩:Addr)≠⟨s,j,none⟩:=fun i j hij e=>by injection e with _ e2;exact hij e2
  have HW2:Hid (Kept (·=o) tg w tg2 w2∧zL w2 tg2 o s d ⟨false,wm,wm,[],[]⟩ [] []∧ZK w2 w1.heap.size [.int .i64 wm,.string bl,.slice ao es.length cap]∧ZV w2 ao es∧Tab w2):=by
   obtain ⟨hL,hb,hE,haN,q1,hV⟩:=HL.out;have hS1:=HS.out.keep q1.below.size t2o (fun k hk _=>q1.below.block k hk);have qd:Q ((w1.setCell ⟨s,2,none⟩ (.int .i64 wm)).setCell ⟨s,3,none⟩ (.int .i64 wm)) w2:=by rw [hw2];exact ((Q.refl _).alloc _ _).drew
   have hbl:∀ k,k<w1.heap.size→k≠s→w2.heap[k]?=w1.heap[k]?:=fun k hk hn=>by
    rw [qd.below.block k (by simp;omega),heap_setCell_other _ ⟨s,3,none⟩ k _ (by simpa using hn),heap_setCell_other _ ⟨s,2,none⟩ k _ (by simpa using hn)]
   have hs2:w2.heap[s]?=((w1.setCell ⟨s,2,none⟩ (.int .i64 wm)).setCell ⟨s,3,none⟩ (.int .i64 wm)).heap[s]?:=qd.below.block s (by simp;omega);have cs:∀ j,w2.cell? ⟨s,j,none⟩=((w1.setCell ⟨s,2,none⟩ (.int .i64 wm)).setCell ⟨s,3,none⟩ (.int .i64 wm)).cell? ⟨s,j,none⟩:=fun j=>zS6 (a:=⟨s,j,none⟩) hs2;have cso:∀ j,j≠2→j≠3→w2.cell? ⟨s,j,none⟩=w1.cell? ⟨s,j,none⟩:=fun j h1 h2=>by rw [cs j,zS5 _ _ _ _ (hns _ _ (by omega)),zS5 _ _ _ _ (hns _ _ (by omega))]
   have hsz:w1.heap.size≤w2.heap.size:=by have:=qd.below.size;simp at this;exact this
   have hSt:=hS1.zEj (w':=w2) (Y:=⟨false,wm,wm,[],[]⟩) rfl rfl hsz hbl (fun j hj=>cso j (by omega) (by omega)) (fun j=>by rw [zS9 (a:=⟨s,j,none⟩) hs2,zS8,zS8]) ((cso 0 (by omega) (by omega)).trans hS1.c0) ((cso 1 (by omega) (by omega)).trans hS1.c1) (by rw [cs 2,zS5 _ _ _ _ (hns _ _ (by omega))];exact zS7 _ _ _ s2) (by rw [cs 3];exact zS7 _ _ _ ((zS5 _ _ _ _ (hns _ _ (by omega))).trans s3));have hK12:Kept (·=o) tg2 w1 tg2 w2:=⟨qd.below.os,qd.below.tape,qd.below.output,hsz,fun _ _=>rfl,fun k hk hn=>hbl k hk (fun e=>hn (by rw [e,hS1.ts]))⟩;have hGl:=Z8 HFI.out.1;refine ⟨(Kept.yT q1 t2o).trans hK12,hSt,?_,hE.zHJ hK12 (fun g hg=>by rw [t2n g (haN _ hg)];exact hJo),yg (zq HFI.out.1 q1) (hbl _ (by have:=q1.below.size;omega) (fun e=>HFI.out.2.1 (by rw [e,HS.out.ts])))⟩;have hz:((w1.setCell ⟨s,2,none⟩ (.int .i64 wm)).setCell ⟨s,3,none⟩ (.int .i64 wm)).heap.size=w1.heap.size:=by simp
   have hv:=(zK ((w1.setCell ⟨s,2,none⟩ (.int .i64 wm)).setCell ⟨s,3,none⟩ (.int .i64 wm)) [.int .i64 wm,.string bl,.slice ao es.length cap] 124).kept ((Q.refl _).drew);rw [hz] at hv;rw [hw2];exact hv
  have hWL:w.heap.size≤w1.heap.size:=HL.out.2.2.2.2.1.below.size;have l2:=HW2.out.2.2.1.cell 2 rfl;have HTT:Hid (∀ k,w.heap.size≤k→tg2 k=(J,0)):=t2n;rw [←hw2];clear hw2 s2 s3 f2 f3 hns htg2 t2o t2n hJ;go_wp2_with fail;clear l2
  go_loopw [36] (fun ti wr=>LdW tg2 w2 o s d wm (S.zQ0 es bl.size) es.length ti wr) (fun ti _=>es.length-(intOf ti).toNat)
  case atStart=>exact ⟨0,tg2,[],rfl,zRH _,Kept.refl _ _ _,HW2.out.2.1,List.Pairwise.nil,by simp⟩
  case round =>
   obtain ⟨i,tg1,nw,rfl,hi,hK,hSt,hup,hfew⟩:=hrel;obtain ⟨hK0,_,hV2,hE2,hT2⟩:=HW2.out;obtain ⟨hL,hb,_,haN,q1,_⟩:=HL.out;have hVr:ZK wr w1.heap.size [.int .i64 wm,.string bl,.slice ao es.length cap]:=hV2.of_block (hK.block _ hV2.1 (by rw [HTT.out _ hWL];exact hJo)) hK.size;have hEr:=hE2.zHJ hK (fun g hg=>by rw [HTT.out g (haN _ hg)];exact hJo);have hGl:=Z8 HFI.out.1;have hG2:1<w2.heap.size:=zR8 hGl hK0.size;have htG:tg2 1=tg 1:=hK0.tags _ hGl;have hTr:Tab wr:=yg hT2 (hK.block _ hG2 (by rw [htG];exact HFI.out.2.1));by_cases hlt:i<es.length
   ·obtain ⟨en,hen⟩:∃ en,es[i]?=some en:=⟨_,zR6 hlt⟩;have hltI:(i:Int)<(es.length:Int):=by omega
    obtain ⟨_,hlh,hhb,_⟩:=hL.at hen;obtain ⟨hp1,hp2⟩:=hL.pos hen;rw [hp1] at hfew;have BK:Hid _:=fun (_:Unit)=>zJW wm bl hb es ao cap i en hen hlh hhb hes wr hEr hTr;unfold YJ at BK;have v0:=hVr.cell 0 rfl;have v1:=hVr.cell 1 rfl;have v2:=hVr.cell 2 rfl;have HST:Hid (Kept (·=o) tg2 w2 tg1 wr∧zL wr tg1 o s d ⟨false,wm,wm,nw,[]⟩ [] []∧S.yQ (nw.map (·.1))):=⟨hK,hSt,hup⟩;have HBI:Hid (en.hi≤S.zQ0 es bl.size (i+1)):=hp2;clear hK hSt hup hK0 hV2 hE2 hT2 hL haN q1 hVr hEr hTr hGl hG2 htG hen hp1 hp2;go_wp2_with fail;refine (BK.out ()).mono ?_;rintro e w3 ⟨hB,q3⟩;clear BK v0 v1 v2;rcases hB with ⟨b,T,bo,bc,base,hne,hpt,hsl,rfl,hbase,hown⟩|⟨rfl,_⟩
    ·have hbll:=(yC hpt).1;have hlong:5*b.length+en.lo≤en.hi:=by
      have h1:=S.zDl (yC hpt).2;have h2:=congrArg ByteArray.size hsl;have h3:(yG T).size=T.length+4:=by show (M.sealed T).length=_;exact M.zf T
      rw [h3] at h2;simp at h2;omega
     have hfit:∀ (j:Nat) (r:Rec),b[j]?=some r→r.key.size≤64:=fun j r hr=>zPg hpt hr;obtain ⟨tgR,htgR⟩:∃ tgR,tgR=tg1.more wr.heap.size J 0:=⟨_,rfl⟩;have tRo:∀ k,k<wr.heap.size→tgR k=tg1 k:=fun k hk=>by rw [htgR];exact Tags.zD hk
     have tRn:∀ k,wr.heap.size≤k→tgR k=(J,0):=fun k hk=>by rw [htgR];exact Tags.zV hk
     have HRc:Hid (Rcs w3 bo b∧(∀ a,bo=some a→b≠[]→wr.heap.size≤a.block)∧∀ (j:Nat) (r:Rec),b[j]?=some r→r.key.size≤64):=⟨YV hown,fun a ha _=>by
      subst ha;exact zRK hbase (hown.lt _ (zE5 hown)).1,hfit⟩
     have HS3:Hid (Kept (·=o) tg2 w2 tgR w3∧zL w3 tgR o s d ⟨false,wm,wm,nw,[]⟩ [] []∧S.yQ (nw.map (·.1))):=⟨HST.out.1.trans (Kept.yT q3 tRo),HST.out.2.1.keep q3.below.size tRo (fun k hk _=>q3.below.block k hk),HST.out.2.2⟩;have HTR:Hid (∀ k,wr.heap.size≤k→tgR k=(J,0)):=tRn;have hw3:wr.heap.size≤w3.heap.size:=q3.below.size;clear htgR tRo tRn hown hbase q3 hpt hsl hne hfit;go_wp2_with fail
     go_loopw [50] (fun tj wq=>LdW tgR w3 o s d wm (fun j=>en.lo+5*j) b.length tj wq) (fun tj _=>b.length-(intOf tj).toNat)
     case atStart=>exact ⟨0,tgR,nw,rfl,zRH _,Kept.refl _ _ _,HS3.out.2.1,HS3.out.2.2,hfew⟩
     case round =>
      obtain ⟨j,tgq,nq,rfl,hj,hKq,hSq,hupq,hfewq⟩:=hrel;dsimp only at hfewq;have hRr:Rcs wr bo b:=HRc.out.1.zHJ hKq (fun a ha hne=>by rw [HTR.out _ (HRc.out.2.1 a ha hne)];exact hJo);by_cases hlj:j<b.length
      ·obtain ⟨g,off,hbo,hgw,hRA⟩:=hRr.at hlj;obtain ⟨r,hr⟩:∃ r,b[j]?=some r:=⟨_,zR6 hlj⟩;obtain ⟨c0',c1',c2',c3'⟩:=hRA j r hr;have hltj:(j:Int)<(b.length:Int):=by omega
       have hok:S.Sto.Ok ⟨false,wm,wm,nq,[]⟩:=⟨hupq,List.Pairwise.nil,by show nq.length≤_;omega,zRH _,fun kr hkr=>(by cases hkr)⟩;have hks:r.key.size≤64:=HRc.out.2.2 j r hr;obtain ⟨tga,htga⟩:∃ tga,tga=tgq.more wr.heap.size J 0:=⟨_,rfl⟩;have tao:∀ k,k<wr.heap.size→tga k=tgq k:=fun k hk=>by rw [htga];exact Tags.zD hk
       have tan:∀ k,wr.heap.size≤k→tga k=(J,0):=fun k hk=>by rw [htga];exact Tags.zV hk
       have qa:Q wr (wr.alloc (.cells #[.string r.key,.int .i64 r.stamp,.int .i64 r.kind,.string r.body] 62)):=(Q.refl wr).alloc _ _;have hSa:zL (wr.alloc (.cells #[.string r.key,.int .i64 r.stamp,.int .i64 r.kind,.string r.body] 62)) tga o s d ⟨false,wm,wm,nq,[]⟩ [] []:=hSq.keep qa.below.size tao (fun k hk _=>qa.below.block k hk);have hKa:Kept (·=o) tgR w3 tga (wr.alloc (.cells #[.string r.key,.int .i64 r.stamp,.int .i64 r.kind,.string r.body] 62)):=hKq.trans (Kept.yT qa tao);have hvn:=zK wr [.string r.key,.int .i64 r.stamp,.int .i64 r.kind,.string r.body] 62;obtain ⟨wa,hwa⟩:∃ wa,wa=wr.alloc (.cells #[.string r.key,.int .i64 r.stamp,.int .i64 r.kind,.string r.body] 62):=⟨_,rfl⟩;rw [←hwa] at hSa hKa hvn;have n0:=hvn.cell 0 rfl;have n1:=hvn.cell 1 rfl;have GE:Hid _:=fun (W:World) (q:Q wa W)=>zAP (hSa.kept q) hok r.key;have HSA:Hid (zL wa tga o s d ⟨false,wm,wm,nq,[]⟩ [] []∧Kept (·=o) tgR w3 tga wa∧S.yQ (nq.map (·.1))):=⟨hSa,hKa,hupq⟩;have HTA:Hid (∀ k,wr.heap.size≤k→tga k=(J,0)):=tan;subst hbo;have hnw:(⟨false,wm,wm,nq,[]⟩:S.Sto).newest=nq:=rfl;rw [hnw] at GE;obtain ⟨gv,hgv⟩:∃ gv,gv=(S.zn nq r.key).getD 0:=⟨_,rfl⟩;rw [←hgv] at GE
       cases hlo:S.zn nq r.key with
       | some x =>
        rw [hlo] at GE;clear hSa hKa hvn hSq hKq hRr hRA hr hok tao tan htga qa hnw hgv hlo hks hupq;go_upto_region 14 with fail
        rw [←hwa];clear hwa
        go_region_held3 (fun w'=>w'.cell? ⟨wr.heap.size,0,none⟩=some (.string r.key))
         (first | exact n0 | exact hS4)
         (first | (go_at_call 64;refine (GE.out _ ((Q.refl wa).drew)).mono ?_;rintro e w4 ⟨rfl,q4⟩;have q4':Q wa w4:=(Q.refl wa).drew.trans q4;have hS4:w4.cell? ⟨wr.heap.size,0,none⟩=some (.string r.key):=zA n0 q4'))
        all_goals
         have HRE:Hid (Kept (·=o) tgR w3 tga w4∧zL w4 tga o s d ⟨false,wm,wm,nq,[]⟩ [] []):=⟨HSA.out.2.1.trans (Kept.yT q4' (fun _ _=>rfl)),HSA.out.1.kept q4'⟩;clear q4 q4' hS4 GE;go_wp2_with fail
         go_roundw
         case rel=>exact ⟨j+1,tga,nq,by go_num,by omega,HRE.out.1,HRE.out.2,HSA.out.2.2,by show 5*nq.length≤en.lo+5*(j+1);omega⟩
         case measure=>simp [intOf];omega
       | none =>
        rw [hlo] at GE;have hno:=S.ZO hlo;have PN:Hid _:=fun (W:World) (q:Q wa W)=>zID (hSa.kept q) hok.nwUp r.key hno (by have:=hok.nwFew;omega) r.stamp;have CL:Hid _:=fun (W:World)=>ZR r.key W (by omega);have HUP:Hid (S.yQ ((zJ nq (S.Zm (nq.map (·.1)) r.key) (r.key,r.stamp)).map (·.1))∧5*(zJ nq (S.Zm (nq.map (·.1)) r.key) (r.key,r.stamp)).length≤en.lo+5*(j+1)):=by
         have e1:=YN (fun x:ByteArray × Int=>x.1) nq (S.Zm (nq.map (·.1)) r.key) (r.key,r.stamp);refine ⟨by rw [←e1];exact S.zF4 hupq hno,?_⟩;have h1:=S.zAH (nq.map (·.1)) r.key;rw [zRr] at h1;rw [yB h1];omega
        clear hSa hKa hvn hSq hKq hRr hRA hr hok tao tan htga qa hnw hgv hlo hno hks hupq;go_upto_region 14 with fail
        rw [←hwa];clear hwa
        go_region_held3 (fun w'=>w'.cell? ⟨wr.heap.size,0,none⟩=some (.string r.key))
         (first | exact n0 | exact hS4)
         (first | (go_at_call 64;refine (GE.out _ ((Q.refl wa).drew)).mono ?_;rintro e w4 ⟨rfl,q4⟩;have q4':Q wa w4:=(Q.refl wa).drew.trans q4;have hS4:w4.cell? ⟨wr.heap.size,0,none⟩=some (.string r.key):=zA n0 q4'))
        all_goals
         have m0:=zA n0 q4';have m1:=zA n1 q4';clear q4 hS4 GE n0 n1;go_upto_region 16 with fail
         go_region_held3 (fun w'=>w'.cell? ⟨wr.heap.size,0,none⟩=some (.string r.key)∧w'.cell? ⟨wr.heap.size,1,none⟩=some (.int .i64 r.stamp))
          (first | exact ⟨m0,m1⟩ | exact hS5 | exact hS6)
          (first | (go_at_call 47;refine (CL.out _).mono ?_;rintro e w5 ⟨rfl,q5⟩;have q5':Q w4 w5:=(Q.refl w4).drew.trans ⟨q5⟩;have hS5:w5.cell? ⟨wr.heap.size,0,none⟩=some (.string r.key)∧w5.cell? ⟨wr.heap.size,1,none⟩=some (.int .i64 r.stamp):=⟨zA m0 q5',zA m1 q5'⟩) | (go_at_call 65;refine (PN.out _ (q4'.trans q5')).mono ?_;rintro e w6 ⟨rfl,tg6,ht6,hS6',ho6⟩;have hb6:w6.heap[wr.heap.size]?=w5.heap[wr.heap.size]?:=ho6.block _ (ZT hS5.1) (by rw [HTA.out _ (zR9 _)];exact hJo);have hS6:w6.cell? ⟨wr.heap.size,0,none⟩=some (.string r.key)∧w6.cell? ⟨wr.heap.size,1,none⟩=some (.int .i64 r.stamp):=⟨(zS6 (a:=⟨wr.heap.size,0,none⟩) hb6).trans hS5.1,(zS6 (a:=⟨wr.heap.size,1,none⟩) hb6).trans hS5.2⟩))
         all_goals
          have HRE:Hid (Kept (·=o) tgR w3 tg6 w6∧zL w6 tg6 o s d ⟨false,wm,wm,zJ nq (S.Zm (nq.map (·.1)) r.key) (r.key,r.stamp),[]⟩ [] []):=⟨(HSA.out.2.1.trans (Kept.yT (q4'.trans q5') (fun _ _=>rfl))).trans (Kept.yA ho6 ht6 rfl),hS6'⟩;clear q4' q5' q5 hS5 hS6 hS6' ho6 ht6 hb6 m0 m1 PN CL;go_wp2_with fail
          go_roundw
          case rel=>exact ⟨j+1,tg6,_,by go_num,by omega,HRE.out.1,HRE.out.2,HUP.out.1,HUP.out.2⟩
          case measure=>simp [intOf];omega
      ·obtain rfl:j=b.length:=by omega
       have HRO:Hid (Kept (·=o) tg2 w2 tgq wr∧zL wr tgq o s d ⟨false,wm,wm,nq,[]⟩ [] []∧S.yQ (nq.map (·.1))∧5*nq.length≤S.zQ0 es bl.size (i+1)):=⟨HS3.out.1.trans hKq,hSq,hupq,by have:=HBI.out;omega⟩;clear hRr hKq hSq hupq;go_wp2_with fail
       go_roundw
       case rel=>exact ⟨i+1,tgq,nq,by go_num,hlt,HRO.out.1,HRO.out.2.1,HRO.out.2.2.1,HRO.out.2.2.2⟩
       case measure=>simp [intOf];omega
    ·have HKE:Hid (Kept (·=o) tg w tg1 w3):=(HW2.out.1.trans HST.out.1).trans (Kept.yT q3 (fun _ _=>rfl));clear q3;go_wp2_with fail;go_ret;exact ⟨3,tg1,rfl,HKE.out⟩
   ·obtain rfl:i=es.length:=by omega
    have HEN:Hid (Kept (·=o) tg w tg1 wr):=hK0.trans hK;clear hK hSt hVr hEr hTr;go_wp2_with fail;go_ret;exact ⟨0,tg1,rfl,HEN.out⟩
 ·have HQ:Hid (Q w w1):=q1;have hcI:(c:Int)≠0:=by omega
  clear q1 hR;unfold zCf;go_wp2_with fail;go_ret;exact ⟨c,tg,rfl,Kept.yT (HQ.out.alloc _ _) (fun _ _=>rfl)⟩
theorem zM6 {m:Nat} (hD:zC w tg od d D ids' ps') (hF:D.yI) (hT:Tab w) (hlow:Low m tg w) (ho:∀ k,k<w.heap.size→(tg k).1≠o) (hom:o<m) (hodm:od<m) :
  Calls Tryz.prog 18 #[.pointer (some ⟨d,0,none⟩)] w fun e w'=>∃ tg',Kept (·=od) tg w tg' w'∧Low m tg' w'∧((∃ c:Nat,c≠0∧e=.returned (.tuple #[.pointer none,.int .i64 (c:Int)]))∨∃ s,e=.returned (.tuple #[.pointer (some ⟨s,0,none⟩),.int .i64 0])):=by
 have hG:=Z8 hT;have hGo:=ho _ hG;have hne:o≠od:=fun e=>ho d hD.map.top (by rw [hD.map.td,e]);obtain ⟨J,hJ⟩:∃ J,J=(tg 1).1:=⟨_,rfl⟩;obtain ⟨tgA,htgA⟩:∃ tgA:Tags,tgA=fun k=>if k<w.heap.size then tg k else if k=w.heap.size then (o,0) else (J,0):=⟨_,rfl⟩
 have tA0:∀ k,k<w.heap.size→tgA k=tg k:=fun k hk=>by rw [htgA];simp [hk]
 have tAs:tgA w.heap.size=(o,0):=by rw [htgA];show (if _ then _ else _)=_;rw [if_neg (by omega),if_pos rfl]
 have qa:Q w (w.alloc (.cells #[.pointer (some ⟨d,0,none⟩),.bool false,.int .i64 0,.int .i64 0,.slice none 0 0,.slice none 0 0,.slice none 0 0,.slice none 0 0] 70)):=(Q.refl w).alloc _ _;have hv:=zK w [.pointer (some ⟨d,0,none⟩),.bool false,.int .i64 0,.int .i64 0,.slice none 0 0,.slice none 0 0,.slice none 0 0,.slice none 0 0] 70;have hfr:∀ j,(w.alloc (.cells #[.pointer (some ⟨d,0,none⟩),.bool false,.int .i64 0,.int .i64 0,.slice none 0 0,.slice none 0 0,.slice none 0 0,.slice none 0 0] 70)).frozen? ⟨w.heap.size,j,none⟩=false:=fun j=>by simp
 have hS:zL (w.alloc (.cells #[.pointer (some ⟨d,0,none⟩),.bool false,.int .i64 0,.int .i64 0,.slice none 0 0,.slice none 0 0,.slice none 0 0,.slice none 0 0] 70)) tgA o w.heap.size d ⟨false,0,0,[],[]⟩ [] []:=
  ⟨hv.1,tAs,hfr,hv.cell 0 rfl,hv.cell 1 rfl,hv.cell 2 rfl,hv.cell 3 rfl,zB4.empty hv.1 (hv.cell 4 rfl) (hv.cell 5 rfl),zB4.empty hv.1 (hv.cell 6 rfl) (hv.cell 7 rfl),List.nodup_nil,rfl,fun i p id kr h1=>by simp at h1⟩
 have hDa:zC (w.alloc (.cells #[.pointer (some ⟨d,0,none⟩),.bool false,.int .i64 0,.int .i64 0,.slice none 0 0,.slice none 0 0,.slice none 0 0,.slice none 0 0] 70)) tgA od d D ids' ps':=hD.keep qa.below.size tA0 (fun k hk _=>qa.below.block k hk);have LO:Hid _:=fun (_:Unit)=>zMG hS hDa hF (zq hT qa) (by rw [tA0 _ hG];exact hGo);have HK:Hid (Kept (fun x=>x=o∨x=od) tg w tgA (w.alloc (.cells #[.pointer (some ⟨d,0,none⟩),.bool false,.int .i64 0,.int .i64 0,.slice none 0 0,.slice none 0 0,.slice none 0 0,.slice none 0 0] 70))):=Kept.yT qa tA0;have HDA:Hid _:=hDa;have HF:Hid D.yI:=hF;have HLow:Hid (Low m tg w∧(∀ k,k<w.heap.size→(tg k).1≠o)∧J<m):=⟨hlow,ho,by rw [hJ];exact hlow _ hG⟩;have fin:∀ (w':World) (tgE:Tags),Kept (fun x=>x=o∨x=od) tg w tgE w'→Kept (·=od) tg w (YP w.heap.size tg tgE o od J) w'∧Low m (YP w.heap.size tg tgE o od J) w':=fun w' tgE k=>⟨⟨k.os,k.tape,k.output,k.size,fun i hi=>zEQ hi,fun i hi hn=>k.block i hi (fun e=>e.elim (HLow.out.2.1 i hi) hn)⟩,zER HLow.out.1 hom hodm HLow.out.2.2⟩;have HFN:Hid (∀ (w':World) (tgE:Tags),Kept (fun x=>x=o∨x=od) tg w tgE w'→Kept (·=od) tg w (YP w.heap.size tg tgE o od J) w'∧Low m (YP w.heap.size tg tgE o od J) w'):=fin;clear hD hF hT hlow ho hv hfr hS hDa qa htgA tA0 tAs fin hG hGo hJ;go_enter Tryz.func18,Tryz.ntmps18;go_wp2_with fail;refine (LO.out ()).mono ?_;rintro e w1 ⟨c,tg1,rfl,hK1⟩;have hKw:=HK.out.trans (hK1.wider (fun x e=>Or.inl e));have hD1:zC w1 tg1 od d D ids' ps':=HDA.out.keep hK1.size hK1.tags (fun k hk e=>hK1.block k hk (by rw [e];exact fun e=>hne e.symm));have H1:Hid (Kept (fun x=>x=o∨x=od) tg w tg1 w1):=hKw;by_cases hc1:c=0
 ·subst hc1;have SE:Hid _:=fun (_:Unit)=>zF3 tg1 od d D ids' ps' HF.out w1 hD1;obtain ⟨⟨D2,c2⟩,hse⟩:∃ p,p=S.settle D:=⟨_,rfl⟩;rw [←hse] at SE;simp only at SE;clear hse LO hK1 hD1 hKw HDA HK;go_wp2_with fail;refine (SE.out ()).mono ?_;rintro e w2 ⟨rfl,tg2,ids2,ps2,ht2,hL2,ho2⟩;have HE2:Hid (Kept (fun x=>x=o∨x=od) tg w tg2 w2):=H1.out.trans (Kept.yA ho2 ht2 (Or.inr rfl));clear SE ht2 hL2 ho2;by_cases hc0:c2=0
  ·subst hc0;go_wp2_with fail;refine bodyPost_ret (v:=.tuple #[.pointer (some ⟨w.heap.size,0,none⟩),.int .i64 0]) (by simp [results,Tryz.results18,go_sem]) rfl ?_;obtain ⟨f1,f2⟩:=HFN.out w2 tg2 HE2.out;exact ⟨_,f1,f2,Or.inr ⟨_,rfl⟩⟩
  ·have hcI:¬(c2:Int)=0:=by omega
   have hcb:((c2:Int) != 0)=true:=by simp [hc0]
   have HC0:Hid (c2≠0):=hc0;clear hc0;go_wp2_with fail;refine bodyPost_ret (v:=.tuple #[.pointer none,.int .i64 (c2:Int)]) (by simp [results,Tryz.results18,go_sem]) rfl ?_;obtain ⟨f1,f2⟩:=HFN.out w2 tg2 HE2.out;exact ⟨_,f1,f2,Or.inl ⟨c2,HC0.out,rfl⟩⟩
 ·have hcI:¬(c:Int)=0:=by omega
  have hcb:((c:Int) != 0)=true:=by simp [hc1]
  have HC0:Hid (c≠0):=hc1;clear hc1 LO hK1 hD1 hKw HDA HK;go_wp2_with fail;refine bodyPost_ret (v:=.tuple #[.pointer none,.int .i64 (c:Int)]) (by simp [results,Tryz.results18,go_sem]) rfl ?_;obtain ⟨f1,f2⟩:=HFN.out w1 tg1 H1.out;exact ⟨_,f1,f2,Or.inl ⟨c,HC0.out,rfl⟩⟩
theorem zBI.kept {ss:List Stq} (h:zBI w ao ss) (q:Q w w'):zBI w' ao ss:=fun i x hx=>by
 obtain ⟨⟨k1,k2,k3,k4⟩,b,off,e,c0,c1,c2,c3,c4⟩:=h i x hx;refine ⟨⟨k1,k2,k3,fun j y hy=>?_⟩,b,off,e,zA c0 q,zA c1 q,zA c2 q,zA c3 q,zA c4 q⟩;obtain ⟨b',o',g1,g2,g3⟩:=k4 j y hy;exact ⟨b',o',g1,zA g2 q,zR8 g3 q.below.size⟩
structure zLO (w:World) (tg:Tags) (r s d s' d' x:Nat) (L:List S.zh) (clock water:Int) (T:S.Two) (X X':S.Sto) (bs:List (List Rec)) (C:S.Con):Prop where
 run:ZU w tg 1 r d' x L clock water true
 s1:∃ a b,zL w tg 3 s d X a b
 d1:∃ a b,zC w tg 2 d T.dsk a b
 s2:∃ a b,zL w tg 5 s' d' X' a b
 d2:∃ a b,zC w tg 4 d' T.dsk a b
 tab:Tab w
 gt:(tg 1).1=0
 ok1:S.yY L clock water T X bs C
 ok2:S.yY L clock water T X' bs C
 fine:T.dsk.yI
theorem zLO.keep {w w':World} {tg tg':Tags} {P:Nat→Prop} {r s d s' d' x x':Nat} {L:List S.zh} {clock water:Int} {T:S.Two} {X X':S.Sto} {bs:List (List Rec)} {C:S.Con} (h:zLO w tg r s d s' d' x L clock water T X X' bs C) (k:Kept P tg w tg' w') (hP:∀ y,P y→y=1) (hR:ZU w' tg' 1 r d' x' L clock water true):zLO w' tg' r s d s' d' x' L clock water T X X' bs C:=by
 obtain ⟨_,⟨a1,b1,h1⟩,⟨a2,b2,h2⟩,⟨a3,b3,h3⟩,⟨a4,b4,h4⟩,h5,h6,h7,h8,h9⟩:=h;have hb:∀ n,n≠1→∀ k,k<w.heap.size→(tg k).1=n→w'.heap[k]?=w.heap[k]?:=fun n hn k' hk e=>k.block k' hk (fun e2=>hn (by rw [←e];exact hP _ e2));have hG:=Z8 h5;exact ⟨hR,⟨a1,b1,h1.keep k.size k.tags (hb 3 (by omega))⟩,⟨a2,b2,h2.keep k.size k.tags (hb 2 (by omega))⟩,⟨a3,b3,h3.keep k.size k.tags (hb 5 (by omega))⟩,⟨a4,b4,h4.keep k.size k.tags (hb 4 (by omega))⟩,yg h5 (hb 0 (by omega) _ hG h6),by rw [k.tags _ hG];exact h6,h7,h8,h9⟩
theorem zLO.q {w w':World} {tg:Tags} {r s d s' d' x:Nat} {L:List S.zh} {clock water:Int} {T:S.Two} {X X':S.Sto} {bs:List (List Rec)} {C:S.Con} (h:zLO w tg r s d s' d' x L clock water T X X' bs C) (q:Q w w'):zLO w' tg r s d s' d' x L clock water T X X' bs C:=
 h.keep (P:=fun _=>False) (Kept.yT q (fun _ _=>rfl)) (fun _ e=>e.elim) (h.run.kept q)
theorem zLO.set {w:World} {tg:Tags} {r s d s' d' x:Nat} {L:List S.zh} {clock water:Int} {T:S.Two} {X X':S.Sto} {bs:List (List Rec)} {C:S.Con} (h:zLO w tg r s d s' d' x L clock water T X X' bs C) (y:Nat):zLO (w.setCell ⟨r,1,none⟩ (.pointer (some ⟨y,0,none⟩))) tg r s d s' d' y L clock water T X X' bs C:=
 h.keep (Kept.setAt (w:=w) (tg:=tg) (R:=r) (r:=1) (j:=1) (by rw [h.run.tr]) _) (fun _ e=>e) (h.run.set 1 _ (by omega) rfl rfl rfl rfl rfl)
theorem zLO.right {s' d' x:Nat} {water:Int} {T:S.Two} {X':S.Sto} (h:zLO w tg r s d s' d' x L clock water T X X' bs C) (hx:x=s∨x=s') (W:World) (q:Q w W) (k:ByteArray) (hk:1≤k.size∧k.size≤64) (t:Int) (ht:0≤t∨t<water) :
  Calls Tryz.prog 10 #[.pointer (some ⟨r,0,none⟩),.string k,.int .i64 t] W fun e w'=>e=.returned (.bool true)∧Q W w':=by
 obtain ⟨h0,⟨a1,b1,h1⟩,⟨a2,b2,h2⟩,⟨a3,b3,h3⟩,⟨a4,b4,h4⟩,h5,h6,h7,h8,h9⟩:=h.q q;rcases hx with rfl|rfl
 ·exact zDK h0 h1 h2 h9 h5 h7 k hk t ht
 ·exact zDK h0 h3 h4 h9 h5 h8 k hk t ht
theorem zLO.facts {w:World} {tg:Tags} {r s d s' d' x:Nat} {L:List S.zh} {clock water:Int} {T:S.Two} {X X':S.Sto} {bs:List (List Rec)} {C:S.Con} (h:zLO w tg r s d s' d' x L clock water T X X' bs C):∃ ao cap,zJA w r L clock ao cap:=
 ZU.facts h.run h.ok1
theorem zAt.kept {l:List (ByteArray × ByteArray)} (h:zAt w ao l) (q:Q w w'):zAt w' ao l:=fun i f hf=>by
 obtain ⟨b,off,e,c0,c1,hb⟩:=h i f hf;exact ⟨b,off,e,zA c0 q,zA c1 q,zR8 hb q.below.size⟩
def zGT (A:List Nat) (tg:Tags):Tags:=fun k=>if (tg k).1∈A then tg k else (0,0)
theorem zI6 (h:(tg k).1∈A):zGT A tg k=tg k:=by
 unfold zGT;rw [if_pos h]
theorem zLe (A:List Nat) (tg:Tags) (k:Nat):(zGT A tg k).1=0∨(zGT A tg k).1∈A:=by
 unfold zGT;split
 ·rename_i h;exact Or.inr h
 ·exact Or.inl rfl
theorem zGl (h:(tg k).1=0):(zGT A tg k).1=0:=by
 unfold zGT;split
 ·exact h
 ·rfl
def zDe (D:M.Dsk) (d s:Nat) (tg:Tags) (w:World):Prop:=
 ∃ (U:S.Two) (bs:List (List Rec)) (fl:Int) (a b:List Nat),S.zI0 bs fl∧S.zN1 D bs fl∧S.zPw ⟨1048576,U.a,none,false,0⟩ bs fl∧(⟨1048576,U.a,none,false,0⟩:S.Two).dsk.yI∧(D.texts=[]↔U.a=none)∧zL w tg 5 s d (ZW fl bs.flatten bs.flatten.length) [] []∧zC w tg 4 d (⟨1048576,U.a,none,false,0⟩:S.Two).dsk a b
def zOb (D:M.Dsk) (d:Nat) (tg:Tags) (w:World) (e:Ending) (w':World):Prop:=
 ∃ tg',Kept (·=4) tg w tg' w'∧((∃ s,e=.returned (.tuple #[.pointer (some ⟨s,0,none⟩),.int .i64 0])∧(S.zQe D→zDe D d s tg' w'))∨(¬S.zQe D∧∃ c:Nat,c≠0∧e=.returned (.tuple #[.pointer none,.int .i64 (c:Int)])))
theorem zLJ {a b:List Nat} (hD:zC w tg 4 d D a b) (hF:D.yI) (hc:D.Calm) (hT:Tab w) (hl:Low 10 tg w) (h5:∀ k,k<w.heap.size→(tg k).1≠5) :
  Calls Tryz.prog 18 #[.pointer (some ⟨d,0,none⟩)] w fun e w'=>zOb D d tg w e w':=by
 by_cases hO:S.zQe D
 ·obtain ⟨L,clock,water,T,X,bs,C,hok,hp,ht⟩:=hO;have hla:=hok.zR1;have hla':S.zN1 D bs X.fl:=by unfold S.zN1;rw [ht];exact hla
  obtain ⟨T0,rfl,hon,hse,hli⟩:=hla'.two hc hok.zMd;have hfew:=hok.few.2;refine (zFx (o:=5) (od:=4) (m:=10) (d:=d) (T0:=T0) (bs:=bs) (C:=C) (bad:=False) (wm:=X.fl) hD hF hon hok.good.fil hT (by omega) hl h5 (by omega) (by omega)).mono ?_;rintro e w' ⟨tg',i1,i2,hK,_,hx⟩;have hFs:=zIE hF;rw [hse] at hx hFs;rcases hx with ⟨hf,_⟩|⟨hf,_⟩|⟨_,s,_,rfl,hS,hL⟩
  ·exact hf.elim
  ·exact absurd rfl hf
  refine ⟨tg',hK,Or.inl ⟨s,rfl,fun _=>⟨⟨1048576,S.made T0.a,none,false,0⟩,bs,X.fl,i1,i2,hok.zMd,hla',hli,hFs,?_,hS,hL⟩⟩⟩;obtain ⟨c,ta,tb,de,fu⟩:=T0
  cases ta with
  | none =>
   refine ⟨fun _=>rfl,fun _=>?_⟩;rcases hla' with h|h
   ·exact h.1
   ·have hx:(M.Dsk.texts (S.Two.dsk ⟨c,none,tb,de,fu⟩))=_:=h;rcases hli with h2|h2
    ·cases tb with
     | none=>rfl
     | some y =>
      have hy:[(ze,y.1)]=[(yO,S.za bs X.fl)]:=hx;injection hy with hy;injection hy with hy;exact absurd (congrArg ByteArray.size hy) (by decide)
    ·cases h2
  | some x =>
   refine ⟨fun e=>?_,fun e=>by cases e⟩;unfold M.Dsk.texts S.Two.dsk at e;simp [S.fileOf] at e
 ·refine (zM6 (o:=5) (od:=4) (m:=10) hD hF hT hl h5 (by omega) (by omega)).mono ?_;rintro e w' ⟨tg',hK,_,hx⟩;rcases hx with ⟨c,h1,h2⟩|⟨s,h1⟩
  ·exact ⟨tg',hK,Or.inr ⟨hO,c,h1,h2⟩⟩
  ·exact ⟨tg',hK,Or.inl ⟨s,h1,fun e=>absurd e hO⟩⟩
theorem zDe.right {tgr:Tags} {w3:World} {dd:Nat} {water:Int} {T:S.Two} (h:zDe D d s tg w3) (q:Q w3 w) (hz:∀ k,k<w3.heap.size→(tgr k).1=0) (hR:ZU w tgr 1 r dd s L clock water true) (hT:Tab w) (hok:S.yY L clock water T X bs C) (hp:X.zZ=false) (ht:D.texts=T.dsk.texts) (W:World) (qW:Q w W) (k:ByteArray) (hk:1≤k.size∧k.size≤64) (t:Int) (htt:0≤t∨t<water) :
  Calls Tryz.prog 10 #[.pointer (some ⟨r,0,none⟩),.string k,.int .i64 t] W fun e w'=>e=.returned (.bool true)∧Q W w':=by
 obtain ⟨U,bs0,fl,a,b,h1,h2,h3,h4,h5,h6,h7⟩:=h;have hla:=hok.zR1;have hla':S.zN1 D bs X.fl:=by unfold S.zN1;rw [ht];exact hla
 obtain ⟨rfl,rfl⟩:=h2.same hla' h1 hok.zMd;have hn:T.a=none↔U.a=none:=by
  rw [←h5,ht];have hb:=hok.b;obtain ⟨c,ta,tb,de,fu⟩:=T;simp only at hb;subst hb
  cases ta with
  | none=>exact ⟨fun _=>rfl,fun _=>rfl⟩
  | some x=>exact ⟨fun e=>(by cases e),fun e=>(by unfold M.Dsk.texts S.Two.dsk at e;simp [S.fileOf] at e)⟩
 rw [hok.mine h3 hn] at h4 h7;have q3:=q.trans qW;obtain ⟨tgC,htC⟩:∃ tgC:Tags,tgC=fun k=>if k<w3.heap.size then tg k else tgr k:=⟨_,rfl⟩
 have t1:∀ k,k<w3.heap.size→tgC k=tg k:=fun k hk=>by rw [htC];simp [hk]
 have hRW:=(hR.kept qW).retag (tg':=tgC) (fun k _ e=>by
  rw [htC];have:¬k<w3.heap.size:=fun e2=>by have:=hz k e2;omega
  simp [this])
 exact zDK hRW (h6.keep q3.below.size t1 (fun k hk _=>q3.below.block k hk)) (h7.keep q3.below.size t1 (fun k hk _=>q3.below.block k hk)) h4 (zq hT qW) (hok.again hp).1 k hk t htt
theorem zLI (w:World) (hT:Tab w) (l:List (ByteArray × ByteArray)) (fo:Option Addr) (fc:Nat) (hl:l.length≤140737488351232) (hF:zAt w fo l) (ss:List Stq) (ao:Option Addr) (cap:Nat) (hS:zBI w ao ss) (stamp:Int) (hst:-9223372036854775808≤stamp∧stamp≤9223372036854775807) :
  Calls Tryz.prog 7 #[.slice fo l.length fc,.slice ao ss.length cap,.int .i64 stamp] w fun e w'=>e=.returned (.bool true)∧Q w w':=by
 have L1:Hid _:=fun (_:Unit)=>zJX w (fun _=>(0,0)) 4 l fo fc hl hF (fun _ _=>by simp);have HS:Hid (Tab w∧zBI w ao ss∧zAt w fo l):=⟨hT,hS,hF⟩;obtain ⟨hDF,hDC⟩:=M.zDV l l.length;obtain ⟨D,hDe⟩:∃ D,D=M.zAj l l.length:=⟨_,rfl⟩;have L2f:∀ (w1:World) (tg:Tags),zAt w1 fo l→(∀ k,k<w1.heap.size→(tg k).1≠6)→Calls Tryz.prog 26 #[.slice fo l.length fc] w1 fun e w'=>∃ d,w1.heap.size≤d∧e=.returned (.pointer (some ⟨d,0,none⟩))∧LaidIn w1 tg 6 d (M.zAj l l.length) w':=fun w1 tg h1 h2=>zJX w1 tg 6 l fo fc hl h1 h2;rw [←hDe] at L1 hDF hDC L2f;have HL2:Hid _:=L2f;have HD:Hid (D.yI∧D.Calm):=⟨hDF,hDC⟩;clear hDe L2f hDF hDC hT hS hF;go_enter Tryz.func7,Tryz.ntmps7;go_wp2_with fail;refine (L1.out ()).mono ?_;rintro e w1 ⟨d,_,rfl,tg1,i1,i2,hK1,hD1⟩;obtain ⟨q1,z1⟩:=zH0 (Q.refl w) (fun _ _=>rfl) hK1 (by omega);have L2:Hid _:=fun (_:Unit)=>HL2.out w1 (zGT [4] tg1) (HS.out.2.2.kept q1) (fun k _=>by
  rcases zLe [4] tg1 k with e|e
  ·omega
  ·rw [List.mem_singleton] at e;omega)
 have H1:Hid (zC w1 (zGT [4] tg1) 4 d D i1 i2∧Q w w1∧∀ k,k<w.heap.size→(zGT [4] tg1 k).1=0):=⟨hD1.retag (fun k _ e=>zI6 (by rw [e];simp)),q1,fun k hk=>zGl (z1 k hk)⟩;clear L1 HL2 hK1 hD1 q1 z1;go_wp2_with fail;refine (L2.out ()).mono ?_;rintro e w2 ⟨d2,_,rfl,tg2,i3,i4,hK2,hD2⟩;obtain ⟨q2,z2⟩:=zH0 H1.out.2.1 H1.out.2.2 hK2 (by omega);have hD2':=hD2.retag (tg':=zGT [4,6] tg2) (fun k _ e=>zI6 (by rw [e];simp));have hDd:=(H1.out.1.keep hK2.size hK2.tags (fun k hk e=>hK2.block k hk (by rw [e];omega))).retag (tg':=zGT [4,6] tg2) (fun k _ e=>zI6 (by rw [e];simp));have hlow:∀ k,(zGT [4,6] tg2 k).1=0∨(zGT [4,6] tg2 k).1=4∨(zGT [4,6] tg2 k).1=6:=fun k=>by
  rcases zLe [4,6] tg2 k with e|e
  ·exact Or.inl e
  ·simpa using Or.inr (a:=(zGT [4,6] tg2 k).1=0) e
 have OP:Hid _:=fun (_:Unit)=>zLJ hDd HD.out.1 HD.out.2 (zq HS.out.1 q2) (fun k _=>by rcases hlow k with e | e | e<;>omega) (fun k _=>by rcases hlow k with e | e | e<;>omega);have H2:Hid (zC w2 (zGT [4,6] tg2) 6 d2 D i3 i4∧Q w w2∧∀ k,k<w.heap.size→(zGT [4,6] tg2 k).1=0):=⟨hD2',q2,fun k hk=>zGl (z2 k hk)⟩;clear L2 hK2 hD2 q2 z2 hD2' hDd hlow H1;go_wp2_with fail;refine (OP.out ()).mono ?_;rintro e w3 ⟨tg3,hK3,hc⟩;obtain ⟨q3,_⟩:=zH0 H2.out.2.1 H2.out.2.2 hK3 (by omega);have hD3:=H2.out.1.keep hK3.size hK3.tags (fun k hk e=>hK3.block k hk (by rw [e];omega));have PL:Hid _:=fun (_:Unit)=>zKS w3 (zq HS.out.1 q3) ss ao cap (HS.out.2.1.kept q3);have H3:Hid (zC w3 tg3 6 d2 D i3 i4∧Q w w3):=⟨hD3,q3⟩;clear OP H2 hK3 q3 hD3;rcases hc with ⟨s,rfl,hfo⟩|⟨hno,c,hc0,rfl⟩
 ·have HFo:Hid (S.zQe D→zDe D d s tg3 w3):=hfo;clear hfo;go_wp2_with fail;refine (PL.out ()).mono ?_;rintro e w4 ⟨r,s4,d4,L,clock,water,rfl,hR,h0⟩;have FL:Hid _:=fun (_:Unit)=>zCD hR;have hcl:=hR.nums.2.2.1;clear PL hR;go_wp2_with fail;refine (FL.out ()).mono ?_;rintro e w5 ⟨rfl,tg5,T,X,bs,C,hB,hp⟩;obtain ⟨j1,j2,j3,j4,hr⟩:=hB.run.rdy;have c0:=hB.run.run.c0;have c5:=hB.run.run.c5;have c1:=hB.run.run.c1;have f1:=hB.run.run.fr 1;have hrt:=hB.run.run.top;have hr3:w3.heap.size≤r:=by
   have h2:¬r<w3.heap.size:=fun e=>by have:=hB.z r e;rw [hB.run.run.tr] at this;omega
   omega
  have AL:Hid _:=fun (_:Unit)=>zHs (H3.out.1.kept hB.q) hr.disk HD.out.1 hr.fine HD.out.2.alive hB.run.ok.alive;have HB:Hid (zI1 w3 w5 tg5 10 1 3 2 r s4 d4 L clock water water T X bs C∧X.zZ=false):=⟨hB,hp⟩;clear FL hB hp hr;go_wp2_with fail;refine (AL.out ()).mono ?_;rintro e w6 ⟨v,rfl,hv,q6⟩;have HV:Hid (v=true→D.texts=T.dsk.texts):=hv;have HQ6:Hid (Q w5 w6∧Q w w6):=⟨q6,(H3.out.2.trans HB.out.1.q).trans q6⟩;replace c5:=zA c5 q6;replace c1:=zA c1 q6;replace f1:w6.frozen? ⟨r,1,none⟩=false:=(q6.below.frozen (p:=⟨r,1,none⟩) hrt).trans f1;clear AL hv c0 q6
  cases v with
  | false =>
   go_wp2_with fail;go_ret;exact ⟨rfl,HQ6.out.2⟩
  | true =>
   obtain ⟨w7,hw7⟩:∃ w7,w7=w6.setCell ⟨r,1,none⟩ (.pointer (some ⟨s,0,none⟩)):=⟨_,rfl⟩;have q37:Q w3 w7:=by rw [hw7];exact (HB.out.1.q.trans HQ6.out.1).setCell (p:=⟨r,1,none⟩) hr3 _
   have hR7:ZU w7 tg5 1 r d4 s L clock water true:=by rw [hw7];exact (HB.out.1.run.run.kept HQ6.out.1).set 1 _ (by omega) rfl rfl rfl rfl rfl
   have hfo:=HFo.out ⟨L,clock,water,T,X,bs,C,HB.out.1.run.ok,HB.out.2,HV.out rfl⟩;have hT7:Tab w7:=zq HS.out.1 (H3.out.2.trans q37);have RI:Hid (∀ (W:World),Q w7 W→∀ (k:ByteArray),(1≤k.size∧k.size≤64)→∀ (t:Int),(0≤t∨t<water)→Calls Tryz.prog 10 #[.pointer (some ⟨r,0,none⟩),.string k,.int .i64 t] W fun e w'=>e=.returned (.bool true)∧Q W w'):=fun W q k hk t ht=>hfo.right q37 HB.out.1.z hR7 hT7 HB.out.1.run.ok HB.out.2 (HV.out rfl) W q k hk t ht;obtain ⟨fo',fc',r2,r3,hlen,hfa⟩:=hR7.facts HB.out.1.run.ok;have HFA:Hid _:=hfa;have HQ:Hid (Q w w7):=H3.out.2.trans q37;have P5:Hid _:=zDP stamp 5 hst (by omega);obtain ⟨p5,hp5⟩:∃ p5,p5=pk stamp 5:=⟨_,rfl⟩;have hp5r:=zDO stamp 5 (by omega);rw [←hp5] at P5 hp5r;have e5:IntKind.i64.wrap (clock+p5)=clock+p5:=by rw [IntKind.wrap_i64];omega
   clear hp5 hfa hT7 hfo hR7 q37 HV HB HFo HQ6 H3 HS HD;go_wp2_with fail;rw [←hw7];clear hw7 c1 c5 f1
   go_loopw [13] (fun ti wr=>∃ i:Nat,ti=.int .i64 (i:Int)∧i≤L.length∧Q w7 wr) (fun ti _=>L.length-(intOf ti).toNat)
   case atStart=>exact ⟨0,rfl,zRH _,Q.refl _⟩
   case round =>
    obtain ⟨i,rfl,hi,hq⟩:=hrel;have k2:=zA r2 hq;by_cases hlt:i<L.length
    ·obtain ⟨f,hf⟩:∃ f,L[i]?=some f:=⟨_,zR6 hlt⟩;obtain ⟨hfs,hfk,g,rfl,f0,f1,_,_⟩:=HFA.out i f hf;have hltI:(i:Int)<(L.length:Int):=by omega
     have e0:=zA f0 hq;have e1:=zA f1 hq;have R1:Hid _:=fun (W:World) (q:Q wr W)=>RI.out W (hq.trans q) f.key hfk f.stamp (Or.inl hfs.1);clear hf;go_upto_region 21 with fail
     go_region_held3 (fun w'=>w'.cell? ⟨r,2,none⟩=some (.slice (some ⟨g,0,none⟩) L.length fc')∧w'.cell? ⟨g,i*4,none⟩=some (.string f.key)∧w'.cell? ⟨g,i*4+1,none⟩=some (.int .i64 f.stamp))
      (first | exact ⟨k2,e0,e1⟩ | exact hSA)
      (first
       | (go_at_call 10;refine (R1.out _ ((Q.refl wr).drew)).mono ?_;rintro e wA ⟨rfl,qA⟩;have hSA:wA.cell? ⟨r,2,none⟩=some (.slice (some ⟨g,0,none⟩) L.length fc')∧wA.cell? ⟨g,i*4,none⟩=some (.string f.key)∧wA.cell? ⟨g,i*4+1,none⟩=some (.int .i64 f.stamp):=⟨zA k2 (((Q.refl wr).drew).trans qA),zA e0 (((Q.refl wr).drew).trans qA),zA e1 (((Q.refl wr).drew).trans qA)⟩))
     all_goals
      have hq2:Q w7 wA:=hq.trans (((Q.refl wr).drew).trans qA);clear hSA qA R1 hq k2 e0 e1;have k2:=zA r2 hq2;have e0:=zA f0 hq2;have k3:=zA r3 hq2;have R2:Hid _:=fun (W:World) (q:Q wA W)=>RI.out W (hq2.trans q) f.key hfk (clock+p5) (Or.inl (by omega));have HQ2:Hid (Q w7 wA):=hq2;clear hq2;go_upto_region 22 with fail
      go_region_held3 (fun w'=>w'.cell? ⟨r,2,none⟩=some (.slice (some ⟨g,0,none⟩) L.length fc')∧w'.cell? ⟨g,i*4,none⟩=some (.string f.key)∧w'.cell? ⟨r,3,none⟩=some (.int .i64 clock))
       (first | exact ⟨k2,e0,k3⟩ | exact hSB)
       (first
        | (go_at_call 12;refine (P5.out _).mono ?_;rintro e wX ⟨rfl,hwX⟩;subst hwX)
        | (go_at_call 10;refine (R2.out _ ((Q.refl wA).drew)).mono ?_;rintro e wB ⟨rfl,qB⟩;have hSB:wB.cell? ⟨r,2,none⟩=some (.slice (some ⟨g,0,none⟩) L.length fc')∧wB.cell? ⟨g,i*4,none⟩=some (.string f.key)∧wB.cell? ⟨r,3,none⟩=some (.int .i64 clock):=⟨zA k2 (((Q.refl wA).drew).trans qB),zA e0 (((Q.refl wA).drew).trans qB),zA k3 (((Q.refl wA).drew).trans qB)⟩))
      all_goals
       have HQ3:Hid (Q w7 wB):=HQ2.out.trans (((Q.refl wA).drew).trans qB);clear HQ2 hSB qB R2 k2 e0 k3;go_wp2_with fail
       go_roundw
       case rel=>exact ⟨i+1,by go_num,by omega,HQ3.out⟩
       case measure=>simp [intOf];omega
    ·obtain rfl:i=L.length:=by omega
     have HE:Hid (Q w wr):=HQ.out.trans hq;clear hq;go_wp2_with fail;go_ret;exact ⟨rfl,HE.out⟩
 ·have hcI:¬(c:Int)=0:=by omega
  have hcb:((c:Int) != 0)=true:=by simp [hc0]
  have HNO:Hid (¬S.zQe D):=hno;clear hno;go_wp2_with fail;refine (PL.out ()).mono ?_;rintro e w4 ⟨r,s4,d4,L,clock,water,rfl,hR,h0⟩;have FL:Hid _:=fun (_:Unit)=>zCD hR;have hcl:=hR.nums.2.2.1;clear PL hR;go_wp2_with fail;refine (FL.out ()).mono ?_;rintro e w5 ⟨rfl,tg5,T,X,bs,C,hB,hp⟩;obtain ⟨j1,j2,j3,j4,hr⟩:=hB.run.rdy;have c0:=hB.run.run.c0;have c5:=hB.run.run.c5;have AL:Hid _:=fun (_:Unit)=>zHs (H3.out.1.kept hB.q) hr.disk HD.out.1 hr.fine HD.out.2.alive hB.run.ok.alive;have HB:Hid (zI1 w3 w5 tg5 10 1 3 2 r s4 d4 L clock water water T X bs C∧X.zZ=false):=⟨hB,hp⟩;clear FL hB hp hr;go_wp2_with fail;refine (AL.out ()).mono ?_;rintro e w6 ⟨v,rfl,hv,q6⟩;have HV:Hid (v=true→D.texts=T.dsk.texts):=hv;have HQ6:Hid (Q w5 w6∧Q w w6):=⟨q6,(H3.out.2.trans HB.out.1.q).trans q6⟩;replace c5:=zA c5 q6;clear AL hv c0 q6
  cases v with
  | false =>
   go_wp2_with fail;go_ret;exact ⟨rfl,HQ6.out.2⟩
  | true=>exact absurd ⟨L,clock,water,T,X,bs,C,HB.out.1.run.ok,HB.out.2,HV.out rfl⟩ HNO.out
end Go.Proofs.YtekdenkllipehabGreatDoor
