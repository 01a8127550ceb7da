import Derived.Test.YtekdenkllipehabGreatDoorP48
set_option maxRecDepth 100000
set_option maxHeartbeats 8000000
namespace Go.Proofs.YtekdenkllipehabGreatDoor
open Go.RowKit
variable {C:S.Con} {L:List S.zZ} {T:S.Two} {X:S.Sto} {bs:List (List Rec)} {clock:Int} {d n r s:Nat} {tg:Tags} {w w0:World}
namespace S
def Two.alone (T:Two):Two:=⟨1048576,T.a,none,false,0⟩
theorem yM.alone {L:List zZ} {clock water:Int} {T:Two} {X:Sto} {bs:List (List Rec)} {C:Con} (h:yM L clock water T X bs C):T.alone=T:=by
 have h1:=h.alive;have h2:=h.fuse;have h3:=h.b;have h4:=h.cap;obtain ⟨c,a,b,de,fu⟩:=T;simp only at h1 h2 h3 h4;subst h1 h2 h3 h4;rfl
theorem yM.synced {L:List zZ} {water:Int} {T:Two} {X:Sto} {C:Con} (h:yM L clock water T X bs C):∀ x n,T.a=some (x,n)→n=x.length:=fun x n e=>by
 rcases h.a with ⟨e2,_⟩|e2
 ·rw [e2] at e;cases e
 ·rw [e2] at e;injection e with e;injection e with e3 e4;rw [←e3,←e4]
theorem zO4 (T:Two) (ha:∀ x n,T.a=some (x,n)→n=x.length):M.ZK T.dsk T.dsk.files.length=(⟨1048576,T.a,made T.b,false,0⟩:Two).dsk:=by
 unfold M.ZK;rw [zRL];obtain ⟨c,a,b,de,fu⟩:=T;simp only at ha
 cases a with
 | none=>cases b<;>rfl
 | some x =>
  obtain ⟨x,n⟩:=x;have:=ha x n rfl;subst this
  cases b<;>rfl
theorem zGk (T:Two) (b:Option (List UInt8 × Nat)) (ha:∀ x n,T.a=some (x,n)→n=x.length):S.settle (⟨1048576,T.a,b,false,0⟩:Two).dsk=(T.alone.dsk,0):=by
 rw [zCd];obtain ⟨c,a,b',de,fu⟩:=T;simp only at ha
 cases a with
 | none=>cases b<;>rfl
 | some x =>
  obtain ⟨x,n⟩:=x;have:=ha x n rfl;subst this
  cases b<;>rfl
theorem zPr {T:Two} {fl:Int} (b:Option (List UInt8 × Nat)) (h:zAs False T.alone.dsk bs fl):zAs False (⟨1048576,T.a,b,false,0⟩:Two).dsk bs fl:=by
 have h2:=h.file;rw [Two.zCC] at h2;refine ⟨rfl,?_⟩;rw [Two.zCC];exact h2
end S
theorem zGD {m o od:Nat} {water:Int} {ids ps ids' ps':List Nat} (h:Rdy w tg o od m s d { T with fuse:=n } X bs C False X.fl ids ps ids' ps') (ho:S.yM L clock water T X bs C) (hp:X.zT=false) :
  Calls Tryz.prog 15 #[.pointer (some ⟨s,0,none⟩)] w fun e w'=>∃ (c:Nat) (tg':Tags) (T':S.Two) (X':S.Sto) (bs':List (List Rec)) (C':S.Con) (i1 i2:List Nat),e=.returned (.int .i64 (c:Int))∧(c=0∨c=10)∧zC w' tg' od d T'.dsk i1 i2∧T'.dsk.yD∧S.yM L clock water T'.alone X' bs' C'∧X'.zT=false∧Kept (fun x=>x=o∨x=od) tg w tg' w':=by
 refine (zFK h ho.dead hp).mono ?_;rintro e w' (⟨_,rfl,q⟩|⟨hf,_⟩|⟨_,c,tg',X',T',i1,i2,i3,i4,rfl,hK,_,hS,hD,hF,hc⟩)
 ·exact ⟨0,tg,{ T with fuse:=n },X,bs,C,ids',ps',rfl,Or.inl rfl,h.disk.kept q,h.fine,by rw [show ({ T with fuse:=n }:S.Two).alone=T.alone from rfl,ho.alone];exact ho,hp,Kept.yU q (fun _ _=>rfl)⟩
 ·exact hf.elim
 ·rcases hc with ⟨rfl,bs',nw,rfl,h1,h2,h3,h4,h5,h6,h7,h8⟩|⟨rfl,rfl,hd⟩|⟨_,_,_,hf⟩|⟨hf,_⟩
  ·obtain ⟨bs',hr,hp'⟩:=ho.laid (T':=T'.alone) (V:=S.Z8 X C (S.needs X.wm) X.keys.length) ⟨bs',nw,rfl,h1,h2,h3,ho.cap.symm,h5,rfl,rfl,fun _=>rfl⟩ (fun nw=>ho.keeps.compact ho.good nw);exact ⟨0,tg',T',_,bs',_,i3,i4,rfl,Or.inl rfl,hD,hF,hr,hp',hK⟩
  ·exact ⟨10,tg',T',X,bs,C,i3,i4,rfl,Or.inr rfl,hD,hF,by rw [show T'.alone=T.alone by unfold S.Two.alone;rw [hd.a],ho.alone];exact ho,hp,hK⟩
  ·exact absurd hf (S.zJK ho.cap ho.zQL (zFw ho.good ho.keeps _) ho.room)
  ·exact hf.elim
structure zLE (w0 w:World) (tg:Tags) (r d s:Nat) (L:List S.zZ) (clock water:Int) (D:M.Dsk):Prop where
 run:ZQ w tg 1 r d s L clock water true
 disk:∃ a b,zC w tg 2 d D a b
 q:Q w0 w
 z:∀ k,k<w0.heap.size→(tg k).1=0
 tab:Tab w
 g:(tg 1).1≠1∧(tg 1).1≠2∧(tg 1).1≠3∧(tg 1).1≠20
theorem zLE.keep {w0 w w':World} {tg tg':Tags} {P:Nat→Prop} {r d s d':Nat} {L:List S.zZ} {clock water:Int} {D D':M.Dsk} {a b:List Nat} (h:zLE w0 w tg r d s L clock water D) (hK:Kept P tg w tg' w') (hP:∀ x,P x→x=2∨x=3) (hD:zC w' tg' 2 d' D' a b) (hd:d'=d):zLE w0 w' tg' r d s L clock water D':=by
 subst hd;have hG:=Zj h.tab;have n0:¬P 0:=fun e=>by rcases hP _ e with e | e<;>omega
 obtain ⟨q,z⟩:=zDr h.q h.z hK n0;have hg:=h.g;exact ⟨h.run.keep hK (fun e=>by rcases hP _ e with e | e<;>omega),⟨a,b,hD⟩,q,z,yB h.tab (hK.block _ hG (fun e=>by rcases hP _ e with e | e<;>omega)),by rw [hK.tags _ hG];exact hg⟩
theorem zLE.zC1 {w0 w:World} {tg:Tags} {r d s:Nat} {L:List S.zZ} {clock water:Int} {T:S.Two} {X:S.Sto} {bs:List (List Rec)} {C:S.Con} (h:zLE w0 w tg r d s L clock water T.dsk) (hF:T.dsk.yD) (ho:S.yM L clock water T.alone X bs C) (ks:List Int) (ko:Option Addr) (kc:Nat) (hk:zCZ w0 ks ko) :
  Calls Tryz.prog 25 #[.pointer (some ⟨d,0,none⟩),.slice ko ks.length kc] w fun e w'=>e=.returned (.tuple #[])∧∃ (tg':Tags) (T':S.Two),zLE w0 w' tg' r d s L clock water T'.dsk∧T'.dsk.yD∧T'.a=T.a∧T'.dead=false:=by
 obtain ⟨i3,i4,hD⟩:=h.disk;have CR:=zHT tg 2 d T.dsk i3 i4 hF ks ko kc w (fun j x hx=>by
  obtain ⟨b,off,g1,g2,g3⟩:=hk j x hx;exact ⟨b,off,g1,zA g2 h.q,zQe g3 h.q.below.size,by rw [h.z b g3];omega⟩) hD
 obtain ⟨b',e,_⟩:=T.zHU ks (fun x n e=>ho.synced x n e);have hF':=hF.zC1 ks;rw [e] at CR hF';refine CR.mono ?_;rintro e w2 ⟨rfl,tg2,i5,i6,ht2,hD2,ho2⟩;exact ⟨rfl,tg2,_,h.keep (P:=(·=2)) (Kept.yA ho2 ht2 rfl) (fun x e=>Or.inl e) hD2 rfl,hF',rfl,rfl⟩
theorem zLE.copied {water:Int} {T0:S.Two} (h:zLE w0 w tg r d s L clock water T.dsk) (hF:T.dsk.yD) (hd:T.dead=false) (ha:T.a=T0.a) (ho:S.yM L clock water T0.alone X bs C) (hp:X.zT=false) :
  Calls Tryz.prog 19 #[.pointer (some ⟨r,0,none⟩)] w fun e w'=>e=.returned (.tuple #[])∧∃ d',w'.cell? ⟨r,0,none⟩=some (.pointer (some ⟨d',0,none⟩)) ∧
   Calls Tryz.prog 18 #[.pointer (some ⟨d',0,none⟩)] w' fun e w4=>∃ s',e=.returned (.tuple #[.pointer (some ⟨s',0,none⟩),.int .i64 0])∧w4.cell? ⟨r,1,none⟩=some (.pointer (some ⟨s,0,none⟩))∧w4.cell? ⟨r,5,none⟩=some (.bool true)∧w4.frozen? ⟨r,1,none⟩=false∧RB w0 (w4.setCell ⟨r,1,none⟩ (.pointer (some ⟨s',0,none⟩))) r s' d' L clock water water (fun X=>X.zT=false):=by
 obtain ⟨i3,i4,hD⟩:=h.disk;refine (zBW (od2:=20) (J:=0) h.run hD hF hd (by omega) (by omega) (by omega) (by omega) (by omega)).mono ?_;rintro e w3 ⟨rfl,tg3,d',i7,i8,hd',hK3,hR3,_,hE3⟩;have hs:∀ x n,T.a=some (x,n)→n=x.length:=fun x n e=>ho.synced x n (by rw [←e];exact ha.symm);have hF3:=M.zCU hF _ (zQf _);rw [S.zO4 T hs] at hE3 hF3;have hal:T.alone=T0.alone:=by unfold S.Two.alone;rw [ha]
 obtain ⟨q3,z3⟩:=zDr h.q h.z hK3 (by omega);have hG:=Zj h.tab;have hg:=h.g;have hset:=S.zGk T (S.made T.b) hs;have hF2:T.alone.dsk.yD:=by
  have:=zI3 hF3;rw [hset] at this;exact this
 rw [←hal] at ho;exact ⟨rfl,d',hR3.c0,zJJ (w0:=w0) hR3 hE3 hF3 hF2 (S.zPr _ ho.on) hset (ho.again hp).1 (yB h.tab (hK3.block _ hG (by omega))) q3 z3 (by rw [hK3.tags _ hG];exact hg.1) (by rw [hK3.tags _ hG];exact hg.2.2.2)⟩
theorem armed {w2 w3:World} {water:Int} {i3 i4:List Nat} (hB:zGM w0 w2 tg 10 1 3 2 r s d L clock water water T X bs C) (hK:Kept (·=2) tg w2 tg w3) (hD3:zC w3 tg 2 d ({ T with fuse:=n }:S.Two).dsk i3 i4) (hF:({ T with fuse:=n }:S.Two).dsk.yD) :
  ∃ tgF a b,Rdy w3 tgF 3 2 10 s d { T with fuse:=n } X bs C False X.fl a b i3 i4∧zLE w0 w3 tgF r d s L clock water ({ T with fuse:=n }:S.Two).dsk:=by
 obtain ⟨i1,i2,_,_,hr⟩:=hB.run.rdy;have hG:=Zj hr.tab;have hGl:=hr.low _ hG;have hG1:=hB.run.rG;have hG2:=hr.tabo;have hfew:=hB.run.ok.few.2;have hf:∀ k,(tg k).1=3∨(tg k).1=2∨(tg k).1=1→zMQ w2.heap.size tg tg 3 2 1 (tg 1).1 k=tg k:=fun k e=>zCR (w:=w2) (fun _ _=>rfl) e;have hgf:zMQ w2.heap.size tg tg 3 2 1 (tg 1).1 1=tg 1:=zG3 hG;have hT3:Tab w3:=yB hr.tab (hK.block _ hG hG2.2);have hon:=hB.run.ok.on;obtain ⟨q3,z3⟩:=zDr hB.q hB.z hK (by omega);have hD3':=hD3.retag (fun k _ e=>hf k (Or.inr (Or.inl e)));refine ⟨zMQ w2.heap.size tg tg 3 2 1 (tg 1).1,i1,i2,⟨(hr.sto.keep hK.size hK.tags (fun k hk e=>hK.block k hk (by rw [e];omega))).retag (fun k _ e=>hf k (Or.inl e)),hD3',hF,⟨hB.run.ok.alive,?_⟩,hr.good,hT3,by rw [hgf];exact hG2,by omega,hr.nob,hr.alive,zJT hr.low (by omega) (by omega) (by omega) hGl,by omega,by omega,by omega⟩,⟨(hB.run.run.keep hK (by omega)).retag (fun k _ e=>hf k (Or.inr (Or.inr e))),⟨_,_,hD3'⟩,q3,fun k hk=>by rw [zG3 (zQe hk hB.q.below.size)];exact hB.z k hk,hT3,by rw [hgf];omega⟩⟩;have h2:=hon.file;rw [S.Two.zCC] at h2 ⊢;exact h2
theorem zHE (w:World) (hT:Tab w) (ss:List Stq) (ao:Option Addr) (cap:Nat) (hS:Yn w ao ss) (ks:List Int) (ko:Option Addr) (kc:Nat) (hk:zCZ w ks ko) (n:Int) (hn:-9223372036854775808≤n∧n≤9223372036854775807) :
  Calls Tryz.prog 6 #[.slice ao ss.length cap,.slice ko ks.length kc,.int .i64 n] w fun e w'=>e=.returned (.bool true)∧Q w w':=by
 have PL:Hid _:=fun (_:Unit)=>zCg w hT ss ao cap hS;have HK:Hid (zCZ w ks ko):=hk;have P12:Hid _:=zBM n 12 hn (by omega);have hp:=zBL n 12 (by omega);obtain ⟨p,hpe⟩:∃ p,p=pk n 12:=⟨_,rfl⟩;rw [←hpe] at P12 hp;have e1:IntKind.i64.wrap (1+p)=1+p:=by rw [IntKind.wrap_i64];omega
 clear hS hT hk hpe;go_enter Tryz.func6,Tryz.ntmps6;go_wp2_with fail;refine (PL.out ()).mono ?_;rintro e w1 ⟨r,s,d,L,clock,water,rfl,hR,h0⟩;have CR:Hid _:=fun (_:Unit)=>zJD hR ks ko kc HK.out;clear PL hR;go_wp2_with fail;refine (CR.out ()).mono ?_;rintro e w2 ⟨rfl,s2,d2,hR2⟩;obtain ⟨c0,c1,_,c5,_,_,_⟩:=hR2.cells;obtain ⟨tg,T,X,bs,C,hB,hpe⟩:=hR2;obtain ⟨i1,i2,i3,i4,hr⟩:=hB.run.rdy;have hcl:=hB.run.ok.top;have harm:T.dsk.arm (1+p)=(({ T with fuse:=(1+p).toNat }:S.Two).dsk,0):=by
  unfold M.Dsk.arm;rw [if_neg (by omega)];rfl
 have AR:Hid _:=fun (W:World) (q:Q w2 W)=>zPJ tg 2 d2 T.dsk i3 i4 (1+p) W (hr.disk.kept q);have hF1:=hr.fine.arm (n:=1+p) (by omega);rw [harm] at AR hF1;dsimp only at AR hF1;obtain ⟨nf,hnf⟩:∃ nf,nf=(1+p).toNat:=⟨_,rfl⟩;rw [←hnf] at AR hF1;have HA:Hid (zGM w w2 tg 10 1 3 2 r s2 d2 L clock water water T X bs C∧X.zT=false∧({ T with fuse:=nf }:S.Two).dsk.yD):=⟨hB,hpe,hF1⟩;clear CR hB hpe hF1 hr harm hnf;go_upto_region 5 with fail
 go_region_held3 (fun w'=>w'.cell? ⟨r,0,none⟩=some (.pointer (some ⟨d2,0,none⟩)))
  (first | exact c0 | exact hS3)
  (first
   | (go_at_call 12;refine (P12.out _).mono ?_;rintro e w6 ⟨rfl,hw6⟩;subst hw6)
   | (go_at_call 24;refine (AR.out _ ((Q.refl w2).drew)).mono ?_;rintro e w3 ⟨rfl,hD3,ho3⟩;have hK3:Kept (·=2) tg w2 tg w3:=(Kept.yU ((Q.refl w2).drew) (fun _ _=>rfl)).trans (Kept.yA ho3 (fun _ _=>rfl) rfl);have HL3:Hid (∃ tgF a b,Rdy w3 tgF 3 2 10 s2 d2 { T with fuse:=nf } X bs C False X.fl a b i3 i4∧zLE w w3 tgF r d2 s2 L clock water ({ T with fuse:=nf }:S.Two).dsk):=armed HA.out.1 hK3 hD3 HA.out.2.2;have hS3:w3.cell? ⟨r,0,none⟩=some (.pointer (some ⟨d2,0,none⟩)):=by { obtain ⟨_,_,_,_,h⟩:=HL3.out;exact h.run.c0 }))
 all_goals
  clear hS3 hK3 hD3 ho3 AR P12 c0 c1 c5;obtain ⟨tgF,ia,ib,hrd,hlo⟩:=HL3.out;have c5:=hlo.run.c5;have c1:=hlo.run.c1;have CO:Hid _:=fun (_:Unit)=>zGD hrd HA.out.1.run.ok HA.out.2.1;have HLo:Hid (zLE w w3 tgF r d2 s2 L clock water ({ T with fuse:=nf }:S.Two).dsk):=hlo;clear hrd hlo HL3 HA;go_wp2_with fail;refine (CO.out ()).mono ?_;rintro e w4 ⟨c,tg4,T4,X4,bs4,C4,j1,j2,rfl,hc,hD4,hF4,ho4,hp4,hK4⟩;have HL4:Hid (zLE w w4 tg4 r d2 s2 L clock water T4.dsk∧T4.dsk.yD∧S.yM L clock water T4.alone X4 bs4 C4∧X4.zT=false):=⟨HLo.out.keep hK4 (fun x e=>e.symm) hD4 rfl,hF4,ho4,hp4⟩;clear HLo CO hD4 hF4 ho4 hp4 hK4 c1 c5;have CR:Hid _:=fun (_:Unit)=>HL4.out.1.zC1 HL4.out.2.1 HL4.out.2.2.1 ks ko kc HK.out;have c0:=HL4.out.1.run.c0;rcases hc with rfl|rfl
  all_goals
   go_wp2_with fail;refine (CR.out ()).mono ?_;rintro e w5 ⟨rfl,tg5,T5,hL5,hF5,ha5,hd5⟩;have CP:Hid _:=fun (_:Unit)=>hL5.copied hF5 hd5 ha5 HL4.out.2.2.1 HL4.out.2.2.2;clear CR c0 hL5 hF5 ha5 hd5 HL4;go_wp2_with fail;refine (CP.out ()).mono ?_;rintro e w6 ⟨rfl,d6,r0,hOP⟩;have OP:Hid _:=fun (_:Unit)=>hOP;clear CP hOP;go_wp2_with fail;refine (OP.out ()).mono ?_;rintro e w7 ⟨s7,rfl,c1,c5,f1,hRB⟩;obtain ⟨w8,hw8⟩:∃ w8,w8=w7.setCell ⟨r,1,none⟩ (.pointer (some ⟨s7,0,none⟩)):=⟨_,rfl⟩;rw [←hw8] at hRB;obtain ⟨fo,fc,r2,r3,hlen,hfa⟩:=hRB.facts;obtain ⟨_,_,r4,_,_,_,_⟩:=hRB.cells;have hqw:=hRB.base;have RI:Hid (∀ (W:World),Q w8 W→∀ (k:ByteArray),(1≤k.size∧k.size≤64)→∀ (t:Int),(0≤t∨t<water)→Calls Tryz.prog 10 #[.pointer (some ⟨r,0,none⟩),.string k,.int .i64 t] W fun e w'=>e=.returned (.bool true)∧Q W w'):=fun W q k hk t ht=>hRB.right W q k hk t ht;have HFA:Hid _:=hfa;have HQ:Hid (Q w w8):=hqw;clear OP hRB hfa hqw r0;go_wp2_with fail;rw [←hw8];clear hw8 c1 c5 f1
   go_loopw [12] (fun ti wr=>∃ i:Nat,ti=.int .i64 (i:Int)∧i≤L.length∧Q w8 wr) (fun ti _=>L.length-(intOf ti).toNat)
   case atStart=>exact ⟨0,rfl,zQn _,Q.refl _⟩
   case round =>
    obtain ⟨i,rfl,hi,hq⟩:=hrel;have k2:=zA r2 hq;by_cases hlt:i<L.length
    ·obtain ⟨f,hf⟩:∃ f,L[i]?=some f:=⟨_,zQc hlt⟩;obtain ⟨hfs,hfk,g,rfl,f0,_,_,_⟩:=HFA.out i f hf;have hltI:(i:Int)<(L.length:Int):=by omega
     have e0:=zA f0 hq;have k3:=zA r3 hq;have R1:Hid _:=fun (W:World) (q:Q wr W)=>RI.out W (hq.trans q) f.key hfk clock (Or.inl h0);clear hf;go_upto_region 20 with fail
     go_region_held3 (fun w'=>w'.cell? ⟨r,2,none⟩=some (.slice (some ⟨g,0,none⟩) L.length fc)∧w'.cell? ⟨g,i*4,none⟩=some (.string f.key)∧w'.cell? ⟨r,3,none⟩=some (.int .i64 clock))
      (first | exact ⟨k2,e0,k3⟩ | exact hSA)
      (first
       | (go_at_call 10;refine (R1.out _ ((Q.refl wr).drew)).mono ?_;rintro e wA ⟨rfl,qA⟩;have hSA:wA.cell? ⟨r,2,none⟩=some (.slice (some ⟨g,0,none⟩) L.length fc)∧wA.cell? ⟨g,i*4,none⟩=some (.string f.key)∧wA.cell? ⟨r,3,none⟩=some (.int .i64 clock):=⟨zA k2 (((Q.refl wr).drew).trans qA),zA e0 (((Q.refl wr).drew).trans qA),zA k3 (((Q.refl wr).drew).trans qA)⟩))
     all_goals
      have hq2:Q w8 wA:=hq.trans (((Q.refl wr).drew).trans qA);clear hSA qA R1 hq k2 k3 e0;have k2:=zA r2 hq2;have e0:=zA f0 hq2;have k4:=zA r4 hq2;by_cases hwt:water<0
      ·have HQ2:Hid (Q w8 wA):=hq2;clear hq2;go_upto_region 21 with fail
       go_quiet (fail);go_wp2_with fail
       go_roundw
       case rel=>exact ⟨i+1,by go_num,by omega,HQ2.out.drewN _⟩
       case measure=>simp [intOf];omega
      ·have R2:Hid _:=fun (W:World) (q:Q wA W)=>RI.out W (hq2.trans q) f.key hfk water (Or.inl (by omega));have HQ2:Hid (Q w8 wA):=hq2;clear hq2;go_upto_region 21 with fail
       go_region_held3 (fun w'=>w'.cell? ⟨r,2,none⟩=some (.slice (some ⟨g,0,none⟩) L.length fc)∧w'.cell? ⟨g,i*4,none⟩=some (.string f.key)∧w'.cell? ⟨r,4,none⟩=some (.int .i64 water))
        (first | exact ⟨k2,e0,k4⟩ | exact hSB)
        (first
         | (go_at_call 10;refine (R2.out _ ((Q.refl wA).drew)).mono ?_;rintro e wB ⟨rfl,qB⟩;have hSB:wB.cell? ⟨r,2,none⟩=some (.slice (some ⟨g,0,none⟩) L.length fc)∧wB.cell? ⟨g,i*4,none⟩=some (.string f.key)∧wB.cell? ⟨r,4,none⟩=some (.int .i64 water):=⟨zA k2 (((Q.refl wA).drew).trans qB),zA e0 (((Q.refl wA).drew).trans qB),zA k4 (((Q.refl wA).drew).trans qB)⟩))
       all_goals
        have HQ3:Hid (Q w8 wB):=HQ2.out.trans (((Q.refl wA).drew).trans qB);clear HQ2 hSB qB R2 k2 e0 k4;go_wp2_with fail
        go_roundw
        case rel=>exact ⟨i+1,by go_num,by omega,HQ3.out⟩
        case measure=>simp [intOf];omega
    ·obtain rfl:i=L.length:=by omega
     have HE:Hid (Q w wr):=HQ.out.trans hq;clear hq;go_wp2_with fail;go_ret;exact ⟨rfl,HE.out⟩
end Go.Proofs.YtekdenkllipehabGreatDoor
