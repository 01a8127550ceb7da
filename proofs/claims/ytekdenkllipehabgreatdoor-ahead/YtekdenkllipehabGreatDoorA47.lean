import Derived.Test.YtekdenkllipehabGreatDoorA46
set_option maxRecDepth 100000
set_option maxHeartbeats 8000000
namespace Go.Proofs.YtekdenkllipehabGreatDoor
open Go.RowKit
variable {C:S.Con} {D:M.Dsk} {F b:List Rec} {T0:S.Two} {X:S.Sto} {bad:Prop} {bs:List (List Rec)} {d i j k m n o od s:Nat} {ids ids' ps ps':List Nat} {r:Rec} {tg tg' tgE:Tags} {w w':World} {wm wmf:Int}
def S.Sto.asking (X:S.Sto) (k:ByteArray) (t:Int):Int:=if X.dead=true then 10 else if ¬(1≤k.size∧k.size≤64) then 11 else if t<X.wm∨t<0 then 12 else 0
def zKV (c:Int):Ending:=.returned (.tuple #[.string ⟨#[]⟩,.bool false,.int .i64 c])
theorem S.Sto.Good.zLb (h:X.Good bs C) (k:ByteArray) (t:Int):(S.told (S.zX (X.con C k) t)).1.size≤4096:=by
 obtain ⟨e,he⟩:=h.tells k ⟨#[]⟩
 cases hf:S.zX (X.con C k) t with
 | none=>exact zRH _
 | some v =>
  unfold S.zX at hf;obtain ⟨i,hi⟩:=List.mem_iff_getElem?.1 (List.mem_of_find?_eq_some hf);have hl:=(h.tells k).length;have hil:i<(X.zAx bs.flatten k).length:=by rw [←hl];exact (zR7.1 hi).1
  have hs:=(S.zDt he i _ v (zR6 hil) hi).2;unfold S.Vs.size at hs;obtain ⟨st,val⟩:=v
  cases val with
  | none=>exact zRH _
  | some s=>exact hs
theorem zG1 (e0:Int) (he:e0≠10):Calls Tryz.prog 36 #[.pointer (some ⟨s,0,none⟩),.int .i64 e0] w fun e w'=>e=.returned (.tuple #[])∧w'=w:=by
 have heb:(e0 == 10)=false:=by rw [zRy];exact he
 go_enter Tryz.func36,Tryz.ntmps36;go_wp2_with fail;go_end0;exact ⟨rfl,rfl⟩
theorem zHO (h:zL w tg o s d X ids ps) (hX:X.Good bs C) (hd:X.dead=false→zC w tg' od d D ids' ps'∧D.yI∧zBL bad D bs wm) (hT:Tab w)
  (k:ByteArray) (t:Int) :
  Calls Tryz.prog 20 #[.pointer (some ⟨s,0,none⟩),.string k,.int .i64 t] w fun e w'=>(if X.asking k t=0 then (e=zOw (S.told (S.zX (X.con C k) t))∨(bad∧e=zHq)) else e=zKV (X.asking k t))∧Q w w':=by
 have c1:=h.c1;have c2:=h.c2;have IK:Hid _:=fun (W:World)=>zHK k W;unfold S.Sto.asking;by_cases hdd:X.dead=true
 ·rw [if_pos hdd];rw [hdd] at c1;simp only [Int.reduceEq,if_false];unfold zKV;clear IK c2 hd hX h;go_enter Tryz.func20,Tryz.ntmps20;go_wp2_with fail
  go_ret3
  exact ⟨rfl,Q.refl w⟩
 ·have hdf:X.dead=false:=by simpa using hdd
  rw [if_neg hdd];rw [hdf] at c1;obtain ⟨hd1,hd2,hd3⟩:=hd hdf;by_cases hk:1≤k.size∧k.size≤64
  ·rw [if_neg (by simpa using hk)];have hk2:decide (1≤k.size∧k.size≤64)=true:=decide_eq_true hk;rw [hk2] at IK;by_cases h1:t<X.wm
   ·rw [if_pos (Or.inl h1)];simp only [Int.reduceEq,if_false];have h1d:decide (t<X.wm)=true:=decide_eq_true h1;unfold zKV;have HA:Hid _:=And.intro c1 c2;clear hd hX h hd1 hd2 hd3 hk hk2 hdd hdf;go_enter Tryz.func20,Tryz.ntmps20;go_wp2_with fail;refine (IK.out _).mono ?_;rintro e w1 ⟨rfl,q1⟩;have k2:=zA c2 q1;clear IK HA c1 c2;go_wp2_with fail
    go_ret3
    exact ⟨rfl,q1⟩
   ·by_cases h0:t<0
    ·rw [if_pos (Or.inr h0)];simp only [Int.reduceEq,if_false];have h1d:decide (t<X.wm)=false:=decide_eq_false h1;unfold zKV;clear hd hX h hd1 hd2 hd3 hk hk2 hdd hdf;go_enter Tryz.func20,Tryz.ntmps20;go_wp2_with fail;refine (IK.out _).mono ?_;rintro e w1 ⟨rfl,q1⟩;have k2:=zA c2 q1;clear IK c1 c2;go_wp2_with fail
     go_ret3
     exact ⟨rfl,q1⟩
    ·rw [if_neg (by omega)];simp only [if_true];have SV:Hid _:=fun (W:World) (q:Q w W)=>zK9 (h.kept q) hX.ok (hd1.kept q) hd2 hd3 hX.fil (zq hT q) (fun k hk=>hX.empty k hk) k t;have hlim:(S.told (S.zX (X.con C k) t)).1.size≤281474976710656:=zRK (hX.zLb k t) (by decide);rw [hX.vAt k t] at SV;obtain ⟨tv,htv⟩:∃ tv,S.told (S.zX (X.con C k) t)=tv:=⟨_,rfl⟩;rw [htv] at SV hlim ⊢;have CL:Hid _:=fun (W:World)=>ZR tv.1 W hlim;have CE:Hid _:=fun (W:World)=>ZR ⟨#[]⟩ W (by simp [ByteArray.size]);have MN:Hid _:=fun (W:World) (e0:Int) (he:e0≠10)=>zG1 (w:=W) (s:=s) e0 he;unfold zOw at *;clear hd hX h hd1 hd2 hd3 hk hk2 hdd hdf htv hT hlim;go_enter Tryz.func20,Tryz.ntmps20;go_wp2_with fail;refine (IK.out _).mono ?_;rintro e w1 ⟨rfl,q1⟩;have k2:=zA c2 q1;have SV2:Hid _:=fun (_:Unit)=>SV.out w1 q1;clear IK c1 c2 SV;go_wp2_with fail;refine (SV2.out ()).mono ?_;rintro e w2 ⟨hA,q2⟩;have q3:=q1.trans q2;clear SV2 q1 q2 k2;rcases hA with rfl|⟨hbad,rfl⟩
     ·clear CE;go_wp2_with fail;refine (MN.out _ 0 (by decide)).mono ?_;rintro e w3 ⟨rfl,rfl⟩;clear MN;go_wp2_with fail;refine (CL.out _).mono ?_;rintro e w4 ⟨rfl,b4⟩;clear CL;go_wp2_with fail
      go_ret3
      exact ⟨Or.inl rfl,q3.trans ⟨b4⟩⟩
     ·unfold zHq;clear CL;go_wp2_with fail;refine (MN.out _ 3 (by decide)).mono ?_;rintro e w3 ⟨rfl,rfl⟩;clear MN;go_wp2_with fail;refine (CE.out _).mono ?_;rintro e w4 ⟨rfl,b4⟩;clear CE;go_wp2_with fail
      go_ret3
      exact ⟨Or.inr ⟨hbad,rfl⟩,q3.trans ⟨b4⟩⟩
  ·rw [if_pos hk];simp only [Int.reduceEq,if_false];have hk2:decide (1≤k.size∧k.size≤64)=false:=decide_eq_false hk;rw [hk2] at IK;unfold zKV;clear hd hX h hd1 hd2 hd3 hk hk2 hdd hdf;go_enter Tryz.func20,Tryz.ntmps20;go_wp2_with fail;refine (IK.out _).mono ?_;rintro e w1 ⟨rfl,q1⟩;clear IK c1 c2;go_wp2_with fail
   go_ret3
   exact ⟨rfl,q1⟩
def junk (tg:Tags) (w:World):Tags:=tg.more w.heap.size (tg 1).1 0
theorem Rdy.q {w w':World} {tg:Tags} {o od m s d:Nat} {T0:S.Two} {X:S.Sto} {bs:List (List Rec)} {C:S.Con} {bad:Prop} {wmf:Int} {ids ps ids' ps':List Nat} (h:Rdy w tg o od m s d T0 X bs C bad wmf ids ps ids' ps') (q:Q w w'):Rdy w' (junk tg w) o od m s d T0 X bs C bad wmf ids ps ids' ps':=by
 have hG:=Z8 h.tab;have ht:∀ k,k<w.heap.size→junk tg w k=tg k:=fun k hk=>Tags.zD hk;refine ⟨h.sto.keep q.below.size ht (fun k hk _=>q.below.block k hk),h.disk.keep q.below.size ht (fun k hk _=>q.below.block k hk),h.fine,h.on,h.good,zq h.tab q,by rw [ht _ hG];exact h.tabo,h.ne,h.nob,h.alive,fun k _=>?_,h.om,h.odm,h.few⟩;by_cases hk2:k<w.heap.size
 ·rw [ht k hk2];exact h.low k hk2
 ·unfold junk;rw [Tags.zV (by omega)];exact h.low _ hG
theorem zAF.after {w1:World} {V:S.Con} {e:Ending} (h:zAF w1 (junk tg w) o od m s d T0 X V bad e w') (q:Q w w1):zAF w tg o od m s d T0 X V bad e w':=by
 obtain ⟨c,tg',X',T',ids,ps,ids',ps',he,hK,hl,r⟩:=h;exact ⟨c,tg',X',T',ids,ps,ids',ps',he,(Kept.yT q (fun k hk=>Tags.zD hk)).trans hK,hl,r⟩
theorem zO1 (h:Rdy w tg o od m s d T0 X bs C bad wmf ids ps ids' ps') (hd:X.dead=false) (hp:X.zZ=true) :
  Calls Tryz.prog 31 #[.pointer (some ⟨s,0,none⟩)] w fun e w'=>zAF w tg o od m s d T0 X (S.Yu X C List.length X.keys.length) bad e w':=by
 have c1:=h.sto.c1;rw [hd] at c1;have IP:Hid _:=fun (_:Unit)=>zAl h.sto;rw [hp] at IP;have LD:Hid _:=fun (W:World) (q:Q w W)=>zIY (h.q q);clear h;go_enter Tryz.func31,Tryz.ntmps31;go_wp2_with fail;refine (IP.out ()).mono ?_;rintro e w1 ⟨rfl,q1⟩;have LD2:Hid _:=fun (_:Unit)=>LD.out w1 q1;clear LD;go_wp2_with fail;refine (LD2.out ()).mono ?_;rintro e w2 hL;have HL:=hL.after q1;obtain ⟨c,rest⟩:=HL;obtain ⟨tg',X',T',ids2,ps2,ids3,ps3,rfl,hr⟩:=rest;have HE:Hid (zAF w tg o od m s d T0 X (S.Yu X C List.length X.keys.length) bad (.returned (.int .i64 (c:Int))) w2):=⟨c,tg',X',T',ids2,ps2,ids3,ps3,rfl,hr⟩;clear LD2 hL hr;go_wp2_with fail;go_ret;exact HE.out
def zPz (w:World) (tg:Tags) (o od m s d:Nat) (T0:S.Two) (X:S.Sto) (C:S.Con) (bad:Prop) (e:Ending) (w':World):Prop:=
 (¬Drops X C∧e=.returned (.int .i64 0)∧Q w w')∨(bad∧e=.returned (.int .i64 3)∧Q w w')∨(Drops X C∧zAF w tg o od m s d T0 X (S.Yu X C (S.needs X.wm) X.keys.length) bad e w')
theorem zL9 (h:Rdy w tg o od m s d T0 X bs C bad wmf ids ps ids' ps') (hd:X.dead=false) (hp:X.zZ=false) :
  Calls Tryz.prog 15 #[.pointer (some ⟨s,0,none⟩)] w fun e w'=>zPz w tg o od m s d T0 X C bad e w':=by
 have c1:=h.sto.c1;rw [hd] at c1;have q0:Q w (w.alloc (.cells #[.pointer (some ⟨s,0,none⟩)] 30)):=(Q.refl w).alloc _ _;have k1:=zA c1 q0;have IP:Hid _:=fun (_:Unit)=>zAl (h.sto.kept q0);rw [hp] at IP;have HR:Hid (Rdy w tg o od m s d T0 X bs C bad wmf ids ps ids' ps'):=h;have hv:=zK w [.pointer (some ⟨s,0,none⟩)] 30;have HV:Hid (ZK (w.alloc (.cells #[.pointer (some ⟨s,0,none⟩)] 30)) w.heap.size [.pointer (some ⟨s,0,none⟩)]):=hv;clear h hv;go_enter Tryz.func15,Tryz.ntmps15;go_wp2_with fail;refine (IP.out ()).mono ?_;rintro e w1 ⟨rfl,q1⟩;have qw1:=q0.trans q1;have b0:=(HV.out.kept q1).cell 0 rfl;have DR:Hid _:=fun (_:Unit)=>zL3 (HR.out.q qw1) w.heap.size b0;clear IP k1;go_wp2_with fail;refine (DR.out ()).mono ?_;rintro e w2 ⟨b,c,rfl,q2,hc⟩;have qw2:=qw1.trans q2;have b2:=zA b0 q2;clear DR b0;rcases hc with ⟨rfl,hb⟩|⟨hbad,rfl,rfl⟩
 ·cases b with
  | false =>
   have hnd:¬Drops X C:=fun e=>by have:=hb.2 e;cases this
   have ME:Hid _:=fun (W:World)=>zG1 (w:=W) (s:=s) 0 (by decide);have HN:Hid (¬Drops X C):=hnd;clear hb hnd;go_wp2_with fail;refine (ME.out _).mono ?_;rintro e w3 ⟨rfl,hw3⟩;have q3:Q w2 w3:=by rw [hw3];exact Q.refl _
   clear ME hw3;go_wp2_with fail;go_ret;exact Or.inl ⟨HN.out,rfl,qw2.trans q3⟩
  | true =>
   have hyd:Drops X C:=hb.1 rfl;have HY:Hid (Drops X C):=hyd;have hG:=Z8 HR.out.tab;have LD:Hid _:=fun (_:Unit)=>zHH (HR.out.q qw2) w.heap.size b2 (by unfold junk;rw [Tags.zV (zR9 _)];exact fun e=>e.elim HR.out.tabo.1 HR.out.tabo.2);clear hb hyd hG;go_wp2_with fail;refine (LD.out ()).mono ?_;rintro e w3 hL;obtain ⟨c,tg',X',T',ids2,ps2,ids3,ps3,rfl,hr⟩:=hL.after qw2;have HE:Hid (zAF w tg o od m s d T0 X (S.Yu X C (S.needs X.wm) X.keys.length) bad (.returned (.int .i64 (c:Int))) w3):=⟨c,tg',X',T',ids2,ps2,ids3,ps3,rfl,hr⟩;clear LD hL hr;go_wp2_with fail;go_ret;exact Or.inr (Or.inr ⟨HY.out,HE.out⟩)
 ·have ME:Hid _:=fun (W:World)=>zG1 (w:=W) (s:=s) 3 (by decide);have HB:Hid bad:=hbad;clear hbad;go_wp2_with fail;refine (ME.out _).mono ?_;rintro e w3 ⟨rfl,hw3⟩;have q3:Q w2 w3:=by rw [hw3];exact Q.refl _
  clear ME hw3;go_wp2_with fail;go_ret;exact Or.inr (Or.inl ⟨HB.out,rfl,qw2.trans q3⟩)
theorem zKD (h:zL w tg o s d X ids ps) (hnu:S.yQ (X.newest.map (·.1))) (key:ByteArray) (hnl:∀ y∈X.newest.map (·.1),S.zw y key) (hnf:X.newest.length≤1048575) (st:Int) :
  Calls Tryz.prog 65 #[.pointer (some ⟨s,4,none⟩),.string key,.int .i64 st] w fun e w'=>e=.returned (.tuple #[])∧∃ tg',(∀ k,k<w.heap.size→tg' k=tg k)∧zL w' tg' o s d { X with newest:=X.newest++[(key,st)]} ids ps∧Only o tg w w':=by
 have hp:S.zDG (X.newest.map (·.1)) key=false:=by
  cases hh:S.zDG (X.newest.map (·.1)) key with
  | false=>rfl
  | true=>exact absurd (hnl _ (S.y7.1 hh)) (S.yU key)
 refine (zQQ tg o s 4 1 (X.newest.map (·.1)) (zb (X.newest.map (·.2))) hnu (by simp;omega) key st hp hnl (zC0 _) w h.nw ⟨by rw [h.ts];simp,by rw [h.ts];simp⟩ ⟨h.fr 4,h.fr 5⟩).mono ?_;rintro e w' ⟨rfl,hN⟩;refine ⟨rfl,h.zBQ ?_⟩;have e1:zJ (X.newest.map (·.1)) (S.Zm (X.newest.map (·.1)) key) key=(X.newest++[(key,st)]).map (·.1):=by
  rw [S.zCJ hnl,zBX];simp
 have e2:zJ (zb (X.newest.map (·.2))) (S.Zm (X.newest.map (·.1)) key) (.int .i64 st)=zb ((X.newest++[(key,st)]).map (·.2)):=by
  have hle:(X.newest.map (·.1)).length=(zb (X.newest.map (·.2))).length:=by simp [zb]
  rw [S.zCJ hnl,hle,zBX];simp [zb]
 rw [e1,e2] at hN;exact hN
def ZW (wm:Int) (F:List Rec) (n:Nat):S.Sto:=⟨false,wm,wm,S.news (F.take n),[]⟩
theorem zG3 (hF:F.Pairwise S.Bef) (hl:F.length≤1048000) (hn:n≤F.length):(ZW wm F n).Ok:=by
 obtain ⟨h1,h2,_⟩:=S.zDT hF n hn;refine ⟨h1,List.Pairwise.nil,?_,zRH _,fun kr hkr=>(by cases hkr)⟩;have h3:=S.zJY (F:=F.take n) h1 (fun k hk=>(h2 k).1 hk);rw [zRr,zRv] at h3;show (S.news (F.take n)).length≤1048000
 omega
theorem ZV.zHJ {P:Nat→Prop} {ao:Option Addr} {l:List S.Ent} (h:ZV w ao l) (k:Kept P tg w tg' w') (hP:∀ g,ao=some ⟨g,0,none⟩→¬P (tg g).1):ZV w' ao l:=by
 rcases h with h|⟨g,rfl,hg,hc⟩
 ·exact Or.inl h
 ·have hB:=k.block g hg (hP g rfl);have hx:∀ j,w'.cell? ⟨g,j,none⟩=w.cell? ⟨g,j,none⟩:=fun j=>zS6 (a:=⟨g,j,none⟩) hB;refine Or.inr ⟨g,rfl,zR8 hg k.size,fun i e he=>?_⟩;obtain ⟨h0,h1,h2,h3⟩:=hc i e he;exact ⟨(hx _).trans h0,(hx _).trans h1,(hx _).trans h2,(hx _).trans h3⟩
def zQf (tg2:Tags) (w2:World) (o s d:Nat) (wm:Int) (F:List Rec) (at_:Nat→Nat) (n:Nat) (ti:Value) (wr:World):Prop:=
 ∃ (i:Nat) (tg1:Tags),ti=.int .i64 (i:Int)∧i≤n∧Kept (·=o) tg2 w2 tg1 wr∧zL wr tg1 o s d (ZW wm F (at_ i)) [] []
theorem zHR (h:bs[i]?=some b) (j:Nat) (hj:j≤b.length):bs.flatten.take ((bs.take i).flatten.length+j)=(bs.take i).flatten++b.take j:=by
 have hi:i<bs.length:=(zR7.1 h).1;have hb:bs[i]=b:=(zR7.1 h).2;have e:bs=bs.take i++b::bs.drop (i+1):=by rw [←hb,List.getElem_cons_drop,zRf]
 have e2:bs.flatten=(bs.take i).flatten++(b++(bs.drop (i+1)).flatten):=by
  have:=congrArg List.flatten e;rw [List.flatten_append,zRo] at this;exact this
 rw [e2,List.take_append,zRE (by omega),Nat.add_sub_cancel_left,zRJ hj]
theorem zPd (h:bs[i]?=some b) (hj:b[j]?=some r):bs.flatten[(bs.take i).flatten.length+j]?=some r:=by
 have hi:i<bs.length:=(zR7.1 h).1;have hb:bs[i]=b:=(zR7.1 h).2;have e:bs=bs.take i++b::bs.drop (i+1):=by rw [←hb,List.getElem_cons_drop,zRf]
 have e2:bs.flatten=(bs.take i).flatten++(b++(bs.drop (i+1)).flatten):=by
  have:=congrArg List.flatten e;rw [List.flatten_append,zRo] at this;exact this
 rw [e2,zS0 (by omega),Nat.add_sub_cancel_left,zRz (zR7.1 hj).1];exact hj
theorem zO2 (h:bs[i]?=some b):(bs.take (i+1)).flatten.length=(bs.take i).flatten.length+b.length:=by
 rw [S.yt h,List.flatten_append];simp
theorem zPP (hF:F.Pairwise S.Bef) (hr:F[n]?=some r):(S.zn (S.news (F.take n)) r.key).isSome=true∧S.news (F.take (n+1))=S.news (F.take n)∨(S.zn (S.news (F.take n)) r.key).isSome=false∧S.news (F.take (n+1))=S.news (F.take n)++[(r.key,r.stamp)]∧∀ y∈(S.news (F.take n)).map (·.1),S.zw y r.key:=by
 have hn:n<F.length:=(zR7.1 hr).1;obtain ⟨h1,h2,h3⟩:=S.zDT hF n (by omega);have e:=S.yt hr;rw [e,S.zHA];unfold S.zDU
 cases hl:S.zn (S.news (F.take n)) r.key with
 | some x =>
  left;rw [if_pos (S.y9 h1 hl).1];exact ⟨rfl,rfl⟩
 | none =>
  right;rw [if_neg (by rw [S.ZO hl];simp)];refine ⟨rfl,rfl,fun y hy=>?_⟩;obtain ⟨x,hx,hxk⟩:=(h2 y).1 hy;have hb:S.Bef x r:=by
   have hp:(F.take (n+1)).Pairwise S.Bef:=hF.sublist (List.take_sublist ..);rw [e,zRW] at hp;exact hp.2.2 x hx r (by simp)
  rcases hb with hb|hb
  ·rw [←hxk];exact hb
  ·have:=S.ZO hl;rw [S.y7.2 ((h2 r.key).2 ⟨x,hx,hb.1⟩)] at this
   cases this
def zMz (tg:Tags) (o s d:Nat) (bs:List (List Rec)) (wm:Int) (bad:Prop) (w:World) (e:Ending) (w':World):Prop:=
 ∃ tg',Kept (·=o) tg w tg' w'∧((e=.returned (.int .i64 0)∧zL w' tg' o s d (ZW wm bs.flatten bs.flatten.length) [] [])∨(bad∧e=.returned (.int .i64 3)))
theorem zNn (h:zL w tg o s d ⟨false,0,0,[],[]⟩ [] []) (hD:zC w tg od d T0.dsk ids' ps') (hF:T0.dsk.yI) (hO:zBL bad T0.dsk bs wm) (hfil:S.Fil yZ bs C) (hT:Tab w) (hG:(tg 1).1≠o) (hfew:bs.flatten.length≤1048000) :
  Calls Tryz.prog 39 #[.pointer (some ⟨s,0,none⟩)] w fun e w'=>zMz tg o s d bs wm bad w e w':=by
 have SR:Hid _:=fun (_:Unit)=>zCa tg od d T0.dsk ids' ps' hF hO w hD hT;have c0:=h.c0;have HS:Hid (zL w tg o s d ⟨false,0,0,[],[]⟩ [] []):=h;have HFI:Hid (S.Fil yZ bs C∧Tab w∧(tg 1).1≠o∧bs.flatten.length≤1048000):=⟨hfil,hT,hG,hfew⟩;clear h hD hF hO hfil hT hG hfew;go_enter Tryz.func39,Tryz.ntmps39;go_wp2_with fail;refine (SR.out ()).mono ?_;rintro e w1 ⟨hR,q1⟩;clear SR;rcases hR with ⟨bl,ao,cap,hL,hb,rfl,hE,haN⟩|⟨hbad,rfl⟩
 ·have hS1:=HS.out.kept q1;have s2:=hS1.c2;have s3:=hS1.c3;have f2:=hS1.fr 2;have f3:=hS1.fr 3;have hV:=zK w1 [.int .i64 wm,.string bl,.slice ao bs.length cap] 124;have HL:Hid (zB1 bad bl bs∧bl.size≤1048576∧ZV w1 ao (S.yH 0 bs)∧(∀ a,ao=some a→w.heap.size≤a.block)∧Q w w1∧ZK (w1.alloc (.cells #[.int .i64 wm,.string bl,.slice ao bs.length cap] 124)) w1.heap.size [.int .i64 wm,.string bl,.slice ao bs.length cap]):=⟨hL,hb,hE,haN,q1,hV⟩;have hsl:s<w1.heap.size:=hS1.top;clear hL hb hE haN q1 hS1 hV;unfold YJ;go_upto_region 4 with fail
  go_region
  obtain ⟨w2,hw2⟩:∃ w2,w2=(((w1.setCell ⟨s,2,none⟩ (.int .i64 wm)).setCell ⟨s,3,none⟩ (.int .i64 wm)).alloc (.cells #[.int .i64 wm,.string bl,.slice ao bs.length cap] 124)).drew:=⟨_,rfl⟩;obtain ⟨J,hJ⟩:∃ J,J=(tg 1).1:=⟨_,rfl⟩;have hJo:J≠o:=by rw [hJ];exact HFI.out.2.2.1
  obtain ⟨tg2,htg2⟩:∃ tg2,tg2=tg.more w.heap.size J 0:=⟨_,rfl⟩;have t2o:∀ k,k<w.heap.size→tg2 k=tg k:=fun k hk=>by rw [htg2];exact Tags.zD hk
  have t2n:∀ k,w.heap.size≤k→tg2 k=(J,0):=fun k hk=>by rw [htg2];exact Tags.zV hk
  have hns:∀ i j,i≠j→(⟨s,i,none⟩:Addr)≠⟨s,j,none⟩:=fun i j hij e=>by injection e with _ e2;exact hij e2
  have HW2:Hid (Kept (·=o) tg w tg2 w2∧zL w2 tg2 o s d (ZW wm bs.flatten 0) [] []∧ZK w2 w1.heap.size [.int .i64 wm,.string bl,.slice ao bs.length cap]∧ZV w2 ao (S.yH 0 bs)∧Tab w2):=by
   obtain ⟨hL,hb,hE,haN,q1,hV⟩:=HL.out;have hS1:=HS.out.keep q1.below.size t2o (fun k hk _=>q1.below.block k hk);have qd:Q ((w1.setCell ⟨s,2,none⟩ (.int .i64 wm)).setCell ⟨s,3,none⟩ (.int .i64 wm)) w2:=by rw [hw2];exact ((Q.refl _).alloc _ _).drew
   have hbl:∀ k,k<w1.heap.size→k≠s→w2.heap[k]?=w1.heap[k]?:=fun k hk hn=>by
    rw [qd.below.block k (by simp;omega),heap_setCell_other _ ⟨s,3,none⟩ k _ (by simpa using hn),heap_setCell_other _ ⟨s,2,none⟩ k _ (by simpa using hn)]
   have hs2:w2.heap[s]?=((w1.setCell ⟨s,2,none⟩ (.int .i64 wm)).setCell ⟨s,3,none⟩ (.int .i64 wm)).heap[s]?:=qd.below.block s (by simp;omega);have cs:∀ j,w2.cell? ⟨s,j,none⟩=((w1.setCell ⟨s,2,none⟩ (.int .i64 wm)).setCell ⟨s,3,none⟩ (.int .i64 wm)).cell? ⟨s,j,none⟩:=fun j=>zS6 (a:=⟨s,j,none⟩) hs2;have cso:∀ j,j≠2→j≠3→w2.cell? ⟨s,j,none⟩=w1.cell? ⟨s,j,none⟩:=fun j h1 h2=>by rw [cs j,zS5 _ _ _ _ (hns _ _ (by omega)),zS5 _ _ _ _ (hns _ _ (by omega))]
   have hsz:w1.heap.size≤w2.heap.size:=by have:=qd.below.size;simp at this;exact this
   have hSt:=hS1.zEj (w':=w2) (Y:=ZW wm bs.flatten 0) rfl rfl hsz hbl (fun j hj=>cso j (by omega) (by omega)) (fun j=>by rw [zS9 (a:=⟨s,j,none⟩) hs2,zS8,zS8]) ((cso 0 (by omega) (by omega)).trans hS1.c0) ((cso 1 (by omega) (by omega)).trans hS1.c1) (by rw [cs 2,zS5 _ _ _ _ (hns _ _ (by omega))];exact zS7 _ _ _ s2) (by rw [cs 3];exact zS7 _ _ _ ((zS5 _ _ _ _ (hns _ _ (by omega))).trans s3));have hK12:Kept (·=o) tg2 w1 tg2 w2:=⟨qd.below.os,qd.below.tape,qd.below.output,hsz,fun _ _=>rfl,fun k hk hn=>hbl k hk (fun e=>hn (by rw [e,hS1.ts]))⟩;have hGl:=Z8 HFI.out.2.1;refine ⟨(Kept.yT q1 t2o).trans hK12,hSt,?_,hE.zHJ hK12 (fun g hg=>by rw [t2n g (haN _ hg)];exact hJo),yg (zq HFI.out.2.1 q1) (hbl _ (by have:=q1.below.size;omega) (fun e=>HFI.out.2.2.1 (by rw [e,HS.out.ts])))⟩;have hz:((w1.setCell ⟨s,2,none⟩ (.int .i64 wm)).setCell ⟨s,3,none⟩ (.int .i64 wm)).heap.size=w1.heap.size:=by simp
   have hv:=(zK ((w1.setCell ⟨s,2,none⟩ (.int .i64 wm)).setCell ⟨s,3,none⟩ (.int .i64 wm)) [.int .i64 wm,.string bl,.slice ao bs.length cap] 124).kept ((Q.refl _).drew);rw [hz] at hv;rw [hw2];exact hv
  have hWL:w.heap.size≤w1.heap.size:=HL.out.2.2.2.2.1.below.size;have l2:=HW2.out.2.2.1.cell 2 rfl;have HTT:Hid (∀ k,w.heap.size≤k→tg2 k=(J,0)):=t2n;rw [←hw2];clear hw2 s2 s3 f2 f3 hns htg2 t2o t2n hJ;go_wp2_with fail;clear l2
  go_loopw [36] (fun ti wr=>zQf tg2 w2 o s d wm bs.flatten (fun i=>(bs.take i).flatten.length) bs.length ti wr) (fun ti _=>bs.length-(intOf ti).toNat)
  case atStart=>exact ⟨0,tg2,rfl,zRH _,Kept.refl _ _ _,by simpa using HW2.out.2.1⟩
  case round =>
   obtain ⟨i,tg1,rfl,hi,hK,hSt⟩:=hrel;obtain ⟨hK0,_,hV2,hE2,hT2⟩:=HW2.out;obtain ⟨hL,hb,_,haN,q1,_⟩:=HL.out;have hVr:ZK wr w1.heap.size [.int .i64 wm,.string bl,.slice ao bs.length cap]:=hV2.of_block (hK.block _ hV2.1 (by rw [HTT.out _ hWL];exact hJo)) hK.size;have hEr:=hE2.zHJ hK (fun g hg=>by rw [HTT.out g (haN _ hg)];exact hJo);have hGl:=Z8 HFI.out.2.1;have hG2:1<w2.heap.size:=zR8 hGl hK0.size;have htG:tg2 1=tg 1:=hK0.tags _ hGl;have hTr:Tab wr:=yg hT2 (hK.block _ hG2 (by rw [htG];exact HFI.out.2.2.1));by_cases hlt:i<bs.length
   ·obtain ⟨b,hbi⟩:∃ b,bs[i]?=some b:=⟨_,zR6 hlt⟩;have hltI:(i:Int)<(bs.length:Int):=by omega
    have hbsl:=hL.few hb;have hbll:b.length≤64:=(HFI.out.1.ok b (zRG hbi)).few;have BK:Hid _:=fun (_:Unit)=>zBy hL hb HFI.out.1.ok wm ao cap i b hbi (hL.few hb) wr hEr hTr;unfold YJ at BK;have v0:=hVr.cell 0 rfl;have v1:=hVr.cell 1 rfl;have v2:=hVr.cell 2 rfl;have HST:Hid (Kept (·=o) tg2 w2 tg1 wr∧zL wr tg1 o s d (ZW wm bs.flatten (bs.take i).flatten.length) [] []):=⟨hK,hSt⟩;have HBI:Hid (bs[i]?=some b):=hbi;clear hK hSt hK0 hV2 hE2 hT2 hL hb haN q1 hVr hEr hTr hbi hGl hG2 htG;go_wp2_with fail;refine (BK.out ()).mono ?_;rintro e w3 ⟨hB,q3⟩;clear BK v0 v1 v2;rcases hB with ⟨bo,bc,base,rfl,hbase,hown⟩|⟨hbad,rfl⟩
    ·obtain ⟨tgR,htgR⟩:∃ tgR,tgR=tg1.more wr.heap.size J 0:=⟨_,rfl⟩;have tRo:∀ k,k<wr.heap.size→tgR k=tg1 k:=fun k hk=>by rw [htgR];exact Tags.zD hk
     have tRn:∀ k,wr.heap.size≤k→tgR k=(J,0):=fun k hk=>by rw [htgR];exact Tags.zV hk
     have HRc:Hid (Rcs w3 bo b∧∀ a,bo=some a→b≠[]→wr.heap.size≤a.block):=⟨YV hown,fun a ha _=>by
      subst ha;exact zRK hbase (hown.lt _ (zE5 hown)).1⟩
     have HS3:Hid (Kept (·=o) tg2 w2 tgR w3∧zL w3 tgR o s d (ZW wm bs.flatten ((bs.take i).flatten.length+0)) [] []):=⟨HST.out.1.trans (Kept.yT q3 tRo),HST.out.2.keep q3.below.size tRo (fun k hk _=>q3.below.block k hk)⟩;have HTR:Hid (∀ k,wr.heap.size≤k→tgR k=(J,0)):=tRn;have hw3:wr.heap.size≤w3.heap.size:=q3.below.size;clear htgR tRo tRn hown hbase q3;go_wp2_with fail
     go_loopw [50] (fun tj wq=>zQf tgR w3 o s d wm bs.flatten (fun j=>(bs.take i).flatten.length+j) b.length tj wq) (fun tj _=>b.length-(intOf tj).toNat)
     case atStart=>exact ⟨0,tgR,rfl,zRH _,Kept.refl _ _ _,HS3.out.2⟩
     case round =>
      obtain ⟨j,tgq,rfl,hj,hKq,hSq⟩:=hrel;have hRr:Rcs wr bo b:=HRc.out.1.zHJ hKq (fun a ha hne=>by rw [HTR.out _ (HRc.out.2 a ha hne)];exact hJo);by_cases hlj:j<b.length
      ·obtain ⟨g,off,hbo,hgw,hRA⟩:=hRr.at hlj;obtain ⟨r,hr⟩:∃ r,b[j]?=some r:=⟨_,zR6 hlj⟩;obtain ⟨c0',c1',c2',c3'⟩:=hRA j r hr;have hFr:=zPd HBI.out hr;have hltj:(j:Int)<(b.length:Int):=by omega
       have hnF:(bs.take i).flatten.length+j<bs.flatten.length:=(zR7.1 hFr).1;have hok:=zG3 (wm:=wm) HFI.out.1.ord HFI.out.2.2.2 (Nat.le_of_lt hnF);have hks:r.key.size≤64:=by
        have hm:b∈bs:=zRG HBI.out;have:=(HFI.out.1.ok b hm).fits r (zRG hr);simp only [Rec.fits,zS4] at this;omega
       obtain ⟨tga,htga⟩:∃ tga,tga=tgq.more wr.heap.size J 0:=⟨_,rfl⟩;have tao:∀ k,k<wr.heap.size→tga k=tgq k:=fun k hk=>by rw [htga];exact Tags.zD hk
       have tan:∀ k,wr.heap.size≤k→tga k=(J,0):=fun k hk=>by rw [htga];exact Tags.zV hk
       have qa:Q wr (wr.alloc (.cells #[.string r.key,.int .i64 r.stamp,.int .i64 r.kind,.string r.body] 62)):=(Q.refl wr).alloc _ _;have hSa:zL (wr.alloc (.cells #[.string r.key,.int .i64 r.stamp,.int .i64 r.kind,.string r.body] 62)) tga o s d (ZW wm bs.flatten ((bs.take i).flatten.length+j)) [] []:=hSq.keep qa.below.size tao (fun k hk _=>qa.below.block k hk);have hKa:Kept (·=o) tgR w3 tga (wr.alloc (.cells #[.string r.key,.int .i64 r.stamp,.int .i64 r.kind,.string r.body] 62)):=hKq.trans (Kept.yT qa tao);have hvn:=zK wr [.string r.key,.int .i64 r.stamp,.int .i64 r.kind,.string r.body] 62;obtain ⟨wa,hwa⟩:∃ wa,wa=wr.alloc (.cells #[.string r.key,.int .i64 r.stamp,.int .i64 r.kind,.string r.body] 62):=⟨_,rfl⟩;rw [←hwa] at hSa hKa hvn;have n0:=hvn.cell 0 rfl;have n1:=hvn.cell 1 rfl;have GE:Hid _:=fun (W:World) (q:Q wa W)=>zAP (hSa.kept q) hok r.key;have HSA:Hid (zL wa tga o s d (ZW wm bs.flatten ((bs.take i).flatten.length+j)) [] []∧Kept (·=o) tgR w3 tga wa):=⟨hSa,hKa⟩;have HOK:Hid ((ZW wm bs.flatten ((bs.take i).flatten.length+j)).Ok):=hok;have HTA:Hid (∀ k,wr.heap.size≤k→tga k=(J,0)):=tan;subst hbo;have hnw:(ZW wm bs.flatten ((bs.take i).flatten.length+j)).newest=S.news (bs.flatten.take ((bs.take i).flatten.length+j)):=rfl;rw [hnw] at GE;obtain ⟨gv,hgv⟩:∃ gv,gv=(S.zn (S.news (bs.flatten.take ((bs.take i).flatten.length+j))) r.key).getD 0:=⟨_,rfl⟩;rw [←hgv] at GE;rcases zPP HFI.out.1.ord hFr with ⟨hso,hnews⟩|⟨hno,hnews,hless⟩
       ·rw [hso] at GE;have HNX:Hid (ZW wm bs.flatten ((bs.take i).flatten.length+(j+1))=ZW wm bs.flatten ((bs.take i).flatten.length+j)):=by
         show ZW _ _ _=ZW _ _ _
         unfold ZW;rw [←Nat.add_assoc,hnews]
        clear hSa hKa hvn hSq hKq hRr hRA hr hFr hok tao tan htga qa hnw hgv hso hnews hnF hks;go_upto_region 14 with fail
        rw [←hwa];clear hwa
        go_region_held3 (fun w'=>w'.cell? ⟨wr.heap.size,0,none⟩=some (.string r.key))
         (first | exact n0 | exact hS4)
         (first | (go_at_call 64;refine (GE.out _ ((Q.refl wa).drew)).mono ?_;rintro e w4 ⟨rfl,q4⟩;have q4':Q wa w4:=(Q.refl wa).drew.trans q4;have hS4:w4.cell? ⟨wr.heap.size,0,none⟩=some (.string r.key):=zA n0 q4'))
        all_goals
         have HRE:Hid (Kept (·=o) tgR w3 tga w4∧zL w4 tga o s d (ZW wm bs.flatten ((bs.take i).flatten.length+(j+1))) [] []):=⟨HSA.out.2.trans (Kept.yT q4' (fun _ _=>rfl)),by rw [HNX.out];exact HSA.out.1.kept q4'⟩;clear q4 q4' hS4 GE;go_wp2_with fail
         go_roundw
         case rel=>exact ⟨j+1,tga,by go_num,by omega,HRE.out.1,HRE.out.2⟩
         case measure=>simp [intOf];omega
       ·rw [hno] at GE;have HNX:Hid (ZW wm bs.flatten ((bs.take i).flatten.length+(j+1))={ ZW wm bs.flatten ((bs.take i).flatten.length+j) with newest:=(ZW wm bs.flatten ((bs.take i).flatten.length+j)).newest++[(r.key,r.stamp)]}):=by
         show ZW _ _ _=_
         unfold ZW;rw [←Nat.add_assoc,hnews]
        have PN:Hid _:=fun (W:World) (q:Q wa W)=>zKD (hSa.kept q) hok.nwUp r.key hless (by have:=hok.nwFew;omega) r.stamp;have CL:Hid _:=fun (W:World)=>ZR r.key W (by omega);clear hSa hKa hvn hSq hKq hRr hRA hr hFr hok tao tan htga qa hnw hgv hno hnews hless hnF hks;go_upto_region 14 with fail
        rw [←hwa];clear hwa
        go_region_held3 (fun w'=>w'.cell? ⟨wr.heap.size,0,none⟩=some (.string r.key))
         (first | exact n0 | exact hS4)
         (first | (go_at_call 64;refine (GE.out _ ((Q.refl wa).drew)).mono ?_;rintro e w4 ⟨rfl,q4⟩;have q4':Q wa w4:=(Q.refl wa).drew.trans q4;have hS4:w4.cell? ⟨wr.heap.size,0,none⟩=some (.string r.key):=zA n0 q4'))
        all_goals
         have m0:=zA n0 q4';have m1:=zA n1 q4';clear q4 hS4 GE n0 n1;go_upto_region 16 with fail
         go_region_held3 (fun w'=>w'.cell? ⟨wr.heap.size,0,none⟩=some (.string r.key)∧w'.cell? ⟨wr.heap.size,1,none⟩=some (.int .i64 r.stamp))
          (first | exact ⟨m0,m1⟩ | exact hS5 | exact hS6)
          (first | (go_at_call 47;refine (CL.out _).mono ?_;rintro e w5 ⟨rfl,q5⟩;have q5':Q w4 w5:=(Q.refl w4).drew.trans ⟨q5⟩;have hS5:w5.cell? ⟨wr.heap.size,0,none⟩=some (.string r.key)∧w5.cell? ⟨wr.heap.size,1,none⟩=some (.int .i64 r.stamp):=⟨zA m0 q5',zA m1 q5'⟩) | (go_at_call 65;refine (PN.out _ (q4'.trans q5')).mono ?_;rintro e w6 ⟨rfl,tg6,ht6,hS6',ho6⟩;have hb6:w6.heap[wr.heap.size]?=w5.heap[wr.heap.size]?:=ho6.block _ (ZT hS5.1) (by rw [HTA.out _ (zR9 _)];exact hJo);have hS6:w6.cell? ⟨wr.heap.size,0,none⟩=some (.string r.key)∧w6.cell? ⟨wr.heap.size,1,none⟩=some (.int .i64 r.stamp):=⟨(zS6 (a:=⟨wr.heap.size,0,none⟩) hb6).trans hS5.1,(zS6 (a:=⟨wr.heap.size,1,none⟩) hb6).trans hS5.2⟩))
         all_goals
          have HRE:Hid (Kept (·=o) tgR w3 tg6 w6∧zL w6 tg6 o s d (ZW wm bs.flatten ((bs.take i).flatten.length+(j+1))) [] []):=⟨(HSA.out.2.trans (Kept.yT (q4'.trans q5') (fun _ _=>rfl))).trans (Kept.yA ho6 ht6 rfl),by rw [HNX.out];exact hS6'⟩;clear q4' q5' q5 hS5 hS6 hS6' ho6 ht6 hb6 m0 m1 PN CL;go_wp2_with fail
          go_roundw
          case rel=>exact ⟨j+1,tg6,by go_num,by omega,HRE.out.1,HRE.out.2⟩
          case measure=>simp [intOf];omega
      ·obtain rfl:j=b.length:=by omega
       have HRO:Hid (Kept (·=o) tg2 w2 tgq wr∧zL wr tgq o s d (ZW wm bs.flatten (bs.take (i+1)).flatten.length) [] []):=⟨HS3.out.1.trans hKq,by rw [zO2 HBI.out];exact hSq⟩;clear hRr hKq hSq;go_wp2_with fail
       go_roundw
       case rel=>exact ⟨i+1,tgq,by go_num,hlt,HRO.out.1,HRO.out.2⟩
       case measure=>simp [intOf];omega
    ·have HB:Hid bad:=hbad;have HKE:Hid (Kept (·=o) tg w tg1 w3):=(HW2.out.1.trans HST.out.1).trans (Kept.yT q3 (fun _ _=>rfl));clear hbad;go_wp2_with fail;go_ret;exact ⟨tg1,HKE.out,Or.inr ⟨HB.out,rfl⟩⟩
   ·obtain rfl:i=bs.length:=by omega
    have HEN:Hid (zMz tg o s d bs wm bad w (.returned (.int .i64 0)) wr):=⟨tg1,hK0.trans hK,Or.inl ⟨rfl,by simpa using hSt⟩⟩;clear hK hSt hVr hEr hTr;go_wp2_with fail;go_ret;exact HEN.out
 ·have HB:Hid bad:=hbad;have HQ:Hid (Q w w1):=q1;clear hbad q1;unfold zCf;go_wp2_with fail;go_ret;exact ⟨tg,Kept.yT (HQ.out.alloc _ _) (fun _ _=>rfl),Or.inr ⟨HB.out,rfl⟩⟩
def YP (n:Nat) (tg tgE:Tags) (o od j:Nat):Tags:=fun k=>if k<n then tg k else if (tgE k).1=o∨(tgE k).1=od then tgE k else (j,0)
theorem zEQ (h:k<n):YP n tg tgE o od j k=tg k:=by simp [YP,h]
theorem zER (hl:Low m tg w) (ho:o<m) (hod:od<m) (hj:j<m):Low m (YP w.heap.size tg tgE o od j) w':=fun k _=>by
 unfold YP;split
 ·rename_i h;exact hl k h
 split
 ·rename_i h;rcases h with h | h<;>rw [h]<;>assumption
 ·exact hj
theorem zAC (ht:∀ k,k<w.heap.size→tgE k=tg k) (h:(tgE k).1=o∨(tgE k).1=od):YP w.heap.size tg tgE o od j k=tgE k:=by
 unfold YP;by_cases hk:k<w.heap.size
 ·rw [if_pos hk];exact (ht k hk).symm
 ·rw [if_neg hk,if_pos h]
theorem zIE (h:D.yI):(S.settle D).1.yI:=by
 unfold S.settle;split
 ·exact (h.sync yO).remove ze
 ·exact h.sync yO
def zPv (tg:Tags) (o od m d:Nat) (T0:S.Two) (bs:List (List Rec)) (wm:Int) (bad:Prop) (w:World) (e:Ending) (w':World):Prop:=
 ∃ (tg':Tags) (ids' ps':List Nat),Kept (·=od) tg w tg' w'∧Low m tg' w' ∧
  ((bad∧e=.returned (.tuple #[.pointer none,.int .i64 3])∧zC w' tg' od d T0.dsk ids' ps')
  ∨ ((S.settle T0.dsk).2≠0∧e=.returned (.tuple #[.pointer none,.int .i64 ((S.settle T0.dsk).2:Nat)])∧zC w' tg' od d (S.settle T0.dsk).1 ids' ps')
  ∨ ((S.settle T0.dsk).2=0∧∃ s,w.heap.size≤s∧e=.returned (.tuple #[.pointer (some ⟨s,0,none⟩),.int .i64 0])∧zL w' tg' o s d (ZW wm bs.flatten bs.flatten.length) [] []∧zC w' tg' od d (S.settle T0.dsk).1 ids' ps'))
theorem zFx (hD:zC w tg od d T0.dsk ids' ps') (hF:T0.dsk.yI) (hO:zBL bad T0.dsk bs wm) (hfil:S.Fil yZ bs C) (hT:Tab w) (hfew:bs.flatten.length≤1048000) (hlow:Low m tg w) (ho:∀ k,k<w.heap.size→(tg k).1≠o) (hom:o<m) (hodm:od<m) :
  Calls Tryz.prog 18 #[.pointer (some ⟨d,0,none⟩)] w fun e w'=>zPv tg o od m d T0 bs wm bad w e w':=by
 have hG:=Z8 hT;have hGo:=ho _ hG;have hne:o≠od:=fun e=>ho d hD.map.top (by rw [hD.map.td,e]);obtain ⟨J,hJ⟩:∃ J,J=(tg 1).1:=⟨_,rfl⟩;obtain ⟨tgA,htgA⟩:∃ tgA:Tags,tgA=fun k=>if k<w.heap.size then tg k else if k=w.heap.size then (o,0) else (J,0):=⟨_,rfl⟩
 have tA0:∀ k,k<w.heap.size→tgA k=tg k:=fun k hk=>by rw [htgA];simp [hk]
 have tAs:tgA w.heap.size=(o,0):=by rw [htgA];show (if _ then _ else _)=_;rw [if_neg (by omega),if_pos rfl]
 have qa:Q w (w.alloc (.cells #[.pointer (some ⟨d,0,none⟩),.bool false,.int .i64 0,.int .i64 0,.slice none 0 0,.slice none 0 0,.slice none 0 0,.slice none 0 0] 70)):=(Q.refl w).alloc _ _;have hv:=zK w [.pointer (some ⟨d,0,none⟩),.bool false,.int .i64 0,.int .i64 0,.slice none 0 0,.slice none 0 0,.slice none 0 0,.slice none 0 0] 70;have hfr:∀ j,(w.alloc (.cells #[.pointer (some ⟨d,0,none⟩),.bool false,.int .i64 0,.int .i64 0,.slice none 0 0,.slice none 0 0,.slice none 0 0,.slice none 0 0] 70)).frozen? ⟨w.heap.size,j,none⟩=false:=fun j=>by simp
 have hS:zL (w.alloc (.cells #[.pointer (some ⟨d,0,none⟩),.bool false,.int .i64 0,.int .i64 0,.slice none 0 0,.slice none 0 0,.slice none 0 0,.slice none 0 0] 70)) tgA o w.heap.size d ⟨false,0,0,[],[]⟩ [] []:=
  ⟨hv.1,tAs,hfr,hv.cell 0 rfl,hv.cell 1 rfl,hv.cell 2 rfl,hv.cell 3 rfl,zB4.empty hv.1 (hv.cell 4 rfl) (hv.cell 5 rfl),zB4.empty hv.1 (hv.cell 6 rfl) (hv.cell 7 rfl),List.nodup_nil,rfl,fun i p id kr h1=>by simp at h1⟩
 have hDa:zC (w.alloc (.cells #[.pointer (some ⟨d,0,none⟩),.bool false,.int .i64 0,.int .i64 0,.slice none 0 0,.slice none 0 0,.slice none 0 0,.slice none 0 0] 70)) tgA od d T0.dsk ids' ps':=hD.keep qa.below.size tA0 (fun k hk _=>qa.below.block k hk);have LO:Hid _:=fun (_:Unit)=>zNn hS hDa hF hO hfil (zq hT qa) (by rw [tA0 _ hG];exact hGo) hfew;have HK:Hid (Kept (fun x=>x=o∨x=od) tg w tgA (w.alloc (.cells #[.pointer (some ⟨d,0,none⟩),.bool false,.int .i64 0,.int .i64 0,.slice none 0 0,.slice none 0 0,.slice none 0 0,.slice none 0 0] 70))):=Kept.yT qa tA0;have HDA:Hid _:=hDa;have HF:Hid T0.dsk.yI:=hF;have HLow:Hid (Low m tg w∧(∀ k,k<w.heap.size→(tg k).1≠o)∧J<m):=⟨hlow,ho,by rw [hJ];exact hlow _ hG⟩;have fin:∀ (w':World) (tgE:Tags),Kept (fun x=>x=o∨x=od) tg w tgE w'→Kept (·=od) tg w (YP w.heap.size tg tgE o od J) w'∧Low m (YP w.heap.size tg tgE o od J) w':=fun w' tgE k=>⟨⟨k.os,k.tape,k.output,k.size,fun i hi=>zEQ hi,fun i hi hn=>k.block i hi (fun e=>e.elim (HLow.out.2.1 i hi) hn)⟩,zER HLow.out.1 hom hodm HLow.out.2.2⟩;have HFN:Hid (∀ (w':World) (tgE:Tags),Kept (fun x=>x=o∨x=od) tg w tgE w'→Kept (·=od) tg w (YP w.heap.size tg tgE o od J) w'∧Low m (YP w.heap.size tg tgE o od J) w'):=fin;clear hD hF hO hfil hT hfew hlow ho hv hfr hS hDa qa htgA tA0 tAs fin hG hGo hJ;go_enter Tryz.func18,Tryz.ntmps18;go_wp2_with fail;refine (LO.out ()).mono ?_;rintro e w1 ⟨tg1,hK1,hc⟩;have hKw:=HK.out.trans (hK1.wider (fun x e=>Or.inl e));have hD1:zC w1 tg1 od d T0.dsk ids' ps':=HDA.out.keep hK1.size hK1.tags (fun k hk e=>hK1.block k hk (by rw [e];exact fun e=>hne e.symm));rcases hc with ⟨rfl,hS1⟩|⟨hbad,rfl⟩
 ·have SE:Hid _:=fun (_:Unit)=>zF3 tg1 od d T0.dsk ids' ps' HF.out w1 hD1;obtain ⟨⟨D2,c2⟩,hse⟩:∃ p,p=S.settle T0.dsk:=⟨_,rfl⟩;have HSE:Hid (S.settle T0.dsk=(D2,c2)):=hse.symm;rw [←hse] at SE;simp only at SE;have H1:Hid (zL w1 tg1 o w.heap.size d (ZW wm bs.flatten bs.flatten.length) [] []∧Kept (fun x=>x=o∨x=od) tg w tg1 w1):=⟨hS1,hKw⟩;clear hse LO hK1 hS1 hD1 hKw HDA HK;go_wp2_with fail;refine (SE.out ()).mono ?_;rintro e w2 ⟨rfl,tg2,ids2,ps2,ht2,hL2,ho2⟩;have hK2:=H1.out.2.trans (Kept.yA ho2 ht2 (Or.inr rfl));have hS2:zL w2 tg2 o w.heap.size d (ZW wm bs.flatten bs.flatten.length) [] []:=H1.out.1.keep ho2.size ht2 (fun k hk e=>ho2.block k hk (by rw [e];exact hne));have HE2:Hid (Kept (fun x=>x=o∨x=od) tg w tg2 w2∧zL w2 tg2 o w.heap.size d (ZW wm bs.flatten bs.flatten.length) [] []∧zC w2 tg2 od d D2 ids2 ps2):=⟨hK2,hS2,hL2⟩;clear SE ht2 hL2 ho2 hK2 hS2;by_cases hc0:c2=0
  ·subst hc0;go_wp2_with fail;refine bodyPost_ret (v:=.tuple #[.pointer (some ⟨w.heap.size,0,none⟩),.int .i64 0]) (by simp [results,Tryz.results18,go_sem]) rfl ?_;obtain ⟨hK2,hS2,hL2⟩:=HE2.out;obtain ⟨f1,f2⟩:=HFN.out w2 tg2 hK2;refine ⟨_,ids2,ps2,f1,f2,Or.inr (Or.inr ⟨by rw [HSE.out],w.heap.size,zR9 _,rfl,hS2.retag (fun k _ e=>zAC hK2.tags (Or.inl e)),?_⟩)⟩;rw [HSE.out];exact hL2.retag (fun k _ e=>zAC hK2.tags (Or.inr e))
  ·have hcI:¬(c2:Int)=0:=by omega
   have hcb:((c2:Int) != 0)=true:=by simp [hc0]
   have HC0:Hid (c2≠0):=hc0;clear hc0;go_wp2_with fail;refine bodyPost_ret (v:=.tuple #[.pointer none,.int .i64 (c2:Int)]) (by simp [results,Tryz.results18,go_sem]) rfl ?_;obtain ⟨hK2,hS2,hL2⟩:=HE2.out;obtain ⟨f1,f2⟩:=HFN.out w2 tg2 hK2;refine ⟨_,ids2,ps2,f1,f2,Or.inr (Or.inl ⟨by rw [HSE.out];exact HC0.out,by rw [HSE.out],?_⟩)⟩;rw [HSE.out];exact hL2.retag (fun k _ e=>zAC hK2.tags (Or.inr e))
 ·have HB:Hid bad:=hbad;have HE1:Hid (Kept (fun x=>x=o∨x=od) tg w tg1 w1∧zC w1 tg1 od d T0.dsk ids' ps'):=⟨hKw,hD1⟩;clear hbad LO hK1 hD1 hKw HDA HK;go_wp2_with fail;refine bodyPost_ret (v:=.tuple #[.pointer none,.int .i64 3]) (by simp [results,Tryz.results18,go_sem]) rfl ?_;obtain ⟨hK2,hL2⟩:=HE1.out;obtain ⟨f1,f2⟩:=HFN.out w1 tg1 hK2;exact ⟨_,ids',ps',f1,f2,Or.inl ⟨HB.out,rfl,hL2.retag (fun k _ e=>zAC hK2.tags (Or.inr e))⟩⟩
end Go.Proofs.YtekdenkllipehabGreatDoor
namespace Go.Proofs.YtekdenkllipehabGreatDoor.S
open Go.RowKit
variable {bs:List (List Rec)} {clock:Int} {k:ByteArray}
structure zh where
 key:ByteArray
 stamp:Int
 value:ByteArray
 there:Bool
def zh.vs (f:zh):Vs:=⟨f.stamp,if f.there=true then some f.value else none⟩
def fv (L:List zh) (k:ByteArray):List Vs:=((L.filter fun f=>decide (f.key=k)).map zh.vs).reverse
theorem zPb (L:List zh) (f:zh) (k:ByteArray):fv (L++[f]) k=if f.key=k then f.vs::fv L k else fv L k:=by
 unfold fv;rw [List.filter_append];by_cases h:f.key=k
 ·rw [if_pos h];simp [h]
 ·rw [if_neg h];simp [h]
theorem zMV {L:List zh} {v:Vs} (h:v∈fv L k):∃ f∈L,f.key=k∧f.vs=v:=by
 unfold fv at h;rw [List.mem_reverse,List.mem_map] at h;obtain ⟨f,hf,rfl⟩:=h;rw [List.mem_filter] at hf;exact ⟨f,hf.1,by simpa using hf.2,rfl⟩
theorem zMW (L:List zh) (k:ByteArray):(fv L k).length≤L.length:=by
 unfold fv;rw [List.length_reverse,zRr];exact List.length_filter_le ..
def zh.cost (f:zh):Nat:=26+2*f.key.size+f.value.size
def Yb (L:List zh):Nat:=(L.map zh.cost).sum
theorem zFV (L:List zh) (f:zh):Yb (L++[f])=Yb L+f.cost:=by simp [Yb]
theorem zDA:∀ L:List zh,26*L.length≤Yb L
 | []=>by simp
 | f::L=>by
  have:=zDA L;simp only [Yb,zRm,List.sum_cons,zRF,zh.cost] at this ⊢;omega
structure zBO (L:List zh) (clock:Int):Prop where
 up:L.Pairwise fun a b=>a.stamp<b.stamp
 top:∀ f∈L,0≤f.stamp∧f.stamp≤clock
 key:∀ f∈L,1≤f.key.size∧f.key.size≤64
 val:∀ f∈L,f.value.size≤4096
 gone:∀ f∈L,f.there=false→f.value=⟨#[]⟩
theorem zBO.snoc {L:List zh} (h:zBO L clock) {f:zh} (h1:∀ g∈L,g.stamp<f.stamp) (h0:0≤f.stamp) (h2:1≤f.key.size∧f.key.size≤64) (h3:f.value.size≤4096) (h4:f.there=false→f.value=⟨#[]⟩):zBO (L++[f]) f.stamp:=by
 have hm:∀ x,x∈L++[f]→x∈L∨x=f:=fun x hx=>by simpa using hx
 refine ⟨?_,fun x hx=>?_,fun x hx=>?_,fun x hx=>?_,fun x hx=>?_⟩
 ·rw [zRW];refine ⟨h.up,by simp,fun a ha b hb=>?_⟩;have:b=f:=by simpa using hb
  rw [this];exact h1 a ha
 ·rcases hm x hx with hx|rfl
  ·have:=h.top x hx;have:=h1 x hx;omega
  ·omega
 ·rcases hm x hx with hx|rfl
  ·exact h.key x hx
  ·exact h2
 ·rcases hm x hx with hx|rfl
  ·exact h.val x hx
  ·exact h3
 ·rcases hm x hx with hx|rfl
  ·exact h.gone x hx
  ·exact h4
theorem zBO.falling {L:List zh} (h:zBO L clock) (k:ByteArray):(fv L k).Pairwise fun a b=>b.stamp<a.stamp:=by
 unfold fv;rw [List.pairwise_reverse,List.pairwise_map];exact h.up.sublist List.filter_sublist
def yh (L:List zh) (k:ByteArray) (t:Int):Option zh:=(L.filter fun f=>decide (f.key=k) && decide (f.stamp≤t)).getLast?
theorem zLc {L:List zh} (h:zBO L clock) (k:ByteArray) (t:Int):told (zX (fv L k) t)=match yh L k t with | some f=>(f.value,f.there) | none=>(⟨#[]⟩,false):=by
 have e:zX (fv L k) t=(yh L k t).map zh.vs:=by
  unfold zX fv yh;rw [←zEH,List.filter_map,List.getLast?_map,List.filter_filter];congr 2;apply List.filter_congr;intro f _;simp only [Function.comp,zh.vs];exact Bool.and_comm _ _
 rw [e]
 cases hl:yh L k t with
 | none=>rfl
 | some f =>
  have hm:f∈L:=by
   unfold yh at hl;exact (List.mem_filter.1 (List.mem_of_getLast? hl)).1
  simp only [zRq,zh.vs]
  cases ht:f.there with
  | true=>simp [told]
  | false=>simp [told,h.gone f hm ht]
def Keeps (X:Sto) (C:Con) (L:List zh):Prop:=∀ k,∃ n,X.con C k=(fv L k).take n∧needs X.wm (fv L k)≤n
theorem Keeps.told {X:Sto} {C:Con} {L:List zh} (h:Keeps X C L) {t:Int} (ht:X.wm≤t) (k:ByteArray):told (zX (X.con C k) t)=told (zX (fv L k) t):=by
 obtain ⟨n,h1,h2⟩:=h k;rw [h1,←zCg ht ((fv L k).take n),zBA h2,List.take_take,Nat.min_eq_left h2];exact zCg ht _
theorem Keeps.mem {X:Sto} {C:Con} {L:List zh} (h:Keeps X C L) {v:Vs} (hv:v∈X.con C k):v∈fv L k:=by
 obtain ⟨n,h1,_⟩:=h k;rw [h1] at hv;exact List.mem_of_mem_take hv
theorem Keeps.raise {X:Sto} {C:Con} {L:List zh} (h:Keeps X C L) (hf:zBO L clock) {t:Int} (ht:X.wm≤t):Keeps { X with wm:=t } C L:=fun k=>by
 obtain ⟨n,h1,h2⟩:=h k;exact ⟨n,h1,zRK (zFD ht (hf.falling k)) h2⟩
theorem Keeps.put {X:Sto} {C:Con} {L:List zh} {r:Rec} {f:zh} (h:Keeps X C L) (hc:(X.put r).con C=(X.con C).put r.key (zH6 r::X.con C r.key)) (hk:f.key=r.key) (hv:f.vs=zH6 r) (hs:X.wm<f.stamp):Keeps (X.put r) C (L++[f]):=fun k=>by
 have hw:(X.put r).wm=X.wm:=rfl;obtain ⟨n,h1,h2⟩:=h k;rw [zPb,hc,hw];unfold Con.put;by_cases e:k=r.key
 ·subst e;rw [if_pos rfl,if_pos hk];refine ⟨n+1,by rw [List.take_succ_cons,h1,hv],?_⟩;simp only [needs];rw [if_pos (show X.wm<f.vs.stamp from hs)];omega
 ·rw [if_neg e,if_neg (fun e2=>e (e2.symm.trans hk))];exact ⟨n,h1,h2⟩
theorem Keeps.flush {X:Sto} {C:Con} {L:List zh} (h:Keeps X C L) (hg:X.Good bs C) (nw:List (ByteArray × Int)):Keeps (X.laid nw) (Yu X C List.length X.keys.length) L:=fun k=>by
 obtain ⟨n,h1,h2⟩:=h k;refine ⟨n,?_,h2⟩;rw [Sto.zJj,zG4 hg,zRp];exact h1
theorem Keeps.compact {X:Sto} {C:Con} {L:List zh} (h:Keeps X C L) (hg:X.Good bs C) (nw:List (ByteArray × Int)):Keeps (X.laid nw) (Yu X C (needs X.wm) X.keys.length) L:=fun k=>by
 obtain ⟨n,h1,h2⟩:=h k;refine ⟨needs X.wm (fv L k),?_,zR9 _⟩;rw [Sto.zJj,zG4 hg,h1,zBA h2,List.take_take,Nat.min_eq_left h2]
theorem zJi {R:List Rec} {L:List zh} (hR:R.Pairwise Bef) (h:∀ r∈R,∃ v∈fv L r.key,v.stamp=r.stamp∧r.body.size≤v.size):costs R≤Yb L:=by
 refine zFj zIv zh.cost (fun r f=>f.key=r.key∧f.stamp=r.stamp) R L (hR.imp fun {a b} hab f h1 h2=>?_) (fun r hr=>?_)
 ·rcases hab with hab|hab
  ·exact Yf hab (h1.1.symm.trans h2.1)
  ·have:=h1.2.symm.trans h2.2;omega
 ·obtain ⟨v,hv,h1,h2⟩:=h r hr;obtain ⟨f,hf,hk,rfl⟩:=zMV hv;refine ⟨f,hf,⟨hk,h1⟩,?_⟩;have:f.vs.size≤f.value.size:=by
   unfold Vs.size zh.vs
   cases f.there<;>simp
  unfold zIv zh.cost;rw [hk];omega
theorem zNg {T0:Two} {V:Con} {L:List zh} (hcap:T0.cap=1048576) (ha:len T0.a≤18+Yb L) (hV:∀ k v,v∈V k→v∈fv L k) (hr:36+2*Yb L≤1048576):¬Full T0 V:=by
 rintro ⟨R,h1,h2,h3⟩;have:=zJi (L:=L) h1 (fun r hr=>by
  obtain ⟨v,hv,h4⟩:=h2 r hr;exact ⟨v,hV _ v hv,h4⟩)
 omega
theorem zIm {C:Con} {L:List zh} {wm:Int} (hF:Fil yZ bs C) (hC:∀ k v,v∈C k→v∈fv L k) (hw:wm≤1099511627776) (hr:36+2*Yb L≤1048576):(za bs wm).length≤18+Yb L:=by
 have h1:=zJi (L:=L) hF.ord (fun r hr=>by
  obtain ⟨v,hv,h4⟩:=zGi (hF.holds r.key).tells (Zj.2 ⟨hr,rfl⟩);exact ⟨v,hC _ v hv,h4⟩)
 have:=zIn (wm:=wm) hF.ok hw (by omega);omega
def zPw (T:Two) (bs:List (List Rec)) (fl:Int):Prop:=(T.a=none∧bs=[]∧fl=-1)∨T.a=some (za bs fl,(za bs fl).length)
structure yY (L:List zh) (clock water:Int) (T:Two) (X:Sto) (bs:List (List Rec)) (C:Con):Prop where
 facts:zBO L clock
 wm:X.wm=water
 wc:water≤clock
 top:clock≤1099511627776
 dead:X.dead=false
 good:X.Good bs C
 keeps:Keeps X C L
 cap:T.cap=1048576
 a:zPw T bs X.fl
 b:T.b=none
 alive:T.dead=false
 fuse:T.fuse=0
 room:36+2*Yb L≤1048576
theorem yY.zQv {L:List zh} {water:Int} {T:Two} {X:Sto} {C:Con} (h:yY L clock water T X bs C):∀ k v,v∈C k→v∈fv L k:=fun k v hv=>h.keeps.mem (by unfold Sto.con;exact zS2.2 (Or.inr hv))
theorem yY.zR0 {L:List zh} {water:Int} {T:Two} {X:Sto} {C:Con} (h:yY L clock water T X bs C):len T.a≤18+Yb L:=by
 rcases h.a with ⟨e,_,_⟩|e
 ·rw [e];simp [len]
 ·rw [e];have h1:=h.good.top;have h2:=h.good.fl2;have:=zIm (wm:=X.fl) h.good.fil h.zQv (by omega) h.room;simp [len];omega
theorem yY.few {L:List zh} {water:Int} {T:Two} {X:Sto} {C:Con} (h:yY L clock water T X bs C):L.length≤20164∧bs.flatten.length≤104858:=by
 have h1:=zDA L;have h2:=h.room;refine ⟨by omega,?_⟩;have h3:=zCs h.good.fil.ok;have h4:=h.zR0;rcases h.a with ⟨_,e,_⟩|e
 ·subst e;simp
 ·rw [e] at h4;simp only [len,zRq,zRI] at h4;unfold za at h4;rw [zRA] at h4;omega
theorem yY.on {L:List zh} {water:Int} {T:Two} {X:Sto} {C:Con} (h:yY L clock water T X bs C):zBL False T.dsk bs X.fl:=by
 refine ⟨h.alive,?_⟩;rw [Two.zDL,if_neg (by rw [h.alive];simp)];rcases h.a with ⟨e,e2,e3⟩|e
 ·rw [e];exact Or.inl ⟨rfl,e2,e3⟩
 ·rw [e];have h1:=h.good.top;have h2:=h.good.fl2;have h3:=h.good.fl1;have h4:=zIm (wm:=X.fl) h.good.fil h.zQv (by omega) h.room;have h5:=h.room;exact Or.inr ⟨rfl,zEn.whole False h.good.fil.ok h3 (by omega) (by omega)⟩
theorem yY.pend {L:List zh} {clock water:Int} {T:Two} {X:Sto} {bs:List (List Rec)} {C:Con} (h:yY L clock water T X bs C):X.pend.length<1048000∧∀ kr∈X.pend,kr.2.length<1048000:=by
 have hl:=h.few.1;have hk:∀ kr∈X.pend,∀ r∈kr.2,zH6 r∈fv L kr.1:=fun kr hkr r hr=>h.keeps.mem (by
  unfold Sto.con zAG;rw [(yF h.good.ok.pdUp).2 hkr];exact zS2.2 (Or.inl (List.mem_map.2 ⟨r,List.mem_reverse.2 hr,rfl⟩)))
 constructor
 ·have h1:=zFj (fun _:ByteArray=>1) (fun _:zh=>1) (fun k f=>f.key=k) (X.pend.map (·.1)) L (h.good.ok.pdUp.imp fun {a b} hab y h1 h2=>Yf hab (h1.symm.trans h2)) (fun k hk2=>by
   obtain ⟨kr,hkr,rfl⟩:=List.mem_map.1 hk2;obtain ⟨r,hr⟩:=List.exists_mem_of_ne_nil _ (h.good.ok.each kr hkr).2.1;obtain ⟨f,hf,hfk,_⟩:=zMV (hk kr hkr r hr);exact ⟨f,hf,hfk,zR9 _⟩)
  rw [zCA,zCA,zRr] at h1;omega
 ·intro kr hkr;obtain ⟨n,h1,_⟩:=h.keeps kr.1;have h2:(X.con C kr.1).length≤L.length:=by
   rw [h1,zRv];have:=zMW L kr.1;omega
  have h3:kr.2.length≤(X.con C kr.1).length:=by
   unfold Sto.con zAG;rw [(yF h.good.ok.pdUp).2 hkr];simp
  omega
def zh.rc (f:zh):Rec:=⟨f.key,f.stamp,if f.there=true then 0 else 2,f.value⟩
theorem yY.adding {L:List zh} {clock water:Int} {T:Two} {X:Sto} {bs:List (List Rec)} {C:Con} (h:yY L clock water T X bs C) {f:zh} (h1:∀ g∈L,g.stamp<f.stamp) (hw1:water<f.stamp) (h0:0≤f.stamp) (ht:f.stamp≤1099511627776) (h2:1≤f.key.size∧f.key.size≤64) (h3:f.value.size≤4096) (h4:f.there=false→f.value=⟨#[]⟩):X.adding f.rc=0∧zQ3 f.key f.rc∧zH6 f.rc=f.vs∧∀ kr∈X.pend,kr.1=f.key→∀ x∈kr.2,x.stamp<f.stamp:=by
 have hlat:X.latest f.key<f.stamp:=by
  rw [h.good.latest f.key];have:=h.wm;have:=h.wc
  cases hc:(X.con C f.key).head? with
  | none=>simp only;omega
  | some v =>
   have hv:v∈fv L f.key:=h.keeps.mem (List.mem_of_mem_head? (by rw [hc];rfl));obtain ⟨g,hg,_,rfl⟩:=zMV hv;have:=h1 g hg;simp only [Int.max_def];have e:g.vs.stamp=g.stamp:=rfl;split<;>omega
 have ha:X.adding f.rc=0:=by
  unfold Sto.adding;rw [h.dead,if_neg (by simp),if_neg (by show ¬¬(1≤f.key.size∧f.key.size≤64);simp;exact h2),if_neg (by show ¬4096<f.value.size;omega),if_neg (by show ¬(1099511627776<f.stamp∨f.stamp≤X.latest f.key);omega)]
 have hb:f.there=false→f.value.size=0:=fun e=>by rw [h4 e];rfl
 refine ⟨ha,⟨rfl,?_,?_,h3⟩,?_,zE2 h.good.ok (r:=f.rc) (h.good.zF8 ha)⟩
 ·unfold Rec.fits zh.rc;apply decide_eq_true;refine ⟨h2.1,h2.2,by simp only;omega,h0,ht,?_,?_⟩
  ·simp only;split<;>omega
  ·simp only;split<;>omega
 ·unfold zh.rc
  cases hf:f.there with
  | true=>exact Or.inl rfl
  | false=>exact Or.inr ⟨rfl,hb hf⟩
 ·unfold zH6 zh.vs zh.rc
  cases f.there<;>simp
theorem yY.say {L:List zh} {water:Int} {T:Two} {X:Sto} {C:Con} (h:yY L clock water T X bs C) {f:zh} (h1:∀ g∈L,g.stamp<f.stamp) (hw1:water<f.stamp) (h0:0≤f.stamp) (ht:f.stamp≤1099511627776) (h2:1≤f.key.size∧f.key.size≤64) (h3:f.value.size≤4096) (h4:f.there=false→f.value=⟨#[]⟩) (hr:36+2*Yb (L++[f])≤1048576):yY (L++[f]) f.stamp water T (X.put f.rc) bs C:=by
 obtain ⟨a1,a2,a3,a4⟩:=h.adding h1 hw1 h0 ht h2 h3 h4;obtain ⟨g1,g2⟩:=h.good.put a1 a2 h.pend;have hw:=h.wm;have hwc:=h.wc;exact ⟨h.facts.snoc h1 h0 h2 h3 h4,h.wm,by omega,ht,h.dead,g1,h.keeps.put g2 rfl a3.symm (by rw [hw];omega),h.cap,h.a,h.b,h.alive,h.fuse,hr⟩
theorem yY.raise {L:List zh} {clock water:Int} {T:Two} {X:Sto} {bs:List (List Rec)} {C:Con} (h:yY L clock water T X bs C) {t:Int} (h1:water≤t) (h2:t≤clock):X.raising t=0∧yY L clock t T { X with wm:=t } bs C:=by
 have hw:=h.wm;have ht:=h.top;have ha:X.raising t=0:=by
  unfold Sto.raising;rw [h.dead,if_neg (by simp),if_neg (by omega)]
 exact ⟨ha,h.facts,rfl,h2,h.top,h.dead,h.good.raise ha,h.keeps.raise h.facts (by omega),h.cap,h.a,h.b,h.alive,h.fuse,h.room⟩
theorem yY.laid {L:List zh} {clock water:Int} {T T':Two} {X X':Sto} {bs:List (List Rec)} {C V:Con} (h:yY L clock water T X bs C) (hg:zN0 T X V X' T') (hk:∀ nw,Keeps (X.laid nw) V L):∃ bs',yY L clock water T' X' bs' V∧X'.zZ=false:=by
 obtain ⟨bs',nw,rfl,h1,h2,h3,h4,h5,h6,h7,h8⟩:=hg;refine ⟨bs',⟨h.facts,h.wm,h.wc,h.top,h.dead,h.good.laid h1 h2 (by omega),hk nw,h4.trans h.cap,Or.inr h5,h6,h7,h8 h.fuse,h.room⟩,?_⟩;unfold Sto.zZ Sto.laid;simp
theorem yY.zOg {L:List zh} {water:Int} {T T':Two} {X X':Sto} {C V:Con} {c:Nat} (h:yY L clock water T X bs C) (hV:∀ k v,v∈V k→v∈fv L k):¬zDE T X V False c X' T':=by
 rintro (⟨_,_,hd⟩|⟨_,_,_,hf⟩|⟨hf,_⟩)
 ·exact hd.armed h.fuse
 ·exact zNg h.cap h.zR0 hV h.room hf
 ·exact hf
end Go.Proofs.YtekdenkllipehabGreatDoor.S
namespace Go.Proofs.YtekdenkllipehabGreatDoor
open Go.RowKit
variable {C:S.Con} {P:S.Sto→Prop} {T:S.Two} {W w w' w0:World} {X:S.Sto} {bs:List (List Rec)} {clock clock' water' wc:Int} {d j k m o od r rr s:Nat} {ids ids' ps ps':List Nat} {ok:Bool} {tg tg' tgE:Tags}
def S.zh.cells (f:S.zh):List Value:=[.string f.key,.int .i64 f.stamp,.string f.value,.bool f.there]
def S.zh.val (f:S.zh):Value:=.agg #[.string f.key,.int .i64 f.stamp,.string f.value,.bool f.there]
def yX (L:List S.zh):List Value:=(L.map S.zh.cells).flatten
theorem zEv (L:List S.zh) (f:S.zh):yX (L++[f])=yX L++f.cells:=by simp [yX]
theorem yV:∀ {L:List S.zh} {i:Nat} {f:S.zh} (j:Nat),L[i]?=some f→j<4→(yX L)[i*4+j]?=f.cells[j]?
 | [],i,f,j,h,_=>by simp at h
 | x::L,0,f,j,h,hj=>by
  simp only [zRN,zRD] at h;subst h;have e:yX (x::L)=x.cells++yX L:=by simp [yX]
  rw [e,Nat.zero_mul,zRZ,zRz (by simp [S.zh.cells];omega)]
 | x::L,i+1,f,j,h,hj=>by
  have e:yX (x::L)=x.cells++yX L:=by simp [yX]
  have hl:x.cells.length=4:=rfl;rw [e,zS0 (by rw [hl];omega),hl];have:=yV (L:=L) (i:=i) (f:=f) j (by simpa using h) hj;rw [←this];congr 1;omega
theorem zQR:(Tryz.prog.info? 26).map (fun i=>(i.zero,i.size,i.bytes))=some (some (.agg #[.string ⟨#[]⟩,.int .i64 0,.string ⟨#[]⟩,.bool false]),4,48):=by kernel_rfl
theorem zJd (f:S.zh):∀ u∈f.cells,u.oneCell'=true:=fun u hu=>by
 simp only [S.zh.cells,zS3,List.mem_nil_iff,or_false] at hu;rcases hu with rfl | rfl | rfl | rfl<;>rfl
theorem zCR (w:World) (f:S.zh) (t:TypeId) (n:Nat) (hn:w.heap.size=n):∀ j u,f.cells[j]?=some u→(w.alloc (.cells #[.string f.key,.int .i64 f.stamp,.string f.value,.bool f.there] t)).cell? ((⟨n,0,none⟩:Addr).add j)=some u:=by
 subst hn;intro j u hu
 match j with
 | 0=>simp [S.zh.cells] at hu;subst hu;simp [Addr.add]
 | 1=>simp [S.zh.cells] at hu;subst hu;simp [Addr.add]
 | 2=>simp [S.zh.cells] at hu;subst hu;simp [Addr.add]
 | 3=>simp [S.zh.cells] at hu;subst hu;simp [Addr.add]
 | j+4=>simp [S.zh.cells] at hu
structure ZU (w:World) (tg:Tags) (rr r d s:Nat) (L:List S.zh) (clock water:Int) (ok:Bool):Prop where
 top:r<w.heap.size
 tr:tg r=(rr,0)
 fr:∀ j,w.frozen? ⟨r,j,none⟩=false
 c0:w.cell? ⟨r,0,none⟩=some (.pointer (some ⟨d,0,none⟩))
 c1:w.cell? ⟨r,1,none⟩=some (.pointer (some ⟨s,0,none⟩))
 c2:∃ ao cap,w.cell? ⟨r,2,none⟩=some (.slice ao L.length cap)∧w.ownsRow 0 26 4 (.slice ao L.length cap) L.length (yX L)∧∀ g,(Value.slice ao L.length cap).ownBlock=some g→tg g=(rr,1)
 c3:w.cell? ⟨r,3,none⟩=some (.int .i64 clock)
 c4:w.cell? ⟨r,4,none⟩=some (.int .i64 water)
 c5:w.cell? ⟨r,5,none⟩=some (.bool ok)
theorem ZU.keep {P:Nat→Prop} {L:List S.zh} {water:Int} (h:ZU w tg rr r d s L clock water ok) (k:Kept P tg w tg' w') (hP:¬P rr):ZU w' tg' rr r d s L clock water ok:=by
 have hB:w'.heap[r]?=w.heap[r]?:=k.block r h.top (by rw [h.tr];exact hP);have hc:∀ j,w'.cell? ⟨r,j,none⟩=w.cell? ⟨r,j,none⟩:=fun j=>zS6 (a:=⟨r,j,none⟩) hB;obtain ⟨ao,cap,a1,a2,a3⟩:=h.c2;exact ⟨zR8 h.top k.size,(k.tags r h.top).trans h.tr,fun j=>(zS9 (a:=⟨r,j,none⟩) hB).trans (h.fr j),(hc 0).trans h.c0,(hc 1).trans h.c1,⟨ao,cap,(hc 2).trans a1,zO a2 (fun g hg=>k.block g (a2.lt g hg).2 (by rw [a3 g hg];exact hP)),fun g hg=>(k.tags g (a2.lt g hg).2).trans (a3 g hg)⟩,(hc 3).trans h.c3,(hc 4).trans h.c4,(hc 5).trans h.c5⟩
theorem ZU.kept {L:List S.zh} {water:Int} (h:ZU w tg rr r d s L clock water ok) (q:Q w w'):ZU w' tg rr r d s L clock water ok:=h.keep (P:=fun _=>False) (Kept.yT q (fun _ _=>rfl)) (fun e=>e)
theorem ZU.set {d' s':Nat} {L:List S.zh} {water:Int} {ok':Bool} (h:ZU w tg rr r d s L clock water ok) (j:Nat) (v:Value) (hj:j≠2) (h0:(if j=0 then v else .pointer (some ⟨d,0,none⟩))=.pointer (some ⟨d',0,none⟩)) (h1:(if j=1 then v else .pointer (some ⟨s,0,none⟩))=.pointer (some ⟨s',0,none⟩)) (h3:(if j=3 then v else .int .i64 clock)=.int .i64 clock') (h4:(if j=4 then v else .int .i64 water)=.int .i64 water') (h5:(if j=5 then v else .bool ok)=.bool ok'):ZU (w.setCell ⟨r,j,none⟩ v) tg rr r d' s' L clock' water' ok':=by
 have hne:∀ i,i≠j→(⟨r,j,none⟩:Addr)≠⟨r,i,none⟩:=fun i hij e=>by injection e with _ e2;exact hij e2.symm
 have hc:∀ i u,w.cell? ⟨r,i,none⟩=some u→(w.setCell ⟨r,j,none⟩ v).cell? ⟨r,i,none⟩=some (if j=i then v else u):=fun i u hu=>by
  by_cases e:j=i
  ·subst e;rw [if_pos rfl];exact zS7 _ _ _ hu
  ·rw [if_neg e,zS5 _ _ _ _ (by intro e2;injection e2 with _ e3;exact e (by omega))];exact hu
 obtain ⟨ao,cap,a1,a2,a3⟩:=h.c2;refine ⟨by simp;exact h.top,h.tr,fun i=>by rw [zS8];exact h.fr i,by rw [hc 0 _ h.c0,h0],by rw [hc 1 _ h.c1,h1],⟨ao,cap,?_,zO a2 (fun g hg=>heap_setCell_other _ ⟨r,j,none⟩ g _ (fun e=>by have:=a3 g hg;rw [e,h.tr] at this;simp at this)),a3⟩,by rw [hc 3 _ h.c3,h3],by rw [hc 4 _ h.c4,h4],by rw [hc 5 _ h.c5,h5]⟩;rw [hc 2 _ a1,if_neg hj]
theorem Kept.setAt {R:Nat} (h:(tg R).1=r) (v:Value):Kept (·=r) tg w tg (w.setCell ⟨R,j,none⟩ v):=
 ⟨rfl,rfl,rfl,by simp,fun _ _=>rfl,fun k _ hn=>heap_setCell_other _ ⟨R,j,none⟩ k _ (by intro e;subst e;exact hn h)⟩
structure Run (w:World) (tg:Tags) (m rr o od r s d:Nat) (L:List S.zh) (clock wc water:Int) (T:S.Two) (X:S.Sto) (bs:List (List Rec)) (C:S.Con):Prop where
 run:ZU w tg rr r d s L clock wc true
 rdy:∃ ids ps ids' ps',Rdy w tg o od m s d T X bs C False X.fl ids ps ids' ps'
 ok:S.yY L clock water T X bs C
 ro:rr≠o
 rod:rr≠od
 rG:(tg 1).1≠rr
 rm:rr<m
theorem Run.q {w w':World} {tg:Tags} {m rr o od r s d:Nat} {L:List S.zh} {clock wc water:Int} {T:S.Two} {X:S.Sto} {bs:List (List Rec)} {C:S.Con} (h:Run w tg m rr o od r s d L clock wc water T X bs C) (q:Q w w'):Run w' (junk tg w) m rr o od r s d L clock wc water T X bs C:=by
 obtain ⟨ids,ps,ids',ps',hr⟩:=h.rdy;have hG:=Z8 hr.tab;have ht:∀ k,k<w.heap.size→junk tg w k=tg k:=fun k hk=>Tags.zD hk;exact ⟨h.run.keep (P:=fun _=>False) (Kept.yT q ht) (fun e=>e),⟨ids,ps,ids',ps',hr.q q⟩,h.ok,h.ro,h.rod,by rw [ht _ hG];exact h.rG,h.rm⟩
def zOn (n:Nat) (tg tgE:Tags) (o od rr j:Nat):Tags:=fun k=>if k<n then tg k else if (tgE k).1=o∨(tgE k).1=od∨(tgE k).1=rr then tgE k else (j,0)
theorem zO7 {n:Nat} (h:k<n):zOn n tg tgE o od rr j k=tg k:=by simp [zOn,h]
theorem zO8 (hl:Low m tg w) (ho:o<m) (hod:od<m) (hrr:rr<m) (hj:j<m):Low m (zOn w.heap.size tg tgE o od rr j) w':=fun k _=>by
 unfold zOn;split
 ·rename_i h;exact hl k h
 split
 ·rename_i h;rcases h with h | h | h<;>rw [h]<;>assumption
 ·exact hj
theorem zES (ht:∀ k,k<w.heap.size→tgE k=tg k) (h:(tgE k).1=o∨(tgE k).1=od∨(tgE k).1=rr):zOn w.heap.size tg tgE o od rr j k=tgE k:=by
 unfold zOn;by_cases hk:k<w.heap.size
 ·rw [if_pos hk];exact (ht k hk).symm
 ·rw [if_neg hk,if_pos h]
theorem ZU.retag {L:List S.zh} {water:Int} (h:ZU w tg rr r d s L clock water ok) (ht:∀ k,k<w.heap.size→(tg k).1=rr→tg' k=tg k):ZU w tg' rr r d s L clock water ok:=by
 obtain ⟨ao,cap,a1,a2,a3⟩:=h.c2;exact ⟨h.top,(ht r h.top (by rw [h.tr])).trans h.tr,h.fr,h.c0,h.c1,⟨ao,cap,a1,a2,fun g hg=>(ht g (a2.lt g hg).2 (by rw [a3 g hg])).trans (a3 g hg)⟩,h.c3,h.c4,h.c5⟩
theorem Run.fin {P:Nat→Prop} {L:List S.zh} {water:Int} (hl:Low m tg w) (hT:Tab w) (hG:(tg 1).1≠o∧(tg 1).1≠od∧(tg 1).1≠rr) (hm:o<m∧od<m∧rr<m) (hne:o≠od∧rr≠o∧rr≠od)
  (hK:Kept P tg w tgE w') (hP:∀ x,P x→x=o∨x=od∨x=rr) (hR:ZU w' tgE rr r d s L clock wc true) (hS:zL w' tgE o s d X ids ps) (hD:zC w' tgE od d T.dsk ids' ps') (hF:T.dsk.yI) (hO:S.yY L clock water T X bs C) :
  ∃ tg',Run w' tg' m rr o od r s d L clock wc water T X bs C∧Kept P tg w tg' w':=by
 have hGl:=Z8 hT;have hold:∀ k,k<w.heap.size→zOn w.heap.size tg tgE o od rr (tg 1).1 k=tg k:=fun k hk=>zO7 hk;have hGP:¬P (tg 1).1:=fun e=>by rcases hP _ e with e | e | e<;>simp_all
 have hfew:=hO.few;refine ⟨zOn w.heap.size tg tgE o od rr (tg 1).1,⟨hR.retag (fun k _ e=>zES hK.tags (Or.inr (Or.inr e))),⟨ids,ps,ids',ps',⟨hS.retag (fun k _ e=>zES hK.tags (Or.inl e)),hD.retag (fun k _ e=>zES hK.tags (Or.inr (Or.inl e))),hF,hO.on,hO.good,yg hT (hK.block _ hGl hGP),by rw [hold _ hGl];exact ⟨hG.1,hG.2.1⟩,hne.1,hO.b,hO.alive,zO8 hl hm.1 hm.2.1 hm.2.2 (hl _ hGl),hm.1,hm.2.1,by omega⟩⟩,hO,hne.2.1,hne.2.2,by rw [hold _ hGl];exact hG.2.2,hm.2.2⟩,⟨hK.os,hK.tape,hK.output,hK.size,fun k hk=>hold k hk,hK.block⟩⟩
theorem ZU.cells {L:List S.zh} {water:Int} (h:ZU w tg rr r d s L clock water ok) (q:Q w W) {v:Value} (hv:∀ g,v.ownBlock=some g→tg g=(rr,1)) (hg:W.grownBy w' v.ownBlock):∀ j,w'.cell? ⟨r,j,none⟩=w.cell? ⟨r,j,none⟩∧w'.frozen? ⟨r,j,none⟩=false:=fun j=>by
 have hB:w'.heap[r]?=w.heap[r]?:=by
  rw [hg.block r (zR8 h.top q.below.size) (fun e=>by have:=hv r e.symm;rw [h.tr] at this;simp at this)];exact q.below.block r h.top
 exact ⟨zS6 (a:=⟨r,j,none⟩) hB,(zS9 (a:=⟨r,j,none⟩) hB).trans (h.fr j)⟩
theorem ZU.pushed {L:List S.zh} {water:Int} (h:ZU w tg rr r d s L clock water ok) (q:Q w W) {ao ao':Option Addr} {cap cap':Nat} {f:S.zh} (ha:w.ownsRow 0 26 4 (.slice ao L.length cap) L.length (yX L)) (hv:∀ g,(Value.slice ao L.length cap).ownBlock=some g→tg g=(rr,1)) (hg:W.grownBy w' (Value.slice ao L.length cap).ownBlock)
  (ho:w'.ownsRow 0 26 4 (.slice ao' (L.length+1) cap') (L.length+1) (yX L++f.cells)) (hw:(Value.slice ao' (L.length+1) cap').ownBlock=(Value.slice ao L.length cap).ownBlock∨(Value.slice ao' (L.length+1) cap').ownBlock=some W.heap.size) :
  ∃ tg',(∀ k,k<w.heap.size→tg' k=tg k)∧ZU ((w'.setCell ⟨r,2,none⟩ (.slice ao' (L.length+1) cap')).setCell ⟨r,3,none⟩ (.int .i64 f.stamp)) tg' rr r d s (L++[f]) f.stamp water ok∧Only rr tg w ((w'.setCell ⟨r,2,none⟩ (.slice ao' (L.length+1) cap')).setCell ⟨r,3,none⟩ (.int .i64 f.stamp)):=by
 have hc:=h.cells q hv hg;have hsW:=q.below.size;have hsg:=hg.size;have htop:=h.top;have hrowB:∀ g,(Value.slice ao' (L.length+1) cap').ownBlock=some g→g≠r:=fun g hgb e=>by
  rcases hw with e2|e2
  ·rw [e2] at hgb;have:=hv g hgb;rw [e,h.tr] at this;simp at this
  ·rw [e2] at hgb;injection hgb with hgb;omega
 have hset:∀ k,k≠r→((w'.setCell ⟨r,2,none⟩ (.slice ao' (L.length+1) cap')).setCell ⟨r,3,none⟩ (.int .i64 f.stamp)).heap[k]?=w'.heap[k]?:=fun k hn=>by
  rw [heap_setCell_other _ ⟨r,3,none⟩ k _ (by simpa using hn),heap_setCell_other _ ⟨r,2,none⟩ k _ (by simpa using hn)]
 have hne:∀ i j,i≠j→(⟨r,i,none⟩:Addr)≠⟨r,j,none⟩:=fun i j hij e=>by injection e with _ e2;exact hij e2
 have hcj:∀ j,j≠2→j≠3→((w'.setCell ⟨r,2,none⟩ (.slice ao' (L.length+1) cap')).setCell ⟨r,3,none⟩ (.int .i64 f.stamp)).cell? ⟨r,j,none⟩=w.cell? ⟨r,j,none⟩:=fun j h1 h2=>by
  rw [zS5 _ _ _ _ (hne _ _ (by omega)),zS5 _ _ _ _ (hne _ _ (by omega))];exact (hc j).1
 have hlen:(L++[f]).length=L.length+1:=by simp
 refine ⟨tg.more w.heap.size rr 1,fun k hk=>Tags.zD hk,⟨?_,?_,?_,?_,?_,⟨ao',cap',?_,?_,?_⟩,?_,?_,?_⟩,?_⟩
 ·simp;omega
 ·rw [Tags.zD htop];exact h.tr
 ·intro j;rw [zS8,zS8];exact (hc j).2
 ·rw [hcj 0 (by omega) (by omega)];exact h.c0
 ·rw [hcj 1 (by omega) (by omega)];exact h.c1
 ·obtain ⟨ao0,cap0,x1,_,_⟩:=h.c2;rw [hlen,zS5 _ _ _ _ (hne _ _ (by omega))];exact zS7 _ _ _ ((hc 2).1.trans x1)
 ·rw [hlen,zEv];exact zO ho (fun g hgb=>hset g (hrowB g hgb))
 ·intro g hgb;rw [hlen] at hgb;rcases hw with e2|e2
  ·rw [e2] at hgb;rw [Tags.zD (ha.lt g hgb).2];exact hv g hgb
  ·rw [e2] at hgb;injection hgb with hgb;exact Tags.zV (by omega)
 ·exact zS7 _ _ _ ((zS5 _ _ _ _ (hne _ _ (by omega))).trans ((hc 3).1.trans h.c3))
 ·rw [hcj 4 (by omega) (by omega)];exact h.c4
 ·rw [hcj 5 (by omega) (by omega)];exact h.c5
 ·refine ⟨hg.os.trans q.below.os,hg.tape.trans q.below.tape,hg.output.trans q.below.output,by simp;omega,fun k hk hn=>?_⟩;rw [hset k (fun e=>hn (by rw [e,h.tr])),hg.block k (by omega) (fun e=>hn (by rw [hv k e.symm]))];exact q.below.block k hk
def Said (tg:Tags) (m rr o od r s d:Nat) (L:List S.zh) (f:S.zh) (wc water:Int) (T:S.Two) (bs:List (List Rec)) (C:S.Con) (w w':World):Prop:=
 ∃ tg' X',Run w' tg' m rr o od r s d (L++[f]) f.stamp wc water T X' bs C∧Kept (fun x=>x=rr∨x=o) tg w tg' w'
theorem zLp {L:List S.zh} {water:Int} (h:Run w tg m rr o od r s d L clock wc water T X bs C) (key:ByteArray) (stamp:Int) (value:ByteArray) (h1:∀ g∈L,g.stamp<stamp) (hw1:water<stamp) (h0:0≤stamp) (ht:stamp≤1099511627776) (h2:1≤key.size∧key.size≤64) (h3:value.size≤4096) (hr:36+2*S.Yb (L++[⟨key,stamp,value,true⟩])≤1048576) :
  Calls Tryz.prog 9 #[.pointer (some ⟨r,0,none⟩),.agg #[.string key,.int .i64 stamp,.string value,.bool true]] w fun e w'=>e=.returned (.tuple #[])∧Said tg m rr o od r s d L ⟨key,stamp,value,true⟩ wc water T bs C w w':=by
 obtain ⟨i0,hi,hz0,hz1,hz2⟩:=info_parts zQR;have q0:Q w (w.alloc (.cells #[.string key,.int .i64 stamp,.string value,.bool true] 26)):=(Q.refl w).alloc _ _;have hB:=h.q q0;have hvb:=zK w [.string key,.int .i64 stamp,.string value,.bool true] 26;obtain ⟨a1,a2,a3,a4⟩:=h.ok.adding (f:=⟨key,stamp,value,true⟩) h1 hw1 h0 ht h2 h3 (fun e=>by cases e);have hokN:=h.ok.say (f:=⟨key,stamp,value,true⟩) h1 hw1 h0 ht h2 h3 (fun e=>by cases e) hr;have hLf:L.length≤20164:=h.ok.few.1;obtain ⟨ids,ps,ids',ps',hrd⟩:=hB.rdy;obtain ⟨wB,hwB⟩:∃ wB,wB=w.alloc (.cells #[.string key,.int .i64 stamp,.string value,.bool true] 26):=⟨_,rfl⟩;rw [←hwB] at hB hvb hrd q0;have tB:junk tg w w.heap.size=((tg 1).1,0):=Tags.zV (zR9 _);obtain ⟨tgB,htgB⟩:∃ tgB,tgB=junk tg w:=⟨_,rfl⟩;rw [←htgB] at hB hrd tB;have htB0:∀ k,k<w.heap.size→tgB k=tg k:=fun k hk=>by rw [htgB];exact Tags.zD hk
 obtain ⟨_,_,_,_,hrw⟩:=h.rdy;have HH:Hid (Run w tg m rr o od r s d L clock wc water T X bs C):=h;have HB:Hid (Run wB tgB m rr o od r s d L clock wc water T X bs C):=hB;have HN:Hid (S.yY (L++[⟨key,stamp,value,true⟩]) stamp water T (X.put ⟨key,stamp,0,value⟩) bs C):=hokN;have r1:=hB.run.c1;have HV:Hid (ZK wB w.heap.size [.string key,.int .i64 stamp,.string value,.bool true]):=hvb;have b0:=hvb.cell 0 rfl;have b1:=hvb.cell 1 rfl;have b2:=hvb.cell 2 rfl;have b3:=hvb.cell 3 rfl;have HRD:Hid (Rdy wB tgB o od m s d T X bs C False X.fl ids ps ids' ps'):=hrd;have hJo:(tg 1).1≠o:=hrw.tabo.1;have hJr:(tg 1).1≠rr:=h.rG;have hro:=h.ro;have htop:=h.run.top;have HTB:Hid (tgB w.heap.size=((tg 1).1,0)∧(∀ k,k<w.heap.size→tgB k=tg k)∧Q w wB):=⟨tB,htB0,q0⟩;have PU:=fun (W:World) (q:Q wB W)=>zPG (hrd.sto.kept q) hrd.good.ok key stamp value HH.out.ok.pend (fun _=>a4);unfold Added at PU;have a1':X.adding ⟨key,stamp,0,value⟩=0:=a1;rw [a1'] at PU;have PUH:Hid _:=PU;clear PU hB hvb hrd hrw tB htgB htB0 a1 a1' a2 a3 a4 hokN h h1 hw1 h0 ht h2 h3 hr;go_enter Tryz.func9,Tryz.ntmps9;go_wp2_with fail;rw [←hwB];clear hwB
 go_region_held3 (fun w'=>w'.cell? ⟨r,1,none⟩=some (.pointer (some ⟨s,0,none⟩))∧w'.cell? ⟨w.heap.size,0,none⟩=some (.string key)∧w'.cell? ⟨w.heap.size,1,none⟩=some (.int .i64 stamp)∧w'.cell? ⟨w.heap.size,2,none⟩=some (.string value))
  (first | exact ⟨r1,b0,b1,b2⟩ | exact hS4)
  (first | (go_at_call 11;refine (PUH.out _ ((Q.refl wB).drew)).mono ?_;rintro e w4 ⟨rfl,tg4,ids4,ps4,ht4,hSt4,ho4⟩;have qd:Q wB wB.drew:=(Q.refl wB).drew;have hbr:w4.heap[r]?=wB.heap[r]?:=(ho4.block r (zR8 HB.out.run.top qd.below.size) (by rw [HB.out.run.tr];exact hro)).trans (qd.below.block r HB.out.run.top);have hbb:w4.heap[w.heap.size]?=wB.heap[w.heap.size]?:=(ho4.block w.heap.size (zR8 HV.out.1 qd.below.size) (by rw [HTB.out.1];exact hJo)).trans (qd.below.block w.heap.size HV.out.1);have hS4:w4.cell? ⟨r,1,none⟩=some (.pointer (some ⟨s,0,none⟩))∧w4.cell? ⟨w.heap.size,0,none⟩=some (.string key)∧w4.cell? ⟨w.heap.size,1,none⟩=some (.int .i64 stamp)∧w4.cell? ⟨w.heap.size,2,none⟩=some (.string value):=⟨(zS6 (a:=⟨r,1,none⟩) hbr).trans r1,(zS6 (a:=⟨w.heap.size,0,none⟩) hbb).trans b0,(zS6 (a:=⟨w.heap.size,1,none⟩) hbb).trans b1,(zS6 (a:=⟨w.heap.size,2,none⟩) hbb).trans b2⟩))
 all_goals
  have hK4:Kept (·=o) tgB wB tg4 w4:=(Kept.yT ((Q.refl wB).drew) (fun _ _=>rfl)).trans (Kept.yA ho4 ht4 rfl);have hR4:=HB.out.run.keep hK4 hro;have hD4:=HRD.out.disk.keep hK4.size hK4.tags (fun k hk e=>hK4.block k hk (by rw [e];exact fun e=>HRD.out.ne e.symm));have hV4:=HV.out.of_block hbb hK4.size;have hSt:zL w4 tg4 o s d (X.put ⟨key,stamp,0,value⟩) ids4 ps4:=by simpa using hSt4
  have t4:tg4 w.heap.size=((tg 1).1,0):=(hK4.tags _ HV.out.1).trans HTB.out.1;have hKw:Kept (fun x=>x=rr∨x=o) tg w tg4 w4:=(Kept.yT HTB.out.2.2 HTB.out.2.1).trans (hK4.wider (fun x e=>Or.inr e));have c5:=hR4.c5;have f5:=hR4.fr 5;have HW4:Hid (ZU w4 tg4 rr r d s L clock wc true∧zC w4 tg4 od d T.dsk ids' ps'∧ZK w4 w.heap.size [.string key,.int .i64 stamp,.string value,.bool true]∧zL w4 tg4 o s d (X.put ⟨key,stamp,0,value⟩) ids4 ps4∧tg4 w.heap.size=((tg 1).1,0)∧Kept (fun x=>x=rr∨x=o) tg w tg4 w4):=⟨hR4,hD4,hV4,hSt,t4,hKw⟩;clear hK4 hR4 hD4 hV4 hSt t4 hKw hSt4 ht4 ho4 hS4 hbr hbb r1 b0 b1 b2 b3 PUH qd;go_upto_region 6 with fail
  obtain ⟨hR4,hD4,hV4,hSt,t4,hKw⟩:=HW4.out;obtain ⟨w5,hw5⟩:∃ w5,w5=w4.setCell ⟨r,5,none⟩ (.bool true):=⟨_,rfl⟩;have hset:Kept (·=rr) tg4 w4 tg4 w5:=by rw [hw5];exact Kept.setAt (by rw [hR4.tr]) (.bool true)
  have hR5:ZU w5 tg4 rr r d s L clock wc true:=by rw [hw5];exact hR4.set 5 (.bool true) (by omega) rfl rfl rfl rfl rfl
  have hV5:=hV4.of_block (hset.block _ hV4.1 (by rw [t4];exact hJr)) hset.size;obtain ⟨ao,cap,x1,x2,x3⟩:=hR5.c2;have hr5:r<w5.heap.size:=hR5.top;have hb5:w.heap.size<w5.heap.size:=hV5.1;have y0:=hV5.cell 0 rfl;have y1:=hV5.cell 1 rfl;have y2:=hV5.cell 2 rfl;have y3:=hV5.cell 3 rfl;have HW5:Hid (Kept (·=rr) tg4 w4 tg4 w5∧ZU w5 tg4 rr r d s L clock wc true∧ZK w5 w.heap.size [.string key,.int .i64 stamp,.string value,.bool true]):=⟨hset,hR5,hV5⟩;rw [←hw5];clear hw5 hset hR5 hV5 hR4 hD4 hV4 hSt t4 hKw c5 f5
  go_region_law (refine ZA rfl (.tmp 42) (.tmp 44) 31 rfl 0 26 i0 (.agg #[.string ⟨#[]⟩,.int .i64 0,.string ⟨#[]⟩,.bool false]) 4 48 Tryz.underlying31 hi hz0 hz1 hz2 rfl (by decide) (.slice ao L.length cap) L.length (yX L) (by simp [Act.eval]) (by exact (x2.drew).alloc _) ⟨w5.heap.size,0,none⟩ 1 1 (S.zh.cells ⟨key,stamp,value,true⟩) (by simp [Act.eval]) rfl (by exact zCR _ ⟨key,stamp,value,true⟩ _ _ (by simp)) (zJd _) (by decide) (by unfold maxLen;omega) (by omega) (by simp) ?_;intro v' w' hown' hgrow hwh;obtain ⟨ao3,cap3,hv3⟩:=zI hown';subst hv3;have qq:Q w5 (w5.drew.alloc (.cells #[.string key,.int .i64 stamp,.string value,.bool true] 26)):=((Q.refl w5).drew).alloc _ _;have kc:=HW5.out.2.1.cells qq x3 hgrow;have kc2:=(kc 2).1.trans x1;have kf2:=(kc 2).2;have kc3:=(kc 3).1.trans HW5.out.2.1.c3;have kf3:=(kc 3).2)
  all_goals
   have hrow:(Value.slice ao L.length cap).ownBlock≠some w.heap.size:=fun e=>by
    have h1:=x3 _ e;have h2:=HW4.out.2.2.2.2.1;rw [h2] at h1;injection h1 with h1;exact hJr h1
   have hbx:w'.heap[w.heap.size]?=w5.heap[w.heap.size]?:=by
    rw [hgrow.block w.heap.size (zR8 HW5.out.2.2.1 qq.below.size) (fun e=>hrow e.symm)];exact qq.below.block w.heap.size HW5.out.2.2.1
   have z1:(w'.setCell ⟨r,2,none⟩ (.slice ao3 (L.length+1) cap3)).cell? ⟨w.heap.size,1,none⟩=some (.int .i64 stamp):=(zS5 _ _ _ _ (by intro e;injection e with e1;omega)).trans ((zS6 (a:=⟨w.heap.size,1,none⟩) hbx).trans y1);have z3:(w'.setCell ⟨r,2,none⟩ (.slice ao3 (L.length+1) cap3)).cell? ⟨r,3,none⟩=some (.int .i64 clock):=(zS5 _ _ _ _ (by intro e;injection e with _ e2;omega)).trans kc3;have g3:(w'.setCell ⟨r,2,none⟩ (.slice ao3 (L.length+1) cap3)).frozen? ⟨r,3,none⟩=false:=by rw [zS8];exact kf3
   have HP:Hid _:=HW5.out.2.1.pushed (f:=⟨key,stamp,value,true⟩) qq x2 x3 hgrow hown' hwh;clear hown' hgrow hwh qq kc kc3 kf3 hrow hbx y0 y1 y2 y3 x1 x2 x3;go_wp2_with fail;go_end0;refine ⟨rfl,?_⟩;obtain ⟨tg6,ht6,hR6,ho6⟩:=HP.out;obtain ⟨hR4,hD4,hV4,hSt,t4,hKw⟩:=HW4.out;obtain ⟨hset,hR5,hV5⟩:=HW5.out;obtain ⟨_,_,_,_,hrw⟩:=HH.out.rdy;have hK5:Kept (·=rr) tg4 w4 tg6 ((w'.setCell ⟨r,2,none⟩ (.slice ao3 (L.length+1) cap3)).setCell ⟨r,3,none⟩ (.int .i64 stamp)):=hset.trans (Kept.yA ho6 ht6 rfl);have hK6:=hK5;obtain ⟨tg7,hrun,hk7⟩:=Run.fin (P:=fun x=>x=rr∨x=o) hrw.low hrw.tab ⟨hrw.tabo.1,hrw.tabo.2,HH.out.rG⟩ ⟨hrw.om,hrw.odm,HH.out.rm⟩ ⟨hrw.ne,HH.out.ro,HH.out.rod⟩ (hKw.trans (hK6.wider (fun x e=>Or.inl e))) (fun x e=>by rcases e with e | e<;>simp [e]) hR6 (hSt.keep hK6.size hK6.tags (fun k hk e=>hK6.block k hk (by rw [e];exact fun e=>hro e.symm))) (hD4.keep hK6.size hK6.tags (fun k hk e=>hK6.block k hk (by rw [e];exact fun e=>HH.out.rod e.symm))) HRD.out.fine HN.out;exact ⟨tg7,_,hrun,hk7⟩
theorem zP6 {L:List S.zh} {water:Int} (h:Run w tg m rr o od r s d L clock wc water T X bs C) (key:ByteArray) (stamp:Int) (h1:∀ g∈L,g.stamp<stamp) (hw1:water<stamp) (h0:0≤stamp) (ht:stamp≤1099511627776) (h2:1≤key.size∧key.size≤64) (hr:36+2*S.Yb (L++[⟨key,stamp,⟨#[]⟩,false⟩])≤1048576) :
  Calls Tryz.prog 9 #[.pointer (some ⟨r,0,none⟩),.agg #[.string key,.int .i64 stamp,.string ⟨#[]⟩,.bool false]] w fun e w'=>e=.returned (.tuple #[])∧Said tg m rr o od r s d L ⟨key,stamp,⟨#[]⟩,false⟩ wc water T bs C w w':=by
 obtain ⟨i0,hi,hz0,hz1,hz2⟩:=info_parts zQR;have q0:Q w (w.alloc (.cells #[.string key,.int .i64 stamp,.string ⟨#[]⟩,.bool false] 26)):=(Q.refl w).alloc _ _;have hB:=h.q q0;have hvb:=zK w [.string key,.int .i64 stamp,.string ⟨#[]⟩,.bool false] 26;obtain ⟨a1,a2,a3,a4⟩:=h.ok.adding (f:=⟨key,stamp,⟨#[]⟩,false⟩) h1 hw1 h0 ht h2 (zRH _) (fun _=>rfl);have hokN:=h.ok.say (f:=⟨key,stamp,⟨#[]⟩,false⟩) h1 hw1 h0 ht h2 (zRH _) (fun _=>rfl) hr;have hLf:L.length≤20164:=h.ok.few.1;obtain ⟨ids,ps,ids',ps',hrd⟩:=hB.rdy;obtain ⟨wB,hwB⟩:∃ wB,wB=w.alloc (.cells #[.string key,.int .i64 stamp,.string ⟨#[]⟩,.bool false] 26):=⟨_,rfl⟩;rw [←hwB] at hB hvb hrd q0;have tB:junk tg w w.heap.size=((tg 1).1,0):=Tags.zV (zR9 _);obtain ⟨tgB,htgB⟩:∃ tgB,tgB=junk tg w:=⟨_,rfl⟩;rw [←htgB] at hB hrd tB;have htB0:∀ k,k<w.heap.size→tgB k=tg k:=fun k hk=>by rw [htgB];exact Tags.zD hk
 obtain ⟨_,_,_,_,hrw⟩:=h.rdy;have HH:Hid (Run w tg m rr o od r s d L clock wc water T X bs C):=h;have HB:Hid (Run wB tgB m rr o od r s d L clock wc water T X bs C):=hB;have HN:Hid (S.yY (L++[⟨key,stamp,⟨#[]⟩,false⟩]) stamp water T (X.put ⟨key,stamp,2,⟨#[]⟩⟩) bs C):=hokN;have r1:=hB.run.c1;have HV:Hid (ZK wB w.heap.size [.string key,.int .i64 stamp,.string ⟨#[]⟩,.bool false]):=hvb;have b0:=hvb.cell 0 rfl;have b1:=hvb.cell 1 rfl;have b2:=hvb.cell 2 rfl;have b3:=hvb.cell 3 rfl;have HRD:Hid (Rdy wB tgB o od m s d T X bs C False X.fl ids ps ids' ps'):=hrd;have hJo:(tg 1).1≠o:=hrw.tabo.1;have hJr:(tg 1).1≠rr:=h.rG;have hro:=h.ro;have htop:=h.run.top;have HTB:Hid (tgB w.heap.size=((tg 1).1,0)∧(∀ k,k<w.heap.size→tgB k=tg k)∧Q w wB):=⟨tB,htB0,q0⟩;have PU:=fun (W:World) (q:Q wB W)=>zL6 (hrd.sto.kept q) hrd.good.ok key stamp HH.out.ok.pend (fun _=>a4);unfold Added at PU;have a1':X.adding ⟨key,stamp,2,⟨#[]⟩⟩=0:=a1;rw [a1'] at PU;have PUH:Hid _:=PU;clear PU hB hvb hrd hrw tB htgB htB0 a1 a1' a2 a3 a4 hokN h h1 hw1 h0 ht h2 hr;go_enter Tryz.func9,Tryz.ntmps9;go_wp2_with fail;rw [←hwB];clear hwB
 go_region_held3 (fun w'=>w'.cell? ⟨r,1,none⟩=some (.pointer (some ⟨s,0,none⟩))∧w'.cell? ⟨w.heap.size,0,none⟩=some (.string key)∧w'.cell? ⟨w.heap.size,1,none⟩=some (.int .i64 stamp)∧w'.cell? ⟨w.heap.size,2,none⟩=some (.string ⟨#[]⟩))
  (first | exact ⟨r1,b0,b1,b2⟩ | exact hS4)
  (first | (go_at_call 28;refine (PUH.out _ ((Q.refl wB).drew)).mono ?_;rintro e w4 ⟨rfl,tg4,ids4,ps4,ht4,hSt4,ho4⟩;have qd:Q wB wB.drew:=(Q.refl wB).drew;have hbr:w4.heap[r]?=wB.heap[r]?:=(ho4.block r (zR8 HB.out.run.top qd.below.size) (by rw [HB.out.run.tr];exact hro)).trans (qd.below.block r HB.out.run.top);have hbb:w4.heap[w.heap.size]?=wB.heap[w.heap.size]?:=(ho4.block w.heap.size (zR8 HV.out.1 qd.below.size) (by rw [HTB.out.1];exact hJo)).trans (qd.below.block w.heap.size HV.out.1);have hS4:w4.cell? ⟨r,1,none⟩=some (.pointer (some ⟨s,0,none⟩))∧w4.cell? ⟨w.heap.size,0,none⟩=some (.string key)∧w4.cell? ⟨w.heap.size,1,none⟩=some (.int .i64 stamp)∧w4.cell? ⟨w.heap.size,2,none⟩=some (.string ⟨#[]⟩):=⟨(zS6 (a:=⟨r,1,none⟩) hbr).trans r1,(zS6 (a:=⟨w.heap.size,0,none⟩) hbb).trans b0,(zS6 (a:=⟨w.heap.size,1,none⟩) hbb).trans b1,(zS6 (a:=⟨w.heap.size,2,none⟩) hbb).trans b2⟩))
 all_goals
  have hK4:Kept (·=o) tgB wB tg4 w4:=(Kept.yT ((Q.refl wB).drew) (fun _ _=>rfl)).trans (Kept.yA ho4 ht4 rfl);have hR4:=HB.out.run.keep hK4 hro;have hD4:=HRD.out.disk.keep hK4.size hK4.tags (fun k hk e=>hK4.block k hk (by rw [e];exact fun e=>HRD.out.ne e.symm));have hV4:=HV.out.of_block hbb hK4.size;have hSt:zL w4 tg4 o s d (X.put ⟨key,stamp,2,⟨#[]⟩⟩) ids4 ps4:=by simpa using hSt4
  have t4:tg4 w.heap.size=((tg 1).1,0):=(hK4.tags _ HV.out.1).trans HTB.out.1;have hKw:Kept (fun x=>x=rr∨x=o) tg w tg4 w4:=(Kept.yT HTB.out.2.2 HTB.out.2.1).trans (hK4.wider (fun x e=>Or.inr e));have c5:=hR4.c5;have f5:=hR4.fr 5;have HW4:Hid (ZU w4 tg4 rr r d s L clock wc true∧zC w4 tg4 od d T.dsk ids' ps'∧ZK w4 w.heap.size [.string key,.int .i64 stamp,.string ⟨#[]⟩,.bool false]∧zL w4 tg4 o s d (X.put ⟨key,stamp,2,⟨#[]⟩⟩) ids4 ps4∧tg4 w.heap.size=((tg 1).1,0)∧Kept (fun x=>x=rr∨x=o) tg w tg4 w4):=⟨hR4,hD4,hV4,hSt,t4,hKw⟩;clear hK4 hR4 hD4 hV4 hSt t4 hKw hSt4 ht4 ho4 hS4 hbr hbb r1 b0 b1 b2 b3 PUH qd;go_upto_region 6 with fail
  obtain ⟨hR4,hD4,hV4,hSt,t4,hKw⟩:=HW4.out;obtain ⟨w5,hw5⟩:∃ w5,w5=w4.setCell ⟨r,5,none⟩ (.bool true):=⟨_,rfl⟩;have hset:Kept (·=rr) tg4 w4 tg4 w5:=by rw [hw5];exact Kept.setAt (by rw [hR4.tr]) (.bool true)
  have hR5:ZU w5 tg4 rr r d s L clock wc true:=by rw [hw5];exact hR4.set 5 (.bool true) (by omega) rfl rfl rfl rfl rfl
  have hV5:=hV4.of_block (hset.block _ hV4.1 (by rw [t4];exact hJr)) hset.size;obtain ⟨ao,cap,x1,x2,x3⟩:=hR5.c2;have hr5:r<w5.heap.size:=hR5.top;have hb5:w.heap.size<w5.heap.size:=hV5.1;have y0:=hV5.cell 0 rfl;have y1:=hV5.cell 1 rfl;have y2:=hV5.cell 2 rfl;have y3:=hV5.cell 3 rfl;have HW5:Hid (Kept (·=rr) tg4 w4 tg4 w5∧ZU w5 tg4 rr r d s L clock wc true∧ZK w5 w.heap.size [.string key,.int .i64 stamp,.string ⟨#[]⟩,.bool false]):=⟨hset,hR5,hV5⟩;rw [←hw5];clear hw5 hset hR5 hV5 hR4 hD4 hV4 hSt t4 hKw c5 f5
  go_region_law (refine ZA rfl (.tmp 42) (.tmp 44) 31 rfl 0 26 i0 (.agg #[.string ⟨#[]⟩,.int .i64 0,.string ⟨#[]⟩,.bool false]) 4 48 Tryz.underlying31 hi hz0 hz1 hz2 rfl (by decide) (.slice ao L.length cap) L.length (yX L) (by simp [Act.eval]) (by exact (x2.drew).alloc _) ⟨w5.heap.size,0,none⟩ 1 1 (S.zh.cells ⟨key,stamp,⟨#[]⟩,false⟩) (by simp [Act.eval]) rfl (by exact zCR _ ⟨key,stamp,⟨#[]⟩,false⟩ _ _ (by simp)) (zJd _) (by decide) (by unfold maxLen;omega) (by omega) (by simp) ?_;intro v' w' hown' hgrow hwh;obtain ⟨ao3,cap3,hv3⟩:=zI hown';subst hv3;have qq:Q w5 (w5.drew.alloc (.cells #[.string key,.int .i64 stamp,.string ⟨#[]⟩,.bool false] 26)):=((Q.refl w5).drew).alloc _ _;have kc:=HW5.out.2.1.cells qq x3 hgrow;have kc2:=(kc 2).1.trans x1;have kf2:=(kc 2).2;have kc3:=(kc 3).1.trans HW5.out.2.1.c3;have kf3:=(kc 3).2)
  all_goals
   have hrow:(Value.slice ao L.length cap).ownBlock≠some w.heap.size:=fun e=>by
    have h1:=x3 _ e;have h2:=HW4.out.2.2.2.2.1;rw [h2] at h1;injection h1 with h1;exact hJr h1
   have hbx:w'.heap[w.heap.size]?=w5.heap[w.heap.size]?:=by
    rw [hgrow.block w.heap.size (zR8 HW5.out.2.2.1 qq.below.size) (fun e=>hrow e.symm)];exact qq.below.block w.heap.size HW5.out.2.2.1
   have z1:(w'.setCell ⟨r,2,none⟩ (.slice ao3 (L.length+1) cap3)).cell? ⟨w.heap.size,1,none⟩=some (.int .i64 stamp):=(zS5 _ _ _ _ (by intro e;injection e with e1;omega)).trans ((zS6 (a:=⟨w.heap.size,1,none⟩) hbx).trans y1);have z3:(w'.setCell ⟨r,2,none⟩ (.slice ao3 (L.length+1) cap3)).cell? ⟨r,3,none⟩=some (.int .i64 clock):=(zS5 _ _ _ _ (by intro e;injection e with _ e2;omega)).trans kc3;have g3:(w'.setCell ⟨r,2,none⟩ (.slice ao3 (L.length+1) cap3)).frozen? ⟨r,3,none⟩=false:=by rw [zS8];exact kf3
   have HP:Hid _:=HW5.out.2.1.pushed (f:=⟨key,stamp,⟨#[]⟩,false⟩) qq x2 x3 hgrow hown' hwh;clear hown' hgrow hwh qq kc kc3 kf3 hrow hbx y0 y1 y2 y3 x1 x2 x3;go_wp2_with fail;go_end0;refine ⟨rfl,?_⟩;obtain ⟨tg6,ht6,hR6,ho6⟩:=HP.out;obtain ⟨hR4,hD4,hV4,hSt,t4,hKw⟩:=HW4.out;obtain ⟨hset,hR5,hV5⟩:=HW5.out;obtain ⟨_,_,_,_,hrw⟩:=HH.out.rdy;have hK5:Kept (·=rr) tg4 w4 tg6 ((w'.setCell ⟨r,2,none⟩ (.slice ao3 (L.length+1) cap3)).setCell ⟨r,3,none⟩ (.int .i64 stamp)):=hset.trans (Kept.yA ho6 ht6 rfl);have hK6:=hK5;obtain ⟨tg7,hrun,hk7⟩:=Run.fin (P:=fun x=>x=rr∨x=o) hrw.low hrw.tab ⟨hrw.tabo.1,hrw.tabo.2,HH.out.rG⟩ ⟨hrw.om,hrw.odm,HH.out.rm⟩ ⟨hrw.ne,HH.out.ro,HH.out.rod⟩ (hKw.trans (hK6.wider (fun x e=>Or.inl e))) (fun x e=>by rcases e with e | e<;>simp [e]) hR6 (hSt.keep hK6.size hK6.tags (fun k hk e=>hK6.block k hk (by rw [e];exact fun e=>hro e.symm))) (hD4.keep hK6.size hK6.tags (fun k hk e=>hK6.block k hk (by rw [e];exact fun e=>HH.out.rod e.symm))) HRD.out.fine HN.out;exact ⟨tg7,_,hrun,hk7⟩
def Done (tg:Tags) (o od s d:Nat) (L:List S.zh) (clock water:Int) (w w':World):Prop:=
 ∃ (tg':Tags) (T':S.Two) (X':S.Sto) (bs':List (List Rec)) (C':S.Con) (ids ps ids' ps':List Nat),zL w' tg' o s d X' ids ps∧zC w' tg' od d T'.dsk ids' ps'∧T'.dsk.yI∧S.yY L clock water T' X' bs' C'∧X'.zZ=false∧Kept (fun x=>x=o∨x=od) tg w tg' w'
theorem zJV {L:List S.zh} (hg:X.Good bs C) (hk:S.Keeps X C L) (kv:List S.Vs→Nat):∀ k v,v∈S.Yu X C kv X.keys.length k→v∈S.fv L k:=fun k v hv=>by
 rw [S.zG4 hg] at hv;exact hk.mem (List.mem_of_mem_take hv)
theorem zMX {L:List S.zh} {water:Int} (h:Rdy w tg o od m s d T X bs C False X.fl ids ps ids' ps') (ho:S.yY L clock water T X bs C) :
  Calls Tryz.prog 31 #[.pointer (some ⟨s,0,none⟩)] w fun e w'=>e=.returned (.int .i64 0)∧Done tg o od s d L clock water w w':=by
 cases hp:X.zZ with
 | false =>
  refine (zKx h.sto ho.dead hp).mono ?_;rintro e w' ⟨rfl,q⟩;exact ⟨rfl,tg,T,X,bs,C,ids,ps,ids',ps',h.sto.kept q,h.disk.kept q,h.fine,ho,hp,Kept.yT q (fun _ _=>rfl)⟩
 | true =>
  refine (zO1 h ho.dead hp).mono ?_;rintro e w' ⟨c,tg',X',T',i1,i2,i3,i4,rfl,hK,_,hS,hD,hF,hc⟩;rcases hc with ⟨rfl,hg⟩|hb
  ·obtain ⟨bs',hr,hp'⟩:=ho.laid hg (fun nw=>ho.keeps.flush ho.good nw);exact ⟨rfl,tg',T',X',bs',_,i1,i2,i3,i4,hS,hD,hF,hr,hp',hK⟩
  ·exact absurd hb (ho.zOg (zJV ho.good ho.keeps _))
theorem zIw {L:List S.zh} {water:Int} (h:Rdy w tg o od m s d T X bs C False X.fl ids ps ids' ps') (ho:S.yY L clock water T X bs C) (hp:X.zZ=false) :
  Calls Tryz.prog 15 #[.pointer (some ⟨s,0,none⟩)] w fun e w'=>e=.returned (.int .i64 0)∧Done tg o od s d L clock water w w':=by
 refine (zL9 h ho.dead hp).mono ?_;rintro e w' (⟨_,rfl,q⟩|⟨hf,_⟩|⟨_,c,tg',X',T',i1,i2,i3,i4,rfl,hK,_,hS,hD,hF,hc⟩)
 ·exact ⟨rfl,tg,T,X,bs,C,ids,ps,ids',ps',h.sto.kept q,h.disk.kept q,h.fine,ho,hp,Kept.yT q (fun _ _=>rfl)⟩
 ·exact hf.elim
 ·rcases hc with ⟨rfl,hg⟩|hb
  ·obtain ⟨bs',hr,hp'⟩:=ho.laid hg (fun nw=>ho.keeps.compact ho.good nw);exact ⟨rfl,tg',T',X',bs',_,i1,i2,i3,i4,hS,hD,hF,hr,hp',hK⟩
  ·exact absurd hb (ho.zOg (zJV ho.good ho.keeps _))
def zN4 (tg:Tags) (m rr o od r s d:Nat) (L:List S.zh) (clock wc water:Int) (w w':World):Prop:=
 ∃ tg' T' X' bs' C',Run w' tg' m rr o od r s d L clock wc water T' X' bs' C'∧X'.zZ=false∧Kept (fun x=>x=rr∨x=o∨x=od) tg w tg' w'
theorem Run.done {L:List S.zh} {water:Int} (h:Run w tg m rr o od r s d L clock wc water T X bs C) (hd:Done tg o od s d L clock water w w'):zN4 tg m rr o od r s d L clock wc water w w':=by
 obtain ⟨tg',T',X',bs',C',i1,i2,i3,i4,hS,hD,hF,hO,hp,hK⟩:=hd;obtain ⟨_,_,_,_,hr⟩:=h.rdy;have hR:ZU w' tg' rr r d s L clock wc true:=h.run.keep hK (fun e=>by rcases e with e | e;exact h.ro e;exact h.rod e);obtain ⟨tg2,h1,h2⟩:=Run.fin (P:=fun x=>x=o∨x=od) hr.low hr.tab ⟨hr.tabo.1,hr.tabo.2,h.rG⟩ ⟨hr.om,hr.odm,h.rm⟩ ⟨hr.ne,h.ro,h.rod⟩ hK (fun x e=>by rcases e with e | e<;>simp [e]) hR hS hD hF hO;exact ⟨tg2,T',X',bs',C',h1,hp,h2.wider (fun x e=>Or.inr e)⟩
theorem zF5 {L:List S.zh} {water:Int} (h:Run w tg m rr o od r s d L clock wc water T X bs C) :
  Calls Tryz.prog 13 #[.pointer (some ⟨r,0,none⟩)] w fun e w'=>e=.returned (.tuple #[])∧zN4 tg m rr o od r s d L clock wc water w w':=by
 obtain ⟨i1,i2,i3,i4,hr⟩:=h.rdy;have r1:=h.run.c1;have FL:Hid _:=fun (_:Unit)=>zMX hr h.ok;have HH:Hid (Run w tg m rr o od r s d L clock wc water T X bs C):=h;clear h hr;go_enter Tryz.func13,Tryz.ntmps13;go_wp2_with fail;refine (FL.out ()).mono ?_;rintro e w1 ⟨rfl,hd⟩;obtain ⟨tg1,T1,X1,bs1,C1,hR1,hp1,hK1⟩:=HH.out.done hd;have c5:=hR1.run.c5;have f5:=hR1.run.fr 5;have HR1:Hid (Run w1 tg1 m rr o od r s d L clock wc water T1 X1 bs1 C1∧X1.zZ=false∧Kept (fun x=>x=rr∨x=o∨x=od) tg w tg1 w1):=⟨hR1,hp1,hK1⟩;clear FL hd hR1 hp1 hK1 HH;go_wp2_with fail;go_end0;refine ⟨rfl,?_⟩;obtain ⟨hR1,hp1,hK1⟩:=HR1.out;obtain ⟨j1,j2,j3,j4,hr1⟩:=hR1.rdy;have hset:=Kept.setAt (w:=w1) (tg:=tg1) (R:=r) (r:=rr) (j:=5) (by rw [hR1.run.tr]) (.bool true);have hrun:=hR1.run.set 5 (.bool true) (d':=d) (s':=s) (clock':=clock) (water':=wc) (ok':=true) (by omega) rfl rfl rfl rfl rfl;obtain ⟨tg2,g1,g2⟩:=Run.fin (P:=fun x=>x=rr) hr1.low hr1.tab ⟨hr1.tabo.1,hr1.tabo.2,hR1.rG⟩ ⟨hr1.om,hr1.odm,hR1.rm⟩ ⟨hr1.ne,hR1.ro,hR1.rod⟩ hset (fun x e=>Or.inr (Or.inr e)) hrun (hr1.sto.keep hset.size hset.tags (fun k hk e=>hset.block k hk (by rw [e];exact fun e=>hR1.ro e.symm))) (hr1.disk.keep hset.size hset.tags (fun k hk e=>hset.block k hk (by rw [e];exact fun e=>hR1.rod e.symm))) hr1.fine hR1.ok;exact ⟨tg2,T1,X1,bs1,C1,g1,hp1,hK1.trans (g2.wider (fun x e=>Or.inl e))⟩
def zCX (o:Option S.zh):List Value:=match o with
 | some f=>f.cells
 | none=>[.string ⟨#[]⟩,.int .i64 0,.string ⟨#[]⟩,.bool false]
theorem zG5 {L:List S.zh} {i:Nat} {f:S.zh} (h:L[i]?=some f) (k:ByteArray) (t:Int):S.yh (L.take (i+1)) k t=if f.key=k∧f.stamp≤t then some f else S.yh (L.take i) k t:=by
 unfold S.yh;rw [S.yt h,List.filter_append];by_cases h1:f.key=k∧f.stamp≤t
 ·rw [if_pos h1];simp [h1.1,h1.2]
 ·rw [if_neg h1];have:(decide (f.key=k) && decide (f.stamp≤t))=false:=by
   by_cases e:f.key=k
   ·have:¬f.stamp≤t:=fun e2=>h1 ⟨e,e2⟩;simp [this]
   ·simp [e]
  simp [this]
def zPq (w:World) (L:List S.zh) (k:ByteArray) (t:Int) (ti:Value) (wr:World):Prop:=
 ∃ i:Nat,ti=.int .i64 (i:Int)∧i≤L.length∧Q w wr∧ZK wr (w.heap.size+1) (zCX (S.yh (L.take i) k t))∧ZK wr w.heap.size (zCX none)
def zPr (L:List S.zh) (k:ByteArray) (t:Int) (e:Ending):Prop:=
 ∃ (a:ByteArray) (b:Int) (v:ByteArray) (th:Bool),e=.returned (.agg #[.string a,.int .i64 b,.string v,.bool th])∧(v,th)=(match S.yh L k t with | some f=>(f.value,f.there) | none=>(⟨#[]⟩,false))
theorem zOY (o:Option S.zh):∃ (a:ByteArray) (b:Int) (v:ByteArray) (th:Bool),zCX o=[.string a,.int .i64 b,.string v,.bool th]∧(v,th)=(match o with | some f=>(f.value,f.there) | none=>(⟨#[]⟩,false)):=by
 cases o with
 | none=>exact ⟨_,_,_,_,rfl,rfl⟩
 | some f=>exact ⟨_,_,_,_,rfl,rfl⟩
theorem zNG {L:List S.zh} {water:Int} (h:ZU w tg rr r d s L clock water ok) (hl:L.length≤1048576) (k:ByteArray) (t:Int) :
  Calls Tryz.prog 29 #[.pointer (some ⟨r,0,none⟩),.string k,.int .i64 t] w fun e w'=>zPr L k t e∧Q w w':=by
 obtain ⟨ao,cap,a1,a2,a3⟩:=h.c2;have HC:Hid (∀ (i:Nat) (f:S.zh),L[i]?=some f→∃ g,ao=some ⟨g,0,none⟩∧w.cell? ⟨g,i*4,none⟩=some (.string f.key)∧w.cell? ⟨g,i*4+1,none⟩=some (.int .i64 f.stamp)∧w.cell? ⟨g,i*4+2,none⟩=some (.string f.value)∧w.cell? ⟨g,i*4+3,none⟩=some (.bool f.there)):=fun i f hf=>by
  have hne:yX L≠[]:=fun e=>by
   have:=yV (L:=L) 0 hf (by omega);rw [e] at this;simp [S.zh.cells] at this
  obtain ⟨g,hg,_,_,hc⟩:=ZM a2 hne;exact ⟨g,hg,hc _ _ (by rw [show i*4=i*4+0 from rfl,yV 0 hf (by omega)];rfl),hc _ _ (by rw [yV 1 hf (by omega)];rfl),hc _ _ (by rw [yV 2 hf (by omega)];rfl),hc _ _ (by rw [yV 3 hf (by omega)];rfl)⟩
 clear h a2 a3;go_enter Tryz.func29,Tryz.ntmps29;go_wp2_with fail
 go_loopw [8] (fun ti wr=>zPq w L k t ti wr) (fun ti _=>L.length-(intOf ti).toNat)
 case atStart =>
  refine ⟨0,rfl,zRH _,((Q.refl w).alloc _ _).alloc _ _,?_,(zK w _ 26).kept ((Q.refl _).alloc _ _)⟩;have:=zK (w.alloc (.cells #[.string ⟨#[]⟩,.int .i64 0,.string ⟨#[]⟩,.bool false] 26)) [.string ⟨#[]⟩,.int .i64 0,.string ⟨#[]⟩,.bool false] 26;rw [zSA] at this;exact this
 case round =>
  obtain ⟨i,rfl,hi,hq,hV,hV0⟩:=hrel;have k2:=zA a1 hq;obtain ⟨xa,xb,xv,xt,hacc,hmt⟩:=zOY (S.yh (L.take i) k t);by_cases hlt:i<L.length
  ·obtain ⟨f,hf⟩:∃ f,L[i]?=some f:=⟨_,zR6 hlt⟩;obtain ⟨g,hg,f0,f1,f2,f3⟩:=HC.out i f hf;have hltI:(i:Int)<(L.length:Int):=by omega
   have e0:=zA f0 hq;have e1:=zA f1 hq;have e2:=zA f2 hq;have e3:=zA f3 hq;have hs:=zG5 hf k t;have HVV:Hid (ZK wr (w.heap.size+1) (zCX (S.yh (L.take i) k t))∧ZK wr w.heap.size (zCX none)∧Q w wr):=⟨hV,hV0,hq⟩;rw [hacc] at hV;have b0:=(hV.kept ((Q.refl wr).alloc #[.string f.key,.int .i64 f.stamp,.string f.value,.bool f.there] 26)).cell 0 rfl;have b1:=(hV.kept ((Q.refl wr).alloc #[.string f.key,.int .i64 f.stamp,.string f.value,.bool f.there] 26)).cell 1 rfl;have b2:=(hV.kept ((Q.refl wr).alloc #[.string f.key,.int .i64 f.stamp,.string f.value,.bool f.there] 26)).cell 2 rfl;have b3:=(hV.kept ((Q.refl wr).alloc #[.string f.key,.int .i64 f.stamp,.string f.value,.bool f.there] 26)).cell 3 rfl;have d0:=(hV.kept ((Q.refl wr).alloc #[.string f.key,.int .i64 f.stamp,.string f.value,.bool f.there] 26)).free 0 rfl;have d1:=(hV.kept ((Q.refl wr).alloc #[.string f.key,.int .i64 f.stamp,.string f.value,.bool f.there] 26)).free 1 rfl;have d2:=(hV.kept ((Q.refl wr).alloc #[.string f.key,.int .i64 f.stamp,.string f.value,.bool f.there] 26)).free 2 rfl;have d3:=(hV.kept ((Q.refl wr).alloc #[.string f.key,.int .i64 f.stamp,.string f.value,.bool f.there] 26)).free 3 rfl;subst hg;by_cases hkk:f.key=k
   ·have hkb:(f.key.toList == k.toList)=true:=by rw [hkk];simp
    by_cases hst:f.stamp≤t
    ·rw [if_pos ⟨hkk,hst⟩] at hs;have HS:Hid (S.yh (L.take (i+1)) k t=some f):=hs;clear HC hs hV hV0 hf hkk;go_wp2_with fail
     go_roundw
     case rel =>
      have h1:=HVV.out.1;rw [hacc] at h1;have h2:=((((h1.kept ((Q.refl wr).alloc #[.string f.key,.int .i64 f.stamp,.string f.value,.bool f.there] 26)).set 0 (.string f.key)).set 1 (.int .i64 f.stamp)).set 2 (.string f.value)).set 3 (.bool f.there);refine ⟨i+1,by go_num,by omega,((((HVV.out.2.2.alloc _ _).setCell (p:=⟨w.heap.size+1,0,none⟩) (by simp) _).setCell (p:=⟨w.heap.size+1,1,none⟩) (by simp) _).setCell (p:=⟨w.heap.size+1,2,none⟩) (by simp) _).setCell (p:=⟨w.heap.size+1,3,none⟩) (by simp) _,by rw [HS.out];exact h2,?_⟩;refine (HVV.out.2.1.kept ((Q.refl wr).alloc #[.string f.key,.int .i64 f.stamp,.string f.value,.bool f.there] 26)).of_block ?_ (by simp);rw [heap_setCell_other _ ⟨w.heap.size+1,3,none⟩ w.heap.size _ (by simp),heap_setCell_other _ ⟨w.heap.size+1,2,none⟩ w.heap.size _ (by simp),heap_setCell_other _ ⟨w.heap.size+1,1,none⟩ w.heap.size _ (by simp),heap_setCell_other _ ⟨w.heap.size+1,0,none⟩ w.heap.size _ (by simp)]
     case measure=>simp [intOf];omega
    ·have hstI:¬f.stamp≤t:=hst;rw [if_neg (fun e=>hst e.2)] at hs;have HS:Hid (S.yh (L.take (i+1)) k t=S.yh (L.take i) k t):=hs;clear HC hs hV hV0 hf hkk;go_wp2_with fail
     go_roundw
     case rel=>exact ⟨i+1,by go_num,by omega,HVV.out.2.2.alloc _ _,by rw [HS.out];exact HVV.out.1.kept ((Q.refl _).alloc _ _),HVV.out.2.1.kept ((Q.refl _).alloc _ _)⟩
     case measure=>simp [intOf];omega
   ·have hkb:(f.key.toList == k.toList)=false:=by
     rw [zRy];intro e;exact hkk (M.Zl e)
    rw [if_neg (fun e=>hkk e.1)] at hs;have HS:Hid (S.yh (L.take (i+1)) k t=S.yh (L.take i) k t):=hs;clear HC hs hV hV0 hf;go_wp2_with fail
    go_roundw
    case rel=>exact ⟨i+1,by go_num,by omega,HVV.out.2.2.alloc _ _,by rw [HS.out];exact HVV.out.1.kept ((Q.refl _).alloc _ _),HVV.out.2.1.kept ((Q.refl _).alloc _ _)⟩
    case measure=>simp [intOf];omega
  ·obtain rfl:i=L.length:=by omega
   rw [zRp] at hacc hmt hV;rw [hacc] at hV;have b0:=hV.cell 0 rfl;have b1:=hV.cell 1 rfl;have b2:=hV.cell 2 rfl;have b3:=hV.cell 3 rfl;have z0:=hV0.cell 0 rfl;have z1:=hV0.cell 1 rfl;have z2:=hV0.cell 2 rfl;have z3:=hV0.cell 3 rfl;have y0:=hV0.free 0 rfl;have y1:=hV0.free 1 rfl;have y2:=hV0.free 2 rfl;have y3:=hV0.free 3 rfl;have HM:Hid ((xv,xt)=(match S.yh L k t with | some f=>(f.value,f.there) | none=>(⟨#[]⟩,false))):=hmt;clear hV hV0 hmt hacc;go_wp2_with fail;refine bodyPost_ret (v:=.agg #[.string xa,.int .i64 xb,.string xv,.bool xt]) (by simp [results,Tryz.results29,go_sem,z0,z1,z2,z3]) rfl ?_;exact ⟨⟨xa,xb,xv,xt,rfl,HM.out⟩,(((hq.setCell (p:=⟨w.heap.size,0,none⟩) (zR9 _) _).setCell (p:=⟨w.heap.size,1,none⟩) (zR9 _) _).setCell (p:=⟨w.heap.size,2,none⟩) (zR9 _) _).setCell (p:=⟨w.heap.size,3,none⟩) (zR9 _) _⟩
theorem zDK {dd:Nat} {L:List S.zh} {water:Int} {i1 i2 i3 i4:List Nat} (hR:ZU w tg rr r dd s L clock water true) (hS:zL w tg o s d X i1 i2) (hD:zC w tg od d T.dsk i3 i4) (hF:T.dsk.yI) (hT:Tab w) (hok:S.yY L clock water T X bs C) (k:ByteArray) (hk:1≤k.size∧k.size≤64) (t:Int) (ht:0≤t∨t<water) :
  Calls Tryz.prog 10 #[.pointer (some ⟨r,0,none⟩),.string k,.int .i64 t] w fun e w'=>e=.returned (.bool true)∧Q w w':=by
 have r1:=hR.c1;have r4:=hR.c4;have hw:=hok.wm;have GA:=zHO hS hok.good (fun _=>⟨hD,hF,hok.on⟩) hT k t;by_cases hb:t<water
 ·have ha:X.asking k t=12:=by
   unfold S.Sto.asking;rw [hok.dead,if_neg (by simp),if_neg (fun e=>e hk),if_pos (by omega)]
  have GB:Hid _:=fun (_:Unit)=>GA;rw [ha] at GB;simp only [show ¬(12:Int)=0 by omega,if_false] at GB;unfold zKV at GB;clear GA ha hR hS hD hF hT hok hw hk ht;go_enter Tryz.func10,Tryz.ntmps10;go_wp2_with fail;refine (GB.out ()).mono ?_;rintro e w1 ⟨rfl,q1⟩;have k4:=zA r4 q1;clear GB;go_wp2_with fail;go_ret;exact ⟨rfl,q1⟩
 ·have ha:X.asking k t=0:=by
   unfold S.Sto.asking;rw [hok.dead,if_neg (by simp),if_neg (fun e=>e hk),if_neg (by omega)]
  rw [ha] at GA;simp only [if_true,false_and,or_false] at GA;rw [hok.keeps.told (by omega) k] at GA;obtain ⟨p,hp⟩:∃ p,p=S.told (S.zX (S.fv L k) t):=⟨_,rfl⟩;rw [←hp] at GA;obtain ⟨v,th⟩:=p;have GB:Hid _:=fun (_:Unit)=>GA;unfold zOw at GB;simp only at GB;have TO:Hid _:=fun (W:World) (q:Q w W)=>zNG (hR.kept q) (by have:=hok.few.1;omega) k t;have HP:Hid ((v,th)=(match S.yh L k t with | some f=>(f.value,f.there) | none=>((⟨#[]⟩:ByteArray),false))):=hp.trans (S.zLc hok.facts k t);clear GA ha hR hS hD hF hT hok hw hk ht hp;go_enter Tryz.func10,Tryz.ntmps10;go_wp2_with fail;refine (GB.out ()).mono ?_;rintro e w1 ⟨rfl,q1⟩;have k4:=zA r4 q1;have TO2:Hid _:=fun (_:Unit)=>TO.out w1 q1;clear GB TO;go_wp2_with fail;refine (TO2.out ()).mono ?_;rintro e w2 ⟨⟨xa,xb,xv,xt,rfl,hx⟩,q2⟩;have he:(v,th)=(xv,xt):=HP.out.trans hx.symm;injection he with he1 he2;subst he1 he2;clear hx TO2;go_wp2_with fail;go_ret;exact ⟨by simp,(q1.trans q2).alloc _ _⟩
theorem zLr {L:List S.zh} {water:Int} (h:Run w tg m rr o od r s d L clock water water T X bs C) (k:ByteArray) (hk:1≤k.size∧k.size≤64) (t:Int) (ht:0≤t∨t<water) :
  Calls Tryz.prog 10 #[.pointer (some ⟨r,0,none⟩),.string k,.int .i64 t] w fun e w'=>e=.returned (.bool true)∧Q w w':=by
 obtain ⟨i1,i2,i3,i4,hr⟩:=h.rdy;exact zDK h.run hr.sto hr.disk hr.fine hr.tab h.ok k hk t ht
structure zI1 (w0 w:World) (tg:Tags) (m rr o od r s d:Nat) (L:List S.zh) (clock wc water:Int) (T:S.Two) (X:S.Sto) (bs:List (List Rec)) (C:S.Con):Prop where
 run:Run w tg m rr o od r s d L clock wc water T X bs C
 q:Q w0 w
 z:∀ k,k<w0.heap.size→(tg k).1=0
 n:rr≠0∧o≠0∧od≠0
theorem zI1.next {P:Nat→Prop} {L L':List S.zh} {water wc':Int} {T':S.Two} {X':S.Sto} {bs':List (List Rec)} {C':S.Con} (h:zI1 w0 w tg m rr o od r s d L clock wc water T X bs C) (h':Run w' tg' m rr o od r s d L' clock' wc' water' T' X' bs' C') (hK:Kept P tg w tg' w') (hP:∀ x,P x→x=rr∨x=o∨x=od):zI1 w0 w' tg' m rr o od r s d L' clock' wc' water' T' X' bs' C':=by
 have hs:=h.q.below.size;refine ⟨h',⟨⟨hK.os.trans h.q.below.os,hK.tape.trans h.q.below.tape,hK.output.trans h.q.below.output,zRK hs hK.size,fun k hk=>?_⟩⟩,fun k hk=>by rw [hK.tags k (by omega)];exact h.z k hk,h.n⟩;rw [hK.block k (by omega) (fun e=>?_)]
 ·exact h.q.below.block k hk
 ·have h0:=h.z k hk;have:=h.n;rcases hP _ e with e | e | e<;>omega
theorem zI1.qq {L:List S.zh} {water:Int} (h:zI1 w0 w tg m rr o od r s d L clock wc water T X bs C) (q:Q w w'):zI1 w0 w' (junk tg w) m rr o od r s d L clock wc water T X bs C:=by
 refine h.next (P:=fun _=>False) (h.run.q q) (Kept.yT q (fun k hk=>Tags.zD hk)) (fun x e=>e.elim)
def Y5:S.Two:=⟨1048576,none,none,false,0⟩
theorem zFi:S.settle Y5.dsk=(Y5.dsk,0):=by
 rw [S.zBS];rfl
theorem zDi:Y5.dsk.yI:=by
 refine ⟨⟨by decide,by decide,by decide,fun f hf=>?_,fun f hf=>?_⟩,?_,by decide⟩
 ·simp [Y5,S.Two.dsk,S.fileOf] at hf
 ·simp [Y5,S.Two.dsk,S.fileOf] at hf
 ·simp [Y5,S.Two.dsk,S.fileOf,M.Sorted]
theorem zGZ:zBL False Y5.dsk [] (-1):=⟨rfl,Or.inl ⟨by rw [S.Two.zDL];rfl,rfl,rfl⟩⟩
theorem zOh:S.yY [] 0 (-1) Y5 (ZW (-1) [] 0) [] (fun _=>[]):=by
 refine ⟨⟨List.Pairwise.nil,fun f hf=>(by cases hf),fun f hf=>(by cases hf),fun f hf=>(by cases hf),fun f hf=>(by cases hf)⟩,rfl,by omega,by omega,rfl,⟨zG3 List.Pairwise.nil (by simp) (zR9 _),S.Fil.none yZ,fun k=>rfl,fun kr hkr=>(by cases hkr),fun kr hkr=>(by cases hkr),by decide,by decide,by decide⟩,fun k=>⟨0,rfl,by simp [S.fv,S.needs]⟩,rfl,Or.inl ⟨rfl,rfl,rfl⟩,rfl,rfl,rfl,by simp [S.Yb]⟩
def zDD:ByteArray:=⟨#[102,105,114,115,116]⟩
def zQZ:ByteArray:=⟨#[111,110,101]⟩
def zFP:S.zh:=⟨zDD,0,zQZ,true⟩
def zQy (w:World) (e:Ending) (w':World):Prop:=
 ∃ (tg':Tags) (r s d:Nat) (T:S.Two) (X:S.Sto) (bs:List (List Rec)) (C:S.Con),e=.returned (.pointer (some ⟨r,0,none⟩))∧zI1 w w' tg' 10 1 3 2 r s d [zFP] 0 (-1) (-1) T X bs C
theorem zPJ {w1:World} (hT:Tab w) (q1:Q w w1) (hL1:zC w1 (Tags.more (fun _=>(0,0)) w.heap.size 2 0) 2 w.heap.size Y5.dsk [] []) :
  Calls Tryz.prog 18 #[.pointer (some ⟨w.heap.size,0,none⟩)] w1 fun e w2=>∃ s,e=.returned (.tuple #[.pointer (some ⟨s,0,none⟩),.int .i64 0])∧∃ tg3,zI1 w (w2.alloc (.cells #[.pointer (some ⟨w.heap.size,0,none⟩),.pointer (some ⟨s,0,none⟩),.slice none 0 0,.int .i64 0,.int .i64 (-1),.bool true] 33)) tg3 10 1 3 2 w2.heap.size s w.heap.size [] 0 (-1) (-1) Y5 (ZW (-1) [] 0) [] (fun _=>[]):=by
 have hG:=Z8 hT;obtain ⟨tg1,htg1⟩:∃ tg1:Tags,tg1=Tags.more (fun _=>(0,0)) w.heap.size 2 0:=⟨_,rfl⟩;rw [←htg1] at hL1;have t1o:∀ k,k<w.heap.size→tg1 k=(0,0):=fun k hk=>by rw [htg1];exact Tags.zD hk
 have t1l:∀ k,(tg1 k).1=0∨(tg1 k).1=2:=fun k=>by
  rw [htg1];unfold Tags.more;split<;>simp
 refine (zFx (o:=3) (od:=2) (m:=10) (d:=w.heap.size) (T0:=Y5) (bs:=[]) (bad:=False) (wm:=-1) hL1 zDi zGZ (S.Fil.none yZ) (zq hT q1) (by simp) (fun k _=>by rcases t1l k with e | e<;>omega) (fun k _=>by rcases t1l k with e | e<;>omega) (by omega) (by omega)).mono ?_;rintro e w2 ⟨tg2,ids2,ps2,hK2,hl2,hc⟩;rw [zFi] at hc;rcases hc with ⟨hf,_⟩|⟨hf,_⟩|⟨_,s,hs,rfl,hS2,hD2⟩
 ·exact hf.elim
 ·exact absurd rfl hf
 have hsz1:=q1.below.size;have hGl1:1<w1.heap.size:=by omega
 have hwb:∀ k,k<w.heap.size→w2.heap[k]?=w.heap[k]?:=fun k hk=>(hK2.block k (by omega) (by rw [t1o k hk];simp)).trans (q1.below.block k hk);have q2:Q w w2:=⟨⟨hK2.os.trans q1.below.os,hK2.tape.trans q1.below.tape,hK2.output.trans q1.below.output,zRK hsz1 hK2.size,hwb⟩⟩;have t2o:∀ k,k<w.heap.size→(tg2 k).1=0:=fun k hk=>by rw [hK2.tags k (by omega),t1o k hk]
 obtain ⟨tg3,htg3⟩:∃ tg3:Tags,tg3=tg2.more w2.heap.size 1 0:=⟨_,rfl⟩;have t3o:∀ k,k<w2.heap.size→tg3 k=tg2 k:=fun k hk=>by rw [htg3];exact Tags.zD hk
 have t3r:tg3 w2.heap.size=(1,0):=by rw [htg3];exact Tags.zV (zR9 _)
 have qa:Q w2 (w2.alloc (.cells #[.pointer (some ⟨w.heap.size,0,none⟩),.pointer (some ⟨s,0,none⟩),.slice none 0 0,.int .i64 0,.int .i64 (-1),.bool true] 33)):=(Q.refl w2).alloc _ _;have hv:=zK w2 [.pointer (some ⟨w.heap.size,0,none⟩),.pointer (some ⟨s,0,none⟩),.slice none 0 0,.int .i64 0,.int .i64 (-1),.bool true] 33;have hfr:∀ j,(w2.alloc (.cells #[.pointer (some ⟨w.heap.size,0,none⟩),.pointer (some ⟨s,0,none⟩),.slice none 0 0,.int .i64 0,.int .i64 (-1),.bool true] 33)).frozen? ⟨w2.heap.size,j,none⟩=false:=fun j=>by simp
 have hs3:(w2.alloc (.cells #[.pointer (some ⟨w.heap.size,0,none⟩),.pointer (some ⟨s,0,none⟩),.slice none 0 0,.int .i64 0,.int .i64 (-1),.bool true] 33)).heap.size=w2.heap.size+1:=by simp
 refine ⟨s,rfl,tg3,?_⟩;generalize w2.alloc (.cells #[.pointer (some ⟨w.heap.size,0,none⟩),.pointer (some ⟨s,0,none⟩),.slice none 0 0,.int .i64 0,.int .i64 (-1),.bool true] 33)=w3 at qa hv hfr hs3 ⊢;have hTw3:Tab w3:=zq (yg hT (hwb _ hG)) qa;have htG:(tg3 1).1=0:=by rw [t3o _ (by have:=q2.below.size;omega)];exact t2o _ hG
 have hlow3:Low 10 tg3 w3:=fun k hk=>by
  rw [hs3] at hk;by_cases h:k<w2.heap.size
  ·rw [t3o k h];exact hl2 k h
  ·have:k=w2.heap.size:=by omega
   rw [this,t3r];simp
 have hR3:Run w3 tg3 10 1 3 2 w2.heap.size s w.heap.size [] 0 (-1) (-1) Y5 (ZW (-1) [] 0) [] (fun _=>[]):=by
  refine ⟨⟨hv.1,t3r,hfr,hv.cell 0 rfl,hv.cell 1 rfl,⟨none,0,hv.cell 2 rfl,World.ownsRow_nil _ _ _ _,fun g hg=>by simp [Value.ownBlock] at hg⟩,hv.cell 3 rfl,hv.cell 4 rfl,hv.cell 5 rfl⟩,⟨[],[],ids2,ps2,⟨hS2.keep qa.below.size t3o (fun k hk _=>qa.below.block k hk),hD2.keep qa.below.size t3o (fun k hk _=>qa.below.block k hk),zDi,zGZ,zOh.good,hTw3,by rw [htG];exact ⟨by omega,by omega⟩,by omega,rfl,rfl,hlow3,by omega,by omega,by simp⟩⟩,zOh,by omega,by omega,by rw [htG];omega,by omega⟩
 exact ⟨hR3,q2.trans qa,fun k hk=>by rw [t3o k (by have:=q2.below.size;omega)];exact t2o k hk,by omega⟩
theorem zMs (w:World) (hT:Tab w) :
  Calls Tryz.prog 8 #[] w fun e w'=>zQy w e w':=by
 have DN:Hid _:=fun (_:Unit)=>zC2 1048576 (by omega) (fun _=>(0,0)) 2 w;have HT:Hid (Tab w):=hT;clear hT;go_enter Tryz.func8,Tryz.ntmps8;go_wp2_with fail;refine (DN.out ()).mono ?_;rintro e w1 ⟨rfl,hL1,q1⟩;have OP:Hid _:=fun (_:Unit)=>zPJ HT.out q1 hL1;obtain ⟨d,hd⟩:∃ d,d=w.heap.size:=⟨_,rfl⟩;clear DN hL1 q1 HT;go_wp2_with fail;refine (OP.out ()).mono ?_;rintro e w2 ⟨s,rfl,tg3,hB3⟩;obtain ⟨r,hr⟩:∃ r,r=w2.heap.size:=⟨_,rfl⟩;obtain ⟨w3,hw3⟩:∃ w3,w3=w2.alloc (.cells #[.pointer (some ⟨d,0,none⟩),.pointer (some ⟨s,0,none⟩),.slice none 0 0,.int .i64 0,.int .i64 (-1),.bool true] 33):=⟨_,rfl⟩;rw [←hd,←hr,←hw3] at hB3;have SY:Hid _:=fun (_:Unit)=>zLp hB3.run zDD 0 zQZ (fun g hg=>by cases hg) (by omega) (by omega) (by omega) (by decide) (by decide) (by decide);have HB3:Hid (zI1 w w3 tg3 10 1 3 2 r s d [] 0 (-1) (-1) Y5 (ZW (-1) [] 0) [] (fun _=>[])):=hB3;unfold zDD zQZ at SY;clear OP hB3;go_wp2_with fail;rw [←hd,←hw3,←hr];clear hw3 hr hd;refine (SY.out ()).mono ?_;rintro e w4 ⟨rfl,tg4,X4,hR4,hK4⟩;have hR4':Run w4 tg4 10 1 3 2 r s d [zFP] 0 (-1) (-1) Y5 X4 [] (fun _=>[]):=hR4;have hB4:=HB3.out.next hR4' hK4 (fun x e=>by rcases e with e | e<;>simp [e]);have FL:Hid _:=fun (_:Unit)=>zF5 hB4.run;have HB4:Hid (zI1 w w4 tg4 10 1 3 2 r s d [zFP] 0 (-1) (-1) Y5 X4 [] (fun _=>[])):=hB4;clear SY hR4 hR4' hK4 hB4 HB3;go_wp2_with fail;refine (FL.out ()).mono ?_;rintro e w5 ⟨rfl,tg5,T5,X5,bs5,C5,hR5,hp5,hK5⟩;have hB5:=HB4.out.next hR5 hK5 (fun x e=>by rcases e with e | e | e<;>simp [e]);obtain ⟨i1,i2,i3,i4,hr5⟩:=hR5.rdy;have GA:=zHO hr5.sto hr5.good (fun _=>⟨hr5.disk,hr5.fine,hr5.on⟩) hr5.tab zDD 3;have ha:X5.asking zDD 3=0:=by
  unfold S.Sto.asking;rw [hR5.ok.dead,if_neg (by simp),if_neg (by decide),if_neg (by rw [hR5.ok.wm];omega)]
 have htold:S.told (S.zX (X5.con C5 zDD) 3)=(zQZ,true):=by
  rw [hR5.ok.keeps.told (by rw [hR5.ok.wm];omega) zDD];rfl
 rw [ha] at GA;simp only [if_true,false_and,or_false] at GA;rw [htold] at GA;have GB:Hid _:=fun (_:Unit)=>GA;unfold zOw zDD zQZ at GB;have HB5:Hid (zI1 w w5 tg5 10 1 3 2 r s d [zFP] 0 (-1) (-1) T5 X5 bs5 C5):=hB5;clear FL hR5 hp5 hK5 hB5 hr5 GA ha htold HB4;go_wp2_with fail;refine (GB.out ()).mono ?_;rintro e w6 ⟨rfl,q6⟩;have hB6:=HB5.out.qq q6;have c5:=hB6.run.run.c5;have HB6:Hid (zI1 w w6 (junk tg5 w5) 10 1 3 2 r s d [zFP] 0 (-1) (-1) T5 X5 bs5 C5):=hB6;clear GB hB6 HB5;go_wp2_with fail;go_ret;exact ⟨_,r,s,d,T5,X5,bs5,C5,rfl,HB6.out⟩
def RB (w0 w:World) (r s d:Nat) (L:List S.zh) (clock wc water:Int) (P:S.Sto→Prop):Prop:=
 ∃ tg T X bs C,zI1 w0 w tg 10 1 3 2 r s d L clock wc water T X bs C∧P X
theorem RB.any {L:List S.zh} {water:Int} (h:RB w0 w r s d L clock wc water P):RB w0 w r s d L clock wc water (fun _=>True):=by
 obtain ⟨tg,T,X,bs,C,h1,_⟩:=h;exact ⟨tg,T,X,bs,C,h1,trivial⟩
theorem RB.q {w0 w w':World} {r s d:Nat} {L:List S.zh} {clock wc water:Int} {P:S.Sto→Prop} (h:RB w0 w r s d L clock wc water P) (q:Q w w'):RB w0 w' r s d L clock wc water P:=by
 obtain ⟨tg,T,X,bs,C,h1,h2⟩:=h;exact ⟨_,T,X,bs,C,h1.qq q,h2⟩
theorem RB.base {L:List S.zh} {water:Int} (h:RB w0 w r s d L clock wc water P):Q w0 w:=by
 obtain ⟨tg,T,X,bs,C,h1,_⟩:=h;exact h1.q
theorem RB.cells {L:List S.zh} {water:Int} (h:RB w0 w r s d L clock wc water P):w.cell? ⟨r,0,none⟩=some (.pointer (some ⟨d,0,none⟩))∧w.cell? ⟨r,1,none⟩=some (.pointer (some ⟨s,0,none⟩))∧w.cell? ⟨r,4,none⟩=some (.int .i64 wc)∧w.cell? ⟨r,5,none⟩=some (.bool true)∧w.frozen? ⟨r,4,none⟩=false∧w.frozen? ⟨r,5,none⟩=false∧w.cell? ⟨r,3,none⟩=some (.int .i64 clock):=by
 obtain ⟨tg,T,X,bs,C,h1,_⟩:=h;exact ⟨h1.run.run.c0,h1.run.run.c1,h1.run.run.c4,h1.run.run.c5,h1.run.run.fr 4,h1.run.run.fr 5,h1.run.run.c3⟩
theorem zCD {L:List S.zh} {water:Int} (h:RB w0 w r s d L clock wc water P) :
  Calls Tryz.prog 13 #[.pointer (some ⟨r,0,none⟩)] w fun e w'=>e=.returned (.tuple #[])∧RB w0 w' r s d L clock wc water (fun X=>X.zZ=false):=by
 obtain ⟨tg,T,X,bs,C,hB,_⟩:=h;refine (zF5 hB.run).mono ?_;rintro e w' ⟨rfl,tg',T',X',bs',C',hR,hp,hK⟩;exact ⟨rfl,tg',T',X',bs',C',hB.next hR hK (fun x e=>by rcases e with e | e | e<;>simp [e]),hp⟩
theorem zKQ {L:List S.zh} {water:Int} (h:RB w0 w r s d L clock wc water (fun X=>X.zZ=false)) :
  Calls Tryz.prog 15 #[.pointer (some ⟨s,0,none⟩)] w fun e w'=>e=.returned (.int .i64 0)∧RB w0 w' r s d L clock wc water (fun X=>X.zZ=false):=by
 obtain ⟨tg,T,X,bs,C,hB,hp⟩:=h;obtain ⟨_,_,_,_,hr⟩:=hB.run.rdy;refine (zIw hr hB.run.ok hp).mono ?_;rintro e w' ⟨rfl,hd⟩;obtain ⟨tg',T',X',bs',C',hR,hp',hK⟩:=hB.run.done hd;exact ⟨rfl,tg',T',X',bs',C',hB.next hR hK (fun x e=>by rcases e with e | e | e<;>simp [e]),hp'⟩
theorem zNV {L:List S.zh} {water:Int} (h:RB w0 w r s d L clock wc water (fun _=>True)) (t:Int) (h1:water≤t) (h2:t≤clock) :
  Calls Tryz.prog 14 #[.pointer (some ⟨s,0,none⟩),.int .i64 t] w fun e w'=>e=.returned (.int .i64 0)∧RB w0 w' r s d L clock wc t (fun _=>True):=by
 obtain ⟨tg,T,X,bs,C,hB,_⟩:=h;obtain ⟨i1,i2,i3,i4,hr⟩:=hB.run.rdy;obtain ⟨ha,hok⟩:=hB.run.ok.raise h1 h2;refine (zM0 hr.sto t).mono ?_;rintro e w' ⟨rfl,hS,ho,_⟩;rw [ha] at hS ⊢;rw [if_pos rfl] at hS;have hK:Kept (·=3) tg w tg w':=Kept.yA ho (fun _ _=>rfl) rfl;obtain ⟨tg',hR,hK'⟩:=Run.fin (P:=(·=3)) hr.low hr.tab ⟨hr.tabo.1,hr.tabo.2,hB.run.rG⟩ ⟨hr.om,hr.odm,hB.run.rm⟩ ⟨hr.ne,hB.run.ro,hB.run.rod⟩ hK (fun x e=>Or.inl e) (hB.run.run.keep hK (by omega)) hS (hr.disk.keep hK.size hK.tags (fun k hk e=>hK.block k hk (by rw [e];omega))) hr.fine hok;exact ⟨rfl,tg',T,_,bs,C,hB.next hR hK' (fun x e=>by simp [e]),trivial⟩
theorem RB.water {w0 w:World} {r s d:Nat} {L:List S.zh} {clock wc water:Int} {P:S.Sto→Prop} (h:RB w0 w r s d L clock wc water P) (t:Int):RB w0 (w.setCell ⟨r,4,none⟩ (.int .i64 t)) r s d L clock t water P:=by
 obtain ⟨tg,T,X,bs,C,hB,hP⟩:=h;obtain ⟨i1,i2,i3,i4,hr⟩:=hB.run.rdy;have hset:=Kept.setAt (w:=w) (tg:=tg) (R:=r) (r:=1) (j:=4) (by rw [hB.run.run.tr]) (.int .i64 t);obtain ⟨tg',hR,hK'⟩:=Run.fin (P:=(·=1)) hr.low hr.tab ⟨hr.tabo.1,hr.tabo.2,hB.run.rG⟩ ⟨hr.om,hr.odm,hB.run.rm⟩ ⟨hr.ne,hB.run.ro,hB.run.rod⟩ hset (fun x e=>Or.inr (Or.inr e)) (hB.run.run.set 4 (.int .i64 t) (d':=d) (s':=s) (clock':=clock) (water':=t) (ok':=true) (by omega) rfl rfl rfl rfl rfl) (hr.sto.keep hset.size hset.tags (fun k hk e=>hset.block k hk (by rw [e];omega))) (hr.disk.keep hset.size hset.tags (fun k hk e=>hset.block k hk (by rw [e];omega))) hr.fine hB.run.ok;exact ⟨tg',T,X,bs,C,hB.next hR hK' (fun x e=>by simp [e]),hP⟩
def pk (n m:Int):Int:=(if n<0 then -(n+1) else n) % m
theorem zDP (n m:Int) (hn:-9223372036854775808≤n∧n≤9223372036854775807) (hm:0<m∧m≤9223372036854775807) (w:World) :
  Calls Tryz.prog 12 #[.int .i64 n,.int .i64 m] w fun e w'=>e=.returned (.int .i64 (pk n m))∧w'=w:=by
 have hm0:¬m=0:=by omega
 have hmb:(m == 0)=false:=by rw [zRy];omega
 by_cases h:n<0
 ·have hw1:IntKind.i64.wrap (n+1)=n+1:=by rw [IntKind.wrap_i64];omega
  have hw2:IntKind.i64.wrap (-(n+1))=-(n+1):=by rw [IntKind.wrap_i64];omega
  have hp:pk n m=(-(n+1)).tmod m:=by
   unfold pk;rw [if_pos h,Int.tmod_eq_emod_of_nonneg (by omega)]
  have hw3:IntKind.i64.wrap ((-(n+1)).tmod m)=(-(n+1)).tmod m:=by
   rw [Int.tmod_eq_emod_of_nonneg (by omega),IntKind.wrap_i64];have h1:=Int.emod_nonneg (-(n+1)) hm0;have h2:=Int.emod_lt_of_pos (-(n+1)) hm.1;omega
  rw [hp];clear hp;go_enter Tryz.func12,Tryz.ntmps12;go_wp2_with fail;go_ret;exact ⟨by simp [Int.neg_tmod],rfl⟩
 ·have hp:pk n m=n.tmod m:=by
   unfold pk;rw [if_neg h,Int.tmod_eq_emod_of_nonneg (by omega)]
  have hw3:IntKind.i64.wrap (n.tmod m)=n.tmod m:=by
   rw [Int.tmod_eq_emod_of_nonneg (by omega),IntKind.wrap_i64];have h1:=Int.emod_nonneg n hm0;have h2:=Int.emod_lt_of_pos n hm.1;omega
  rw [hp];clear hp;go_enter Tryz.func12,Tryz.ntmps12;go_wp2_with fail;go_ret;exact ⟨by simp [Int.tmod_eq_emod_of_nonneg h],rfl⟩
theorem zDO (n m:Int) (hm:0<m):0≤pk n m∧pk n m<m:=by
 unfold pk;exact ⟨Int.emod_nonneg _ (by omega),Int.emod_lt_of_pos _ hm⟩
theorem zNA (s:ByteArray) (hs:s.size≤140737488351232):∃ c:ByteArray,c.size≤4096∧∀ w,Calls Tryz.prog 48 #[.string s] w fun e w'=>e=.returned (.string c)∧w'=w:=by
 by_cases h:4096<s.size
 ·refine ⟨s.extract 0 4096,by simp;omega,fun w=>?_⟩;go_enter Tryz.func48,Tryz.ntmps48;go_wp2_with fail;go_ret;exact ⟨rfl,rfl⟩
 ·refine ⟨s,by omega,fun w=>?_⟩;go_enter Tryz.func48,Tryz.ntmps48;go_wp2_with fail;go_ret;exact ⟨rfl,rfl⟩
theorem zK7 (n:Nat):((n:Int)).tdiv 3=((n / 3:Nat):Int):=by
 rw [Int.tdiv_eq_ediv_of_nonneg (by omega)];omega
theorem zK4 (n:Nat):((n:Int)).tmod 3=((n % 3:Nat):Int):=by
 rw [Int.tmod_eq_emod_of_nonneg (by omega)];omega
theorem zMP (n:Int) (hn:-9223372036854775808≤n∧n≤9223372036854775807) (w:World) :
  Calls Tryz.prog 22 #[.int .i64 n] w fun e w'=>∃ k:ByteArray,e=.returned (.string k)∧(1≤k.size∧k.size≤5)∧Q w w':=by
 have HP:Hid _:=zDP n 12 hn (by decide);obtain ⟨m,hm,hm2⟩:∃ m:Nat,pk n 12=(m:Int)∧m<12:=by
  have:=zDO n 12 (by decide);exact ⟨(pk n 12).toNat,by omega,by omega⟩
 rw [hm] at HP;clear hm;have d1:IntKind.i64.wrap ((m:Int).tdiv 3)=((m / 3:Nat):Int):=by rw [zK7,IntKind.wrap_i64];omega
 have d2:IntKind.i64.wrap ((m:Int).tmod 3)=((m % 3:Nat):Int):=by rw [zK4,IntKind.wrap_i64];omega
 obtain ⟨q,hq3⟩:∃ q,q=m / 3:=⟨_,rfl⟩;obtain ⟨r,hr3⟩:∃ r,r=m % 3:=⟨_,rfl⟩;rw [←hq3] at d1;rw [←hr3] at d2;have hq4:q≤3:=by omega
 have hr4:r≤2:=by omega
 have e1:(m:Int) / 3=(q:Int):=by omega
 have e2:(m:Int) % 3=(r:Int):=by omega
 clear hq3 hr3;have a3:IntKind.i64.wrap (97+(r:Int))=97+(r:Int):=by rw [IntKind.wrap_i64];omega
 obtain ⟨c3,hc3⟩:∃ c3:Nat,c3=97+r:=⟨_,rfl⟩;have b3:IntKind.u8.wrap (97+(r:Int))=(c3:Int):=by rw [IntKind.wrap_u8];omega
 have hcv:=zHe c3;clear hc3;go_enter Tryz.func22,Tryz.ntmps22;go_wp2_with fail;refine (HP.out _).mono ?_;rintro e wx ⟨rfl,hwx⟩;subst hwx;go_wp2_with fail
 go_loopw [4,5] (fun p i wk=>∃ (kb:ByteArray) (j:Nat),p=.string kb∧i=.int .i64 j∧kb.size=j+1∧j≤q∧Q wx wk) (fun _ i _=>q-(intOf i).toNat)
 case atStart=>exact ⟨⟨#[97]⟩,0,rfl,rfl,rfl,by omega,Q.refl _⟩
 case round =>
  obtain ⟨kb,j,rfl,rfl,hk1,hk2,hqk⟩:=hrel;by_cases hj:j<q
  ·have hd:decide ((j:Int)<(q:Int))=true:=by rw [zS4];omega
   have hd2:(m:Int) / 3 > (j:Int):=by omega
   have hsz1:(⟨#[98]⟩:ByteArray).size=1:=rfl;have hadd:∀ W,(Op.stringOp .add kb ⟨#[98]⟩).run Tryz.prog W=.ok (.string (kb++⟨#[98]⟩)) W:=fun W=>run_string_add_sum W _ _ (by rw [hsz1];omega);have hns2:IntKind.i64.wrap ((j:Int)+1)=(j:Int)+1:=by rw [IntKind.wrap_i64];omega
   go_wp2_with fail
   go_roundw
   case rel=>exact ⟨kb++⟨#[98]⟩,j+1,rfl,by go_num,by rw [ByteArray.size_append,hsz1,hk1],by omega,hqk⟩
   case measure=>simp [intOf];omega
  ·obtain rfl:j=q:=by omega
   have hsz1:(⟨#[UInt8.ofNat c3]⟩:ByteArray).size=1:=rfl;have hadd:∀ W,(Op.stringOp .add kb ⟨#[UInt8.ofNat c3]⟩).run Tryz.prog W=.ok (.string (kb++⟨#[UInt8.ofNat c3]⟩)) W:=fun W=>run_string_add_sum W _ _ (by rw [hsz1];omega);go_wp2_with fail;go_ret;exact ⟨kb++⟨#[UInt8.ofNat c3]⟩,rfl,by rw [ByteArray.size_append,hsz1];omega,hqk.alloc _ _⟩
end Go.Proofs.YtekdenkllipehabGreatDoor
namespace Go.Proofs.YtekdenkllipehabGreatDoor.M
variable {i:Nat}
def Fil.full (f:Fil):Fil:={ f with synced:=f.bytes.length }
def Zb (D:Dsk) (i:Nat):Dsk:=⟨1048576,(D.files.take i).map Fil.full,false,0⟩
theorem zK3 (fs:List Fil):total (fs.map Fil.full)=total fs:=by
 unfold total;rw [List.map_map];rfl
theorem zBo {α:Type} {p:α→Bool}:∀ {l:List α},(∀ x∈l,p x=true)→l.takeWhile p=l∧l.dropWhile p=[]
 | [],_=>⟨rfl,rfl⟩
 | x::l,h=>by
  have h1:=zBo (l:=l) (fun y hy=>h y (List.mem_cons_of_mem _ hy));rw [zRi,List.dropWhile_cons,h x (List.mem_cons_self ..),if_pos rfl,if_pos rfl,h1.1,h1.2];exact ⟨rfl,rfl⟩
theorem zPF {fs:List Fil} {f:Fil} (h:∀ x∈fs,Op.bytesLess x.name.toList f.name.toList=true):put fs f=fs++[f]:=by
 have hb:∀ x∈fs,(!beyond f.name x)=true:=fun x hx=>by
  unfold beyond;rw [h x hx];rfl
 unfold put;rw [(zBo hb).1,(zBo hb).2]
theorem zKT {fs:List Fil} {nm:ByteArray} (h:∀ x∈fs,Op.bytesLess x.name.toList nm.toList=true):place fs nm=none:=by
 unfold place;rw [List.findIdx?_eq_none_iff];intro x hx;have:=h x hx;unfold named;rw [zRy];intro e;rw [e,yu] at this
 cases this
theorem zHd {D:Dsk} (h:D.yI) {f:Fil} (hf:D.files[i]?=some f) :
  ∃ E,(Zb D i).append f.name f.bytes=(E,0)∧E.sync f.name=(Zb D (i+1),0):=by
 have hi:i<D.files.length:=(zR7.1 hf).1;have hlt:∀ x∈(Zb D i).files,Op.bytesLess x.name.toList f.name.toList=true:=fun x hx=>by
  obtain ⟨y,hy,rfl⟩:=List.mem_map.1 hx;obtain ⟨j,hj,e⟩:=List.mem_take_iff_getElem.1 hy;have hj':j<i∧j<D.files.length:=by omega
  exact h.sorted.get (i:=j) (j:=i) (a:=y) (by rw [←e];exact zR6 hj'.2) hf hj'.1
 have hpl:=zKT hlt;have htake:D.files.take (i+1)=D.files.take i++[f]:=by rw [zRk,hf];rfl
 have htot:total (Zb D i).files+f.bytes.length≤1048576:=by
  have h1:total (D.files.take (i+1))≤total D.files:=by
   have h2:D.files=D.files.take (i+1)++D.files.drop (i+1):=(zRf ..).symm;have h3:=zA8 (D.files.take (i+1)) (D.files.drop (i+1));rw [←h2] at h3;omega
  rw [htake,zA8] at h1;have h2:total [f]=f.bytes.length:=by simp [total]
  have h3:total (Zb D i).files=total (D.files.take i):=zK3 _;have:=h.good.fits;have:=h.good.cap;omega
 have hlen:(Zb D i).files.length<64:=by
  have:=h.good.few;show ((D.files.take i).map Fil.full).length<64
  rw [zRr,zRv];omega
 have hok:=h.good.name f (zRG hf);refine ⟨⟨1048576,(Zb D i).files++[⟨f.name,f.bytes,0⟩],false,0⟩,?_,?_⟩
 ·unfold Dsk.append;rw [if_neg (by simp [Zb]),hok,if_neg (by simp),if_neg (by
   rintro (e|⟨_,e⟩)
   ·have:(Zb D i).cap=1048576:=rfl;omega
   ·omega)]
  have hd:(Zb D i).dies=(Zb D i,false):=rfl;rw [hd];simp only;rw [hpl];simp only;rw [zPF (f:=⟨f.name,f.bytes,0⟩) hlt];rfl
 ·have hp2:place ((Zb D i).files++[⟨f.name,f.bytes,0⟩]) f.name=some (Zb D i).files.length:=by
   refine zJQ (f:=⟨f.name,f.bytes,0⟩) (by simp) (Z0.2 rfl) (fun k hk g hg=>?_);rw [zRz hk] at hg;exact zCe hpl g (zRG hg)
  unfold Dsk.sync Dsk.changed;rw [if_neg (by simp)];simp only;rw [hp2];simp only;rw [if_neg (by decide)];have hd:Dsk.dies ⟨1048576,(Zb D i).files++[⟨f.name,f.bytes,0⟩],false,0⟩=(⟨1048576,(Zb D i).files++[⟨f.name,f.bytes,0⟩],false,0⟩,false):=rfl;rw [hd];simp only;rw [YW _ (a:=⟨f.name,f.bytes,0⟩) (by simp),List.set_append_right _ _ (zR9 _),Nat.sub_self];unfold Zb;rw [htake,List.map_append];rfl
theorem zEf {D:Dsk} (h:D.yI):∀ i,i≤D.files.length→(Zb D i).yI
 | 0,_=>zJc (zR9 _)
 | i+1,hi=>by
  obtain ⟨E,h1,h2⟩:=zHd h (zR6 (show i<D.files.length by omega));have h3:=(zEf h i (by omega)).append (D.files[i]).name (D.files[i]).bytes;rw [h1] at h3;have h4:=h3.sync (D.files[i]).name;rw [h2] at h4;exact h4
theorem zEe {D:Dsk} (h:D.yI) (hd:D.dead=false) {f:Fil} (hf:D.files[i]?=some f):D.read f.name=(f.bytes,0):=by
 unfold Dsk.read;rw [hd,if_neg (by simp),zJP h.sorted hf rfl];simp only;rw [hf];rfl
end Go.Proofs.YtekdenkllipehabGreatDoor.M
namespace Go.Proofs.YtekdenkllipehabGreatDoor
open Go.RowKit
variable {B J d d2 od od2 r rr s:Nat} {D E:M.Dsk} {P:S.Sto→Prop} {ao:Option Addr} {bs:List (List Rec)} {clock wc:Int} {ids ps:List Nat} {tg tg':Tags} {w w' w0 wr:World}
def Yx (w:World) (tg:Tags) (rr od od2 r d s d2 J:Nat) (L:List S.zh) (clock wc:Int) (D:M.Dsk) (ids ps:List Nat) (ao:Option Addr) (E:M.Dsk) (wr:World):Prop:=
 ∃ (tgE:Tags) (idsE psE:List Nat),Kept (fun x=>x=rr∨x=od2) tg w tgE wr∧ZU wr tgE rr r d s L clock wc true∧zC wr tgE od d D ids ps∧zC wr tgE od2 d2 E idsE psE ∧
  ∀ (j:Nat) (f:M.Fil),D.files[j]?=some f→∃ g,ao=some ⟨g,0,none⟩∧wr.cell? ⟨g,j,none⟩=some (.string f.name)∧g<wr.heap.size∧(tgE g).1=J
theorem Yx.at {L:List S.zh} (h:Yx w tg rr od od2 r d s d2 J L clock wc D ids ps ao E wr) :
  wr.cell? ⟨r,0,none⟩=some (.pointer (some ⟨d,0,none⟩))∧wr.cell? ⟨r,5,none⟩=some (.bool true)∧wr.frozen? ⟨r,0,none⟩=false∧wr.frozen? ⟨r,5,none⟩=false∧(∀ (j:Nat) (f:M.Fil),D.files[j]?=some f→∃ g,ao=some ⟨g,0,none⟩∧wr.cell? ⟨g,j,none⟩=some (.string f.name)):=by
 obtain ⟨tgE,idsE,psE,hK,hR,hD,hE,hN⟩:=h;refine ⟨hR.c0,hR.c5,hR.fr 0,hR.fr 5,fun j f hf=>?_⟩;obtain ⟨g,h1,h2,_⟩:=hN j f hf;exact ⟨g,h1,h2⟩
theorem Yx.turn {L:List S.zh} (h:Yx w tg rr od od2 r d s d2 J L clock wc D ids ps ao E wr) (h1:rr≠od2) (h2:od≠od2) (h3:J≠od2) :
  ∃ (tgE:Tags) (idsE psE:List Nat),zC wr tgE od2 d2 E idsE psE∧zC wr tgE od d D ids ps∧∀ (E':M.Dsk) (w':World),zy tgE od2 d2 E' wr w'→Yx w tg rr od od2 r d s d2 J L clock wc D ids ps ao E' w':=by
 obtain ⟨tgE,idsE,psE,hK,hR,hD,hE,hN⟩:=h;refine ⟨tgE,idsE,psE,hE,hD,fun E' w' hL=>?_⟩;obtain ⟨tg',ids',ps',ht,hE',ho⟩:=hL;have hK':Kept (·=od2) tgE wr tg' w':=Kept.yA ho ht rfl;refine ⟨tg',ids',ps',hK.trans (hK'.wider (fun x e=>Or.inr e)),hR.keep hK' h1,hD.keep hK'.size hK'.tags (fun k hk e=>hK'.block k hk (by rw [e];exact h2)),hE',fun j f hf=>?_⟩;obtain ⟨g,g1,g2,g3,g4⟩:=hN j f hf;have hB:=hK'.block g g3 (by rw [g4];exact h3);exact ⟨g,g1,(zS6 (a:=⟨g,j,none⟩) hB).trans g2,zR8 g3 hK'.size,by rw [hK'.tags g g3];exact g4⟩
theorem Yx.q {w:World} {tg:Tags} {rr od od2 r d s d2 J:Nat} {L:List S.zh} {clock wc:Int} {D:M.Dsk} {ids ps:List Nat} {ao:Option Addr} {E:M.Dsk} {wr w':World} (h:Yx w tg rr od od2 r d s d2 J L clock wc D ids ps ao E wr) (q:Q wr w'):Yx w tg rr od od2 r d s d2 J L clock wc D ids ps ao E w':=by
 obtain ⟨tgE,idsE,psE,hK,hR,hD,hE,hN⟩:=h;have hK':Kept (fun _=>False) tgE wr tgE w':=Kept.yT q (fun _ _=>rfl);refine ⟨tgE,idsE,psE,hK.trans (hK'.wider (fun x e=>e.elim)),hR.kept q,hD.keep hK'.size hK'.tags (fun k hk e=>hK'.block k hk (fun e=>e)),hE.keep hK'.size hK'.tags (fun k hk e=>hK'.block k hk (fun e=>e)),fun j f hf=>?_⟩;obtain ⟨g,g1,g2,g3,g4⟩:=hN j f hf;exact ⟨g,g1,zA g2 q,zR8 g3 hK'.size,g4⟩
theorem Yx.mark {L:List S.zh} (h:Yx w tg rr od od2 r d s d2 J L clock wc D ids ps ao E wr) (h1:rr≠od2) (h2:od≠rr) (h3:J≠rr):Yx w tg rr od od2 r d s d2 J L clock wc D ids ps ao E (wr.setCell ⟨r,5,none⟩ (.bool true)):=by
 obtain ⟨tgE,idsE,psE,hK,hR,hD,hE,hN⟩:=h;have hK':=Kept.setAt (w:=wr) (tg:=tgE) (R:=r) (r:=rr) (j:=5) (by rw [hR.tr]) (.bool true);refine ⟨tgE,idsE,psE,hK.trans (hK'.wider (fun x e=>Or.inl e)),hR.set 5 (.bool true) (by omega) rfl rfl rfl rfl rfl,hD.keep hK'.size hK'.tags (fun k hk e=>hK'.block k hk (by rw [e];exact h2)),hE.keep hK'.size hK'.tags (fun k hk e=>hK'.block k hk (by rw [e];exact fun e=>h1 e.symm)),fun j f hf=>?_⟩;obtain ⟨g,g1,g2,g3,g4⟩:=hN j f hf;have hB:=hK'.block g g3 (by rw [g4];exact h3);exact ⟨g,g1,(zS6 (a:=⟨g,j,none⟩) hB).trans g2,zR8 g3 hK'.size,g4⟩
theorem zL8 {L:List S.zh} (hR:ZU w tg rr r d s L clock wc true) (hD:zC w tg od d D ids ps) (hF:D.yI) (ha:D.dead=false) (h1:rr≠od2) (h2:od≠od2) (h3:J≠od2) (h4:od≠rr) (h5:J≠rr) :
  Calls Tryz.prog 19 #[.pointer (some ⟨r,0,none⟩)] w fun e w'=>e=.returned (.tuple #[])∧∃ (tg':Tags) (d':Nat) (ids' ps':List Nat),w.heap.size≤d'∧Kept (fun x=>x=rr∨x=od2) tg w tg' w'∧ZU w' tg' rr r d' s L clock wc true∧zC w' tg' od d D ids ps∧zC w' tg' od2 d' (M.Zb D D.files.length) ids' ps':=by
 have hfew:=hF.good.few;have DN:Hid _:=fun (_:Unit)=>zC2 1048576 (by omega) tg od2 w;have r0:=hR.c0;have HH:Hid (ZU w tg rr r d s L clock wc true∧zC w tg od d D ids ps∧D.yI∧D.dead=false):=⟨hR,hD,hF,ha⟩;clear hR hD hF ha;go_enter Tryz.func19,Tryz.ntmps19;go_wp2_with fail;refine (DN.out ()).mono ?_;rintro e w1 ⟨rfl,hL1,q1⟩;have k0:=zA r0 q1;have NM:=zEb tg od d D ids ps HH.out.2.2.1 w1 (HH.out.2.1.keep q1.below.size (fun _ _=>rfl) (fun k hk _=>q1.below.block k hk));have hnl:D.names.length=D.files.length:=by unfold M.Dsk.names;rw [HH.out.2.2.2,if_neg (by simp),zRr]
 rw [hnl] at NM;have NMH:Hid _:=fun (_:Unit)=>NM;have HL1:Hid (zC w1 (tg.more w.heap.size od2 0) od2 w.heap.size ⟨1048576,[],false,0⟩ [] []∧Q w w1):=⟨hL1,q1⟩;clear NM DN hL1 q1 hnl;go_wp2_with fail;refine (NMH.out ()).mono ?_;rintro e w2 ⟨ao,cap,rfl,hN⟩;have HC:Hid (Yx w tg rr od od2 r d s w.heap.size J L clock wc D ids ps ao (M.Zb D 0) w2):=by
  obtain ⟨hL1,q1⟩:=HL1.out;have q2:Q w1 w2:=⟨hN.below⟩;have t0:∀ k,k<w.heap.size→((tg.more w.heap.size od2 0).more w1.heap.size J 0) k=tg k:=fun k hk=>by
   rw [Tags.zD (zR8 hk q1.below.size),Tags.zD hk]
  have t1:∀ k,k<w1.heap.size→((tg.more w.heap.size od2 0).more w1.heap.size J 0) k=(tg.more w.heap.size od2 0) k:=fun k hk=>Tags.zD hk;have hK:Kept (fun _=>False) tg w ((tg.more w.heap.size od2 0).more w1.heap.size J 0) w2:=Kept.yT (q1.trans q2) t0;refine ⟨_,[],[],hK.wider (fun x e=>e.elim),HH.out.1.keep hK (fun e=>e),HH.out.2.1.keep hK.size hK.tags (fun k hk e=>hK.block k hk (fun e=>e)),hL1.keep q2.below.size t1 (fun k hk _=>q2.below.block k hk),fun j f hf=>?_⟩;have hv:(YM D.names)[j]?=some (.string f.name):=by
   unfold YM M.Dsk.names;rw [HH.out.2.2.2,if_neg (by simp)];simp [hf]
  obtain ⟨g,hg,hg1,hg2,hc⟩:=ZM hN.own (fun e=>by rw [e] at hv;simp at hv);have hgl:=hN.own.lt g (by rw [hg];rfl);exact ⟨g,hg,hc j _ hv,hgl.2,by rw [Tags.zV hgl.1]⟩
 clear hN HL1 NMH k0 r0;have hFF:Hid D.yI:=HH.out.2.2.1;have hdd:Hid (D.dead=false):=HH.out.2.2.2;clear HH;go_wp2_with fail
 go_loopw [5] (fun ti wr=>∃ i:Nat,ti=.int .i64 (i:Int)∧i≤D.files.length∧Hid (Yx w tg rr od od2 r d s w.heap.size J L clock wc D ids ps ao (M.Zb D i) wr)) (fun ti _=>D.files.length-(intOf ti).toNat)
 case atStart=>exact ⟨0,rfl,zRH _,HC⟩
 case round =>
  obtain ⟨i,rfl,hi,HC⟩:=hrel;obtain ⟨c0,c5,f0,f5,hn⟩:=HC.out.at;by_cases hlt:i<D.files.length
  ·obtain ⟨f,hf⟩:∃ f,D.files[i]?=some f:=⟨_,zR6 hlt⟩;obtain ⟨g,rfl,cn⟩:=hn i f hf;have hltI:(i:Int)<(D.files.length:Int):=by omega
   obtain ⟨tgE,idsE,psE,hE,hDo,hT⟩:=HC.out.turn h1 h2 h3;have RD:=fun (W:World) (q:Q wr W)=>zDY tgE od d D ids ps hFF.out f.name W (hDo.keep q.below.size (fun _ _=>rfl) (fun k hk _=>q.below.block k hk));rw [M.zEe hFF.out hdd.out hf] at RD;dsimp only at RD;have RDH:Hid _:=RD;have HF:Hid (D.files[i]?=some f):=hf;clear RD hE hDo hT hn hf;go_upto_region 7 with fail
   go_region_held3 (fun w'=>w'.cell? ⟨r,0,none⟩=some (.pointer (some ⟨d,0,none⟩))∧w'.cell? ⟨g,i,none⟩=some (.string f.name))
    (first | exact ⟨c0,cn⟩ | exact hS4)
    (first | (go_at_call 42;refine (RDH.out _ ((Q.refl wr).drew)).mono ?_;rintro e w4 ⟨rfl,q4⟩;have hS4:w4.cell? ⟨r,0,none⟩=some (.pointer (some ⟨d,0,none⟩))∧w4.cell? ⟨g,i,none⟩=some (.string f.name):=⟨zA c0 (((Q.refl wr).drew).trans q4),zA cn (((Q.refl wr).drew).trans q4)⟩))
   all_goals
    have HC4:Hid (Yx w tg rr od od2 r d s w.heap.size J L clock wc D ids ps (some ⟨g,0,none⟩) (M.Zb D i) w4):=HC.out.q (((Q.refl wr).drew).trans q4);clear HC RDH hS4 q4 c0 c5 f0 f5 cn;obtain ⟨E,hap,hsy⟩:=M.zHd hFF.out HF.out;obtain ⟨tgE4,idsE4,psE4,hE4,_,hT4⟩:=HC4.out.turn h1 h2 h3;have AP:=zBY tgE4 od2 w.heap.size (M.Zb D i) idsE4 psE4 (M.zEf hFF.out i hi) f.name ⟨f.bytes.toArray⟩ w4 hE4;rw [show (⟨f.bytes.toArray⟩:ByteArray).data.toList=f.bytes from rfl,hap] at AP;dsimp only at AP;have APH:Hid _:=fun (_:Unit)=>AP;have HT4:Hid _:=hT4;have HEF:Hid E.yI:=by
     have:=(M.zEf hFF.out i hi).append f.name f.bytes;rw [hap] at this;exact this
    have HSY:Hid (E.sync f.name=(M.Zb D (i+1),0)):=hsy;obtain ⟨c0,c5,f0,f5,hn⟩:=HC4.out.at;obtain ⟨g',hg',cn⟩:=hn i f HF.out;obtain rfl:g=g':=by injection hg' with e;injection e
    clear AP hT4 hE4 hap hsy hn hg' HC4;go_wp2_with fail;refine (APH.out ()).mono ?_;rintro e w5 ⟨rfl,hL5⟩;have HC5:Hid (Yx w tg rr od od2 r d s w.heap.size J L clock wc D ids ps (some ⟨g,0,none⟩) E w5):=HT4.out _ _ hL5;clear HT4 APH hL5 c0 c5 f0 f5 cn;obtain ⟨tgE5,idsE5,psE5,hE5,_,hT5⟩:=HC5.out.turn h1 h2 h3;have SY:=zDX tgE5 od2 w.heap.size E idsE5 psE5 HEF.out f.name w5 hE5;rw [HSY.out] at SY;dsimp only at SY;have SYH:Hid _:=fun (_:Unit)=>SY;have HT5:Hid _:=hT5;obtain ⟨c0,c5,f0,f5,hn⟩:=HC5.out.at;obtain ⟨g',hg',cn⟩:=hn i f HF.out;obtain rfl:g=g':=by injection hg' with e;injection e
    clear SY hT5 hE5 hn hg' HC5;go_wp2_with fail;refine (SYH.out ()).mono ?_;rintro e w6 ⟨rfl,hL6⟩;have HC6:Hid (Yx w tg rr od od2 r d s w.heap.size J L clock wc D ids ps (some ⟨g,0,none⟩) (M.Zb D (i+1)) w6):=HT5.out _ _ hL6;clear HT5 SYH hL6 c0 c5 f0 f5 cn;obtain ⟨c0,c5,f0,f5,hn⟩:=HC6.out.at;clear hn;go_wp2_with fail
    go_roundw
    case rel=>exact ⟨i+1,by go_num,by omega,HC6.out.mark h1 h4 h5⟩
    case measure=>simp [intOf];omega
  ·obtain rfl:i=D.files.length:=by omega
   clear hn;go_wp2_with fail;go_end0;obtain ⟨tgE,idsE,psE,hK,hR,hDo,hE,_⟩:=HC.out;have hK':=Kept.setAt (w:=wr) (tg:=tgE) (R:=r) (r:=rr) (j:=0) (by rw [hR.tr]) (.pointer (some ⟨w.heap.size,0,none⟩));exact ⟨rfl,tgE,w.heap.size,idsE,psE,zR9 _,hK.trans (hK'.wider (fun x e=>Or.inl e)),hR.set 0 _ (by omega) rfl rfl rfl rfl rfl,hDo.keep hK'.size hK'.tags (fun k hk e=>hK'.block k hk (by rw [e];exact h4)),hE.keep hK'.size hK'.tags (fun k hk e=>hK'.block k hk (by rw [e];exact fun e=>h1 e.symm))⟩
namespace S
theorem yY.zDI {L:List zh} {clock water:Int} {T:Two} {X:Sto} {bs:List (List Rec)} {C:Con} (h:yY L clock water T X bs C) (ks:List Int):T.dsk.zDI ks=T.dsk:=by
 obtain ⟨b',e,hb⟩:=T.zMi ks (fun x n e=>by
  rcases h.a with ⟨e2,_⟩|e2
  ·rw [e2] at e;cases e
  ·rw [e2] at e;injection e with e;injection e with e3 e4;rw [←e3,←e4])
 rw [e,hb h.b];have h1:=h.alive;have h2:=h.fuse;have h3:=h.b;obtain ⟨c,a,b,de,fu⟩:=T;simp only at h1 h2 h3;subst h1 h2 h3;rfl
theorem yY.copy {L:List zh} {water:Int} {T:Two} {X:Sto} {C:Con} (h:yY L clock water T X bs C):M.Zb T.dsk T.dsk.files.length=T.dsk:=by
 unfold M.Zb;rw [zRp];have h1:=h.alive;have h2:=h.fuse;have h3:=h.b;have h4:=h.cap;have ha:=h.a;obtain ⟨c,a,b,de,fu⟩:=T;unfold zPw at ha;simp only at h1 h2 h3 h4 ha;subst h1 h2 h3 h4;rcases ha with ⟨e2,_⟩ | e2<;>subst e2<;>rfl
theorem yY.settle {L:List zh} {clock water:Int} {T:Two} {X:Sto} {bs:List (List Rec)} {C:Con} (h:yY L clock water T X bs C):S.settle T.dsk=(T.dsk,0):=by
 rw [zBS];have h1:=h.alive;have h2:=h.fuse;have h3:=h.b;have ha:=h.a;obtain ⟨c,a,b,de,fu⟩:=T;unfold zPw at ha;simp only at h1 h2 h3 ha;subst h1 h2 h3;rcases ha with ⟨e2,_⟩ | e2<;>subst e2<;>rfl
theorem yY.again {L:List zh} {water:Int} {T:Two} {X:Sto} {C:Con} (h:yY L clock water T X bs C) (hp:X.zZ=false):yY L clock water T (ZW X.fl bs.flatten bs.flatten.length) bs C∧(ZW X.fl bs.flatten bs.flatten.length).zZ=false:=by
 have hfew:=h.few.2;have hp':X.pend=[]∧X.wm=X.fl:=by
  unfold Sto.zZ at hp;simp only [decide_eq_false_iff_not] at hp;exact ⟨Classical.byContradiction fun e=>hp (Or.inl e),Classical.byContradiction fun e=>hp (Or.inr e)⟩
 have hw:=h.wm;have hf1:=h.good.fl1;have htop:=h.good.top;have hcon:(ZW X.fl bs.flatten bs.flatten.length).con C=X.con C:=by
  unfold Sto.con;rw [hp'.1];rfl
 have hgood:(ZW X.fl bs.flatten bs.flatten.length).Good bs C:=by
  refine ⟨zG3 h.good.fil.ord (by omega) (zR9 _),h.good.fil,fun k=>?_,fun kr hkr=>(by cases hkr),fun kr hkr=>(by cases hkr),hf1,Int.le_refl _,by show X.fl≤_;omega⟩;have h1:=(zDT h.good.fil.ord bs.flatten.length (zR9 _)).2.2 k;show zn (news (bs.flatten.take bs.flatten.length)) k=_
  rw [h1,zRp,←List.head?_map,←List.head?_map,(h.good.fil.holds k).tells.stamps]
 refine ⟨⟨h.facts,by show X.fl=water;omega,h.wc,h.top,rfl,hgood,fun k=>?_,h.cap,h.a,h.b,h.alive,h.fuse,h.room⟩,by unfold Sto.zZ ZW;simp⟩;obtain ⟨n,g1,g2⟩:=h.keeps k;refine ⟨n,by rw [hcon];exact g1,?_⟩;show needs X.fl _≤n
 rw [←hp'.2];exact g2
end S
theorem zC.owner {o o':Nat} (h:zC w tg o d D ids ps) (ht:∀ k,k<w.heap.size→(tg k).1=o→tg' k=(o',(tg k).2)):zC w tg' o' d D ids ps:=by
 have hh:∀ k u,k<w.heap.size→tg k=(o,u)→tg' k=(o',u):=fun k u hk e=>by rw [ht k hk (by rw [e]),e]
 obtain ⟨a1,k1,r1,r2,r3⟩:=h.map.keys;obtain ⟨a2,k2,s1,s2,s3⟩:=h.map.vals;refine ⟨⟨h.map.fr,hh d _ h.map.top h.map.td,h.map.top,⟨a1,k1,r1,r2,fun g hg=>hh g _ (r2.lt g hg).2 (r3 g hg)⟩,⟨a2,k2,s1,s2,fun g hg=>hh g _ (s2.lt g hg).2 (s3 g hg)⟩,h.map.len⟩,h.c0,h.c3,h.c4,h.nodup,h.lenI,fun i p id f h1 h2 h3=>?_⟩;obtain ⟨bo,bc,hF⟩:=h.file i p id f h1 h2 h3;exact ⟨bo,bc,hF.c0,hF.c1,hF.fr,hF.own,hh p _ hF.top hF.tp,fun g hg=>hh g _ (hF.own.lt g hg).2 (hF.tb g hg),hF.top⟩
def zLP (tg:Tags):Tags:=fun k=>if (tg k).1=1 then tg k else if (tg k).1=20 then (2,(tg k).2) else (0,0)
theorem zJH (tg:Tags) (k:Nat):(zLP tg k).1<10∧(zLP tg k).1≠3:=by
 unfold zLP;split
 ·rename_i h;rw [h];omega
 split<;>simp
def zFd (w0:World) (ks:List Int) (ko:Option Addr):Prop:=∀ (j:Nat) (x:Int),ks[j]?=some x→∃ b off,ko=some ⟨b,off,none⟩∧w0.cell? ⟨b,off+j,none⟩=some (.int .i64 x)∧b<w0.heap.size
theorem zH0 {P:Nat→Prop} (q:Q w0 w) (z:∀ k,k<w0.heap.size→(tg k).1=0) (hK:Kept P tg w tg' w') (h0:¬P 0):Q w0 w'∧∀ k,k<w0.heap.size→(tg' k).1=0:=by
 have hs:=q.below.size;exact ⟨⟨⟨hK.os.trans q.below.os,hK.tape.trans q.below.tape,hK.output.trans q.below.output,zRK hs hK.size,fun k hk=>(hK.block k (by omega) (by rw [z k hk];exact h0)).trans (q.below.block k hk)⟩⟩,fun k hk=>by rw [hK.tags k (by omega)];exact z k hk⟩
theorem zNd {w3:World} {tg3:Tags} {d':Nat} {L:List S.zh} {water fl:Int} {T0 T2:S.Two} {C:S.Con} {i7 i8:List Nat} (hR3:ZU w3 tg3 1 r d' s L clock wc true) (hE3:zC w3 tg3 20 d' T0.dsk i7 i8) (hF0:T0.dsk.yI) (hF2:T2.dsk.yI) (hO:zBL False T0.dsk bs fl) (hset:S.settle T0.dsk=(T2.dsk,0)) (hok:S.yY L clock water T2 (ZW fl bs.flatten bs.flatten.length) bs C) (hT3:Tab w3) (q3:Q w0 w3) (z:∀ k,k<w0.heap.size→(tg3 k).1=0) (hG1:(tg3 1).1≠1) (hG2:(tg3 1).1≠20) :
  Calls Tryz.prog 18 #[.pointer (some ⟨d',0,none⟩)] w3 fun e w4=>∃ s',e=.returned (.tuple #[.pointer (some ⟨s',0,none⟩),.int .i64 0])∧w4.cell? ⟨r,1,none⟩=some (.pointer (some ⟨s,0,none⟩))∧w4.cell? ⟨r,5,none⟩=some (.bool true)∧w4.frozen? ⟨r,1,none⟩=false∧RB w0 (w4.setCell ⟨r,1,none⟩ (.pointer (some ⟨s',0,none⟩))) r s' d' L clock wc water (fun X=>X.zZ=false):=by
 have hG:=Z8 hT3;have hGt:(zLP tg3 1).1=0:=by
  unfold zLP;rw [if_neg hG1,if_neg hG2]
 have z3:∀ k,k<w0.heap.size→(zLP tg3 k).1=0:=fun k hk=>by
  unfold zLP;rw [if_neg (by rw [z k hk];omega),if_neg (by rw [z k hk];omega)]
 have hL3:zC w3 (zLP tg3) 2 d' T0.dsk i7 i8:=hE3.owner (fun k _ e=>by unfold zLP;rw [if_neg (by omega),if_pos e]);have hRF:ZU w3 (zLP tg3) 1 r d' s L clock wc true:=hR3.retag (fun k _ e=>by unfold zLP;rw [if_pos e]);have hfew:=hok.few.2;refine (zFx (o:=3) (od:=2) (m:=10) (d:=d') (T0:=T0) (bs:=bs) (C:=C) (bad:=False) (wm:=fl) hL3 hF0 hO hok.good.fil hT3 (by omega) (fun k _=>(zJH tg3 k).1) (fun k _=>(zJH tg3 k).2) (by omega) (by omega)).mono ?_;rintro e w4 ⟨tg4,i9,i10,hK4,hl4,hc⟩;rw [hset] at hc;rcases hc with ⟨hf,_⟩|⟨hf,_⟩|⟨_,s',hs',rfl,hS4,hD4⟩
 ·exact hf.elim
 ·exact absurd rfl hf
 have hR4:=hRF.keep hK4 (by omega);have hset:=Kept.setAt (w:=w4) (tg:=tg4) (R:=r) (r:=1) (j:=1) (by rw [hR4.tr]) (.pointer (some ⟨s',0,none⟩));have hKK:Kept (fun x=>x=1∨x=2) (zLP tg3) w3 tg4 (w4.setCell ⟨r,1,none⟩ (.pointer (some ⟨s',0,none⟩))):=(hK4.wider (fun x e=>Or.inr e)).trans (hset.wider (fun x e=>Or.inl e));have hGt4:(tg4 1).1=0:=by rw [hK4.tags _ hG];exact hGt
 have qz:=zH0 q3 z3 hKK (by omega);refine ⟨s',rfl,hR4.c1,hR4.c5,hR4.fr 1,tg4,T2,_,bs,C,⟨⟨hR4.set 1 _ (by omega) rfl rfl rfl rfl rfl,⟨[],[],i9,i10,⟨hS4.keep hset.size hset.tags (fun k hk e=>hset.block k hk (by rw [e];omega)),hD4.keep hset.size hset.tags (fun k hk e=>hset.block k hk (by rw [e];omega)),hF2,hok.on,hok.good,yg hT3 (hKK.block _ hG (by rw [hGt];omega)),by rw [hGt4];exact ⟨by omega,by omega⟩,by omega,hok.b,hok.alive,fun k hk=>hl4 k (by simpa using hk),by omega,by omega,by omega⟩⟩,hok,by omega,by omega,by rw [hGt4];omega,by omega⟩,qz.1,qz.2,by omega⟩,by unfold S.Sto.zZ ZW;simp⟩
theorem zNW {L:List S.zh} {water:Int} (h:RB w0 w r s d L clock wc water P) (ks:List Int) (ko:Option Addr) (kc:Nat) (hk:zFd w0 ks ko) :
  Calls Tryz.prog 23 #[.pointer (some ⟨r,0,none⟩),.slice ko ks.length kc] w fun e w'=>e=.returned (.tuple #[])∧∃ s' d',RB w0 w' r s' d' L clock wc water (fun X=>X.zZ=false):=by
 have FL:Hid _:=fun (_:Unit)=>zCD h;have HK:Hid (zFd w0 ks ko):=hk;clear h hk;go_enter Tryz.func23,Tryz.ntmps23;go_wp2_with fail;refine (FL.out ()).mono ?_;rintro e w1 ⟨rfl,tg,T,X,bs,C,hB,hp⟩;obtain ⟨i1,i2,i3,i4,hr⟩:=hB.run.rdy;have c0:=hB.run.run.c0;have CR:=zMf tg 2 d T.dsk i3 i4 hr.fine ks ko kc w1 (fun j x hx=>by
  obtain ⟨b,off,g1,g2,g3⟩:=HK.out j x hx;exact ⟨b,off,g1,zA g2 hB.q,zR8 g3 hB.q.below.size,by rw [hB.z b g3];omega⟩) hr.disk
 rw [hB.run.ok.zDI ks] at CR;have CRH:Hid _:=fun (_:Unit)=>CR;have HB:Hid (zI1 w0 w1 tg 10 1 3 2 r s d L clock wc water T X bs C∧X.zZ=false∧T.dsk.yI∧Tab w1):=⟨hB,hp,hr.fine,hr.tab⟩;clear FL CR hB hp hr HK;go_wp2_with fail;refine (CRH.out ()).mono ?_;rintro e w2 ⟨rfl,tg2,i5,i6,ht2,hD2,ho2⟩;have hK2:Kept (·=2) tg w1 tg2 w2:=Kept.yA ho2 ht2 rfl;have hR2:=HB.out.1.run.run.keep hK2 (by omega);have CP:Hid _:=fun (_:Unit)=>zL8 (od2:=20) (J:=0) hR2 hD2 HB.out.2.2.1 (by rw [show T.dsk.dead=T.dead from rfl];exact HB.out.1.run.ok.alive) (by omega) (by omega) (by omega) (by omega) (by omega);have HK2:Hid (Kept (·=2) tg w1 tg2 w2):=hK2;clear hD2 ho2 ht2 hK2 hR2 CRH c0;go_wp2_with fail;refine (CP.out ()).mono ?_;rintro e w3 ⟨rfl,tg3,d',i7,i8,hd',hK3,hR3,_,hE3⟩;rw [HB.out.1.run.ok.copy] at hE3;obtain ⟨hB,hp,hfine,htab⟩:=HB.out;have hK:Kept (fun x=>x=1∨x=2∨x=20) tg w1 tg3 w3:=(HK2.out.wider (fun x e=>Or.inr (Or.inl e))).trans (hK3.wider (fun x e=>by rcases e with e | e<;>simp [e]));obtain ⟨q3,t3⟩:=zH0 hB.q hB.z hK (by omega);obtain ⟨j1,j2,j3,j4,hr⟩:=hB.run.rdy;have hG:=Z8 htab;have hGl:=hr.low _ hG;have hG1:=hB.run.rG;have hG2:=hr.tabo;have OP:Hid _:=fun (_:Unit)=>zNd (w0:=w0) hR3 hE3 hfine hfine hB.run.ok.on hB.run.ok.settle (hB.run.ok.again hp).1 (yg htab (hK.block _ hG (by omega))) q3 t3 (by rw [hK.tags _ hG];exact hG1) (by rw [hK.tags _ hG];omega);have c0:=hR3.c0;clear CP HK2 hd' hK3 hR3 hE3 hB hp hfine htab hK t3 q3 hr hG hGl hG1 hG2 HB;go_wp2_with fail;refine (OP.out ()).mono ?_;rintro e w4 ⟨s',rfl,c1,c5,f1,hRB⟩;have HX:Hid (RB w0 (w4.setCell ⟨r,1,none⟩ (.pointer (some ⟨s',0,none⟩))) r s' d' L clock wc water (fun X=>X.zZ=false)):=hRB;clear hRB OP c0;go_wp2_with fail;go_end0;exact ⟨rfl,s',d',HX.out⟩
theorem RB.mark {L:List S.zh} {water:Int} (h:RB w0 w r s d L clock wc water P):RB w0 (w.setCell ⟨r,5,none⟩ (.bool true)) r s d L clock wc water P:=by
 obtain ⟨tg,T,X,bs,C,hB,hP⟩:=h;obtain ⟨i1,i2,i3,i4,hr⟩:=hB.run.rdy;have hset:=Kept.setAt (w:=w) (tg:=tg) (R:=r) (r:=1) (j:=5) (by rw [hB.run.run.tr]) (.bool true);obtain ⟨tg',hR,hK'⟩:=Run.fin (P:=(·=1)) hr.low hr.tab ⟨hr.tabo.1,hr.tabo.2,hB.run.rG⟩ ⟨hr.om,hr.odm,hB.run.rm⟩ ⟨hr.ne,hB.run.ro,hB.run.rod⟩ hset (fun x e=>Or.inr (Or.inr e)) (hB.run.run.set 5 (.bool true) (d':=d) (s':=s) (clock':=clock) (water':=wc) (ok':=true) (by omega) rfl rfl rfl rfl rfl) (hr.sto.keep hset.size hset.tags (fun k hk e=>hset.block k hk (by rw [e];omega))) (hr.disk.keep hset.size hset.tags (fun k hk e=>hset.block k hk (by rw [e];omega))) hr.fine hB.run.ok;exact ⟨tg',T,X,bs,C,hB.next hR hK' (fun x e=>by simp [e]),hP⟩
theorem RB.nums {L:List S.zh} {water:Int} (h:RB w0 w r s d L clock wc water P):(∀ g∈L,0≤g.stamp∧g.stamp≤clock)∧water≤clock∧clock≤1099511627776∧-1≤water:=by
 obtain ⟨tg,T,X,bs,C,hB,_⟩:=h;have h1:=hB.run.ok.good.fl1;have h2:=hB.run.ok.good.fl2;have h3:=hB.run.ok.wm;exact ⟨hB.run.ok.facts.top,hB.run.ok.wc,hB.run.ok.top,by omega⟩
def Stepped (w0:World) (r:Nat) (L:List S.zh) (clock:Int) (n:Nat) (e:Ending) (w':World):Prop:=
 e=.returned (.tuple #[])∧∃ (s' d':Nat) (L':List S.zh) (clock' water':Int),RB w0 w' r s' d' L' clock' water' water' (fun _=>True)∧0≤clock'∧clock'≤clock+4∧S.Yb L'≤S.Yb L+36+n
theorem YH {L:List S.zh} {water:Int} (n:Nat) (h:RB w0 w' r s d L clock water water P) (h0:0≤clock):Stepped w0 r L clock n (.returned (.tuple #[])) w':=
 ⟨rfl,s,d,L,clock,water,h.any,h0,by omega,by omega⟩
theorem zQA {L:List S.zh} {water:Int} (qB:∃ w1,RB w0 w1 r s d L clock water water (fun _=>True)∧Q w1 w∧w1.heap.size≤B∧B<w.heap.size) (key:ByteArray) (hk:1≤key.size∧key.size≤5) (stamp:Int) (h1:clock<stamp) (h0:0≤clock) (h2:stamp≤clock+4) (ht:stamp≤1099511627776) (c:ByteArray) (hc:c.size≤4096) (hroom:36+2*(S.Yb L+36+c.size)≤1048576) :
  Calls Tryz.prog 9 #[.pointer (some ⟨r,0,none⟩),.agg #[.string key,.int .i64 stamp,.string c,.bool true]] w fun e w'=>Stepped w0 r L clock c.size e w'∧w'.heap[B]?=w.heap[B]?:=by
 obtain ⟨w1,⟨tg,T,X,bs,C,hB,_⟩,q,b1,b2⟩:=qB;have hB2:=hB.qq q;obtain ⟨i1,i2,i3,i4,hr⟩:=hB.run.rdy;have htop:=hB.run.ok.facts.top;have hwc:=hB.run.ok.wc;have hcost:S.Yb (L++[⟨key,stamp,c,true⟩])≤S.Yb L+36+c.size:=by
  rw [S.zFV];simp only [S.zh.cost];omega
 refine (zLp hB2.run key stamp c (fun g hg=>by have:=htop g hg;omega) (by omega) (by omega) ht (by omega) hc (by omega)).mono ?_;rintro e w' ⟨rfl,tg',X',hR,hK⟩;refine ⟨⟨rfl,s,d,_,stamp,water,⟨tg',T,X',bs,C,hB2.next hR hK (fun x e=>by rcases e with e | e<;>simp [e]),trivial⟩,by omega,h2,hcost⟩,?_⟩;refine hK.block B b2 ?_;have e:junk tg w1 B=((tg 1).1,0):=by unfold junk;exact Tags.zV b1
 rw [e];have h3:=hB.run.rG;have h4:=hr.tabo.1;rintro (e|e)
 ·exact h3 e
 ·exact h4 e
theorem zQT {L:List S.zh} {water:Int} (qB:∃ w1,RB w0 w1 r s d L clock water water (fun _=>True)∧Q w1 w∧w1.heap.size≤B∧B<w.heap.size) (key:ByteArray) (hk:1≤key.size∧key.size≤5) (stamp:Int) (h1:clock<stamp) (h0:0≤clock) (h2:stamp≤clock+4) (ht:stamp≤1099511627776) (n:Nat) (hroom:36+2*(S.Yb L+36+n)≤1048576) :
  Calls Tryz.prog 9 #[.pointer (some ⟨r,0,none⟩),.agg #[.string key,.int .i64 stamp,.string ⟨#[]⟩,.bool false]] w fun e w'=>Stepped w0 r L clock n e w'∧w'.heap[B]?=w.heap[B]?:=by
 obtain ⟨w1,⟨tg,T,X,bs,C,hB,_⟩,q,b1,b2⟩:=qB;have hB2:=hB.qq q;obtain ⟨i1,i2,i3,i4,hr⟩:=hB.run.rdy;have htop:=hB.run.ok.facts.top;have hwc:=hB.run.ok.wc;have hcost:S.Yb (L++[⟨key,stamp,⟨#[]⟩,false⟩])≤S.Yb L+36+n:=by
  rw [S.zFV];have e:(⟨#[]⟩:ByteArray).size=0:=rfl;simp only [S.zh.cost,e];omega
 refine (zP6 hB2.run key stamp (fun g hg=>by have:=htop g hg;omega) (by omega) (by omega) ht (by omega) (by omega)).mono ?_;rintro e w' ⟨rfl,tg',X',hR,hK⟩;refine ⟨⟨rfl,s,d,_,stamp,water,⟨tg',T,X',bs,C,hB2.next hR hK (fun x e=>by rcases e with e | e<;>simp [e]),trivial⟩,by omega,h2,hcost⟩,?_⟩;refine hK.block B b2 ?_;have e:junk tg w1 B=((tg 1).1,0):=by unfold junk;exact Tags.zV b1
 rw [e];have h3:=hB.run.rG;have h4:=hr.tabo.1;rintro (e|e)
 ·exact h3 e
 ·exact h4 e
def zIB (kind key ahead:Int) (v:ByteArray) (ko:Option Addr) (n kc:Nat):Value:=.agg #[.int .i64 kind,.int .i64 key,.int .i64 ahead,.string v,.slice ko n kc]
end Go.Proofs.YtekdenkllipehabGreatDoor
