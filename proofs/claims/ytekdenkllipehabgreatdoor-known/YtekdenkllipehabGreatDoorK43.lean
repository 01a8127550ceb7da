import Derived.Test.YtekdenkllipehabGreatDoorK31
import Derived.Test.YtekdenkllipehabGreatDoorK41
import Derived.Test.YtekdenkllipehabGreatDoorK42
set_option maxRecDepth 100000
set_option maxHeartbeats 8000000
namespace Go.Proofs.YtekdenkllipehabGreatDoor
open Go.RowKit
def TextAs (bad:Prop) (T:List UInt8) (bs:List (List Rec)) (wm:Int):Prop:=
 match S.readFile T with
 | none=>bad
 | some L=>L.wm=wm∧L.ents=S.entsOf 0 bs∧LaidAs bad ⟨L.blocks.toArray⟩ bs
theorem TextAs.whole {bs:List (List Rec)} {wm:Int} (bad:Prop) (hok:∀ b∈bs,S.OkB b) (hw:-1≤wm) (hw2:wm≤1099511627776) (hs:(S.fileText bs wm).length≤1048576):TextAs bad (S.fileText bs wm) bs wm:=by
 unfold TextAs
 rw [S.readFile_sits hok hw hw2 hs]
 exact ⟨rfl,rfl,LaidAs.whole bad bs⟩
structure OnDisk (bad:Prop) (D:M.Dsk) (bs:List (List Rec)) (wm:Int):Prop where
 alive:D.dead=false
 file:((D.read laidN).2=7∧bs=[]∧wm=-1)∨((D.read laidN).2=0∧TextAs bad (D.read laidN).1 bs wm)
def Reads (bad:Prop) (bs:List (List Rec)) (wm:Int) (w:World) (e:Ending) (w':World):Prop:=
 (∃ bl ao cap,LaidAs bad bl bs∧bl.size≤1048576∧e=.returned (.tuple #[layVal wm bl ao bs.length cap,.int .i64 0])∧EntsAt w' ao (S.entsOf 0 bs)∧∀ a,ao=some a→w.heap.size≤a.block)
 ∨ (bad∧e=.returned (.tuple #[noLay,.int .i64 3]))
theorem S.blkOf_many:∀ bs:List (List Rec),bs.length≤(S.blkOf bs).length
 | []=>Nat.le_refl _
 | b::bs=>by
  have:=S.blkOf_many bs
  have h4:4≤(S.blkText b).length:=by unfold S.blkText;rw [M.sealed_length];omega
  have e:S.blkOf (b::bs)=S.blkText b++S.blkOf bs:=by simp [S.blkOf]
  rw [e,List.length_append,List.length_cons]
  omega
theorem LaidAs.few {bad:Prop} {bl:ByteArray} {bs:List (List Rec)} (h:LaidAs bad bl bs) (hb:bl.size≤1048576):bs.length≤1048576:=by
 have:=S.blkOf_many bs
 have:=h.size
 omega
theorem readFile_small {T:List UInt8} {L:S.Lay} (h:S.readFile T=some L):L.blocks.length≤T.length:=by
 unfold S.readFile at h
 cases h1:S.cutEnd T 8 with
 | none=>rw [h1] at h;cases h
 | some p =>
  obtain ⟨A,foot⟩:=p
  rw [h1] at h
  simp only at h
  cases h2:S.cutEnd A (((numTo foot 72057594037927935 0).1:Int)-2097152) with
  | none=>rw [h2] at h;cases h
  | some p =>
   obtain ⟨bl,idx⟩:=p
   rw [h2] at h
   simp only at h
   have l1:=(cutEnd_len h1).1
   have l2:=(cutEnd_len h2).1
   unfold S.readIdx at h
   simp only at h
   split at h
   ·cases h
   ·injection h with h
    subst h
    exact Nat.le_trans l2 l1
theorem storeReads (tg:Tags) (o d:Nat) (D:M.Dsk) (ids ps:List Nat) (hD:D.Fine) {bad:Prop} {bs:List (List Rec)} {wm:Int} (hO:OnDisk bad D bs wm) (w:World) (h:LDiskAt w tg o d D ids ps) (hT:Tab w) :
  Calls Tryz.prog 62 #[.pointer (some ⟨d,0,none⟩)] w fun e w'=>Reads bad bs wm w e w'∧Q w w':=by
 refine (storeRead tg o d D ids ps hD w h hT).mono ?_
 rintro e w' ⟨hR,q⟩
 refine ⟨?_,q⟩
 have hs:=read_small hD laidN
 unfold ReadSaid at hR
 rcases hO.file with ⟨h7,rfl,rfl⟩|⟨h0,hTx⟩
 ·obtain ⟨⟨x,c⟩,hx⟩:∃ p,p=D.read laidN:=⟨_,rfl⟩
  rw [←hx] at hR h7
  simp only at h7
  subst h7
  exact Or.inl ⟨⟨#[]⟩,none,0,⟨rfl,fun i b p hi=>by simp at hi⟩,by simp [ByteArray.size],hR,Or.inl rfl,fun a ha=>by cases ha⟩
 ·obtain ⟨⟨x,c⟩,hx⟩:∃ p,p=D.read laidN:=⟨_,rfl⟩
  rw [←hx] at hR h0 hTx hs
  simp only at h0 hTx hs
  subst h0
  unfold TextAs at hTx
  simp only at hR
  unfold LaySaid at hR
  cases hf:S.readFile x with
  | none =>
   rw [hf] at hR hTx
   exact Or.inr ⟨hTx,hR⟩
  | some L =>
   rw [hf] at hR hTx
   obtain ⟨ao,cap,he,hE,ha⟩:=hR
   obtain ⟨h1,h2,h3⟩:=hTx
   rw [h2] at hE he
   rw [S.entsOf_length,h1] at he
   refine Or.inl ⟨_,ao,cap,h3,?_,he,hE,ha⟩
   have:=readFile_small hf
   simp [ByteArray.size]
   omega
def S.Sto.vAt (X:S.Sto) (C:S.Con) (k:ByteArray) (t:Int):ByteArray × Bool:=
 match X.pendAt k t with
 | some r=>(r.body,decide (r.kind=0))
 | none=>S.told (S.firstAt (C k) t)
def vEnd (p:ByteArray × Bool):Ending:=.returned (.tuple #[.string p.1,.bool p.2,.int .i64 0])
theorem stoValueAt {w:World} {tg tg':Tags} {o s d od:Nat} {X:S.Sto} {ids ps ids' ps':List Nat} {D:M.Dsk} {bad:Prop} {bs:List (List Rec)} {wm:Int} {C:S.Con} (h:StoAt w tg o s d X ids ps) (hX:X.Ok) (hd:LDiskAt w tg' od d D ids' ps') (hD:D.Fine) (hO:OnDisk bad D bs wm) (hF:S.Fil theAp bs C) (hT:Tab w)
  (hn:∀ k,S.lookK X.newest k=none→C k=[]) (k:ByteArray) (t:Int) :
  Calls Tryz.prog 46 #[.pointer (some ⟨s,0,none⟩),.string k,.int .i64 t] w fun e w'=>(e=vEnd (X.vAt C k t)∨(bad∧e=badEnd))∧Q w w':=by
 have PA:Hid _:=fun (W:World) (q:Q w W)=>pendingAt_any (h.kept q) hX k t
 have NG:Hid _:=fun (W:World) (q:Q w W)=>newestGet (h.kept q) hX k
 have SR:Hid _:=fun (W:World) (q:Q w W)=>storeReads tg' od d D ids' ps' hD hO W (hd.kept q) (tab_kept hT q)
 have LV:Hid _:=fun (bl:ByteArray) (ao:Option Addr) (cap:Nat) (hL:LaidAs bad bl bs) (hb:bl.size≤1048576) (W:World) (q:Q w W) (hE:EntsAt W ao (S.entsOf 0 bs))=>layValueAt hL hb hF (hL.few hb) wm ao cap k t W hE (tab_kept hT q)
 have c0:=h.c0
 have hn':=hn k
 clear h hX hd hD hO hF hT hn
 cases hp:X.pendAt k t with
 | some r =>
  have hv:X.vAt C k t=(r.body,decide (r.kind=0)):=by simp [S.Sto.vAt,hp]
  have hdc:decide (r.kind=0)=(r.kind == 0):=by
   by_cases h0:r.kind=0
   ·simp [h0]
   ·rw [decide_eq_false h0];exact (beq_eq_false_iff_ne.2 h0).symm
  rw [hv,hdc]
  rw [hp] at PA
  simp only [Option.getD_some,Option.isSome_some] at PA
  unfold Rec.val at PA
  clear NG SR LV hv hp hn' c0 hdc
  go_enter Tryz.func46,Tryz.ntmps46
  go_wp2_with fail
  refine (PA.out _ (Q.refl w)).mono ?_
  rintro e w1 ⟨rfl,q1⟩
  clear PA
  go_wp2_with fail
  go_quiet (fail)
  go_wp2_with fail
  go_ret3
  exact ⟨Or.inl rfl,(by first | exact (q1.alloc _ _).drewN _ | exact (q1.alloc _ _).drew)⟩
 | none =>
  have hv:X.vAt C k t=S.told (S.firstAt (C k) t):=by simp [S.Sto.vAt,hp]
  rw [hv]
  rw [hp] at PA
  simp only [Option.getD_none,Option.isSome_none] at PA
  unfold zeroRec Rec.val at PA
  cases hnk:S.lookK X.newest k with
  | none =>
   have hz:vEnd (S.told (S.firstAt (C k) t))=.returned (.tuple #[.string ⟨#[]⟩,.bool false,.int .i64 0]):=by
    rw [hn' hnk];rfl
   rw [hz]
   rw [hnk] at NG
   simp only [Option.getD_none,Option.isSome_none] at NG
   clear SR LV hv hp hn' c0 hz hnk
   go_enter Tryz.func46,Tryz.ntmps46
   go_wp2_with fail
   refine (PA.out _ (Q.refl w)).mono ?_
   rintro e w1 ⟨rfl,q1⟩
   clear PA
   have NG2:Hid _:=fun (_:Unit)=>NG.out _ (q1.alloc #[.string ⟨#[]⟩,.int .i64 0,.int .i64 0,.string ⟨#[]⟩] 62)
   clear NG
   go_wp2_with fail
   refine (NG2.out ()).mono ?_
   rintro e w2 ⟨rfl,q2⟩
   have q3:=(q1.alloc #[.string ⟨#[]⟩,.int .i64 0,.int .i64 0,.string ⟨#[]⟩] 62).trans q2
   clear NG2 q1 q2
   go_wp2_with fail
   go_ret3
   exact ⟨Or.inl rfl,q3⟩
  | some nn =>
   have hte:vEnd (S.told (S.firstAt (C k) t))=toldEnd (S.firstAt (C k) t):=rfl
   rw [hte]
   obtain ⟨tv,htv⟩:∃ tv,S.told (S.firstAt (C k) t)=tv:=⟨_,rfl⟩
   unfold toldEnd at LV ⊢
   rw [htv] at LV ⊢
   rw [hnk] at NG
   simp only [Option.getD_some,Option.isSome_some] at NG
   clear hv hp hn' hnk hte htv
   go_enter Tryz.func46,Tryz.ntmps46
   go_wp2_with fail
   refine (PA.out _ (Q.refl w)).mono ?_
   rintro e w1 ⟨rfl,q1⟩
   clear PA
   have NG2:Hid _:=fun (_:Unit)=>NG.out _ (q1.alloc #[.string ⟨#[]⟩,.int .i64 0,.int .i64 0,.string ⟨#[]⟩] 62)
   clear NG
   go_wp2_with fail
   refine (NG2.out ()).mono ?_
   rintro e w2 ⟨rfl,q2⟩
   have q3:=(q1.alloc #[.string ⟨#[]⟩,.int .i64 0,.int .i64 0,.string ⟨#[]⟩] 62).trans q2
   have SR2:Hid _:=fun (_:Unit)=>SR.out w2 q3
   have k0:=kept_cell c0 q3
   clear NG2 q1 q2 SR c0
   go_wp2_with fail
   refine (SR2.out ()).mono ?_
   rintro e w3 ⟨hR,q4⟩
   have q5:=q3.trans q4
   clear SR2 q3 q4 k0
   rcases hR with ⟨bl,ao,cap,hL,hb,rfl,hE,_⟩|⟨hbad,rfl⟩
   ·have q6:=q5.alloc #[.int .i64 wm,.string bl,.slice ao bs.length cap] 124
    have LV2:Hid _:=fun (_:Unit)=>LV.out bl ao cap hL hb _ q6 (hE.kept ((Q.refl w3).alloc _ _))
    clear LV hL hb hE q5
    unfold layVal at *
    go_wp2_with fail
    refine (LV2.out ()).mono ?_
    rintro e w4 ⟨hA,q8⟩
    have q7:=q6.trans q8
    clear LV2 q6 q8
    rcases hA with rfl|⟨hbad,rfl⟩
    ·go_wp2_with fail
     go_ret3
     exact ⟨Or.inl rfl,q7⟩
    ·unfold badEnd
     go_wp2_with fail
     go_ret3
     exact ⟨Or.inr ⟨hbad,rfl⟩,q7⟩
   ·clear LV
    unfold noLay
    go_wp2_with fail
    go_ret3
    exact ⟨Or.inr ⟨hbad,rfl⟩,q5.alloc _ _⟩
structure But (c:Nat) (w w':World):Prop where
 os:w'.os=w.os
 tape:w'.tape=w.tape
 output:w'.output=w.output
 size:w.heap.size≤w'.heap.size
 block:∀ k,k<w.heap.size→k≠c→w'.heap[k]?=w.heap[k]?
theorem But.refl (c:Nat) (w:World):But c w w:=⟨rfl,rfl,rfl,Nat.le_refl _,fun _ _ _=>rfl⟩
theorem But.of_q {c:Nat} {w w':World} (q:Q w w'):But c w w':=⟨q.below.os,q.below.tape,q.below.output,q.below.size,fun k hk _=>q.below.block k hk⟩
theorem But.trans {c:Nat} {a b d:World} (h:But c a b) (k:But c b d):But c a d:=
 ⟨k.os.trans h.os,k.tape.trans h.tape,k.output.trans h.output,Nat.le_trans h.size k.size,fun i hi hn=>(k.block i (Nat.lt_of_lt_of_le hi h.size) hn).trans (h.block i hi hn)⟩
theorem But.set {c:Nat} {w w':World} (h:But c w w') (j:Nat) (v:Value):But c w (w'.setCell ⟨c,j,none⟩ v):=
 ⟨h.os,h.tape,h.output,by simpa using h.size,fun k hk hn=>(heap_setCell_other w' ⟨c,j,none⟩ k v (fun e=>hn (by simpa using e))).trans (h.block k hk hn)⟩
theorem EntsAt.but {w w':World} {c:Nat} {ao:Option Addr} {l:List S.Ent} (h:EntsAt w ao l) (hb:But c w w') (hn:∀ a,ao=some a→l≠[]→a.block≠c):EntsAt w' ao l:=by
 by_cases hl:l=[]
 ·exact Or.inl hl
 rcases h with h|⟨g,rfl,hg,hc⟩
 ·exact Or.inl h
 ·have e:w'.heap[g]?=w.heap[g]?:=hb.block g hg (hn _ rfl hl)
  have k:∀ j,w'.cell? ⟨g,j,none⟩=w.cell? ⟨g,j,none⟩:=fun j=>World.cell?_of_block (a:=⟨g,j,none⟩) e
  refine Or.inr ⟨g,rfl,Nat.lt_of_lt_of_le hg hb.size,fun i x hi=>?_⟩
  obtain ⟨a,b,d,f⟩:=hc i x hi
  exact ⟨(k _).trans a,(k _).trans b,(k _).trans d,(k _).trans f⟩
theorem Rcs.but {w w':World} {c:Nat} {ao:Option Addr} {l:List Rec} (h:Rcs w ao l) (hb:But c w w') (hn:∀ a,ao=some a→a.block≠c):Rcs w' ao l:=by
 rcases h with h|⟨g,off,rfl,hg,hc⟩
 ·exact Or.inl h
 ·have e:w'.heap[g]?=w.heap[g]?:=hb.block g hg (hn _ rfl)
  have k:∀ j,w'.cell? ⟨g,j,none⟩=w.cell? ⟨g,j,none⟩:=fun j=>World.cell?_of_block (a:=⟨g,j,none⟩) e
  refine Or.inr ⟨g,off,rfl,Nat.lt_of_lt_of_le hg hb.size,fun i x hi=>?_⟩
  obtain ⟨a,b,d,f⟩:=hc i x hi
  exact ⟨(k _).trans a,(k _).trans b,(k _).trans d,(k _).trans f⟩
def curVals (wm:Int) (bl:ByteArray) (ao:Option Addr) (n cap:Nat) (nx:Nat) (lo:Option Addr) (ln lc:Nat):List Value:=[.int .i64 wm,.string bl,.slice ao n cap,.int .i64 (nx:Int),.slice lo ln lc]
structure CurIn (bad:Prop) (w:World) (c:Nat) (bs:List (List Rec)) (wm:Int) (bl:ByteArray) (ao:Option Addr) (cap nx:Nat) (lo:Option Addr) (lc:Nat) (left rest:List Rec):Prop where
 laid:LaidAs bad bl bs
 small:bl.size≤1048576
 ok:∀ b∈bs,S.OkB b
 var:VarN w c (curVals wm bl ao bs.length cap nx lo left.length lc)
 ents:EntsAt w ao (S.entsOf 0 bs)
 entsN:∀ a,ao=some a→S.entsOf 0 bs≠[]→a.block≠c
 recs:Rcs w lo left
 recsN:∀ a,lo=some a→a.block≠c
 recsB:∀ a,lo=some a→a.block<w.heap.size
 cap:left.length≤lc
 next:nx≤bs.length
 rest:left++(bs.drop nx).flatten=rest
theorem CurIn.kept {bad:Prop} {w w':World} {c:Nat} {bs:List (List Rec)} {wm:Int} {bl:ByteArray} {ao:Option Addr} {cap nx:Nat} {lo:Option Addr} {lc:Nat} {left rest:List Rec} (h:CurIn bad w c bs wm bl ao cap nx lo lc left rest) (q:Q w w'):CurIn bad w' c bs wm bl ao cap nx lo lc left rest:=
 ⟨h.laid,h.small,h.ok,h.var.kept q,h.ents.kept q,h.entsN,h.recs.kept q,h.recsN,fun a ha=>Nat.lt_of_lt_of_le (h.recsB a ha) q.below.size,h.cap,h.next,h.rest⟩
theorem blkAns_one {bad:Prop} {b:List Rec} {w:World} {e:Ending} {w':World} (h:BlkAns bad b w e w'):∃ (ao:Option Addr) (n cap:Nat) (co:Int),e=.returned (.tuple #[.slice ao n cap,.int .i64 co]) ∧
  ((co=0∧n=b.length∧∃ base,w.heap.size≤base∧w'.ownsRow base 62 4 (.slice ao b.length cap) b.length (recCells b))∨(bad∧co=3)):=by
 rcases h with ⟨ao,cap,base,rfl,hb,ho⟩|⟨hb,rfl⟩
 ·exact ⟨ao,b.length,cap,0,rfl,Or.inl ⟨rfl,rfl,base,hb,ho⟩⟩
 ·exact ⟨none,0,0,3,rfl,Or.inr ⟨hb,rfl⟩⟩
theorem own_le {w:World} {base:Nat} {t:TypeId} {sz:Nat} {ao:Option Addr} {n cap:Nat} {xs:List Value} (h:w.ownsRow base t sz (.slice ao n cap) n xs):n≤cap:=by
 rcases h.2 with ⟨_,rfl⟩|⟨g,cp,cur,hv,_,_,hle,_⟩
 ·exact Nat.zero_le _
 ·injection hv with _ _ e
  subst e
  exact hle
def FillSaid (bad:Prop) (c:Nat) (bs:List (List Rec)) (wm:Int) (bl:ByteArray) (ao:Option Addr) (cap:Nat) (lo:Option Addr) (rest:List Rec) (w:World) (e:Ending) (w':World):Prop:=
 (e=.returned (.int .i64 0)∧∃ nx lo' lc left,CurIn bad w' c bs wm bl ao cap nx lo' lc left rest∧(left=[]→rest=[])∧∀ a,lo'=some a→lo=some a∨w.heap.size≤a.block)∨(bad∧e=.returned (.int .i64 3))
theorem fill_any {bad:Prop} {w:World} {c:Nat} {bs:List (List Rec)} {wm:Int} {bl:ByteArray} {ao:Option Addr} {cap nx:Nat} {lo:Option Addr} {lc:Nat} {left rest:List Rec} (h:CurIn bad w c bs wm bl ao cap nx lo lc left rest) (hT:Tab w) :
  Calls Tryz.prog 154 #[.pointer (some ⟨c,0,none⟩)] w fun e w'=>FillSaid bad c bs wm bl ao cap lo rest w e w'∧But c w w':=by
 have hfew:bs.length≤1048576:=h.laid.few h.small
 have m0:=h.var.cell 0 rfl
 have m1:=h.var.cell 1 rfl
 have m2:=h.var.cell 2 rfl
 have m3:=h.var.cell 3 rfl
 have m4:=h.var.cell 4 rfl
 by_cases hl:left=[]
 ·subst hl
  by_cases hn:nx=bs.length
  ·have HH:Hid _:=h
   have hr:rest=[]:=by rw [←h.rest,hn];simp
   subst hn
   clear h m0 m1
   simp only [List.length_nil] at m4
   go_enter Tryz.func154,Tryz.ntmps154
   go_wp2_with fail
   go_quiet (fail)
   go_wp2_with fail
   go_ret
   exact ⟨Or.inl ⟨rfl,_,_,_,[],HH.out.kept ((Q.refl w).drewN _),fun _=>hr,fun _ h=>Or.inl h⟩,But.of_q ((Q.refl w).drewN _)⟩
  ·have hlt:nx<bs.length:=Nat.lt_of_le_of_ne h.next hn
   obtain ⟨b,hb⟩:∃ b,bs[nx]?=some b:=⟨_,List.getElem?_eq_getElem hlt⟩
   have LB:Hid _:=fun (W:World) (q:Q w W)=>layBlock_as h.laid h.small h.ok wm ao cap nx b hb hfew W (h.ents.kept q) (tab_kept hT q)
   have hnI:((nx:Int) == (bs.length:Int))=false:=by rw [beq_eq_false_iff_ne];omega
   have hnI2:¬(nx:Int)=(bs.length:Int):=by omega
   have hw1:IntKind.i64.wrap ((nx:Int)+1)=((nx+1:Nat):Int):=by rw [IntKind.wrap_i64];omega
   have HH:Hid _:=h
   have hctop:=h.var.1
   unfold layVal at LB
   clear h hT
   simp only [List.length_nil] at m4
   go_enter Tryz.func154,Tryz.ntmps154
   go_wp2_with fail
   go_quiet (fail)
   have qa:Q w (w.drewN nq):=(Q.refl w).drewN _
   have v0:=kept_cell m0 qa
   have v1:=kept_cell m1 qa
   have v2:=kept_cell m2 qa
   have v3:=kept_cell m3 qa
   go_upto_region 3 with fail
   go_region_held3 (fun w'=>Q w w'∧w'.cell? ⟨c,0,none⟩=some (.int .i64 wm)∧w'.cell? ⟨c,1,none⟩=some (.string bl)∧w'.cell? ⟨c,2,none⟩=some (.slice ao bs.length cap)∧w'.cell? ⟨c,3,none⟩=some (.int .i64 (nx:Int))) (first | exact ⟨qa,v0,v1,v2,v3⟩ | exact ⟨qa.drew,v0,v1,v2,v3⟩ | exact hS4)
    (first | (go_at_call 63;refine (LB.out _ qa.drew).mono ?_;rintro e w4 ⟨hB,q4⟩;have q5:Q w w4:=qa.trans (q_undrew q4);have hS4:Q w w4∧w4.cell? ⟨c,0,none⟩=some (.int .i64 wm)∧w4.cell? ⟨c,1,none⟩=some (.string bl)∧w4.cell? ⟨c,2,none⟩=some (.slice ao bs.length cap)∧w4.cell? ⟨c,3,none⟩=some (.int .i64 (nx:Int)):=⟨q5,kept_cell m0 q5,kept_cell m1 q5,kept_cell m2 q5,kept_cell m3 q5⟩;obtain ⟨ao',n',cap',co,rfl,hco⟩:=blkAns_one hB))
   have hV4:VarN w4 c (curVals wm bl ao bs.length cap nx lo 0 lc):=HH.out.var.kept q5
   unfold curVals at hV4
   have x3:=hV4.cell 3 rfl
   have x4:=hV4.cell 4 rfl
   have f3:=hV4.free 3 rfl
   have f4:=hV4.free 4 rfl
   have hV5:=(hV4.set 4 (.slice ao' n' cap')).set 3 (.int .i64 ((nx:Int)+1))
   have y3:=(hV4.set 4 (.slice ao' n' cap')).cell 3 rfl
   have g3:=(hV4.set 4 (.slice ao' n' cap')).free 3 rfl
   have HV:Hid _:=hV5
   have HB2:Hid _:=And.intro hco q5
   clear hV4 hV5 hB hco LB v0 v1 v2 v3 m0 m1 m2 m3 m4 qa
   go_wp2_with fail
   go_ret
   obtain ⟨hco,q5⟩:=HB2.out
   have hbut:But c w4 ((w4.setCell ⟨c,4,none⟩ (.slice ao' n' cap')).setCell ⟨c,3,none⟩ (.int .i64 ((nx:Int)+1))):=((But.refl c w4).set 4 _).set 3 _
   refine ⟨?_,(But.of_q q5).trans hbut⟩
   rcases hco with ⟨rfl,rfl,base,hbase,hown⟩|⟨hbad,rfl⟩
   ·have hH:=HH.out
    have hbok:=hH.ok b (List.mem_of_getElem? hb)
    obtain ⟨g,hg1,hg2,hg3⟩:=own_recs hown hbok.some_
    have hgb:base≤g:=own_base hown g (by rw [hg1];rfl)
    have hgc:∀ a,ao'=some a→a.block≠c:=fun a ha=>by
     rw [hg1] at ha
     injection ha with ha
     subst ha
     simp only
     simp at hbase
     omega
    refine Or.inl ⟨rfl,nx+1,ao',cap',b,⟨hH.laid,hH.small,hH.ok,?_,(hH.ents.kept q5).but hbut hH.entsN,hH.entsN,(own_rcs hown).but hbut hgc,hgc,?_,own_le hown,hlt,?_⟩,fun e=>absurd e hbok.some_,fun a ha=>Or.inr ?_⟩
    ·have:=HV.out
     simp only [List.set_cons_succ,List.set_cons_zero] at this
     unfold curVals
     rw [Int.natCast_add,Int.natCast_one]
     exact this
    ·intro a ha
     rw [hg1] at ha
     injection ha with ha
     subst ha
     simpa using hg2
    ·have hd:bs.drop nx=b::bs.drop (nx+1):=by
      obtain ⟨hi,he⟩:=List.getElem?_eq_some_iff.1 hb
      rw [←he,List.drop_eq_getElem_cons hi]
     rw [←hH.rest,hd,List.flatten_cons,List.nil_append]
    ·rw [hg1] at ha
     injection ha with ha
     subst ha
     simp only
     simp at hbase
     omega
   ·exact Or.inr ⟨hbad,rfl⟩
 ·have hpos:0<left.length:=List.length_pos_iff.2 hl
  have hposI:(0:Int)<(left.length:Int):=by omega
  have HH:Hid _:=h
  clear h m0 m1 m2 m3 hT
  go_enter Tryz.func154,Tryz.ntmps154
  go_wp2_with fail
  go_quiet (fail)
  go_wp2_with fail
  go_ret
  exact ⟨Or.inl ⟨rfl,_,_,_,left,HH.out.kept ((Q.refl w).drewN _),fun e=>absurd e hl,fun _ h=>Or.inl h⟩,But.of_q ((Q.refl w).drewN _)⟩
def TakeSaid (bad:Prop) (c:Nat) (bs:List (List Rec)) (wm:Int) (bl:ByteArray) (ao:Option Addr) (cap:Nat) (lo0:Option Addr) (A B:List Rec) (w:World) (e:Ending) (w':World):Prop:=
 (∃ vo vc,e=.returned (.tuple #[.slice vo A.length vc,.int .i64 0])∧w'.ownsRow w.heap.size 62 4 (.slice vo A.length vc) A.length (recCells A)∧∃ nx lo lc left,CurIn bad w' c bs wm bl ao cap nx lo lc left B∧∀ a,lo=some a→(∃ a0,lo0=some a0∧a.block=a0.block)∨w.heap.size≤a.block)∨(bad∧e=.returned (.tuple #[.slice none 0 0,.int .i64 3]))
theorem tab_but {w w':World} {c:Nat} (h:Tab w) (hb:But c w w') (hc:c≠1):Tab w':=fun i hi=>by
 have h1:=h i hi
 have ht:1<w.heap.size:=by
  rcases Nat.lt_or_ge 1 w.heap.size with h2|h2
  ·exact h2
  ·unfold World.cell? at h1
   simp [Array.getElem?_eq_none h2] at h1
 exact (World.cell?_of_block (a:=⟨1,i,none⟩) (hb.block _ ht hc.symm)).trans h1
theorem CurIn.grown {bad:Prop} {w0 w w':World} {c:Nat} {bs:List (List Rec)} {wm:Int} {bl:ByteArray} {ao:Option Addr} {cap nx:Nat} {lo:Option Addr} {lc:Nat} {left rest:List Rec} {row:Option Nat} (h:CurIn bad w c bs wm bl ao cap nx lo lc left rest) (hE:EntsAt w0 ao (S.entsOf 0 bs)) (hc:c<w0.heap.size) (hg:w.grownBy w' row)
  (hr:∀ g,row=some g→w0.heap.size≤g) (hl:∀ a g,lo=some a→row=some g→a.block≠g):CurIn bad w' c bs wm bl ao cap nx lo lc left rest:=by
 have hb:∀ k,k<w.heap.size→row≠some k→w'.heap[k]?=w.heap[k]?:=fun k hk hn=>hg.block k hk (fun e=>hn e.symm)
 refine ⟨h.laid,h.small,h.ok,?_,?_,h.entsN,?_,h.recsN,fun a ha=>Nat.lt_of_lt_of_le (h.recsB a ha) hg.size,h.cap,h.next,h.rest⟩
 ·have e:w'.heap[c]?=w.heap[c]?:=hb c h.var.1 (fun e=>by have:=hr c e;omega)
  exact ⟨Nat.lt_of_lt_of_le h.var.1 hg.size,fun i v hv=>⟨(World.cell?_of_block (a:=⟨c,i,none⟩) e).trans (h.var.2 i v hv).1,(World.frozen?_of_block (a:=⟨c,i,none⟩) e).trans (h.var.2 i v hv).2⟩⟩
 ·rcases hE with hE|⟨g,hao,hgl,_⟩
  ·exact Or.inl hE
  ·rcases h.ents with h1|⟨g2,h2,h3,h4⟩
   ·exact Or.inl h1
   ·rw [hao] at h2
    injection h2 with h2
    injection h2 with h2
    subst h2
    have e:w'.heap[g]?=w.heap[g]?:=hb g h3 (fun e=>by have:=hr g e;omega)
    have k:∀ j,w'.cell? ⟨g,j,none⟩=w.cell? ⟨g,j,none⟩:=fun j=>World.cell?_of_block (a:=⟨g,j,none⟩) e
    refine Or.inr ⟨g,hao,Nat.lt_of_lt_of_le h3 hg.size,fun i x hi=>?_⟩
    obtain ⟨a,b,d,f⟩:=h4 i x hi
    exact ⟨(k _).trans a,(k _).trans b,(k _).trans d,(k _).trans f⟩
 ·rcases h.recs with h1|⟨g,off,h2,h3,h4⟩
  ·exact Or.inl h1
  ·have e:w'.heap[g]?=w.heap[g]?:=hb g h3 (fun e=>hl _ g h2 e rfl)
   have k:∀ j,w'.cell? ⟨g,j,none⟩=w.cell? ⟨g,j,none⟩:=fun j=>World.cell?_of_block (a:=⟨g,j,none⟩) e
   refine Or.inr ⟨g,off,h2,Nat.lt_of_lt_of_le h3 hg.size,fun i x hi=>?_⟩
   obtain ⟨a,b,d,f⟩:=h4 i x hi
   exact ⟨(k _).trans a,(k _).trans b,(k _).trans d,(k _).trans f⟩
theorem CurIn.tail {bad:Prop} {w:World} {c:Nat} {bs:List (List Rec)} {wm:Int} {bl:ByteArray} {ao:Option Addr} {cap nx g off:Nat} {lc:Nat} {r:Rec} {left rest:List Rec} (h:CurIn bad w c bs wm bl ao cap nx (some ⟨g,off,none⟩) lc (r::left) (r::rest)) (lo':Option Addr) (hlo:lo'=some ⟨g,off+4,none⟩∨(left=[]∧lo'=some ⟨g,off,none⟩)) :
  CurIn bad (w.setCell ⟨c,4,none⟩ (.slice lo' left.length (lc-1))) c bs wm bl ao cap nx lo' (lc-1) left rest:=by
 have hbut:But c w (w.setCell ⟨c,4,none⟩ (.slice lo' left.length (lc-1))):=(But.refl c w).set 4 _
 have hgc:g≠c:=h.recsN _ rfl
 have hn:∀ a,lo'=some a→a.block≠c:=fun a ha=>by
  rcases hlo with e | ⟨_,e⟩<;>(rw [e] at ha;injection ha with ha;subst ha;exact hgc)
 have hcap:=h.cap
 simp only [List.length_cons] at hcap
 refine ⟨h.laid,h.small,h.ok,?_,h.ents.but hbut h.entsN,h.entsN,?_,hn,fun a ha=>?_,by omega,h.next,?_⟩
 ·have:=h.var.set 4 (.slice lo' left.length (lc-1))
  unfold curVals at this ⊢
  simpa using this
 ·rcases hlo with e|⟨e,_⟩
  ·subst e
   refine Rcs.but ?_ hbut hn
   rcases h.recs with h1|⟨b,o2,h2,h3,h4⟩
   ·cases h1
   ·injection h2 with h2
    injection h2 with h2 h5
    subst h2 h5
    refine Or.inr ⟨g,off+4,rfl,h3,fun i x hi=>?_⟩
    have:=h4 (i+1) x (by simpa using hi)
    have e1:off+4+i*4=off+(i+1)*4:=by omega
    rw [e1]
    exact this
  ·exact Or.inl e
 ·have hgb:=h.recsB _ rfl
  rcases hlo with e | ⟨_,e⟩<;>(rw [e] at ha;injection ha with ha;subst ha;simpa using hgb)
 ·have:=h.rest
  simp only [List.cons_append,List.cons.injEq,true_and] at this
  exact this
theorem wpList_append_where {P:Program} {w:World} {ops:Array Oper} {rest:List Oper} {o:Oper} {a:Act} {Q:Exit→Act→World→Prop} (hgd:o.guard=none) (s x:Operand) (t:TypeId)
  (ho:o.op=.call { callee:=.builtin .append,args:=#[s,x],argTypes:=#[t,t]})
  (base:Nat) (e:TypeId) (i:TypeInfo) (z:Value) (size bytes:Nat) (ht:P.underlying t=some (.slice e)) (hi:P.info? e=some i) (hz:i.zero=some z)
  (hsize:i.size=size) (hby:i.bytes=bytes) (hzs:z.cells.size=size) (hsz:0<size)
  (v:Value) (n:Nat) (xs:List Value) (hs:a.eval s=v) (hown:w.ownsRow base e size v n xs)
  (ad:Addr) (m c:Nat) (news:List Value) (hx:a.eval x=.slice (some ad) m c) (hl:news.length=m*size) (hnews:∀ j u,news[j]?=some u→w.cell? (ad.add j)=some u) (h1:∀ u∈news,u.oneCell'=true)
  (hm:0<m) (h63:n+m≤maxLen) (hbytes:(n+m)*bytes≤140737488355328) (hbase:base≤w.heap.size)
  (h:∀ v' w',w'.ownsRow base e size v' (n+m) (xs++news)→w.grownBy w' v.ownBlock→(v'.ownBlock=v.ownBlock∨v'.ownBlock=some w.heap.size)→wpList P ops Q rest (a.put o.dst v') w'):wpList P ops Q (o::rest) a w:=by
 refine wpList_plain hgd fun _ hK=>?_
 obtain ⟨v',w',hr,h2,h3,_⟩:=run_append_own (P:=P) w base t o.type e i z size bytes ht hi hz hsize hby hzs hsz v n xs hown ad m c news hl hnews h1 h63 hbytes hbase
 have h4:=append_where (ty:=o.type) ht hi hz hsize hby hown hl hnews h1 hm h63 hbytes hr
 unfold Oper.wp execOp
 simp only [ho,resolve,invoke,builtin,Sem.run_bind,Sem.run_pure,Result.andThen_ok,List.map_toArray,List.map_cons,List.map_nil,hs,hx,hr]
 exact hK _ _ (h v' w' h2 h3 h4)
theorem take_any {bad:Prop} {w:World} {c:Nat} {bs:List (List Rec)} {A B:List Rec} {wm:Int} {bl:ByteArray} {ao:Option Addr} {cap nx0:Nat} {lo0:Option Addr} {lc0:Nat} {left0:List Rec} (h0:CurIn bad w c bs wm bl ao cap nx0 lo0 lc0 left0 (A++B)) (hT:Tab w) (hcG:c≠1) (hA:A≠[]) (k:ByteArray) (hk:∀ r∈A,r.key=k) (hB:∀ r∈B,r.key≠k) (hl:A.length≤1048576) :
  Calls Tryz.prog 123 #[.pointer (some ⟨c,0,none⟩),.string k] w fun e w'=>TakeSaid bad c bs wm bl ao cap lo0 A B w e w'∧But c w w':=by
 have hctop:=h0.var.1
 have FI:Hid _:=@fill_any bad
 have TB:Hid _:=fun (W:World) (hb:But c w W)=>tab_but hT hb hcG
 have HE0:Hid _:=h0.ents
 obtain ⟨i0,hi,hz0,hz1,hz2⟩:=info_parts infoR
 go_enter Tryz.func123,Tryz.ntmps123
 go_wp2_with fail
 go_loopw [6] (fun v wr=>∃ (j nx:Nat) (lo:Option Addr) (lc:Nat) (left:List Rec) (vo:Option Addr) (vc:Nat),j≤A.length∧v=.slice vo j vc∧CurIn bad wr c bs wm bl ao cap nx lo lc left (A.drop j++B)∧wr.ownsRow w.heap.size 62 4 (.slice vo j vc) j (recCells (A.take j))∧But c w wr∧(∀ a g,lo=some a→(Value.slice vo j vc).ownBlock=some g→a.block≠g)∧(∀ a,lo=some a→(∃ a0,lo0=some a0∧a.block=a0.block)∨w.heap.size≤a.block))
  (fun v _=>A.length-lenOf v)
 case atStart=>exact ⟨0,nx0,lo0,lc0,left0,none,0,Nat.zero_le _,rfl,by simpa using h0,by simpa [recCells] using World.ownsRow_nil _ _ _ _,But.refl c w,fun a g _ h=>by simp [Value.ownBlock] at h,fun a ha=>Or.inl ⟨a,ha,rfl⟩⟩
 case round =>
  obtain ⟨j,nx,lo,lc,left,vo,vc,hj,rfl,hC,hown,hbut,hne,hfrom⟩:=hrel
  have FI2:Hid _:=fun (_:Unit)=>FI.out hC (TB.out wr hbut)
  have HH:Hid _:=And.intro hown (And.intro hbut (And.intro hne hfrom))
  clear hC hown hbut hne hfrom h0
  go_wp2_with fail
  refine (FI2.out ()).mono ?_
  rintro e w1 ⟨hF,hb1⟩
  clear FI2
  rcases hF with ⟨rfl,nx1,lo1,lc1,left1,hC1,hem,hlo1⟩|⟨hbad,rfl⟩
  ·have m4:=hC1.var.cell 4 rfl
   have f4:=hC1.var.free 4 rfl
   by_cases hjl:j<A.length
   ·obtain ⟨r,hr⟩:∃ r,A[j]?=some r:=⟨_,List.getElem?_eq_getElem hjl⟩
    have hd:A.drop j=r::A.drop (j+1):=by
     obtain ⟨hi,he⟩:=List.getElem?_eq_some_iff.1 hr
     rw [←he,List.drop_eq_getElem_cons hi]
    rw [hd,List.cons_append] at hC1 hem
    have hrk:r.key=k:=hk r (List.mem_of_getElem? hr)
    cases left1 with
    | nil=>exact absurd (hem rfl) (by simp)
    | cons x left2 =>
     have hx:x=r:=by
      have:=hC1.rest
      simp only [List.cons_append,List.cons.injEq] at this
      exact this.1
     subst hx
     obtain ⟨g,off,hlo,hgl,hat⟩:=hC1.recs.at (k:=0) (by simp)
     subst hlo
     obtain ⟨r0,r1,r2,r3⟩:=hat 0 x rfl
     simp only [Nat.zero_mul,Nat.add_zero] at r0 r1 r2 r3
     have hlen:(x::left2).length=left2.length+1:=rfl
     rw [hlen] at m4
     have hp1:¬((left2.length+1:Nat):Int)=0:=by omega
     have hp2:(((left2.length+1:Nat):Int) == 0)=false:=by rw [beq_eq_false_iff_ne];exact hp1
     have hp3:¬((left2.length:Int)+1)=0:=by omega
     have hp4:(((left2.length:Int)+1) == 0)=false:=by rw [beq_eq_false_iff_ne];exact hp3
     have hp5:(0:Int)<((left2.length+1:Nat):Int):=by omega
     subst hrk
     have hC1h:Hid _:=hC1
     have hcap1:=hC1.cap
     rw [hlen] at hcap1
     obtain ⟨hown,hbut,hne,hfrom⟩:=HH.out
     have hown1:w1.ownsRow w.heap.size 62 4 (.slice vo j vc) j (recCells (A.take j)):=row_keep hown (fun g2 hg2=>hb1.block g2 (hown.lt g2 hg2).2 (by have:=(hown.lt g2 hg2).1;omega))
     have hown2:=own_below hown1 (((Q.refl w1).alloc #[.string x.key,.int .i64 x.stamp,.int .i64 x.kind,.string x.body] 62).below)
     have hsz1:w.heap.size≤w1.heap.size:=Nat.le_trans hbut.size hb1.size
     have hne1:∀ g2,(Value.slice vo j vc).ownBlock=some g2→g≠g2:=fun g2 hg2=>by
      rcases hlo1 _ rfl with h1|h1
      ·exact hne _ g2 h1 hg2
      ·have:=(hown.lt g2 hg2).2
       simp only at h1
       omega
     have hfr1:(∃ a0,lo0=some a0∧g=a0.block)∨w.heap.size≤g:=by
      rcases hlo1 _ rfl with h1|h1
      ·exact hfrom _ h1
      ·exact Or.inr (Nat.le_trans hbut.size h1)
     have HN:Hid _:=And.intro hne1 (And.intro hown1 (And.intro (hbut.trans hb1) hfr1))
     clear hown hbut hne hne1 hown1 HH hem hlo1 hC1 hat hfrom hfr1
     go_wp2_with (at_builtin;refine wpList_append_where rfl (.tmp 30) (.tmp 37) 72 rfl w.heap.size 62 i0 (.agg #[.string ⟨#[]⟩,.int .i64 0,.int .i64 0,.string ⟨#[]⟩]) 4 48 Tryz.underlying72 hi hz0 hz1 hz2 rfl (by decide) _ _ _ rfl hown2 ⟨w1.heap.size,0,none⟩ 1 1 x.cells rfl rfl ?c1 ?c2 (by omega) ?c3 ?c4 ?c5 ?_)
     case c1=>exact rec_cells_at _ _ _
     case c2=>exact rec_cells_one _
     case c3=>unfold maxLen;omega
     case c4=>omega
     case c5=>simp;omega
     intro v' w' hown' hgrow hvb
     obtain ⟨vo2,vc2,hv2⟩:=own_form hown'
     subst hv2
     have hq1:Q w1 (w1.alloc (.cells #[.string x.key,.int .i64 x.stamp,.int .i64 x.kind,.string x.body] 62)):=(Q.refl w1).alloc _ _
     have hC2:=(hC1h.out.kept hq1).grown HE0.out hctop hgrow (fun g2 hg2=>(HN.out.2.1.lt g2 hg2).1) (fun a g2 ha hg2=>by injection ha with ha;subst ha;exact HN.out.1 g2 hg2)
     have x4:=hC2.var.cell 4 rfl
     have y4:=hC2.var.free 4 rfl
     rw [hlen] at x4
     have HC2:Hid _:=hC2
     have HOW:Hid _:=And.intro hown' (And.intro hgrow hvb)
     clear hC2 hown' hgrow hvb m4 f4 r0 r1 r2 r3 hC1h
     go_wp2_with fail
     have hlo2:(if lc1=1 then some (⟨g,off,none⟩:Addr) else some ⟨g,off+4,none⟩)=some ⟨g,off+4,none⟩∨(left2=[]∧(if lc1=1 then some (⟨g,off,none⟩:Addr) else some ⟨g,off+4,none⟩)=some ⟨g,off,none⟩):=by
      by_cases h1:lc1=1
      ·exact Or.inr ⟨List.eq_nil_of_length_eq_zero (by omega),by rw [if_pos h1]⟩
      ·exact Or.inl (by rw [if_neg h1])
     obtain ⟨lo2,hlo3⟩:∃ lo2,(if lc1=1 then some (⟨g,off,none⟩:Addr) else some ⟨g,off+4,none⟩)=lo2:=⟨_,rfl⟩
     rw [hlo3] at hlo2 ⊢
     have hgb:∀ a,lo2=some a→a.block=g:=fun a ha=>by
      rcases hlo2 with e | ⟨_,e⟩<;>(rw [e] at ha;injection ha with ha;subst ha;rfl)
     go_roundw
     case rel =>
      obtain ⟨hown',hgrow,hvb⟩:=HOW.out
      obtain ⟨hne1,hown1,hbut1,hfr1⟩:=HN.out
      have hrow:recCells (A.take (j+1))=recCells (A.take j)++x.cells:=by
       rw [List.take_add_one,hr]
       simp only [Option.toList_some]
       rw [recCells_append,recCells_one]
      refine ⟨j+1,nx1,lo2,lc1-1,left2,vo2,vc2,hjl,rfl,HC2.out.tail lo2 hlo2,?_,?_,?_,fun a ha=>by rw [hgb a ha];exact hfr1⟩
      ·rw [hrow]
       exact row_keep hown' (fun g2 hg2=>heap_setCell_other w' ⟨c,4,none⟩ g2 _ (fun e=>by have:=(hown'.lt g2 hg2).1;simp at e;omega))
      ·refine But.set ⟨hgrow.os.trans hbut1.os,hgrow.tape.trans hbut1.tape,hgrow.output.trans hbut1.output,?_,fun i hi hn=>?_⟩ 4 _
       ·have h1:=hgrow.size
        have h2:=hbut1.size
        simp at h1
        omega
       ·have h2:=hbut1.size
        rw [hgrow.block i (by simp;omega) (fun e=>by have:=(hown1.lt i e.symm).1;omega)]
        exact (hq1.below.block i (by omega)).trans (hbut1.block i hi hn)
      ·intro a g2 ha hg2
       rw [hgb a ha]
       rcases hvb with e|e
       ·rw [e] at hg2
        exact hne1 g2 hg2
       ·rw [e] at hg2
        injection hg2 with hg2
        omega
     case measure=>simp only [lenOf];omega
   ·obtain rfl:j=A.length:=by omega
    have hAl:¬(A.length:Int)=0:=by have:=List.length_pos_iff.2 hA;omega
    have hAb:((A.length:Int) == 0)=false:=by rw [beq_eq_false_iff_ne];exact hAl
    rw [List.drop_length,List.nil_append] at hC1 hem
    have fin:TakeSaid bad c bs wm bl ao cap lo0 A B w (.returned (.tuple #[.slice vo A.length vc,.int .i64 0])) w1∧But c w w1:=by
     obtain ⟨hown,hbut,hne,hfrom⟩:=HH.out
     refine ⟨Or.inl ⟨vo,vc,rfl,?_,nx1,lo1,lc1,left1,hC1,fun a ha=>?_⟩,hbut.trans hb1⟩
     rotate_left
     ·rcases hlo1 a ha with h1|h1
      ·exact hfrom a h1
      ·exact Or.inr (Nat.le_trans hbut.size h1)
     rw [List.take_length] at hown
     exact row_keep hown (fun g2 hg2=>hb1.block g2 (hown.lt g2 hg2).2 (by have:=(hown.lt g2 hg2).1;omega))
    have FN:Hid _:=fin
    cases left1 with
    | nil =>
     simp only [List.length_nil] at m4
     clear hC1 fin HH
     go_wp2_with fail
     go_ret2
     exact FN.out
    | cons x left2 =>
     have hxB:x∈B:=by
      rw [←hC1.rest]
      simp
     have hxk:¬x.key=k:=hB x hxB
     have hxb:(x.key.toList == k.toList)=false:=by rw [beq_eq_false_iff_ne];exact fun e=>hxk (M.bytes_ext e)
     have hxb2:(!x.key.toList == k.toList)=true:=by rw [hxb];rfl
     obtain ⟨g,off,hlo,hgl,hat⟩:=hC1.recs.at (k:=0) (by simp)
     subst hlo
     obtain ⟨r0,r1,r2,r3⟩:=hat 0 x rfl
     simp only [Nat.zero_mul,Nat.add_zero] at r0 r1 r2 r3
     have hlen:(x::left2).length=left2.length+1:=rfl
     rw [hlen] at m4
     have hp3:¬((left2.length:Int)+1)=0:=by omega
     have hp4:(((left2.length:Int)+1) == 0)=false:=by rw [beq_eq_false_iff_ne];exact hp3
     have hp5:(0:Int)<((left2.length+1:Nat):Int):=by omega
     clear hC1 fin HH hat
     go_wp2_with fail
     go_ret2
     exact FN.out
  ·obtain ⟨hown,hbut,hne,hfrom⟩:=HH.out
   go_wp2_with fail
   go_ret2
   exact ⟨Or.inr ⟨hbad,rfl⟩,hbut.trans hb1⟩
end Go.Proofs.YtekdenkllipehabGreatDoor
namespace Go.Proofs.YtekdenkllipehabGreatDoor.S
open Go.RowKit
theorem last_filter {α:Type} (l:List α) (p:α→Bool):(l.filter p).getLast?=l.reverse.find? p:=by
 rw [←List.head?_filter,List.filter_reverse,List.head?_reverse]
def Sto.con (X:Sto) (C:Con):Con:=fun k=>pendV ((lookK X.pend k).getD [])++C k
structure Sto.Good (X:Sto) (bs:List (List Rec)) (C:Con):Prop where
 ok:X.Ok
 fil:Fil theAp bs C
 newest:∀ k,lookK X.newest k=(C k).head?.map (·.stamp)
 pend:∀ kr∈X.pend,∀ r∈kr.2,PRec kr.1 r
 newer:∀ kr∈X.pend,∀ r∈kr.2,∀ v∈C kr.1,v.stamp<r.stamp
 fl1:-1≤X.fl
 fl2:X.fl≤X.wm
 top:X.wm≤1099511627776
theorem firstAt_pendV (rs:List Rec) (t:Int):firstAt (pendV rs) t=(lastLe rs t).map fun r=>⟨r.stamp,if r.kind=2 then none else some r.body⟩:=by
 unfold firstAt pendV lastLe
 rw [last_filter,List.find?_map]
 rfl
theorem Sto.Good.vAt {X:Sto} {bs:List (List Rec)} {C:Con} (h:X.Good bs C) (k:ByteArray) (t:Int):X.vAt C k t=told (firstAt (X.con C k) t):=by
 unfold Sto.vAt Sto.con Sto.pendAt
 rw [firstAt_append]
 cases hl:lookK X.pend k with
 | none=>simp [pendV,firstAt]
 | some rs =>
  simp only [Option.bind_some,Option.getD_some]
  rw [firstAt_pendV]
  cases hr:lastLe rs t with
  | none=>rfl
  | some r =>
   have hm:r∈rs:=by
    unfold lastLe at hr
    exact (List.mem_filter.1 (List.mem_of_getLast? hr)).1
   have hp:=h.pend _ ((lookK_iff h.ok.pdUp).1 hl) r hm
   simp only [Option.map_some]
   rcases hp.kind with h0|⟨h2,hb⟩
   ·rw [if_neg (by omega)]
    simp [told,h0]
   ·rw [if_pos h2]
    have:r.body=⟨#[]⟩:=by
     apply ByteArray.ext
     exact Array.eq_empty_of_size_eq_zero hb
    simp [told,h2,this]
theorem Sto.Good.empty {X:Sto} {bs:List (List Rec)} {C:Con} (h:X.Good bs C) (k:ByteArray) (hk:lookK X.newest k=none):C k=[]:=by
 have:=h.newest k
 rw [hk] at this
 cases hc:C k with
 | nil=>rfl
 | cons v l=>rw [hc] at this;simp at this
theorem Sto.Good.falling {X:Sto} {bs:List (List Rec)} {C:Con} (h:X.Good bs C) (k:ByteArray):(X.con C k).Pairwise fun a b=>b.stamp<a.stamp:=by
 unfold Sto.con
 rw [List.pairwise_append]
 refine ⟨?_,h.fil.falling k,?_⟩
 ·cases hl:lookK X.pend k with
  | none=>simp [pendV]
  | some rs =>
   have hm:=(lookK_iff h.ok.pdUp).1 hl
   have hu:=(h.ok.each _ hm).1
   simp only [Option.getD_some]
   unfold pendV
   rw [List.pairwise_map,List.pairwise_reverse]
   exact hu
 ·cases hl:lookK X.pend k with
  | none=>simp [pendV]
  | some rs =>
   have hm:=(lookK_iff h.ok.pdUp).1 hl
   intro a ha b hb
   simp only [Option.getD_some] at ha
   unfold pendV at ha
   rw [List.mem_map] at ha
   obtain ⟨r,hr,rfl⟩:=ha
   exact h.newer _ hm r (List.mem_reverse.1 hr) b hb
theorem Sto.Good.latest {X:Sto} {bs:List (List Rec)} {C:Con} (h:X.Good bs C) (k:ByteArray):X.latest k=match (X.con C k).head? with | some v=>max X.wm v.stamp | none=>X.wm:=by
 unfold Sto.latest Sto.pendAt Sto.con
 rw [h.newest k]
 cases hl:lookK X.pend k with
 | none =>
  simp only [Option.bind_none,Option.getD_none]
  cases hc:C k with
  | nil=>simp [pendV]
  | cons v l=>simp [pendV]
 | some rs =>
  have hm:=(lookK_iff h.ok.pdUp).1 hl
  obtain ⟨hu,hne,_⟩:=h.ok.each _ hm
  simp only [Option.bind_some,Option.getD_some]
  obtain ⟨r,hr⟩:∃ r,rs.getLast?=some r:=by
   cases hg:rs.getLast? with
   | none=>exact absurd (List.getLast?_eq_none_iff.1 hg) hne
   | some r=>exact ⟨r,rfl⟩
  have hrm:=List.mem_of_getLast? hr
  have hall:rs.filter (fun r=>decide (r.stamp≤1099511627776))=rs:=by
   rw [List.filter_eq_self]
   intro x hx
   have:=(h.pend _ hm x hx).fits
   simp only [Rec.fits,decide_eq_true_eq] at this ⊢
   exact this.2.2.2.2.1
  have hlast:lastLe rs 1099511627776=some r:=by unfold lastLe;rw [hall];exact hr
  rw [hlast]
  have hh:(pendV rs++C k).head?=some ⟨r.stamp,if r.kind=2 then Option.none else some r.body⟩:=by
   unfold pendV
   rw [List.head?_append,List.head?_map,List.head?_reverse,hr]
   rfl
  rw [hh]
  cases hc:C k with
  | nil=>simp
  | cons v l =>
   have:=h.newer _ hm r hrm v (by rw [hc];simp)
   simp only [List.head?_cons,Option.map_some]
   simp only [Int.max_def]
   split<;>split<;>(try split)<;>omega
def ofRec (r:Rec):Vs:=⟨r.stamp,if r.kind=2 then none else some r.body⟩
theorem Sto.Good.put_stamps {X:Sto} {bs:List (List Rec)} {C:Con} (h:X.Good bs C) {r:Rec} (ha:X.adding r=0):∀ v∈X.con C r.key,v.stamp<r.stamp:=by
 have hl:=h.latest r.key
 have h0:X.latest r.key<r.stamp:=by
  unfold Sto.adding at ha
  split at ha
  ·omega
  split at ha
  ·omega
  split at ha
  ·omega
  split at ha
  ·omega
  ·rename_i hx;omega
 have hf:=h.falling r.key
 intro v hv
 cases hc:X.con C r.key with
 | nil=>rw [hc] at hv;simp at hv
 | cons a l =>
  rw [hc] at hv hl hf
  simp only [List.head?_cons] at hl
  have hm:a.stamp≤X.latest r.key:=by
   rw [hl]
   simp only [Int.max_def]
   split<;>omega
  rcases List.mem_cons.1 hv with rfl|hv
  ·omega
  ·have:=(List.pairwise_cons.1 hf).1 v hv
   omega
theorem pend_stamps {X:Sto} {C:Con} (hX:X.Ok) {r:Rec} (h:∀ v∈X.con C r.key,v.stamp<r.stamp):∀ kr∈X.pend,kr.1=r.key→∀ x∈kr.2,x.stamp<r.stamp:=by
 intro kr hkr hk x hx
 have hl:lookK X.pend r.key=some kr.2:=(lookK_iff hX.pdUp).2 (by rw [←hk];exact hkr)
 refine h (ofRec x) ?_
 unfold Sto.con pendV
 rw [hl,List.mem_append]
 exact Or.inl (List.mem_map.2 ⟨x,List.mem_reverse.2 hx,rfl⟩)
theorem Sto.Good.put {X:Sto} {bs:List (List Rec)} {C:Con} (h:X.Good bs C) {r:Rec} (ha:X.adding r=0) (hr:PRec r.key r) (hf:X.pend.length<1048000∧∀ kr∈X.pend,kr.2.length<1048000) :
  (X.put r).Good bs C∧(X.put r).con C=(X.con C).put r.key (ofRec r::X.con C r.key):=by
 have hs:=h.put_stamps ha
 have hP:=Sto.put_ok h.ok r hf (pend_stamps h.ok hs)
 have hlk:=Sto.lookK_put h.ok r hP
 have hn:(X.put r).newest=X.newest:=by unfold Sto.put;rfl
 have hmem:∀ kr∈(X.put r).pend,∀ x∈kr.2,(x=r∧kr.1=r.key)∨∃ k2∈X.pend,k2.1=kr.1∧x∈k2.2:=by
  intro kr hkr x hx
  have h1:=(lookK_iff hP.pdUp).2 (show (kr.1,kr.2)∈(X.put r).pend from hkr)
  rw [hlk kr.1] at h1
  by_cases hk:kr.1=r.key
  ·rw [if_pos hk] at h1
   injection h1 with h1
   rw [←h1,List.mem_append] at hx
   rcases hx with hx|hx
   ·right
    cases hl:lookK X.pend r.key with
    | none=>rw [hl] at hx;simp at hx
    | some rs =>
     rw [hl] at hx
     exact ⟨(r.key,rs),(lookK_iff h.ok.pdUp).1 hl,hk.symm,hx⟩
   ·exact Or.inl ⟨by simpa using hx,hk⟩
  ·rw [if_neg hk] at h1
   exact Or.inr ⟨(kr.1,kr.2),(lookK_iff h.ok.pdUp).1 h1,rfl,hx⟩
 refine ⟨⟨hP,h.fil,fun k=>by rw [hn];exact h.newest k,fun kr hkr x hx=>?_,fun kr hkr x hx v hv=>?_,h.fl1,h.fl2,h.top⟩,?_⟩
 ·rcases hmem kr hkr x hx with ⟨rfl,hk⟩|⟨k2,h2,hk2,hx2⟩
  ·rw [hk];exact hr
  ·rw [←hk2];exact h.pend k2 h2 x hx2
 ·rcases hmem kr hkr x hx with ⟨rfl,hk⟩|⟨k2,h2,hk2,hx2⟩
  ·exact hs v (by rw [hk] at hv;unfold Sto.con;exact List.mem_append.2 (Or.inr hv))
  ·exact h.newer k2 h2 x hx2 v (by rw [hk2];exact hv)
 ·funext k
  unfold Sto.con Con.put
  rw [hlk k]
  by_cases hk:k=r.key
  ·subst hk
   rw [if_pos rfl,if_pos rfl]
   simp [pendV,ofRec]
  ·rw [if_neg hk,if_neg hk]
theorem Sto.Good.raise {X:Sto} {bs:List (List Rec)} {C:Con} (h:X.Good bs C) {t:Int} (ht:X.raising t=0):Sto.Good { X with wm:=t } bs C:=by
 have h2:¬(t<X.wm∨1099511627776<t):=fun e=>by
  unfold Sto.raising at ht
  split at ht
  ·omega
  ·simp at ht
 have:=h.fl2
 exact ⟨⟨h.ok.nwUp,h.ok.pdUp,h.ok.nwFew,h.ok.pdFew,h.ok.each⟩,h.fil,h.newest,h.pend,h.newer,h.fl1,by simp only;omega,by simp only;omega⟩
def Sto.hist (X:Sto) (F:List Rec) (k:ByteArray):List Rec:=((lookK X.pend k).getD []).reverse++ofKey k F
theorem Sto.Good.tells {X:Sto} {bs:List (List Rec)} {C:Con} (h:X.Good bs C) (k:ByteArray):Tells theAp (X.hist bs.flatten k) (X.con C k):=by
 unfold Sto.hist Sto.con
 refine Tells.append ?_ (h.fil.holds k).tells
 unfold pendV
 refine pend_tells (k:=k) fun r hr=>?_
 cases hl:lookK X.pend k with
 | none=>rw [hl] at hr;simp at hr
 | some rs =>
  rw [hl] at hr
  exact h.pend _ ((lookK_iff h.ok.pdUp).1 hl) r (List.mem_reverse.1 hr)
theorem Sto.Good.hist_key {X:Sto} {bs:List (List Rec)} {C:Con} (h:X.Good bs C) {k:ByteArray} {r:Rec} (hr:r∈X.hist bs.flatten k):r.key=k∧r.fits=true:=by
 unfold Sto.hist at hr
 rw [List.mem_append] at hr
 rcases hr with hr|hr
 ·cases hl:lookK X.pend k with
  | none=>rw [hl] at hr;simp at hr
  | some rs =>
   rw [hl] at hr
   have:=h.pend _ ((lookK_iff h.ok.pdUp).1 hl) r (List.mem_reverse.1 hr)
   exact ⟨this.key,this.fits⟩
 ·obtain ⟨h1,h2⟩:=mem_ofKey.1 hr
  obtain ⟨b,hb,hrb⟩:=List.mem_flatten.1 h1
  exact ⟨h2,(h.fil.ok b hb).fits r hrb⟩
def Sto.keys (X:Sto):List ByteArray:=uni (X.newest.length+X.pend.length) (X.newest.map (·.1)) (X.pend.map (·.1))
theorem Sto.Good.keys_all {X:Sto} {bs:List (List Rec)} {C:Con} (h:X.Good bs C):X.keys.Pairwise kless∧(∀ k,k∈X.keys↔X.con C k≠[])∧∀ r∈bs.flatten,r.key∈X.keys:=by
 obtain ⟨h1,h2⟩:=uni_all (X.newest.length+X.pend.length) h.ok.nwUp h.ok.pdUp (by simp)
 have hnw:∀ k,k∈X.newest.map (·.1)↔C k≠[]:=fun k=>by
  have hn:=h.newest k
  constructor
  ·intro hk hc
   rw [hc] at hn
   have:=lookK_none (by simpa using hn:lookK X.newest k=Option.none)
   rw [hasK_iff.2 hk] at this
   cases this
  ·intro hc
   cases hl:lookK X.newest k with
   | none=>exact absurd (h.empty k hl) hc
   | some n=>exact hasK_iff.1 (lookK_some h.ok.nwUp hl).1
 have hpd:∀ k,k∈X.pend.map (·.1)↔pendV ((lookK X.pend k).getD [])≠[]:=fun k=>by
  constructor
  ·intro hk hc
   obtain ⟨kr,hkr,rfl⟩:=List.mem_map.1 hk
   have hl:lookK X.pend kr.1=some kr.2:=(lookK_iff h.ok.pdUp).2 hkr
   rw [hl] at hc
   simp [pendV] at hc
   exact (h.ok.each kr hkr).2.1 hc
  ·intro hc
   cases hl:lookK X.pend k with
   | none=>rw [hl] at hc;simp [pendV] at hc
   | some rs=>exact hasK_iff.1 (lookK_some h.ok.pdUp hl).1
 have hk:∀ k,k∈X.keys↔X.con C k≠[]:=fun k=>by
  show k∈uni _ _ _↔_
  rw [h2 k,hnw k,hpd k]
  unfold Sto.con
  constructor
  ·rintro (h|h) e
   ·exact h (List.append_eq_nil_iff.1 e).2
   ·exact h (List.append_eq_nil_iff.1 e).1
  ·intro e
   by_cases hc:C k=[]
   ·exact Or.inr (fun e2=>e (by rw [e2,hc];rfl))
   ·exact Or.inl hc
 refine ⟨h1,hk,fun r hr=>(hk r.key).2 fun e=>?_⟩
 have hc:C r.key=[]:=(List.append_eq_nil_iff.1 e).2
 exact (h.fil.keys r.key).1 hc r hr rfl
end Go.Proofs.YtekdenkllipehabGreatDoor.S
namespace Go.Proofs.YtekdenkllipehabGreatDoor
open Go.RowKit Go.Shelf
attribute [local go_sem] Oper.semAt_some
theorem mback_in (n p:Nat) (w:World) :
  CallsIn Fence.wide n Tryz.prog 122 #[.pointer (some ⟨p,0,none⟩)] w fun e w'=>e=.returned (.func (.func 152) #[] #[.pointer (some ⟨w.heap.size,0,none⟩)])∧w'=w.alloc (.cells #[.pointer (some ⟨p,0,none⟩)] 105):=by
 refine callsIn_of_wp Tryz.func122 rfl trivial ?_ rfl
 simp only [Tryz.ntmps122,List.size_toArray,List.length_cons,List.length_nil,Nat.reduceAdd,Nat.reduceSub,Array.replicate_succ,Array.replicate_zero,List.push_toArray,List.append_toArray,List.nil_append,List.cons_append]
 gi_wp2
 go_ret
 exact ⟨rfl,rfl⟩
theorem RMap.rows {w:World} {tg:Tags} {o p u:Nat} {rs:List Rec} (h:RMap w tg o p u rs) (hne:rs≠[]):∃ g0 cap0 gv capv,w.cell? ⟨p,0,none⟩=some (.slice (some ⟨g0,0,none⟩) rs.length cap0)∧w.cell? ⟨p,1,none⟩=some (.slice (some ⟨gv,0,none⟩) rs.length capv)∧(∀ i x,(rs.map (·.stamp))[i]?=some x→w.cell? ⟨g0,i,none⟩=some (.int .i64 x))∧RecsAt w gv 0 rs∧g0<w.heap.size∧gv<w.heap.size:=by
 obtain ⟨ao,cap,r1,r2,_⟩:=h.keys
 obtain ⟨av,capv,s1,s2,_⟩:=h.vals
 obtain ⟨g0,rfl,_,hg0,hc⟩:=own_cells r2 (by simpa [intVals,stampsOf] using hne)
 obtain ⟨gv,rfl,hgv,hR⟩:=own_recs s2 hne
 exact ⟨g0,cap,gv,capv,r1,s1,fun i x hx=>hc i _ (by simp only [intVals,stampsOf,List.getElem?_map] at hx ⊢;rw [hx];rfl),hR,hg0,hgv⟩
theorem own_mono {w:World} {b base:Nat} {e:TypeId} {size:Nat} {v:Value} {n:Nat} {xs:List Value} (h:w.ownsRow base e size v n xs) (hb:b≤base):w.ownsRow b e size v n xs:=by
 refine ⟨h.1,?_⟩
 rcases h.2 with h2|⟨g,cap,cur,hv,hg,r⟩
 ·exact Or.inl h2
 ·exact Or.inr ⟨g,cap,cur,hv,Nat.le_trans hb hg,r⟩
theorem q_put {w W:World} (q:Q w W) {D:Nat} (hD:w.heap.size≤D) (o':Obj):Q w (W.putObj D o'):=
 ⟨q.below.grown (grownBy_putObj' W D o') q.below.size (fun k e=>by injection e with e;omega)⟩
theorem recCells_one_cell:∀ (L:List Rec),∀ u∈recCells L,u.oneCell'=true
 | [],u,hu=>by simp [recCells] at hu
 | r::L,u,hu=>by
  have e:recCells (r::L)=r.cells++recCells L:=by simp [recCells]
  rw [e,List.mem_append] at hu
  rcases hu with hu|hu
  ·exact rec_cells_one r u hu
  ·exact recCells_one_cell L u hu
structure HistIn (w:World) (Bv:Nat) (T:List Rec) (tg:Tags) (W:World):Prop where
 below:Below w.heap.size w W
 old:∀ k,k<w.heap.size→tg k=(0,0)
 tb:(tg Bv).1=1
 row:∃ vo vc,W.heap[Bv]?=some (.cells #[.slice vo T.length vc] 72 (0,0))∧W.ownsRow (Bv+1) 62 4 (.slice vo T.length vc) T.length (recCells T)∧∀ g,(Value.slice vo T.length vc).ownBlock=some g→(tg g).1=1
theorem HistIn.keep {w:World} {Bv:Nat} {T:List Rec} {tg tg1:Tags} {A B:World} (h:HistIn w Bv T tg A) {P:Nat→Prop} (hk:Kept P tg A tg1 B) (h0:¬P 0) (h1:¬P 1):HistIn w Bv T tg1 B:=by
 obtain ⟨vo,vc,e1,e2,e3⟩:=h.row
 have hBv:Bv<A.heap.size:=(Array.getElem?_eq_some_iff.1 e1).1
 have hs:=h.below.size
 refine ⟨⟨hk.os.trans h.below.os,hk.tape.trans h.below.tape,hk.output.trans h.below.output,Nat.le_trans hs hk.size,fun k hkk=>(hk.block k (by omega) (by rw [h.old k hkk];exact h0)).trans (h.below.block k hkk)⟩,fun k hkk=>(hk.tags k (by omega)).trans (h.old k hkk),by rw [hk.tags Bv hBv];exact h.tb,vo,vc,(hk.block Bv hBv (by rw [h.tb];exact h1)).trans e1,row_keep e2 (fun g hg=>hk.block g (e2.lt g hg).2 (by rw [e3 g hg];exact h1)),fun g hg=>?_⟩
 rw [hk.tags g (e2.lt g hg).2]
 exact e3 g hg
theorem HistIn.push {w:World} {Bv:Nat} {T:List Rec} {tg:Tags} {W w':World} {r:Rec} {vo vo':Option Addr} {vc vc':Nat} (h:HistIn w Bv T tg W) (hB:w.heap.size≤Bv) (e1:W.heap[Bv]?=some (.cells #[.slice vo T.length vc] 72 (0,0))) (e2:W.ownsRow (Bv+1) 62 4 (.slice vo T.length vc) T.length (recCells T)) (e3:∀ g,(Value.slice vo T.length vc).ownBlock=some g→(tg g).1=1)
  (hg:(W.alloc (.cells #[.string r.key,.int .i64 r.stamp,.int .i64 r.kind,.string r.body] 62)).grownBy w' (Value.slice vo T.length vc).ownBlock)
  (ho:w'.ownsRow (Bv+1) 62 4 (.slice vo' (T.length+1) vc') (T.length+1) (recCells T++r.cells))
  (hw:(Value.slice vo' (T.length+1) vc').ownBlock=(Value.slice vo T.length vc).ownBlock∨(Value.slice vo' (T.length+1) vc').ownBlock=some (W.heap.size+1)) :
  w'.cell? ⟨Bv,0,none⟩=some (.slice vo T.length vc)∧w'.frozen? ⟨Bv,0,none⟩=false∧HistIn w Bv (T++[r]) (tg.more W.heap.size 1 0) (w'.setCell ⟨Bv,0,none⟩ (.slice vo' (T.length+1) vc'))∧Kept (·=1) tg W (tg.more W.heap.size 1 0) (w'.setCell ⟨Bv,0,none⟩ (.slice vo' (T.length+1) vc')):=by
 have hBv:Bv<W.heap.size:=(Array.getElem?_eq_some_iff.1 e1).1
 have hsz:=hg.size
 rw [World.size_alloc] at hsz
 have hnB:(Value.slice vo T.length vc).ownBlock≠some Bv:=fun e=>by have:=(e2.lt Bv e).1;omega
 have h7:∀ k,k<W.heap.size→(Value.slice vo T.length vc).ownBlock≠some k→w'.heap[k]?=W.heap[k]?:=fun k hk hn=>by
  rw [hg.block k (by rw [World.size_alloc];omega) (fun e=>hn e.symm)]
  exact ((Below.refl _ W).alloc (Nat.le_refl _) _).block k hk
 have hB7:w'.heap[Bv]?=some (.cells #[.slice vo T.length vc] 72 (0,0)):=(h7 Bv hBv hnB).trans e1
 have hK:Kept (·=1) tg W (tg.more W.heap.size 1 0) (w'.setCell ⟨Bv,0,none⟩ (.slice vo' (T.length+1) vc')):=by
  refine ⟨hg.os,hg.tape,hg.output,by simp;omega,fun k hk=>Tags.more_old hk,fun k hk hn=>?_⟩
  rw [heap_setCell_other w' ⟨Bv,0,none⟩ k _ (fun e=>hn (by simp at e;rw [e];exact h.tb))]
  exact h7 k hk (fun e=>hn (e3 k e))
 have hs:=h.below.size
 refine ⟨by simp [World.cell?,hB7],frozen_of_row w' Bv 0 _ _ hB7,⟨?_,?_,?_,vo',vc',?_,?_,?_⟩,hK⟩
 ·refine ⟨hK.os.trans h.below.os,hK.tape.trans h.below.tape,hK.output.trans h.below.output,Nat.le_trans hs hK.size,fun k hk=>(hK.block k (by omega) (by rw [h.old k hk];simp)).trans (h.below.block k hk)⟩
 ·exact fun k hk=>(Tags.more_old (by omega)).trans (h.old k hk)
 ·rw [Tags.more_old hBv];exact h.tb
 ·have hlen:(T++[r]).length=T.length+1:=by simp
  rw [hlen]
  exact boxed_set _ hB7
 ·have hlen:(T++[r]).length=T.length+1:=by simp
  rw [hlen,recCells_append,recCells_one]
  exact row_keep ho (fun g hgb=>heap_setCell_other w' ⟨Bv,0,none⟩ g _ (fun e=>by have:=(ho.lt g hgb).1;simp at e;omega))
 ·intro g hgb
  have hlen:(T++[r]).length=T.length+1:=by simp
  rw [hlen] at hgb
  rcases hw with e|e
  ·rw [e] at hgb
   rw [Tags.more_old (e2.lt g hgb).2]
   exact e3 g hgb
  ·rw [e] at hgb
   injection hgb with hgb
   rw [Tags.more_new (by omega)]
theorem wpListIn_append_where {F:Fence} {n:Nat} {P:Program} {w:World} {ops:Array Oper} {rest:List Oper} {o:Oper} {a:Act} {Q:Exit→Act→World→Prop} (hgd:o.guard=none) (s x:Operand) (t:TypeId)
  (ho:o.op=.call { callee:=.builtin .append,args:=#[s,x],argTypes:=#[t,t]})
  (base:Nat) (e:TypeId) (i:TypeInfo) (z:Value) (size bytes:Nat) (ht:P.underlying t=some (.slice e)) (hi:P.info? e=some i) (hz:i.zero=some z)
  (hsize:i.size=size) (hby:i.bytes=bytes) (hzs:z.cells.size=size) (hsz:0<size)
  (v:Value) (k:Nat) (xs:List Value) (hs:a.eval s=v) (hown:w.ownsRow base e size v k xs)
  (ad:Addr) (m c:Nat) (news:List Value) (hx:a.eval x=.slice (some ad) m c) (hl:news.length=m*size) (hnews:∀ j u,news[j]?=some u→w.cell? (ad.add j)=some u) (h1:∀ u∈news,u.oneCell'=true)
  (hm:0<m) (h63:k+m≤maxLen) (hbytes:(k+m)*bytes≤140737488355328) (hbase:base≤w.heap.size)
  (h:∀ v' w',w'.ownsRow base e size v' (k+m) (xs++news)→w.grownBy w' v.ownBlock→(v'.ownBlock=v.ownBlock∨v'.ownBlock=some w.heap.size)→wpListIn F n P ops Q rest (a.put o.dst v') w'):wpListIn F n P ops Q (o::rest) a w:=by
 refine wpListIn_plain hgd fun _ hK=>?_
 obtain ⟨v',w',hr,h2,h3,_⟩:=run_append_own (P:=P) w base t o.type e i z size bytes ht hi hz hsize hby hzs hsz v k xs hown ad m c news hl hnews h1 h63 hbytes hbase
 have h4:=append_where (ty:=o.type) ht hi hz hsize hby hown hl hnews h1 hm h63 hbytes hr
 unfold Oper.wpIn
 refine ⟨by simp [Oper.about,ho,resolve,Target.leads,Sem.run_pure],?_⟩
 rw [Oper.semAt_plain F _ _ (by rw [ho];intro c hc';cases hc')]
 simp [execOp,ho,resolve,invoke,builtin,hs,hx,hr,Result.andThen]
 exact hK _ _ (h v' w' h2 h3 h4)
def HistSaid (bad:Prop) (c:Nat) (bs:List (List Rec)) (wm:Int) (bl:ByteArray) (ao:Option Addr) (cap:Nat) (lo0:Option Addr) (R B:List Rec) (w:World) (e:Ending) (w':World):Prop:=
 (∃ vo vc,e=.returned (.tuple #[.slice vo R.length vc,.int .i64 0])∧w'.ownsRow w.heap.size 62 4 (.slice vo R.length vc) R.length (recCells R)∧∃ nx lo lc left,CurIn bad w' c bs wm bl ao cap nx lo lc left B∧∀ a,lo=some a→(∃ a0,lo0=some a0∧a.block=a0.block)∨w.heap.size≤a.block)∨(bad∧e=.returned (.tuple #[.slice none 0 0,.int .i64 3]))
theorem history_pend {bad:Prop} {w:World} {tg:Tags} {o s d c:Nat} {X:S.Sto} {ids ps:List Nat} {bs:List (List Rec)} (h:StoAt w tg o s d X ids ps) (hX:X.Ok) (k:ByteArray) (rs:List Rec) (hp:S.lookK X.pend k=some rs) (hct:c<w.heap.size) (hcG:c≠1)
  (A B:List Rec) {wm:Int} {bl:ByteArray} {ao:Option Addr} {cap nx0:Nat} {lo0:Option Addr} {lc0:Nat} {left0:List Rec} (h0:CurIn bad w c bs wm bl ao cap nx0 lo0 lc0 left0 (A++B)) (hT:Tab w) (hk:∀ r∈A,r.key=k) (hB:∀ r∈B,r.key≠k) (hl:A.length≤1048576) (hA:S.lookK X.newest k=none↔A=[]) :
  Calls Tryz.prog 86 #[.pointer (some ⟨s,0,none⟩),.string k,.pointer (some ⟨c,0,none⟩)] w fun e w'=>HistSaid bad c bs wm bl ao cap lo0 (rs.reverse++A) B w e w'∧But c w w':=by
 have PG:Hid _:=fun (W:World) (q:Q w W)=>pendGet (h.kept q) hX k
 have NG:Hid _:=fun (W:World) (hW:StoAt W tg o s d X ids ps)=>newestGet hW hX k
 refine (callsIn_wide (n:=9)).1 ?_
 refine callsIn_of_wp_marks Tryz.func86 rfl trivial ?_ rfl
 simp only [Tryz.ntmps86,List.size_toArray,List.length_cons,List.length_nil,Nat.reduceAdd,Nat.reduceSub,Array.replicate_succ,Array.replicate_zero,List.push_toArray,List.append_toArray,List.nil_append,List.cons_append]
 have hmx:Tryz.prog.follows .mixedOrders=true:=by kernel_rfl
 gi_wp2
 refine ⟨trivial,(callsIn_wide.2 (PG.out _ ((Q.refl w).alloc _ _))).mono ?_⟩
 rintro e w1 ⟨hP,q1⟩
 rcases hP with ⟨hn,rfl⟩|⟨i,p,id,rs',hpi,hid,hkr,hl2,rfl⟩
 ·rw [hp] at hn;cases hn
 ·rw [hp] at hl2
  injection hl2 with hl2
  subst hl2
  gi_wp2
  refine ⟨trivial,(mback_in _ _ _).mono ?_⟩
  rintro e w2 ⟨rfl,rfl⟩
  gi_wp2
  have hrs:=hX.each _ (List.mem_of_getElem? hkr)
  simp only at hrs
  obtain ⟨hin,htp,hfp⟩:=(h.kept (((Q.refl w).alloc #[.slice none 0 0] 72).trans q1)).inner i p id _ hpi hid hkr
  obtain ⟨hin0,_,_⟩:=h.inner i p id _ hpi hid hkr
  simp only at hin hin0
  have hs1:=q1.below.size
  rw [World.size_alloc] at hs1
  obtain ⟨wl,hwl⟩:∃ wl,wl=w1.alloc (.cells #[.pointer (some ⟨p,0,none⟩)] 105):=⟨_,rfl⟩
  obtain ⟨tgl,htgl⟩:∃ tgl:Tags,tgl=fun k=>if k<w.heap.size then (0,0) else if k=w.heap.size then (1,0) else (2,0):=⟨_,rfl⟩
  have tl0:∀ k,k<w.heap.size→tgl k=(0,0):=fun k hk=>by rw [htgl];simp [hk]
  have tl1:tgl w.heap.size=(1,0):=by rw [htgl];simp
  have tl2:∀ k,w.heap.size<k→tgl k=(2,0):=fun k hk=>by rw [htgl];simp [Nat.not_lt.2 (Nat.le_of_lt hk),Nat.ne_of_gt hk]
  have hql:Q w1 wl:=by rw [hwl];exact (Q.refl w1).alloc _ _
  have hqw:Q w wl:=(((Q.refl w).alloc #[.slice none 0 0] 72).trans q1).trans hql
  have hsl:wl.heap.size=w1.heap.size+1:=by rw [hwl];simp
  have hbox:wl.heap[w.heap.size]?=some (.cells #[.slice none 0 0] 72 (0,0)):=by
   rw [hql.below.block _ (by omega),q1.below.block _ (by simp)]
   exact heap_alloc_new w _
  have hbm:wl.cell? ⟨w1.heap.size,0,none⟩=some (.pointer (some ⟨p,0,none⟩)):=by rw [hwl];simp
  have hI0:HistIn w w.heap.size [] tgl wl:=⟨hqw.below,tl0,by rw [tl1],none,0,hbox,World.ownsRow_nil _ _ _ _,fun g hg=>by simp [Value.ownBlock] at hg⟩
  rw [←hwl]
  clear hwl htgl
  refine range_TX rfl (by omega) (gf:=152) (lb:=#[.pointer (some ⟨w1.heap.size,0,none⟩)]) (by simp [Act.eval]) trivial (enters_of Tryz.func152 rfl rfl) rs.length 4 (fun x=>x=2∨x=3) (·=1) (fun _=>True) (MBackG rs) tgl (by simp) (by simp) ?seq ?ps
   (fun tg i W=>HistIn w w.heap.size (rs.reverse.take i) tg W) (fun _ _ _ _=>False) ?hI (fun _ _ _ _ _ _ h _=>h) hI0
   (fun tg i vs a' W=>∃ (r:Rec) (Br:Nat) (vo:Option Addr) (vc:Nat),rs.reverse[i]?=some r∧HistIn w w.heap.size (rs.reverse.take i) tg W∧W.heap[w.heap.size]?=some (.cells #[.slice vo (rs.reverse.take i).length vc] 72 (0,0))∧W.ownsRow (w.heap.size+1) 62 4 (.slice vo (rs.reverse.take i).length vc) (rs.reverse.take i).length (recCells (rs.reverse.take i))∧(∀ g,(Value.slice vo (rs.reverse.take i).length vc).ownBlock=some g→(tg g).1=1) ∧
    W.heap[Br]?=some (.cells #[.string r.key,.int .i64 r.stamp,.int .i64 r.kind,.string r.body] 62 (0,0))∧(tg Br).1=1∧a'={ tmps:=#[.pointer (some ⟨s,0,none⟩),.string k,.pointer (some ⟨c,0,none⟩),undef,undef,undef,.slice none 0 0,.int .i64 0,.pointer (some ⟨w.heap.size,0,none⟩),.pointer (some ⟨p,0,none⟩),.bool true,undef,.pointer (some ⟨Br,0,none⟩),undef,undef,undef,undef,.tuple #[.pointer (some ⟨p,0,none⟩),.bool true],.pointer (some ⟨s,0,none⟩),.pointer (some ⟨s,0,none⟩),.pointer (some ⟨s,6,none⟩),.string k,.tuple #[.pointer (some ⟨p,0,none⟩),.bool true],.pointer (some ⟨p,0,none⟩),.bool true,.bool true,.pointer (some ⟨p,0,none⟩),.func (.func 152) #[] #[.pointer (some ⟨w1.heap.size,0,none⟩)],.int .i64 r.stamp,.agg #[.string r.key,.int .i64 r.stamp,.int .i64 r.kind,.string r.body],undef,undef,undef,undef,undef,undef,undef,undef,undef,undef,undef,undef,undef,undef,undef,undef,undef,undef,undef,undef,undef,undef,undef,undef,undef,undef,undef],defers:=[]})
   ?hAx ?assign ?body ?done (fun _ _ _ _ _ _ h=>h.elim)
  case seq =>
   intro W1 tg1 hb1 hsW ht1
   obtain ⟨g0,cap0,gv,capv,x1,x2,x3,x4,x5,x6⟩:=hin0.rows hrs.2.1
   have bq:∀ k j,k<w.heap.size→W1.cell? ⟨k,j,none⟩=w.cell? ⟨k,j,none⟩:=fun k j hk=>(hb1.cell (p:=⟨k,j,none⟩) (show k<wl.heap.size by omega)).trans (hqw.below.cell (p:=⟨k,j,none⟩) hk)
   have tq:∀ k,k<w.heap.size→(tg1 k).1=0:=fun k hk=>by rw [ht1 k (by omega),tl0 k hk]
   refine mback1 (9-1) (by omega) rs (by omega) w1.heap.size p g0 cap0 gv capv 2 3 _ _ (Or.inl rfl) (Or.inr rfl) (by omega) (fun x hx hy=>by rcases hx with rfl | rfl<;>rcases hy with hy | hy<;>omega) tg1 W1 ((hb1.cell (p:=⟨w1.heap.size,0,none⟩) (show w1.heap.size<wl.heap.size by omega)).trans hbm) ((bq p 0 hin0.top).trans x1) ((bq p 1 hin0.top).trans x2)
    (fun i x hx=>(bq g0 i x5).trans (x3 i x hx)) (fun i r hr=>?_) ⟨by omega,by rw [ht1 _ (by omega),tl2 _ (by omega)];simp⟩ ⟨by have:=hin0.top;omega,by rw [tq p hin0.top];simp⟩ ⟨by omega,by rw [tq g0 x5];simp⟩ ⟨by omega,by rw [tq gv x6];simp⟩
   obtain ⟨y0,y1,y2,y3⟩:=x4 i r hr
   exact ⟨(bq gv _ x6).trans y0,(bq gv _ x6).trans y1,(bq gv _ x6).trans y2,(bq gv _ x6).trans y3⟩
  case ps=>rintro tg i vs W ⟨r,_,_,rfl⟩;rfl
  case hI =>
   rintro tg i A' tg1 B' hh hk
   exact hh.keep hk (by simp) (by simp)
  case hAx =>
   rintro tg i vs a' A' tg1 B' ⟨r,Br,vo,vc,h1,h2,h3,h4,h5,h6,h7,h8⟩ hk
   have hBl:=(Array.getElem?_eq_some_iff.1 h3).1
   have hrl:=(Array.getElem?_eq_some_iff.1 h6).1
   refine ⟨r,Br,vo,vc,h1,h2.keep hk (by simp) (by simp),(hk.block _ hBl (by rw [h2.tb];simp)).trans h3,row_keep h4 (fun g hg=>hk.block g (h4.lt g hg).2 (by rw [h5 g hg];simp)),fun g hg=>by rw [hk.tags g (h4.lt g hg).2];exact h5 g hg,(hk.block _ hrl (by rw [h7];simp)).trans h6,by rw [hk.tags Br hrl];exact h7,h8⟩
  case assign =>
   rintro l i tg vs W K hI ⟨r,hi,hr,rfl⟩ hK
   unfold Rec.val
   gi_wp2
   obtain ⟨vo,vc,e1,e2,e3⟩:=hI.row
   have hBl:=(Array.getElem?_eq_some_iff.1 e1).1
   have hka:Kept (·=1) tg W (tg.more W.heap.size 1 0) (W.alloc (.cells #[.string r.key,.int .i64 r.stamp,.int .i64 r.kind,.string r.body] 62)):=Kept.alloc _ (fun k hk=>Tags.more_old hk)
   have hkb:Kept (fun _=>False) tg W (tg.more W.heap.size 1 0) (W.alloc (.cells #[.string r.key,.int .i64 r.stamp,.int .i64 r.kind,.string r.body] 62)):=Kept.alloc _ (fun k hk=>Tags.more_old hk)
   refine hK _ _ (tg.more W.heap.size 1 0) hka ⟨r,W.heap.size,vo,vc,?_,hI.keep hkb (fun h=>h) (fun h=>h),(hkb.block _ hBl (fun h=>h)).trans e1,row_keep e2 (fun g hg=>hkb.block g (e2.lt g hg).2 (fun h=>h)),fun g hg=>by rw [hkb.tags g (e2.lt g hg).2];exact e3 g hg,heap_alloc_new W _,by rw [Tags.more_new (Nat.le_refl _)],rfl⟩
   rw [List.getElem?_reverse hi]
   exact hr
  case body =>
   rintro l i tg2 vs a' W hl2 ⟨r,Br,vo,vc,h1,h2,h3,h4,h5,h6,h7,rfl⟩
   obtain ⟨i0,hi,hz0,hz1,hz2⟩:=info_parts infoR
   have hT1:rs.reverse.take (i+1)=rs.reverse.take i++[r]:=by rw [List.take_add_one,h1];rfl
   obtain ⟨T,hTe⟩:∃ T,rs.reverse.take i=T:=⟨_,rfl⟩
   have hTl:T.length≤1048576:=by rw [←hTe];simp;omega
   rw [hTe] at hT1 h2 h3 h4 h5
   have y0:W.cell? ⟨w.heap.size,0,none⟩=some (.slice vo T.length vc):=by simp [World.cell?,h3]
   have y1:W.cell? ⟨Br,0,none⟩=some (.string r.key):=by simp [World.cell?,h6]
   have y2:W.cell? ⟨Br,1,none⟩=some (.int .i64 r.stamp):=by simp [World.cell?,h6]
   have y3:W.cell? ⟨Br,2,none⟩=some (.int .i64 r.kind):=by simp [World.cell?,h6]
   have y4:W.cell? ⟨Br,3,none⟩=some (.string r.body):=by simp [World.cell?,h6]
   have hown2:=own_below h4 (((Q.refl W).alloc #[.string r.key,.int .i64 r.stamp,.int .i64 r.kind,.string r.body] 62).below)
   have HP:Hid _:=fun (w':World) (vo':Option Addr) (vc':Nat)=>h2.push (w':=w') (r:=r) (vo':=vo') (vc':=vc') (Nat.le_refl _) h3 h4 h5
   have hsz:w.heap.size<W.heap.size:=(Array.getElem?_eq_some_iff.1 h3).1
   clear h2 h3 h4 h5 h6 h7 hI0 hbox hbm
   gi_wp2_with (gi_at_builtin;refine wpListIn_append_where rfl (.tmp 30) (.tmp 32) 72 rfl (w.heap.size+1) 62 i0 (.agg #[.string ⟨#[]⟩,.int .i64 0,.int .i64 0,.string ⟨#[]⟩]) 4 48 Tryz.underlying72 hi hz0 hz1 hz2 rfl (by decide) _ _ _ rfl hown2 ⟨W.heap.size,0,none⟩ 1 1 r.cells rfl rfl ?c1 ?c2 (by omega) ?c3 ?c4 ?c5 ?_)
   case c1=>exact rec_cells_at _ _ _
   case c2=>exact rec_cells_one _
   case c3=>unfold maxLen;omega
   case c4=>omega
   case c5=>simp;omega
   intro v' w' hown' hgrow hvb
   obtain ⟨vo2,vc2,hv2⟩:=own_form hown'
   subst hv2
   obtain ⟨z0,z1,hN,hK⟩:=HP.out w' vo2 vc2 hgrow hown' hvb
   have HN:Hid _:=And.intro hN hK
   clear hN hK hown' hgrow hvb HP
   gi_wp2
   exact ⟨_,HN.out.2,trivial,by show HistIn w w.heap.size (rs.reverse.take (i+1)) _ _;rw [hT1];exact HN.out.1⟩
  case done =>
   intro D2 tg2 W hD hI2 htD hDW
   have hI3:HistIn w w.heap.size rs.reverse tg2 W:=by
    have:rs.reverse.take rs.length=rs.reverse:=by rw [List.take_of_length_le (by simp)]
    have h1:HistIn w w.heap.size (rs.reverse.take rs.length) tg2 W:=hI2
    rw [this] at h1
    exact h1
   have qW:Q w W:=⟨hI3.below⟩
   obtain ⟨vo,vc,e1,e2,e3⟩:=hI3.row
   have hDl:=(Array.getElem?_eq_some_iff.1 hDW).1
   have hBl:=(Array.getElem?_eq_some_iff.1 e1).1
   have NG2:Hid _:=fun (_:Unit)=>NG.out W (h.kept qW)
   have HR:Hid _:=And.intro e1 (And.intro e2 (And.intro qW hDW))
   clear hI2 hI3 NG PG e3
   by_cases hAe:A=[]
   ·have hnn:=hA.2 hAe
    subst hAe
    rw [hnn] at NG2
    simp only [Option.getD_none,Option.isSome_none] at NG2
    gi_wp2
    refine ⟨trivial,(callsIn_wide.2 (NG2.out ())).mono ?_⟩
    rintro e w3 ⟨rfl,q3⟩
    have hD3:w3.heap[D2]?=some (.deferred (some [])):=(q3.below.block D2 hDl).trans hDW
    have hb3:w3.heap[w.heap.size]?=some (.cells #[.slice vo rs.reverse.length vc] 72 (0,0)):=(q3.below.block _ hBl).trans e1
    have y0:w3.cell? ⟨w.heap.size,0,none⟩=some (.slice vo rs.reverse.length vc):=by simp [World.cell?,hb3]
    clear NG2
    gi_wp2
    refine ⟨by simp,.inl ⟨_,_,rfl,run_takeDeferred hD3,?_⟩⟩
    refine ⟨_,results_tmp2 rfl _ _ _,?_⟩
    have qf:Q w (w3.putObj D2 (.deferred none)):=q_put (qW.trans q3) (by have:=qW.below.size;omega) _
    refine ⟨Or.inl ⟨vo,vc,by simp,?_,nx0,lo0,lc0,left0,h0.kept qf,fun a ha=>Or.inl ⟨a,ha,rfl⟩⟩,But.of_q qf⟩
    rw [List.append_nil]
    refine own_mono (row_keep e2 (fun g hg=>?_)) (by omega)
    have hne:g≠D2:=fun e=>by
     obtain ⟨cc,hcc⟩:=own_obj e2 g hg
     rw [e,hDW] at hcc
     cases hcc
    exact (World.putObj_heap_other (by omega)).trans (q3.below.block g (e2.lt g hg).2)
   ·obtain ⟨nn,hnn⟩:∃ nn,S.lookK X.newest k=some nn:=by
     cases hnk:S.lookK X.newest k with
     | none=>exact absurd (hA.1 hnk) hAe
     | some nn=>exact ⟨nn,rfl⟩
    rw [hnn] at NG2
    simp only [Option.getD_some,Option.isSome_some] at NG2
    obtain ⟨i0,hi,hz0,hz1,hz2⟩:=info_parts infoR
    obtain ⟨T,hTe⟩:∃ T,rs.reverse=T:=⟨_,rfl⟩
    have hTl:T.length≤1048576:=by rw [←hTe];simp;omega
    rw [hTe] at e1 e2
    have HTe:Hid (rs.reverse=T):=hTe
    clear hTe HR
    gi_wp2
    refine ⟨trivial,(callsIn_wide.2 (NG2.out ())).mono ?_⟩
    rintro e w3 ⟨rfl,q3⟩
    have hD3:w3.heap[D2]?=some (.deferred (some [])):=(q3.below.block D2 hDl).trans hDW
    have hb3:w3.heap[w.heap.size]?=some (.cells #[.slice vo T.length vc] 72 (0,0)):=(q3.below.block _ hBl).trans e1
    have e23:w3.ownsRow (w.heap.size+1) 62 4 (.slice vo T.length vc) T.length (recCells T):=own_below e2 q3.below
    have q03:=qW.trans q3
    have TK:Hid _:=fun (_:Unit)=>take_any (h0.kept q03) (tab_kept hT q03) hcG hAe k hk hB hl
    have hDl3:D2<w3.heap.size:=(Array.getElem?_eq_some_iff.1 hD3).1
    have hDw:w.heap.size≤D2:=by have:=qW.below.size;omega
    clear NG2 e1 e2
    gi_wp2
    refine ⟨trivial,(callsIn_wide.2 (TK.out ())).mono ?_⟩
    rintro e w4 ⟨hS4,hb4⟩
    have hD4:w4.heap[D2]?=some (.deferred (some [])):=(hb4.block D2 hDl3 (by omega)).trans hD3
    have hbv4:w4.heap[w.heap.size]?=some (.cells #[.slice vo T.length vc] 72 (0,0)):=(hb4.block _ (Array.getElem?_eq_some_iff.1 hb3).1 (by omega)).trans hb3
    have y0:w4.cell? ⟨w.heap.size,0,none⟩=some (.slice vo T.length vc):=by simp [World.cell?,hbv4]
    have e24:w4.ownsRow (w.heap.size+1) 62 4 (.slice vo T.length vc) T.length (recCells T):=row_keep e23 (fun g hg=>hb4.block g (e23.lt g hg).2 (by have:=(e23.lt g hg).1;omega))
    have hbut4:But c w w4:=(But.of_q q03).trans hb4
    rcases hS4 with ⟨vo4,vc4,rfl,hown4,nx4,lo4,lc4,left4,hC4,hfrom⟩|⟨hbad,rfl⟩
    ·obtain ⟨g4,hg41,hg42,hg43,hg44⟩:=own_cells hown4 (fun e=>hAe (List.eq_nil_of_length_eq_zero (by have:=congrArg List.length e;rw [recCells_length] at this;simp only [List.length_nil] at this;omega)))
     subst hg41
     have hne4:∀ a g,lo4=some a→(Value.slice vo T.length vc).ownBlock=some g→a.block≠g:=fun a g ha hg=>by
      have h1:=e23.lt g hg
      rcases hfrom a ha with ⟨a0,ha0,hab⟩|h2
      ·have:=h0.recsB a0 ha0
       omega
      ·omega
     have hneD:∀ a,lo4=some a→a.block≠D2:=fun a ha=>by
      rcases hfrom a ha with ⟨a0,ha0,hab⟩|h2
      ·have:=h0.recsB a0 ha0
       omega
      ·omega
     have HF:Hid _:=And.intro hC4 (And.intro hne4 (And.intro hneD (And.intro hbut4 (And.intro e24 hD4))))
     have HFr:Hid (∀ a,lo4=some a→(∃ a0,lo0=some a0∧a.block=a0.block)∨w.heap.size≤a.block):=fun a ha=>(hfrom a ha).imp (fun h=>h) (fun h=>Nat.le_trans q03.below.size h)
     have hAp:0<A.length:=List.length_pos_iff.2 hAe
     have hsz4:w.heap.size+1≤w4.heap.size:=(Array.getElem?_eq_some_iff.1 hbv4).1
     have hcl:(recCells A).length=A.length*4:=recCells_length A
     have hc4:=recCells_one_cell A
     clear hC4 hne4 hneD hbut4 hfrom hb4 hb3 hbv4 TK hD3 e23 q3 hD4
     have hneDT:(Value.slice vo T.length vc).ownBlock≠some D2:=fun e=>by
      obtain ⟨cc,hcc⟩:=own_obj HF.out.2.2.2.2.1 D2 e
      rw [HF.out.2.2.2.2.2] at hcc
      cases hcc
     gi_wp2_with (gi_at_builtin;refine wpListIn_append_where rfl (.tmp 54) (.tmp 55) 72 rfl (w.heap.size+1) 62 i0 (.agg #[.string ⟨#[]⟩,.int .i64 0,.int .i64 0,.string ⟨#[]⟩]) 4 48 Tryz.underlying72 hi hz0 hz1 hz2 rfl (by decide) _ _ _ rfl e24 ⟨g4,0,none⟩ A.length vc4 (recCells A) rfl hcl ?c1 hc4 hAp ?c3 ?c4 hsz4 ?_)
     case c1 =>
      intro j u hu
      have:=hg44 j u hu
      by_cases hj0:j=0
      ·subst hj0;simpa [Addr.add] using this
      ·simpa [Addr.add,hj0] using this
     case c3=>unfold maxLen;omega
     case c4=>omega
     intro v' w5 hown5 hg5 hv5
     obtain ⟨vo5,vc5,hv5e⟩:=own_form hown5
     subst hv5e
     have hD5:w5.heap[D2]?=some (.deferred (some [])):=(hg5.block D2 (Array.getElem?_eq_some_iff.1 HF.out.2.2.2.2.2).1 (fun e=>hneDT e.symm)).trans HF.out.2.2.2.2.2
     have HG:Hid _:=And.intro hown5 (And.intro hg5 hv5)
     clear hown5 hg5 hv5 hcl hc4 hg44
     gi_wp2
     refine ⟨by simp,.inl ⟨_,_,rfl,run_takeDeferred hD5,?_⟩⟩
     refine ⟨_,results_tmp2 rfl _ _ _,?_⟩
     obtain ⟨hown5,hg5,hv5⟩:=HG.out
     obtain ⟨hC4,hne4,hneD,hbut4,e24',hD4⟩:=HF.out
     have hC5:=hC4.grown h0.ents hct hg5 (fun g hg=>by have:=(e24'.lt g hg).1;omega) hne4
     have hC6:=hC5.grown h0.ents hct (grownBy_putObj' w5 D2 (.deferred none)) (fun g hg=>by injection hg with hg;omega) (fun a g ha hg=>by injection hg with hg;rw [←hg];exact hneD a ha)
     have hlen:(rs.reverse++A).length=T.length+A.length:=by rw [HTe.out];simp
     refine ⟨Or.inl ⟨vo5,vc5,by rw [hlen];rfl,?_,nx4,lo4,lc4,left4,hC6,HFr.out⟩,⟨?_,?_,?_,?_,?_⟩⟩
     ·rw [hlen,HTe.out,recCells_append]
      refine own_mono (row_keep hown5 (fun g hg=>?_)) (by omega)
      have hne:g≠D2:=fun e=>by
       obtain ⟨cc,hcc⟩:=own_obj hown5 g hg
       rw [e,hD5] at hcc
       cases hcc
      exact World.putObj_heap_other (by omega)
     ·exact hg5.os.trans hbut4.os
     ·exact hg5.tape.trans hbut4.tape
     ·exact hg5.output.trans hbut4.output
     ·have h1:=hbut4.size
      have h2:=hg5.size
      simp
      omega
     ·intro i hi2 hn2
      have h1:=hbut4.size
      rw [World.putObj_heap_other (by omega),hg5.block i (by omega) (fun e=>by have:=(e24'.lt i e.symm).1;omega)]
      exact hbut4.block i hi2 hn2
    ·gi_wp2
     refine ⟨by simp,.inl ⟨_,_,rfl,run_takeDeferred hD4,?_⟩⟩
     refine ⟨_,results_tmp2 rfl _ _ _,?_⟩
     refine ⟨Or.inr ⟨hbad,rfl⟩,hbut4.os,hbut4.tape,hbut4.output,?_,?_⟩
     ·have h1:=hbut4.size
      simp
      omega
     ·intro i hi2 hn2
      rw [World.putObj_heap_other (by omega)]
      exact hbut4.block i hi2 hn2
theorem history_none {bad:Prop} {w:World} {tg:Tags} {o s d c:Nat} {X:S.Sto} {ids ps:List Nat} {bs:List (List Rec)} (h:StoAt w tg o s d X ids ps) (hX:X.Ok) (k:ByteArray) (hp:S.lookK X.pend k=none) (hct:c<w.heap.size) (hcG:c≠1)
  (A B:List Rec) {wm:Int} {bl:ByteArray} {ao:Option Addr} {cap nx0:Nat} {lo0:Option Addr} {lc0:Nat} {left0:List Rec} (h0:CurIn bad w c bs wm bl ao cap nx0 lo0 lc0 left0 (A++B)) (hT:Tab w) (hk:∀ r∈A,r.key=k) (hB:∀ r∈B,r.key≠k) (hl:A.length≤1048576) (hAe:A≠[]) (nn:Int) (hnn:S.lookK X.newest k=some nn) :
  Calls Tryz.prog 86 #[.pointer (some ⟨s,0,none⟩),.string k,.pointer (some ⟨c,0,none⟩)] w fun e w'=>HistSaid bad c bs wm bl ao cap lo0 A B w e w'∧But c w w':=by
 have PG:Hid _:=fun (W:World) (q:Q w W)=>pendGet (h.kept q) hX k
 have NG:Hid _:=fun (W:World) (q:Q w W)=>newestGet (h.kept q) hX k
 rw [hnn] at NG
 simp only [Option.getD_some,Option.isSome_some] at NG
 have TK:Hid _:=fun (W:World) (q:Q w W)=>take_any (h0.kept q) (tab_kept hT q) hcG hAe k hk hB hl
 obtain ⟨i0,hi,hz0,hz1,hz2⟩:=info_parts infoR
 clear h hX hT
 go_enter Tryz.func86,Tryz.ntmps86
 go_wp2_with fail
 refine (PG.out _ ((Q.refl w).alloc _ _)).mono ?_
 rintro e w1 ⟨hP,q1⟩
 rcases hP with ⟨_,rfl⟩|⟨i,p,id,rs',hpi,hid,hkr,hl2,rfl⟩
 ·have q1':=((Q.refl w).alloc #[.slice none 0 0] 72).trans q1
  have hb1:w1.heap[w.heap.size]?=some (.cells #[.slice none 0 0] 72 (0,0)):=(q1.below.block _ (by simp)).trans (heap_alloc_new w _)
  have NG2:Hid _:=fun (_:Unit)=>NG.out w1 q1'
  clear PG NG
  go_wp2_with fail
  refine (NG2.out ()).mono ?_
  rintro e w3 ⟨rfl,q3⟩
  have q03:=q1'.trans q3
  have hBl1:=(Array.getElem?_eq_some_iff.1 hb1).1
  have hb3:w3.heap[w.heap.size]?=some (.cells #[.slice none 0 0] 72 (0,0)):=(q3.below.block _ hBl1).trans hb1
  have TK2:Hid _:=fun (_:Unit)=>TK.out w3 q03
  clear NG2 TK
  go_wp2_with fail
  refine (TK2.out ()).mono ?_
  rintro e w4 ⟨hS4,hb4⟩
  have hbv4:w4.heap[w.heap.size]?=some (.cells #[.slice none 0 0] 72 (0,0)):=(hb4.block _ (Array.getElem?_eq_some_iff.1 hb3).1 (by omega)).trans hb3
  have y0:w4.cell? ⟨w.heap.size,0,none⟩=some (.slice none 0 0):=by simp [World.cell?,hbv4]
  have hbut4:But c w w4:=(But.of_q q03).trans hb4
  clear TK2
  rcases hS4 with ⟨vo4,vc4,rfl,hown4,nx4,lo4,lc4,left4,hC4,hfrom⟩|⟨hbad,rfl⟩
  ·obtain ⟨g4,hg41,hg42,hg43,hg44⟩:=own_cells hown4 (fun e=>hAe (List.eq_nil_of_length_eq_zero (by have:=congrArg List.length e;rw [recCells_length] at this;simp only [List.length_nil] at this;omega)))
   subst hg41
   have HF:Hid _:=And.intro hC4 hbut4
   have HFr:Hid (∀ a,lo4=some a→(∃ a0,lo0=some a0∧a.block=a0.block)∨w.heap.size≤a.block):=fun a ha=>(hfrom a ha).imp (fun h=>h) (fun h=>Nat.le_trans q03.below.size h)
   have hAp:0<A.length:=List.length_pos_iff.2 hAe
   have hsz4:w.heap.size+1≤w4.heap.size:=(Array.getElem?_eq_some_iff.1 hbv4).1
   have hcl:(recCells A).length=A.length*4:=recCells_length A
   have hc4:=recCells_one_cell A
   clear hC4 hbut4 hfrom hb4 hb3 hbv4 q3 q03 q1 q1' hb1
   go_wp2_with (at_builtin;refine wpList_append_where rfl (.tmp 54) (.tmp 55) 72 rfl (w.heap.size+1) 62 i0 (.agg #[.string ⟨#[]⟩,.int .i64 0,.int .i64 0,.string ⟨#[]⟩]) 4 48 Tryz.underlying72 hi hz0 hz1 hz2 rfl (by decide) _ _ _ rfl (World.ownsRow_nil _ _ _ _) ⟨g4,0,none⟩ A.length vc4 (recCells A) rfl hcl ?c1 hc4 hAp ?c3 ?c4 hsz4 ?_)
   case c1 =>
    intro j u hu
    have:=hg44 j u hu
    by_cases hj0:j=0
    ·subst hj0;simpa [Addr.add] using this
    ·simpa [Addr.add,hj0] using this
   case c3=>unfold maxLen;omega
   case c4=>omega
   intro v' w5 hown5 hg5 hv5
   obtain ⟨vo5,vc5,hv5e⟩:=own_form hown5
   subst hv5e
   have HG:Hid _:=And.intro hown5 hg5
   clear hown5 hg5 hv5 hcl hc4 hg44
   go_wp2_with fail
   go_ret2
   obtain ⟨hown5,hg5⟩:=HG.out
   obtain ⟨hC4,hbut4⟩:=HF.out
   have hC5:=hC4.grown h0.ents hct hg5 (fun g hg=>by simp [Value.ownBlock] at hg) (fun a g ha hg=>by simp [Value.ownBlock] at hg)
   refine ⟨Or.inl ⟨vo5,vc5,rfl,own_mono hown5 (by omega),nx4,lo4,lc4,left4,hC5,HFr.out⟩,⟨hg5.os.trans hbut4.os,hg5.tape.trans hbut4.tape,hg5.output.trans hbut4.output,Nat.le_trans hbut4.size hg5.size,fun i hi2 hn2=>?_⟩⟩
   have h1:=hbut4.size
   exact (hg5.block i (by omega) (fun e=>by simp [Value.ownBlock] at e)).trans (hbut4.block i hi2 hn2)
  ·go_wp2_with fail
   go_ret2
   exact ⟨Or.inr ⟨hbad,rfl⟩,hbut4⟩
 ·rw [hp] at hl2;cases hl2
end Go.Proofs.YtekdenkllipehabGreatDoor
namespace Go.Proofs.YtekdenkllipehabGreatDoor
open Go.RowKit Go.Shelf
attribute [local go_sem] Oper.semAt_some
theorem union_in (n s:Nat) (w:World) :
  CallsIn Fence.wide n Tryz.prog 85 #[.pointer (some ⟨s,4,none⟩),.pointer (some ⟨s,6,none⟩)] w fun e w'=>e=.returned (.func (.func 119) #[] #[.pointer (some ⟨w.heap.size,0,none⟩),.pointer (some ⟨w.heap.size+1,0,none⟩)])∧w'=(w.alloc (.cells #[.pointer (some ⟨s,4,none⟩)] 153)).alloc (.cells #[.pointer (some ⟨s,6,none⟩)] 140):=by
 refine callsIn_of_wp Tryz.func85 rfl trivial ?_ rfl
 simp only [Tryz.ntmps85,List.size_toArray,List.length_cons,List.length_nil,Nat.reduceAdd,Nat.reduceSub,Array.replicate_succ,Array.replicate_zero,List.push_toArray,List.append_toArray,List.nil_append,List.cons_append]
 gi_wp2
 go_ret
 exact ⟨rfl,rfl⟩
def HistsG (bad:Prop) (so:Nat) (X:S.Sto) (F:List Rec) (tg:Tags) (i:Nat) (vs:Array Value) (W:World):Prop:=
 (∃ (k:ByteArray) (vo:Option Addr) (vc:Nat),X.keys[i]?=some k∧vs=#[.slice vo (X.hist F k).length vc,.int .i64 0]∧W.ownsRow 0 62 4 (.slice vo (X.hist F k).length vc) (X.hist F k).length (recCells (X.hist F k))∧∀ g,(Value.slice vo (X.hist F k).length vc).ownBlock=some g→(tg g).1=so)
 ∨ (bad∧vs=#[.slice none 0 0,.int .i64 3])
def HistsOk (vs:Array Value):Prop:=vs.getD 1 undef=.int .i64 0
theorem textTo_ge {rs:List Rec}:∀ {k:Nat} {t:List UInt8},textTo rs k=some t→k≤t.length
 | 0,_,_=>Nat.zero_le _
 | k+1,t,h=>by
  simp only [textTo] at h
  cases ht:textTo rs k with
  | none=>rw [ht] at h;simp at h
  | some t0 =>
   cases hr:rs[k]? with
   | none=>rw [ht,hr] at h;simp at h
   | some r =>
    rw [ht,hr] at h
    simp only at h
    split at h
    ·simp at h
    ·simp only [Option.some.injEq] at h
     subst h
     have h1:=textTo_ge ht
     simp only [entry,List.length_append,List.length_singleton]
     omega
theorem blkText_ge {b:List Rec} (h:S.OkB b):b.length≤(S.blkText b).length:=by
 obtain ⟨t,ht⟩:=h.text
 unfold S.blkText
 rw [M.sealed_length,ht]
 unfold plainText at ht
 rw [if_neg (by have:=h.few;omega)] at ht
 have:=textTo_ge ht
 simp only [Option.getD_some]
 omega
theorem blkOf_ge:∀ {bs:List (List Rec)},(∀ b∈bs,S.OkB b)→bs.flatten.length≤(S.blkOf bs).length
 | [],_=>by simp
 | b::bs,h=>by
  have h1:=blkText_ge (h b (by simp))
  have h2:=blkOf_ge (bs:=bs) (fun x hx=>h x (by simp [hx]))
  have e1:S.blkOf (b::bs)=S.blkText b++S.blkOf bs:=by simp [S.blkOf]
  rw [e1,List.flatten_cons]
  simp only [List.length_append]
  omega
theorem CurIn.keptT {bad:Prop} {w w':World} {c:Nat} {bs:List (List Rec)} {wm:Int} {bl:ByteArray} {ao:Option Addr} {cap nx:Nat} {lo:Option Addr} {lc:Nat} {left rest:List Rec} (h:CurIn bad w c bs wm bl ao cap nx lo lc left rest) {R:Nat→Prop} {tg tg1:Tags} (hk:Kept R tg w tg1 w') (hc:¬R (tg c).1) (hE:∀ g,ao=some ⟨g,0,none⟩→g<w.heap.size→S.entsOf 0 bs≠[]→¬R (tg g).1) (hl:∀ a,lo=some a→¬R (tg a.block).1):CurIn bad w' c bs wm bl ao cap nx lo lc left rest:=by
 have cb:∀ g,g<w.heap.size→¬R (tg g).1→∀ j,w'.cell? ⟨g,j,none⟩=w.cell? ⟨g,j,none⟩:=fun g h1 h2 j=>World.cell?_of_block (a:=⟨g,j,none⟩) (hk.block g h1 h2)
 refine ⟨h.laid,h.small,h.ok,?_,?_,h.entsN,?_,h.recsN,fun a ha=>Nat.lt_of_lt_of_le (h.recsB a ha) hk.size,h.cap,h.next,h.rest⟩
 ·exact ⟨Nat.lt_of_lt_of_le h.var.1 hk.size,fun i v hv=>⟨(cb c h.var.1 hc i).trans (h.var.2 i v hv).1,(World.frozen?_of_block (a:=⟨c,i,none⟩) (hk.block c h.var.1 hc)).trans (h.var.2 i v hv).2⟩⟩
 ·by_cases hnil:S.entsOf 0 bs=[]
  ·exact Or.inl hnil
  rcases h.ents with h1|⟨g,h2,h3,h4⟩
  ·exact Or.inl h1
  ·have k:=cb g h3 (hE g h2 h3 hnil)
   refine Or.inr ⟨g,h2,Nat.lt_of_lt_of_le h3 hk.size,fun i x hi=>?_⟩
   obtain ⟨a,b,d,f⟩:=h4 i x hi
   exact ⟨(k _).trans a,(k _).trans b,(k _).trans d,(k _).trans f⟩
 ·rcases h.recs with h1|⟨g,off,h2,h3,h4⟩
  ·exact Or.inl h1
  ·have k:=cb g h3 (hl _ h2)
   refine Or.inr ⟨g,off,h2,Nat.lt_of_lt_of_le h3 hk.size,fun i x hi=>?_⟩
   obtain ⟨a,b,d,f⟩:=h4 i x hi
   exact ⟨(k _).trans a,(k _).trans b,(k _).trans d,(k _).trans f⟩
theorem tab_lt {w:World} (h:Tab w):1<w.heap.size:=by
 have h1:=h 0 (by omega)
 rcases Nat.lt_or_ge 1 w.heap.size with h2|h2
 ·exact h2
 ·unfold World.cell? at h1
  simp [Array.getElem?_eq_none h2] at h1
theorem tab_block {w w':World} (h:Tab w) (hb:w'.heap[1]?=w.heap[1]?):Tab w':=fun i hi=>(World.cell?_of_block (a:=⟨1,i,none⟩) hb).trans (h i hi)
theorem KMap.row {w:World} {tg:Tags} {o s c u:Nat} {tv:TypeId} {ks:List ByteArray} {vs:List Value} (h:KMap w tg o s c u tv ks vs) (hs:(tg s).1=o):∃ g la lc,w.cell? ⟨s,c,none⟩=some (.slice la ks.length lc)∧KeysAt w g la ks∧ks.length≤lc∧g<w.heap.size∧(tg g).1=o:=by
 obtain ⟨ao,cap,h1,h2,h3⟩:=h.keys
 by_cases hk:ks=[]
 ·exact ⟨s,ao,cap,h1,Or.inl hk,own_le h2,h.top,hs⟩
 ·obtain ⟨g,rfl,_,hg,hc⟩:=own_cells h2 (by simpa [strVals] using hk)
  refine ⟨g,_,cap,h1,Or.inr ⟨0,rfl,fun i k hi=>?_⟩,own_le h2,hg,by rw [h3 g rfl]⟩
  rw [Nat.zero_add]
  exact hc i _ (by simp [strVals,hi])
theorem But.kept {c:Nat} {w w':World} (h:But c w w') {P:Nat→Prop} {tg tg1:Tags} (hc:P (tg c).1) (ht:∀ k,k<w.heap.size→tg1 k=tg k):Kept P tg w tg1 w':=
 ⟨h.os,h.tape,h.output,h.size,ht,fun k hk hn=>h.block k hk (fun e=>hn (by rw [e];exact hc))⟩
def CurT (bad:Prop) (so:Nat) (c:Nat) (bs:List (List Rec)) (wm:Int) (bl:ByteArray) (ao:Option Addr) (cap:Nat) (tg:Tags) (W:World) (rest:List Rec):Prop:=
 ∃ nx lo lc left,CurIn bad W c bs wm bl ao cap nx lo lc left rest∧∀ a,lo=some a→(tg a.block).1=so
theorem CurT.keep {bad:Prop} {so:Nat} {c:Nat} {bs:List (List Rec)} {wm:Int} {bl:ByteArray} {ao:Option Addr} {cap:Nat} {tg tg1:Tags} {W W':World} {rest:List Rec} (h:CurT bad so c bs wm bl ao cap tg W rest) {R:Nat→Prop} (hk:Kept R tg W tg1 W') (hR:¬R so) (hc:¬R (tg c).1) (hE:∀ g,ao=some ⟨g,0,none⟩→g<W.heap.size→S.entsOf 0 bs≠[]→¬R (tg g).1):CurT bad so c bs wm bl ao cap tg1 W' rest:=by
 obtain ⟨nx,lo,lc,left,h1,h2⟩:=h
 exact ⟨nx,lo,lc,left,h1.keptT hk hc hE (fun a ha=>by rw [h2 a ha];exact hR),fun a ha=>by rw [hk.tags _ (h1.recsB a ha)];exact h2 a ha⟩
theorem history_any {bad:Prop} {w:World} {tg:Tags} {o s d c:Nat} {X:S.Sto} {ids ps:List Nat} {bs:List (List Rec)} {C:S.Con} (h:StoAt w tg o s d X ids ps) (hX:X.Good bs C) (k:ByteArray) (hkey:X.con C k≠[]) (hct:c<w.heap.size) (hcG:c≠1)
  (B:List Rec) {wm:Int} {bl:ByteArray} {ao:Option Addr} {cap nx0:Nat} {lo0:Option Addr} {lc0:Nat} {left0:List Rec} (h0:CurIn bad w c bs wm bl ao cap nx0 lo0 lc0 left0 (S.ofKey k bs.flatten++B)) (hT:Tab w) (hB:∀ r∈B,r.key≠k) :
  Calls Tryz.prog 86 #[.pointer (some ⟨s,0,none⟩),.string k,.pointer (some ⟨c,0,none⟩)] w fun e w'=>HistSaid bad c bs wm bl ao cap lo0 (X.hist bs.flatten k) B w e w'∧But c w w':=by
 have hk:∀ r∈S.ofKey k bs.flatten,r.key=k:=fun r hr=>(S.mem_ofKey.1 hr).2
 have hl:(S.ofKey k bs.flatten).length≤1048576:=by
  have h1:(S.ofKey k bs.flatten).length≤bs.flatten.length:=List.length_filter_le ..
  have h2:=blkOf_ge hX.fil.ok
  have h3:=h0.laid.size
  have h4:=h0.small
  omega
 have hCA:X.fl=X.fl∧(C k=[]↔S.ofKey k bs.flatten=[]):=by
  refine ⟨rfl,?_⟩
  have:=(hX.fil.holds k).tells.length
  constructor
  ·intro e
   rw [e] at this
   exact List.eq_nil_of_length_eq_zero this.symm
  ·intro e
   rw [e] at this
   exact List.eq_nil_of_length_eq_zero this
 have hnw:=hX.newest k
 unfold S.Sto.hist
 cases hp:S.lookK X.pend k with
 | some rs =>
  simp only [Option.getD_some]
  refine history_pend h hX.ok k rs hp hct hcG (S.ofKey k bs.flatten) B h0 hT hk hB hl ?_
  rw [hnw,←hCA.2]
  cases C k<;>simp
 | none =>
  have hC:C k≠[]:=fun e=>hkey (by unfold S.Sto.con;rw [hp,e];simp [S.pendV])
  obtain ⟨v,l,hv⟩:=List.exists_cons_of_ne_nil hC
  simp only [Option.getD_none,List.reverse_nil,List.nil_append]
  exact history_none h hX.ok k hp hct hcG (S.ofKey k bs.flatten) B h0 hT hk hB hl (fun e=>hC (hCA.2.2 e)) v.stamp (by rw [hnw,hv];rfl)
theorem histSaid_one {bad:Prop} {c:Nat} {bs:List (List Rec)} {wm:Int} {bl:ByteArray} {ao:Option Addr} {cap:Nat} {lo0:Option Addr} {R B:List Rec} {w:World} {e:Ending} {w':World} (h:HistSaid bad c bs wm bl ao cap lo0 R B w e w'):∃ (vo:Option Addr) (m vc:Nat) (co:Int),e=.returned (.tuple #[.slice vo m vc,.int .i64 co]) ∧
  ((m=R.length∧co=0∧w'.ownsRow w.heap.size 62 4 (.slice vo R.length vc) R.length (recCells R)∧∃ nx lo lc left,CurIn bad w' c bs wm bl ao cap nx lo lc left B∧∀ a,lo=some a→(∃ a0,lo0=some a0∧a.block=a0.block)∨w.heap.size≤a.block)∨(bad∧vo=none∧m=0∧vc=0∧co=3)):=by
 rcases h with ⟨vo,vc,rfl,h1,h2⟩|⟨h1,rfl⟩
 ·exact ⟨vo,_,vc,0,rfl,Or.inl ⟨rfl,rfl,h1,h2⟩⟩
 ·exact ⟨none,0,0,3,rfl,Or.inr ⟨h1,rfl,rfl,rfl,rfl⟩⟩
end Go.Proofs.YtekdenkllipehabGreatDoor
namespace Go.Proofs.YtekdenkllipehabGreatDoor
open Go.RowKit Go.Shelf
attribute [local go_sem] Oper.semAt_some
theorem histories1 {bad:Prop} (n:Nat) (hn:20≤n) {w:World} {tg0 tg':Tags} {o s d od so sc lo Bs:Nat} {X:S.Sto} {ids ps ids' ps':List Nat} {D:M.Dsk} {bs:List (List Rec)} {wm:Int} {C:S.Con} (So Bo Bx:Nat→Prop) (hBX:∀ x,Bo x→Bx x) (h:StoAt w tg0 o s d X ids ps) (hX:X.Good bs C) (hd:LDiskAt w tg' od d D ids' ps') (hD:D.Fine) (hO:OnDisk bad D bs wm) (hT:Tab w)
  (hBs:w.cell? ⟨Bs,0,none⟩=some (.pointer (some ⟨s,0,none⟩))) (hBl:Bs<w.heap.size∧¬(Bo (tg0 Bs).1∨(tg0 Bs).1=sc∨(tg0 Bs).1=lo)) (hG:¬(Bo (tg0 1).1∨(tg0 1).1=sc∨(tg0 1).1=lo))
  (hso:So so) (hsc:So sc) (hlo:So lo) (hsl:so≠lo) (hsx:so≠sc) (hxl:sc≠lo) (hSB:∀ x,So x→¬Bx x) (hoB:¬(Bo o∨o=sc∨o=lo)) :
  SeqX Fence.wide n Tryz.prog 84 #[.pointer (some ⟨Bs,0,none⟩)] X.keys.length So Bo Bx HistsOk (HistsG bad so X bs.flatten) tg0 w:=by
 intro lp J Jx hJ hJx hY hj0
 have SR:Hid _:=fun (W:World) (q:Q w W)=>storeReads tg' od d D ids' ps' hD hO W (hd.kept q) (tab_kept hT q)
 have c0:=h.c0
 refine callsIn_of_wp_marks Tryz.func84 rfl trivial ?_ rfl
 simp only [Tryz.ntmps84,List.size_toArray,List.length_cons,List.length_nil,Nat.reduceAdd,Nat.reduceSub,Array.replicate_succ,Array.replicate_zero,List.push_toArray,List.append_toArray,List.nil_append,List.cons_append]
 have hmx:Tryz.prog.follows .mixedOrders=true:=by kernel_rfl
 have qy:Q w (w.alloc (.cells #[.func (.yield lp) #[] #[]] 147)):=(Q.refl w).alloc _ _
 have k0:=kept_cell c0 qy
 have kB:=kept_cell hBs qy
 have SR2:Hid _:=fun (_:Unit)=>SR.out _ qy
 clear SR
 gi_wp2
 refine ⟨trivial,fun _=>by omega,(callsIn_wide.2 (SR2.out ())).mono ?_⟩
 rintro e w1 ⟨hR,q1⟩
 have qw1:Q w w1:=qy.trans q1
 have hY1:w1.cell? ⟨w.heap.size,0,none⟩=some (.func (.yield lp) #[] #[]):=(q1.below.cell (p:=⟨w.heap.size,0,none⟩) (by simp)).trans (by simp)
 have hs1:w.heap.size+1≤w1.heap.size:=by have:=q1.below.size;simpa using this
 clear SR2 k0 kB
 rcases hR with ⟨bl,ao,cap,hL,hb,rfl,hE,haN⟩|⟨hbad,rfl⟩
 ·have qc:Q w1 ((w1.alloc (.cells #[.int .i64 wm,.string bl,.slice ao bs.length cap] 124)).alloc (.cells #[.int .i64 wm,.string bl,.slice ao bs.length cap,.int .i64 0,.slice none 0 0] 149)):=((Q.refl w1).alloc _ _).alloc _ _
  have kB:=kept_cell hBs (qw1.trans qc)
  obtain ⟨w2,hw2⟩:∃ w2,w2=(w1.alloc (.cells #[.int .i64 wm,.string bl,.slice ao bs.length cap] 124)).alloc (.cells #[.int .i64 wm,.string bl,.slice ao bs.length cap,.int .i64 0,.slice none 0 0] 149):=⟨_,rfl⟩
  have hvar:VarN w2 (w1.heap.size+1) [.int .i64 wm,.string bl,.slice ao bs.length cap,.int .i64 0,.slice none 0 0]:=by
   have:=varN_new (w1.alloc (.cells #[.int .i64 wm,.string bl,.slice ao bs.length cap] 124)) [.int .i64 wm,.string bl,.slice ao bs.length cap,.int .i64 0,.slice none 0 0] 149
   rw [World.size_alloc] at this
   rw [hw2]
   exact this
  have hs2:w2.heap.size=w1.heap.size+2:=by rw [hw2];simp
  rw [←hw2] at qc kB
  unfold layVal
  gi_wp2
  rw [←hw2]
  clear hw2
  refine wpIn_mono ?_ NoPanic.imp
  gi_region_with_o (refine ⟨trivial,fun _=>by omega,(union_in _ _ _).mono ?_⟩;rintro e w3 ⟨rfl,rfl⟩)
  all_goals
   refine NoPanic.normal ?_
   gi_wp2
   obtain ⟨wl,hwl⟩:∃ wl,wl=((w2.alloc (.cells #[.pointer (some ⟨s,4,none⟩)] 153)).alloc (.cells #[.pointer (some ⟨s,6,none⟩)] 140)).drew:=⟨_,rfl⟩
   have hq2l:Q w2 wl:=by rw [hwl];exact (((Q.refl w2).alloc _ _).alloc _ _).drew
   have hba:wl.cell? ⟨w1.heap.size+2,0,none⟩=some (.pointer (some ⟨s,4,none⟩)):=by
    have h1:=(varN_new w2 [.pointer (some ⟨s,4,none⟩)] 153).kept (((Q.refl _).alloc #[.pointer (some ⟨s,6,none⟩)] 140).drew)
    rw [hs2] at h1
    rw [hwl]
    exact h1.cell 0 rfl
   have hbb:wl.cell? ⟨w1.heap.size+2+1,0,none⟩=some (.pointer (some ⟨s,6,none⟩)):=by
    have h1:=(varN_new (w2.alloc (.cells #[.pointer (some ⟨s,4,none⟩)] 153)) [.pointer (some ⟨s,6,none⟩)] 140).kept ((Q.refl _).drew)
    rw [World.size_alloc,hs2] at h1
    rw [hwl]
    exact h1.cell 0 rfl
   have hszl:wl.heap.size=w1.heap.size+4:=by
    have h1:wl.heap.size=w2.heap.size+1+1:=by rw [hwl];show ((w2.alloc _).alloc _).heap.size=_;rw [World.size_alloc,World.size_alloc]
    omega
   obtain ⟨tgl,htgl⟩:∃ tgl:Tags,tgl=fun k=>if k<w.heap.size then tg0 k else if k=w1.heap.size+1 then (sc,0) else (so,0):=⟨_,rfl⟩
   have tl0:∀ k,k<w.heap.size→tgl k=tg0 k:=fun k hk=>by rw [htgl];simp [hk]
   have tlc:tgl (w1.heap.size+1)=(sc,0):=by rw [htgl];simp;omega
   have tls:∀ k,w.heap.size≤k→k≠w1.heap.size+1→tgl k=(so,0):=fun k h1 h2=>by rw [htgl];simp [Nat.not_lt.2 h1,h2]
   have qwl:Q w wl:=(qw1.trans qc).trans hq2l
   have hJl:J tgl 0 wl:=hJ _ _ _ _ _ hj0 (Kept.of_q qwl tl0)
   have hY2:wl.cell? ⟨w.heap.size,0,none⟩=some (.func (.yield lp) #[] #[]):=kept_cell hY1 (qc.trans hq2l)
   obtain ⟨hkr,hkm,hkF⟩:=hX.keys_all
   have hsome:¬Bo so:=fun e=>hSB so hso (hBX so e)
   have hPso:¬(Bo so∨so=sc∨so=lo):=fun e=>e.elim hsome (fun e=>e.elim hsx hsl)
   have hEnt:∀ a,ao=some a→S.entsOf 0 bs≠[]→w.heap.size≤a.block∧a.block≠w1.heap.size+1:=fun a ha hne=>by
    have h1:=haN a ha
    rw [World.size_alloc] at h1
    rcases hE with h2|⟨g,h2,h3,_⟩
    ·exact absurd h2 hne
    ·rw [h2] at ha
     injection ha with ha
     subst ha
     simp only at h1 ⊢
     omega
   have hEtag:∀ g,ao=some ⟨g,0,none⟩→S.entsOf 0 bs≠[]→g<w1.heap.size∧(tgl g).1=so:=fun g hg hne=>by
    have h1:=hEnt _ hg hne
    simp only at h1
    refine ⟨?_,by rw [tls g h1.1 h1.2]⟩
    rcases hE with h2|⟨g2,h2,h3,_⟩
    ·exact absurd h2 hne
    ·rw [h2] at hg
     injection hg with hg
     injection hg with hg
     omega
   have hcur0:CurT bad so (w1.heap.size+1) bs wm bl ao cap tgl wl (S.restOf bs.flatten X.keys 0):=by
    rw [S.restOf_zero hkF]
    refine ⟨0,none,0,[],⟨hL,hb,hX.fil.ok,hvar.kept hq2l,(hE.kept qc).kept hq2l,fun a ha hne=>?_,Or.inl rfl,fun a ha=>(by cases ha),fun a ha=>(by cases ha),Nat.le_refl _,Nat.zero_le _,(by rw [List.nil_append,List.drop_zero])⟩,fun a ha=>(by cases ha)⟩
    exact (hEnt a ha hne).2
   rw [←hwl]
   clear hwl htgl
   refine range_X rfl (by omega) (gf:=119) (lb:=#[.pointer (some ⟨w1.heap.size+2,0,none⟩),.pointer (some ⟨w1.heap.size+2+1,0,none⟩)]) (by simp [Act.eval]) trivial (enters_of Tryz.func119 rfl rfl) X.keys.length lo (fun _=>False) (fun x=>Bo x∨x=sc) (fun x=>Bx x∨x=sc) (fun _=>True) (UniG X.keys) tgl (fun h=>h) (fun e=>e.elim (fun e=>hSB lo hlo (hBX lo e)) (fun e=>hxl e.symm)) (fun e=>e.elim (hSB lo hlo) (fun e=>hxl e.symm)) (fun x e=>e.imp (hBX x) (fun h=>h)) ?seq ?ps ?hG
    (fun tg i W=>J tg i W∧Kept (fun x=>Bo x∨x=sc∨x=lo) tgl wl tg W∧CurT bad so (w1.heap.size+1) bs wm bl ao cap tg W (S.restOf bs.flatten X.keys i)) (fun c tg i W=>c=.ret∧Jx tg i W) ?hI ?hIx ⟨hJl,Kept.refl _ _ _,hcur0⟩
    (fun _ vs=>{ tmps:=#[.func (.yield lp) #[] #[],.pointer (some ⟨Bs,0,none⟩),.pointer (some ⟨w.heap.size,0,none⟩),.pointer (some ⟨w1.heap.size,0,none⟩),.int .i64 0,.pointer (some ⟨w1.heap.size+1,0,none⟩),vs.getD 0 undef,undef,undef,.tuple #[.agg #[.int .i64 wm,.string bl,.slice ao bs.length cap],.int .i64 0],.pointer (some ⟨s,0,none⟩),.pointer (some ⟨s,0,none⟩),.pointer (some ⟨s,0,none⟩),.pointer (some ⟨d,0,none⟩),.tuple #[.agg #[.int .i64 wm,.string bl,.slice ao bs.length cap],.int .i64 0],.agg #[.int .i64 wm,.string bl,.slice ao bs.length cap],.int .i64 0,.int .i64 0,.bool false,undef,undef,undef,.agg #[.int .i64 wm,.string bl,.slice ao bs.length cap],.agg #[.int .i64 wm,.string bl,.slice ao bs.length cap,.int .i64 0,.slice none 0 0],.pointer (some ⟨s,0,none⟩),.pointer (some ⟨s,0,none⟩),.pointer (some ⟨s,4,none⟩),.pointer (some ⟨s,0,none⟩),.pointer (some ⟨s,0,none⟩),.pointer (some ⟨s,6,none⟩),.func (.func 119) #[] #[.pointer (some ⟨w1.heap.size+2,0,none⟩),.pointer (some ⟨w1.heap.size+2+1,0,none⟩)],vs.getD 0 undef,undef,undef,undef,undef,undef,undef,undef,undef,undef,undef,undef,undef,undef,undef,undef],defers:=[]}) ?assign ?body ?done ?stop
   case seq =>
    intro W1 tg1 hb1 hsW ht1
    obtain ⟨g,la,lc,x1,x2,x3,x4,x5⟩:=h.nw.row (by rw [h.ts])
    obtain ⟨g',ra,rc,z1,z2,z3,z4,z5⟩:=h.pd.row (by rw [h.ts])
    have wb:∀ k,k<w.heap.size→W1.heap[k]?=w.heap[k]?:=fun k hk=>(hb1.block k (by omega)).trans (qwl.below.block k hk)
    have wc:∀ k j,k<w.heap.size→W1.cell? ⟨k,j,none⟩=w.cell? ⟨k,j,none⟩:=fun k j hk=>World.cell?_of_block (a:=⟨k,j,none⟩) (wb k hk)
    have tgo:∀ g,g<w.heap.size→(tg0 g).1=o→¬((Bo (tg1 g).1∨(tg1 g).1=sc)∨(tg1 g).1=lo):=fun g h1 h2=>by
     rw [ht1 g (by omega),tl0 g h1,h2]
     exact fun e=>hoB (e.elim (fun e=>e.imp (fun h=>h) Or.inl) (fun e=>Or.inr (Or.inr e)))
    have hu:=SeqX.depth (n-1) (union1 n (by omega) (X.newest.map (·.1)) (X.pend.map (·.1)) (w1.heap.size+2) (w1.heap.size+2+1) s g g' la ra lc rc (fun _=>False) (fun x=>(Bo x∨x=sc)∨x=lo) (fun x=>(Bx x∨x=sc)∨x=lo) tg1 W1 ((hb1.cell (p:=⟨w1.heap.size+2,0,none⟩) (show w1.heap.size+2<wl.heap.size by omega)).trans hba) ((hb1.cell (p:=⟨w1.heap.size+2+1,0,none⟩) (show w1.heap.size+2+1<wl.heap.size by omega)).trans hbb) ((wc s 4 h.top).trans x1) ((wc s 6 h.top).trans z1) (x2.of_block (wb g x4)) (z2.of_block (wb g' z4)) x3 z3 ⟨by omega,tgo g x4 x5⟩ ⟨by omega,tgo g' z4 z5⟩)
    simp only [List.length_map] at hu
    exact hu
   case ps=>rintro tg i vs W ⟨k,_,rfl⟩;rfl
   case hG=>rintro tg i vs A' tg1 B' h _;exact h
   case hI =>
    rintro tg i A' tg1 B' ⟨hj,hk,hc⟩ ht
    have hk':Kept (fun x=>x=lo) tg A' tg1 B':=ht.wider fun x hx=>hx.elim False.elim (fun e=>e)
    refine ⟨hJ _ _ _ _ _ hj (hk'.wider fun x e=>e▸hlo),hk.trans (hk'.wider fun x e=>Or.inr (Or.inr e)),hc.keep hk' hsl ?_ ?_⟩
    ·rw [hk.tags _ (by omega),tlc];exact hxl
    ·intro g hg hgl hne
     obtain ⟨h1,h2⟩:=hEtag g hg hne
     rw [hk.tags g (by omega),h2]
     exact hsl
   case hIx =>
    rintro c tg i A' tg1 B' ⟨hc,hj⟩ ht
    exact ⟨hc,hJx _ _ _ _ _ hj (ht.wider fun x hx=>hx.elim False.elim (fun e=>e▸hlo))⟩
   case assign =>
    rintro l i tg vs W K ⟨k,hk,rfl⟩ hK
    simp only [Array.getD_eq_getD_getElem?,List.getElem?_toArray,List.getElem?_cons_zero,Option.getD_some] at hK
    gi_wp2
    exact hK
   case body =>
    rintro l i tg vs W hl2 ⟨hj,hk,hc⟩ ⟨k,hki,rfl⟩
    obtain ⟨nx,lo',lc,left,hCI,hlt⟩:=hc
    obtain ⟨hst1,hst2⟩:=S.restOf_step hX.fil.ord hkr hki
    rw [hst1] at hCI
    have hkey:X.con C k≠[]:=(hkm k).1 (List.mem_of_getElem? hki)
    have hsW:=hk.size
    have hsw:=qwl.below.size
    have wW:∀ k,k<w.heap.size→¬(Bo (tg0 k).1∨(tg0 k).1=sc∨(tg0 k).1=lo)→W.heap[k]?=w.heap[k]?:=fun k h1 h2=>(hk.block k (by omega) (by rw [tl0 k h1];exact h2)).trans (qwl.below.block k h1)
    have hSt:StoAt W tg0 o s d X ids ps:=h.keep (by omega) (fun _ _=>rfl) (fun k hk' e=>wW k hk' (by rw [e];exact hoB))
    have hGl:=tab_lt hT
    have hTW:Tab W:=tab_block hT (wW _ hGl hG)
    have HI:Hid _:=fun (_:Unit)=>history_any hSt hX k hkey (by omega) (by omega) _ hCI hTW hst2
    have zB:W.cell? ⟨Bs,0,none⟩=some (.pointer (some ⟨s,0,none⟩)):=(World.cell?_of_block (a:=⟨Bs,0,none⟩) (wW Bs hBl.1 hBl.2)).trans hBs
    have zY:W.cell? ⟨w.heap.size,0,none⟩=some (.func (.yield lp) #[] #[]):=(World.cell?_of_block (a:=⟨w.heap.size,0,none⟩) (hk.block w.heap.size (by omega) (by rw [tls _ (Nat.le_refl _) (by omega)];exact hPso))).trans hY2
    have tgc:tg (w1.heap.size+1)=(sc,0):=(hk.tags _ (by omega)).trans tlc
    have hEW:∀ g,ao=some ⟨g,0,none⟩→S.entsOf 0 bs≠[]→(tg g).1=so∧g<W.heap.size:=fun g hg hne=>by
     obtain ⟨h1,h2⟩:=hEtag g hg hne
     exact ⟨by rw [hk.tags g (by omega),h2],by omega⟩
    have HH:Hid _:=And.intro hj (And.intro hk (And.intro hlt (And.intro hEW hCI.recsB)))
    clear hj hk hlt hCI hEW hTW hSt hGl wW hkey hst1 hst2 hcur0 hJl hj0
    simp only [Array.getD_eq_getD_getElem?,List.getElem?_toArray,List.getElem?_cons_zero,Option.getD_some]
    gi_wp2
    refine ⟨trivial,fun _=>by omega,(CallsIn.inRound l (callsIn_wide.2 (HI.out ()))).mono ?_⟩
    rintro e w5 ⟨hH,hb5⟩
    obtain ⟨vo,m,vc,co,rfl,hco⟩:=histSaid_one hH
    obtain ⟨hj,hk,hlt,hEW,hrB⟩:=HH.out
    have hk5:Kept (fun x=>x=sc) tg W (tg.more W.heap.size so 0) w5:=hb5.kept (by rw [tgc]) (fun k hk=>Tags.more_old hk)
    have hj5:J (tg.more W.heap.size so 0) i w5:=hJ _ _ _ _ _ hj (hk5.wider (fun x e=>e▸hsc))
    have zY5:w5.cell? ⟨w.heap.size,0,none⟩=some (.func (.yield lp) #[] #[]):=(World.cell?_of_block (a:=⟨w.heap.size,0,none⟩) (hb5.block w.heap.size (by omega) (by omega))).trans zY
    have HK:Hid _:=And.intro hk (And.intro hk5 (And.intro hlt (And.intro hEW hrB)))
    clear hk hk5 hlt hEW hrB HI HH hH hj
    rcases hco with ⟨rfl,rfl,hown,nx5,lo5,lc5,left5,hC5,hfrom⟩|⟨hbad,rfl,rfl,rfl,rfl⟩
    ·obtain ⟨fn,tmps,assign,body,hy,hR⟩:=YieldAt.within l (n-1-1-1) (hY (tg.more W.heap.size so 0) i #[.slice vo (X.hist bs.flatten k).length vc,.int .i64 0] w5 hj5 (Or.inl ⟨k,vo,vc,hki,rfl,own_mono hown (Nat.zero_le _),fun g hg=>by rw [Tags.more_new (hown.lt g hg).1]⟩))
     have HC:Hid _:=And.intro hC5 hfrom
     clear hC5 hfrom hown hj5
     gi_wp2
     refine ⟨fun h=>absurd h (by decide),hR.mono ?_⟩
     rintro e W6 ⟨tg6,⟨hk6,rfl,hok,hJ6⟩|⟨hk6,rfl,hJx6⟩⟩
     ·gi_wp2
      obtain ⟨hk,hk5,hlt,hEW,hrB⟩:=HK.out
      obtain ⟨hC5,hfrom⟩:=HC.out
      have hB5:=hk5.size
      have hcT:CurT bad so (w1.heap.size+1) bs wm bl ao cap (tg.more W.heap.size so 0) w5 (S.restOf bs.flatten X.keys (i+1)):=by
       refine ⟨nx5,lo5,lc5,left5,hC5,fun a ha=>?_⟩
       rcases hfrom a ha with ⟨a0,ha0,hab⟩|h2
       ·rw [hab,Tags.more_old (hrB a0 ha0)]
        exact hlt a0 ha0
       ·rw [Tags.more_new h2]
      refine ⟨tg6,(hk5.wider fun x e=>Or.inr e).trans (hk6.wider fun x e=>Or.inl e),trivial,hJ6,(hk.trans (hk5.wider fun x e=>Or.inr (Or.inl e))).trans (hk6.wider fun x e=>Or.inl e),hcT.keep hk6 hsome ?_ ?_⟩
      ·rw [Tags.more_old (by omega),tgc]
       exact fun e=>hSB sc hsc (hBX sc e)
      ·intro g hg hgl hne
       obtain ⟨h1,h2⟩:=hEW g hg hne
       rw [Tags.more_old h2,h1]
       exact hsome
     ·gi_wp2
      obtain ⟨hk,hk5,hlt,hEW,hrB⟩:=HK.out
      exact ⟨tg6,(hk5.wider fun x e=>Or.inr e).trans (hk6.wider fun x e=>Or.inl e),rfl,hJx6⟩
    ·obtain ⟨fn,tmps,assign,body,hy,hR⟩:=YieldAt.within l (n-1-1-1) (hY (tg.more W.heap.size so 0) i #[.slice none 0 0,.int .i64 3] w5 hj5 (Or.inr ⟨hbad,rfl⟩))
     clear hj5
     gi_wp2
     refine ⟨fun h=>absurd h (by decide),hR.mono ?_⟩
     rintro e W6 ⟨tg6,⟨hk6,rfl,hok,hJ6⟩|⟨hk6,rfl,hJx6⟩⟩
     ·exact absurd hok (by simp [HistsOk])
     ·gi_wp2
      obtain ⟨hk,hk5,hlt,hEW,hrB⟩:=HK.out
      exact ⟨tg6,(hk5.wider fun x e=>Or.inr e).trans (hk6.wider fun x e=>Or.inl e),rfl,hJx6⟩
   case done =>
    rintro D2 tg W hD2 ⟨hj,_,_⟩ htD hDW
    gi_wp2
    refine ⟨by simp,.inl ⟨_,_,rfl,run_takeDeferred hDW,?_⟩⟩
    exact ⟨_,results_none rfl _ _ _,⟨_,rfl⟩,tg,Or.inl (hJ _ _ _ _ _ hj (Kept.put (by rw [htD];exact hlo) _))⟩
   case stop =>
    rintro D2 c tg i W hD2 ⟨rfl,hj⟩ htD hDW
    gi_wp2
    refine ⟨by simp,.inl ⟨_,_,rfl,run_takeDeferred hDW,?_⟩⟩
    exact ⟨_,results_none rfl _ _ _,⟨_,rfl⟩,tg,Or.inr ⟨i,hJx _ _ _ _ _ hj (Kept.put (by rw [htD];exact hlo) _)⟩⟩
 ·have hY2:=kept_cell hY1 ((Q.refl w1).alloc #[.int .i64 0,.string ⟨#[]⟩,.slice none 0 0] 124)
  have q2:Q w (w1.alloc (.cells #[.int .i64 0,.string ⟨#[]⟩,.slice none 0 0] 124)):=qw1.alloc _ _
  obtain ⟨fn,tmps,assign,body,hy,hR⟩:=YieldAt.depth (n-1) (hY tg0 0 #[.slice none 0 0,.int .i64 3] _ (hJ _ _ _ _ _ hj0 (Kept.of_q q2 (fun _ _=>rfl))) (Or.inr ⟨hbad,rfl⟩))
  unfold noLay
  gi_wp2
  refine ⟨fun h=>absurd h (by decide),hR.mono ?_⟩
  rintro e W3 ⟨tg1,⟨hk1,rfl,hok,hJ3⟩|⟨hk1,rfl,hJx3⟩⟩
  ·exact absurd hok (by simp [HistsOk])
  ·gi_wp2
   refine ⟨_,results_none rfl _ _ _,?_⟩
   exact ⟨⟨_,rfl⟩,tg1,.inr ⟨_,hJx3⟩⟩
end Go.Proofs.YtekdenkllipehabGreatDoor
namespace Go.Proofs.YtekdenkllipehabGreatDoor
open Go.RowKit
def openSize (ol:List Rec):Nat:=(ol.map fun r=>r.key.size+r.body.size).sum
structure WriAt (w:World) (tg:Tags) (ow B d:Nat) (ol:List Rec) (ixs:List ByteArray) (nw:List (ByteArray × Int)):Prop where
 top:B<w.heap.size
 tb:tg B=(ow,0)
 fr:∀ j,w.frozen? ⟨B,j,none⟩=false
 c0:w.cell? ⟨B,0,none⟩=some (.pointer (some ⟨d,0,none⟩))
 c1:∃ ao cap,w.cell? ⟨B,1,none⟩=some (.slice ao ol.length cap)∧w.ownsRow 0 62 4 (.slice ao ol.length cap) ol.length (recCells ol)∧∀ g,(Value.slice ao ol.length cap).ownBlock=some g→tg g=(ow,3)
 c2:w.cell? ⟨B,2,none⟩=some (.int .i64 (openSize ol:Nat))
 c3:∃ ao cap,w.cell? ⟨B,3,none⟩=some (.slice ao ixs.length cap)∧w.ownsRow 0 9 1 (.slice ao ixs.length cap) ixs.length (strVals ixs)∧∀ g,(Value.slice ao ixs.length cap).ownBlock=some g→tg g=(ow,4)
 nw:KMap w tg ow B 4 1 3 (nw.map (·.1)) (intVals (nw.map (·.2)))
theorem WriAt.keep {w w':World} {tg tg':Tags} {ow B d:Nat} {ol:List Rec} {ixs:List ByteArray} {nw:List (ByteArray × Int)} (h:WriAt w tg ow B d ol ixs nw) (hs:w.heap.size≤w'.heap.size) (ht:∀ k,k<w.heap.size→tg' k=tg k) (hb:∀ k,k<w.heap.size→(tg k).1=ow→w'.heap[k]?=w.heap[k]?):WriAt w' tg' ow B d ol ixs nw:=by
 have hB:w'.heap[B]?=w.heap[B]?:=hb B h.top (by rw [h.tb])
 have hc:∀ j,w'.cell? ⟨B,j,none⟩=w.cell? ⟨B,j,none⟩:=fun j=>World.cell?_of_block (a:=⟨B,j,none⟩) hB
 obtain ⟨ao,cap,a1,a2,a3⟩:=h.c1
 obtain ⟨bo,bcap,b1,b2,b3⟩:=h.c3
 refine ⟨Nat.lt_of_lt_of_le h.top hs,(ht B h.top).trans h.tb,fun j=>(World.frozen?_of_block (a:=⟨B,j,none⟩) hB).trans (h.fr j),(hc 0).trans h.c0,⟨ao,cap,(hc 1).trans a1,row_keep a2 (fun g hg=>hb g (a2.lt g hg).2 (by rw [a3 g hg])),fun g hg=>(ht g (a2.lt g hg).2).trans (a3 g hg)⟩,(hc 2).trans h.c2,⟨bo,bcap,(hc 3).trans b1,row_keep b2 (fun g hg=>hb g (b2.lt g hg).2 (by rw [b3 g hg])),fun g hg=>(ht g (b2.lt g hg).2).trans (b3 g hg)⟩,
  h.nw.keep hs (fun k hk _=>ht k hk) (hc 4) (hc 5) (fun k hk e=>hb k hk (by rcases e with e | e<;>rw [e]))⟩
theorem WriAt.kept {w w':World} {tg:Tags} {ow B d:Nat} {ol:List Rec} {ixs:List ByteArray} {nw:List (ByteArray × Int)} (h:WriAt w tg ow B d ol ixs nw) (q:Q w w'):WriAt w' tg ow B d ol ixs nw:=h.keep q.below.size (fun _ _=>rfl) (fun k hk _=>q.below.block k hk)
theorem isFull_any {w:World} {tg:Tags} {ow B d:Nat} {ol:List Rec} {ixs:List ByteArray} {nw:List (ByteArray × Int)} (h:WriAt w tg ow B d ol ixs nw) :
  Calls Tryz.prog 87 #[.pointer (some ⟨B,0,none⟩)] w fun e w'=>e=.returned (.bool (decide (ol.length=64∨8192≤openSize ol)))∧Q w w':=by
 obtain ⟨ao,cap,a1,_,_⟩:=h.c1
 have c2:=h.c2
 clear h
 by_cases h1:ol.length=64
 ·have hd:decide (ol.length=64∨8192≤openSize ol)=true:=by simp [h1]
  rw [hd]
  have h1I:((ol.length:Int) == 64)=true:=by rw [h1];rfl
  clear hd
  go_enter Tryz.func87,Tryz.ntmps87
  go_wp2_with fail
  go_ret
  exact ⟨rfl,Q.refl w⟩
 ·have h1I:((ol.length:Int) == 64)=false:=by rw [beq_eq_false_iff_ne];omega
  have h1J:¬(ol.length:Int)=64:=by omega
  have hd:decide (ol.length=64∨8192≤openSize ol)=decide ((8192:Int)≤(openSize ol:Nat)):=by
   by_cases h2:8192≤openSize ol
   ·rw [decide_eq_true (Or.inr h2),decide_eq_true (by omega)]
   ·rw [decide_eq_false (fun e=>e.elim h1 h2),decide_eq_false (by omega)]
  rw [hd]
  obtain ⟨z,hz⟩:∃ z,openSize ol=z:=⟨_,rfl⟩
  rw [hz] at c2 ⊢
  clear hd
  go_enter Tryz.func87,Tryz.ntmps87
  go_wp2_with fail
  go_ret
  exact ⟨rfl,Q.refl w⟩
theorem WriAt.turnOpen {w w':World} {tg tg':Tags} {ow B d:Nat} {ol ol':List Rec} {ixs:List ByteArray} {nw:List (ByteArray × Int)} (h:WriAt w tg ow B d ol ixs nw) (hs:w.heap.size≤w'.heap.size) (ht:∀ k,k<w.heap.size→tg' k=tg k)
  (hb:∀ k,k<w.heap.size→k≠B→tg k≠(ow,3)→w'.heap[k]?=w.heap[k]?) (hc:∀ j,j≠1→j≠2→w'.cell? ⟨B,j,none⟩=w.cell? ⟨B,j,none⟩) (hf:∀ j,w'.frozen? ⟨B,j,none⟩=false)
  (n1:∃ ao cap,w'.cell? ⟨B,1,none⟩=some (.slice ao ol'.length cap)∧w'.ownsRow 0 62 4 (.slice ao ol'.length cap) ol'.length (recCells ol')∧∀ g,(Value.slice ao ol'.length cap).ownBlock=some g→tg' g=(ow,3)) (n2:w'.cell? ⟨B,2,none⟩=some (.int .i64 (openSize ol':Nat))):WriAt w' tg' ow B d ol' ixs nw:=by
 obtain ⟨bo,bcap,b1,b2,b3⟩:=h.c3
 have hne:∀ g u,tg g=(ow,u+1)→g≠B:=fun g u e e2=>by rw [e2,h.tb] at e;simp at e
 have h34:∀ g,tg g=(ow,4)→tg g≠(ow,3):=fun g e e2=>by rw [e] at e2;simp at e2
 refine ⟨Nat.lt_of_lt_of_le h.top hs,(ht B h.top).trans h.tb,hf,(hc 0 (by omega) (by omega)).trans h.c0,n1,n2,⟨bo,bcap,(hc 3 (by omega) (by omega)).trans b1,row_keep b2 (fun g hg=>hb g (b2.lt g hg).2 (hne g 3 (b3 g hg)) (h34 g (b3 g hg))),fun g hg=>(ht g (b2.lt g hg).2).trans (b3 g hg)⟩,
  h.nw.keep hs (fun k hk _=>ht k hk) (hc 4 (by omega) (by omega)) (hc 5 (by omega) (by omega)) (fun k hk e=>?_)⟩
 rcases e with e|e
 ·exact hb k hk (hne k 0 e) (fun e2=>by rw [e] at e2;simp at e2)
 ·exact hb k hk (hne k 1 e) (fun e2=>by rw [e] at e2;simp at e2)
theorem step_append_w {P:Program} {ops:Array Oper} {o:Oper} {a:Act} {w:World} {K:Act→World→Prop} {Q:Exit→Act→World→Prop} {E:Prop}
  (hg:o.guard=none) (s x:Operand) (t:TypeId) (hop:o.op=Op.call { callee:=Callee.builtin Builtin.append,args:=#[s,x],argTypes:=#[t,t]})
  (base:Nat) (e:TypeId) (i:TypeInfo) (z:Value) (size bytes:Nat) (h1:P.underlying t=some (.slice e)) (h2:P.info? e=some i) (h3:i.zero=some z) (h4:i.size=size) (h5:i.bytes=bytes) (h6:z.cells.size=size) (h7:0<size)
  (v:Value) (n:Nat) (xs:List Value) (hs:a.eval s=v) (hown:w.ownsRow base e size v n xs)
  (ad:Addr) (m c:Nat) (news:List Value) (hx:a.eval x=.slice (some ad) m c) (hn:news.length=m*size) (hc:∀ j u,news[j]?=some u→w.cell? (ad.add j)=some u) (h1c:∀ u∈news,u.oneCell'=true)
  (hm:0<m) (b1:n+m≤maxLen) (b2:(n+m)*bytes≤140737488355328) (hb:base≤w.heap.size)
  (hK:∀ v' w',w'.ownsRow base e size v' (n+m) (xs++news)→w.grownBy w' v.ownBlock→(v'.ownBlock=v.ownBlock∨v'.ownBlock=some w.heap.size)→K (a.put o.dst v') w') :
  if Region.wanted o (yielded ops a.tmps)=true then Oper.wp P o a w K Q else E:=by
 have hw:Region.wanted o (yielded ops a.tmps)=true:=by simp [Region.wanted,hg]
 rw [if_pos hw]
 obtain ⟨v',w',hrun,r1,r2,_⟩:=run_append_own (P:=P) w base t o.type e i z size bytes h1 h2 h3 h4 h5 h6 h7 v n xs hown ad m c news hn hc h1c b1 b2 hb
 have r3:=append_where (ty:=o.type) h1 h2 h3 h4 h5 hown hn hc h1c hm b1 b2 hrun
 unfold Oper.wp
 simp [execOp,hop,resolve,invoke,builtin,hs,hx,hrun,Result.andThen]
 exact hK v' w' r1 r2 r3
theorem rec_cells_to (w:World) (r:Rec) (t:TypeId) (n:Nat) (hn:w.heap.size=n):∀ j u,r.cells[j]?=some u→(w.alloc (.cells #[.string r.key,.int .i64 r.stamp,.int .i64 r.kind,.string r.body] t)).cell? ((⟨n,0,none⟩:Addr).add j)=some u:=by
 subst hn
 exact rec_cells_at w r t
theorem WriAt.cells {w W w':World} {tg:Tags} {ow B d:Nat} {ol:List Rec} {ixs:List ByteArray} {nw:List (ByteArray × Int)} (h:WriAt w tg ow B d ol ixs nw) (q:Q w W) {v:Value} (hv:∀ g,v.ownBlock=some g→tg g=(ow,3)) (hg:W.grownBy w' v.ownBlock):∀ j,w'.cell? ⟨B,j,none⟩=w.cell? ⟨B,j,none⟩∧w'.frozen? ⟨B,j,none⟩=false:=fun j=>by
 have hB:w'.heap[B]?=w.heap[B]?:=by
  rw [hg.block B (Nat.lt_of_lt_of_le h.top q.below.size) (fun e=>by have:=hv B e.symm;rw [h.tb] at this;simp at this)]
  exact q.below.block B h.top
 exact ⟨World.cell?_of_block (a:=⟨B,j,none⟩) hB,(World.frozen?_of_block (a:=⟨B,j,none⟩) hB).trans (h.fr j)⟩
theorem WriAt.pushed {w W w':World} {tg:Tags} {ow B d:Nat} {ol:List Rec} {ixs:List ByteArray} {nw:List (ByteArray × Int)} (h:WriAt w tg ow B d ol ixs nw) (q:Q w W) {ao ao':Option Addr} {cap cap':Nat} {r:Rec} (ha:w.ownsRow 0 62 4 (.slice ao ol.length cap) ol.length (recCells ol)) (hv:∀ g,(Value.slice ao ol.length cap).ownBlock=some g→tg g=(ow,3)) (hg:W.grownBy w' (Value.slice ao ol.length cap).ownBlock)
  (ho:w'.ownsRow 0 62 4 (.slice ao' (ol.length+1) cap') (ol.length+1) (recCells ol++r.cells)) (hw:(Value.slice ao' (ol.length+1) cap').ownBlock=(Value.slice ao ol.length cap).ownBlock∨(Value.slice ao' (ol.length+1) cap').ownBlock=some W.heap.size) :
  ∃ tg',(∀ k,k<w.heap.size→tg' k=tg k)∧WriAt ((w'.setCell ⟨B,1,none⟩ (.slice ao' (ol.length+1) cap')).setCell ⟨B,2,none⟩ (.int .i64 (openSize (ol++[r]):Nat))) tg' ow B d (ol++[r]) ixs nw∧Only ow tg w ((w'.setCell ⟨B,1,none⟩ (.slice ao' (ol.length+1) cap')).setCell ⟨B,2,none⟩ (.int .i64 (openSize (ol++[r]):Nat))):=by
 have hc:=h.cells q hv hg
 have hsW:=q.below.size
 have hsg:=hg.size
 have hrowB:∀ g,(Value.slice ao' (ol.length+1) cap').ownBlock=some g→g≠B:=fun g hgb e=>by
  rcases hw with e2|e2
  ·rw [e2] at hgb
   have:=hv g hgb
   rw [e,h.tb] at this
   simp at this
  ·rw [e2] at hgb
   injection hgb with hgb
   have:=h.top
   omega
 have hother:∀ k,k<w.heap.size→k≠B→tg k≠(ow,3)→((w'.setCell ⟨B,1,none⟩ (.slice ao' (ol.length+1) cap')).setCell ⟨B,2,none⟩ (.int .i64 (openSize (ol++[r]):Nat))).heap[k]?=w.heap[k]?:=fun k hk hn1 hn2=>by
  rw [heap_setCell_other _ ⟨B,2,none⟩ k _ (by simpa using hn1),heap_setCell_other _ ⟨B,1,none⟩ k _ (by simpa using hn1),hg.block k (by omega) (fun e=>hn2 (hv k e.symm))]
  exact q.below.block k hk
 have hne:∀ i j,i≠j→(⟨B,i,none⟩:Addr)≠⟨B,j,none⟩:=fun i j hij e=>by injection e with _ e2;exact hij e2
 refine ⟨tg.more w.heap.size ow 3,fun k hk=>Tags.more_old hk,h.turnOpen (by simp;omega) (fun k hk=>Tags.more_old hk) hother ?_ ?_ ⟨ao',cap',?_,?_,?_⟩ ?_,?_⟩
 ·intro j h1 h2
  rw [World.cell?_setCell_other _ _ _ _ (by intro e;injection e with _ e2;omega),World.cell?_setCell_other _ _ _ _ (by intro e;injection e with _ e2;omega)]
  exact (hc j).1
 ·intro j
  rw [World.frozen?_setCell,World.frozen?_setCell]
  exact (hc j).2
 ·obtain ⟨ao0,cap0,x1,_,_⟩:=h.c1
  have hlen:(ol++[r]).length=ol.length+1:=by simp
  rw [hlen,World.cell?_setCell_other _ _ _ _ (hne _ _ (by omega))]
  exact World.cell?_setCell_same _ _ _ ((hc 1).1.trans x1)
 ·have hlen:(ol++[r]).length=ol.length+1:=by simp
  rw [hlen,recCells_append,recCells_one]
  refine row_keep ho (fun g hgb=>?_)
  rw [heap_setCell_other _ ⟨B,2,none⟩ g _ (by simpa using hrowB g hgb),heap_setCell_other _ ⟨B,1,none⟩ g _ (by simpa using hrowB g hgb)]
 ·intro g hgb
  have hlen:(ol++[r]).length=ol.length+1:=by simp
  rw [hlen] at hgb
  rcases hw with e2|e2
  ·rw [e2] at hgb
   rw [Tags.more_old (ha.lt g hgb).2]
   exact hv g hgb
  ·rw [e2] at hgb
   injection hgb with hgb
   exact Tags.more_new (by omega)
 ·have x2:=(hc 2).1.trans h.c2
  refine World.cell?_setCell_same _ _ _ ((World.cell?_setCell_other _ _ _ _ (hne _ _ (by omega))).trans x2)
 ·refine ⟨hg.os.trans q.below.os,hg.tape.trans q.below.tape,hg.output.trans q.below.output,by simp;omega,fun k hk hn=>hother k hk (fun e=>hn (by rw [e,h.tb])) (fun e=>hn (by rw [e]))⟩
theorem openSize_snoc (ol:List Rec) (r:Rec):openSize (ol++[r])=openSize ol+(r.key.size+r.body.size):=by simp [openSize]
theorem wput_any {w:World} {tg:Tags} {ow B d:Nat} {ol:List Rec} {ixs:List ByteArray} {nw:List (ByteArray × Int)} (h:WriAt w tg ow B d ol ixs nw) (r:Rec) (hl:ol.length≤64) (hz:openSize ol≤1048576) (hrs:r.key.size+r.body.size≤1048576) :
  Calls Tryz.prog 90 #[.pointer (some ⟨B,0,none⟩),r.val] w fun e w'=>e=.returned (.tuple #[])∧∃ tg',(∀ k,k<w.heap.size→tg' k=tg k)∧WriAt w' tg' ow B d (ol++[r]) ixs nw∧Only ow tg w w':=by
 obtain ⟨i0,hi,hz0,hz1,hz2⟩:=info_parts infoR
 obtain ⟨ao,cap,a1,a2,a3⟩:=h.c1
 have c2:=h.c2
 have htop:=h.top
 have htb:=h.tb
 have hfr:=h.fr
 obtain ⟨z,hze⟩:∃ z,openSize ol=z:=⟨_,rfl⟩
 rw [hze] at c2 hz
 have hq1:Q w (w.alloc (.cells #[.string r.key,.int .i64 r.stamp,.int .i64 r.kind,.string r.body] 62)):=(Q.refl w).alloc _ _
 have hq2:Q w ((w.alloc (.cells #[.string r.key,.int .i64 r.stamp,.int .i64 r.kind,.string r.body] 62)).alloc (.cells #[.string r.key,.int .i64 r.stamp,.int .i64 r.kind,.string r.body] 62)):=hq1.alloc _ _
 have k1:=kept_cell a1 hq1
 have hown2:=own_below a2 hq2.below
 have HA:Hid _:=h
 unfold Rec.val
 clear h
 go_enter Tryz.func90,Tryz.ntmps90
 go_upto_region 1 with fail
 have hown1:=own_below a2 hq1.below
 go_region_law (refine step_append_w rfl (.tmp 8) (.tmp 10) 72 rfl 0 62 i0 (.agg #[.string ⟨#[]⟩,.int .i64 0,.int .i64 0,.string ⟨#[]⟩]) 4 48 Tryz.underlying72 hi hz0 hz1 hz2 rfl (by decide) (.slice ao ol.length cap) ol.length (recCells ol) (by simp [Act.eval]) (by exact hown1.alloc _) ⟨w.heap.size+1,0,none⟩ 1 1 r.cells (by simp [Act.eval]) rfl (by exact rec_cells_to _ _ _ _ (by simp)) (rec_cells_one _) (by decide) (by unfold maxLen;omega) (by omega) (by simp) ?_;intro v' w' hown' hgrow hwh;obtain ⟨ao3,cap3,hv3⟩:=own_form hown';subst hv3;have qq:Q w ((w.alloc (.cells #[.string r.key,.int .i64 r.stamp,.int .i64 r.kind,.string r.body] 62)).drew.alloc (.cells #[.string r.key,.int .i64 r.stamp,.int .i64 r.kind,.string r.body] 62)):=(hq1.drew).alloc _ _;have kc:=HA.out.cells qq a3 hgrow;have kc1:=(kc 1).1.trans a1;have kf1:=(kc 1).2;have kc2:=(kc 2).1.trans c2;have kf2:=(kc 2).2)
 all_goals
  have hrow:(Value.slice ao ol.length cap).ownBlock≠some w.heap.size:=fun e=>by have:=(a2.lt _ e).2;omega
  have rb:w'.heap[w.heap.size]?=some (.cells #[.string r.key,.int .i64 r.stamp,.int .i64 r.kind,.string r.body] 62 (0,0)):=by
   rw [hgrow.block w.heap.size (by simp;omega) (fun e=>hrow e.symm)]
   exact (((Q.refl _).drew).alloc _ _).below.block w.heap.size (by simp) |>.trans (heap_alloc_new w _)
  have rb2:(w'.setCell ⟨B,1,none⟩ (.slice ao3 (ol.length+1) cap3)).heap[w.heap.size]?=some (.cells #[.string r.key,.int .i64 r.stamp,.int .i64 r.kind,.string r.body] 62 (0,0)):=(heap_setCell_other _ ⟨B,1,none⟩ w.heap.size _ (by simp;omega)).trans rb
  have z0:(w'.setCell ⟨B,1,none⟩ (.slice ao3 (ol.length+1) cap3)).cell? ⟨w.heap.size,0,none⟩=some (.string r.key):=by simp [World.cell?,rb2]
  have z3:(w'.setCell ⟨B,1,none⟩ (.slice ao3 (ol.length+1) cap3)).cell? ⟨w.heap.size,3,none⟩=some (.string r.body):=by simp [World.cell?,rb2]
  have z2:(w'.setCell ⟨B,1,none⟩ (.slice ao3 (ol.length+1) cap3)).cell? ⟨B,2,none⟩=some (.int .i64 (z:Int)):=(World.cell?_setCell_other _ _ _ _ (by intro e;injection e with _ e2;omega)).trans kc2
  have f2:(w'.setCell ⟨B,1,none⟩ (.slice ao3 (ol.length+1) cap3)).frozen? ⟨B,2,none⟩=false:=by rw [World.frozen?_setCell];exact kf2
  have hw1:IntKind.i64.wrap ((r.key.size:Int)+(r.body.size:Int))=(r.key.size:Int)+(r.body.size:Int):=by rw [IntKind.wrap_i64];omega
  have hw2:IntKind.i64.wrap ((z:Int)+((r.key.size:Int)+(r.body.size:Int)))=(z:Int)+((r.key.size:Int)+(r.body.size:Int)):=by rw [IntKind.wrap_i64];omega
  have HP:Hid _:=HA.out.pushed qq a2 a3 hgrow hown' hwh
  rw [openSize_snoc,hze] at HP
  clear hown' hgrow hwh qq kc kc1 kf1 kc2 kf2 rb rb2 hrow
  go_wp2_with fail
  go_region
  all_goals go_wp2_with fail
  all_goals go_end0
  obtain ⟨tg',h1,h2,h3⟩:=HP.out
  have e3:((z+(r.key.size+r.body.size):Nat):Int)=(z:Int)+((r.key.size:Int)+(r.body.size:Int)):=by omega
  rw [e3] at h2 h3
  exact ⟨rfl,tg',h1,h2.kept ((Q.refl _).drew),h3.trans (Only.of_q ((Q.refl _).drew))⟩
structure Both (w:World) (tg:Tags) (o od s d:Nat) (X:S.Sto) (D:M.Dsk) (ids ps ids' ps':List Nat):Prop where
 sto:StoAt w tg o s d X ids ps
 disk:LDiskAt w tg od d D ids' ps'
 fine:D.Fine
 ne:o≠od
theorem StoAt.only {w w':World} {tg tg':Tags} {o od s d:Nat} {X:S.Sto} {ids ps:List Nat} (h:StoAt w tg o s d X ids ps) (hne:o≠od) (ht:∀ k,k<w.heap.size→tg' k=tg k) (ho:Only od tg w w'):StoAt w' tg' o s d X ids ps:=
 h.keep ho.size ht (fun k hk e=>ho.block k hk (by rw [e];exact hne))
theorem LDiskAt.only {w w':World} {tg tg':Tags} {o od d:Nat} {D:M.Dsk} {ids ps:List Nat} (h:LDiskAt w tg od d D ids ps) (hne:o≠od) (ht:∀ k,k<w.heap.size→tg' k=tg k) (ho:Only o tg w w'):LDiskAt w' tg' od d D ids ps:=
 h.keep ho.size (fun k hk=>ht k hk) (fun k hk e=>ho.block k hk (by rw [e];exact hne.symm))
theorem giveUp_any {w:World} {tg:Tags} {o od s d:Nat} {X:S.Sto} {D:M.Dsk} {ids ps ids' ps':List Nat} (h:Both w tg o od s d X D ids ps ids' ps') (e0:Int) :
  Calls Tryz.prog 59 #[.pointer (some ⟨s,0,none⟩),.int .i64 e0] w fun e w'=>∃ e1:Int,e1=(if S.thereCode (D.remove freshN).2=10 then 10 else e0)∧e=.returned (.int .i64 e1)∧∃ tg' idsD psD,Both w' tg' o od s d (if e1=10 then { X with dead:=true } else X) (D.remove freshN).1 ids ps idsD psD∧Kept (fun x=>x=o∨x=od) tg w tg' w':=by
 have c0:=h.sto.c0
 have TD:Hid _:=fun (_:Unit)=>tidy_any tg od d D ids' ps' h.fine w h.disk
 have hF:=h.fine.remove freshN
 have MT:Hid _:=fun (W:World) (tg1:Tags) (e1:Int) (hW:StoAt W tg1 o s d X ids ps)=>meet_any hW e1
 obtain ⟨⟨E,c⟩,hx⟩:∃ p,p=(⟨(D.remove freshN).1,S.thereCode (D.remove freshN).2⟩:M.Dsk × Nat):=⟨_,rfl⟩
 have hx1:(D.remove freshN).1=E:=(congrArg Prod.fst hx).symm
 have hx2:S.thereCode (D.remove freshN).2=c:=(congrArg Prod.snd hx).symm
 rw [hx1] at hF TD ⊢
 rw [hx2] at TD ⊢
 have HH:Hid _:=h
 clear hx hx1 hx2 h
 by_cases hc:c=10
 ·subst hc
  rw [if_pos rfl]
  go_enter Tryz.func59,Tryz.ntmps59
  go_wp2_with fail
  refine (TD.out ()).mono ?_
  rintro e w1 ⟨rfl,tg1,ids1,ps1,ht1,hL1,ho1⟩
  have hS1:=HH.out.sto.only HH.out.ne ht1 ho1
  have MT2:Hid _:=fun (_:Unit)=>MT.out w1 tg1 10 hS1
  have HG:Hid _:=And.intro ht1 (And.intro hL1 (And.intro ho1 hS1))
  clear TD MT hS1 ht1 hL1 ho1
  go_wp2_with fail
  refine (MT2.out ()).mono ?_
  rintro e w2 ⟨rfl,hS2,ho2,hsz2⟩
  obtain ⟨ht1,hL1,ho1,hS1⟩:=HG.out
  have HE:Hid _:=And.intro hS2 ho2
  clear MT2 hS2 ho2
  go_wp2_with fail
  go_ret
  obtain ⟨hS2,ho2⟩:=HE.out
  refine ⟨10,rfl,rfl,tg1,ids1,ps1,⟨by simpa using hS2,hL1.only HH.out.ne (fun _ _=>rfl) ho2,hF,HH.out.ne⟩,(Kept.of_only ho1 ht1 (Or.inr rfl)).trans (Kept.of_only ho2 (fun _ _=>rfl) (Or.inl rfl))⟩
 ·rw [if_neg hc]
  have hcI:¬(c:Int)=10:=by omega
  have hcb:((c:Int) == 10)=false:=by rw [beq_eq_false_iff_ne];exact hcI
  go_enter Tryz.func59,Tryz.ntmps59
  go_wp2_with fail
  refine (TD.out ()).mono ?_
  rintro e w1 ⟨rfl,tg1,ids1,ps1,ht1,hL1,ho1⟩
  have hS1:=HH.out.sto.only HH.out.ne ht1 ho1
  have MT2:Hid _:=fun (_:Unit)=>MT.out w1 tg1 e0 hS1
  have HG:Hid _:=And.intro ht1 (And.intro hL1 (And.intro ho1 hS1))
  clear TD MT hS1 ht1 hL1 ho1
  go_wp2_with fail
  refine (MT2.out ()).mono ?_
  rintro e w2 ⟨rfl,hS2,ho2,hsz2⟩
  obtain ⟨ht1,hL1,ho1,hS1⟩:=HG.out
  have HE:Hid _:=And.intro hS2 ho2
  clear MT2 hS2 ho2
  go_wp2_with fail
  go_ret
  obtain ⟨hS2,ho2⟩:=HE.out
  exact ⟨e0,rfl,rfl,tg1,ids1,ps1,⟨hS2,hL1.only HH.out.ne (fun _ _=>rfl) ho2,hF,HH.out.ne⟩,(Kept.of_only ho1 ht1 (Or.inr rfl)).trans (Kept.of_only ho2 (fun _ _=>rfl) (Or.inl rfl))⟩
theorem ending_any (wm:Int) (hw:-1≤wm) (hw2:wm≤1099511627776) (P:List ByteArray) (ao:Option Addr) (cap:Nat) (w:World) (hS:Strs w ao P) (hT:Tab w) (hP:(M.cat P).length≤100000000) (hPl:P.length≤100000000) :
  Calls Tryz.prog 93 #[.int .i64 wm,.slice ao P.length cap] w fun e w'=>e=.returned (.string ⟨(S.endOf (M.enc 7 (wm+1).toNat++M.cat P)).toArray⟩)∧Q w w':=by
 have hw1:IntKind.i64.wrap (wm+1)=wm+1:=by rw [IntKind.wrap_i64];omega
 have hel:=enc_length 7 (wm+1).toNat
 obtain ⟨A,hA⟩:∃ A,A=M.enc 7 (wm+1).toNat:=⟨_,rfl⟩
 obtain ⟨C,hC⟩:∃ C,C=M.cat P:=⟨_,rfl⟩
 obtain ⟨SL,hSL⟩:∃ SL,SL=M.sealed (A++C):=⟨_,rfl⟩
 have hSLl:SL.length=A.length+C.length+4:=by rw [hSL,M.sealed_length];simp
 obtain ⟨F,hF⟩:∃ F,F=M.enc 7 (2097152+SL.length):=⟨_,rfl⟩
 have hFl:=enc_length 7 (2097152+SL.length)
 rw [←hF] at hFl
 rw [←hA] at hel
 rw [←hC] at hP
 have hend:S.endOf (M.enc 7 (wm+1).toNat++M.cat P)=SL++M.sealed F:=by unfold S.endOf;rw [←hA,←hC,←hSL,←hF]
 rw [hend]
 have NU:Hid _:=fun (W:World)=>number_int (wm+1) (by omega) W
 have JO:Hid _:=fun (W:World) (q:Q w W)=>join_any P ao cap W (hS.kept q.below) (by rw [←hC];omega) (by omega)
 have J1:Hid _:=fun (W:World)=>join_two ⟨A.toArray⟩ ⟨C.toArray⟩ 2 W 9 (by simp [ByteArray.size];omega) (by simp [ByteArray.size];omega)
 have S1:Hid _:=fun (W:World) (q:Q w W)=>wireSeal_any ⟨(A++C).toArray⟩ (by simp [ByteArray.size];omega) W (tab_kept hT q)
 have N2:Hid _:=fun (W:World)=>number_int ((2097152:Int)+(SL.length:Int)) (by omega) W
 have S2:Hid _:=fun (W:World) (q:Q w W)=>wireSeal_any ⟨F.toArray⟩ (by simp [ByteArray.size];omega) W (tab_kept hT q)
 have J2:Hid _:=fun (W:World)=>join_two ⟨SL.toArray⟩ ⟨(M.sealed F).toArray⟩ 2 W 9 (by simp [ByteArray.size];omega) (by simp [ByteArray.size,M.sealed_length];omega)
 rw [←hA] at NU
 rw [←hC] at JO
 simp only at J1 J2 S1 S2
 rw [←hSL] at S1
 have hN2:((2097152:Int)+(SL.length:Int)).toNat=2097152+SL.length:=by omega
 rw [hN2,←hF] at N2
 have hw3:IntKind.i64.wrap ((2097152:Int)+(SL.length:Int))=(2097152:Int)+(SL.length:Int):=by rw [IntKind.wrap_i64];omega
 have hsz:(⟨SL.toArray⟩:ByteArray).size=SL.length:=by simp [ByteArray.size]
 clear hN2 hend hF hSL hA hC hS hT hP hel hFl hSLl
 go_enter Tryz.func93,Tryz.ntmps93
 go_wp2_with fail
 refine (NU.out _).mono ?_
 rintro e w1 ⟨rfl,q1⟩
 have JO2:Hid _:=fun (_:Unit)=>JO.out w1 q1
 clear NU JO
 go_wp2_with fail
 refine (JO2.out ()).mono ?_
 rintro e w2 ⟨rfl,q2⟩
 have q02:=q1.trans q2
 clear JO2 q1 q2
 go_wp2_with fail
 refine (J1.out _).mono ?_
 rintro e w3 ⟨rfl,q3⟩
 have q03:=(q02.alloc _ _).trans q3
 have S12:Hid _:=fun (_:Unit)=>S1.out w3 q03
 clear J1 S1 q02 q3
 go_wp2_with fail
 refine (S12.out ()).mono ?_
 rintro e w4 ⟨rfl,b4⟩
 have q04:=q03.trans ⟨b4⟩
 clear S12 q03 b4
 go_wp2_with fail
 refine (N2.out _).mono ?_
 rintro e w5 ⟨rfl,q5⟩
 have q05:=q04.trans q5
 have S22:Hid _:=fun (_:Unit)=>S2.out w5 q05
 clear N2 S2 q04 q5
 go_wp2_with fail
 refine (S22.out ()).mono ?_
 rintro e w6 ⟨rfl,b6⟩
 have q06:=q05.trans ⟨b6⟩
 clear S22 q05 b6
 go_wp2_with fail
 refine (J2.out _).mono ?_
 rintro e w7 ⟨rfl,q7⟩
 have q07:=(q06.alloc _ _).trans q7
 clear J2 q06 q7
 go_wp2_with fail
 go_ret
 exact ⟨rfl,q07⟩
theorem endBlock_none {w:World} {tg:Tags} {ow B d:Nat} {ixs:List ByteArray} {nw:List (ByteArray × Int)} (h:WriAt w tg ow B d [] ixs nw) :
  Calls Tryz.prog 88 #[.pointer (some ⟨B,0,none⟩)] w fun e w'=>e=.returned (.int .i64 0)∧Q w w':=by
 obtain ⟨ao,cap,a1,_,_⟩:=h.c1
 simp only [List.length_nil] at a1
 clear h
 go_enter Tryz.func88,Tryz.ntmps88
 go_wp2_with fail
 go_ret
 exact ⟨rfl,Q.refl w⟩
theorem StoAt.turnNewest {w w':World} {tg:Tags} {o s d:Nat} {X:S.Sto} {ids ps:List Nat} {nw:List (ByteArray × Int)} (h:StoAt w tg o s d X ids ps) (hn:KMapNew tg o s 4 1 3 (nw.map (·.1)) (intVals (nw.map (·.2))) w w'):∃ tg',(∀ k,k<w.heap.size→tg' k=tg k)∧StoAt w' tg' o s d { X with newest:=nw } ids ps∧Only o tg w w':=by
 obtain ⟨tg',ht,hM,hK⟩:=hn
 have hne:∀ g u,tg g=(o,u+1)→g≠s:=fun g u e e2=>by rw [e2,h.ts] at e;simp at e
 refine ⟨tg',ht,⟨hM.top,(ht s h.top).trans h.ts,fun j=>(hK.fr j).trans (h.fr j),(hK.cell 0 (by omega) (by omega)).trans h.c0,(hK.cell 1 (by omega) (by omega)).trans h.c1,(hK.cell 2 (by omega) (by omega)).trans h.c2,(hK.cell 3 (by omega) (by omega)).trans h.c3,hM,?_,h.nodup,h.lenI,?_⟩,?_⟩
 ·refine h.pd.keep hK.size (fun k hk _=>ht k hk) (hK.cell 6 (by omega) (by omega)) (hK.cell 7 (by omega) (by omega)) (fun k hk e=>?_)
  rcases e with e|e
  ·exact hK.block k hk (hne k 2 e) (fun e2=>by rw [e] at e2;simp at e2) (fun e2=>by rw [e] at e2;simp at e2)
  ·exact hK.block k hk (hne k 3 e) (fun e2=>by rw [e] at e2;simp at e2) (fun e2=>by rw [e] at e2;simp at e2)
 ·intro i p id kr h1 h2 h3
  obtain ⟨g1,g2,g3⟩:=h.inner i p id kr h1 h2 h3
  have hoth:∀ k u,5≤u→k<w.heap.size→tg k=(o,u)→w'.heap[k]?=w.heap[k]?:=fun k u hu hk e=>hK.block k hk (fun e2=>by rw [e2,h.ts] at e;simp at e;omega) (fun e2=>by rw [e] at e2;simp at e2;omega) (fun e2=>by rw [e] at e2;simp at e2;omega)
  have hp:=hoth p _ (by omega) g1.top g2
  exact ⟨g1.keep hK.size (fun k hk _=>ht k hk) hp (fun k hk e=>by rcases e with e | e<;>exact hoth k _ (by omega) hk e),(ht p g1.top).trans g2,fun j=>(World.frozen?_of_block (a:=⟨p,j,none⟩) hp).trans (g3 j)⟩
 ·exact ⟨hK.os,hK.tape,hK.output,hK.size,fun k hk hn=>hK.block k hk (fun e=>hn (by rw [e,h.ts])) (fun e=>hn (by rw [e])) (fun e=>hn (by rw [e]))⟩
theorem WriAt.turnNewest {w w':World} {tg:Tags} {ow B d:Nat} {ol:List Rec} {ixs:List ByteArray} {nw nw':List (ByteArray × Int)} (h:WriAt w tg ow B d ol ixs nw) (hn:KMapNew tg ow B 4 1 3 (nw'.map (·.1)) (intVals (nw'.map (·.2))) w w'):∃ tg',(∀ k,k<w.heap.size→tg' k=tg k)∧WriAt w' tg' ow B d ol ixs nw'∧Only ow tg w w':=by
 obtain ⟨tg',ht,hM,hK⟩:=hn
 obtain ⟨ao,cap,a1,a2,a3⟩:=h.c1
 obtain ⟨bo,bcap,b1,b2,b3⟩:=h.c3
 have hoth:∀ k u,3≤u→k<w.heap.size→tg k=(ow,u)→w'.heap[k]?=w.heap[k]?:=fun k u hu hk e=>hK.block k hk (fun e2=>by rw [e2,h.tb] at e;simp at e;omega) (fun e2=>by rw [e] at e2;simp at e2;omega) (fun e2=>by rw [e] at e2;simp at e2;omega)
 refine ⟨tg',ht,⟨hM.top,(ht B h.top).trans h.tb,fun j=>(hK.fr j).trans (h.fr j),(hK.cell 0 (by omega) (by omega)).trans h.c0,⟨ao,cap,(hK.cell 1 (by omega) (by omega)).trans a1,row_keep a2 (fun g hg=>hoth g 3 (by omega) (a2.lt g hg).2 (a3 g hg)),fun g hg=>(ht g (a2.lt g hg).2).trans (a3 g hg)⟩,(hK.cell 2 (by omega) (by omega)).trans h.c2,⟨bo,bcap,(hK.cell 3 (by omega) (by omega)).trans b1,row_keep b2 (fun g hg=>hoth g 4 (by omega) (b2.lt g hg).2 (b3 g hg)),fun g hg=>(ht g (b2.lt g hg).2).trans (b3 g hg)⟩,hM⟩,?_⟩
 exact ⟨hK.os,hK.tape,hK.output,hK.size,fun k hk hn=>hK.block k hk (fun e=>hn (by rw [e,h.tb])) (fun e=>hn (by rw [e])) (fun e=>hn (by rw [e]))⟩
theorem WriAt.cells4 {w W w':World} {tg:Tags} {ow B d:Nat} {ol:List Rec} {ixs:List ByteArray} {nw:List (ByteArray × Int)} (h:WriAt w tg ow B d ol ixs nw) (q:Q w W) {v:Value} (hv:∀ g,v.ownBlock=some g→tg g=(ow,4)) (hg:W.grownBy w' v.ownBlock):∀ j,w'.cell? ⟨B,j,none⟩=w.cell? ⟨B,j,none⟩∧w'.frozen? ⟨B,j,none⟩=false:=fun j=>by
 have hB:w'.heap[B]?=w.heap[B]?:=by
  rw [hg.block B (Nat.lt_of_lt_of_le h.top q.below.size) (fun e=>by have:=hv B e.symm;rw [h.tb] at this;simp at this)]
  exact q.below.block B h.top
 exact ⟨World.cell?_of_block (a:=⟨B,j,none⟩) hB,(World.frozen?_of_block (a:=⟨B,j,none⟩) hB).trans (h.fr j)⟩
theorem WriAt.indexed {w W w':World} {tg:Tags} {ow B d:Nat} {ol:List Rec} {ixs:List ByteArray} {nw:List (ByteArray × Int)} (h:WriAt w tg ow B d ol ixs nw) (q:Q w W) {bo bo':Option Addr} {cap cap':Nat} {ps:List ByteArray} (hp:ps.length=4) (hb:w.ownsRow 0 9 1 (.slice bo ixs.length cap) ixs.length (strVals ixs)) (hv:∀ g,(Value.slice bo ixs.length cap).ownBlock=some g→tg g=(ow,4)) (hg:W.grownBy w' (Value.slice bo ixs.length cap).ownBlock)
  (ho:w'.ownsRow 0 9 1 (.slice bo' (ixs.length+4) cap') (ixs.length+4) (strVals ixs++strVals ps)) (hw:(Value.slice bo' (ixs.length+4) cap').ownBlock=(Value.slice bo ixs.length cap).ownBlock∨(Value.slice bo' (ixs.length+4) cap').ownBlock=some W.heap.size) :
  ∃ tg',(∀ k,k<w.heap.size→tg' k=tg k)∧WriAt (((w'.setCell ⟨B,3,none⟩ (.slice bo' (ixs.length+4) cap')).setCell ⟨B,1,none⟩ (.slice none 0 0)).setCell ⟨B,2,none⟩ (.int .i64 0)) tg' ow B d [] (ixs++ps) nw∧Only ow tg w (((w'.setCell ⟨B,3,none⟩ (.slice bo' (ixs.length+4) cap')).setCell ⟨B,1,none⟩ (.slice none 0 0)).setCell ⟨B,2,none⟩ (.int .i64 0)):=by
 have hc:=h.cells4 q hv hg
 have hsW:=q.below.size
 have hsg:=hg.size
 have htop:=h.top
 have hrowB:∀ g,(Value.slice bo' (ixs.length+4) cap').ownBlock=some g→g≠B:=fun g hgb e=>by
  rcases hw with e2|e2
  ·rw [e2] at hgb
   have:=hv g hgb
   rw [e,h.tb] at this
   simp at this
  ·rw [e2] at hgb
   injection hgb with hgb
   omega
 have hset:∀ k,k≠B→(((w'.setCell ⟨B,3,none⟩ (.slice bo' (ixs.length+4) cap')).setCell ⟨B,1,none⟩ (.slice none 0 0)).setCell ⟨B,2,none⟩ (.int .i64 0)).heap[k]?=w'.heap[k]?:=fun k hn=>by
  rw [heap_setCell_other _ ⟨B,2,none⟩ k _ (by simpa using hn),heap_setCell_other _ ⟨B,1,none⟩ k _ (by simpa using hn),heap_setCell_other _ ⟨B,3,none⟩ k _ (by simpa using hn)]
 have hother:∀ k,k<w.heap.size→k≠B→tg k≠(ow,4)→(((w'.setCell ⟨B,3,none⟩ (.slice bo' (ixs.length+4) cap')).setCell ⟨B,1,none⟩ (.slice none 0 0)).setCell ⟨B,2,none⟩ (.int .i64 0)).heap[k]?=w.heap[k]?:=fun k hk hn1 hn2=>by
  rw [hset k hn1,hg.block k (by omega) (fun e=>hn2 (hv k e.symm))]
  exact q.below.block k hk
 have hne:∀ i j,i≠j→(⟨B,i,none⟩:Addr)≠⟨B,j,none⟩:=fun i j hij e=>by injection e with _ e2;exact hij e2
 have hnB:∀ g u,tg g=(ow,u+1)→g≠B:=fun g u e e2=>by rw [e2,h.tb] at e;simp at e
 have hlen:(ixs++ps).length=ixs.length+4:=by simp [hp]
 have hcj:∀ j,j≠1→j≠2→j≠3→(((w'.setCell ⟨B,3,none⟩ (.slice bo' (ixs.length+4) cap')).setCell ⟨B,1,none⟩ (.slice none 0 0)).setCell ⟨B,2,none⟩ (.int .i64 0)).cell? ⟨B,j,none⟩=w.cell? ⟨B,j,none⟩:=fun j h1 h2 h3=>by
  rw [World.cell?_setCell_other _ _ _ _ (hne _ _ (by omega)),World.cell?_setCell_other _ _ _ _ (hne _ _ (by omega)),World.cell?_setCell_other _ _ _ _ (hne _ _ (by omega))]
  exact (hc j).1
 refine ⟨tg.more w.heap.size ow 4,fun k hk=>Tags.more_old hk,⟨?_,?_,?_,?_,⟨none,0,?_,World.ownsRow_nil _ _ _ _,fun g hgb=>by simp [Value.ownBlock] at hgb⟩,?_,⟨bo',cap',?_,?_,?_⟩,?_⟩,?_⟩
 ·simp;omega
 ·rw [Tags.more_old htop];exact h.tb
 ·intro j
  rw [World.frozen?_setCell,World.frozen?_setCell,World.frozen?_setCell]
  exact (hc j).2
 ·rw [hcj 0 (by omega) (by omega) (by omega)]
  exact h.c0
 ·obtain ⟨ao0,cap0,x1,_,_⟩:=h.c1
  rw [World.cell?_setCell_other _ _ _ _ (hne _ _ (by omega))]
  exact World.cell?_setCell_same _ _ _ ((World.cell?_setCell_other _ _ _ _ (hne _ _ (by omega))).trans ((hc 1).1.trans x1))
 ·refine World.cell?_setCell_same (u:=.int .i64 (openSize ol:Nat)) _ _ _ ?_
  rw [World.cell?_setCell_other _ _ _ _ (hne _ _ (by omega)),World.cell?_setCell_other _ _ _ _ (hne _ _ (by omega))]
  exact (hc 2).1.trans h.c2
 ·obtain ⟨ao0,cap0,x1,_,_⟩:=h.c3
  rw [hlen,World.cell?_setCell_other _ _ _ _ (hne _ _ (by omega)),World.cell?_setCell_other _ _ _ _ (hne _ _ (by omega))]
  exact World.cell?_setCell_same _ _ _ ((hc 3).1.trans x1)
 ·have e1:strVals (ixs++ps)=strVals ixs++strVals ps:=by simp [strVals]
  rw [hlen,e1]
  exact row_keep ho (fun g hgb=>hset g (hrowB g hgb))
 ·intro g hgb
  rw [hlen] at hgb
  rcases hw with e2|e2
  ·rw [e2] at hgb
   rw [Tags.more_old (hb.lt g hgb).2]
   exact hv g hgb
  ·rw [e2] at hgb
   injection hgb with hgb
   exact Tags.more_new (by omega)
 ·refine h.nw.keep (by simp;omega) (fun k hk _=>Tags.more_old hk) (hcj 4 (by omega) (by omega) (by omega)) (hcj 5 (by omega) (by omega) (by omega)) (fun k hk e=>?_)
  rcases e with e|e
  ·exact hother k hk (hnB k 0 e) (fun e2=>by rw [e] at e2;simp at e2)
  ·exact hother k hk (hnB k 1 e) (fun e2=>by rw [e] at e2;simp at e2)
 ·refine ⟨hg.os.trans q.below.os,hg.tape.trans q.below.tape,hg.output.trans q.below.output,by simp;omega,fun k hk hn=>hother k hk (fun e=>hn (by rw [e,h.tb])) (fun e=>hn (by rw [e]))⟩
theorem four_cells (w:World) (a b c d:ByteArray) (t:TypeId) (n:Nat) (hn:w.heap.size=n):∀ j u,(strVals [a,b,c,d])[j]?=some u→(w.alloc (.cells #[.string a,.string b,.string c,.string d] t)).cell? ((⟨n,0,none⟩:Addr).add j)=some u:=by
 subst hn
 intro j u hu
 match j with
 | 0=>simp [strVals] at hu;subst hu;simp [Addr.add]
 | 1=>simp [strVals] at hu;subst hu;simp [Addr.add]
 | 2=>simp [strVals] at hu;subst hu;simp [Addr.add]
 | 3=>simp [strVals] at hu;subst hu;simp [Addr.add]
 | j+4=>simp [strVals] at hu
end Go.Proofs.YtekdenkllipehabGreatDoor
