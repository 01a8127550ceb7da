import Derived.Test.YtekdenkllipehabGreatDoorK45
set_option maxRecDepth 100000
set_option maxHeartbeats 8000000
namespace Go.Proofs.YtekdenkllipehabGreatDoor
open Go.RowKit
def accCells (o:Option S.Fact):List Value:=match o with
 | some f=>f.cells
 | none=>[.string ⟨#[]⟩,.int .i64 0,.string ⟨#[]⟩,.bool false]
theorem lastFact_step {L:List S.Fact} {i:Nat} {f:S.Fact} (h:L[i]?=some f) (k:ByteArray) (t:Int):S.lastFact (L.take (i+1)) k t=if f.key=k∧f.stamp≤t then some f else S.lastFact (L.take i) k t:=by
 unfold S.lastFact
 rw [S.take_snoc h,List.filter_append]
 by_cases h1:f.key=k∧f.stamp≤t
 ·rw [if_pos h1];simp [h1.1,h1.2]
 ·rw [if_neg h1]
  have:(decide (f.key=k) && decide (f.stamp≤t))=false:=by
   by_cases e:f.key=k
   ·have:¬f.stamp≤t:=fun e2=>h1 ⟨e,e2⟩
    simp [this]
   ·simp [e]
  simp [this]
def ToldRel (w:World) (L:List S.Fact) (k:ByteArray) (t:Int) (ti:Value) (wr:World):Prop:=
 ∃ i:Nat,ti=.int .i64 (i:Int)∧i≤L.length∧Q w wr∧VarN wr (w.heap.size+1) (accCells (S.lastFact (L.take i) k t))∧VarN wr w.heap.size (accCells none)
def ToldAns (L:List S.Fact) (k:ByteArray) (t:Int) (e:Ending):Prop:=
 ∃ (a:ByteArray) (b:Int) (v:ByteArray) (th:Bool),e=.returned (.agg #[.string a,.int .i64 b,.string v,.bool th])∧(v,th)=(match S.lastFact L k t with | some f=>(f.value,f.there) | none=>(⟨#[]⟩,false))
theorem acc_form (o:Option S.Fact):∃ (a:ByteArray) (b:Int) (v:ByteArray) (th:Bool),accCells o=[.string a,.int .i64 b,.string v,.bool th]∧(v,th)=(match o with | some f=>(f.value,f.there) | none=>(⟨#[]⟩,false)):=by
 cases o with
 | none=>exact ⟨_,_,_,_,rfl,rfl⟩
 | some f=>exact ⟨_,_,_,_,rfl,rfl⟩
theorem told_any {w:World} {tg:Tags} {rr r d s:Nat} {L:List S.Fact} {clock water:Int} {ok:Bool} (h:RunAt w tg rr r d s L clock water ok) (hl:L.length≤1048576) (k:ByteArray) (t:Int) :
  Calls Tryz.prog 29 #[.pointer (some ⟨r,0,none⟩),.string k,.int .i64 t] w fun e w'=>ToldAns L k t e∧Q w w':=by
 obtain ⟨ao,cap,a1,a2,a3⟩:=h.c2
 have HC:Hid (∀ (i:Nat) (f:S.Fact),L[i]?=some f→∃ g,ao=some ⟨g,0,none⟩∧w.cell? ⟨g,i*4,none⟩=some (.string f.key)∧w.cell? ⟨g,i*4+1,none⟩=some (.int .i64 f.stamp)∧w.cell? ⟨g,i*4+2,none⟩=some (.string f.value)∧w.cell? ⟨g,i*4+3,none⟩=some (.bool f.there)):=fun i f hf=>by
  have hne:factCells L≠[]:=fun e=>by
   have:=factCells_at (L:=L) 0 hf (by omega)
   rw [e] at this
   simp [S.Fact.cells] at this
  obtain ⟨g,hg,_,_,hc⟩:=own_cells a2 hne
  exact ⟨g,hg,hc _ _ (by rw [show i*4=i*4+0 from rfl,factCells_at 0 hf (by omega)];rfl),hc _ _ (by rw [factCells_at 1 hf (by omega)];rfl),hc _ _ (by rw [factCells_at 2 hf (by omega)];rfl),hc _ _ (by rw [factCells_at 3 hf (by omega)];rfl)⟩
 clear h a2 a3
 go_enter Tryz.func29,Tryz.ntmps29
 go_wp2_with fail
 go_loopw [8] (fun ti wr=>ToldRel w L k t ti wr) (fun ti _=>L.length-(intOf ti).toNat)
 case atStart =>
  refine ⟨0,rfl,Nat.zero_le _,((Q.refl w).alloc _ _).alloc _ _,?_,(varN_new w _ 26).kept ((Q.refl _).alloc _ _)⟩
  have:=varN_new (w.alloc (.cells #[.string ⟨#[]⟩,.int .i64 0,.string ⟨#[]⟩,.bool false] 26)) [.string ⟨#[]⟩,.int .i64 0,.string ⟨#[]⟩,.bool false] 26
  rw [World.size_alloc] at this
  exact this
 case round =>
  obtain ⟨i,rfl,hi,hq,hV,hV0⟩:=hrel
  have k2:=kept_cell a1 hq
  obtain ⟨xa,xb,xv,xt,hacc,hmt⟩:=acc_form (S.lastFact (L.take i) k t)
  by_cases hlt:i<L.length
  ·obtain ⟨f,hf⟩:∃ f,L[i]?=some f:=⟨_,List.getElem?_eq_getElem hlt⟩
   obtain ⟨g,hg,f0,f1,f2,f3⟩:=HC.out i f hf
   have hltI:(i:Int)<(L.length:Int):=by omega
   have e0:=kept_cell f0 hq
   have e1:=kept_cell f1 hq
   have e2:=kept_cell f2 hq
   have e3:=kept_cell f3 hq
   have hs:=lastFact_step hf k t
   have HVV:Hid (VarN wr (w.heap.size+1) (accCells (S.lastFact (L.take i) k t))∧VarN wr w.heap.size (accCells none)∧Q w wr):=⟨hV,hV0,hq⟩
   rw [hacc] at hV
   have b0:=(hV.kept ((Q.refl wr).alloc #[.string f.key,.int .i64 f.stamp,.string f.value,.bool f.there] 26)).cell 0 rfl
   have b1:=(hV.kept ((Q.refl wr).alloc #[.string f.key,.int .i64 f.stamp,.string f.value,.bool f.there] 26)).cell 1 rfl
   have b2:=(hV.kept ((Q.refl wr).alloc #[.string f.key,.int .i64 f.stamp,.string f.value,.bool f.there] 26)).cell 2 rfl
   have b3:=(hV.kept ((Q.refl wr).alloc #[.string f.key,.int .i64 f.stamp,.string f.value,.bool f.there] 26)).cell 3 rfl
   have d0:=(hV.kept ((Q.refl wr).alloc #[.string f.key,.int .i64 f.stamp,.string f.value,.bool f.there] 26)).free 0 rfl
   have d1:=(hV.kept ((Q.refl wr).alloc #[.string f.key,.int .i64 f.stamp,.string f.value,.bool f.there] 26)).free 1 rfl
   have d2:=(hV.kept ((Q.refl wr).alloc #[.string f.key,.int .i64 f.stamp,.string f.value,.bool f.there] 26)).free 2 rfl
   have d3:=(hV.kept ((Q.refl wr).alloc #[.string f.key,.int .i64 f.stamp,.string f.value,.bool f.there] 26)).free 3 rfl
   subst hg
   by_cases hkk:f.key=k
   ·have hkb:(f.key.toList == k.toList)=true:=by rw [hkk];simp
    by_cases hst:f.stamp≤t
    ·rw [if_pos ⟨hkk,hst⟩] at hs
     have HS:Hid (S.lastFact (L.take (i+1)) k t=some f):=hs
     clear HC hs hV hV0 hf hkk
     go_wp2_with fail
     go_roundw
     case rel =>
      have h1:=HVV.out.1
      rw [hacc] at h1
      have h2:=((((h1.kept ((Q.refl wr).alloc #[.string f.key,.int .i64 f.stamp,.string f.value,.bool f.there] 26)).set 0 (.string f.key)).set 1 (.int .i64 f.stamp)).set 2 (.string f.value)).set 3 (.bool f.there)
      refine ⟨i+1,by go_num,by omega,((((HVV.out.2.2.alloc _ _).setCell (p:=⟨w.heap.size+1,0,none⟩) (by simp) _).setCell (p:=⟨w.heap.size+1,1,none⟩) (by simp) _).setCell (p:=⟨w.heap.size+1,2,none⟩) (by simp) _).setCell (p:=⟨w.heap.size+1,3,none⟩) (by simp) _,by rw [HS.out];exact h2,?_⟩
      refine (HVV.out.2.1.kept ((Q.refl wr).alloc #[.string f.key,.int .i64 f.stamp,.string f.value,.bool f.there] 26)).of_block ?_ (by simp)
      rw [heap_setCell_other _ ⟨w.heap.size+1,3,none⟩ w.heap.size _ (by simp),heap_setCell_other _ ⟨w.heap.size+1,2,none⟩ w.heap.size _ (by simp),heap_setCell_other _ ⟨w.heap.size+1,1,none⟩ w.heap.size _ (by simp),heap_setCell_other _ ⟨w.heap.size+1,0,none⟩ w.heap.size _ (by simp)]
     case measure=>simp [intOf];omega
    ·have hstI:¬f.stamp≤t:=hst
     rw [if_neg (fun e=>hst e.2)] at hs
     have HS:Hid (S.lastFact (L.take (i+1)) k t=S.lastFact (L.take i) k t):=hs
     clear HC hs hV hV0 hf hkk
     go_wp2_with fail
     go_roundw
     case rel=>exact ⟨i+1,by go_num,by omega,HVV.out.2.2.alloc _ _,by rw [HS.out];exact HVV.out.1.kept ((Q.refl _).alloc _ _),HVV.out.2.1.kept ((Q.refl _).alloc _ _)⟩
     case measure=>simp [intOf];omega
   ·have hkb:(f.key.toList == k.toList)=false:=by
     rw [beq_eq_false_iff_ne]
     intro e
     exact hkk (M.bytes_ext e)
    rw [if_neg (fun e=>hkk e.1)] at hs
    have HS:Hid (S.lastFact (L.take (i+1)) k t=S.lastFact (L.take i) k t):=hs
    clear HC hs hV hV0 hf
    go_wp2_with fail
    go_roundw
    case rel=>exact ⟨i+1,by go_num,by omega,HVV.out.2.2.alloc _ _,by rw [HS.out];exact HVV.out.1.kept ((Q.refl _).alloc _ _),HVV.out.2.1.kept ((Q.refl _).alloc _ _)⟩
    case measure=>simp [intOf];omega
  ·obtain rfl:i=L.length:=by omega
   rw [List.take_length] at hacc hmt hV
   rw [hacc] at hV
   have b0:=hV.cell 0 rfl
   have b1:=hV.cell 1 rfl
   have b2:=hV.cell 2 rfl
   have b3:=hV.cell 3 rfl
   have z0:=hV0.cell 0 rfl
   have z1:=hV0.cell 1 rfl
   have z2:=hV0.cell 2 rfl
   have z3:=hV0.cell 3 rfl
   have y0:=hV0.free 0 rfl
   have y1:=hV0.free 1 rfl
   have y2:=hV0.free 2 rfl
   have y3:=hV0.free 3 rfl
   have HM:Hid ((xv,xt)=(match S.lastFact L k t with | some f=>(f.value,f.there) | none=>(⟨#[]⟩,false))):=hmt
   clear hV hV0 hmt hacc
   go_wp2_with fail
   refine bodyPost_ret (v:=.agg #[.string xa,.int .i64 xb,.string xv,.bool xt]) (by simp [results,Tryz.results29,go_sem,z0,z1,z2,z3]) rfl ?_
   exact ⟨⟨xa,xb,xv,xt,rfl,HM.out⟩,(((hq.setCell (p:=⟨w.heap.size,0,none⟩) (Nat.le_refl _) _).setCell (p:=⟨w.heap.size,1,none⟩) (Nat.le_refl _) _).setCell (p:=⟨w.heap.size,2,none⟩) (Nat.le_refl _) _).setCell (p:=⟨w.heap.size,3,none⟩) (Nat.le_refl _) _⟩
theorem right_any {w:World} {tg:Tags} {m rr o od r s d:Nat} {L:List S.Fact} {clock water:Int} {T:S.Two} {X:S.Sto} {bs:List (List Rec)} {C:S.Con} (h:Run w tg m rr o od r s d L clock water water T X bs C) (k:ByteArray) (hk:1≤k.size∧k.size≤64) (t:Int) (ht:0≤t∨t<water) :
  Calls Tryz.prog 10 #[.pointer (some ⟨r,0,none⟩),.string k,.int .i64 t] w fun e w'=>e=.returned (.bool true)∧Q w w':=by
 obtain ⟨i1,i2,i3,i4,hr⟩:=h.rdy
 have r1:=h.run.c1
 have r4:=h.run.c4
 have hw:=h.ok.wm
 have GA:=getAt_any hr.sto hr.good (fun _=>⟨hr.disk,hr.fine,hr.on⟩) hr.tab k t
 by_cases hb:t<water
 ·have ha:X.asking k t=12:=by
   unfold S.Sto.asking
   rw [h.ok.dead,if_neg (by simp),if_neg (fun e=>e hk),if_pos (by omega)]
  have GB:Hid _:=fun (_:Unit)=>GA
  rw [ha] at GB
  simp only [show ¬(12:Int)=0 by omega,if_false] at GB
  unfold noEnd at GB
  clear GA ha h hr hw hk ht
  go_enter Tryz.func10,Tryz.ntmps10
  go_wp2_with fail
  refine (GB.out ()).mono ?_
  rintro e w1 ⟨rfl,q1⟩
  have k4:=kept_cell r4 q1
  clear GB
  go_wp2_with fail
  go_ret
  exact ⟨rfl,q1⟩
 ·have ha:X.asking k t=0:=by
   unfold S.Sto.asking
   rw [h.ok.dead,if_neg (by simp),if_neg (fun e=>e hk),if_neg (by omega)]
  rw [ha] at GA
  simp only [if_true,false_and,or_false] at GA
  rw [h.ok.keeps.told (by omega) k] at GA
  obtain ⟨p,hp⟩:∃ p,p=S.told (S.firstAt (S.fv L k) t):=⟨_,rfl⟩
  rw [←hp] at GA
  obtain ⟨v,th⟩:=p
  have GB:Hid _:=fun (_:Unit)=>GA
  unfold vEnd at GB
  simp only at GB
  have TO:Hid _:=fun (W:World) (q:Q w W)=>told_any (h.run.kept q) (by have:=h.ok.few.1;omega) k t
  have HP:Hid ((v,th)=(match S.lastFact L k t with | some f=>(f.value,f.there) | none=>((⟨#[]⟩:ByteArray),false))):=hp.trans (S.told_fact h.ok.facts k t)
  clear GA ha h hr hw hk ht hp
  go_enter Tryz.func10,Tryz.ntmps10
  go_wp2_with fail
  refine (GB.out ()).mono ?_
  rintro e w1 ⟨rfl,q1⟩
  have k4:=kept_cell r4 q1
  have TO2:Hid _:=fun (_:Unit)=>TO.out w1 q1
  clear GB TO
  go_wp2_with fail
  refine (TO2.out ()).mono ?_
  rintro e w2 ⟨⟨xa,xb,xv,xt,rfl,hx⟩,q2⟩
  have he:(v,th)=(xv,xt):=HP.out.trans hx.symm
  injection he with he1 he2
  subst he1 he2
  clear hx TO2
  go_wp2_with fail
  go_ret
  exact ⟨by simp,(q1.trans q2).alloc _ _⟩
structure RunB (w0 w:World) (tg:Tags) (m rr o od r s d:Nat) (L:List S.Fact) (clock wc water:Int) (T:S.Two) (X:S.Sto) (bs:List (List Rec)) (C:S.Con):Prop where
 run:Run w tg m rr o od r s d L clock wc water T X bs C
 q:Q w0 w
 z:∀ k,k<w0.heap.size→(tg k).1=0
 n:rr≠0∧o≠0∧od≠0
theorem RunB.next {w0 w w':World} {tg tg':Tags} {P:Nat→Prop} {m rr o od r s d:Nat} {L L':List S.Fact} {clock wc water clock' wc' water':Int} {T T':S.Two} {X X':S.Sto} {bs bs':List (List Rec)} {C C':S.Con} (h:RunB w0 w tg m rr o od r s d L clock wc water T X bs C) (h':Run w' tg' m rr o od r s d L' clock' wc' water' T' X' bs' C') (hK:Kept P tg w tg' w') (hP:∀ x,P x→x=rr∨x=o∨x=od):RunB w0 w' tg' m rr o od r s d L' clock' wc' water' T' X' bs' C':=by
 have hs:=h.q.below.size
 refine ⟨h',⟨⟨hK.os.trans h.q.below.os,hK.tape.trans h.q.below.tape,hK.output.trans h.q.below.output,Nat.le_trans hs hK.size,fun k hk=>?_⟩⟩,fun k hk=>by rw [hK.tags k (by omega)];exact h.z k hk,h.n⟩
 rw [hK.block k (by omega) (fun e=>?_)]
 ·exact h.q.below.block k hk
 ·have h0:=h.z k hk
  have:=h.n
  rcases hP _ e with e | e | e<;>omega
theorem RunB.qq {w0 w w':World} {tg:Tags} {m rr o od r s d:Nat} {L:List S.Fact} {clock wc water:Int} {T:S.Two} {X:S.Sto} {bs:List (List Rec)} {C:S.Con} (h:RunB w0 w tg m rr o od r s d L clock wc water T X bs C) (q:Q w w'):RunB w0 w' (junk tg w) m rr o od r s d L clock wc water T X bs C:=by
 refine h.next (P:=fun _=>False) (h.run.q q) (Kept.of_q q (fun k hk=>Tags.more_old hk)) (fun x e=>e.elim)
def twoNew:S.Two:=⟨1048576,none,none,false,0⟩
theorem twoNew_settle:S.settle twoNew.dsk=(twoNew.dsk,0):=by
 rw [S.settle_two]
 rfl
theorem twoNew_fine:twoNew.dsk.Fine:=by
 refine ⟨⟨by decide,by decide,by decide,fun f hf=>?_,fun f hf=>?_⟩,?_,by decide⟩
 ·simp [twoNew,S.Two.dsk,S.fileOf] at hf
 ·simp [twoNew,S.Two.dsk,S.fileOf] at hf
 ·simp [twoNew,S.Two.dsk,S.fileOf,M.Sorted]
theorem twoNew_on:OnDisk False twoNew.dsk [] (-1):=⟨rfl,Or.inl ⟨by rw [S.Two.read_dsk];rfl,rfl,rfl⟩⟩
theorem new_ok:S.RunOk [] 0 (-1) twoNew (ldSto (-1) [] 0) [] (fun _=>[]):=by
 refine ⟨⟨List.Pairwise.nil,fun f hf=>(by cases hf),fun f hf=>(by cases hf),fun f hf=>(by cases hf),fun f hf=>(by cases hf)⟩,rfl,by omega,by omega,rfl,⟨ldSto_ok List.Pairwise.nil (by simp) (Nat.le_refl _),S.Fil.none theAp,fun k=>rfl,fun kr hkr=>(by cases hkr),fun kr hkr=>(by cases hkr),by decide,by decide,by decide⟩,fun k=>⟨0,rfl,by simp [S.fv,S.needs]⟩,rfl,Or.inl ⟨rfl,rfl,rfl⟩,rfl,rfl,rfl,by simp [S.costF]⟩
def bFirst:ByteArray:=⟨#[102,105,114,115,116]⟩
def bOne:ByteArray:=⟨#[111,110,101]⟩
def fFirst:S.Fact:=⟨bFirst,0,bOne,true⟩
def Begun (w:World) (e:Ending) (w':World):Prop:=
 ∃ (tg':Tags) (r s d:Nat) (T:S.Two) (X:S.Sto) (bs:List (List Rec)) (C:S.Con),e=.returned (.pointer (some ⟨r,0,none⟩))∧RunB w w' tg' 10 1 3 2 r s d [fFirst] 0 (-1) (-1) T X bs C
theorem begin_any (w:World) (hT:Tab w) :
  Calls Tryz.prog 8 #[] w fun e w'=>Begun w e w':=by
 have DN:Hid _:=fun (_:Unit)=>diskNew_yes 1048576 (by omega) (fun _=>(0,0)) 2 w
 have HT:Hid (Tab w):=hT
 clear hT
 go_enter Tryz.func8,Tryz.ntmps8
 go_wp2_with fail
 refine (DN.out ()).mono ?_
 rintro e w1 ⟨rfl,hL1,q1⟩
 have hG:=tab_lt HT.out
 obtain ⟨tg1,htg1⟩:∃ tg1:Tags,tg1=Tags.more (fun _=>(0,0)) w.heap.size 2 0:=⟨_,rfl⟩
 rw [←htg1] at hL1
 have t1o:∀ k,k<w.heap.size→tg1 k=(0,0):=fun k hk=>by rw [htg1];exact Tags.more_old hk
 have t1l:∀ k,(tg1 k).1=0∨(tg1 k).1=2:=fun k=>by
  rw [htg1]
  unfold Tags.more
  split<;>simp
 have OP:Hid _:=fun (_:Unit)=>open_any (o:=3) (od:=2) (m:=10) (d:=w.heap.size) (T0:=twoNew) (bs:=[]) (bad:=False) (wm:=-1) hL1 twoNew_fine twoNew_on (S.Fil.none theAp) (tab_kept HT.out q1) (by simp) (fun k _=>by rcases t1l k with e | e<;>omega) (fun k _=>by rcases t1l k with e | e<;>omega) (by omega) (by omega)
 have HQ1:Hid (Q w w1∧∀ k,k<w.heap.size→tg1 k=(0,0)):=⟨q1,t1o⟩
 clear DN hL1 q1 htg1 t1l
 go_wp2_with fail
 refine (OP.out ()).mono ?_
 rintro e w2 ⟨tg2,ids2,ps2,hK2,hl2,hc⟩
 rw [twoNew_settle] at hc
 rcases hc with ⟨hf,_⟩|⟨hf,_⟩|⟨_,s,hs,rfl,hS2,hD2⟩
 ·exact hf.elim
 ·exact absurd rfl hf
 have qw1:=HQ1.out.1
 have hsz1:=qw1.below.size
 have hGl1:1<w1.heap.size:=by omega
 have hwb:∀ k,k<w.heap.size→w2.heap[k]?=w.heap[k]?:=fun k hk=>(hK2.block k (by omega) (by rw [t1o k hk];simp)).trans (qw1.below.block k hk)
 have q2:Q w w2:=⟨⟨hK2.os.trans qw1.below.os,hK2.tape.trans qw1.below.tape,hK2.output.trans qw1.below.output,Nat.le_trans hsz1 hK2.size,hwb⟩⟩
 have t2o:∀ k,k<w.heap.size→(tg2 k).1=0:=fun k hk=>by rw [hK2.tags k (by omega),t1o k hk]
 obtain ⟨tg3,htg3⟩:∃ tg3:Tags,tg3=tg2.more w2.heap.size 1 0:=⟨_,rfl⟩
 have t3o:∀ k,k<w2.heap.size→tg3 k=tg2 k:=fun k hk=>by rw [htg3];exact Tags.more_old hk
 have t3r:tg3 w2.heap.size=(1,0):=by rw [htg3];exact Tags.more_new (Nat.le_refl _)
 have qa:Q w2 (w2.alloc (.cells #[.pointer (some ⟨w.heap.size,0,none⟩),.pointer (some ⟨s,0,none⟩),.slice none 0 0,.int .i64 0,.int .i64 (-1),.bool true] 33)):=(Q.refl w2).alloc _ _
 have hv:=varN_new w2 [.pointer (some ⟨w.heap.size,0,none⟩),.pointer (some ⟨s,0,none⟩),.slice none 0 0,.int .i64 0,.int .i64 (-1),.bool true] 33
 have hfr:∀ j,(w2.alloc (.cells #[.pointer (some ⟨w.heap.size,0,none⟩),.pointer (some ⟨s,0,none⟩),.slice none 0 0,.int .i64 0,.int .i64 (-1),.bool true] 33)).frozen? ⟨w2.heap.size,j,none⟩=false:=fun j=>by simp
 obtain ⟨w3,hw3⟩:∃ w3,w3=w2.alloc (.cells #[.pointer (some ⟨w.heap.size,0,none⟩),.pointer (some ⟨s,0,none⟩),.slice none 0 0,.int .i64 0,.int .i64 (-1),.bool true] 33):=⟨_,rfl⟩
 rw [←hw3] at qa hv hfr
 have hs3:w3.heap.size=w2.heap.size+1:=by rw [hw3];simp
 have hTw3:Tab w3:=tab_kept (tab_block HT.out (hwb _ hG)) qa
 have htG:(tg3 1).1=0:=by rw [t3o _ (by have:=q2.below.size;omega)];exact t2o _ hG
 have hlow3:Low 10 tg3 w3:=fun k hk=>by
  rw [hs3] at hk
  by_cases h:k<w2.heap.size
  ·rw [t3o k h];exact hl2 k h
  ·have:k=w2.heap.size:=by omega
   rw [this,t3r];simp
 have hR3:Run w3 tg3 10 1 3 2 w2.heap.size s w.heap.size [] 0 (-1) (-1) twoNew (ldSto (-1) [] 0) [] (fun _=>[]):=by
  refine ⟨⟨hv.1,t3r,hfr,hv.cell 0 rfl,hv.cell 1 rfl,⟨none,0,hv.cell 2 rfl,World.ownsRow_nil _ _ _ _,fun g hg=>by simp [Value.ownBlock] at hg⟩,hv.cell 3 rfl,hv.cell 4 rfl,hv.cell 5 rfl⟩,⟨[],[],ids2,ps2,⟨hS2.keep qa.below.size t3o (fun k hk _=>qa.below.block k hk),hD2.keep qa.below.size t3o (fun k hk _=>qa.below.block k hk),twoNew_fine,twoNew_on,new_ok.good,hTw3,by rw [htG];exact ⟨by omega,by omega⟩,by omega,rfl,rfl,hlow3,by omega,by omega,by simp⟩⟩,new_ok,by omega,by omega,by rw [htG];omega,by omega⟩
 have hB3:RunB w w3 tg3 10 1 3 2 w2.heap.size s w.heap.size [] 0 (-1) (-1) twoNew (ldSto (-1) [] 0) [] (fun _=>[]):=⟨hR3,q2.trans qa,fun k hk=>by rw [t3o k (by have:=q2.below.size;omega)];exact t2o k hk,by omega⟩
 obtain ⟨r,hr⟩:∃ r,r=w2.heap.size:=⟨_,rfl⟩
 obtain ⟨d,hd⟩:∃ d,d=w.heap.size:=⟨_,rfl⟩
 rw [←hr,←hd] at hB3
 have SY:Hid _:=fun (_:Unit)=>say_put hB3.run bFirst 0 bOne (fun g hg=>by cases hg) (by omega) (by omega) (by omega) (by decide) (by decide) (by decide)
 have HB3:Hid (RunB w w3 tg3 10 1 3 2 r s d [] 0 (-1) (-1) twoNew (ldSto (-1) [] 0) [] (fun _=>[])):=hB3
 unfold bFirst bOne at SY
 clear OP hK2 hl2 hS2 hD2 hR3 hB3 hv hfr hwb q2 t2o htg3 t3o t3r qa hTw3 htG hlow3 hs3 HQ1 t1o qw1 hsz1 hGl1
 go_wp2_with fail
 rw [←hw3,←hr,←hd]
 clear hw3 hr hd
 refine (SY.out ()).mono ?_
 rintro e w4 ⟨rfl,tg4,X4,hR4,hK4⟩
 have hR4':Run w4 tg4 10 1 3 2 r s d [fFirst] 0 (-1) (-1) twoNew X4 [] (fun _=>[]):=hR4
 have hB4:=HB3.out.next hR4' hK4 (fun x e=>by rcases e with e | e<;>simp [e])
 have FL:Hid _:=fun (_:Unit)=>rflush_any hB4.run
 have HB4:Hid (RunB w w4 tg4 10 1 3 2 r s d [fFirst] 0 (-1) (-1) twoNew X4 [] (fun _=>[])):=hB4
 clear SY hR4 hR4' hK4 hB4 HB3
 go_wp2_with fail
 refine (FL.out ()).mono ?_
 rintro e w5 ⟨rfl,tg5,T5,X5,bs5,C5,hR5,hp5,hK5⟩
 have hB5:=HB4.out.next hR5 hK5 (fun x e=>by rcases e with e | e | e<;>simp [e])
 obtain ⟨i1,i2,i3,i4,hr5⟩:=hR5.rdy
 have GA:=getAt_any hr5.sto hr5.good (fun _=>⟨hr5.disk,hr5.fine,hr5.on⟩) hr5.tab bFirst 3
 have ha:X5.asking bFirst 3=0:=by
  unfold S.Sto.asking
  rw [hR5.ok.dead,if_neg (by simp),if_neg (by decide),if_neg (by rw [hR5.ok.wm];omega)]
 have htold:S.told (S.firstAt (X5.con C5 bFirst) 3)=(bOne,true):=by
  rw [hR5.ok.keeps.told (by rw [hR5.ok.wm];omega) bFirst]
  rfl
 rw [ha] at GA
 simp only [if_true,false_and,or_false] at GA
 rw [htold] at GA
 have GB:Hid _:=fun (_:Unit)=>GA
 unfold vEnd bFirst bOne at GB
 have HB5:Hid (RunB w w5 tg5 10 1 3 2 r s d [fFirst] 0 (-1) (-1) T5 X5 bs5 C5):=hB5
 clear FL hR5 hp5 hK5 hB5 hr5 GA ha htold HB4
 go_wp2_with fail
 refine (GB.out ()).mono ?_
 rintro e w6 ⟨rfl,q6⟩
 have hB6:=HB5.out.qq q6
 have c5:=hB6.run.run.c5
 have HB6:Hid (RunB w w6 (junk tg5 w5) 10 1 3 2 r s d [fFirst] 0 (-1) (-1) T5 X5 bs5 C5):=hB6
 clear GB hB6 HB5
 go_wp2_with fail
 go_ret
 exact ⟨_,r,s,d,T5,X5,bs5,C5,rfl,HB6.out⟩
def RB (w0 w:World) (r s d:Nat) (L:List S.Fact) (clock wc water:Int) (P:S.Sto→Prop):Prop:=
 ∃ tg T X bs C,RunB w0 w tg 10 1 3 2 r s d L clock wc water T X bs C∧P X
theorem RB.any {w0 w:World} {r s d:Nat} {L:List S.Fact} {clock wc water:Int} {P:S.Sto→Prop} (h:RB w0 w r s d L clock wc water P):RB w0 w r s d L clock wc water (fun _=>True):=by
 obtain ⟨tg,T,X,bs,C,h1,_⟩:=h
 exact ⟨tg,T,X,bs,C,h1,trivial⟩
theorem RB.q {w0 w w':World} {r s d:Nat} {L:List S.Fact} {clock wc water:Int} {P:S.Sto→Prop} (h:RB w0 w r s d L clock wc water P) (q:Q w w'):RB w0 w' r s d L clock wc water P:=by
 obtain ⟨tg,T,X,bs,C,h1,h2⟩:=h
 exact ⟨_,T,X,bs,C,h1.qq q,h2⟩
theorem RB.base {w0 w:World} {r s d:Nat} {L:List S.Fact} {clock wc water:Int} {P:S.Sto→Prop} (h:RB w0 w r s d L clock wc water P):Q w0 w:=by
 obtain ⟨tg,T,X,bs,C,h1,_⟩:=h
 exact h1.q
theorem RB.cells {w0 w:World} {r s d:Nat} {L:List S.Fact} {clock wc water:Int} {P:S.Sto→Prop} (h:RB w0 w r s d L clock wc water P):w.cell? ⟨r,0,none⟩=some (.pointer (some ⟨d,0,none⟩))∧w.cell? ⟨r,1,none⟩=some (.pointer (some ⟨s,0,none⟩))∧w.cell? ⟨r,4,none⟩=some (.int .i64 wc)∧w.cell? ⟨r,5,none⟩=some (.bool true)∧w.frozen? ⟨r,4,none⟩=false∧w.frozen? ⟨r,5,none⟩=false∧w.cell? ⟨r,3,none⟩=some (.int .i64 clock):=by
 obtain ⟨tg,T,X,bs,C,h1,_⟩:=h
 exact ⟨h1.run.run.c0,h1.run.run.c1,h1.run.run.c4,h1.run.run.c5,h1.run.run.fr 4,h1.run.run.fr 5,h1.run.run.c3⟩
theorem rb_put {w0 w:World} {r s d:Nat} {L:List S.Fact} {clock wc water:Int} {P:S.Sto→Prop} (h:RB w0 w r s d L clock wc water P) (key:ByteArray) (stamp:Int) (value:ByteArray) (h1:∀ g∈L,g.stamp<stamp) (hw1:water<stamp) (h0:0≤stamp) (ht:stamp≤1099511627776) (h2:1≤key.size∧key.size≤64) (h3:value.size≤4096) (hr:36+2*S.costF (L++[⟨key,stamp,value,true⟩])≤1048576) :
  Calls Tryz.prog 9 #[.pointer (some ⟨r,0,none⟩),.agg #[.string key,.int .i64 stamp,.string value,.bool true]] w fun e w'=>e=.returned (.tuple #[])∧RB w0 w' r s d (L++[⟨key,stamp,value,true⟩]) stamp wc water (fun _=>True):=by
 obtain ⟨tg,T,X,bs,C,hB,_⟩:=h
 refine (say_put hB.run key stamp value h1 hw1 h0 ht h2 h3 hr).mono ?_
 rintro e w' ⟨rfl,tg',X',hR,hK⟩
 exact ⟨rfl,tg',T,X',bs,C,hB.next hR hK (fun x e=>by rcases e with e | e<;>simp [e]),trivial⟩
theorem rb_del {w0 w:World} {r s d:Nat} {L:List S.Fact} {clock wc water:Int} {P:S.Sto→Prop} (h:RB w0 w r s d L clock wc water P) (key:ByteArray) (stamp:Int) (h1:∀ g∈L,g.stamp<stamp) (hw1:water<stamp) (h0:0≤stamp) (ht:stamp≤1099511627776) (h2:1≤key.size∧key.size≤64) (hr:36+2*S.costF (L++[⟨key,stamp,⟨#[]⟩,false⟩])≤1048576) :
  Calls Tryz.prog 9 #[.pointer (some ⟨r,0,none⟩),.agg #[.string key,.int .i64 stamp,.string ⟨#[]⟩,.bool false]] w fun e w'=>e=.returned (.tuple #[])∧RB w0 w' r s d (L++[⟨key,stamp,⟨#[]⟩,false⟩]) stamp wc water (fun _=>True):=by
 obtain ⟨tg,T,X,bs,C,hB,_⟩:=h
 refine (say_del hB.run key stamp h1 hw1 h0 ht h2 hr).mono ?_
 rintro e w' ⟨rfl,tg',X',hR,hK⟩
 exact ⟨rfl,tg',T,X',bs,C,hB.next hR hK (fun x e=>by rcases e with e | e<;>simp [e]),trivial⟩
theorem rb_flush {w0 w:World} {r s d:Nat} {L:List S.Fact} {clock wc water:Int} {P:S.Sto→Prop} (h:RB w0 w r s d L clock wc water P) :
  Calls Tryz.prog 13 #[.pointer (some ⟨r,0,none⟩)] w fun e w'=>e=.returned (.tuple #[])∧RB w0 w' r s d L clock wc water (fun X=>X.isPending=false):=by
 obtain ⟨tg,T,X,bs,C,hB,_⟩:=h
 refine (rflush_any hB.run).mono ?_
 rintro e w' ⟨rfl,tg',T',X',bs',C',hR,hp,hK⟩
 exact ⟨rfl,tg',T',X',bs',C',hB.next hR hK (fun x e=>by rcases e with e | e | e<;>simp [e]),hp⟩
theorem rb_right {w0 w:World} {r s d:Nat} {L:List S.Fact} {clock water:Int} {P:S.Sto→Prop} (h:RB w0 w r s d L clock water water P) (k:ByteArray) (hk:1≤k.size∧k.size≤64) (t:Int) (ht:0≤t∨t<water) :
  Calls Tryz.prog 10 #[.pointer (some ⟨r,0,none⟩),.string k,.int .i64 t] w fun e w'=>e=.returned (.bool true)∧RB w0 w' r s d L clock water water P:=by
 have h':=h
 obtain ⟨tg,T,X,bs,C,hB,_⟩:=h
 refine (right_any hB.run k hk t ht).mono ?_
 rintro e w' ⟨rfl,q⟩
 exact ⟨rfl,h'.q q⟩
theorem rb_compact {w0 w:World} {r s d:Nat} {L:List S.Fact} {clock wc water:Int} (h:RB w0 w r s d L clock wc water (fun X=>X.isPending=false)) :
  Calls Tryz.prog 15 #[.pointer (some ⟨s,0,none⟩)] w fun e w'=>e=.returned (.int .i64 0)∧RB w0 w' r s d L clock wc water (fun X=>X.isPending=false):=by
 obtain ⟨tg,T,X,bs,C,hB,hp⟩:=h
 obtain ⟨_,_,_,_,hr⟩:=hB.run.rdy
 refine (compact_run hr hB.run.ok hp).mono ?_
 rintro e w' ⟨rfl,hd⟩
 obtain ⟨tg',T',X',bs',C',hR,hp',hK⟩:=hB.run.done hd
 exact ⟨rfl,tg',T',X',bs',C',hB.next hR hK (fun x e=>by rcases e with e | e | e<;>simp [e]),hp'⟩
theorem rb_pending {w0 w:World} {r s d:Nat} {L:List S.Fact} {clock wc water:Int} (h:RB w0 w r s d L clock wc water (fun X=>X.isPending=true)) :
  Calls Tryz.prog 15 #[.pointer (some ⟨s,0,none⟩)] w fun e w'=>e=.returned (.int .i64 13)∧RB w0 w' r s d L clock wc water (fun X=>X.isPending=true):=by
 have h':=h
 obtain ⟨tg,T,X,bs,C,hB,hp⟩:=h
 obtain ⟨_,_,_,_,hr⟩:=hB.run.rdy
 refine (compact_pending hr.sto hB.run.ok.dead hp).mono ?_
 rintro e w' ⟨rfl,q⟩
 exact ⟨rfl,h'.q q⟩
theorem rb_raise {w0 w:World} {r s d:Nat} {L:List S.Fact} {clock wc water:Int} (h:RB w0 w r s d L clock wc water (fun _=>True)) (t:Int) (h1:water≤t) (h2:t≤clock) :
  Calls Tryz.prog 14 #[.pointer (some ⟨s,0,none⟩),.int .i64 t] w fun e w'=>e=.returned (.int .i64 0)∧RB w0 w' r s d L clock wc t (fun _=>True):=by
 obtain ⟨tg,T,X,bs,C,hB,_⟩:=h
 obtain ⟨i1,i2,i3,i4,hr⟩:=hB.run.rdy
 obtain ⟨ha,hok⟩:=hB.run.ok.raise h1 h2
 refine (raise_any hr.sto t).mono ?_
 rintro e w' ⟨rfl,hS,ho,_⟩
 rw [ha] at hS ⊢
 rw [if_pos rfl] at hS
 have hK:Kept (·=3) tg w tg w':=Kept.of_only ho (fun _ _=>rfl) rfl
 obtain ⟨tg',hR,hK'⟩:=Run.fin (P:=(·=3)) hr.low hr.tab ⟨hr.tabo.1,hr.tabo.2,hB.run.rG⟩ ⟨hr.om,hr.odm,hB.run.rm⟩ ⟨hr.ne,hB.run.ro,hB.run.rod⟩ hK (fun x e=>Or.inl e) (hB.run.run.keep hK (by omega)) hS (hr.disk.keep hK.size hK.tags (fun k hk e=>hK.block k hk (by rw [e];omega))) hr.fine hok
 exact ⟨rfl,tg',T,_,bs,C,hB.next hR hK' (fun x e=>by simp [e]),trivial⟩
theorem rb_raise_up {w0 w:World} {r s d:Nat} {L:List S.Fact} {clock wc water:Int} (h:RB w0 w r s d L clock wc water (fun X=>X.isPending=false)) (t:Int) (h1:water<t) (h2:t≤clock) :
  Calls Tryz.prog 14 #[.pointer (some ⟨s,0,none⟩),.int .i64 t] w fun e w'=>e=.returned (.int .i64 0)∧RB w0 w' r s d L clock wc t (fun X=>X.isPending=true):=by
 obtain ⟨tg,T,X,bs,C,hB,hp⟩:=h
 obtain ⟨i1,i2,i3,i4,hr⟩:=hB.run.rdy
 obtain ⟨ha,hok⟩:=hB.run.ok.raise (t:=t) (by omega) h2
 refine (raise_any hr.sto t).mono ?_
 rintro e w' ⟨rfl,hS,ho,_⟩
 rw [ha] at hS ⊢
 rw [if_pos rfl] at hS
 have hK:Kept (·=3) tg w tg w':=Kept.of_only ho (fun _ _=>rfl) rfl
 obtain ⟨tg',hR,hK'⟩:=Run.fin (P:=(·=3)) hr.low hr.tab ⟨hr.tabo.1,hr.tabo.2,hB.run.rG⟩ ⟨hr.om,hr.odm,hB.run.rm⟩ ⟨hr.ne,hB.run.ro,hB.run.rod⟩ hK (fun x e=>Or.inl e) (hB.run.run.keep hK (by omega)) hS (hr.disk.keep hK.size hK.tags (fun k hk e=>hK.block k hk (by rw [e];omega))) hr.fine hok
 refine ⟨rfl,tg',T,_,bs,C,hB.next hR hK' (fun x e=>by simp [e]),?_⟩
 have hw:=hB.run.ok.wm
 unfold S.Sto.isPending at hp ⊢
 simp only [decide_eq_false_iff_not,decide_eq_true_eq] at hp ⊢
 right
 have:X.wm=X.fl:=Classical.byContradiction fun e=>hp (Or.inr e)
 show t≠X.fl
 omega
theorem RB.water {w0 w:World} {r s d:Nat} {L:List S.Fact} {clock wc water:Int} {P:S.Sto→Prop} (h:RB w0 w r s d L clock wc water P) (t:Int):RB w0 (w.setCell ⟨r,4,none⟩ (.int .i64 t)) r s d L clock t water P:=by
 obtain ⟨tg,T,X,bs,C,hB,hP⟩:=h
 obtain ⟨i1,i2,i3,i4,hr⟩:=hB.run.rdy
 have hset:=Kept.setAt (w:=w) (tg:=tg) (R:=r) (r:=1) (j:=4) (by rw [hB.run.run.tr]) (.int .i64 t)
 obtain ⟨tg',hR,hK'⟩:=Run.fin (P:=(·=1)) hr.low hr.tab ⟨hr.tabo.1,hr.tabo.2,hB.run.rG⟩ ⟨hr.om,hr.odm,hB.run.rm⟩ ⟨hr.ne,hB.run.ro,hB.run.rod⟩ hset (fun x e=>Or.inr (Or.inr e)) (hB.run.run.set 4 (.int .i64 t) (d':=d) (s':=s) (clock':=clock) (water':=t) (ok':=true) (by omega) rfl rfl rfl rfl rfl) (hr.sto.keep hset.size hset.tags (fun k hk e=>hset.block k hk (by rw [e];omega))) (hr.disk.keep hset.size hset.tags (fun k hk e=>hset.block k hk (by rw [e];omega))) hr.fine hB.run.ok
 exact ⟨tg',T,X,bs,C,hB.next hR hK' (fun x e=>by simp [e]),hP⟩
theorem rb_late {w0 w:World} {r s d:Nat} {L:List S.Fact} {clock wc water:Int} (h:RB w0 w r s d L clock wc water (fun _=>True)) (k:ByteArray) (hk:1≤k.size∧k.size≤64) (t:Int) (v:ByteArray) (hv:v.size≤4096) (u:S.Vs) (V:List S.Vs) (hf:S.fv L k=u::V) (hu:water<u.stamp) (ht:t≤u.stamp) :
  Calls Tryz.prog 11 #[.pointer (some ⟨s,0,none⟩),.string k,.int .i64 t,.string v] w fun e w'=>e=.returned (.int .i64 12)∧RB w0 w' r s d L clock wc water (fun _=>True):=by
 obtain ⟨tg,T,X,bs,C,hB,_⟩:=h
 obtain ⟨i1,i2,i3,i4,hr⟩:=hB.run.rdy
 have hlat:u.stamp≤X.latest k:=by
  rw [hB.run.ok.good.latest k]
  obtain ⟨n,h1,h2⟩:=hB.run.ok.keeps k
  rw [hf] at h1 h2
  simp only [S.needs] at h2
  rw [hB.run.ok.wm,if_pos hu] at h2
  obtain ⟨n',rfl⟩:∃ n',n=n'+1:=⟨n-1,by omega⟩
  rw [h1,List.take_succ_cons,List.head?_cons]
  simp only [Int.max_def]
  split<;>omega
 have ha:X.adding ⟨k,t,0,v⟩=12:=by
  unfold S.Sto.adding
  rw [hB.run.ok.dead,if_neg (by simp),if_neg (fun e=>e hk),if_neg (by show ¬4096<v.size;omega),if_pos (Or.inr (by show t≤X.latest k;omega))]
 refine (put_any hr.sto hr.good.ok k t v hB.run.ok.pend (fun e=>by rw [ha] at e;omega)).mono ?_
 rintro e w' ⟨rfl,tg',j1,j2,ht',hS,ho⟩
 rw [ha] at hS ⊢
 rw [if_neg (by omega)] at hS
 have hK:Kept (·=3) tg w tg' w':=Kept.of_only ho ht' rfl
 obtain ⟨tg2,hR,hK'⟩:=Run.fin (P:=(·=3)) hr.low hr.tab ⟨hr.tabo.1,hr.tabo.2,hB.run.rG⟩ ⟨hr.om,hr.odm,hB.run.rm⟩ ⟨hr.ne,hB.run.ro,hB.run.rod⟩ hK (fun x e=>Or.inl e) (hB.run.run.keep hK (by omega)) hS (hr.disk.keep hK.size hK.tags (fun k hk e=>hK.block k hk (by rw [e];omega))) hr.fine hB.run.ok
 exact ⟨rfl,tg2,T,X,bs,C,hB.next hR hK' (fun x e=>by simp [e]),trivial⟩
theorem rb_size {w0 w:World} {r s d:Nat} {L:List S.Fact} {clock wc water:Int} {P:S.Sto→Prop} (h:RB w0 w r s d L clock wc water P) :
  Calls Tryz.prog 16 #[.pointer (some ⟨d,0,none⟩)] w fun e w'=>(∃ n:Nat,n≤18+S.costF L∧e=.returned (.int .i64 (n:Int)))∧RB w0 w' r s d L clock wc water P:=by
 have h':=h
 obtain ⟨tg,T,X,bs,C,hB,_⟩:=h
 obtain ⟨i1,i2,i3,i4,hr⟩:=hB.run.rdy
 refine (diskSize tg 2 d T.dsk i3 i4 hr.fine w hr.disk).mono ?_
 rintro e w' ⟨rfl,q⟩
 refine ⟨⟨_,?_,rfl⟩,h'.q q⟩
 rw [S.Two.total_dsk]
 unfold S.Two.total
 rw [hB.run.ok.b]
 have:=hB.run.ok.lenA
 simp [S.len] at this ⊢
 exact this
def pk (n m:Int):Int:=(if n<0 then -(n+1) else n) % m
theorem pick_any (n m:Int) (hn:-9223372036854775808≤n∧n≤9223372036854775807) (hm:0<m∧m≤9223372036854775807) (w:World) :
  Calls Tryz.prog 12 #[.int .i64 n,.int .i64 m] w fun e w'=>e=.returned (.int .i64 (pk n m))∧w'=w:=by
 have hm0:¬m=0:=by omega
 have hmb:(m == 0)=false:=by rw [beq_eq_false_iff_ne];omega
 by_cases h:n<0
 ·have hw1:IntKind.i64.wrap (n+1)=n+1:=by rw [IntKind.wrap_i64];omega
  have hw2:IntKind.i64.wrap (-(n+1))=-(n+1):=by rw [IntKind.wrap_i64];omega
  have hp:pk n m=(-(n+1)).tmod m:=by
   unfold pk
   rw [if_pos h,Int.tmod_eq_emod_of_nonneg (by omega)]
  have hw3:IntKind.i64.wrap ((-(n+1)).tmod m)=(-(n+1)).tmod m:=by
   rw [Int.tmod_eq_emod_of_nonneg (by omega),IntKind.wrap_i64]
   have h1:=Int.emod_nonneg (-(n+1)) hm0
   have h2:=Int.emod_lt_of_pos (-(n+1)) hm.1
   omega
  rw [hp]
  clear hp
  go_enter Tryz.func12,Tryz.ntmps12
  go_wp2_with fail
  go_ret
  exact ⟨by simp [Int.neg_tmod],rfl⟩
 ·have hp:pk n m=n.tmod m:=by
   unfold pk
   rw [if_neg h,Int.tmod_eq_emod_of_nonneg (by omega)]
  have hw3:IntKind.i64.wrap (n.tmod m)=n.tmod m:=by
   rw [Int.tmod_eq_emod_of_nonneg (by omega),IntKind.wrap_i64]
   have h1:=Int.emod_nonneg n hm0
   have h2:=Int.emod_lt_of_pos n hm.1
   omega
  rw [hp]
  clear hp
  go_enter Tryz.func12,Tryz.ntmps12
  go_wp2_with fail
  go_ret
  exact ⟨by simp [Int.tmod_eq_emod_of_nonneg h],rfl⟩
theorem pk_range (n m:Int) (hm:0<m):0≤pk n m∧pk n m<m:=by
 unfold pk
 exact ⟨Int.emod_nonneg _ (by omega),Int.emod_lt_of_pos _ hm⟩
def bK:ByteArray:=⟨#[107]⟩
def bTwo:ByteArray:=⟨#[116,119,111]⟩
def factsK:List S.Fact:=[fFirst,⟨bK,5,bOne,true⟩,⟨bK,9,bTwo,true⟩,⟨bK,12,⟨#[]⟩,false⟩]
theorem known_walk (n:Int) (hn:-9223372036854775808≤n∧n≤9223372036854775807) (w:World) (hT:Tab w) :
  Calls Tryz.prog 3 #[.int .i64 n] w fun e w'=>e=.returned (.bool true)∧Q w w':=by
 have BE:Hid _:=fun (_:Unit)=>begin_any w hT
 obtain ⟨p,hp⟩:∃ p,p=pk n 3:=⟨_,rfl⟩
 have hpr:=pk_range n 3 (by omega)
 rw [←hp] at hpr
 have PI:Hid _:=fun (W:World)=>pick_any n 3 hn (by omega) W
 rw [←hp] at PI
 clear hp hn hT
 go_enter Tryz.func3,Tryz.ntmps3
 go_wp2_with fail
 refine (BE.out ()).mono ?_
 rintro e w1 ⟨tg1,r,s,d,T1,X1,bs1,C1,rfl,hB1⟩
 have hR1:RB w w1 r s d [fFirst] 0 (-1) (-1) (fun _=>True):=⟨tg1,T1,X1,bs1,C1,hB1,trivial⟩
 have S1:Hid _:=fun (_:Unit)=>rb_put hR1 bK 5 bOne (by simp [fFirst]) (by omega) (by omega) (by omega) (by decide) (by decide) (by decide)
 unfold bK bOne at S1
 clear BE hB1 hR1
 go_wp2_with fail
 refine (S1.out ()).mono ?_
 rintro e w2 ⟨rfl,hR2⟩
 have S2:Hid _:=fun (_:Unit)=>rb_put hR2 bK 9 bTwo (by simp [fFirst]) (by omega) (by omega) (by omega) (by decide) (by decide) (by decide)
 unfold bK bTwo at S2
 clear S1 hR2
 go_wp2_with fail
 refine (S2.out ()).mono ?_
 rintro e w3 ⟨rfl,hR3⟩
 have S3:Hid _:=fun (_:Unit)=>rb_del hR3 bK 12 (by simp [fFirst]) (by omega) (by omega) (by omega) (by decide) (by decide)
 unfold bK at S3
 clear S2 hR3
 go_wp2_with fail
 refine (S3.out ()).mono ?_
 rintro e w4 ⟨rfl,hR4⟩
 have HR4:Hid (RB w w4 r s d factsK 12 (-1) (-1) (fun _=>True)):=hR4
 clear S3 hR4
 go_wp2_with fail
 go_loopw [4] (fun ti wr=>∃ t:Nat,ti=.int .i64 (t:Int)∧t≤15∧Hid (RB w wr r s d factsK 12 (-1) (-1) (fun _=>True))) (fun ti _=>15-(intOf ti).toNat)
 case atStart=>exact ⟨0,rfl,by omega,HR4.out⟩
 case round =>
  obtain ⟨t,rfl,ht,hRt⟩:=hrel
  by_cases hlt:t<15
  ·have hltI:(t:Int)<15:=by omega
   have RI:Hid _:=fun (_:Unit)=>rb_right hRt.out bK (by decide) (t:Int) (by omega)
   unfold bK at RI
   go_wp2_with fail
   refine (RI.out ()).mono ?_
   rintro e w5 ⟨rfl,hR5⟩
   have HR5:Hid (RB w w5 r s d factsK 12 (-1) (-1) (fun _=>True)):=hR5
   clear RI hR5
   go_wp2_with fail
   go_roundw
   case rel=>exact ⟨t+1,by go_num,by omega,HR5.out⟩
   case measure=>simp [intOf];omega
  ·obtain rfl:t=15:=by omega
   have hc:=hRt.out.cells
   have r1:=hc.2.1
   have LA:Hid _:=fun (_:Unit)=>rb_late hRt.out bK (by decide) 12 ⟨#[120]⟩ (by decide) ⟨12,none⟩ [⟨9,some bTwo⟩,⟨5,some bOne⟩] rfl (by decide) (by decide)
   unfold bK at LA
   clear hc
   go_wp2_with fail
   refine (LA.out ()).mono ?_
   rintro e w6 ⟨rfl,hR6⟩
   have c5:=hR6.cells.2.2.2.1
   have HR6:Hid (RB w w6 r s d factsK 12 (-1) (-1) (fun _=>True)):=hR6
   clear LA hR6 r1
   go_wp2_with fail
   refine (PI.out _).mono ?_
   rintro e w7 ⟨rfl,hw7⟩
   rw [hw7]
   clear hw7
   by_cases h0:p=0
   ·subst h0
    go_wp2_with fail
    go_ret
    exact ⟨rfl,HR6.out.base⟩
   ·have h0b:(p == 0)=false:=by rw [beq_eq_false_iff_ne];exact h0
    have FL:Hid _:=fun (_:Unit)=>rb_flush HR6.out
    clear c5
    go_wp2_with fail
    refine (FL.out ()).mono ?_
    rintro e w8 ⟨rfl,hR8⟩
    have r1:=hR8.cells.2.1
    have RA:Hid _:=fun (_:Unit)=>rb_raise_up hR8 10 (by omega) (by omega)
    clear FL hR8
    go_wp2_with fail
    refine (RA.out ()).mono ?_
    rintro e w9 ⟨rfl,hR9⟩
    have c4:=hR9.cells.2.2.1
    have f4:=hR9.cells.2.2.2.2.1
    have hR10:=hR9.water 10
    have r1':=hR10.cells.2.1
    have CP:Hid _:=fun (_:Unit)=>rb_pending hR10
    clear RA hR9 hR10 r1
    go_wp2_with fail
    refine (CP.out ()).mono ?_
    rintro e w11 ⟨rfl,hR11⟩
    have FL:Hid _:=fun (_:Unit)=>rb_flush hR11
    clear CP hR11 c4 f4 r1'
    go_wp2_with fail
    refine (FL.out ()).mono ?_
    rintro e w12 ⟨rfl,hR12⟩
    have r1:=hR12.cells.2.1
    have CO:Hid _:=fun (_:Unit)=>rb_compact hR12
    clear FL hR12
    go_wp2_with fail
    refine (CO.out ()).mono ?_
    rintro e w13 ⟨rfl,hR13⟩
    have RI:Hid _:=fun (_:Unit)=>rb_right hR13 bK (by decide) 9 (by omega)
    unfold bK at RI
    clear CO hR13 r1
    go_wp2_with fail
    refine (RI.out ()).mono ?_
    rintro e w14 ⟨rfl,hR14⟩
    have RI:Hid _:=fun (_:Unit)=>rb_right hR14 bK (by decide) 10 (by omega)
    unfold bK at RI
    clear hR14
    go_wp2_with fail
    refine (RI.out ()).mono ?_
    rintro e w15 ⟨rfl,hR15⟩
    have RI:Hid _:=fun (_:Unit)=>rb_right hR15 bK (by decide) 12 (by omega)
    unfold bK at RI
    clear hR15
    go_wp2_with fail
    refine (RI.out ()).mono ?_
    rintro e w16 ⟨rfl,hR16⟩
    have c5:=hR16.cells.2.2.2.1
    have HR16:Hid (RB w w16 r s d factsK 12 10 10 (fun X=>X.isPending=false)):=hR16
    clear RI hR16
    go_wp2_with fail
    refine (PI.out _).mono ?_
    rintro e w17 ⟨rfl,hw17⟩
    rw [hw17]
    clear hw17
    by_cases h1:p=1
    ·subst h1
     go_wp2_with fail
     go_ret
     exact ⟨rfl,HR16.out.base⟩
    ·have h1b:(p == 1)=false:=by rw [beq_eq_false_iff_ne];exact h1
     have r1:=HR16.out.cells.2.1
     have RA:Hid _:=fun (_:Unit)=>rb_raise HR16.out.any 12 (by omega) (by omega)
     clear c5
     go_wp2_with fail
     refine (RA.out ()).mono ?_
     rintro e w18 ⟨rfl,hR18⟩
     have FL:Hid _:=fun (_:Unit)=>rb_flush hR18
     clear RA hR18 r1
     go_wp2_with fail
     refine (FL.out ()).mono ?_
     rintro e w19 ⟨rfl,hR19⟩
     have r1:=hR19.cells.2.1
     have CO:Hid _:=fun (_:Unit)=>rb_compact hR19
     clear FL hR19
     go_wp2_with fail
     refine (CO.out ()).mono ?_
     rintro e w20 ⟨rfl,hR20⟩
     have c4:=hR20.cells.2.2.1
     have f4:=hR20.cells.2.2.2.2.1
     have hR21:=hR20.water 12
     have RI:Hid _:=fun (_:Unit)=>rb_right hR21 bK (by decide) 12 (by omega)
     unfold bK at RI
     clear CO hR20 hR21 r1
     go_wp2_with fail
     refine (RI.out ()).mono ?_
     rintro e w22 ⟨rfl,hR22⟩
     have r0:=hR22.cells.1
     have SZ:Hid _:=fun (_:Unit)=>rb_size hR22
     clear RI hR22 c4 f4
     go_wp2_with fail
     refine (SZ.out ()).mono ?_
     rintro e w23 ⟨⟨z,hz,rfl⟩,hR23⟩
     have c5:=hR23.cells.2.2.2.1
     have hzI:(z:Int)≤1104:=by
      have:S.costF factsK=129:=by decide
      omega
     have HR23:Hid (Q w w23):=hR23.base
     clear SZ hR23 r0 hz
     go_wp2_with fail
     go_ret
     exact ⟨by simp,HR23.out⟩
end Go.Proofs.YtekdenkllipehabGreatDoor
