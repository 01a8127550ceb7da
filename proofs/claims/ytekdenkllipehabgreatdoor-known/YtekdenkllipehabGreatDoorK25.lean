import Derived.Test.YtekdenkllipehabGreatDoorK23
set_option maxRecDepth 100000
set_option maxHeartbeats 8000000
namespace Go.Proofs.YtekdenkllipehabGreatDoor
open Go.RowKit
theorem infoU16:(Tryz.prog.info? 258).map (fun i=>(i.zero,i.size,i.bytes))=some (some (.int .u16 0),1,2):=by kernel_rfl
theorem make_u16 (n:Nat) (hn:n≤8192):∃ M:Array Value,
  (∀ W:World,(Instr.makeSlice 255 (.int .i64 (n:Int)) (.int .i64 (n:Int))).run Tryz.prog W=.ok (.slice (some ⟨W.heap.size,0,none⟩) n n) (W.alloc (.cells M 258))) ∧
  (∀ j,j<n→M[j]?=some (.int .u16 0)):=by
 obtain ⟨i0,hi,hz0,hz1,hz2⟩:=info_parts infoU16
 refine ⟨madeCells (Value.int .u16 0).cells (((n:Nat):Int).toNat*i0.size),fun W=>?_,fun j hj=>?_⟩
 ·have h:=run_make (P:=Tryz.prog) W 255 258 i0 (.int .u16 0) Tryz.underlying255 hi hz0 .i64 .i64 (n:Int) (n:Int) (by omega) (by omega) (by rw [hz2];omega) (by omega)
  simpa using h
 ·rw [hz1]
  have hm:=toList_madeCells_one (.int .u16 0) (((n:Nat):Int).toNat*1)
  rw [←Array.getElem?_toList]
  show (madeCells #[Value.int .u16 0] _).toList[j]?=_
  rw [hm]
  simp [hj]
structure Zeros (w:World) (g n:Nat):Prop where
 cell:∀ j,j<n→w.cell? ⟨g,j,none⟩=some (.int .u16 0)
 fr:∀ j,w.frozen? ⟨g,j,none⟩=false
 top:g<w.heap.size
theorem Zeros.kept {w w':World} {g n:Nat} (h:Zeros w g n) (q:Q w w'):Zeros w' g n:=
 ⟨fun j hj=>kept_cell (h.cell j hj) q,fun j=>(q.below.frozen (p:=⟨g,j,none⟩) h.top).trans (h.fr j),Nat.lt_of_lt_of_le h.top q.below.size⟩
theorem zeros_new (w:World) (M:Array Value) (n:Nat) (hM:∀ j,j<n→M[j]?=some (.int .u16 0)) (t:TypeId):Zeros (w.alloc (.cells M t)) w.heap.size n:=
 ⟨fun j hj=>by rw [World.cell?_alloc_mark,hM j hj],fun j=>by simp,by simp⟩
theorem laying_start (w w2:World) (b:ByteArray) (n m F N:Nat) (q:Q w w2) (hF:w.heap.size≤F) (hN:w.heap.size≤N) (hne:F≠N) (zF:Zeros w2 F m) (zN:Zeros w2 N b.size) :
  Laying w (w2.alloc (.cells #[.string b,.int .i64 (n:Int),.slice (some ⟨F,0,none⟩) m m,.slice (some ⟨N,0,none⟩) b.size b.size] 257)) w2.heap.size F N b n m (fun _=>0) (fun _=>0):=by
 have q2:Q w2 (w2.alloc (.cells #[.string b,.int .i64 (n:Int),.slice (some ⟨F,0,none⟩) m m,.slice (some ⟨N,0,none⟩) b.size b.size] 257)):=(Q.refl w2).alloc _ _
 have z1:=zF.kept q2
 have z2:=zN.kept q2
 exact ⟨⟨by simp,by simp,by simp,by simp,z1.cell,z2.cell,fun _=>Nat.zero_le _,fun _=>Nat.zero_le _⟩,(q.trans q2).below,⟨hF,hN⟩,⟨hne,by have:=zF.top;omega,by have:=zN.top;omega⟩,⟨z1.top,z2.top⟩,z1.fr,z2.fr⟩
def Indexed (w:World) (X:Nat) (b:ByteArray):Prop:=∃ (F N n m:Nat) (f g:Nat→Nat),(n≤13∧m=2 ^ n)∧Words w X F N b n m f g∧(4≤b.size→f (slotOf n b)=1)
theorem Indexed.kept {w w':World} {X:Nat} {b:ByteArray} (h:Indexed w X b) (q:Q w w'):Indexed w' X b:=by
 obtain ⟨F,N,n,m,f,g,h0,h1,h2⟩:=h
 exact ⟨F,N,n,m,f,g,h0,h1.kept q,h2⟩
theorem index_any (b:ByteArray) (hb:b.size≤4096) (w:World) :
  Calls Tryz.prog 185 #[.string b] w fun e w'=>e=.returned (.pointer (some ⟨w.heap.size+2,0,none⟩))∧Indexed w' (w.heap.size+2) b∧Q w w':=by
 have HL:Hid _:=bitsLen_any b.size hb
 obtain ⟨M0,hmk,hM⟩:=make_u16 b.size (by omega)
 go_enter Tryz.func185,Tryz.ntmps185
 go_wp2_with fail
 refine (HL.out _).mono ?_
 rintro e w1 ⟨⟨n,rfl,hn⟩,rfl⟩
 obtain ⟨m,hm⟩:∃ m,m=2 ^ n:=⟨_,rfl⟩
 have hp:m≤8192:=by rw [hm];exact Nat.pow_le_pow_right (n:=2) (by decide) hn
 have hw:wrap64 (2 ^ n)=(m:Int):=by
  have:((m:Nat):Int)=2 ^ n:=by rw [hm];push_cast;rfl
  rw [←this]
  unfold wrap64
  omega
 obtain ⟨M1,hmk1,hM1⟩:=make_u16 m hp
 have HM:Hid (m=2 ^ n):=hm
 clear hm
 go_wp2_with fail
 go_region
 ·have hL0:=(laying_start w1 ((w1.alloc (.cells M1 258)).alloc (.cells M0 258)) b n m w1.heap.size (w1.heap.size+1) (((Q.refl w1).alloc _ _).alloc _ _) (Nat.le_refl _) (by omega) (by omega) ((zeros_new w1 M1 m hM1 _).kept ((Q.refl _).alloc _ _)) (by have:=zeros_new (w1.alloc (.cells M1 258)) M0 b.size hM 258;simpa using this)).kept (Q.refl _).drew
  simp only [World.size_alloc] at hL0
  clear hM hM1 hmk hmk1 hw
  go_wp2_with fail
  go_loopw [5] (fun t wr=>∃ (p:Int) (f g:Nat→Nat),t=.int .i64 p∧-4≤p∧(4≤b.size→-1≤p)∧p+4≤(b.size:Int)∧Laying w1 wr (w1.heap.size+1+1) w1.heap.size (w1.heap.size+1) b n m f g∧Hid (∀ k:Nat,(k:Int)=p+1→k+4≤b.size→f (slotOf n (b.extract k b.size))=k+1)) (fun t _=>(intOf t+4).toNat)
  case atStart=>exact ⟨(b.size:Int)-4,_,_,rfl,by omega,by omega,by omega,hL0,(fun k h1 h2=>by omega:∀ k:Nat,(k:Int)=(b.size:Int)-4+1→k+4≤b.size→(0:Nat)=k+1)⟩
  case round =>
   obtain ⟨p0,f,g,rfl,hp4,hp1,hpb,hL,hfst⟩:=hrel
   by_cases hp0:0≤p0
   ·obtain ⟨p,rfl⟩:=Int.eq_ofNat_of_zero_le hp0
    have hpl:p+4≤b.size:=by omega
    have hez:(b.extract p b.size).size=b.size-p:=by simp
    have hsl:slotOf n (b.extract p b.size)<m:=by rw [HM.out];exact slotOf_lt n hn _
    have SC:Hid _:=fun (_:Unit)=>slot_any n hn (w1.heap.size+1+1) (b.extract p b.size) (by omega) wr hL.words.c1
    have HNew:Hid (∀ sl,sl=slotOf n (b.extract p b.size)→∀ k:Nat,(k:Int)=(p:Int)-1+1→k+4≤b.size→(fun j=>if j=sl then p+1 else f j) (slotOf n (b.extract k b.size))=k+1):=fun sl hsl k hk _=>by
     have:k=p:=by omega
     subst this
     simp [hsl]
    generalize hsE:slotOf n (b.extract p b.size)=sl at *
    have HNew2:=HNew.out sl rfl
    have HN2:Hid _:=HNew2
    clear HNew HNew2 hsE hez hfst
    go_wp2_with fail
    refine (SC.out ()).mono ?_
    rintro e w2 ⟨rfl,q1⟩
    have hL1:=hL.kept q1
    clear hL q1 SC
    have s1:=hL1.words.c3
    have s1':=hL1.words.c2
    have s2:=hL1.words.cf sl hsl
    have hfb:=hL1.words.bf sl
    have n1:=hL1.words.cg p (by omega)
    have n2:=hL1.fn p
    have hL2:=hL1.setNext p (f sl) (by omega) hfb
    have hLd:=(hL1.kept (Q.refl _).drew).setNext p (f sl) (by omega) hfb
    have n3:=hL1.ff sl
    have hpI:(p:Int)<(b.size:Int):=by omega
    have hsI:(sl:Int)<(m:Int):=by omega
    go_upto_region 7 with fail
    go_region_held3 (fun w'=>w'.cell? ⟨w1.heap.size+1+1,3,none⟩=some (.slice (some ⟨w1.heap.size+1,0,none⟩) b.size b.size)∧w'.cell? ⟨w1.heap.size+1+1,2,none⟩=some (.slice (some ⟨w1.heap.size,0,none⟩) m m)∧w'.cell? ⟨w1.heap.size,sl,none⟩=some (.int .u16 (f sl:Int))) (first | exact ⟨s1,s1',s2⟩ | exact ⟨hL2.words.c3,hL2.words.c2,hL2.words.cf sl hsl⟩ | exact ⟨hLd.words.c3,hLd.words.c2,hLd.words.cf sl hsl⟩) (fail)
    have m0:=hL2.words.c2
    have m1:=hL2.words.cf sl hsl
    have hcv:IntKind.u16.wrap ((p:Int)+1)=(p:Int)+1:=by simp [IntKind.wrap,IntKind.bits,IntKind.signed];omega
    have hL3:=(hL2.setFirst sl (p+1) hsl (by omega)).kept (Q.refl _).drew
    clear hL1 s1 s1' s2 n1 n2 hLd
    go_wp2_with fail
    go_roundw
    case rel=>exact ⟨(p:Int)-1,_,_,by go_num,by omega,by omega,by omega,hL3,HN2⟩
    case measure=>simp [intOf];omega
   ·have HF:Hid (4≤b.size→f (slotOf n b)=1):=fun h4=>by
     have:=hfst.out 0 (by have:=hp1 h4;omega) (by omega)
     simpa using this
    clear hfst
    go_wp2_with fail
    go_ret
    exact ⟨rfl,⟨w1.heap.size,(w1.heap.size+1),n,m,f,g,⟨hn,HM.out⟩,hL.words,HF.out⟩,⟨hL.below⟩⟩
 ·have hL0:=(laying_start w1 ((w1.alloc (.cells M0 258)).alloc (.cells M1 258)) b n m (w1.heap.size+1) w1.heap.size (((Q.refl w1).alloc _ _).alloc _ _) (by omega) (Nat.le_refl _) (by omega) (by have:=zeros_new (w1.alloc (.cells M0 258)) M1 m hM1 258;simpa using this) ((zeros_new w1 M0 b.size hM _).kept ((Q.refl _).alloc _ _))).kept (Q.refl _).drew
  simp only [World.size_alloc] at hL0
  clear hM hM1 hmk hmk1 hw
  go_wp2_with fail
  go_loopw [5] (fun t wr=>∃ (p:Int) (f g:Nat→Nat),t=.int .i64 p∧-4≤p∧(4≤b.size→-1≤p)∧p+4≤(b.size:Int)∧Laying w1 wr (w1.heap.size+1+1) (w1.heap.size+1) w1.heap.size b n m f g∧Hid (∀ k:Nat,(k:Int)=p+1→k+4≤b.size→f (slotOf n (b.extract k b.size))=k+1)) (fun t _=>(intOf t+4).toNat)
  case atStart=>exact ⟨(b.size:Int)-4,_,_,rfl,by omega,by omega,by omega,hL0,(fun k h1 h2=>by omega:∀ k:Nat,(k:Int)=(b.size:Int)-4+1→k+4≤b.size→(0:Nat)=k+1)⟩
  case round =>
   obtain ⟨p0,f,g,rfl,hp4,hp1,hpb,hL,hfst⟩:=hrel
   by_cases hp0:0≤p0
   ·obtain ⟨p,rfl⟩:=Int.eq_ofNat_of_zero_le hp0
    have hpl:p+4≤b.size:=by omega
    have hez:(b.extract p b.size).size=b.size-p:=by simp
    have hsl:slotOf n (b.extract p b.size)<m:=by rw [HM.out];exact slotOf_lt n hn _
    have SC:Hid _:=fun (_:Unit)=>slot_any n hn (w1.heap.size+1+1) (b.extract p b.size) (by omega) wr hL.words.c1
    have HNew:Hid (∀ sl,sl=slotOf n (b.extract p b.size)→∀ k:Nat,(k:Int)=(p:Int)-1+1→k+4≤b.size→(fun j=>if j=sl then p+1 else f j) (slotOf n (b.extract k b.size))=k+1):=fun sl hsl k hk _=>by
     have:k=p:=by omega
     subst this
     simp [hsl]
    generalize hsE:slotOf n (b.extract p b.size)=sl at *
    have HNew2:=HNew.out sl rfl
    have HN2:Hid _:=HNew2
    clear HNew HNew2 hsE hez hfst
    go_wp2_with fail
    refine (SC.out ()).mono ?_
    rintro e w2 ⟨rfl,q1⟩
    have hL1:=hL.kept q1
    clear hL q1 SC
    have s1:=hL1.words.c3
    have s1':=hL1.words.c2
    have s2:=hL1.words.cf sl hsl
    have hfb:=hL1.words.bf sl
    have n1:=hL1.words.cg p (by omega)
    have n2:=hL1.fn p
    have hL2:=hL1.setNext p (f sl) (by omega) hfb
    have hLd:=(hL1.kept (Q.refl _).drew).setNext p (f sl) (by omega) hfb
    have n3:=hL1.ff sl
    have hpI:(p:Int)<(b.size:Int):=by omega
    have hsI:(sl:Int)<(m:Int):=by omega
    go_upto_region 7 with fail
    go_region_held3 (fun w'=>w'.cell? ⟨w1.heap.size+1+1,3,none⟩=some (.slice (some ⟨w1.heap.size,0,none⟩) b.size b.size)∧w'.cell? ⟨w1.heap.size+1+1,2,none⟩=some (.slice (some ⟨w1.heap.size+1,0,none⟩) m m)∧w'.cell? ⟨w1.heap.size+1,sl,none⟩=some (.int .u16 (f sl:Int))) (first | exact ⟨s1,s1',s2⟩ | exact ⟨hL2.words.c3,hL2.words.c2,hL2.words.cf sl hsl⟩ | exact ⟨hLd.words.c3,hLd.words.c2,hLd.words.cf sl hsl⟩) (fail)
    have m0:=hL2.words.c2
    have m1:=hL2.words.cf sl hsl
    have hcv:IntKind.u16.wrap ((p:Int)+1)=(p:Int)+1:=by simp [IntKind.wrap,IntKind.bits,IntKind.signed];omega
    have hL3:=(hL2.setFirst sl (p+1) hsl (by omega)).kept (Q.refl _).drew
    clear hL1 s1 s1' s2 n1 n2 hLd
    go_wp2_with fail
    go_roundw
    case rel=>exact ⟨(p:Int)-1,_,_,by go_num,by omega,by omega,by omega,hL3,HN2⟩
    case measure=>simp [intOf];omega
   ·have HF:Hid (4≤b.size→f (slotOf n b)=1):=fun h4=>by
     have:=hfst.out 0 (by have:=hp1 h4;omega) (by omega)
     simpa using this
    clear hfst
    go_wp2_with fail
    go_ret
    exact ⟨rfl,⟨w1.heap.size+1,w1.heap.size,n,m,f,g,⟨hn,HM.out⟩,hL.words,HF.out⟩,⟨hL.below⟩⟩
structure Lg (b t:ByteArray) (done at_ ahead place size:Nat):Prop where
 h1:ahead≤at_-done
 h2:ahead≤size
 h3:place+size≤b.size
 h4:at_-ahead+size≤t.size
 eq:(b.data.toList.drop place).take size=(t.data.toList.drop (at_-ahead)).take size
theorem Lg.start (b t:ByteArray) (done at_:Nat) (h:at_≤t.size):Lg b t done at_ 0 0 0:=⟨by omega,by omega,by omega,by omega,by simp⟩
theorem Lg.of {b t:ByteArray} {done at_ place back sb:Nat} (hp:place≤b.size) (hd:done≤at_) (hat:at_≤t.size)
  (k1:back≤(b.extract 0 place).size) (k2:back≤(t.extract done at_).size) (k3:(b.extract 0 place).data.toList.drop ((b.extract 0 place).size-back)=(t.extract done at_).data.toList.drop ((t.extract done at_).size-back))
  (m1:sb≤(b.extract place b.size).size) (m2:sb≤(t.extract at_ t.size).size) (m3:(b.extract place b.size).data.toList.take sb=(t.extract at_ t.size).data.toList.take sb) :
  Lg b t done at_ back (place-back) (back+sb)∧back≤place:=by
 have z1:(b.extract 0 place).size=place:=by simp;omega
 have z2:(t.extract done at_).size=at_-done:=by simp;omega
 have z3:(b.extract place b.size).size=b.size-place:=by simp
 have z4:(t.extract at_ t.size).size=t.size-at_:=by simp
 rw [z1] at k1 k3
 rw [z2] at k2 k3
 rw [z3] at m1
 rw [z4] at m2
 refine ⟨⟨by omega,by omega,by omega,by omega,?_⟩,k1⟩
 simp only [ByteArray.data_extract,Array.toList_extract,List.extract_eq_take_drop,Nat.sub_zero,List.drop_zero] at k3 m3
 have e1:(b.data.toList.drop (place-back)).take (back+sb)=(b.data.toList.drop (place-back)).take back++(b.data.toList.drop place).take sb:=by
  rw [List.take_add,List.drop_drop,show place-back+back=place by omega]
 have e2:(t.data.toList.drop (at_-back)).take (back+sb)=(t.data.toList.drop (at_-back)).take back++(t.data.toList.drop at_).take sb:=by
  rw [List.take_add,List.drop_drop,show at_-back+back=at_ by omega]
 rw [e1,e2]
 congr 1
 ·rw [List.drop_take,List.drop_take,List.drop_drop,show place-(place-back)=back by omega,show at_-done-(at_-done-back)=back by omega,show done+(at_-done-back)=at_-back by omega] at k3
  exact k3
 ·have hb:b.data.toList.length=b.size:=by simp
  have ht:t.data.toList.length=t.size:=by simp
  rw [List.take_of_length_le (l:=b.data.toList.drop place) (by rw [List.length_drop];omega),List.take_of_length_le (l:=t.data.toList.drop at_) (by rw [List.length_drop];omega)] at m3
  exact m3
def Whole (b t:ByteArray) (done at_ ahead place size:Nat):Prop:=b=t→done=0→at_=0→ahead=0∧place=0∧size=b.size
structure Var3 (w:World) (B:Nat) (x y z:Value):Prop where
 c0:w.cell? ⟨B,0,none⟩=some x
 c1:w.cell? ⟨B,1,none⟩=some y
 c2:w.cell? ⟨B,2,none⟩=some z
 f0:w.frozen? ⟨B,0,none⟩=false
 f1:w.frozen? ⟨B,1,none⟩=false
 f2:w.frozen? ⟨B,2,none⟩=false
theorem Var3.kept {w w':World} {B:Nat} {x y z:Value} (h:Var3 w B x y z) (q:Q w w'):Var3 w' B x y z:=by
 have hl:B<w.heap.size:=cell_lt h.c0
 exact ⟨kept_cell h.c0 q,kept_cell h.c1 q,kept_cell h.c2 q,(q.below.frozen (p:=⟨B,0,none⟩) hl).trans h.f0,(q.below.frozen (p:=⟨B,1,none⟩) hl).trans h.f1,(q.below.frozen (p:=⟨B,2,none⟩) hl).trans h.f2⟩
theorem Var3.set {w:World} {B:Nat} {x y z:Value} (h:Var3 w B x y z) (a b c:Value):Var3 (((w.setCell ⟨B,0,none⟩ a).setCell ⟨B,1,none⟩ b).setCell ⟨B,2,none⟩ c) B a b c:=by
 obtain ⟨k0,k1,k2⟩:=stored3 h.c0 h.c1 h.c2 a b c
 exact ⟨k0,k1,k2,by simp only [World.frozen?_setCell];exact h.f0,by simp only [World.frozen?_setCell];exact h.f1,by simp only [World.frozen?_setCell];exact h.f2⟩
theorem Var3.other {w:World} {B C:Nat} {x y z:Value} (h:Var3 w B x y z) (hne:B≠C) (a b c:Value):Var3 (((w.setCell ⟨C,0,none⟩ a).setCell ⟨C,1,none⟩ b).setCell ⟨C,2,none⟩ c) B x y z:=by
 have oc:∀ o,(((w.setCell ⟨C,0,none⟩ a).setCell ⟨C,1,none⟩ b).setCell ⟨C,2,none⟩ c).cell? ⟨B,o,none⟩=w.cell? ⟨B,o,none⟩:=fun o=>by
  rw [World.cell?_setCell_other _ _ _ _ (by intro e;injection e;omega),World.cell?_setCell_other _ _ _ _ (by intro e;injection e;omega),World.cell?_setCell_other _ _ _ _ (by intro e;injection e;omega)]
 exact ⟨(oc 0).trans h.c0,(oc 1).trans h.c1,(oc 2).trans h.c2,by simp only [World.frozen?_setCell];exact h.f0,by simp only [World.frozen?_setCell];exact h.f1,by simp only [World.frozen?_setCell];exact h.f2⟩
theorem Var3.grown {w w':World} {row:Option Nat} {B:Nat} {x y z:Value} (h:Var3 w B x y z) (hg:w.grownBy w' row) (hne:∀ k,row=some k→k≠B):Var3 w' B x y z:=by
 have hb:w'.heap[B]?=w.heap[B]?:=hg.block B (cell_lt h.c0) (fun e=>hne B e.symm rfl)
 exact ⟨(World.cell?_of_block (a:=⟨B,0,none⟩) hb).trans h.c0,(World.cell?_of_block (a:=⟨B,1,none⟩) hb).trans h.c1,(World.cell?_of_block (a:=⟨B,2,none⟩) hb).trans h.c2,(World.frozen?_of_block (a:=⟨B,0,none⟩) hb).trans h.f0,(World.frozen?_of_block (a:=⟨B,1,none⟩) hb).trans h.f1,(World.frozen?_of_block (a:=⟨B,2,none⟩) hb).trans h.f2⟩
theorem var3_new (w:World) (x y z:Value) (t:TypeId):Var3 (w.alloc (.cells #[x,y,z] t)) w.heap.size x y z:=by
 obtain ⟨⟨a,b,c⟩,⟨d,e,f⟩⟩:=new3 (Q.refl (w.alloc (.cells #[x,y,z] t)))
 exact ⟨a,b,c,d,e,f⟩
end Go.Proofs.YtekdenkllipehabGreatDoor
namespace Go.Proofs.YtekdenkllipehabGreatDoor
structure Found (b t:ByteArray) (done:Nat) (C:List M.St):Prop where
 good:M.Goods C
 le:done≤t.size
 reach:M.reach (M.flat C)≤b.size
 made:M.made (M.flat C) b.data.toList=t.data.toList.take done
theorem Found.tot {b t:ByteArray} {done:Nat} {C:List M.St} (h:Found b t done C):M.tot C=done:=by
 have h1:=M.flat_length h.good
 have h2:(M.made (M.flat C) b.data.toList).length=(M.flat C).length:=by simp [M.made]
 rw [h.made] at h2
 have h3:=h.le
 simp at h2
 omega
theorem Found.start (b t:ByteArray):Found b t 0 []:=⟨M.Goods.nil,Nat.zero_le _,by simp [M.flat,M.reach],by simp [M.flat,M.made]⟩
theorem putsOf_size (s:ByteArray):M.cost (putsOf s)≤s.size+2∨4096<s.size:=by
 by_cases h:4096<s.size
 ·exact Or.inr h
 ·left
  unfold putsOf
  split
  ·simp [M.cost]
  ·rename_i h0
   rw [M.cost_one]
   unfold M.St.cost
   rw [if_neg h0]
   have:=M.enc_two (n:=2*s.size) (by omega)
   simp only;omega
theorem Found.put {b t:ByteArray} {done e:Nat} {C:List M.St} (h:Found b t done C) (he:done≤e) (hl:e≤t.size) (ht:t.size≤4096):Found b t e (C++putsOf (t.extract done e)):=by
 have hz:(t.extract done e).size=e-done:=by simp;omega
 have hlt:t.data.toList.length=t.size:=by simp
 unfold putsOf
 by_cases h0:(t.extract done e).size=0
 ·rw [if_pos h0,List.append_nil]
  have:e=done:=by omega
  subst this
  exact h
 ·rw [if_neg h0]
  have hgood:(⟨t.extract done e,0,(t.extract done e).size⟩:M.St).Good:=Or.inr ⟨h0,rfl,rfl,by simp only;omega⟩
  have hacc:(⟨t.extract done e,0,(t.extract done e).size⟩:M.St).acc=(t.extract done e).data.toList.map UInt8.toNat:=if_neg h0
  refine ⟨h.good.append (M.Goods.one hgood),hl,?_,?_⟩
  ·rw [M.flat_append,M.flat_one,M.reach_append,hacc,M.reach_bytes]
   have:=h.reach
   omega
  ·rw [M.flat_append,M.flat_one,M.made_append,h.made,hacc,M.made_bytes]
   simp only [ByteArray.data_extract,Array.toList_extract,List.extract_eq_take_drop]
   rw [←List.take_add,show done+(e-done)=e by omega]
theorem Found.take {b t:ByteArray} {done place size:Nat} {C:List M.St} (h:Found b t done C) (hs:1≤size) (hp:place+size≤b.size) (hl:done+size≤t.size) (hb:b.size≤4096) (he:(b.data.toList.drop place).take size=(t.data.toList.drop done).take size):Found b t (done+size) (C++[⟨⟨#[]⟩,place,size⟩]):=by
 have hgood:(⟨⟨#[]⟩,place,size⟩:M.St).Good:=Or.inl ⟨rfl,hs,by simp only;omega,by simp only;omega⟩
 have hacc:(⟨⟨#[]⟩,place,size⟩:M.St).acc=M.taken place size:=if_pos rfl
 have hlb:b.data.toList.length=b.size:=by simp
 refine ⟨h.good.append (M.Goods.one hgood),hl,?_,?_⟩
 ·rw [M.flat_append,M.flat_one,M.reach_append,hacc,M.reach_taken _ _ hs]
  have:=h.reach
  omega
 ·rw [M.flat_append,M.flat_one,M.made_append,h.made,hacc,M.made_taken _ _ _ (by omega),he,←List.take_add]
def FindSaid (b t:ByteArray) (C:List M.St):Prop:=Found b t t.size C∧M.cost C≤t.size+2∧(b=t→M.cost C≤6)
structure Short (b t:ByteArray) (done at_:Nat) (C:List M.St):Prop where
 cost:M.cost C≤done
 same:b=t→4≤b.size→(at_=0∧done=0∧C=[])∨(done=t.size∧M.cost C≤6)
theorem cost_taken (place size:Nat):(⟨⟨#[]⟩,place,size⟩:M.St).cost=(M.enc 7 (2*size+1)).length+(M.enc 7 place).length:=if_pos rfl
theorem whole_pays (size:Nat) (h4:4≤size) (hs:size≤4096):(⟨⟨#[]⟩,0,size⟩:M.St).cost+2≤size∧(⟨⟨#[]⟩,0,size⟩:M.St).cost≤6:=by
 rw [cost_taken,M.enc_one (n:=0) (by omega)]
 by_cases h:2*size+1<128
 ·rw [M.enc_one h];omega
 ·have:=M.enc_two (n:=2*size+1) (by omega)
  omega
end Go.Proofs.YtekdenkllipehabGreatDoor
namespace Go.Proofs.YtekdenkllipehabGreatDoor
open Go.RowKit
theorem longest_any (b t:ByteArray) (hb:b.size≤4096) (ht:t.size≤4096) (X done at_:Nat) (hd:done≤at_) (hat:at_+4≤t.size) (w:World) (hI:Indexed w X b) :
  Calls Tryz.prog 186 #[.pointer (some ⟨X,0,none⟩),.string t,.int .i64 (done:Int),.int .i64 (at_:Int)] w fun e w'=>∃ ahead place size:Nat,e=.returned (.tuple #[.int .i64 (ahead:Int),.agg #[.string ⟨#[]⟩,.int .i64 (place:Int),.int .i64 (size:Int)]])∧(Lg b t done at_ ahead place size∧Whole b t done at_ ahead place size)∧Q w w':=by
 obtain ⟨F,N,nb,m,f,g,⟨hnb,hm⟩,hw,hf1⟩:=hI
 have hez:(t.extract at_ t.size).size=t.size-at_:=by simp
 have SC:Hid _:=fun (W:World) (h:W.cell? ⟨X,1,none⟩=some (.int .i64 (nb:Int)))=>slot_any nb hnb X (t.extract at_ t.size) (by omega) W h
 have hsl:slotOf nb (t.extract at_ t.size)<m:=by rw [hm];exact slotOf_lt nb hnb _
 have HF:Hid (b=t→done=0→at_=0→f (slotOf nb (t.extract at_ t.size))=1):=fun e _ e2=>by
  subst e
  subst e2
  rw [show b.extract 0 b.size=b by simp]
  exact hf1 (by omega)
 clear hm hf1
 generalize slotOf nb (t.extract at_ t.size)=sl at *
 obtain ⟨W0,hW0⟩:∃ W0,W0=(w.alloc (.cells #[.string ⟨#[]⟩,.int .i64 0,.int .i64 0] 241)).alloc (.cells #[.string ⟨#[]⟩,.int .i64 0,.int .i64 0] 241):=⟨_,rfl⟩
 have hQ0:Q w W0:=by rw [hW0];exact ((Q.refl w).alloc _ _).alloc _ _
 have hV9:Var3 W0 w.heap.size (.string ⟨#[]⟩) (.int .i64 0) (.int .i64 0):=by rw [hW0];exact (var3_new w _ _ _ _).kept ((Q.refl _).alloc _ _)
 have hV11:Var3 W0 (w.heap.size+1) (.string ⟨#[]⟩) (.int .i64 0) (.int .i64 0):=by
  have:=var3_new (w.alloc (.cells #[.string ⟨#[]⟩,.int .i64 0,.int .i64 0] 241)) (.string ⟨#[]⟩) (.int .i64 0) (.int .i64 0) 241
  rw [World.size_alloc] at this
  rw [hW0];exact this
 have hw0:=hw.kept hQ0
 have s0:=hw0.c2
 have s1:=hw0.cf sl hsl
 have s9:=hw0.c1
 have hslI:(sl:Int)<(m:Int):=by omega
 have hatI:(at_:Int)≤(t.size:Int):=by omega
 have hatN:at_≤t.size:=by omega
 have hdI:(done:Int)≤(at_:Int):=by omega
 rw [hW0] at s0 s1
 have SC2:Hid _:=fun (_:Unit)=>SC.out W0.drew (kept_cell s9 (Q.refl _).drew)
 clear s9
 rw [hW0] at SC2
 go_enter Tryz.func186,Tryz.ntmps186
 go_upto_region 2 with fail
 go_region_held3 (fun w'=>w'.cell? ⟨X,2,none⟩=some (.slice (some ⟨F,0,none⟩) m m)∧w'.cell? ⟨F,sl,none⟩=some (.int .u16 (f sl:Int))) (first | exact ⟨s0,s1⟩ | exact hS4)
  (first | (go_at_call 198;refine (SC2.out ()).mono ?_;rintro e w1 ⟨rfl,q1⟩;have hS4:w1.cell? ⟨X,2,none⟩=some (.slice (some ⟨F,0,none⟩) m m)∧w1.cell? ⟨F,sl,none⟩=some (.int .u16 (f sl:Int)):=⟨kept_cell s0 (q_undrew q1),kept_cell s1 (q_undrew q1)⟩))
 rw [←hW0] at q1
 have hQ1:Q w w1:=hQ0.trans (q_undrew q1)
 have hU9:=hV9.kept (q_undrew q1)
 have hU11:=hV11.kept (q_undrew q1)
 have hfl:=hw.bf sl
 have HFW:Hid (IntKind.i64.wrap (f sl:Int)=(f sl:Int)):=(by rw [IntKind.wrap_i64];omega:IntKind.i64.wrap (f sl:Int)=(f sl:Int))
 clear s0 s1 hS4 SC SC2 hw0 hV9 hV11 hQ0 q1 hW0
 go_wp2_with fail
 have HL0:Hid (Lg b t done at_ 0 0 0):=Lg.start b t done at_ hatN
 have HLo:Hid _:=fun (place back sb:Nat) (hp:place≤b.size)=>Lg.of (b:=b) (t:=t) (done:=done) (at_:=at_) (place:=place) (back:=back) (sb:=sb) hp hd hatN
 have SE:Hid _:=fun (p:Nat) (w':World)=>sameEnd_any (b.extract 0 p) (t.extract done at_) (by simp;omega) (by simp;omega) w'
 have SB:Hid _:=fun (p:Nat) (w':World)=>sameBegin_any (b.extract p b.size) (t.extract at_ t.size) (by simp;omega) (by simp;omega) w'
 go_loopw [10,12,13] (fun ta tk tn wr=>∃ ahead place size link n:Nat,ta=.int .i64 (ahead:Int)∧tk=.int .i64 (link:Int)∧tn=.int .i64 (n:Int)∧link≤b.size∧n≤16∧Q w wr∧Var3 wr w.heap.size (.string ⟨#[]⟩) (.int .i64 0) (.int .i64 0)∧Var3 wr (w.heap.size+1) (.string ⟨#[]⟩) (.int .i64 (place:Int)) (.int .i64 (size:Int))∧Hid (Lg b t done at_ ahead place size)∧Hid (b=t→done=0→at_=0→(n=0∧link=1∧size=0)∨(ahead=0∧place=0∧size=b.size))) (fun _ _ tn _=>16-(intOf tn).toNat)
 case atStart=>exact ⟨0,0,0,f sl,0,rfl,congrArg (Value.int .i64) HFW.out,rfl,hfl,by omega,hQ1,hU9,hU11,HL0,(fun e1 e2 e3=>Or.inl ⟨rfl,HF.out e1 e2 e3,rfl⟩:b=t→done=0→at_=0→(0=0∧f sl=1∧0=0)∨(0=0∧0=0∧0=b.size))⟩
 case round =>
  obtain ⟨ahead,place0,size0,link,n,rfl,rfl,rfl,hlk,hn16,hq,hv9,hv11,hlg,hwh⟩:=hrel
  by_cases hgo:0<link∧n<16
  ·obtain ⟨hl0,hn⟩:=hgo
   obtain ⟨p,hp⟩:∃ p,link=p+1:=⟨link-1,by omega⟩
   have hpb:p<b.size:=by omega
   have hlI:(link:Int)-1=(p:Int):=by omega
   have HP:Hid (link=p+1):=hp
   clear hp
   have hwr:=hw.kept hq
   have s1:=hwr.c0
   have hpI:(p:Int)≤(b.size:Int):=by omega
   have SEp:Hid _:=fun (_:Unit)=>SE.out p wr.drew
   have hl0I:(0:Int)<(link:Int):=by omega
   have hnI:(n:Int)<16:=by omega
   go_upto_region 7 with fail
   go_region_held3 (fun w'=>w'.cell? ⟨X,0,none⟩=some (.string b)) (first | exact s1 | exact hS4)
    (first | (go_at_call 199;refine (SEp.out ()).mono ?_;rintro e w2 ⟨back,rfl,⟨k1,k2,k3⟩,q2⟩;have hS4:w2.cell? ⟨X,0,none⟩=some (.string b):=kept_cell s1 (q_undrew q2)))
   have K3:Hid _:=k3
   have K1:Hid _:=k1
   have K2:Hid _:=k2
   have SBp:Hid _:=fun (_:Unit)=>SB.out p w2.drew
   have hbk:back≤4096:=by have h1:=k1;simp at h1;omega
   clear k1 k2 k3 SEp
   go_upto_region 8 with fail
   go_region_held3 (fun w'=>w'.cell? ⟨X,0,none⟩=some (.string b)) (first | exact hS4 | exact hS5)
    (first | (go_at_call 171;refine (SBp.out ()).mono ?_;rintro e w3 ⟨sb,rfl,⟨m1,m2,m3,m4⟩,q3⟩;have hS5:w3.cell? ⟨X,0,none⟩=some (.string b):=kept_cell hS4 (q_undrew q3);have hsb:sb≤4096:=(by have h1:=m1;simp at h1;omega);have hws:IntKind.i64.wrap ((back:Int)+(sb:Int))=(back:Int)+(sb:Int):=(by rw [IntKind.wrap_i64];omega)))
   obtain ⟨hnew,hbp⟩:=HLo.out p back sb (by omega) K1.out K2.out K3.out m1 m2 m3
   have hqs:Q wr w3:=(q_undrew q2).trans (q_undrew q3)
   have hv9':=hv9.kept hqs
   have hv11':=hv11.kept hqs
   have hwr3:=hwr.kept hqs
   have hq3:=hq.trans hqs
   have u2:=hv11'.c2
   have gn:=hwr3.c3
   have gp:=hwr3.cg p hpb
   have hgp:=hwr3.bg p
   have hpI2:(p:Int)<(b.size:Int):=by omega
   have HNew:Hid _:=hnew
   have HM4:Hid _:=m4
   have hz0:=hlg.out.h3
   have hz1:=hnew.h3
   clear s1 hS4 hS5 q2 q3 hv9 hv11 hwr hq m1 m2 m3 m4 hnew hqs
   by_cases hgt:size0<back+sb
   ·have hgtI:(size0:Int)<(back:Int)+(sb:Int):=by omega
    have TS:Hid _:=takeStep_any ((p:Int)-(back:Int)) ((back:Int)+(sb:Int))
    have hpbI:(0:Int)≤(p:Int)-(back:Int):=by omega
    have HWn:Hid (b=t→done=0→at_=0→(n+1=0∧g p=1∧back+sb=0)∨(back=0∧p-back=0∧back+sb=b.size)):=fun e1 e2 e3=>Or.inr (by
     have h5:=HNew.out.h1
     have h6:=HNew.out.h4
     rcases hwh.out e1 e2 e3 with ⟨_,hlk1,_⟩|⟨_,_,hsz⟩
     ·have hp1:=HP.out
      have hp0:p=0:=by omega
      have hm:=HM4.out (by rw [hp0,e3,e1])
      rw [hp0] at hm
      have:(b.extract 0 b.size).size=b.size:=by simp
      omega
     ·have:t.size=b.size:=by rw [e1]
      omega)
    go_wp2_with fail
    refine (TS.out _).mono ?_
    rintro e w4 ⟨rfl,q4⟩
    have hy9:=hv9'.kept q4
    have hy11:=hv11'.kept q4
    have y0:=hy11.c0
    have y1:=hy11.c1
    have y2:=hy11.c2
    have y3:=hy11.f0
    have y4:=hy11.f1
    have y5:=hy11.f2
    have hset:=hy11.set (.string ⟨#[]⟩) (.int .i64 ((p:Int)-(back:Int))) (.int .i64 ((back:Int)+(sb:Int)))
    have hset9:=hy9.other (C:=w.heap.size+1) (by omega) (.string ⟨#[]⟩) (.int .i64 ((p:Int)-(back:Int))) (.int .i64 ((back:Int)+(sb:Int)))
    have hq5:=(hq3.trans q4).set3 (B:=w.heap.size+1) (by omega) (.string ⟨#[]⟩) (.int .i64 ((p:Int)-(back:Int))) (.int .i64 ((back:Int)+(sb:Int)))
    have hwr5:=hw.kept hq5
    have gn5:=hwr5.c3
    have gp5:=hwr5.cg p hpb
    clear hv9' hv11' hwr3 hq3 u2 gn gp q4 hy9 hy11
    go_wp2_with fail
    go_roundw
    case rel=>exact ⟨back,p-back,back+sb,g p,n+1,by go_num,by go_num,by go_num,hgp,by omega,hq5,hset9,by rw [show ((p-back:Nat):Int)=(p:Int)-(back:Int) by omega,show ((back+sb:Nat):Int)=(back:Int)+(sb:Int) by omega];exact hset,HNew,HWn⟩
    case measure=>simp [intOf];omega
   ·have hgtI:(back:Int)+(sb:Int)≤(size0:Int):=by omega
    have HWn:Hid (b=t→done=0→at_=0→(n+1=0∧g p=1∧size0=0)∨(ahead=0∧place0=0∧size0=b.size)):=fun e1 e2 e3=>Or.inr (by
     rcases hwh.out e1 e2 e3 with ⟨_,hlk1,hs0⟩|h
     ·have hp1:=HP.out
      have hp0:p=0:=by omega
      have hm:=HM4.out (by rw [hp0,e3,e1])
      rw [hp0] at hm
      have:(b.extract 0 b.size).size=b.size:=by simp
      have:t.size=b.size:=by rw [e1]
      omega
     ·exact h)
    go_wp2_with fail
    go_roundw
    case rel=>exact ⟨ahead,place0,size0,g p,n+1,by go_num,by go_num,by go_num,hgp,by omega,hq3,hv9',hv11',hlg,HWn⟩
    case measure=>simp [intOf];omega
  ·have HWh:Hid (Whole b t done at_ ahead place0 size0):=fun e1 e2 e3=>by
    rcases hwh.out e1 e2 e3 with ⟨h1,h2,_⟩|h
    ·exact absurd ⟨by omega,by omega⟩ hgo
    ·exact h
   by_cases hl0:link=0
   ·subst hl0
    clear hwh hgo
    have z0:=hv11.c0
    have z1:=hv11.c1
    have z2:=hv11.c2
    have y0:=hv9.c0
    have y1:=hv9.c1
    have y2:=hv9.c2
    have y3:=hv9.f0
    have y4:=hv9.f1
    have y5:=hv9.f2
    have hset:=hv9.set (.string ⟨#[]⟩) (.int .i64 (place0:Int)) (.int .i64 (size0:Int))
    have k0:=hset.c0
    have k1:=hset.c1
    have k2:=hset.c2
    have hq5:=hq.set3 (B:=w.heap.size) (Nat.le_refl _) (.string ⟨#[]⟩) (.int .i64 (place0:Int)) (.int .i64 (size0:Int))
    clear hv9 hv11
    go_wp2_with fail
    go_region
    all_goals
     go_wp2_with fail
     refine bodyPost_ret (v:=.tuple #[.int .i64 (ahead:Int),.agg #[.string ⟨#[]⟩,.int .i64 (place0:Int),.int .i64 (size0:Int)]]) (by simp [results,Tryz.results186,go_sem,k0,k1,k2]) rfl ?_
     exact ⟨ahead,place0,size0,rfl,⟨hlg.out,HWh.out⟩,hq5.trans (Q.refl _).drew⟩
   ·have hl1:0<link:=by omega
    have hn1:n=16:=by omega
    have hl1I:(0:Int)<(link:Int):=by omega
    subst hn1
    clear hwh hgo
    have z0:=hv11.c0
    have z1:=hv11.c1
    have z2:=hv11.c2
    have y0:=hv9.c0
    have y1:=hv9.c1
    have y2:=hv9.c2
    have y3:=hv9.f0
    have y4:=hv9.f1
    have y5:=hv9.f2
    have hset:=hv9.set (.string ⟨#[]⟩) (.int .i64 (place0:Int)) (.int .i64 (size0:Int))
    have k0:=hset.c0
    have k1:=hset.c1
    have k2:=hset.c2
    have hq5:=hq.set3 (B:=w.heap.size) (Nat.le_refl _) (.string ⟨#[]⟩) (.int .i64 (place0:Int)) (.int .i64 (size0:Int))
    clear hv9 hv11
    go_wp2_with fail
    go_region
    all_goals
     go_wp2_with fail
     refine bodyPost_ret (v:=.tuple #[.int .i64 (ahead:Int),.agg #[.string ⟨#[]⟩,.int .i64 (place0:Int),.int .i64 (size0:Int)]]) (by simp [results,Tryz.results186,go_sem,k0,k1,k2]) rfl ?_
     exact ⟨ahead,place0,size0,rfl,⟨hlg.out,HWh.out⟩,hq5.trans (Q.refl _).drew⟩
end Go.Proofs.YtekdenkllipehabGreatDoor
