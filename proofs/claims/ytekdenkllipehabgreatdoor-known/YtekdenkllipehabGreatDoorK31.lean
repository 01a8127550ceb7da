import Derived.Test.YtekdenkllipehabGreatDoorK28
import Derived.Test.YtekdenkllipehabGreatDoorK29
import Derived.Test.YtekdenkllipehabGreatDoorK30
set_option maxRecDepth 100000
set_option maxHeartbeats 8000000
namespace Go.Proofs.YtekdenkllipehabGreatDoor
open Go.RowKit
namespace S
theorem bef_last {b:List Rec} (ho:b.Pairwise Bef) (hne:b≠[]) {r:Rec} (hr:r∈b):r=lastRec b∨Bef r (lastRec b):=by
 have e:b=b.dropLast++[b.getLast hne]:=(List.dropLast_concat_getLast hne).symm
 have el:lastRec b=b.getLast hne:=by
  unfold lastRec
  rw [List.getLast?_eq_some_getLast hne]
  rfl
 rw [el]
 rw [e,List.pairwise_append] at ho
 rw [e] at hr
 rcases List.mem_append.1 hr with h|h
 ·exact Or.inr (by simpa using ho.2.2 r h _ (List.mem_singleton.2 rfl))
 ·exact Or.inl (by simpa using h)
theorem fore_all {b:List Rec} (ho:b.Pairwise Bef) (hne:b≠[]) {k:ByteArray} {t:Int} (h:Fore (lastRec b) k t):∀ r∈b,Fore r k t:=fun r hr=>by
 rcases bef_last ho hne hr with e|e
 ·rw [e];exact h
 ·exact Fore.of_bef e h
theorem cmp_fore {p:Nat} {b:List Rec} (hb:OkB b) (k:ByteArray) (t:Int):cmpE (entOf p b).key (entOf p b).stamp k t<0↔Fore (lastRec b) k t:=by
 have hf:=hb.fits _ (lastRec_mem hb.some_)
 have h0:0≤(lastRec b).stamp:=by
  simp [Rec.fits] at hf
  omega
 rw [cmpE_neg]
 unfold Fore entOf
 simp only
 rw [Int.toNat_of_nonneg h0]
theorem place:∀ (bs:List (List Rec)) (at_:Nat) (k:ByteArray) (t:Int),(∀ b∈bs,OkB b)→(bs.flatten).Pairwise Bef →
  ∃ m,PartAt (entsOf at_ bs) k t m∧(m=bs.length→∀ r∈bs.flatten,Fore r k t)∧(∀ b,bs[m]?=some b→(∀ r∈(bs.take m).flatten,Fore r k t)∧∃ r∈b,¬Fore r k t)
 | [],at_,k,t,_,_=>⟨0,⟨Nat.zero_le _,fun i e h=>absurd h (Nat.not_lt_zero _),fun i e _ h=>by simp [entsOf] at h⟩,fun _ r hr=>by simp at hr,fun b hb=>by simp at hb⟩
 | b::bs,at_,k,t,hok,ho=>by
  have hb:=hok b (by simp)
  rw [List.flatten_cons,List.pairwise_append] at ho
  by_cases h:Fore (lastRec b) k t
  ·obtain ⟨m,hm,h1,h2⟩:=place bs (at_+(blkText b).length) k t (fun x hx=>hok x (by simp [hx])) ho.2.1
   have hall:=fore_all hb.ord hb.some_ h
   refine ⟨m+1,⟨?_,?_,?_⟩,?_,?_⟩
   ·simp only [entsOf,List.length_cons]
    have:=hm.le
    omega
   ·intro i e hi he
    cases i with
    | zero =>
     simp [entsOf] at he
     subst he
     exact (cmp_fore hb k t).2 h
    | succ i =>
     rw [entsOf,List.getElem?_cons_succ] at he
     exact hm.lo i e (by omega) he
   ·intro i e hi he
    cases i with
    | zero=>omega
    | succ i =>
     rw [entsOf,List.getElem?_cons_succ] at he
     exact hm.hi i e (by omega) he
   ·intro e r hr
    rw [List.flatten_cons] at hr
    rcases List.mem_append.1 hr with hr|hr
    ·exact hall r hr
    ·exact h1 (by simpa using e) r hr
   ·intro c hc
    rw [List.getElem?_cons_succ] at hc
    obtain ⟨g1,g2⟩:=h2 c hc
    refine ⟨fun r hr=>?_,g2⟩
    rw [List.take_succ_cons,List.flatten_cons] at hr
    rcases List.mem_append.1 hr with hr|hr
    ·exact hall r hr
    ·exact g1 r hr
  ·refine ⟨0,⟨Nat.zero_le _,fun i e h=>absurd h (Nat.not_lt_zero _),?_⟩,fun e=>by simp at e,fun c hc=>?_⟩
   ·intro i e _ he
    have hi:i<(b::bs).length:=by
     have:=(List.getElem?_eq_some_iff.1 he).1
     rwa [entsOf_length] at this
    obtain ⟨c,hc⟩:∃ c,(b::bs)[i]?=some c:=⟨_,List.getElem?_eq_getElem hi⟩
    obtain ⟨p,hp,_⟩:=entsOf_at (at_:=at_) hc
    rw [hp] at he
    obtain rfl:=Option.some.inj he
    have hcm:=List.mem_of_getElem? hc
    rw [cmp_fore (hok c hcm)]
    intro hf
    apply h
    cases i with
    | zero =>
     simp at hc
     subst hc
     exact hf
    | succ i =>
     rw [List.getElem?_cons_succ] at hc
     have hcb:=List.mem_of_getElem? hc
     have hl:=lastRec_mem (hok c hcm).some_
     exact Fore.of_bef (ho.2.2 _ (lastRec_mem hb.some_) _ (List.mem_flatten.2 ⟨c,hcb,hl⟩)) hf
   ·simp at hc
    subst hc
    exact ⟨fun r hr=>by simp at hr,_,lastRec_mem hb.some_,h⟩
end S
structure LaidAs (bad:Prop) (bl:ByteArray) (bs:List (List Rec)):Prop where
 size:bl.size=(S.blkOf bs).length
 each:∀ (i:Nat) (b:List Rec) (p:Nat),bs[i]?=some b→p=(S.blkOf (bs.take i)).length→(bl.extract p (p+(S.blkText b).length)).data.toList=S.blkText b∨(bad∧∀ rs T,rs≠[]→plainText rs=some T→sealText T≠bl.extract p (p+(S.blkText b).length))
theorem S.blkOf_take_le (bs:List (List Rec)) {i:Nat} {b:List Rec} (h:bs[i]?=some b):(S.blkOf (bs.take i)).length+(S.blkText b).length≤(S.blkOf bs).length:=by
 have hi:i<bs.length:=(List.getElem?_eq_some_iff.1 h).1
 have hb:bs[i]=b:=(List.getElem?_eq_some_iff.1 h).2
 have e:bs=bs.take i++b::bs.drop (i+1):=by rw [←hb,List.getElem_cons_drop,List.take_append_drop]
 have e2:S.blkOf bs=S.blkOf (bs.take i)++(S.blkText b++S.blkOf (bs.drop (i+1))):=by
  have:=congrArg S.blkOf e
  rw [S.blkOf_append] at this
  rw [this]
  simp [S.blkOf]
 rw [e2]
 simp
theorem LaidAs.whole (bad:Prop) (bs:List (List Rec)):LaidAs bad ⟨(S.blkOf bs).toArray⟩ bs:=by
 refine ⟨by simp [ByteArray.size],fun i b p hi hp=>Or.inl ?_⟩
 have h:=S.blk_cut hi
 rw [ByteArray.data_extract]
 simp only [List.extract_toArray,List.extract_eq_take_drop,Nat.add_sub_cancel_left]
 rw [hp]
 exact h
def BlkAns (bad:Prop) (b:List Rec) (w:World) (e:Ending) (w':World):Prop:=
 (∃ ao cap base,e=.returned (.tuple #[.slice ao b.length cap,.int .i64 0])∧w.heap.size≤base∧w'.ownsRow base 62 4 (.slice ao b.length cap) b.length (recCells b))
 ∨ (bad∧e=.returned (.tuple #[.slice none 0 0,.int .i64 3]))
theorem layBlock_as {bad:Prop} {bl:ByteArray} {bs:List (List Rec)} (hL:LaidAs bad bl bs) (hb:bl.size≤1048576) (hok:∀ b∈bs,S.OkB b) (wm:Int) (ao:Option Addr) (cap:Nat) (i:Nat) (b:List Rec) (hi:bs[i]?=some b) (hl:bs.length≤1048576) (w:World) (hE:EntsAt w ao (S.entsOf 0 bs)) (hT:Tab w) :
  Calls Tryz.prog 63 #[layVal wm bl ao bs.length cap,.int .i64 (i:Int)] w fun e w'=>BlkAns bad b w e w'∧Q w w':=by
 obtain ⟨p,hp,hpe⟩:=S.entsOf_at (at_:=0) hi
 rw [Nat.zero_add] at hpe
 have hle:=S.blkOf_take_le bs hi
 have h:=layBlock wm bl hb (S.entsOf 0 bs) ao cap i _ hp (Nat.le_add_right _ _) (by rw [hL.size,hpe];exact hle) (by rw [S.entsOf_length];exact hl) w hE hT
 rw [S.entsOf_length] at h
 refine h.mono ?_
 rintro e w' ⟨hB,q⟩
 refine ⟨?_,q⟩
 rcases hL.each i b p hi hpe with h|⟨h1,h2⟩
 ·exact Or.inl (blkSaid_ok (hok b (List.mem_of_getElem? hi)) h hB)
 ·rcases hB with ⟨rs,T,ao',cap',base,hne,hp',hs,_⟩|⟨he,_⟩
  ·exact absurd hs (h2 rs T hne hp')
  ·exact Or.inr ⟨h1,he⟩
def badEnd:Ending:=.returned (.tuple #[.string ⟨#[]⟩,.bool false,.int .i64 3])
theorem layValueAt {bad:Prop} {bl:ByteArray} {bs:List (List Rec)} {C:S.Con} (hL:LaidAs bad bl bs) (hb:bl.size≤1048576) (hF:S.Fil theAp bs C) (hl:bs.length≤1048576) (wm:Int) (ao:Option Addr) (cap:Nat) (key:ByteArray) (t:Int) (w:World) (hE:EntsAt w ao (S.entsOf 0 bs)) (hT:Tab w) :
  Calls Tryz.prog 75 #[layVal wm bl ao bs.length cap,.string key,.int .i64 t] w fun e w'=>(e=toldEnd (S.firstAt (C key) t)∨(bad∧e=badEnd))∧Q w w':=by
 obtain ⟨m,hm,h1,h2⟩:=S.place bs 0 key t hF.ok hF.ord
 have hml:m≤bs.length:=by rw [←S.entsOf_length 0 bs];exact hm.le
 have SB:Hid _:=fun (W:World) (q:Q w W)=>bsFunc (S.entsOf 0 bs) (by rw [S.entsOf_length];exact hl) key t m hm ao cap W (hE.kept q)
 rw [S.entsOf_length] at SB
 by_cases he:m=bs.length
 ·have hnone:toldEnd (S.firstAt (C key) t)=.returned (.tuple #[.string ⟨#[]⟩,.bool false,.int .i64 0]):=by
   rw [S.getAt_none (hF.holds key) (h1 he)]
   rfl
  rw [hnone]
  clear hnone h1 h2 hm hE hF hL hml
  subst he
  unfold layVal
  go_enter Tryz.func75,Tryz.ntmps75
  go_wp2_with fail
  have hV0:=varN_new w [.int .i64 wm,.string bl,.slice ao bs.length cap] 124
  refine (SB.out _ ((Q.refl w).alloc _ _)).mono ?_
  rintro e w1 ⟨⟨bb,rfl⟩,q1⟩
  have q1':Q w w1:=((Q.refl w).alloc _ _).trans q1
  have m2:=(hV0.kept q1).cell 2 rfl
  clear SB q1 hV0
  go_wp2_with fail
  go_ret3
  exact ⟨Or.inl rfl,q1'⟩
 ·obtain ⟨b,hbm⟩:∃ b,bs[m]?=some b:=⟨_,List.getElem?_eq_getElem (by omega)⟩
  obtain ⟨g1,g2⟩:=h2 b hbm
  have hbok:=hF.ok b (List.mem_of_getElem? hbm)
  have hsplit:bs=bs.take m++b::bs.drop (m+1):=by
   obtain ⟨hi,hbe⟩:=List.getElem?_eq_some_iff.1 hbm
   rw [←hbe,List.getElem_cons_drop,List.take_append_drop]
  have hord:=hF.ord
  have hH:=hF.holds key
  rw [hsplit] at hord hH
  obtain ⟨U,hU,hUe⟩:=S.getAt_block hord hH g1 g2
  obtain ⟨e0,hrun⟩:=hU ⟨#[]⟩
  rw [hUe]
  have SL:Hid _:=fun (W:World) (q:Q w W)=>layBlock_as hL hb hF.ok wm ao cap m b hbm hl W (hE.kept q) (tab_kept hT q)
  have SV:Hid _:=fun (ao':Option Addr) (cap':Nat) (W:World) (h:Rcs W ao' b)=>valueAt_any b (Nat.le_trans hbok.few (by omega)) hbok.fits key t U e0 hrun ao' cap' W h
  have hmlI:¬(m:Int)=(bs.length:Int):=by omega
  have hmlb:((m:Int) == (bs.length:Int))=false:=by rw [beq_eq_false_iff_ne];exact hmlI
  clear hUe hrun hU hord hH hsplit hbok g1 g2 hbm h1 h2 hm hE hF hL hml
  unfold layVal at *
  go_enter Tryz.func75,Tryz.ntmps75
  go_wp2_with fail
  have hV0:=varN_new w [.int .i64 wm,.string bl,.slice ao bs.length cap] 124
  refine (SB.out _ ((Q.refl w).alloc _ _)).mono ?_
  rintro e w1 ⟨⟨bb,rfl⟩,q1⟩
  have q1':Q w w1:=((Q.refl w).alloc _ _).trans q1
  have hV1:=hV0.kept q1
  have m0:=hV1.cell 0 rfl
  have m1:=hV1.cell 1 rfl
  have m2:=hV1.cell 2 rfl
  clear SB q1 hV0
  go_wp2_with fail
  refine (SL.out _ q1').mono ?_
  rintro e w2 ⟨hB,q2⟩
  have q2':=q1'.trans q2
  clear SL q2
  rcases hB with ⟨ao',cap',base,rfl,hbase,hown⟩|⟨hbad,rfl⟩
  ·have hR:Rcs w2 ao' b:=own_rcs hown
   clear hown
   have SV2:Hid _:=fun (W:World) (q:Q w2 W)=>SV.out ao' cap' W (hR.kept q)
   clear SV hR
   go_wp2_with fail
   refine (SV2.out _ (Q.refl w2)).mono ?_
   rintro e w3 ⟨rfl,q3⟩
   unfold toldEnd
   go_wp2_with fail
   go_ret3
   exact ⟨Or.inl rfl,q2'.trans q3⟩
  ·clear SV
   go_wp2_with fail
   go_ret3
   exact ⟨Or.inr ⟨hbad,rfl⟩,q2'⟩
end Go.Proofs.YtekdenkllipehabGreatDoor
